/- What PictureStill reaches of my texts, part 7. -/
import Derived.Test.YtknjpdcpmpfklaaGreatDoorPictureStillF
set_option maxRecDepth 100000
set_option maxHeartbeats 4000000
set_option maxRecDepth 100000
namespace Go.Proofs.YtknjpdcpmpfklaaGreatDoor
open Go.RowKit
theorem Md.of_eq{w:World}{T:Nat->Prop}{v:Value}{l m:List Nat}(e:m=l)(h:Md w T v l):Md w T v m:=e ▸ h
theorem UA{f:FD}{p:Int}(h:0<(Lc f p).2):(Lc f p).1≠0:=by
 by_cases hk:PD f/\0<=p/\p<=2
 ·have:=(NW hk);omega
 ·rw[Qa hk] at h;exact absurd h (by decide)
theorem aE3(p x y:Int)(b:Nat->Int)(f:FD)(f0 f1 f2:Value)(T_f0:Nat->Prop)(T_f1:Nat->Prop)(T_f2:Nat->Prop)(w0:World)(h_f0:Mv w0 T_f0 f0 ((f).p0))(h_f1:Mv w0 T_f1 f1 ((f).p1))(h_f2:Mv w0 T_f2 f2 ((f).p2)) :
  Calls Tryz.prog 43 #[.agg #[.int .i64 ((f).W),.int .i64 ((f).H),f0,f1,f2],.int .i64 (p),.int .i64 (x),.int .i64 (y),LW (b)] w0 fun e w'=>∃ (v1:Value) (T1:Nat->Prop) (v2:Value) (T2:Nat->Prop) (v3:Value) (T3:Nat->Prop),e = .returned (.agg #[.int .i64 ((Qd f p x y b).W),.int .i64 ((Qd f p x y b).H),v1,v2,v3])/\KR (fun _=>False) w0 w'/\(Md w' T1 v1 ((Qd f p x y b).p0)/\KS w0 Mb T1)/\(Md w' T2 v2 ((Qd f p x y b).p1)/\KS w0 Mb T2)/\(Md w' T3 v3 ((Qd f p x y b).p2)/\KS w0 Mb T3)/\KO T1 T2/\KO T1 T3/\KO T2 T3:=by
 refine Ly (args:=[.agg #[iv (f.W),iv (f.H),f0,f1,f2],iv p,iv x,iv y,LW b]) 55 Tryz.func43 rfl rfl (Nat.le_of_ble_eq_true rfl) ?_
 have hnx:=Vl x
 have hny:=Vl y
 have hsb:=NF f p
 have g_f0:=KS.refl w0 T_f0
 have g_f1:=KS.refl w0 T_f1
 have g_f2:=KS.refl w0 T_f2
 refine KM (KL (LJ (vs:=[iv (f.W),iv (f.H),f0,f1,f2]) rfl rfl rfl rfl fun p1 w2 B4 g5 k3=>?_))
 obtain⟨dX,dY,dZ⟩:=Od k3 h_f0 h_f1 h_f2
 refine Ny rfl rfl rfl rfl fun an jt cA d8 cB=>?_
 have d9:=L7 (Nat.le_of_eq cA.symm)
 clear cA d9
 obtain⟨eb,ee,eh,ei⟩:=Pg cB dX dY dZ B4
 have cC:=((KR.refl (fun _=>False) w0).tr k3).tr cB
 refine LN (n:=5) (vs:=[iv 0,iv 0,.slice none 0 0,.slice none 0 0,.slice none 0 0]) rfl rfl rfl (by kernel_rfl) fun ao bQ bR en cD=>?_
 obtain⟨bq,bt,bu,bv,bS⟩:=O6 cD eb ee eh ei d8
 have bT:=cC.tr cD
 refine KQ ?_
 have cE:=K4 (iv p)
 have eo:=K4 (iv x)
 have ep:=K4 (iv y)
 have er:=K4 (undef)
 have et:=K4 (pt p1 0)
 have eu:=K4 (pt an 0)
 have ew:=K4 (pt ao 0)
 refine KK (KM (KL (KN (.agg #[iv (f.W),iv (f.H),f0,f1,f2]) rr (KX La rfl et bv rr) (LH (R:=fun v_ w_=>∃ (af:Value) (aI:Nat->Prop) (ah:Value) (aJ:Nat->Prop) (ai:Value) (aK:Nat->Prop),.agg #[iv ((Nj f).W),iv ((Nj f).H),af,ah,ai]=v_/\KR (fun _=>False) bQ w_/\(Md w_ aI af ((Nj f).p0)/\KS bQ Mb aI)/\(Md w_ aJ ah ((Nj f).p1)/\KS bQ Mb aJ)/\(Md w_ aK ai ((Nj f).p2)/\KS bQ Mb aK)/\KO aI aJ/\KO aI aK/\KO aJ aK) rfl rfl (LQ rfl rfl rfl (fun _ _=>by kernel_rfl) (K6 _) (Lo rfl L5) (aDC f f0 f1 f2 T_f0 T_f1 T_f2 _  bq bt bu ) (fun e_ w_ h_=>by obtain⟨v56_,T61_,v57_,T62_,v58_,T63_,he_,hr_⟩:=h_;exact⟨_,he_,v56_,T61_,v57_,T62_,v58_,T63_,rfl,hr_⟩)) ?_))))
 rintro _ ju ⟨af,aI,ah,aJ,ai,aK,rfl,cF,⟨cG,cH⟩,⟨cI,cJ⟩,⟨cK,cL⟩,ex,ey,ez⟩
 obtain⟨cM,cN,cO,cP,cQ,cR⟩:=Qh cF bq bt bu bv bS bR
 have cS:=bT.tr cF
 obtain⟨eA,eB,eC,eD,eE,eF⟩:=WS cH bq bt bu bv bS bR
 obtain⟨eG,eH,eI,eJ,eK,eL⟩:=WS cJ bq bt bu bv bS bR
 obtain⟨eM,eN,eO,eP,eQ,eR⟩:=WS cL bq bt bu bv bS bR
 refine LN (n:=5) (vs:=[iv 0,iv 0,.slice none 0 0,.slice none 0 0,.slice none 0 0]) rfl rfl rfl (by kernel_rfl) fun aa jv eS cT cU=>?_
 obtain⟨eT,eU,eV,eW,eX,eY,cV,cW,cX⟩:=aGw cT cM cN cO cP cQ cR cG cI cK
 obtain⟨eZ,e6,e7,e8,e9,fa,cY,cZ,c5⟩:=aA9 cU cM cN cO cP cQ cR cG cI cK
 refine Ll (us:=[iv ((Nj f).W),iv ((Nj f).H),af,ah,ai]) La rfl rfl rfl rfl rfl eS rfl (Qc rr (L4 cY.one (L4 cZ.one (L4 c5.one MX)))) fun jw c6 ap=>?_
 have fb:=eZ.all ap eT.symm
 have fc:=e6.all ap eU.symm
 have fd:=e7.all ap eV.symm
 have fe:=e8.all ap (eW.symm p1 rfl)
 have ff:=e9.all ap (eX.symm an rfl)
 have fg:=fa.all ap (eY.symm ao rfl)
 have c7:=cY.all ap cV.symm
 have c9:=cZ.all ap cW.symm
 have da:=c5.all ap cX.symm
 refine KQ ?_
 have db:=K4 (pt aa 0)
 refine KK (KM (KL (KN (.agg #[iv ((Nj f).W),iv ((Nj f).H),af,ah,ai]) rr (KX La rfl db c6 rr) (K2 Lw cE (L9 rfl rfl rfl rfl rfl (fun _ _=>by kernel_rfl) (Lo rfl (Lo rfl L5)) (Uh p (Nj f) af ah ai aI aJ aK _  c7.byt c9.byt da.byt ) fun jx dc=>?_)))))
 obtain⟨fh,fi,fj,fk,fm,fo,fp,fq,ft,fu⟩:=Uo dc fb fc fd fe ff fg c7 c9 da c6
 refine KN (.tuple #[iv ((Lc (Nj f) p).1),iv ((Lc (Nj f) p).2)]) rr (KT rfl rfl rr) (KN (iv ((Lc (Nj f) p).1)) rr (LY rfl rfl rfl rr) (KN (iv ((Lc (Nj f) p).2)) rr (LY rfl rfl rfl rr) (Lb (iv ((Lc (Nj f) p).1)) LE (Lb (iv ((Lc (Nj f) p).2)) LE (PQ fun bU bV=>?_)))))
 obtain⟨fw,fx,fy,fA,fB,fC,fD⟩:=t7 bV 1 cE 2 eo 3 ep 55 er 9 eu 10 ew 11 db
 have fE:bU 12=iv ((Lc (Nj f) p).1):=(bV 12).trans rfl
 have fF:bU 13=iv ((Lc (Nj f) p).2):=(bV 13).trans rfl
 clear bV
 refine KK (KM ?_)
 have fG:bU 12=iv ((Lc f p).1):=fE.trans (congrArg (Value.int .i64) (congrArg Prod.fst (XU f p)))
 have fH:bU 13=iv ((Lc f p).2):=fF.trans (congrArg (Value.int .i64) (congrArg Prod.snd (XU f p)))
 refine KL (K2 Lw fx (L9 rfl rfl rfl rfl rfl (fun _ _=>by kernel_rfl) (Lo rfl L5) (azJ x  _   ) fun jz dd=>?_))
 obtain⟨fI,fJ,fK,fL,fM,fN,fO,fP,fQ,fR⟩:=Uo dd fh fi fj fk fm fo fp fq ft fu
 refine K2 Lw fy (L9 rfl rfl rfl rfl rfl (fun _ _=>by kernel_rfl) (Lo rfl L5) (azJ y  _   ) fun jA de=>?_)
 obtain⟨fS,fT,fU,fV,fW,fX,fY,fZ,f5,f7⟩:=Uo de fI fJ fK fL fM fN fO fP fQ fR
 refine Lb (iv (LU x)) LE (Lb (iv (LU y)) LE (KQ ?_))
 have f8:=K4 (iv (LU x))
 have f9:=K4 (iv (LU y))
 refine KK (KM (KM (KL (KN (iv 0) rr (KT rfl rfl rr) (KQ ?_)))))
 have ga:=K4 (iv 0)
 refine KK (Lm (M8 (fun nn FF ww=>∃ (i:Nat),∃ (ab:Nat->Prop),∃ (ac:Nat->Prop),∃ (ae:Nat->Prop),(i<=4)/\nn=4-i/\FF 1=iv p/\FF 2=iv (LU x)/\FF 3=iv (LU y)/\FF 9=pt an 0/\FF 10=pt ao 0/\FF 11=pt aa 0/\FF 12=iv ((Lc f p).1)/\FF 13=iv ((Lc f p).2)/\FF 55=undef/\FF 28=iv ((i:Nat):Int)/\KR (fun _=>False) w0 ww/\Mv ww T_f0 f0 (f.p0)/\Mv ww T_f1 f1 (f.p1)/\Mv ww T_f2 f2 (f.p2)/\MJ ww p1 29 [iv (f.W),iv (f.H),f0,f1,f2]/\Of ww an 69 b/\MJ ww ao 29 [iv 0,iv 0,.slice none 0 0,.slice none 0 0,.slice none 0 0]/\Md ww ab af ((MU f p x y b (4*i)).p0)/\Md ww ac ah ((MU f p x y b (4*i)).p1)/\Md ww ae ai ((MU f p x y b (4*i)).p2)/\MJ ww aa 29 [iv ((Nj f).W),iv ((Nj f).H),af,ah,ai]/\KS w0 Mb ab/\KS w0 Mb ac/\KS w0 Mb ae/\KO ab T_f0/\KO ab T_f1/\KO ab T_f2/\KO ab (Lh p1)/\KO ab (Lh an)/\KO ab (Lh ao)/\KO ab ac/\KO ab ae/\KO ab (Lh aa)/\KO ac T_f0/\KO ac T_f1/\KO ac T_f2/\KO ac (Lh p1)/\KO ac (Lh an)/\KO ac (Lh ao)/\KO ac ae/\KO ac (Lh aa)/\KO ae T_f0/\KO ae T_f1/\KO ae T_f2/\KO ae (Lh p1)/\KO ae (Lh an)/\KO ae (Lh ao)/\KO ae (Lh aa)) (4-0) ⟨0,aI,aJ,aK,by omega,rfl,fw,f8,f9,fB,fC,fD,fG,fH,fA,ga,(((((cS.tr cU).trans ap (KS.ok (S:=fun _=>False) (KS.new cS cT) KZ)).tr dc).tr dd).tr de),fS,fT,fU,fV,fW,fX,fY,fZ,f5,f7,(KS.new bT cH),(KS.new bT cJ),(KS.new bT cL),eA,eB,eC,eD,eE,eF,ex,ey,cV.symm,eG,eH,eI,eJ,eK,eL,ez,cW.symm,eM,eN,eO,eP,eQ,eR,cX.symm⟩ ?_))
 rintro jB jC jD ⟨i,ab,ac,ae,i230,hn229,aA,aB,aT,aC,aL,aw,aD,aU,aV,aM,aW,bz,bA,bB,bC,aE,aX,aj,ak,am,az,aN,aO,aP,aY,aZ,a8,a9,ba,aQ,aF,aG,bb,bc,bd,be,bf,bg,aR,aH,bh,bi,bj,bl,bm,bn,aS,bo⟩
 refine KM (KL (KN (.bool (decide (((i:Nat):Int)<4))) rr (Mc rfl aM rfl rfl rr) (KQ ?_)))
 have gb:=K4 (.bool (decide (((i:Nat):Int)<4)))
 refine KK (KM ?_)
 refine K5 gb (fun bD=>?_) (fun bD=>?_)
 ·replace bD:=of_decide_eq_true bD
  refine Lf (KK (KM (Lm (KM (KL (K2 Lw aM (Lb (iv ((i:Nat):Int)) LE (KQ ?_))))))))
  have bW:=K4 (iv ((i:Nat):Int))
  refine KK (KM (KL (K2 Lw aT (K2 Lw bW (KN (iv ((LU y)+((i:Nat):Int))) rr (LS rfl rfl rfl (Mn rfl (by omega)) rr) (Lb (iv ((LU y)+((i:Nat):Int))) LE (KQ ?_)))))))
  have bp:=K4 (iv ((LU y)+((i:Nat):Int)))
  refine KK (KM ?_)
  by_cases df:0<=((LU y)+((i:Nat):Int))
  ·skip
   refine KL (K2 Lw bp (KN (.bool true) rr (NO rfl rfl rfl (decide_eq_true df) rr) (KN (.bool true) rr (KT rfl rfl rr) (Lj (iv ((LU y)+((i:Nat):Int))) 2 true 36 Li (KT rfl bp rr) (Lj (iv ((Lc f p).2)) 2 true 36 Li (KT rfl aU rr) (Lj (.bool (decide (((LU y)+((i:Nat):Int))<((Lc f p).2)))) 2 true 36 Li (Mc rfl rfl rfl rfl rr) (KN (.bool (decide (((LU y)+((i:Nat):Int))<((Lc f p).2)))) rr (LB rfl rfl rfl rr) (KQ ?_))))))))
   have gc:=K4 (.bool (decide (((LU y)+((i:Nat):Int))<((Lc f p).2))))
   refine KK ?_
   refine K5 gc (fun bE=>?_) (fun bE=>?_)
   ·replace bE:=of_decide_eq_true bE
    rcases (show p=0\/p=1\/p=2 from TY (f:=f) (UA (by omega))) with rfl|rfl|rfl
    ·skip
     have hsz:(Lc f 0).1≠0:=UA (by omega)
     have hsp:=NW (N7 hsz)
     have hL := @Wy f 0 x y b i (by decide) (by decide) hsz ⟨by omega,by omega⟩
     have hin2:within (Lc f 0).1 (Lc f 0).2 ((Lc f 0).1-1) (LU y+(i:Int)):=⟨by omega,by omega,by omega,by omega⟩
     have hc:=Ow hin2
     have hls:=Up x y b (4*i) hsz
     have dg:(f.pl 0).length=f.p0.length:=rfl
     have dh:(f.pl 1).length=f.p1.length:=rfl
     have di:(f.pl 2).length=f.p2.length:=rfl
     refine NJ 11 [some 41,some 42,some 43,some 44,some 45,some 46,some 47,some 48,some 49,some 50,some 51] [Pd.eq (iv 0),Pd.eq (pt aa 2),Pd.eq (pt aa 2),Pd.eq af,Pd.eq (iv ((Lc f 0).1)),Pd.eq (iv ((LU y)+((i:Nat):Int))),Pd.eq (MO af ((((LU y)+((i:Nat):Int))*((Lc f 0).1)).toNat) ((((LU y)+((i:Nat):Int))*((Lc f 0).1)+((Lc f 0).1)).toNat) ((((LU y)+((i:Nat):Int))*((Lc f 0).1)+((Lc f 0).1)).toNat)),Pd.eq (iv (LU x)),Pd.eq (LW b),Pd.eq (iv ((i:Nat):Int)),Pd.eq (.agg #[.int .u8 ((L6 (b (i*4)):Nat):Int),.int .u8 ((L6 (b (i*4+1)):Nat):Int),.int .u8 ((L6 (b (i*4+2)):Nat):Int),.int .u8 ((L6 (b (i*4+3)):Nat):Int)])] (by kernel_rfl) (by kernel_rfl) (by kernel_rfl) ?_ ?_
     ·refine KP ?_ ?_
      ·refine Ld.one rfl fun F_ w_ hR hout hD=>?_
       exact(KT rfl ((hout 1 rfl (by decide)).trans aA) ⟨rfl,KR.refl _ _⟩)
      refine KP ?_ ?_
      ·refine Ld.one rfl fun F_ w_ hR hout hD=>?_
       exact(KU (n:=3) rfl ((hout 11 rfl (by decide)).trans aw) Tryz.underlying29 rfl (by kernel_rfl) (by decide) rfl ⟨rfl,KR.refl _ _⟩)
      refine KP ?_ ?_
      ·refine Ld.one rfl fun F_ w_ hR hout hD=>?_
       have bF:F_ 42=pt aa 2:=(hD.get 0 rfl rfl rfl)
       have bG:F_ 41=iv 0:=(hD.get 1 rfl rfl rfl)
       exact(L3 0 (s:=1) rfl bF bG (by omega) Tryz.underlying27 (by omega) (by kernel_rfl) (by omega) ⟨rfl,KR.refl _ _⟩)
      refine KP ?_ ?_
      ·refine Ld.one rfl fun F_ w_ hR hout hD=>?_
       have bH:F_ 43=pt aa 2:=(hD.get 0 rfl rfl rfl)
       exact(KY rfl bH Tryz.underlying26 (az.all hR id) rfl rfl ⟨rfl,KR.refl _ _⟩)
      refine KP ?_ ?_
      ·refine Ld.one rfl fun F_ w_ hR hout hD=>?_
       exact(KT rfl ((hout 12 rfl (by decide)).trans aD) ⟨rfl,KR.refl _ _⟩)
      refine KP ?_ ?_
      ·refine Ld.one rfl fun F_ w_ hR hout hD=>?_
       exact(KT rfl ((hout 15 rfl (by decide)).trans bp) ⟨rfl,KR.refl _ _⟩)
      refine KP ?_ ?_
      ·refine Ld.one rfl fun F_ w_ hR hout hD=>?_
       have bI:F_ 44=af:=(hD.get 0 rfl rfl rfl)
       have bJ:F_ 45=iv ((Lc f 0).1):=(hD.get 1 rfl rfl rfl)
       have bK:F_ 46=iv ((LU y)+((i:Nat):Int)):=(hD.get 2 rfl rfl rfl)
       exact(LQ rfl rfl rfl (fun _ _=>by kernel_rfl) (K6 _) (Lo bI (Lo bJ (Lo bK L5))) (TT af ((MU f 0 x y b (4*i)).p0) ((Lc f 0).1) ((LU y)+((i:Nat):Int)) ab _ (by omega) (by omega) (by omega) (by omega) (aj.all hR KO.none).byt ) (fun e_ w_ h_=>⟨_,h_.1,rfl,h_.2⟩))
      refine KP ?_ ?_
      ·refine Ld.one rfl fun F_ w_ hR hout hD=>?_
       exact(KT rfl ((hout 2 rfl (by decide)).trans aB) ⟨rfl,KR.refl _ _⟩)
      refine KP ?_ ?_
      ·refine Ld.one rfl fun F_ w_ hR hout hD=>?_
       exact(Me KW rfl ((hout 9 rfl (by decide)).trans aC) (aE.all hR id) ⟨rfl,KR.refl _ _⟩)
      refine KP ?_ ?_
      ·refine Ld.one rfl fun F_ w_ hR hout hD=>?_
       exact(KT rfl ((hout 14 rfl (by decide)).trans bW) ⟨rfl,KR.refl _ _⟩)
      refine KP ?_ ?_
      ·refine Ld.one rfl fun F_ w_ hR hout hD=>?_
       have bL:F_ 49=LW b:=(hD.get 0 rfl rfl rfl)
       have bM:F_ 50=iv ((i:Nat):Int):=(hD.get 1 rfl rfl rfl)
       exact(LQ rfl rfl rfl (fun _ _=>by kernel_rfl) (K6 _) (Lo bL (Lo bM L5)) (Ye b i  _ (by omega)  ) (fun e_ w_ h_=>⟨_,h_.1,rfl,h_.2⟩))
      exact Mj
     intro jE ce dj dk bX bN
     obtain⟨dl,dm,dn,dp,dq,dr,gd,dt,du,dv⟩:=Uo dk bz bA bB bC aE aX aj ak am az
     have dw:=aW.tr dk
     obtain⟨ge,gh,gi,gj,gl,gm,gn,go,gp,gq⟩:=t10 bN 1 aA 2 aB 3 aT 9 aC 10 aL 11 aw 12 aD 13 aU 55 aV 28 aM
     have gr:ce 47=MO af ((((LU y)+((i:Nat):Int))*((Lc f 0).1)).toNat) ((((LU y)+((i:Nat):Int))*((Lc f 0).1)+((Lc f 0).1)).toNat) ((((LU y)+((i:Nat):Int))*((Lc f 0).1)+((Lc f 0).1)).toNat):=(bN 47).trans (bX 6 (by decide))
     have gt:ce 48=iv (LU x):=(bN 48).trans (bX 7 (by decide))
     have gu:ce 51 = .agg #[.int .u8 ((L6 (b (i*4)):Nat):Int),.int .u8 ((L6 (b (i*4+1)):Nat):Int),.int .u8 ((L6 (b (i*4+2)):Nat):Int),.int .u8 ((L6 (b (i*4+3)):Nat):Int)]:=(bN 51).trans (bX 10 (by decide))
     clear bX bN
     refine LH (R:=fun v_ w_=>∃ (bY:Nat->Prop),.tuple #[]=v_/\KR ab dj w_/\(Md w_ bY af (ayZ ((MU f 0 x y b (4*i)).p0) ((((LU y)+((i:Nat):Int))*((Lc f 0).1)).toNat) ((((LU y)+((i:Nat):Int))*((Lc f 0).1)+((Lc f 0).1)).toNat) (LU x) [(L6 (b (i*4))),(L6 (b (i*4+1))),(L6 (b (i*4+2))),(L6 (b (i*4+3)))])/\KS dj ab bY)) rfl rfl (LQ rfl rfl rfl (fun _ _=>by kernel_rfl) (K6 _) (Lo gr (Lo gt (Lo gu L5))) (ayU af ((MU f 0 x y b (4*i)).p0) ((((LU y)+((i:Nat):Int))*((Lc f 0).1)).toNat) ((((LU y)+((i:Nat):Int))*((Lc f 0).1)+((Lc f 0).1)).toNat) (LU x) (L6 (b (i*4))) (L6 (b (i*4+1))) (L6 (b (i*4+2))) (L6 (b (i*4+3))) ab _ (by omega) (by omega) (by omega) (OG _) (OG _) (OG _) (OG _) gd ) (fun e_ w_ h_=>by obtain⟨T369_,he_,hr_⟩:=h_;exact⟨_,he_,T369_,rfl,hr_⟩)) ?_
     rintro _ jF ⟨bY,rfl,aq,⟨cf,cg⟩⟩
     have gv:=dl.all aq aY.symm
     have gw:=dm.all aq aZ.symm
     have gz:=dn.all aq a8.symm
     have gA:=dp.all aq (a9.symm p1 rfl)
     have gB:=dq.all aq (ba.symm an rfl)
     have gC:=dr.all aq (aQ.symm ao rfl)
     have ci:=dt.all aq aF.symm
     have cj:=du.all aq aG.symm
     have gD:=dv.all aq (bb.symm aa rfl)
     obtain⟨gE,gF,gG,gH,gI,gJ,gK,gL⟩:=Sx cg aY dl aZ dm a8 dn a9 dp ba dq aQ dr aF dt aG du
     have gM:=bb.grew cg (L8 dv.lt)
     refine KQ ?_
     refine Lz (KK (KL (KN (iv ((i+1:Nat):Int)) rr (LS rfl gq rfl (LX (by omega) (by omega)) rr) (KN (iv ((i+1:Nat):Int)) rr (KT rfl rfl rr) (KQ ?_)))))
     have gN:=K4 (iv ((i+1:Nat):Int))
     exact KK ⟨(4-(i+1)),by omega,i+1,bY,ac,ae,by omega,rfl,ge,gh,gi,gj,gl,gm,gn,go,gp,gN,(dw.trans aq (fun i hi x=>((KS.ok (S:=fun _=>False) aN KZ) i hi x))),gv,gw,gz,gA,gB,gC,(by first|exact Md.of_eq hL.1 cf|exact Md.of_eq (hL.2 0 (by decide) (by decide) (by decide)) cf|exact Md.of_eq (congrArg FD.p0 (NX (by omega))) cf),(by first|exact Md.of_eq hL.1 ci|exact Md.of_eq (hL.2 1 (by decide) (by decide) (by decide)) ci|exact Md.of_eq (congrArg FD.p1 (NX (by omega))) ci),(by first|exact Md.of_eq hL.1 cj|exact Md.of_eq (hL.2 2 (by decide) (by decide) (by decide)) cj|exact Md.of_eq (congrArg FD.p2 (NX (by omega))) cj),gD,(aN.trans dw cg),aO,aP,gE,gF,gG,gH,gI,gJ,gK,gL,gM,bc,bd,be,bf,bg,aR,aH,bh,bi,bj,bl,bm,bn,aS,bo⟩
    ·skip
     have hsz:(Lc f 1).1≠0:=UA (by omega)
     have hsp:=NW (N7 hsz)
     have hL := @Wy f 1 x y b i (by decide) (by decide) hsz ⟨by omega,by omega⟩
     have hin2:within (Lc f 1).1 (Lc f 1).2 ((Lc f 1).1-1) (LU y+(i:Int)):=⟨by omega,by omega,by omega,by omega⟩
     have hc:=Ow hin2
     have hls:=Up x y b (4*i) hsz
     have dg:(f.pl 0).length=f.p0.length:=rfl
     have dh:(f.pl 1).length=f.p1.length:=rfl
     have di:(f.pl 2).length=f.p2.length:=rfl
     refine NJ 11 [some 41,some 42,some 43,some 44,some 45,some 46,some 47,some 48,some 49,some 50,some 51] [Pd.eq (iv 1),Pd.eq (pt aa 2),Pd.eq (pt aa 3),Pd.eq ah,Pd.eq (iv ((Lc f 1).1)),Pd.eq (iv ((LU y)+((i:Nat):Int))),Pd.eq (MO ah ((((LU y)+((i:Nat):Int))*((Lc f 1).1)).toNat) ((((LU y)+((i:Nat):Int))*((Lc f 1).1)+((Lc f 1).1)).toNat) ((((LU y)+((i:Nat):Int))*((Lc f 1).1)+((Lc f 1).1)).toNat)),Pd.eq (iv (LU x)),Pd.eq (LW b),Pd.eq (iv ((i:Nat):Int)),Pd.eq (.agg #[.int .u8 ((L6 (b (i*4)):Nat):Int),.int .u8 ((L6 (b (i*4+1)):Nat):Int),.int .u8 ((L6 (b (i*4+2)):Nat):Int),.int .u8 ((L6 (b (i*4+3)):Nat):Int)])] (by kernel_rfl) (by kernel_rfl) (by kernel_rfl) ?_ ?_
     ·refine KP ?_ ?_
      ·refine Ld.one rfl fun F_ w_ hR hout hD=>?_
       exact(KT rfl ((hout 1 rfl (by decide)).trans aA) ⟨rfl,KR.refl _ _⟩)
      refine KP ?_ ?_
      ·refine Ld.one rfl fun F_ w_ hR hout hD=>?_
       exact(KU (n:=3) rfl ((hout 11 rfl (by decide)).trans aw) Tryz.underlying29 rfl (by kernel_rfl) (by decide) rfl ⟨rfl,KR.refl _ _⟩)
      refine KP ?_ ?_
      ·refine Ld.one rfl fun F_ w_ hR hout hD=>?_
       have bF:F_ 42=pt aa 2:=(hD.get 0 rfl rfl rfl)
       have bG:F_ 41=iv 1:=(hD.get 1 rfl rfl rfl)
       exact(L3 1 (s:=1) rfl bF bG (by omega) Tryz.underlying27 (by omega) (by kernel_rfl) (by omega) ⟨rfl,KR.refl _ _⟩)
      refine KP ?_ ?_
      ·refine Ld.one rfl fun F_ w_ hR hout hD=>?_
       have bH:F_ 43=pt aa 3:=(hD.get 0 rfl rfl rfl)
       exact(KY rfl bH Tryz.underlying26 (az.all hR id) rfl rfl ⟨rfl,KR.refl _ _⟩)
      refine KP ?_ ?_
      ·refine Ld.one rfl fun F_ w_ hR hout hD=>?_
       exact(KT rfl ((hout 12 rfl (by decide)).trans aD) ⟨rfl,KR.refl _ _⟩)
      refine KP ?_ ?_
      ·refine Ld.one rfl fun F_ w_ hR hout hD=>?_
       exact(KT rfl ((hout 15 rfl (by decide)).trans bp) ⟨rfl,KR.refl _ _⟩)
      refine KP ?_ ?_
      ·refine Ld.one rfl fun F_ w_ hR hout hD=>?_
       have bI:F_ 44=ah:=(hD.get 0 rfl rfl rfl)
       have bJ:F_ 45=iv ((Lc f 1).1):=(hD.get 1 rfl rfl rfl)
       have bK:F_ 46=iv ((LU y)+((i:Nat):Int)):=(hD.get 2 rfl rfl rfl)
       exact(LQ rfl rfl rfl (fun _ _=>by kernel_rfl) (K6 _) (Lo bI (Lo bJ (Lo bK L5))) (TT ah ((MU f 1 x y b (4*i)).p1) ((Lc f 1).1) ((LU y)+((i:Nat):Int)) ac _ (by omega) (by omega) (by omega) (by omega) (ak.all hR KO.none).byt ) (fun e_ w_ h_=>⟨_,h_.1,rfl,h_.2⟩))
      refine KP ?_ ?_
      ·refine Ld.one rfl fun F_ w_ hR hout hD=>?_
       exact(KT rfl ((hout 2 rfl (by decide)).trans aB) ⟨rfl,KR.refl _ _⟩)
      refine KP ?_ ?_
      ·refine Ld.one rfl fun F_ w_ hR hout hD=>?_
       exact(Me KW rfl ((hout 9 rfl (by decide)).trans aC) (aE.all hR id) ⟨rfl,KR.refl _ _⟩)
      refine KP ?_ ?_
      ·refine Ld.one rfl fun F_ w_ hR hout hD=>?_
       exact(KT rfl ((hout 14 rfl (by decide)).trans bW) ⟨rfl,KR.refl _ _⟩)
      refine KP ?_ ?_
      ·refine Ld.one rfl fun F_ w_ hR hout hD=>?_
       have bL:F_ 49=LW b:=(hD.get 0 rfl rfl rfl)
       have bM:F_ 50=iv ((i:Nat):Int):=(hD.get 1 rfl rfl rfl)
       exact(LQ rfl rfl rfl (fun _ _=>by kernel_rfl) (K6 _) (Lo bL (Lo bM L5)) (Ye b i  _ (by omega)  ) (fun e_ w_ h_=>⟨_,h_.1,rfl,h_.2⟩))
      exact Mj
     intro jG cm dy dz bZ bO
     obtain⟨dA,dB,dC,dD,dE,dF,dG,gO,dH,dI⟩:=Uo dz bz bA bB bC aE aX aj ak am az
     have dJ:=aW.tr dz
     obtain⟨gP,gQ,gR,gS,gT,gU,gV,gW,gZ,hQ⟩:=t10 bO 1 aA 2 aB 3 aT 9 aC 10 aL 11 aw 12 aD 13 aU 55 aV 28 aM
     have hZ:cm 47=MO ah ((((LU y)+((i:Nat):Int))*((Lc f 1).1)).toNat) ((((LU y)+((i:Nat):Int))*((Lc f 1).1)+((Lc f 1).1)).toNat) ((((LU y)+((i:Nat):Int))*((Lc f 1).1)+((Lc f 1).1)).toNat):=(bO 47).trans (bZ 6 (by decide))
     have ia:cm 48=iv (LU x):=(bO 48).trans (bZ 7 (by decide))
     have ib:cm 51 = .agg #[.int .u8 ((L6 (b (i*4)):Nat):Int),.int .u8 ((L6 (b (i*4+1)):Nat):Int),.int .u8 ((L6 (b (i*4+2)):Nat):Int),.int .u8 ((L6 (b (i*4+3)):Nat):Int)]:=(bO 51).trans (bZ 10 (by decide))
     clear bZ bO
     refine LH (R:=fun v_ w_=>∃ (b7:Nat->Prop),.tuple #[]=v_/\KR ac dy w_/\(Md w_ b7 ah (ayZ ((MU f 1 x y b (4*i)).p1) ((((LU y)+((i:Nat):Int))*((Lc f 1).1)).toNat) ((((LU y)+((i:Nat):Int))*((Lc f 1).1)+((Lc f 1).1)).toNat) (LU x) [(L6 (b (i*4))),(L6 (b (i*4+1))),(L6 (b (i*4+2))),(L6 (b (i*4+3)))])/\KS dy ac b7)) rfl rfl (LQ rfl rfl rfl (fun _ _=>by kernel_rfl) (K6 _) (Lo hZ (Lo ia (Lo ib L5))) (ayU ah ((MU f 1 x y b (4*i)).p1) ((((LU y)+((i:Nat):Int))*((Lc f 1).1)).toNat) ((((LU y)+((i:Nat):Int))*((Lc f 1).1)+((Lc f 1).1)).toNat) (LU x) (L6 (b (i*4))) (L6 (b (i*4+1))) (L6 (b (i*4+2))) (L6 (b (i*4+3))) ac _ (by omega) (by omega) (by omega) (OG _) (OG _) (OG _) (OG _) gO ) (fun e_ w_ h_=>by obtain⟨T449_,he_,hr_⟩:=h_;exact⟨_,he_,T449_,rfl,hr_⟩)) ?_
     rintro _ jH ⟨b7,rfl,ar,⟨cn,co⟩⟩
     have ie:=dA.all ar bc.symm
     have ig:=dB.all ar bd.symm
     have ii:=dC.all ar be.symm
     have ij:=dD.all ar (bf.symm p1 rfl)
     have ik:=dE.all ar (bg.symm an rfl)
     have io:=dF.all ar (aR.symm ao rfl)
     have cq:=dG.all ar aF
     have cr:=dH.all ar aH.symm
     have ip:=dI.all ar (bh.symm aa rfl)
     obtain⟨iq,ir,iu,iw,iy,iz,iA,iB⟩:=Sx co bc dA bd dB be dC bf dD bg dE aR dF (aF.symm) dG aH dH
     have iC:=bh.grew co (L8 dI.lt)
     refine KQ ?_
     refine Lz (KK (KL (KN (iv ((i+1:Nat):Int)) rr (LS rfl hQ rfl (LX (by omega) (by omega)) rr) (KN (iv ((i+1:Nat):Int)) rr (KT rfl rfl rr) (KQ ?_)))))
     have iD:=K4 (iv ((i+1:Nat):Int))
     exact KK ⟨(4-(i+1)),by omega,i+1,ab,b7,ae,by omega,rfl,gP,gQ,gR,gS,gT,gU,gV,gW,gZ,iD,(dJ.trans ar (fun i hi x=>((KS.ok (S:=fun _=>False) aO KZ) i hi x))),ie,ig,ii,ij,ik,io,(by first|exact Md.of_eq hL.1 cq|exact Md.of_eq (hL.2 0 (by decide) (by decide) (by decide)) cq|exact Md.of_eq (congrArg FD.p0 (NX (by omega))) cq),(by first|exact Md.of_eq hL.1 cn|exact Md.of_eq (hL.2 1 (by decide) (by decide) (by decide)) cn|exact Md.of_eq (congrArg FD.p1 (NX (by omega))) cn),(by first|exact Md.of_eq hL.1 cr|exact Md.of_eq (hL.2 2 (by decide) (by decide) (by decide)) cr|exact Md.of_eq (congrArg FD.p2 (NX (by omega))) cr),ip,aN,(aO.trans dJ co),aP,aY,aZ,a8,a9,ba,aQ,iA.symm,aG,bb,iq,ir,iu,iw,iy,iz,iB,iC,bi,bj,bl,bm,bn,aS,bo⟩
    ·skip
     have hsz:(Lc f 2).1≠0:=UA (by omega)
     have hsp:=NW (N7 hsz)
     have hL := @Wy f 2 x y b i (by decide) (by decide) hsz ⟨by omega,by omega⟩
     have hin2:within (Lc f 2).1 (Lc f 2).2 ((Lc f 2).1-1) (LU y+(i:Int)):=⟨by omega,by omega,by omega,by omega⟩
     have hc:=Ow hin2
     have hls:=Up x y b (4*i) hsz
     have dg:(f.pl 0).length=f.p0.length:=rfl
     have dh:(f.pl 1).length=f.p1.length:=rfl
     have di:(f.pl 2).length=f.p2.length:=rfl
     refine NJ 11 [some 41,some 42,some 43,some 44,some 45,some 46,some 47,some 48,some 49,some 50,some 51] [Pd.eq (iv 2),Pd.eq (pt aa 2),Pd.eq (pt aa 4),Pd.eq ai,Pd.eq (iv ((Lc f 2).1)),Pd.eq (iv ((LU y)+((i:Nat):Int))),Pd.eq (MO ai ((((LU y)+((i:Nat):Int))*((Lc f 2).1)).toNat) ((((LU y)+((i:Nat):Int))*((Lc f 2).1)+((Lc f 2).1)).toNat) ((((LU y)+((i:Nat):Int))*((Lc f 2).1)+((Lc f 2).1)).toNat)),Pd.eq (iv (LU x)),Pd.eq (LW b),Pd.eq (iv ((i:Nat):Int)),Pd.eq (.agg #[.int .u8 ((L6 (b (i*4)):Nat):Int),.int .u8 ((L6 (b (i*4+1)):Nat):Int),.int .u8 ((L6 (b (i*4+2)):Nat):Int),.int .u8 ((L6 (b (i*4+3)):Nat):Int)])] (by kernel_rfl) (by kernel_rfl) (by kernel_rfl) ?_ ?_
     ·refine KP ?_ ?_
      ·refine Ld.one rfl fun F_ w_ hR hout hD=>?_
       exact(KT rfl ((hout 1 rfl (by decide)).trans aA) ⟨rfl,KR.refl _ _⟩)
      refine KP ?_ ?_
      ·refine Ld.one rfl fun F_ w_ hR hout hD=>?_
       exact(KU (n:=3) rfl ((hout 11 rfl (by decide)).trans aw) Tryz.underlying29 rfl (by kernel_rfl) (by decide) rfl ⟨rfl,KR.refl _ _⟩)
      refine KP ?_ ?_
      ·refine Ld.one rfl fun F_ w_ hR hout hD=>?_
       have bF:F_ 42=pt aa 2:=(hD.get 0 rfl rfl rfl)
       have bG:F_ 41=iv 2:=(hD.get 1 rfl rfl rfl)
       exact(L3 2 (s:=1) rfl bF bG (by omega) Tryz.underlying27 (by omega) (by kernel_rfl) (by omega) ⟨rfl,KR.refl _ _⟩)
      refine KP ?_ ?_
      ·refine Ld.one rfl fun F_ w_ hR hout hD=>?_
       have bH:F_ 43=pt aa 4:=(hD.get 0 rfl rfl rfl)
       exact(KY rfl bH Tryz.underlying26 (az.all hR id) rfl rfl ⟨rfl,KR.refl _ _⟩)
      refine KP ?_ ?_
      ·refine Ld.one rfl fun F_ w_ hR hout hD=>?_
       exact(KT rfl ((hout 12 rfl (by decide)).trans aD) ⟨rfl,KR.refl _ _⟩)
      refine KP ?_ ?_
      ·refine Ld.one rfl fun F_ w_ hR hout hD=>?_
       exact(KT rfl ((hout 15 rfl (by decide)).trans bp) ⟨rfl,KR.refl _ _⟩)
      refine KP ?_ ?_
      ·refine Ld.one rfl fun F_ w_ hR hout hD=>?_
       have bI:F_ 44=ai:=(hD.get 0 rfl rfl rfl)
       have bJ:F_ 45=iv ((Lc f 2).1):=(hD.get 1 rfl rfl rfl)
       have bK:F_ 46=iv ((LU y)+((i:Nat):Int)):=(hD.get 2 rfl rfl rfl)
       exact(LQ rfl rfl rfl (fun _ _=>by kernel_rfl) (K6 _) (Lo bI (Lo bJ (Lo bK L5))) (TT ai ((MU f 2 x y b (4*i)).p2) ((Lc f 2).1) ((LU y)+((i:Nat):Int)) ae _ (by omega) (by omega) (by omega) (by omega) (am.all hR KO.none).byt ) (fun e_ w_ h_=>⟨_,h_.1,rfl,h_.2⟩))
      refine KP ?_ ?_
      ·refine Ld.one rfl fun F_ w_ hR hout hD=>?_
       exact(KT rfl ((hout 2 rfl (by decide)).trans aB) ⟨rfl,KR.refl _ _⟩)
      refine KP ?_ ?_
      ·refine Ld.one rfl fun F_ w_ hR hout hD=>?_
       exact(Me KW rfl ((hout 9 rfl (by decide)).trans aC) (aE.all hR id) ⟨rfl,KR.refl _ _⟩)
      refine KP ?_ ?_
      ·refine Ld.one rfl fun F_ w_ hR hout hD=>?_
       exact(KT rfl ((hout 14 rfl (by decide)).trans bW) ⟨rfl,KR.refl _ _⟩)
      refine KP ?_ ?_
      ·refine Ld.one rfl fun F_ w_ hR hout hD=>?_
       have bL:F_ 49=LW b:=(hD.get 0 rfl rfl rfl)
       have bM:F_ 50=iv ((i:Nat):Int):=(hD.get 1 rfl rfl rfl)
       exact(LQ rfl rfl rfl (fun _ _=>by kernel_rfl) (K6 _) (Lo bL (Lo bM L5)) (Ye b i  _ (by omega)  ) (fun e_ w_ h_=>⟨_,h_.1,rfl,h_.2⟩))
      exact Mj
     intro jI ct dK dL b8 bP
     obtain⟨dM,dN,dO,dP,dQ,dR,dS,dT,iE,dU⟩:=Uo dL bz bA bB bC aE aX aj ak am az
     have dV:=aW.tr dL
     obtain⟨iF,iG,iH,iI,iJ,iK,iL,iM,iN,iO⟩:=t10 bP 1 aA 2 aB 3 aT 9 aC 10 aL 11 aw 12 aD 13 aU 55 aV 28 aM
     have iP:ct 47=MO ai ((((LU y)+((i:Nat):Int))*((Lc f 2).1)).toNat) ((((LU y)+((i:Nat):Int))*((Lc f 2).1)+((Lc f 2).1)).toNat) ((((LU y)+((i:Nat):Int))*((Lc f 2).1)+((Lc f 2).1)).toNat):=(bP 47).trans (b8 6 (by decide))
     have iQ:ct 48=iv (LU x):=(bP 48).trans (b8 7 (by decide))
     have iR:ct 51 = .agg #[.int .u8 ((L6 (b (i*4)):Nat):Int),.int .u8 ((L6 (b (i*4+1)):Nat):Int),.int .u8 ((L6 (b (i*4+2)):Nat):Int),.int .u8 ((L6 (b (i*4+3)):Nat):Int)]:=(bP 51).trans (b8 10 (by decide))
     clear b8 bP
     refine LH (R:=fun v_ w_=>∃ (b9:Nat->Prop),.tuple #[]=v_/\KR ae dK w_/\(Md w_ b9 ai (ayZ ((MU f 2 x y b (4*i)).p2) ((((LU y)+((i:Nat):Int))*((Lc f 2).1)).toNat) ((((LU y)+((i:Nat):Int))*((Lc f 2).1)+((Lc f 2).1)).toNat) (LU x) [(L6 (b (i*4))),(L6 (b (i*4+1))),(L6 (b (i*4+2))),(L6 (b (i*4+3)))])/\KS dK ae b9)) rfl rfl (LQ rfl rfl rfl (fun _ _=>by kernel_rfl) (K6 _) (Lo iP (Lo iQ (Lo iR L5))) (ayU ai ((MU f 2 x y b (4*i)).p2) ((((LU y)+((i:Nat):Int))*((Lc f 2).1)).toNat) ((((LU y)+((i:Nat):Int))*((Lc f 2).1)+((Lc f 2).1)).toNat) (LU x) (L6 (b (i*4))) (L6 (b (i*4+1))) (L6 (b (i*4+2))) (L6 (b (i*4+3))) ae _ (by omega) (by omega) (by omega) (OG _) (OG _) (OG _) (OG _) iE ) (fun e_ w_ h_=>by obtain⟨T529_,he_,hr_⟩:=h_;exact⟨_,he_,T529_,rfl,hr_⟩)) ?_
     rintro _ jJ ⟨b9,rfl,au,⟨cu,cv⟩⟩
     have iS:=dM.all au bi.symm
     have iT:=dN.all au bj.symm
     have iU:=dO.all au bl.symm
     have iV:=dP.all au (bm.symm p1 rfl)
     have iW:=dQ.all au (bn.symm an rfl)
     have iX:=dR.all au (aS.symm ao rfl)
     have cw:=dS.all au aG
     have cy:=dT.all au aH
     have iY:=dU.all au (bo.symm aa rfl)
     obtain⟨iZ,ja,jb,jc,jd,je,jf,jg⟩:=Sx cv bi dM bj dN bl dO bm dP bn dQ aS dR (aG.symm) dS (aH.symm) dT
     have jh:=bo.grew cv (L8 dU.lt)
     refine KQ ?_
     refine Lz (KK (KL (KN (iv ((i+1:Nat):Int)) rr (LS rfl iO rfl (LX (by omega) (by omega)) rr) (KN (iv ((i+1:Nat):Int)) rr (KT rfl rfl rr) (KQ ?_)))))
     have ji:=K4 (iv ((i+1:Nat):Int))
     exact KK ⟨(4-(i+1)),by omega,i+1,ab,ac,b9,by omega,rfl,iF,iG,iH,iI,iJ,iK,iL,iM,iN,ji,(dV.trans au (fun i hi x=>((KS.ok (S:=fun _=>False) aP KZ) i hi x))),iS,iT,iU,iV,iW,iX,(by first|exact Md.of_eq hL.1 cw|exact Md.of_eq (hL.2 0 (by decide) (by decide) (by decide)) cw|exact Md.of_eq (congrArg FD.p0 (NX (by omega))) cw),(by first|exact Md.of_eq hL.1 cy|exact Md.of_eq (hL.2 1 (by decide) (by decide) (by decide)) cy|exact Md.of_eq (congrArg FD.p1 (NX (by omega))) cy),(by first|exact Md.of_eq hL.1 cu|exact Md.of_eq (hL.2 2 (by decide) (by decide) (by decide)) cu|exact Md.of_eq (congrArg FD.p2 (NX (by omega))) cu),iY,aN,aO,(aP.trans dV cv),aY,aZ,a8,a9,ba,aQ,aF,jf.symm,bb,bc,bd,be,bf,bg,aR,jg.symm,bh,iZ,ja,jb,jc,jd,je,jh⟩
   ·replace bE:=of_decide_eq_false bE
    refine Lf (Lz (KK (KL (KN (iv ((i+1:Nat):Int)) rr (LS rfl aM rfl (LX (by omega) (by omega)) rr) (KN (iv ((i+1:Nat):Int)) rr (KT rfl rfl rr) (KQ ?_))))))
    have jj:=K4 (iv ((i+1:Nat):Int))
    exact KK ⟨(4-(i+1)),by omega,i+1,ab,ac,ae,by omega,rfl,aA,aB,aT,aC,aL,aw,aD,aU,aV,jj,aW,bz,bA,bB,bC,aE,aX,(by first|exact Md.of_eq hL.1 aj|exact Md.of_eq (hL.2 0 (by decide) (by decide) (by decide)) aj|exact Md.of_eq (congrArg FD.p0 (NX (by omega))) aj),(by first|exact Md.of_eq hL.1 ak|exact Md.of_eq (hL.2 1 (by decide) (by decide) (by decide)) ak|exact Md.of_eq (congrArg FD.p1 (NX (by omega))) ak),(by first|exact Md.of_eq hL.1 am|exact Md.of_eq (hL.2 2 (by decide) (by decide) (by decide)) am|exact Md.of_eq (congrArg FD.p2 (NX (by omega))) am),az,aN,aO,aP,aY,aZ,a8,a9,ba,aQ,aF,aG,bb,bc,bd,be,bf,bg,aR,aH,bh,bi,bj,bl,bm,bn,aS,bo⟩
  ·skip
   refine KL (K2 Lw bp (KN (.bool false) rr (NO rfl rfl rfl (decide_eq_false df) rr) (KN (.bool false) rr (KT rfl rfl rr) (Lq 2 true 36 Li (Lq 2 true 36 Li (Lq 2 true 36 Li (KN (.bool false) rr (Lt rfl rfl rfl rr) (KQ ?_))))))))
   have jk:=K4 (.bool false)
   refine KK ?_
   refine K5 (t:=false) jk (fun e=>by cases e) (fun _=>?_)
   refine Lf (Lz (KK (KL (KN (iv ((i+1:Nat):Int)) rr (LS rfl aM rfl (LX (by omega) (by omega)) rr) (KN (iv ((i+1:Nat):Int)) rr (KT rfl rfl rr) (KQ ?_))))))
   have jl:=K4 (iv ((i+1:Nat):Int))
   exact KK ⟨(4-(i+1)),by omega,i+1,ab,ac,ae,by omega,rfl,aA,aB,aT,aC,aL,aw,aD,aU,aV,jl,aW,bz,bA,bB,bC,aE,aX,(by first|exact Md.of_eq hL.1 aj|exact Md.of_eq (hL.2 0 (by decide) (by decide) (by decide)) aj|exact Md.of_eq (congrArg FD.p0 (NX (by omega))) aj),(by first|exact Md.of_eq hL.1 ak|exact Md.of_eq (hL.2 1 (by decide) (by decide) (by decide)) ak|exact Md.of_eq (congrArg FD.p1 (NX (by omega))) ak),(by first|exact Md.of_eq hL.1 am|exact Md.of_eq (hL.2 2 (by decide) (by decide) (by decide)) am|exact Md.of_eq (congrArg FD.p2 (NX (by omega))) am),az,aN,aO,aP,aY,aZ,a8,a9,ba,aQ,aF,aG,bb,bc,bd,be,bf,bg,aR,aH,bh,bi,bj,bl,bm,bn,aS,bo⟩
 ·replace bD:=of_decide_eq_false bD
  refine Mm (Lp (Lp ?_))
  have jm:4=i:=by omega
  subst jm
  refine Mk (KK (KM (KL (KN (.agg #[iv ((Nj f).W),iv ((Nj f).H),af,ah,ai]) rr (KX La rfl aw az rr) (Ll (us:=[iv ((Nj f).W),iv ((Nj f).H),af,ah,ai]) La rfl rfl rfl aL rfl aX rfl (Qc rr (L4 aj.one (L4 ak.one (L4 am.one MX)))) fun jK jn cd=>?_)))))
  have jo:=aj.all cd aQ
  have jp:=ak.all cd aR
  have jq:=am.all cd aS
  refine KQ ?_
  refine KK (Le ?_)
  exact Po (vs:=[iv ((Nj f).W),iv ((Nj f).H),af,ah,ai]) La aV rfl rfl aL jn ⟨af,ab,ah,ac,ai,ae,(by rw[show Qd f p x y b=MU f p x y b 16 from rfl,(RH f p x y b 16).1,(RH f p x y b 16).2.1]),(aW.trans cd (KS.ok (S:=fun _=>False) (KS.new cC en) KZ)),⟨jo,aN⟩,⟨jp,aO⟩,⟨jq,aP⟩,aF,aG,aH⟩
open Go.RowKit
section
variable {N:Nat} {Q:(Exit->(Nat->Value)->World->Prop)} {F:Nat->Value} {w:World} {P:Program}
def aCX(N:Nat)(P:Program)(R:World->World->Prop)(D:List (Option Tmp))(G:Nat->Value->World->Prop)(F0:Nat->Value)(w0:World)(i:Nat)(o:Oper):Prop :=
 ∀ (F:Nat->Value) (w:World),R w0 w->(∀ t,Nat.blt t N=true->some t∉D->F t=F0 t)->Ol D G F w o.after.toList->o.guard=none/\Lg P (ev F) o w (fun v w'=>G i v w'/\R w w')
def TS(N:Nat)(P:Program)(R:World->World->Prop)(D:List (Option Tmp))(G:Nat->Value->World->Prop)(F0:Nat->Value)(w0:World):Nat->List Oper->Prop
 | _,[]=>True
 | i,o::r=>aCX N P R D G F0 w0 i o/\TS N P R D G F0 w0 (i+1) r
theorem aCX.step{R:World->World->Prop}{D:List (Option Tmp)}{G:Nat->Value->World->Prop}{w0:World}{i:Nat}{o:Oper}{a0:Act}(ha:Fr N F a0)(h:aCX N P R D G F w0 i o):aDN P R D G a0 w0 i o:=by
 intro a w hR hout hD
 have h1:=h (fun t=>a.tmps.getD t undef) w hR (fun t hb ht=>by rw[← ha.at' t hb];exact hout t ht) hD.toF
 rw[← R6 a] at h1
 unfold Qs
 rw[h1.1]
 exact⟨fun _=>h1.2,fun e=>by cases e⟩
theorem TS.steps{R:World->World->Prop}{D:List (Option Tmp)}{G:Nat->Value->World->Prop}{w0:World}{a0:Act}(ha:Fr N F a0):∀ {os:List Oper} {i:Nat},TS N P R D G F w0 i os->Steps P R D G a0 w0 i os:=by
 intro os
 induction os with
 | nil=>intro i _;exact trivial
 | cons o r ih=>intro i h;exact⟨h.1.step ha,ih h.2⟩
theorem azA{R:World->World->Prop}{D:List (Option Tmp)}{G:Nat->Value->World->Prop}{F0:Nat->Value}{w0:World}{i:Nat}:TS N P R D G F0 w0 i []:=trivial
theorem Oc{R:World->World->Prop}{D:List (Option Tmp)}{G:Nat->Value->World->Prop}{F0:Nat->Value}{w0:World}{i:Nat}{o:Oper}{r:List Oper}(hg:o.guard=none)
  (h:∀ (F:Nat->Value) (w:World),R w0 w->(∀ t,Nat.blt t N=true->some t∉D->F t=F0 t)->Ol D G F w o.after.toList->Lg P (ev F) o w (fun v w'=>G i v w'/\R w w')) (k:TS N P R D G F0 w0 (i+1) r):TS N P R D G F0 w0 i (o::r):=⟨fun F w h1 h2 h3=>⟨hg,h F w h1 h2 h3⟩,k⟩
theorem aCP{id:Nat}{ops:Array Oper}(n:Nat)(R:World->World->Prop)(D:List (Option Tmp))(G:Nat->Value->World->Prop)(hm:P.follows .mixedOrders=true)(hta:TL ops.toList n=true)(hpl:plain N 0 D (ops.toList.take n)=true)
  (hrf:∀ a,R a a) (htr:∀ a b c,R a b->R b c->R a c) (hdr:R w w.drew) (hst:∀ i v w w',G i v w->R w w'->G i v w') (hsteps:TS N P R D G F w 0 (ops.toList.take n))
  (hend:∀ (v:Nat->Value) (F':Nat->Value) (w':World),R w w'->(∀ i,i<n->G i (v i) w')->(∀ t,F' t=Q9 v 0 D F t)->wl none P N ops Q (ops.toList.drop n) F' w'):wq none P N (.region id ops true) Q F w:=by
 intro a ha
 refine wpIn_wide.2 ?_
 refine wp_region_any hm ?_
 have T:=TD hta
 have hno:∀ j,(Array.replicate ops.size false).getD j false=false:=by
  intro j
  by_cases h:j<ops.size <;> simp[Array.getD,h]
 refine Xb n T R D G (by rw[ha.size];exact hpl) hrf htr hst (hsteps.steps ha) (fun v w' hk hG=>hend v _ w' hk hG (fun _=>rfl) _ (Py v D 0 F a ha (OS hpl))) ops.size _ (fun _=>undef) a _ ⟨rfl,by simp,rfl,hdr,fun _ _=>rfl,fun j _ hj=>?_,fun j hj=>?_⟩ ?_ ?_ ?_
 ·rw[hno] at hj;cases hj
 ·rw[hno] at hj;cases hj
 ·intro k o _ hl;rw[hno] at hl;cases hl
 ·intro j _;exact hno j
 ·exact Nat.le_trans (List.countP_le_length) (by simp)
end
def Qu(L:List Nat)(n k:Nat):List Nat:=L.take (0+k)++((((L.drop 0).take (n-0)).drop 0).take (k-0) |>.take (n-0-k) |> (· ++ L.drop (0+k+min (n-0-k) (((((L.drop 0).take (n-0)).drop 0).take (k-0)).length))))
theorem YD{L:List Nat}{n k:Nat}(hL:L.length=n)(hk:k<=n):Qu L n k=L.take k++(L.take (min (n-k) k)++L.drop (k+min (n-k) k)):=by
 unfold Qu
 have e:((((L.drop 0).take (n-0)).drop 0).take (k-0))=L.take k:=by simp;rw[← hL,List.take_length]
 rw[e]
 simp only[Nat.zero_add,Nat.sub_zero,List.take_take,List.length_take]
 rw[show min (n-k) (min k L.length)=min (n-k) k by omega]
theorem S5{L:List Nat}{n k:Nat}(hL:L.length=n)(hk:k<=n):(Qu L n k).length=n:=by rw[YD hL hk];simp;omega
theorem Xx{L:List Nat}{n k s:Nat}(hL:L.length=n)(hk:k<=n)(h:L.take k=List.replicate k s):(Qu L n k).take (k+min (n-k) k)=List.replicate (k+min (n-k) k) s:=by
 rw[YD hL hk,h,show L.take (min (n-k) k)=(L.take k).take (min (n-k) k) by rw[List.take_take];congr 1;omega,h,List.take_replicate,show min (min (n-k) k) k=min (n-k) k by omega,← List.append_assoc,List.replicate_append_replicate]
 rw[List.take_append_of_le_length (by simp),List.take_of_length_le (by simp)]
theorem ay3{L:List Nat}{n k s:Nat}(hL:L.length=n)(hk:k<=n)(h:L.take k=List.replicate k s):Qu (Qu L n k) n k=Qu L n k:=by
 have h2:=S5 hL hk
 have h3:=Xx hL hk h
 rw[YD h2 hk]
 have e1:(Qu L n k).take k=List.replicate k s:=by
  have:(Qu L n k).take k=((Qu L n k).take (k+min (n-k) k)).take k:=by rw[List.take_take];congr 1;omega
  rw[this,h3,List.take_replicate];congr 1;omega
 have e2:(Qu L n k).take (min (n-k) k)=List.replicate (min (n-k) k) s:=by
  have:(Qu L n k).take (min (n-k) k)=((Qu L n k).take (k+min (n-k) k)).take (min (n-k) k):=by rw[List.take_take];congr 1;omega
  rw[this,h3,List.take_replicate];congr 1;omega
 rw[e1,e2,← List.append_assoc,List.replicate_append_replicate,← h3,List.take_append_drop]
theorem XE{J l:List Nat}{n s:Nat}(hJ:J.length=n)(hn:1<=n)(hl:l.length=1)(hs:l.getD 0 0=s):(J.take 0++(l.take (n-0)++J.drop (0+min (n-0) l.length))).length=n/\(J.take 0++(l.take (n-0)++J.drop (0+min (n-0) l.length))).take 1=List.replicate 1 s:=by
 obtain⟨z,rfl⟩:∃ z,l=[z]:=by
  match l,hl with
  | [z],_=>exact⟨z,rfl⟩
 obtain rfl:z=s:=by simpa using hs
 obtain⟨m,rfl⟩:∃ m,n=m+1:=⟨n-1,by omega⟩
 constructor
 ·simp;omega
 ·simp
theorem aBR{L:List Nat}{n k s:Nat}(hk:k=n)(h:L.take k=List.replicate k s):List.replicate n s=((L.drop 0).take (n-0)):=by
 subst hk;rw[List.drop_zero,Nat.sub_zero,h]
def Qt(T:Nat->Prop)(v:Value)(L L':List Nat)(a b:World):Prop:=KR T a b/\(Md a T v L'->Md b T v L')/\(Md a T v L->Md b T v L\/Md b T v L')
theorem Qt.refl{T:Nat->Prop}{v:Value}{L L':List Nat}(a:World):Qt T v L L' a a:=⟨KR.refl _ _,id,.inl⟩
theorem Qt.trans{T:Nat->Prop}{v:Value}{L L':List Nat}{a b c:World}(h:Qt T v L L' a b)(k:Qt T v L L' b c):Qt T v L L' a c :=
 ⟨h.1.trans k.1 (fun _ _ x=>x),fun x=>k.2.1 (h.2.1 x),fun x=>(h.2.2 x).elim k.2.2 (fun y=>.inr (k.2.1 y))⟩
theorem Qt.drew{T:Nat->Prop}{v:Value}{L L':List Nat}(a:World):Qt T v L L' a a.drew :=
 ⟨(KR.refl _ _).drew,fun h=>h.all (S:=fun _=>False) (KR.refl _ _).drew KO.none,fun h=>.inl (h.all (S:=fun _=>False) (KR.refl _ _).drew KO.none)⟩
def azt(T:Nat->Prop)(v:Value)(L':List Nat)(vs:List Value)(i:Nat)(x:Value)(w:World):Prop:=x=vs.getD i undef/\(i=7->Md w T v L')
theorem azt.stays{T:Nat->Prop}{v:Value}{L L':List Nat}{vs:List Value}(i:Nat)(x:Value)(w w':World)(h:azt T v L' vs i x w)(k:Qt T v L L' w w'):azt T v L' vs i x w':=⟨h.1,fun e=>k.2.1 (h.2 e)⟩
theorem Mv.of_eq{w:World}{T:Nat->Prop}{v:Value}{l m:List Nat}(e:m=l)(h:Mv w T v l):Mv w T v m:=e ▸ h
theorem aDb{ρ:Operand->Value}{o:Oper}{w w0:World}{T:Nat->Prop}{v:Value}{L:List Nat}{n k s:Nat}{c:Call}{x y:Operand}{vs:List Value}(ho:o.op = .call c)(hc:c={ callee:=.builtin .copy,args:=#[x,y],argTypes:=#[26,26] })(hx:ρ x=MO (MO v 0 n n) k (n-0) (n-0))(hy:ρ y=MO (MO v 0 n n) 0 k (n-0))
  (hL:L.length=n) (hk:k<=n) (ht:L.take k=List.replicate k s) (h0:Md w0 T v L) (hR:Qt T v L (Qu L n k) w0 w) (hvs:vs.getD 7 undef = .int .i64 ((min (n-k) k:Nat):Int)) :
  Lg Tryz.prog ρ o w (fun r w'=>azt T v (Qu L n k) vs 7 r w'/\Qt T v L (Qu L n k) w w'):=by
 have main:∀ M:List Nat,Md w T v M->M.length=n->Qu M n k=Qu L n k->Lg Tryz.prog ρ o w (fun r w'=>azt T v (Qu L n k) vs 7 r w'/\Qt T v L (Qu L n k) w w'):=by
  intro M hM hMl he
  have hb:Mv w T (MO (MO v 0 n n) 0 k (n-0)) ((((M.drop 0).take (n-0)).drop 0).take (k-0)):=by
   have h1:Mv w T (MO v 0 n n) ((M.drop 0).take (n-0)):=hM.byt.sub (by omega) (by omega) (by omega) (by have:=hM.byt.cap;omega)
   have hcap:aCv (MO v 0 n n)=n-0:=by
    obtain⟨a,e⟩:=VN hM.byt 0 n n
    rw[e];rfl
   exact h1.sub (by omega) (by omega) (by simp;omega) (by rw[hcap];omega)
  obtain⟨w',hr,h1,h2⟩:=XJ (off:=0+k) (n:=n-0-k) ho hc (by rw[hx];exact XY hM.byt (Nat.le_refl _) (Nat.le_refl _) rfl) hy hM hb (by omega)
  have h1':Md w' T v (Qu L n k):=by rw[← he];exact h1
  refine Nf hr ⟨⟨?_,fun _=>h1'⟩,h2,fun _=>h1',fun _=>.inr h1'⟩
  rw[hvs]
  congr 2
  simp;omega
 rcases hR.2.2 h0 with h|h
 ·exact main L h hL rfl
 ·exact main _ h (S5 hL hk) (ay3 hL hk ht)
theorem aCZ{ρ:Operand->Value}{o:Oper}{w w0:World}{R:Value->World->Prop}{T:Nat->Prop}{v:Value}{L:List Nat}{n k:Nat}{x lo:Operand}(ho:o.op = .slice 26 x (some lo) none none)(hx:ρ x=MO v 0 n n)(hl:ρ lo = .int .i64 (k:Int))(hk:k<=n)(h0:Md w0 T v L)(hR:Qt T v L (Qu L n k) w0 w)(h:R (MO (MO v 0 n n) k (n-0) (n-0)) w):Lg Tryz.prog ρ o w R:=by
 rcases hR.2.2 h0 with hb|hb
 ·exact Yp k ho hx hl rfl hb.byt (by omega) h
 ·exact Yp k ho hx hl rfl hb.byt (by omega) h
theorem aCp{ρ:Operand->Value}{o:Oper}{w w0:World}{R:Value->World->Prop}{T:Nat->Prop}{v:Value}{L:List Nat}{n k:Nat}{x hi:Operand}(ho:o.op = .slice 26 x none (some hi) none)(hx:ρ x=MO v 0 n n)(hl:ρ hi = .int .i64 (k:Int))(hk:k<=n)(h0:Md w0 T v L)(hR:Qt T v L (Qu L n k) w0 w)(h:R (MO (MO v 0 n n) 0 k (n-0)) w):Lg Tryz.prog ρ o w R:=by
 rcases hR.2.2 h0 with hb|hb
 ·exact aAm k ho hx hl rfl hb.byt (by omega) h
 ·exact aAm k ho hx hl rfl hb.byt (by omega) h
theorem UV{n:Nat}(h:n<18446744073709551616):IntKind.u64.wrap ((n:Nat):Int)=((n:Nat):Int):=by
 unfold IntKind.wrap;simp[IntKind.signed,IntKind.bits];omega
theorem aAb{a b:Nat}(h:a*b<18446744073709551616):IntKind.u64.wrap ((a:Int)*(b:Int))=((a*b:Nat):Int):=by rw[← Int.natCast_mul];exact UV h
theorem aCV{n:Nat}(h:n<4294967296):bits .and .u64 ((n:Nat):Int) 4294967295=((n:Nat):Int):=by
 have e:=u64_and_nat n 4294967295 (by omega) (by omega)
 rw[show ((4294967295:Nat):Int)=4294967295 from rfl] at e
 rw[e,show (4294967295:Nat)=2 ^ 32-1 from rfl,Nat.and_two_pow_sub_one_eq_mod,Nat.mod_eq_of_lt (by simpa using h)]
theorem Zl{n:Nat}(h:n<4294967296):((n:Nat):Int)/2 ^ 32=((0:Nat):Int):=by
 have:(2:Int) ^ 32=4294967296:=by decide
 rw[this];omega
open Go.RowKit
theorem aB3(x y:Nat)(w0:World)(hx:x<4294967296)(hy:y<4294967296)(hxy:x*y<4294967296) :
  Calls Tryz.prog 125 #[.int .u64 (((x:Nat):Int)),.int .u64 (((y:Nat):Int))] w0 fun e w'=>e = .returned (.tuple #[.int .u64 (((0:Nat):Int)),.int .u64 (((x*y:Nat):Int))])/\KR (fun _=>False) w0 w':=by
 refine Ly (args:=[.int .u64 ((x:Nat):Int),.int .u64 ((y:Nat):Int)]) 51 Tryz.func125 rfl rfl (Nat.le_of_ble_eq_true rfl) ?_
 refine KM (KL (Lb (.int .u64 0) LE (Lb (.int .u64 0) LE (KQ ?_))))
 have s3:=K4 (.int .u64 ((x:Nat):Int))
 have s4:=K4 (.int .u64 ((y:Nat):Int))
 have s5:=K4 (undef)
 refine KK (KM (KL (K2 Lw s3 (KN (.int .u64 ((x:Nat):Int)) rr (W0 rfl rfl rfl (aCV hx) rr) (Lb (.int .u64 ((x:Nat):Int)) LE (KQ ?_))))))
 have ac:=K4 (.int .u64 ((x:Nat):Int))
 refine KK (KM (KL (K2 Lw s3 (KN (.int .u64 ((0:Nat):Int)) rr (SD 32 rfl rfl rfl (by decide) (Zl hx) rr) (Lb (.int .u64 ((0:Nat):Int)) LE (KQ ?_))))))
 have ae:=K4 (.int .u64 ((0:Nat):Int))
 refine KK (KM (KL (K2 Lw s4 (KN (.int .u64 ((y:Nat):Int)) rr (W0 rfl rfl rfl (aCV hy) rr) (Lb (.int .u64 ((y:Nat):Int)) LE (KQ ?_))))))
 have af:=K4 (.int .u64 ((y:Nat):Int))
 refine KK (KM (KL (K2 Lw s4 (KN (.int .u64 ((0:Nat):Int)) rr (SD 32 rfl rfl rfl (by decide) (Zl hy) rr) (Lb (.int .u64 ((0:Nat):Int)) LE (KQ ?_))))))
 have ah:=K4 (.int .u64 ((0:Nat):Int))
 refine KK (KM (KL (K2 Lw ac (K2 Lw af (KN (.int .u64 ((x*y:Nat):Int)) rr (Nb rfl rfl rfl (aAb (by omega)) rr) (Lb (.int .u64 ((x*y:Nat):Int)) LE (KQ ?_)))))))
 have ak:=K4 (.int .u64 ((x*y:Nat):Int))
 refine KK (KM (KL (K2 Lw ae (K2 Lw af (KN (.int .u64 ((0:Nat):Int)) rr (Nb rfl rfl rfl (by rw[show ((0:Nat):Int)*((y:Nat):Int)=((0:Nat):Int) by simp];rfl) rr) (K2 Lw ak (KN (.int .u64 ((0:Nat):Int)) rr (SD 32 rfl rfl rfl (by decide) (Zl hxy) rr) (KN (.int .u64 ((0:Nat):Int)) rr (LS rfl rfl rfl rfl rr) (Lb (.int .u64 ((0:Nat):Int)) LE (KQ ?_))))))))))
 have ai:=K4 (.int .u64 ((0:Nat):Int))
 refine KK (KM (KL (K2 Lw ai (KN (.int .u64 ((0:Nat):Int)) rr (W0 rfl rfl rfl (aCV (by decide)) rr) (Lb (.int .u64 ((0:Nat):Int)) LE (KQ ?_))))))
 have am:=K4 (.int .u64 ((0:Nat):Int))
 refine KK (KM (KL (K2 Lw ai (KN (.int .u64 ((0:Nat):Int)) rr (SD 32 rfl rfl rfl (by decide) (Zl (by decide)) rr) (Lb (.int .u64 ((0:Nat):Int)) LE (KQ ?_))))))
 have an:=K4 (.int .u64 ((0:Nat):Int))
 refine KK (KM (KL (K2 Lw am (K2 Lw ac (K2 Lw ah (KN (.int .u64 ((0:Nat):Int)) rr (Nb rfl rfl rfl (by rw[show ((x:Nat):Int)*((0:Nat):Int)=((0:Nat):Int) by simp];rfl) rr) (KN (.int .u64 ((0:Nat):Int)) rr (LS rfl rfl rfl rfl rr) (Lb (.int .u64 ((0:Nat):Int)) LE (KQ ?_)))))))))
 have ao:=K4 (.int .u64 ((0:Nat):Int))
 refine KK (KM (KL (K2 Lw ae (K2 Lw ah (KN (.int .u64 ((0:Nat):Int)) rr (Nb rfl rfl rfl rfl rr) (K2 Lw an (KN (.int .u64 ((0:Nat):Int)) rr (LS rfl rfl rfl rfl rr) (K2 Lw ao (KN (.int .u64 ((0:Nat):Int)) rr (SD 32 rfl rfl rfl (by decide) (Zl (by decide)) rr) (KN (.int .u64 ((0:Nat):Int)) rr (LS rfl rfl rfl rfl rr) (Lb (.int .u64 ((0:Nat):Int)) LE ?_)))))))))))
 refine KQ ?_
 have ap:=K4 (.int .u64 ((0:Nat):Int))
 refine KK (KM (KL (K2 Lw s3 (K2 Lw s4 (KN (.int .u64 ((x*y:Nat):Int)) rr (Nb rfl rfl rfl (aAb (by omega)) rr) (Lb (.int .u64 ((x*y:Nat):Int)) LE (KQ ?_)))))))
 have aq:=K4 (.int .u64 ((x*y:Nat):Int))
 refine KK (Le ?_)
 exact Mo s5 rfl (LF (v:=.int .u64 ((0:Nat):Int)) rfl ap) (LF (v:=.int .u64 ((x*y:Nat):Int)) rfl aq) ⟨rfl,(KR.refl (fun _=>False) w0)⟩
theorem aFg(x y:Nat)(w0:World)(hx:x<4294967296)(hy:y<4294967296)(hxy:x*y<4294967296) :
  Calls Tryz.prog 92 #[.int .u64 (((x:Nat):Int)),.int .u64 (((y:Nat):Int))] w0 fun e w'=>e = .returned (.tuple #[.int .u64 (((0:Nat):Int)),.int .u64 (((x*y:Nat):Int))])/\KR (fun _=>False) w0 w':=by
 refine Ly (args:=[.int .u64 ((x:Nat):Int),.int .u64 ((y:Nat):Int)]) 30 Tryz.func92 rfl rfl (Nat.le_of_ble_eq_true rfl) ?_
 refine KM (KL (Lb (.int .u64 0) LE (Lb (.int .u64 0) LE (KQ ?_))))
 have s3:=K4 (.int .u64 ((x:Nat):Int))
 have s4:=K4 (.int .u64 ((y:Nat):Int))
 have s5:=K4 (undef)
 refine KK (KM ?_)
 refine K5 (t:=false) rfl (fun e=>by cases e) (fun _=>?_)
 refine Lf (KK (KM (KL (K2 Lw s3 (K2 Lw s4 (L9 rfl rfl rfl rfl rfl (fun _ _=>by kernel_rfl) (Lo rfl (Lo rfl L5)) (aB3 x y  _ hx hy hxy  ) fun w6 k7=>?_))))))
 refine KN (.tuple #[.int .u64 ((0:Nat):Int),.int .u64 ((x*y:Nat):Int)]) rr (KT rfl rfl rr) (KN (.int .u64 ((0:Nat):Int)) rr (LY rfl rfl rfl rr) (KN (.int .u64 ((x*y:Nat):Int)) rr (LY rfl rfl rfl rr) (Lb (.int .u64 ((0:Nat):Int)) LE (Lb (.int .u64 ((x*y:Nat):Int)) LE (KQ ?_)))))
 have af:=K4 (.int .u64 ((0:Nat):Int))
 have ah:=K4 (.int .u64 ((x*y:Nat):Int))
 refine KK (KM (KL (K2 Lw af (K2 Lw ah (Lb (.int .u64 ((0:Nat):Int)) LE (Lb (.int .u64 ((x*y:Nat):Int)) LE (KQ ?_)))))))
 have ai:=K4 (.int .u64 ((0:Nat):Int))
 have aj:=K4 (.int .u64 ((x*y:Nat):Int))
 refine KK (Le ?_)
 exact Mo s5 rfl (LF (v:=.int .u64 ((0:Nat):Int)) rfl ai) (LF (v:=.int .u64 ((x*y:Nat):Int)) rfl aj) ⟨rfl,((KR.refl (fun _=>False) w0).tr k7)⟩
theorem aA8(v:Value)(l:List Nat)(s n:Nat)(T_b:Nat->Prop)(w0:World)(hl:l.length=1)(hs:l.getD 0 0=s)(hn:1<=n)(hn2:n<=64)(h_b:Mv w0 T_b v (l)) :
  Calls Tryz.prog 54 #[v,.int .i64 (((n:Nat):Int))] w0 fun e w'=>∃ (v1:Value) (T1:Nat->Prop),e = .returned (v1)/\KR (fun _=>False) w0 w'/\(Mv w' T1 v1 (List.replicate n s)/\KS w0 Mb T1):=by
 refine Ly (args:=[v,iv ((n:Nat):Int)]) 77 Tryz.func54 rfl rfl (Nat.le_of_ble_eq_true rfl) ?_
 have g_b:=KS.refl w0 T_b
 refine KM (KL (Lb (.slice none 0 0) LE (KQ ?_)))
 have s3:=K4 (v)
 have s4:=K4 (iv ((n:Nat):Int))
 have s5:=K4 (undef)
 refine KK (KM (KM (KL (K2 Lw s4 (KN (.bool (decide (((n:Nat):Int)=0))) rr (MA rfl rfl rfl rfl rr) (KQ ?_))))))
 have aW:=K4 (.bool (decide (((n:Nat):Int)=0)))
 refine KK ?_
 refine K5 aW (fun af=>?_) (fun af=>?_)
 ·replace af:=of_decide_eq_true af
  refine KM ?_
  exfalso;omega
 ·replace af:=of_decide_eq_false af
  refine Lf (KK (KM (KM (KL (K2 Lw s4 (KN (.bool (decide (((n:Nat):Int)<0))) rr (Mc rfl rfl rfl rfl rr) (KQ ?_)))))))
  have aX:=K4 (.bool (decide (((n:Nat):Int)<0)))
  refine KK ?_
  refine K5 aX (fun ah=>?_) (fun ah=>?_)
  ·replace ah:=of_decide_eq_true ah
   exfalso;omega
  ·replace ah:=of_decide_eq_false ah
   refine Lf (KK (KM (KL (K2 Lw s3 (KN (iv ((l.length:Nat):Int)) rr (Qv rfl rfl rfl h_b rr) (KN (.int .u64 ((l.length:Nat):Int)) rr (N1 rfl rfl Tryz.underlying3 Tryz.underlying101 (UV (by omega)) rr) (K2 Lw s4 (KN (.int .u64 ((n:Nat):Int)) rr (N1 rfl rfl Tryz.underlying3 Tryz.underlying101 (UV (by omega)) rr) (L9 rfl rfl rfl rfl rfl (fun _ _=>by kernel_rfl) (Lo rfl (Lo rfl L5)) (aFg (l.length) n  _ (by omega) (by omega) (by rw[hl];omega)  ) fun bF aE=>?_)))))))))
   have aw:=h_b.all aE KO.none
   have aF:=(KR.refl (fun _=>False) w0).tr aE
   refine KN (.tuple #[.int .u64 ((0:Nat):Int),.int .u64 (((l.length)*n:Nat):Int)]) rr (KT rfl rfl rr) (KN (.int .u64 ((0:Nat):Int)) rr (LY rfl rfl rfl rr) (KN (.int .u64 (((l.length)*n:Nat):Int)) rr (LY rfl rfl rfl rr) (Lb (.int .u64 ((0:Nat):Int)) LE (Lb (.int .u64 (((l.length)*n:Nat):Int)) LE (PQ fun az ap=>?_)))))
   obtain⟨aG,aY⟩:=t2 ap 0 s3 77 s5
   have aZ:az 5 = .int .u64 ((0:Nat):Int):=(ap 5).trans rfl
   have a8:az 6 = .int .u64 (((l.length)*n:Nat):Int):=(ap 6).trans rfl
   clear ap
   refine KK (KM (KM ?_))
   have aH:az 6 = .int .u64 ((n:Nat):Int):=a8.trans (congrArg (Value.int .u64) (by rw[hl,Nat.one_mul]))
   refine KL (K2 Lw aZ (KN (.bool false) rr (RN rfl rfl rfl rfl rr) (KN (.bool false) rr (KT rfl rfl rr) (Lj (.int .u64 ((n:Nat):Int)) 2 false 29 Li (KT rfl aH rr) (Lj (.bool (decide (9223372036854775807<((n:Nat):Int)))) 2 false 29 Li (RN rfl rfl rfl rfl rr) (KN (.bool (decide (9223372036854775807<((n:Nat):Int)))) rr (Lt rfl rfl rfl rr) (KQ ?_)))))))
   have a9:=K4 (.bool (decide (9223372036854775807<((n:Nat):Int))))
   refine KK ?_
   refine K5 a9 (fun ai=>?_) (fun ai=>?_)
   ·replace ai:=of_decide_eq_true ai
    exfalso;omega
   ·replace ai:=of_decide_eq_false ai
    refine Lf (KK (KM (KL (K2 Lw aH (KN (iv ((n:Nat):Int)) rr (N1 rfl rfl Tryz.underlying101 Tryz.underlying3 (Mn rfl (by omega)) rr) (Lb (iv ((n:Nat):Int)) LE (KQ ?_)))))))
    have aj:=K4 (iv ((n:Nat):Int))
    refine KK (KM (KM (KL (K2 Lw aG (KN (iv ((l.length:Nat):Int)) rr (Qv rfl rfl rfl aw rr) (KN (.bool (decide (((l.length:Nat):Int)=0))) rr (MA rfl rfl rfl rfl rr) (KQ ?_)))))))
    have ba:=K4 (.bool (decide (((l.length:Nat):Int)=0)))
    refine KK ?_
    refine K5 ba (fun ak=>?_) (fun ak=>?_)
    ·replace ak:=of_decide_eq_true ak
     refine KM ?_
     exfalso;omega
    ·replace ak:=of_decide_eq_false ak
     refine Lf (KK (KM (KL (K2 Lw aj (Lb (iv ((n:Nat):Int)) LE (KQ ?_))))))
     have aI:=K4 (iv ((n:Nat):Int))
     refine KK (KM (KM (KL (K2 Lw aI (KN (.bool (decide (8192<((n:Nat):Int)))) rr (RN rfl rfl rfl rfl rr) (KQ ?_))))))
     have bb:=K4 (.bool (decide (8192<((n:Nat):Int))))
     refine KK ?_
     refine K5 bb (fun am=>?_) (fun am=>?_)
     ·replace am:=of_decide_eq_true am
      refine KM ?_
      exfalso;omega
     ·replace am:=of_decide_eq_false am
      refine Lf (KK (KM (KL (K2 Lw aj (aE4 (n:=n) rfl rfl rfl rfl rfl (by omega) (by omega) Tryz.func93 (by kernel_rfl) (by kernel_rfl) (by kernel_rfl) (by kernel_rfl) fun aa bH bc J70 aA hJ71 aq aJ=>?_)))))
      have aK:=KS.new aF aq
      have aL:=KO.new aq aw.live
      have aM:=aw.all aJ KO.none
      refine K2 Lw aj (K2 Lw aj (KN (MO aa 0 n n) rr (aDz n n rfl rfl rfl rfl (by omega) (by omega) aA.byt (by omega) (by omega) rr) (Lb (MO aa 0 n n) LE (KQ ?_))))
      have aN:=K4 (MO aa 0 n n)
      refine KK (KM (KL (K2 Lw aN (K2 Lw aG (Ta rfl rfl rfl rfl rfl (Ul aA.byt (by omega)) rfl aA aM (by omega) fun bI bd aO=>?_)))))
      have be:=aM.all aO aL.symm
      refine Lb (iv ((min (n-0) l.length:Nat):Int)) LE (KQ ?_)
      have bf:=K4 (iv ((min (n-0) l.length:Nat):Int))
      refine KK (KM (Lm (M8 (fun nn FF ww=>∃ (k:Nat),∃ (L:List Nat),∃ (ab:Nat->Prop),(1<=k/\k<=n)/\(L.length=n)/\(L.take k=List.replicate k s)/\nn=n-k/\FF 7=iv ((n:Nat):Int)/\FF 8=iv ((n:Nat):Int)/\FF 9=MO aa 0 n n/\FF 77=undef/\FF 10=iv ((k:Nat):Int)/\KR (fun _=>False) w0 ww/\Mv ww T_b v l/\Md ww ab aa L/\KS w0 Mb ab/\KO ab T_b) (n-1) ⟨1,_,bc,by omega,(XE (by assumption) hn hl hs).1,(XE (by assumption) hn hl hs).2,rfl,aj,aI,aN,aY,bf.trans (congrArg (Value.int .i64) (by omega)),((aF.tr aJ).trans aO (KS.ok (S:=fun _=>False) aK KZ)),be,bd,aK,aL⟩ ?_)))
      rintro bJ bK bL ⟨k,L,ab,i103,hLn,hT,hn102,aP,aQ,ar,aR,au,aS,bg,ac,aB,aT⟩
      refine KM (KM (KL (K2 Lw au (K2 Lw aP (KN (.bool (decide (((k:Nat):Int)<((n:Nat):Int)))) rr (Mc rfl rfl rfl rfl rr) (KQ ?_))))))
      have bh:=K4 (.bool (decide (((k:Nat):Int)<((n:Nat):Int))))
      refine KK ?_
      refine K5 bh (fun an=>?_) (fun an=>?_)
      ·replace an:=of_decide_eq_true an
       refine Lf (KK (Lm (KM (KL (K2 Lw au (K2 Lw aQ (KN (iv ((k:Nat):Int)) rr (RB rfl rfl rfl (by omega) rr) (Lb (iv ((k:Nat):Int)) LE (KQ ?_)))))))))
       have bi:=K4 (iv ((k:Nat):Int))
       refine KK ?_
       refine aCP 9 (Qt ab aa L (Qu L n k)) [some 67,some 68,some 69,some 70,some 71,some 72,some 73,some 74,some 75] (azt ab aa (Qu L n k) [iv (k:Int),MO aa 0 n n,iv (k:Int),MO (MO aa 0 n n) k (n-0) (n-0),MO aa 0 n n,iv (k:Int),MO (MO aa 0 n n) 0 k (n-0),iv ((min (n-k) k:Nat):Int),iv ((k+min (n-k) k:Nat):Int)]) (by kernel_rfl) (by kernel_rfl) (by kernel_rfl) Qt.refl (fun _ _ _ h1 h2=>h1.trans h2) (Qt.drew _) azt.stays ?_ ?_
       ·refine Oc rfl (fun F_ w_ hR hout hD=>?_) ?_
        ·exact KT rfl ((hout 10 rfl (by decide)).trans au) ⟨⟨rfl,fun e=>by cases e⟩,Qt.refl _⟩
        refine Oc rfl (fun F_ w_ hR hout hD=>?_) ?_
        ·exact KT rfl ((hout 9 rfl (by decide)).trans ar) ⟨⟨rfl,fun e=>by cases e⟩,Qt.refl _⟩
        refine Oc rfl (fun F_ w_ hR hout hD=>?_) ?_
        ·exact KT rfl ((hout 10 rfl (by decide)).trans au) ⟨⟨rfl,fun e=>by cases e⟩,Qt.refl _⟩
        refine Oc rfl (fun F_ w_ hR hout hD=>?_) ?_
        ·have aq:F_ 68=MO aa 0 n n:=(hD.get 0 rfl rfl rfl).1
         have bj:F_ 69=iv (k:Int):=(hD.get 1 rfl rfl rfl).1
         exact aCZ rfl aq bj (by omega) ac hR ⟨⟨rfl,fun e=>by cases e⟩,Qt.refl _⟩
        refine Oc rfl (fun F_ w_ hR hout hD=>?_) ?_
        ·exact KT rfl ((hout 9 rfl (by decide)).trans ar) ⟨⟨rfl,fun e=>by cases e⟩,Qt.refl _⟩
        refine Oc rfl (fun F_ w_ hR hout hD=>?_) ?_
        ·exact KT rfl ((hout 11 rfl (by decide)).trans bi) ⟨⟨rfl,fun e=>by cases e⟩,Qt.refl _⟩
        refine Oc rfl (fun F_ w_ hR hout hD=>?_) ?_
        ·have bl:F_ 71=MO aa 0 n n:=(hD.get 0 rfl rfl rfl).1
         have bm:F_ 72=iv (k:Int):=(hD.get 1 rfl rfl rfl).1
         exact aCp rfl bl bm (by omega) ac hR ⟨⟨rfl,fun e=>by cases e⟩,Qt.refl _⟩
        refine Oc rfl (fun F_ w_ hR hout hD=>?_) ?_
        ·have bn:F_ 70=MO (MO aa 0 n n) k (n-0) (n-0):=(hD.get 0 rfl rfl rfl).1
         have bo:F_ 73=MO (MO aa 0 n n) 0 k (n-0):=(hD.get 1 rfl rfl rfl).1
         exact aDb rfl rfl bn bo hLn (by omega) hT ac hR rfl
        refine Oc rfl (fun F_ w_ hR hout hD=>?_) ?_
        ·have bp:F_ 67=iv (k:Int):=(hD.get 0 rfl rfl rfl).1
         have bq:F_ 74=iv ((min (n-k) k:Nat):Int):=(hD.get 1 rfl rfl rfl).1
         exact LS rfl bp bq (LX (m:=k+min (n-k) k) (by omega) (by omega)) ⟨⟨rfl,fun e=>by cases e⟩,Qt.refl _⟩
        exact azA
       intro bM ao bN R133 aC ae
       have aU:=R133.1
       have bt:=(aC 7 (by decide)).2 rfl
       have bu:=bg.all aU aT.symm
       have bv:ao 7=iv ((n:Nat):Int):=(ae 7).trans aP
       have bz:ao 8=iv ((n:Nat):Int):=(ae 8).trans aQ
       have bA:ao 9=MO aa 0 n n:=(ae 9).trans ar
       have bB:ao 77=undef:=(ae 77).trans aR
       have bC:ao 75=iv ((k+min (n-k) k:Nat):Int):=(ae 75).trans (aC 8 (by decide)).1
       clear R133 aC ae
       refine aEv rfl rfl rfl bC (KQ ?_)
       have bD:=K4 (iv ((k+min (n-k) k:Nat):Int))
       refine Lz ?_
       exact KK ⟨(n-(k+min (n-k) k)),by omega,k+min (n-k) k,_,ab,by omega,S5 hLn (by omega),Xx hLn (by omega) hT,rfl,bv,bz,bA,bB,bD,(aS.trans aU (KS.ok (S:=fun _=>False) aB KZ)),bu,bt,aB,aT⟩
      ·replace an:=of_decide_eq_false an
       refine Mm (Lp (Lp (Mk (KK (KM (KL (K2 Lw ar (Lb (MO aa 0 n n) LE (KQ ?_)))))))))
       have bE:=K4 (MO aa 0 n n)
       refine KK (Le ?_)
       exact LC (v:=MO aa 0 n n) aR rfl rfl bE ⟨(MO aa 0 n n),ab,rfl,aS,⟨(Mv.of_eq (aBR (by omega) hT) ((ac.byt).sub (i:=0) (j:=n) (m:=n) (by omega) (by have hc_:=(ac.byt).cap;omega) (by omega) (by have hc_:=(ac.byt).cap;omega))),aB⟩⟩
open Go.RowKit
def MT(A s m:Nat):List Nat:=List.replicate m s++List.replicate (A-m) 0
theorem Ps{A s m:Nat}(h:m<=A):(MT A s m).length=A:=by unfold MT;simp;omega
theorem TG{A s pw:Nat}{l:List Nat}(h:l=List.replicate A 0):MT A s (0*pw)=l:=by rw[h];unfold MT;simp
theorem O5{A s:Nat}{l:List Nat}(h:l=List.replicate A s):l=MT A s A:=by rw[h];unfold MT;simp
theorem UW{A s a pw y:Nat}(hp:pw<=a) :
  MT A s ((y+1)*pw)=(MT A s (y*pw)).take ((((y:Nat):Int))*(((pw:Nat):Int))).toNat++((List.replicate a s).take ((((((y:Nat):Int))*(((pw:Nat):Int)))+(((pw:Nat):Int))).toNat-((((y:Nat):Int))*(((pw:Nat):Int))).toNat)++(MT A s (y*pw)).drop (((((y:Nat):Int))*(((pw:Nat):Int))).toNat+min ((((((y:Nat):Int))*(((pw:Nat):Int)))+(((pw:Nat):Int))).toNat-((((y:Nat):Int))*(((pw:Nat):Int))).toNat) (List.replicate a s).length)):=by
 have e1:((((y:Nat):Int))*(((pw:Nat):Int))).toNat=y*pw:=by rw[← Int.natCast_mul,Int.toNat_natCast]
 have e2:(((((y:Nat):Int))*(((pw:Nat):Int)))+(((pw:Nat):Int))).toNat=y*pw+pw:=by rw[← Int.natCast_mul,← Int.natCast_add,Int.toNat_natCast]
 rw[e1,e2,show y*pw+pw-y*pw=pw by omega,List.length_replicate,show min pw a=pw by omega,List.take_replicate,show min pw a=pw by omega,Nat.succ_mul]
 unfold MT
 rw[List.take_append_of_le_length (by simp),List.take_of_length_le (by simp),List.drop_append]
 simp only[List.length_replicate,List.drop_replicate]
 rw[show y*pw-(y*pw+pw)=0 by omega,show y*pw+pw-y*pw=pw by omega,show A-y*pw-pw=A-(y*pw+pw) by omega,List.replicate_zero,List.nil_append,← List.append_assoc,List.replicate_append_replicate]
theorem MZ{w h:Int}(s:Nat)(hsw:Mz w=true)(hsh:Mz h=true){a b:Nat}(ha:(a:Int)=w)(hb:(b:Int)=h):(LR w h s).p0=List.replicate (b*a) s/\(LR w h s).p1=List.replicate (b/2*(a/2)) s/\(LR w h s).p2=List.replicate (b/2*(a/2)) s:=by
 have h1:=(MK _).1 hsw
 have h2:=(MK _).1 hsh
 subst ha;subst hb
 rw[Qe s hsw hsh]
 have e0:((a:Int)*(b:Int)).toNat=b*a:=by rw[← Int.natCast_mul,Int.toNat_natCast,Nat.mul_comm]
 have e1:((a:Int)*(b:Int)/4).toNat=b/2*(a/2):=by
  rw[← Yx h1.2.2 h2.2.2 (by omega) (by omega),PH (by omega),PH (by omega),show (a:Int)/2=((a/2:Nat):Int) by omega,show (b:Int)/2=((b/2:Nat):Int) by omega,← Int.natCast_mul,Int.toNat_natCast,Nat.mul_comm]
 exact⟨congrArg (List.replicate · s) e0,congrArg (List.replicate · s) e1,congrArg (List.replicate · s) e1⟩
theorem aAj{w h:Int}(hsw:Mz w=true)(hsh:Mz h=true){g:FD}(hW:g.W=w)(hH:g.H=h)(h0:g.p0.length=(LR w h 0).p0.length)(h1:g.p1.length=(LR w h 0).p1.length)(h2:g.p2.length=(LR w h 0).p2.length)(k:Nat)(hk:k<=2){a b:Nat}(ha:(a:Int)=w)(hb:(b:Int)=h):Lc g ((k:Nat):Int)=(((Rc a (a/2) k:Nat):Int),((Rc b (b/2) k:Nat):Int)):=by
 have hn:=YE 0 hsw hsh
 have hg:PD g:=aEI hn (by rw[hW,(MC 0 hsw hsh).1]) (by rw[hH,(MC 0 hsw hsh).2]) h0 h1 h2
 have s1:=(MK _).1 hsw
 have s2:=(MK _).1 hsh
 cases k with
 | zero=>show Lc g 0=_;rw[Vp hg rfl,hW,hH,← ha,← hb];rfl
 | succ k =>
  rw[Vq hg (by omega) (by omega) (by omega),hW,hH,PH (by omega),PH (by omega)]
  simp only[Rc]
  congr 1 <;> omega
theorem WT{w h:Int}(hsw:Mz w=true)(hsh:Mz h=true){g:FD}(hW:g.W=w)(hH:g.H=h)(h0:g.p0.length=(LR w h 0).p0.length)(h1:g.p1.length=(LR w h 0).p1.length)(h2:g.p2.length=(LR w h 0).p2.length)(k:Nat)(hk:k<=2){a b:Nat}(ha:(a:Int)=w)(hb:(b:Int)=h):(Lc g ((k:Nat):Int)).1=((Rc a (a/2) k:Nat):Int):=by rw[aAj hsw hsh hW hH h0 h1 h2 k hk ha hb]
theorem W4{w h:Int}(hsw:Mz w=true)(hsh:Mz h=true){g:FD}(hW:g.W=w)(hH:g.H=h)(h0:g.p0.length=(LR w h 0).p0.length)(h1:g.p1.length=(LR w h 0).p1.length)(h2:g.p2.length=(LR w h 0).p2.length)(k:Nat)(hk:k<=2){a b:Nat}(ha:(a:Int)=w)(hb:(b:Int)=h):(Lc g ((k:Nat):Int)).2=((Rc b (b/2) k:Nat):Int):=by rw[aAj hsw hsh hW hH h0 h1 h2 k hk ha hb]
theorem Wo{y pw ph:Nat}(h:y<ph)(hp:pw<=64)(hh:ph<=64):y*pw+pw<=ph*pw/\0<=((y:Nat):Int)*((pw:Nat):Int)/\((y:Nat):Int)*((pw:Nat):Int)<=4096/\((y:Nat):Int)*((pw:Nat):Int)+((pw:Nat):Int)<=((ph*pw:Nat):Int):=by
 have h1:(y+1)*pw<=ph*pw:=Nat.mul_le_mul_right _ h
 rw[Nat.succ_mul] at h1
 have h2:y*pw<=64*64:=Nat.mul_le_mul (by omega) hp
 rw[← Int.natCast_mul]
 omega
theorem aCe(w h:Int)(s:Nat)(w0:World)(hs:s<256) :
  Calls Tryz.prog 25 #[.int .i64 (w),.int .i64 (h),.int .u8 (((s:Nat):Int))] w0 fun e w'=>∃ (v1:Value) (T1:Nat->Prop) (v2:Value) (T2:Nat->Prop) (v3:Value) (T3:Nat->Prop),e = .returned (.tuple #[.agg #[.int .i64 ((LR w h s).W),.int .i64 ((LR w h s).H),v1,v2,v3],.int .i64 (SF w h)])/\KR (fun _=>False) w0 w'/\(Md w' T1 v1 ((LR w h s).p0)/\KS w0 Mb T1)/\(Md w' T2 v2 ((LR w h s).p1)/\KS w0 Mb T2)/\(Md w' T3 v3 ((LR w h s).p2)/\KS w0 Mb T3)/\KO T1 T2/\KO T1 T3/\KO T2 T3:=by
 refine Ly (args:=[iv w,iv h,.int .u8 ((s:Nat):Int)]) 55 Tryz.func25 rfl rfl (Nat.le_of_ble_eq_true rfl) ?_
 have K0:=KR.refl (fun _=>False) w0
 refine KM (KL (LN (n:=5) (vs:=[iv 0,iv 0,.slice none 0 0,.slice none 0 0,.slice none 0 0]) rfl rfl rfl (by kernel_rfl) fun p1 w2 B4 g5 k3=>?_))
 have aZ:=KS.new K0 g5
 have K7:=K0.tr k3
 refine Lb (iv 0) LE (KQ ?_)
 have aw:=K4 (iv w)
 have a9:=K4 (iv h)
 have dP:=K4 (.int .u8 ((s:Nat):Int))
 have ba:=K4 (undef)
 have az:=K4 (pt p1 0)
 refine KK (KM (KM ?_))
 rcases Bool.eq_false_or_eq_true (Mz w) with aE|aE
 ·skip
  rcases Bool.eq_false_or_eq_true (Mz h) with bb|bb
  ·skip
   refine KL (K2 Lw aw (LH (R:=fun v_ w_=>v_ = .bool true/\KR (fun _=>False) w2 w_) rfl rfl (LQ rfl rfl rfl (fun _ _=>by kernel_rfl) (K6 _) (Lo rfl L5) (P0 w  _   ) (fun e_ w_ h_=>⟨_,h_.1,(congrArg Value.bool aE),h_.2⟩)) ?_))
   rintro _ dQ ⟨rfl,bN⟩
   have dR:=B4.all bN id
   refine KN (.bool false) rr (Mq rfl rfl rfl rr) (KN (.bool false) rr (KT rfl rfl rr) (Lj (iv h) 3 false 17 Li (KT rfl a9 rr) (LZ (R:=fun v_ w_=>v_ = .bool true/\KR (fun _=>False) dQ w_) 3 false 17 rfl rfl rfl rfl rfl (LQ rfl rfl rfl (fun _ _=>by kernel_rfl) (K6 _) (Lo rfl L5) (P0 h  _   ) (fun e_ w_ h_=>⟨_,h_.1,(congrArg Value.bool bb),h_.2⟩)) ?_)))
   rintro _ aF ⟨rfl,bO⟩
   have aG:=dR.all bO id
   have aH:=(K7.tr bN).tr bO
   refine Lj (.bool false) 3 false 17 Li (Mq rfl rfl rfl rr) (KN (.bool false) rr (Lt rfl rfl rfl rr) (KQ ?_))
   have dS:=K4 (.bool false)
   refine KK ?_
   refine K5 (t:=false) dS (fun e=>by cases e) (fun _=>?_)
   refine Lf (KK (KM ?_))
   have hsw:Mz w=true:=by assumption
   have hsh:Mz h=true:=by assumption
   have hws:=(MK _).1 hsw
   have hhs:=(MK _).1 hsh
   obtain⟨a,ha⟩:∃ n:Nat,(n:Int)=w:=⟨w.toNat,by omega⟩
   obtain⟨b,hb⟩:∃ n:Nat,(n:Int)=h:=⟨h.toNat,by omega⟩
   refine KL (K2 Lw aw (K2 Lw a9 (LH (R:=fun v_ w_=>∃ (aa:Value) (ap:Nat->Prop) (ab:Value) (an:Nat->Prop) (ac:Value) (aj:Nat->Prop),.agg #[iv ((LR w h 0).W),iv ((LR w h 0).H),aa,ab,ac]=v_/\KR (fun _=>False) aF w_/\(Md w_ ap aa ((LR w h 0).p0)/\KS aF Mb ap)/\(Md w_ an ab ((LR w h 0).p1)/\KS aF Mb an)/\(Md w_ aj ac ((LR w h 0).p2)/\KS aF Mb aj)/\KO ap an/\KO ap aj/\KO an aj) rfl rfl (LQ rfl rfl rfl (fun _ _=>by kernel_rfl) (K6 _) (Lo rfl (Lo rfl L5)) (Zf w h  _ hsw hsh  ) (fun e_ w_ h_=>by obtain⟨v33_,T38_,v34_,T39_,v35_,T40_,he_,hr_⟩:=h_;exact⟨_,he_,v33_,T38_,v34_,T39_,v35_,T40_,rfl,hr_⟩)) ?_)))
   rintro _ io ⟨aa,ap,ab,an,ac,aj,rfl,bP,⟨bQ,bR⟩,⟨bS,bT⟩,⟨bU,bV⟩,dT,dU,dV⟩
   have bW:=aG.all bP id
   have bX:=aH.tr bP
   have dW:=KO.new bR (L8 aG.lt)
   have dX:=KO.new bT (L8 aG.lt)
   have dY:=KO.new bV (L8 aG.lt)
   refine LN (n:=5) (vs:=[iv 0,iv 0,.slice none 0 0,.slice none 0 0,.slice none 0 0]) rfl rfl rfl (by kernel_rfl) fun ae ip dZ bY bZ=>?_
   obtain⟨d8,b7,b8,b9⟩:=WI bY bW bQ bS bU
   obtain⟨d9,cd,ce,cf⟩:=Pg bZ bW bQ bS bU
   refine Ll (us:=[iv ((LR w h 0).W),iv ((LR w h 0).H),aa,ab,ac]) La rfl rfl rfl rfl rfl dZ rfl (Qc rr (L4 cd.one (L4 ce.one (L4 cf.one MX)))) fun iq eb aA=>?_
   have ee:=d9.all aA (d8.symm p1 rfl)
   have cg:=cd.all aA b7.symm
   have ci:=ce.all aA b8.symm
   have cj:=cf.all aA b9.symm
   refine PQ fun cm bc=>?_
   obtain⟨eh,ei,en,eo⟩:=t4 bc 0 aw 2 dP 55 ba 6 az
   have cn:cm 8=pt ae 0:=(bc 8).trans rfl
   clear bc
   refine KK (KM ?_)
   have ep:cm 0=iv ((a:Nat):Int):=eh.trans (congrArg (Value.int .i64) (ha.symm))
   refine KL (K2 Lw ei (O0 (n:=s) rfl rfl rfl rfl (by omega) (by omega) fun aI co aq cq er cr=>?_))
   obtain⟨et,eu,ew⟩:=Us er cg ci cj
   obtain⟨ex,ct,cu,cv,ey⟩:=O6 cr ee cg ci cj eb
   refine K2 Lw ep (LH (R:=fun v_ w_=>∃ (am:Value) (ao:Nat->Prop),am=v_/\KR (fun _=>False) co w_/\(Mv w_ ao am (List.replicate a s)/\KS co Mb ao)) rfl rfl (LQ rfl rfl rfl (fun _ _=>by kernel_rfl) (K6 _) (Lo rfl (Lo rfl L5)) (aA8 aI ([s]) s a aq _ rfl rfl (by omega) (by omega) cq.byt ) (fun e_ w_ h_=>by obtain⟨v107_,T110_,he_,hr_⟩:=h_;exact⟨_,he_,v107_,T110_,rfl,hr_⟩)) ?_)
   rintro _ iu ⟨am,ao,rfl,cw,⟨ez,eA⟩⟩
   obtain⟨eB,cy,cz,cA,cB,eC⟩:=Qh cw ex ct cu cv ey cq
   obtain⟨eD,eE,eF⟩:=Us eA ct cu cv
   refine Lb am LE (KQ ?_)
   have eG:=K4 (am)
   refine KK (KM (KM (KL (KN (iv 0) rr (KT rfl rfl rr) (KQ ?_)))))
   have bd:=K4 (iv 0)
   refine KK (Lm (OL 4 (Mh (KM (KL (KN (.bool true) rr (Mc rfl bd rfl rfl rr) (KQ ?_)))))))
   have eH:=K4 (.bool true)
   refine KK (KM ?_)
   refine K5 (t:=true) eH (fun _=>?_) (fun e=>by cases e)
   refine Lf (KK (KM (Lm (KM (KL (K2 Lw bd (Lb (iv 0) LE (KQ ?_))))))))
   have cC:=K4 (iv 0)
   refine KK (KM (KL (KN (.agg #[iv ((LR w h 0).W),iv ((LR w h 0).H),aa,ab,ac]) rr (KX La rfl cn cB rr) (K2 Lw cC (L9 rfl rfl rfl rfl rfl (fun _ _=>by kernel_rfl) (Lo rfl (Lo rfl L5)) (Uh 0 (LR w h 0) aa ab ac ap an aj _  cy.byt cz.byt cA.byt ) fun iw cD=>?_)))))
   obtain⟨eI,eJ,eK,eL,eM,eN,eO⟩:=Uc cD eB cy cz cA cB eC ez
   refine KN (.tuple #[iv ((Lc (LR w h 0) 0).1),iv ((Lc (LR w h 0) 0).2)]) rr (KT rfl rfl rr) (KN (iv ((Lc (LR w h 0) 0).1)) rr (LY rfl rfl rfl rr) (KN (iv ((Lc (LR w h 0) 0).2)) rr (LY rfl rfl rfl rr) (Lb (iv ((Lc (LR w h 0) 0).1)) LE (Lb (iv ((Lc (LR w h 0) 0).2)) LE (PQ fun aJ aK=>?_)))))
   obtain⟨eP,eQ,eR,eS,eT,eU⟩:=t6 aK 55 en 6 eo 8 cn 9 eG 30 bd 10 cC
   have eV:aJ 11=iv ((Lc (LR w h 0) 0).1):=(aK 11).trans rfl
   have eW:aJ 12=iv ((Lc (LR w h 0) 0).2):=(aK 12).trans rfl
   clear aK
   refine KK (KM ?_)
   obtain⟨pw0,hpw0⟩:∃ q,q=Rc a (a/2) 0:=⟨_,rfl⟩
   obtain⟨ph0,hph0⟩:∃ q,q=Rc b (b/2) 0:=⟨_,rfl⟩
   have cF:(LR w h 0).p0=List.replicate (ph0*pw0) 0:=by rw[hpw0,hph0];first|exact(MZ 0 hsw hsh ha hb).1|exact(MZ 0 hsw hsh ha hb).2.1|exact(MZ 0 hsw hsh ha hb).2.2
   have hE0:(LR w h s).p0=List.replicate (ph0*pw0) s:=by rw[hpw0,hph0];first|exact(MZ s hsw hsh ha hb).1|exact(MZ s hsw hsh ha hb).2.1|exact(MZ s hsw hsh ha hb).2.2
   have hB0:pw0<=a/\pw0<=64/\ph0<=64:=by have e1:=Si a (a/2) 0;have e2:=Si b (b/2) 0;omega
   have eX:aJ 11=iv ((pw0:Nat):Int):=eV.trans (congrArg (Value.int .i64) (by rw[hpw0];(refine WT hsw hsh ?_ ?_ ?_ ?_ ?_ 0 (by decide) ha hb <;> first|exact(MC 0 hsw hsh).1|exact(MC 0 hsw hsh).2|exact hl0|exact hl1|rfl)))
   have eY:aJ 12=iv ((ph0:Nat):Int):=eW.trans (congrArg (Value.int .i64) (by rw[hph0];(refine W4 hsw hsh ?_ ?_ ?_ ?_ ?_ 0 (by decide) ha hb <;> first|exact(MC 0 hsw hsh).1|exact(MC 0 hsw hsh).2|exact hl0|exact hl1|rfl)))
   refine KL (K2 Lw eY (KN (iv 0) rr (KT rfl rfl rr) (KQ ?_)))
   have eZ:=K4 (iv ((ph0:Nat):Int))
   have e6:=K4 (iv 0)
   refine KK (Lm (M8 (fun nn FF ww=>∃ (y:Nat),∃ (af:Nat->Prop),(y<=ph0)/\nn=ph0-y/\FF 6=pt p1 0/\FF 8=pt ae 0/\FF 9=am/\FF 10=iv 0/\FF 11=iv ((pw0:Nat):Int)/\FF 30=iv 0/\FF 39=iv ((ph0:Nat):Int)/\FF 55=undef/\FF 40=iv ((y:Nat):Int)/\KR (fun _=>False) w0 ww/\MJ ww p1 29 [iv 0,iv 0,.slice none 0 0,.slice none 0 0,.slice none 0 0]/\Md ww af aa (MT (ph0*pw0) s (y*pw0))/\Md ww an ab ((LR w h 0).p1)/\Md ww aj ac ((LR w h 0).p2)/\MJ ww ae 29 [iv ((LR w h 0).W),iv ((LR w h 0).H),aa,ab,ac]/\Md ww aq aI ([s])/\Mv ww ao am (List.replicate a s)/\KS w0 Mb af/\KO af (Lh p1)/\KO af an/\KO af aj/\KO af (Lh ae)/\KO af aq/\KO af ao) (ph0-0) ⟨0,ap,by omega,rfl,eQ,eR,eS,eU,eX,eT,eZ,eP,e6,(((((bX.tr bZ).trans aA (KS.ok (S:=fun _=>False) (KS.new bX bY) KZ)).tr cr).tr cw).tr cD),eI,Md.of_eq (TG cF) eJ,eK,eL,eM,eN,eO,(KS.new aH bR),dW,dT,dU,b7.symm,et.symm,eD.symm⟩ ?_))
   rintro iy iz iA ⟨y,af,i194,hn193,cI,aL,be,cJ,cK,cL,cM,cN,bf,cO,cP,aM,bg,bh,aN,cQ,cR,bi,bj,bl,bm,cS,cT,cU⟩
   refine KM (KL (KN (.bool (decide (((y:Nat):Int)<((ph0:Nat):Int)))) rr (Mc rfl bf cM rfl rr) (KQ ?_)))
   have e7:=K4 (.bool (decide (((y:Nat):Int)<((ph0:Nat):Int))))
   refine KK (KM ?_)
   refine K5 e7 (fun aB=>?_) (fun aB=>?_)
   ·replace aB:=of_decide_eq_true aB
    refine Lf (KK (KM (Lm (KM (KL (K2 Lw bf (Lb (iv ((y:Nat):Int)) LE (KQ ?_))))))))
    have e8:=K4 (iv ((y:Nat):Int))
    refine KK ?_
    have hz:=Wo (y:=y) (pw:=pw0) (ph:=ph0) (by omega) hB0.2.1 hB0.2.2
    have hfl:(MT (ph0*pw0) s (y*pw0)).length=ph0*pw0:=Ps (by omega)
    refine KL (K2 Lw cJ (KN (pt ae 2) rr (KU (n:=3) rfl aL Tryz.underlying29 rfl (by kernel_rfl) (by decide) rfl rr) (KN (pt ae 2) rr (L3 0 (s:=1) rfl rfl rfl (by omega) Tryz.underlying27 (by omega) (by kernel_rfl) (by omega) rr) (KN aa rr (KY rfl rfl Tryz.underlying26 aN rfl rfl rr) (K2 Lw cK (K2 Lw e8 (L9 rfl rfl rfl rfl rfl (fun _ _=>by kernel_rfl) (Lo rfl (Lo rfl (Lo rfl L5))) (TT aa (MT (ph0*pw0) s (y*pw0)) ((pw0:Nat):Int) ((y:Nat):Int) af _ (by omega) (by omega) (by rw[hfl];exact hz.2.2.2) (by omega) aM.byt ) fun iB cV=>?_)))))))
    obtain⟨e9,cW,fa,fb,fc,fd,cX⟩:=Uc cV cP aM bg bh aN cQ cR
    refine K2 Lw be (Ta rfl rfl rfl rfl rfl (Ul cW.byt (by omega)) rfl cW cX (by rw[hfl];omega) fun iC fe ar=>?_)
    have ff:=e9.all ar (bj.symm p1 rfl)
    have fg:=fa.all ar bl.symm
    have fh:=fb.all ar bm.symm
    have fi:=fc.all ar (cS.symm ae rfl)
    have fj:=fd.all ar cT.symm
    have fk:=cX.all ar cU.symm
    refine KQ ?_
    refine Lz (KK (KL (KN (iv ((y+1:Nat):Int)) rr (LS rfl bf rfl (LX (by omega) (by omega)) rr) (KN (iv ((y+1:Nat):Int)) rr (KT rfl rfl rr) (KQ ?_)))))
    have fm:=K4 (iv ((y+1:Nat):Int))
    exact KK ⟨(ph0-(y+1)),by omega,y+1,af,by omega,rfl,cI,aL,be,cJ,cK,cL,cM,cN,fm,((cO.tr cV).trans ar (KS.ok (S:=fun _=>False) bi KZ)),ff,Md.of_eq (UW hB0.1) fe,fg,fh,fi,fj,fk,bi,bj,bl,bm,cS,cT,cU⟩
   ·replace aB:=of_decide_eq_false aB
    refine Mm (Lp (Lp ?_))
    have fo:ph0=y:=by omega
    subst fo
    have hl0:(MT (ph0*pw0) s (ph0*pw0)).length=(LR w h 0).p0.length:=by rw[Ps (Nat.le_refl _),cF,List.length_replicate]
    refine Mk (Lz (KK (KL (KN (iv ((1:Nat):Int)) rr (LS rfl cL rfl (LX (by omega) (by omega)) rr) (KN (iv ((1:Nat):Int)) rr (KT rfl rfl rr) (KQ ?_))))))
    have bn:=K4 (iv ((1:Nat):Int))
    refine KK (Mh (KM (KL (KN (.bool true) rr (Mc rfl bn rfl rfl rr) (KQ ?_)))))
    have fp:=K4 (.bool true)
    refine KK (KM ?_)
    refine K5 (t:=true) fp (fun _=>?_) (fun e=>by cases e)
    refine Lf (KK (KM (Lm (KM (KL (K2 Lw bn (Lb (iv ((1:Nat):Int)) LE (KQ ?_))))))))
    have cY:=K4 (iv ((1:Nat):Int))
    refine KK (KM (KL (KN (.agg #[iv ((LR w h 0).W),iv ((LR w h 0).H),aa,ab,ac]) rr (KX La rfl aL aN rr) (K2 Lw cY (L9 rfl rfl rfl rfl rfl (fun _ _=>by kernel_rfl) (Lo rfl (Lo rfl L5)) (Uh ((1:Nat):Int) (FD.mk ((LR w h 0).W) ((LR w h 0).H) (MT (ph0*pw0) s (ph0*pw0)) ((LR w h 0).p1) ((LR w h 0).p2)) aa ab ac af an aj _  aM.byt bg.byt bh.byt ) fun iD cZ=>?_)))))
    obtain⟨fq,ft,fu,fw,fx,fy,fA⟩:=Uc cZ cP aM bg bh aN cQ cR
    refine KN (.tuple #[iv ((Lc (FD.mk ((LR w h 0).W) ((LR w h 0).H) (MT (ph0*pw0) s (ph0*pw0)) ((LR w h 0).p1) ((LR w h 0).p2)) ((1:Nat):Int)).1),iv ((Lc (FD.mk ((LR w h 0).W) ((LR w h 0).H) (MT (ph0*pw0) s (ph0*pw0)) ((LR w h 0).p1) ((LR w h 0).p2)) ((1:Nat):Int)).2)]) rr (KT rfl rfl rr) (KN (iv ((Lc (FD.mk ((LR w h 0).W) ((LR w h 0).H) (MT (ph0*pw0) s (ph0*pw0)) ((LR w h 0).p1) ((LR w h 0).p2)) ((1:Nat):Int)).1)) rr (LY rfl rfl rfl rr) (KN (iv ((Lc (FD.mk ((LR w h 0).W) ((LR w h 0).H) (MT (ph0*pw0) s (ph0*pw0)) ((LR w h 0).p1) ((LR w h 0).p2)) ((1:Nat):Int)).2)) rr (LY rfl rfl rfl rr) (Lb (iv ((Lc (FD.mk ((LR w h 0).W) ((LR w h 0).H) (MT (ph0*pw0) s (ph0*pw0)) ((LR w h 0).p1) ((LR w h 0).p2)) ((1:Nat):Int)).1)) LE (Lb (iv ((Lc (FD.mk ((LR w h 0).W) ((LR w h 0).H) (MT (ph0*pw0) s (ph0*pw0)) ((LR w h 0).p1) ((LR w h 0).p2)) ((1:Nat):Int)).2)) LE (PQ fun aO aP=>?_)))))
    obtain⟨fB,fC,fD,fE,fF,fG⟩:=t6 aP 6 cI 8 aL 9 be 55 cN 30 bn 10 cY
    have fH:aO 11=iv ((Lc (FD.mk ((LR w h 0).W) ((LR w h 0).H) (MT (ph0*pw0) s (ph0*pw0)) ((LR w h 0).p1) ((LR w h 0).p2)) ((1:Nat):Int)).1):=(aP 11).trans rfl
    have fI:aO 12=iv ((Lc (FD.mk ((LR w h 0).W) ((LR w h 0).H) (MT (ph0*pw0) s (ph0*pw0)) ((LR w h 0).p1) ((LR w h 0).p2)) ((1:Nat):Int)).2):=(aP 12).trans rfl
    clear aP
    refine KK (KM ?_)
    obtain⟨pw1,hpw1⟩:∃ q,q=Rc a (a/2) 1:=⟨_,rfl⟩
    obtain⟨ph1,hph1⟩:∃ q,q=Rc b (b/2) 1:=⟨_,rfl⟩
    have c5:(LR w h 0).p1=List.replicate (ph1*pw1) 0:=by rw[hpw1,hph1];first|exact(MZ 0 hsw hsh ha hb).1|exact(MZ 0 hsw hsh ha hb).2.1|exact(MZ 0 hsw hsh ha hb).2.2
    have hE1:(LR w h s).p1=List.replicate (ph1*pw1) s:=by rw[hpw1,hph1];first|exact(MZ s hsw hsh ha hb).1|exact(MZ s hsw hsh ha hb).2.1|exact(MZ s hsw hsh ha hb).2.2
    have hB1:pw1<=a/\pw1<=64/\ph1<=64:=by have e1:=Si a (a/2) 1;have e2:=Si b (b/2) 1;omega
    have fJ:aO 11=iv ((pw1:Nat):Int):=fH.trans (congrArg (Value.int .i64) (by rw[hpw1];(refine WT hsw hsh ?_ ?_ ?_ ?_ ?_ 1 (by decide) ha hb <;> first|exact(MC 0 hsw hsh).1|exact(MC 0 hsw hsh).2|exact hl0|exact hl1|rfl)))
    have fK:aO 12=iv ((ph1:Nat):Int):=fI.trans (congrArg (Value.int .i64) (by rw[hph1];(refine W4 hsw hsh ?_ ?_ ?_ ?_ ?_ 1 (by decide) ha hb <;> first|exact(MC 0 hsw hsh).1|exact(MC 0 hsw hsh).2|exact hl0|exact hl1|rfl)))
    refine KL (K2 Lw fK (KN (iv 0) rr (KT rfl rfl rr) (KQ ?_)))
    have fL:=K4 (iv ((ph1:Nat):Int))
    have fM:=K4 (iv 0)
    refine KK (Lm (M8 (fun nn FF ww=>∃ (y:Nat),∃ (ah:Nat->Prop),(y<=ph1)/\nn=ph1-y/\FF 6=pt p1 0/\FF 8=pt ae 0/\FF 9=am/\FF 10=iv ((1:Nat):Int)/\FF 11=iv ((pw1:Nat):Int)/\FF 30=iv ((1:Nat):Int)/\FF 39=iv ((ph1:Nat):Int)/\FF 55=undef/\FF 40=iv ((y:Nat):Int)/\KR (fun _=>False) w0 ww/\MJ ww p1 29 [iv 0,iv 0,.slice none 0 0,.slice none 0 0,.slice none 0 0]/\Md ww af aa (MT (ph0*pw0) s (ph0*pw0))/\Md ww ah ab (MT (ph1*pw1) s (y*pw1))/\Md ww aj ac ((LR w h 0).p2)/\MJ ww ae 29 [iv ((LR w h 0).W),iv ((LR w h 0).H),aa,ab,ac]/\Md ww aq aI ([s])/\Mv ww ao am (List.replicate a s)/\KS w0 Mb ah/\KO ah (Lh p1)/\KO ah af/\KO ah aj/\KO ah (Lh ae)/\KO ah aq/\KO ah ao) (ph1-0) ⟨0,an,by omega,rfl,fB,fC,fD,fG,fJ,fF,fL,fE,fM,(cO.tr cZ),fq,ft,Md.of_eq (TG c5) fu,fw,fx,fy,fA,(KS.new aH bT),dX,bl.symm,dV,b8.symm,eu.symm,eE.symm⟩ ?_))
    rintro iE iF iG ⟨y,ah,i350,hn349,c6,aQ,bo,c7,c9,da,db,dc,bp,dd,de,bq,aR,bt,aS,df,dg,bu,bv,bz,bA,dh,di,dj⟩
    refine KM (KL (KN (.bool (decide (((y:Nat):Int)<((ph1:Nat):Int)))) rr (Mc rfl bp db rfl rr) (KQ ?_)))
    have fN:=K4 (.bool (decide (((y:Nat):Int)<((ph1:Nat):Int))))
    refine KK (KM ?_)
    refine K5 fN (fun aC=>?_) (fun aC=>?_)
    ·replace aC:=of_decide_eq_true aC
     refine Lf (KK (KM (Lm (KM (KL (K2 Lw bp (Lb (iv ((y:Nat):Int)) LE (KQ ?_))))))))
     have fO:=K4 (iv ((y:Nat):Int))
     refine KK ?_
     have hz:=Wo (y:=y) (pw:=pw1) (ph:=ph1) (by omega) hB1.2.1 hB1.2.2
     have hfl:(MT (ph1*pw1) s (y*pw1)).length=ph1*pw1:=Ps (by omega)
     refine KL (K2 Lw c7 (KN (pt ae 2) rr (KU (n:=3) rfl aQ Tryz.underlying29 rfl (by kernel_rfl) (by decide) rfl rr) (KN (pt ae 3) rr (L3 1 (s:=1) rfl rfl rfl (by omega) Tryz.underlying27 (by omega) (by kernel_rfl) (by omega) rr) (KN ab rr (KY rfl rfl Tryz.underlying26 aS rfl rfl rr) (K2 Lw c9 (K2 Lw fO (L9 rfl rfl rfl rfl rfl (fun _ _=>by kernel_rfl) (Lo rfl (Lo rfl (Lo rfl L5))) (TT ab (MT (ph1*pw1) s (y*pw1)) ((pw1:Nat):Int) ((y:Nat):Int) ah _ (by omega) (by omega) (by rw[hfl];exact hz.2.2.2) (by omega) aR.byt ) fun iH dk=>?_)))))))
     obtain⟨fP,fQ,dl,fR,fS,fT,dm⟩:=Uc dk de bq aR bt aS df dg
     refine K2 Lw bo (Ta rfl rfl rfl rfl rfl (Ul dl.byt (by omega)) rfl dl dm (by rw[hfl];omega) fun iI fU au=>?_)
     have fV:=fP.all au (bv.symm p1 rfl)
     have fW:=fQ.all au bz.symm
     have fX:=fR.all au bA.symm
     have fY:=fS.all au (dh.symm ae rfl)
     have fZ:=fT.all au di.symm
     have f5:=dm.all au dj.symm
     refine KQ ?_
     refine Lz (KK (KL (KN (iv ((y+1:Nat):Int)) rr (LS rfl bp rfl (LX (by omega) (by omega)) rr) (KN (iv ((y+1:Nat):Int)) rr (KT rfl rfl rr) (KQ ?_)))))
     have f7:=K4 (iv ((y+1:Nat):Int))
     exact KK ⟨(ph1-(y+1)),by omega,y+1,ah,by omega,rfl,c6,aQ,bo,c7,c9,da,db,dc,f7,((dd.tr dk).trans au (KS.ok (S:=fun _=>False) bu KZ)),fV,fW,Md.of_eq (UW hB1.1) fU,fX,fY,fZ,f5,bu,bv,bz,bA,dh,di,dj⟩
    ·replace aC:=of_decide_eq_false aC
     refine Mm (Lp (Lp ?_))
     have f8:ph1=y:=by omega
     subst f8
     have hl1:(MT (ph1*pw1) s (ph1*pw1)).length=(LR w h 0).p1.length:=by rw[Ps (Nat.le_refl _),c5,List.length_replicate]
     refine Mk (Lz (KK (KL (KN (iv ((2:Nat):Int)) rr (LS rfl da rfl (LX (by omega) (by omega)) rr) (KN (iv ((2:Nat):Int)) rr (KT rfl rfl rr) (KQ ?_))))))
     have bB:=K4 (iv ((2:Nat):Int))
     refine KK (Mh (KM (KL (KN (.bool true) rr (Mc rfl bB rfl rfl rr) (KQ ?_)))))
     have f9:=K4 (.bool true)
     refine KK (KM ?_)
     refine K5 (t:=true) f9 (fun _=>?_) (fun e=>by cases e)
     refine Lf (KK (KM (Lm (KM (KL (K2 Lw bB (Lb (iv ((2:Nat):Int)) LE (KQ ?_))))))))
     have dn:=K4 (iv ((2:Nat):Int))
     refine KK (KM (KL (KN (.agg #[iv ((LR w h 0).W),iv ((LR w h 0).H),aa,ab,ac]) rr (KX La rfl aQ aS rr) (K2 Lw dn (L9 rfl rfl rfl rfl rfl (fun _ _=>by kernel_rfl) (Lo rfl (Lo rfl L5)) (Uh ((2:Nat):Int) (FD.mk ((LR w h 0).W) ((LR w h 0).H) (MT (ph0*pw0) s (ph0*pw0)) (MT (ph1*pw1) s (ph1*pw1)) ((LR w h 0).p2)) aa ab ac af ah aj _  bq.byt aR.byt bt.byt ) fun iJ dp=>?_)))))
     obtain⟨ga,gb,gc,gd,ge,gh,gi⟩:=Uc dp de bq aR bt aS df dg
     refine KN (.tuple #[iv ((Lc (FD.mk ((LR w h 0).W) ((LR w h 0).H) (MT (ph0*pw0) s (ph0*pw0)) (MT (ph1*pw1) s (ph1*pw1)) ((LR w h 0).p2)) ((2:Nat):Int)).1),iv ((Lc (FD.mk ((LR w h 0).W) ((LR w h 0).H) (MT (ph0*pw0) s (ph0*pw0)) (MT (ph1*pw1) s (ph1*pw1)) ((LR w h 0).p2)) ((2:Nat):Int)).2)]) rr (KT rfl rfl rr) (KN (iv ((Lc (FD.mk ((LR w h 0).W) ((LR w h 0).H) (MT (ph0*pw0) s (ph0*pw0)) (MT (ph1*pw1) s (ph1*pw1)) ((LR w h 0).p2)) ((2:Nat):Int)).1)) rr (LY rfl rfl rfl rr) (KN (iv ((Lc (FD.mk ((LR w h 0).W) ((LR w h 0).H) (MT (ph0*pw0) s (ph0*pw0)) (MT (ph1*pw1) s (ph1*pw1)) ((LR w h 0).p2)) ((2:Nat):Int)).2)) rr (LY rfl rfl rfl rr) (Lb (iv ((Lc (FD.mk ((LR w h 0).W) ((LR w h 0).H) (MT (ph0*pw0) s (ph0*pw0)) (MT (ph1*pw1) s (ph1*pw1)) ((LR w h 0).p2)) ((2:Nat):Int)).1)) LE (Lb (iv ((Lc (FD.mk ((LR w h 0).W) ((LR w h 0).H) (MT (ph0*pw0) s (ph0*pw0)) (MT (ph1*pw1) s (ph1*pw1)) ((LR w h 0).p2)) ((2:Nat):Int)).2)) LE (PQ fun aT aU=>?_)))))
     obtain⟨gj,gl,gm,gn,go,gp⟩:=t6 aU 6 c6 8 aQ 9 bo 55 dc 30 bB 10 dn
     have gq:aT 11=iv ((Lc (FD.mk ((LR w h 0).W) ((LR w h 0).H) (MT (ph0*pw0) s (ph0*pw0)) (MT (ph1*pw1) s (ph1*pw1)) ((LR w h 0).p2)) ((2:Nat):Int)).1):=(aU 11).trans rfl
     have gr:aT 12=iv ((Lc (FD.mk ((LR w h 0).W) ((LR w h 0).H) (MT (ph0*pw0) s (ph0*pw0)) (MT (ph1*pw1) s (ph1*pw1)) ((LR w h 0).p2)) ((2:Nat):Int)).2):=(aU 12).trans rfl
     clear aU
     refine KK (KM ?_)
     obtain⟨pw2,hpw2⟩:∃ q,q=Rc a (a/2) 2:=⟨_,rfl⟩
     obtain⟨ph2,hph2⟩:∃ q,q=Rc b (b/2) 2:=⟨_,rfl⟩
     have dq:(LR w h 0).p2=List.replicate (ph2*pw2) 0:=by rw[hpw2,hph2];first|exact(MZ 0 hsw hsh ha hb).1|exact(MZ 0 hsw hsh ha hb).2.1|exact(MZ 0 hsw hsh ha hb).2.2
     have hE2:(LR w h s).p2=List.replicate (ph2*pw2) s:=by rw[hpw2,hph2];first|exact(MZ s hsw hsh ha hb).1|exact(MZ s hsw hsh ha hb).2.1|exact(MZ s hsw hsh ha hb).2.2
     have hB2:pw2<=a/\pw2<=64/\ph2<=64:=by have e1:=Si a (a/2) 2;have e2:=Si b (b/2) 2;omega
     have gt:aT 11=iv ((pw2:Nat):Int):=gq.trans (congrArg (Value.int .i64) (by rw[hpw2];(refine WT hsw hsh ?_ ?_ ?_ ?_ ?_ 2 (by decide) ha hb <;> first|exact(MC 0 hsw hsh).1|exact(MC 0 hsw hsh).2|exact hl0|exact hl1|rfl)))
     have gu:aT 12=iv ((ph2:Nat):Int):=gr.trans (congrArg (Value.int .i64) (by rw[hph2];(refine W4 hsw hsh ?_ ?_ ?_ ?_ ?_ 2 (by decide) ha hb <;> first|exact(MC 0 hsw hsh).1|exact(MC 0 hsw hsh).2|exact hl0|exact hl1|rfl)))
     refine KL (K2 Lw gu (KN (iv 0) rr (KT rfl rfl rr) (KQ ?_)))
     have gv:=K4 (iv ((ph2:Nat):Int))
     have gw:=K4 (iv 0)
     refine KK (Lm (M8 (fun nn FF ww=>∃ (y:Nat),∃ (ak:Nat->Prop),(y<=ph2)/\nn=ph2-y/\FF 6=pt p1 0/\FF 8=pt ae 0/\FF 9=am/\FF 10=iv ((2:Nat):Int)/\FF 11=iv ((pw2:Nat):Int)/\FF 30=iv ((2:Nat):Int)/\FF 39=iv ((ph2:Nat):Int)/\FF 55=undef/\FF 40=iv ((y:Nat):Int)/\KR (fun _=>False) w0 ww/\MJ ww p1 29 [iv 0,iv 0,.slice none 0 0,.slice none 0 0,.slice none 0 0]/\Md ww af aa (MT (ph0*pw0) s (ph0*pw0))/\Md ww ah ab (MT (ph1*pw1) s (ph1*pw1))/\Md ww ak ac (MT (ph2*pw2) s (y*pw2))/\MJ ww ae 29 [iv ((LR w h 0).W),iv ((LR w h 0).H),aa,ab,ac]/\Md ww aq aI ([s])/\Mv ww ao am (List.replicate a s)/\KS w0 Mb ak/\KO ak (Lh p1)/\KO ak af/\KO ak ah/\KO ak (Lh ae)/\KO ak aq/\KO ak ao) (ph2-0) ⟨0,aj,by omega,rfl,gj,gl,gm,gp,gt,go,gv,gn,gw,(dd.tr dp),ga,gb,gc,Md.of_eq (TG dq) gd,ge,gh,gi,(KS.new aH bV),dY,bm.symm,bA.symm,b9.symm,ew.symm,eF.symm⟩ ?_))
     rintro iK iL iM ⟨y,ak,i506,hn505,bC,bD,dr,dt,du,dv,dw,dy,bE,dz,dA,bF,bG,aV,bH,gz,gA,bI,bJ,bK,bL,dB,dC,dD⟩
     refine KM (KL (KN (.bool (decide (((y:Nat):Int)<((ph2:Nat):Int)))) rr (Mc rfl bE dw rfl rr) (KQ ?_)))
     have gB:=K4 (.bool (decide (((y:Nat):Int)<((ph2:Nat):Int))))
     refine KK (KM ?_)
     refine K5 gB (fun aD=>?_) (fun aD=>?_)
     ·replace aD:=of_decide_eq_true aD
      refine Lf (KK (KM (Lm (KM (KL (K2 Lw bE (Lb (iv ((y:Nat):Int)) LE (KQ ?_))))))))
      have gC:=K4 (iv ((y:Nat):Int))
      refine KK ?_
      have hz:=Wo (y:=y) (pw:=pw2) (ph:=ph2) (by omega) hB2.2.1 hB2.2.2
      have hfl:(MT (ph2*pw2) s (y*pw2)).length=ph2*pw2:=Ps (by omega)
      refine KL (K2 Lw dt (KN (pt ae 2) rr (KU (n:=3) rfl bD Tryz.underlying29 rfl (by kernel_rfl) (by decide) rfl rr) (KN (pt ae 4) rr (L3 2 (s:=1) rfl rfl rfl (by omega) Tryz.underlying27 (by omega) (by kernel_rfl) (by omega) rr) (KN ac rr (KY rfl rfl Tryz.underlying26 bH rfl rfl rr) (K2 Lw du (K2 Lw gC (L9 rfl rfl rfl rfl rfl (fun _ _=>by kernel_rfl) (Lo rfl (Lo rfl (Lo rfl L5))) (TT ac (MT (ph2*pw2) s (y*pw2)) ((pw2:Nat):Int) ((y:Nat):Int) ak _ (by omega) (by omega) (by rw[hfl];exact hz.2.2.2) (by omega) aV.byt ) fun iN dE=>?_)))))))
      obtain⟨gD,gE,gF,dF,gG,gH,dG⟩:=Uc dE dA bF bG aV bH gz gA
      refine K2 Lw dr (Ta rfl rfl rfl rfl rfl (Ul dF.byt (by omega)) rfl dF dG (by rw[hfl];omega) fun iO gI av=>?_)
      have gJ:=gD.all av (bJ.symm p1 rfl)
      have gK:=gE.all av bK.symm
      have gL:=gF.all av bL.symm
      have gM:=gG.all av (dB.symm ae rfl)
      have gN:=gH.all av dC.symm
      have gO:=dG.all av dD.symm
      refine KQ ?_
      refine Lz (KK (KL (KN (iv ((y+1:Nat):Int)) rr (LS rfl bE rfl (LX (by omega) (by omega)) rr) (KN (iv ((y+1:Nat):Int)) rr (KT rfl rfl rr) (KQ ?_)))))
      have gP:=K4 (iv ((y+1:Nat):Int))
      exact KK ⟨(ph2-(y+1)),by omega,y+1,ak,by omega,rfl,bC,bD,dr,dt,du,dv,dw,dy,gP,((dz.tr dE).trans av (KS.ok (S:=fun _=>False) bI KZ)),gJ,gK,gL,Md.of_eq (UW hB2.1) gI,gM,gN,gO,bI,bJ,bK,bL,dB,dC,dD⟩
     ·replace aD:=of_decide_eq_false aD
      refine Mm (Lp (Lp ?_))
      have gQ:ph2=y:=by omega
      subst gQ
      have hl2:(MT (ph2*pw2) s (ph2*pw2)).length=(LR w h 0).p2.length:=by rw[Ps (Nat.le_refl _),dq,List.length_replicate]
      refine Mk (Lz (KK (KL (KN (iv ((3:Nat):Int)) rr (LS rfl dv rfl (LX (by omega) (by omega)) rr) (KN (iv ((3:Nat):Int)) rr (KT rfl rfl rr) (KQ ?_))))))
      have gR:=K4 (iv ((3:Nat):Int))
      refine KK (Mh (KM (KL (KN (.bool false) rr (Mc rfl gR rfl rfl rr) (KQ ?_)))))
      have gS:=K4 (.bool false)
      refine KK (KM ?_)
      refine K5 (t:=false) gS (fun e=>by cases e) (fun _=>?_)
      refine Mm (Lp (Lp (Mk (KK (KM (KL (KN (.agg #[iv ((LR w h 0).W),iv ((LR w h 0).H),aa,ab,ac]) rr (KX La rfl bD bH rr) (Ll (us:=[iv ((LR w h 0).W),iv ((LR w h 0).H),aa,ab,ac]) La rfl rfl rfl bC rfl dA rfl (Qc rr (L4 bF.one (L4 bG.one (L4 aV.one MX)))) fun iP gT aW=>?_))))))))
      have dH:=bF.all aW bj
      have dI:=bG.all aW bv
      have dJ:=aV.all aW bJ
      refine Lb (iv 0) LE (KQ ?_)
      have gU:=K4 (iv 0)
      refine KK (Le ?_)
      exact Mo dy rfl (M6 (vs:=[iv ((LR w h 0).W),iv ((LR w h 0).H),aa,ab,ac]) La rfl bC gT) (LF (v:=iv 0) rfl gU) ⟨aa,af,ab,ah,ac,ak,(by first|rw[(MC s hsw hsh).1,(MC s hsw hsh).2,(MC 0 hsw hsh).1,(MC 0 hsw hsh).2,UG hsw hsh]|(rw[hN,YA hno];rfl)),(dz.trans aW (KS.ok (S:=fun _=>False) aZ KZ)),⟨(by first|exact Md.of_eq (O5 hE0) dH|(rw[hN];exact dH)),bi⟩,⟨(by first|exact Md.of_eq (O5 hE1) dI|(rw[hN];exact dI)),bu⟩,⟨(by first|exact Md.of_eq (O5 hE2) dJ|(rw[hN];exact dJ)),bI⟩,bz.symm,bK.symm,bL.symm⟩
  ·skip
   refine KL (K2 Lw aw (LH (R:=fun v_ w_=>v_ = .bool true/\KR (fun _=>False) w2 w_) rfl rfl (LQ rfl rfl rfl (fun _ _=>by kernel_rfl) (K6 _) (Lo rfl L5) (P0 w  _   ) (fun e_ w_ h_=>⟨_,h_.1,(congrArg Value.bool aE),h_.2⟩)) ?_))
   rintro _ gV ⟨rfl,dK⟩
   have gW:=B4.all dK id
   refine KN (.bool false) rr (Mq rfl rfl rfl rr) (KN (.bool false) rr (KT rfl rfl rr) (Lj (iv h) 3 false 17 Li (KT rfl a9 rr) (LZ (R:=fun v_ w_=>v_ = .bool false/\KR (fun _=>False) gV w_) 3 false 17 rfl rfl rfl rfl rfl (LQ rfl rfl rfl (fun _ _=>by kernel_rfl) (K6 _) (Lo rfl L5) (P0 h  _   ) (fun e_ w_ h_=>⟨_,h_.1,(congrArg Value.bool bb),h_.2⟩)) ?_)))
   rintro _ iQ ⟨rfl,dL⟩
   have gZ:=gW.all dL id
   refine Lj (.bool true) 3 false 17 Li (Mq rfl rfl rfl rr) (KN (.bool true) rr (Lt rfl rfl rfl rr) (KQ ?_))
   have hQ:=K4 (.bool true)
   refine KK ?_
   refine K5 (t:=true) hQ (fun _=>?_) (fun e=>by cases e)
   refine KM ?_
   have hno:¬ (Mz w=true/\Mz h=true):=by rintro ⟨h1,h2⟩;simp_all
   have hN:=az4 s hno
   refine KL (KN (.agg #[iv 0,iv 0,.slice none 0 0,.slice none 0 0,.slice none 0 0]) rr (Ma (l':=[]) (cells:=#[iv 0,iv 0,.slice none 0 0,.slice none 0 0,.slice none 0 0]) rfl Rj (by kernel_rfl) rfl rr) (Ll (us:=[iv 0,iv 0,.slice none 0 0,.slice none 0 0,.slice none 0 0]) La rfl rfl rfl az rfl gZ rfl (Yq LE (L4 rfl MX)) fun iR hZ ia=>?_))
   refine Lb (iv 70) LE (KQ ?_)
   have ib:=K4 (iv 70)
   refine KK (Le (Lx ?_))
   exact Mo ba rfl (M6 (vs:=[iv 0,iv 0,.slice none 0 0,.slice none 0 0,.slice none 0 0]) La rfl az hZ) (LF (v:=iv 70) rfl ib) ⟨(.slice none 0 0),Mb,(.slice none 0 0),Mb,(.slice none 0 0),Mb,(by first|rw[(MC s hsw hsh).1,(MC s hsw hsh).2,(MC 0 hsw hsh).1,(MC 0 hsw hsh).2,UG hsw hsh]|(rw[hN,YA hno];rfl)),(((K7.tr dK).tr dL).trans ia (KS.ok (S:=fun _=>False) aZ KZ)),⟨(by first|exact Md.of_eq (O5 hE0) (Md.nil _)|(rw[hN];exact(Md.nil _))),(KS.refl _ _)⟩,⟨(by first|exact Md.of_eq (O5 hE1) (Md.nil _)|(rw[hN];exact(Md.nil _))),(KS.refl _ _)⟩,⟨(by first|exact Md.of_eq (O5 hE2) (Md.nil _)|(rw[hN];exact(Md.nil _))),(KS.refl _ _)⟩,KO.none,KO.none,KO.none⟩
 ·skip
  refine KL (K2 Lw aw (LH (R:=fun v_ w_=>v_ = .bool false/\KR (fun _=>False) w2 w_) rfl rfl (LQ rfl rfl rfl (fun _ _=>by kernel_rfl) (K6 _) (Lo rfl L5) (P0 w  _   ) (fun e_ w_ h_=>⟨_,h_.1,(congrArg Value.bool aE),h_.2⟩)) ?_))
  rintro _ iS ⟨rfl,dM⟩
  have ie:=B4.all dM id
  refine KN (.bool true) rr (Mq rfl rfl rfl rr) (KN (.bool true) rr (KT rfl rfl rr) (Lq 3 false 17 Li (Lq 3 false 17 Li (Lq 3 false 17 Li (KN (.bool true) rr (LB rfl rfl rfl rr) (KQ ?_))))))
  have ig:=K4 (.bool true)
  refine KK ?_
  refine K5 (t:=true) ig (fun _=>?_) (fun e=>by cases e)
  refine KM ?_
  have hno:¬ (Mz w=true/\Mz h=true):=by rintro ⟨h1,h2⟩;simp_all
  have hN:=az4 s hno
  refine KL (KN (.agg #[iv 0,iv 0,.slice none 0 0,.slice none 0 0,.slice none 0 0]) rr (Ma (l':=[]) (cells:=#[iv 0,iv 0,.slice none 0 0,.slice none 0 0,.slice none 0 0]) rfl Rj (by kernel_rfl) rfl rr) (Ll (us:=[iv 0,iv 0,.slice none 0 0,.slice none 0 0,.slice none 0 0]) La rfl rfl rfl az rfl ie rfl (Yq LE (L4 rfl MX)) fun iT ii ij=>?_))
  refine Lb (iv 70) LE (KQ ?_)
  have ik:=K4 (iv 70)
  refine KK (Le (Lx ?_))
  exact Mo ba rfl (M6 (vs:=[iv 0,iv 0,.slice none 0 0,.slice none 0 0,.slice none 0 0]) La rfl az ii) (LF (v:=iv 70) rfl ik) ⟨(.slice none 0 0),Mb,(.slice none 0 0),Mb,(.slice none 0 0),Mb,(by first|rw[(MC s hsw hsh).1,(MC s hsw hsh).2,(MC 0 hsw hsh).1,(MC 0 hsw hsh).2,UG hsw hsh]|(rw[hN,YA hno];rfl)),((K7.tr dM).trans ij (KS.ok (S:=fun _=>False) aZ KZ)),⟨(by first|exact Md.of_eq (O5 hE0) (Md.nil _)|(rw[hN];exact(Md.nil _))),(KS.refl _ _)⟩,⟨(by first|exact Md.of_eq (O5 hE1) (Md.nil _)|(rw[hN];exact(Md.nil _))),(KS.refl _ _)⟩,⟨(by first|exact Md.of_eq (O5 hE2) (Md.nil _)|(rw[hN];exact(Md.nil _))),(KS.refl _ _)⟩,KO.none,KO.none,KO.none⟩
open Go.RowKit
theorem MW(n a b:Int)(w0:World) :
  Calls Tryz.prog 90 #[.int .i64 (n),.int .i64 (a),.int .i64 (b)] w0 fun e w'=>e = .returned (.bool (decide (a<=n/\n<=b)))/\KR (fun _=>False) w0 w':=by
 refine Ly (args:=[iv n,iv a,iv b]) 15 Tryz.func90 rfl rfl (Nat.le_of_ble_eq_true rfl) ?_
 have K0:=KR.refl (fun _=>False) w0
 refine KM (KL (Lb (.bool false) LE (KQ ?_)))
 have s3:=K4 (iv n)
 have s4:=K4 (iv a)
 have s5:=K4 (iv b)
 have s6:=K4 (undef)
 refine KK (KM ?_)
 by_cases d7:a<=n
 ·skip
  refine KL (K2 Lw s3 (K2 Lw s4 (KN (.bool true) rr (NO rfl rfl rfl (decide_eq_true d7) rr) (KN (.bool true) rr (KT rfl rfl rr) (Lj (iv n) 3 true 10 Li (KT rfl s3 rr) (Lj (iv b) 3 true 10 Li (KT rfl s5 rr) (Lj (.bool (decide (n<=b))) 3 true 10 Li (Vx rfl rfl rfl rfl rr) (KN (.bool (decide (n<=b))) rr (LB rfl rfl rfl rr) (Lb (.bool (decide (n<=b))) LE (KQ ?_))))))))))
  have ai:=K4 (.bool (decide (n<=b)))
  refine KK (Le ?_)
  exact LC (v:=.bool (decide (n<=b))) s6 rfl rfl ai ⟨(PS (by first|exact(decide_eq_true (by omega)).symm|exact(decide_eq_false (by omega)).symm|exact decide_eq_decide.2 (by omega))),K0⟩
 ·skip
  refine KL (K2 Lw s3 (K2 Lw s4 (KN (.bool false) rr (NO rfl rfl rfl (decide_eq_false d7) rr) (KN (.bool false) rr (KT rfl rfl rr) (Lq 3 true 10 Li (Lq 3 true 10 Li (Lq 3 true 10 Li (KN (.bool false) rr (Lt rfl rfl rfl rr) (Lb (.bool false) LE (KQ ?_))))))))))
  have aj:=K4 (.bool false)
  refine KK (Le ?_)
  exact LC (v:=.bool false) s6 rfl rfl aj ⟨(PS (by first|exact(decide_eq_true (by omega)).symm|exact(decide_eq_false (by omega)).symm|exact decide_eq_decide.2 (by omega))),K0⟩
theorem QE(n:Int)(w0:World) :
  Calls Tryz.prog 89 #[.int .i64 (n)] w0 fun e w'=>e = .returned (.bool (decide (NQ n)))/\KR (fun _=>False) w0 w':=by
 refine Ly (args:=[iv n]) 10 Tryz.func89 rfl rfl (Nat.le_of_ble_eq_true rfl) ?_
 have K0:=KR.refl (fun _=>False) w0
 refine KM (KL (Lb (.bool false) LE (KQ ?_)))
 have s3:=K4 (iv n)
 have s4:=K4 (undef)
 refine KK (KM ?_)
 by_cases d5:8<=n/\n<=64
 ·skip
  refine KL (K2 Lw s3 (LH (R:=fun v_ w_=>v_ = .bool true/\KR (fun _=>False) w0 w_) rfl rfl (LQ rfl rfl rfl (fun _ _=>by kernel_rfl) (K6 _) (Lo rfl (Lo rfl (Lo rfl L5))) (MW n 8 64  _   ) (fun e_ w_ h_=>⟨_,h_.1,(congrArg Value.bool (decide_eq_true d5)),h_.2⟩)) ?_))
  rintro _ w6 ⟨rfl,k7⟩
  refine KN (.bool true) rr (KT rfl rfl rr) (Lj (iv n) 2 true 5 Li (KT rfl s3 rr) (Lj (iv (n%8)) 2 true 5 Li (Rh rfl rfl rfl (by first|decide|omega) (aF2 (by omega)) rr) (Lj (.bool (decide ((n%8)=0))) 2 true 5 Li (MA rfl rfl rfl rfl rr) (KN (.bool (decide ((n%8)=0))) rr (LB rfl rfl rfl rr) (Lb (.bool (decide ((n%8)=0))) LE (KQ ?_))))))
  have ah:=K4 (.bool (decide ((n%8)=0)))
  refine KK (Le ?_)
  exact LC (v:=.bool (decide ((n%8)=0))) s4 rfl rfl ah ⟨(PS (by first|exact(decide_eq_true (by unfold NQ;omega)).symm|exact(decide_eq_false (by unfold NQ;omega)).symm|exact decide_eq_decide.2 (by unfold NQ;omega))),(K0.tr k7)⟩
 ·skip
  refine KL (K2 Lw s3 (LH (R:=fun v_ w_=>v_ = .bool false/\KR (fun _=>False) w0 w_) rfl rfl (LQ rfl rfl rfl (fun _ _=>by kernel_rfl) (K6 _) (Lo rfl (Lo rfl (Lo rfl L5))) (MW n 8 64  _   ) (fun e_ w_ h_=>⟨_,h_.1,(congrArg Value.bool (decide_eq_false d5)),h_.2⟩)) ?_))
  rintro _ am ⟨rfl,ai⟩
  refine KN (.bool false) rr (KT rfl rfl rr) (Lq 2 true 5 Li (Lq 2 true 5 Li (Lq 2 true 5 Li (KN (.bool false) rr (Lt rfl rfl rfl rr) (Lb (.bool false) LE (KQ ?_))))))
  have aj:=K4 (.bool false)
  refine KK (Le ?_)
  exact LC (v:=.bool false) s4 rfl rfl aj ⟨(PS (by first|exact(decide_eq_true (by unfold NQ;omega)).symm|exact(decide_eq_false (by unfold NQ;omega)).symm|exact decide_eq_decide.2 (by unfold NQ;omega))),(K0.tr ai)⟩
theorem Wk(W H R B:Int)(w0:World) :
  Calls Tryz.prog 48 #[.agg #[.int .i64 (W),.int .i64 (H),.int .i64 (R),.int .i64 (B)]] w0 fun e w'=>e = .returned (.int .i64 (PB W H R B))/\KR (fun _=>False) w0 w':=by
 refine Ly (args:=[.agg #[iv W,iv H,iv R,iv B]]) 27 Tryz.func48 rfl rfl (Nat.le_of_ble_eq_true rfl) ?_
 refine KM (KL (LJ (vs:=[iv W,iv H,iv R,iv B]) rfl rfl rfl rfl fun p1 w2 B4 g5 k3=>?_))
 have K7:=(KR.refl (fun _=>False) w0).tr k3
 refine Lb (iv 0) LE (KQ ?_)
 have ah:=K4 (undef)
 have ab:=K4 (pt p1 0)
 refine KK (KM (KM ?_))
 by_cases ai:NQ W
 ·skip
  by_cases aj:NQ H
  ·skip
   by_cases ak:1<=R/\R<=16777216
   ·skip
    by_cases am:R<=B/\B<=1073741824
    ·skip
     refine KL (KN (pt p1 0) rr (KU (n:=1) rfl ab Tryz.underlying23 rfl (by kernel_rfl) (by decide) rfl rr) (KN (iv W) rr (KY rfl rfl Tryz.underlying3 B4 rfl rfl rr) (LH (R:=fun v_ w_=>v_ = .bool true/\KR (fun _=>False) w2 w_) rfl rfl (LQ rfl rfl rfl (fun _ _=>by kernel_rfl) (K6 _) (Lo rfl L5) (QE W  _   ) (fun e_ w_ h_=>⟨_,h_.1,(congrArg Value.bool (decide_eq_true ai)),h_.2⟩)) ?_)))
     rintro _ aI ⟨rfl,an⟩
     have ao:=B4.all an id
     refine KN (.bool false) rr (Mq rfl rfl rfl rr) (KN (.bool false) rr (KT rfl rfl rr) (Lj (pt p1 1) 4 false 7 Li (KU (n:=1) rfl ab Tryz.underlying23 rfl (by kernel_rfl) (by decide) rfl rr) (Lj (iv H) 4 false 7 Li (KY rfl rfl Tryz.underlying3 ao rfl rfl rr) (LZ (R:=fun v_ w_=>v_ = .bool true/\KR (fun _=>False) aI w_) 4 false 7 rfl rfl rfl rfl rfl (LQ rfl rfl rfl (fun _ _=>by kernel_rfl) (K6 _) (Lo rfl L5) (QE H  _   ) (fun e_ w_ h_=>⟨_,h_.1,(congrArg Value.bool (decide_eq_true aj)),h_.2⟩)) ?_))))
     rintro _ aJ ⟨rfl,ap⟩
     have aq:=ao.all ap id
     refine Lj (.bool false) 4 false 7 Li (Mq rfl rfl rfl rr) (KN (.bool false) rr (Lt rfl rfl rfl rr) (KN (.bool false) rr (KT rfl rfl rr) (Lj (pt p1 2) 10 false 13 Li (KU (n:=1) rfl ab Tryz.underlying23 rfl (by kernel_rfl) (by decide) rfl rr) (Lj (iv R) 10 false 13 Li (KY rfl rfl Tryz.underlying3 aq rfl rfl rr) (LZ (R:=fun v_ w_=>v_ = .bool true/\KR (fun _=>False) aJ w_) 10 false 13 rfl rfl rfl rfl rfl (LQ rfl rfl rfl (fun _ _=>by kernel_rfl) (K6 _) (Lo rfl (Lo rfl (Lo rfl L5))) (MW R 1 16777216  _   ) (fun e_ w_ h_=>⟨_,h_.1,(congrArg Value.bool (decide_eq_true ak)),h_.2⟩)) ?_)))))
     rintro _ aK ⟨rfl,ar⟩
     have au:=aq.all ar id
     refine Lj (.bool false) 10 false 13 Li (Mq rfl rfl rfl rr) (KN (.bool false) rr (Lt rfl rfl rfl rr) (KN (.bool false) rr (KT rfl rfl rr) (Lj (pt p1 3) 16 false 19 Li (KU (n:=1) rfl ab Tryz.underlying23 rfl (by kernel_rfl) (by decide) rfl rr) (Lj (iv B) 16 false 19 Li (KY rfl rfl Tryz.underlying3 au rfl rfl rr) (Lj (pt p1 2) 16 false 19 Li (KU (n:=1) rfl ab Tryz.underlying23 rfl (by kernel_rfl) (by decide) rfl rr) (Lj (iv R) 16 false 19 Li (KY rfl rfl Tryz.underlying3 au rfl rfl rr) (LZ (R:=fun v_ w_=>v_ = .bool true/\KR (fun _=>False) aK w_) 16 false 19 rfl rfl rfl rfl rfl (LQ rfl rfl rfl (fun _ _=>by kernel_rfl) (K6 _) (Lo rfl (Lo rfl (Lo rfl L5))) (MW B R 1073741824  _   ) (fun e_ w_ h_=>⟨_,h_.1,(congrArg Value.bool (decide_eq_true am)),h_.2⟩)) ?_)))))))
     rintro _ bh ⟨rfl,aL⟩
     refine Lj (.bool false) 16 false 19 Li (Mq rfl rfl rfl rr) (KN (.bool false) rr (Lt rfl rfl rfl rr) (KQ ?_))
     have aM:=K4 (.bool false)
     refine KK ?_
     refine K5 (t:=false) aM (fun e=>by cases e) (fun _=>?_)
     refine Lf (KK (KM (KL (Lb (iv 0) LE (KQ ?_)))))
     have aN:=K4 (iv 0)
     refine KK (Le ?_)
     exact LC (v:=iv 0) ah rfl rfl aN ⟨(by first|rw[show PB W H R B=0 from if_pos ⟨by assumption,by assumption,by omega,by omega,by omega,by omega⟩]|rw[show PB W H R B=110 from if_neg (by unfold PU;rintro ⟨h1,h2,h3,h4,h5,h6⟩;first|(exact absurd h1 (by assumption))|(exact absurd h2 (by assumption))|omega)]),((((K7.tr an).tr ap).tr ar).tr aL)⟩
    ·skip
     refine KL (KN (pt p1 0) rr (KU (n:=1) rfl ab Tryz.underlying23 rfl (by kernel_rfl) (by decide) rfl rr) (KN (iv W) rr (KY rfl rfl Tryz.underlying3 B4 rfl rfl rr) (LH (R:=fun v_ w_=>v_ = .bool true/\KR (fun _=>False) w2 w_) rfl rfl (LQ rfl rfl rfl (fun _ _=>by kernel_rfl) (K6 _) (Lo rfl L5) (QE W  _   ) (fun e_ w_ h_=>⟨_,h_.1,(congrArg Value.bool (decide_eq_true ai)),h_.2⟩)) ?_)))
     rintro _ aO ⟨rfl,av⟩
     have aw:=B4.all av id
     refine KN (.bool false) rr (Mq rfl rfl rfl rr) (KN (.bool false) rr (KT rfl rfl rr) (Lj (pt p1 1) 4 false 7 Li (KU (n:=1) rfl ab Tryz.underlying23 rfl (by kernel_rfl) (by decide) rfl rr) (Lj (iv H) 4 false 7 Li (KY rfl rfl Tryz.underlying3 aw rfl rfl rr) (LZ (R:=fun v_ w_=>v_ = .bool true/\KR (fun _=>False) aO w_) 4 false 7 rfl rfl rfl rfl rfl (LQ rfl rfl rfl (fun _ _=>by kernel_rfl) (K6 _) (Lo rfl L5) (QE H  _   ) (fun e_ w_ h_=>⟨_,h_.1,(congrArg Value.bool (decide_eq_true aj)),h_.2⟩)) ?_))))
     rintro _ aP ⟨rfl,az⟩
     have aA:=aw.all az id
     refine Lj (.bool false) 4 false 7 Li (Mq rfl rfl rfl rr) (KN (.bool false) rr (Lt rfl rfl rfl rr) (KN (.bool false) rr (KT rfl rfl rr) (Lj (pt p1 2) 10 false 13 Li (KU (n:=1) rfl ab Tryz.underlying23 rfl (by kernel_rfl) (by decide) rfl rr) (Lj (iv R) 10 false 13 Li (KY rfl rfl Tryz.underlying3 aA rfl rfl rr) (LZ (R:=fun v_ w_=>v_ = .bool true/\KR (fun _=>False) aP w_) 10 false 13 rfl rfl rfl rfl rfl (LQ rfl rfl rfl (fun _ _=>by kernel_rfl) (K6 _) (Lo rfl (Lo rfl (Lo rfl L5))) (MW R 1 16777216  _   ) (fun e_ w_ h_=>⟨_,h_.1,(congrArg Value.bool (decide_eq_true ak)),h_.2⟩)) ?_)))))
     rintro _ aQ ⟨rfl,aB⟩
     have aC:=aA.all aB id
     refine Lj (.bool false) 10 false 13 Li (Mq rfl rfl rfl rr) (KN (.bool false) rr (Lt rfl rfl rfl rr) (KN (.bool false) rr (KT rfl rfl rr) (Lj (pt p1 3) 16 false 19 Li (KU (n:=1) rfl ab Tryz.underlying23 rfl (by kernel_rfl) (by decide) rfl rr) (Lj (iv B) 16 false 19 Li (KY rfl rfl Tryz.underlying3 aC rfl rfl rr) (Lj (pt p1 2) 16 false 19 Li (KU (n:=1) rfl ab Tryz.underlying23 rfl (by kernel_rfl) (by decide) rfl rr) (Lj (iv R) 16 false 19 Li (KY rfl rfl Tryz.underlying3 aC rfl rfl rr) (LZ (R:=fun v_ w_=>v_ = .bool false/\KR (fun _=>False) aQ w_) 16 false 19 rfl rfl rfl rfl rfl (LQ rfl rfl rfl (fun _ _=>by kernel_rfl) (K6 _) (Lo rfl (Lo rfl (Lo rfl L5))) (MW B R 1073741824  _   ) (fun e_ w_ h_=>⟨_,h_.1,(congrArg Value.bool (decide_eq_false am)),h_.2⟩)) ?_)))))))
     rintro _ bi ⟨rfl,aR⟩
     refine Lj (.bool true) 16 false 19 Li (Mq rfl rfl rfl rr) (KN (.bool true) rr (Lt rfl rfl rfl rr) (KQ ?_))
     have aS:=K4 (.bool true)
     refine KK ?_
     refine K5 (t:=true) aS (fun _=>?_) (fun e=>by cases e)
     refine KM (KL (Lb (iv 110) LE (KQ ?_)))
     have aT:=K4 (iv 110)
     refine KK (Le (Lx ?_))
     exact LC (v:=iv 110) ah rfl rfl aT ⟨(by first|rw[show PB W H R B=0 from if_pos ⟨by assumption,by assumption,by omega,by omega,by omega,by omega⟩]|rw[show PB W H R B=110 from if_neg (by unfold PU;rintro ⟨h1,h2,h3,h4,h5,h6⟩;first|(exact absurd h1 (by assumption))|(exact absurd h2 (by assumption))|omega)]),((((K7.tr av).tr az).tr aB).tr aR)⟩
   ·skip
    refine KL (KN (pt p1 0) rr (KU (n:=1) rfl ab Tryz.underlying23 rfl (by kernel_rfl) (by decide) rfl rr) (KN (iv W) rr (KY rfl rfl Tryz.underlying3 B4 rfl rfl rr) (LH (R:=fun v_ w_=>v_ = .bool true/\KR (fun _=>False) w2 w_) rfl rfl (LQ rfl rfl rfl (fun _ _=>by kernel_rfl) (K6 _) (Lo rfl L5) (QE W  _   ) (fun e_ w_ h_=>⟨_,h_.1,(congrArg Value.bool (decide_eq_true ai)),h_.2⟩)) ?_)))
    rintro _ aU ⟨rfl,aD⟩
    have aE:=B4.all aD id
    refine KN (.bool false) rr (Mq rfl rfl rfl rr) (KN (.bool false) rr (KT rfl rfl rr) (Lj (pt p1 1) 4 false 7 Li (KU (n:=1) rfl ab Tryz.underlying23 rfl (by kernel_rfl) (by decide) rfl rr) (Lj (iv H) 4 false 7 Li (KY rfl rfl Tryz.underlying3 aE rfl rfl rr) (LZ (R:=fun v_ w_=>v_ = .bool true/\KR (fun _=>False) aU w_) 4 false 7 rfl rfl rfl rfl rfl (LQ rfl rfl rfl (fun _ _=>by kernel_rfl) (K6 _) (Lo rfl L5) (QE H  _   ) (fun e_ w_ h_=>⟨_,h_.1,(congrArg Value.bool (decide_eq_true aj)),h_.2⟩)) ?_))))
    rintro _ aV ⟨rfl,aF⟩
    have aW:=aE.all aF id
    refine Lj (.bool false) 4 false 7 Li (Mq rfl rfl rfl rr) (KN (.bool false) rr (Lt rfl rfl rfl rr) (KN (.bool false) rr (KT rfl rfl rr) (Lj (pt p1 2) 10 false 13 Li (KU (n:=1) rfl ab Tryz.underlying23 rfl (by kernel_rfl) (by decide) rfl rr) (Lj (iv R) 10 false 13 Li (KY rfl rfl Tryz.underlying3 aW rfl rfl rr) (LZ (R:=fun v_ w_=>v_ = .bool false/\KR (fun _=>False) aV w_) 10 false 13 rfl rfl rfl rfl rfl (LQ rfl rfl rfl (fun _ _=>by kernel_rfl) (K6 _) (Lo rfl (Lo rfl (Lo rfl L5))) (MW R 1 16777216  _   ) (fun e_ w_ h_=>⟨_,h_.1,(congrArg Value.bool (decide_eq_false ak)),h_.2⟩)) ?_)))))
    rintro _ bj ⟨rfl,aX⟩
    refine Lj (.bool true) 10 false 13 Li (Mq rfl rfl rfl rr) (KN (.bool true) rr (Lt rfl rfl rfl rr) (KN (.bool true) rr (KT rfl rfl rr) (Lq 16 false 19 Li (Lq 16 false 19 Li (Lq 16 false 19 Li (Lq 16 false 19 Li (Lq 16 false 19 Li (Lq 16 false 19 Li (KN (.bool true) rr (LB rfl rfl rfl rr) (KQ ?_))))))))))
    have aY:=K4 (.bool true)
    refine KK ?_
    refine K5 (t:=true) aY (fun _=>?_) (fun e=>by cases e)
    refine KM (KL (Lb (iv 110) LE (KQ ?_)))
    have aZ:=K4 (iv 110)
    refine KK (Le (Lx ?_))
    exact LC (v:=iv 110) ah rfl rfl aZ ⟨(by first|rw[show PB W H R B=0 from if_pos ⟨by assumption,by assumption,by omega,by omega,by omega,by omega⟩]|rw[show PB W H R B=110 from if_neg (by unfold PU;rintro ⟨h1,h2,h3,h4,h5,h6⟩;first|(exact absurd h1 (by assumption))|(exact absurd h2 (by assumption))|omega)]),(((K7.tr aD).tr aF).tr aX)⟩
  ·skip
   refine KL (KN (pt p1 0) rr (KU (n:=1) rfl ab Tryz.underlying23 rfl (by kernel_rfl) (by decide) rfl rr) (KN (iv W) rr (KY rfl rfl Tryz.underlying3 B4 rfl rfl rr) (LH (R:=fun v_ w_=>v_ = .bool true/\KR (fun _=>False) w2 w_) rfl rfl (LQ rfl rfl rfl (fun _ _=>by kernel_rfl) (K6 _) (Lo rfl L5) (QE W  _   ) (fun e_ w_ h_=>⟨_,h_.1,(congrArg Value.bool (decide_eq_true ai)),h_.2⟩)) ?_)))
   rintro _ a8 ⟨rfl,aG⟩
   have a9:=B4.all aG id
   refine KN (.bool false) rr (Mq rfl rfl rfl rr) (KN (.bool false) rr (KT rfl rfl rr) (Lj (pt p1 1) 4 false 7 Li (KU (n:=1) rfl ab Tryz.underlying23 rfl (by kernel_rfl) (by decide) rfl rr) (Lj (iv H) 4 false 7 Li (KY rfl rfl Tryz.underlying3 a9 rfl rfl rr) (LZ (R:=fun v_ w_=>v_ = .bool false/\KR (fun _=>False) a8 w_) 4 false 7 rfl rfl rfl rfl rfl (LQ rfl rfl rfl (fun _ _=>by kernel_rfl) (K6 _) (Lo rfl L5) (QE H  _   ) (fun e_ w_ h_=>⟨_,h_.1,(congrArg Value.bool (decide_eq_false aj)),h_.2⟩)) ?_))))
   rintro _ bl ⟨rfl,ba⟩
   refine Lj (.bool true) 4 false 7 Li (Mq rfl rfl rfl rr) (KN (.bool true) rr (Lt rfl rfl rfl rr) (KN (.bool true) rr (KT rfl rfl rr) (Lq 10 false 13 Li (Lq 10 false 13 Li (Lq 10 false 13 Li (Lq 10 false 13 Li (KN (.bool true) rr (LB rfl rfl rfl rr) (KN (.bool true) rr (KT rfl rfl rr) (Lq 16 false 19 Li (Lq 16 false 19 Li (Lq 16 false 19 Li ?_)))))))))))
   refine Lq 16 false 19 Li (Lq 16 false 19 Li (Lq 16 false 19 Li (KN (.bool true) rr (LB rfl rfl rfl rr) (KQ ?_))))
   have bb:=K4 (.bool true)
   refine KK ?_
   refine K5 (t:=true) bb (fun _=>?_) (fun e=>by cases e)
   refine KM (KL (Lb (iv 110) LE (KQ ?_)))
   have bc:=K4 (iv 110)
   refine KK (Le (Lx ?_))
   exact LC (v:=iv 110) ah rfl rfl bc ⟨(by first|rw[show PB W H R B=0 from if_pos ⟨by assumption,by assumption,by omega,by omega,by omega,by omega⟩]|rw[show PB W H R B=110 from if_neg (by unfold PU;rintro ⟨h1,h2,h3,h4,h5,h6⟩;first|(exact absurd h1 (by assumption))|(exact absurd h2 (by assumption))|omega)]),((K7.tr aG).tr ba)⟩
 ·skip
  refine KL (KN (pt p1 0) rr (KU (n:=1) rfl ab Tryz.underlying23 rfl (by kernel_rfl) (by decide) rfl rr) (KN (iv W) rr (KY rfl rfl Tryz.underlying3 B4 rfl rfl rr) (LH (R:=fun v_ w_=>v_ = .bool false/\KR (fun _=>False) w2 w_) rfl rfl (LQ rfl rfl rfl (fun _ _=>by kernel_rfl) (K6 _) (Lo rfl L5) (QE W  _   ) (fun e_ w_ h_=>⟨_,h_.1,(congrArg Value.bool (decide_eq_false ai)),h_.2⟩)) ?_)))
  rintro _ bm ⟨rfl,bd⟩
  refine KN (.bool true) rr (Mq rfl rfl rfl rr) (KN (.bool true) rr (KT rfl rfl rr) (Lq 4 false 7 Li (Lq 4 false 7 Li (Lq 4 false 7 Li (Lq 4 false 7 Li (KN (.bool true) rr (LB rfl rfl rfl rr) (KN (.bool true) rr (KT rfl rfl rr) (Lq 10 false 13 Li (Lq 10 false 13 Li (Lq 10 false 13 Li (Lq 10 false 13 Li ?_)))))))))))
  refine KN (.bool true) rr (LB rfl rfl rfl rr) (KN (.bool true) rr (KT rfl rfl rr) (Lq 16 false 19 Li (Lq 16 false 19 Li (Lq 16 false 19 Li (Lq 16 false 19 Li (Lq 16 false 19 Li (Lq 16 false 19 Li (KN (.bool true) rr (LB rfl rfl rfl rr) (KQ ?_)))))))))
  have be:=K4 (.bool true)
  refine KK ?_
  refine K5 (t:=true) be (fun _=>?_) (fun e=>by cases e)
  refine KM (KL (Lb (iv 110) LE (KQ ?_)))
  have bf:=K4 (iv 110)
  refine KK (Le (Lx ?_))
  exact LC (v:=iv 110) ah rfl rfl bf ⟨(by first|rw[show PB W H R B=0 from if_pos ⟨by assumption,by assumption,by omega,by omega,by omega,by omega⟩]|rw[show PB W H R B=110 from if_neg (by unfold PU;rintro ⟨h1,h2,h3,h4,h5,h6⟩;first|(exact absurd h1 (by assumption))|(exact absurd h2 (by assumption))|omega)]),(K7.tr bd)⟩
theorem aEm(K Q D F:Int)(w0:World) :
  Calls Tryz.prog 57 #[.agg #[.int .i64 (K),.int .i64 (Q),.int .i64 (D),.int .i64 (F)]] w0 fun e w'=>e = .returned (.int .i64 (Qy K Q D F))/\KR (fun _=>False) w0 w':=by
 refine Ly (args:=[.agg #[iv K,iv Q,iv D,iv F]]) 25 Tryz.func57 rfl rfl (Nat.le_of_ble_eq_true rfl) ?_
 refine KM (KL (LJ (vs:=[iv K,iv Q,iv D,iv F]) rfl rfl rfl rfl fun p1 w2 B4 g5 k3=>?_))
 have K7:=(KR.refl (fun _=>False) w0).tr k3
 refine Lb (iv 0) LE (KQ ?_)
 have ah:=K4 (undef)
 have ab:=K4 (pt p1 0)
 refine KK (KM (KM ?_))
 by_cases ai:0<=K/\K<=2
 ·skip
  by_cases aj:0<=Q/\Q<=20
  ·skip
   by_cases ak:0<=D/\D<=16777215
   ·skip
    by_cases am:0<=F/\F<=1073741824
    ·skip
     refine KL (KN (pt p1 0) rr (KU (n:=1) rfl ab Tryz.underlying25 rfl (by kernel_rfl) (by decide) rfl rr) (KN (iv K) rr (KY rfl rfl Tryz.underlying3 B4 rfl rfl rr) (LH (R:=fun v_ w_=>v_ = .bool true/\KR (fun _=>False) w2 w_) rfl rfl (LQ rfl rfl rfl (fun _ _=>by kernel_rfl) (K6 _) (Lo rfl (Lo rfl (Lo rfl L5))) (MW K 0 2  _   ) (fun e_ w_ h_=>⟨_,h_.1,(congrArg Value.bool (decide_eq_true ai)),h_.2⟩)) ?_)))
     rintro _ aG ⟨rfl,an⟩
     have ao:=B4.all an id
     refine KN (.bool false) rr (Mq rfl rfl rfl rr) (KN (.bool false) rr (KT rfl rfl rr) (Lj (pt p1 1) 4 false 7 Li (KU (n:=1) rfl ab Tryz.underlying25 rfl (by kernel_rfl) (by decide) rfl rr) (Lj (iv Q) 4 false 7 Li (KY rfl rfl Tryz.underlying3 ao rfl rfl rr) (LZ (R:=fun v_ w_=>v_ = .bool true/\KR (fun _=>False) aG w_) 4 false 7 rfl rfl rfl rfl rfl (LQ rfl rfl rfl (fun _ _=>by kernel_rfl) (K6 _) (Lo rfl (Lo rfl (Lo rfl L5))) (MW Q 0 20  _   ) (fun e_ w_ h_=>⟨_,h_.1,(congrArg Value.bool (decide_eq_true aj)),h_.2⟩)) ?_))))
     rintro _ aH ⟨rfl,ap⟩
     have aq:=ao.all ap id
     refine Lj (.bool false) 4 false 7 Li (Mq rfl rfl rfl rr) (KN (.bool false) rr (Lt rfl rfl rfl rr) (KN (.bool false) rr (KT rfl rfl rr) (Lj (pt p1 2) 10 false 13 Li (KU (n:=1) rfl ab Tryz.underlying25 rfl (by kernel_rfl) (by decide) rfl rr) (Lj (iv D) 10 false 13 Li (KY rfl rfl Tryz.underlying3 aq rfl rfl rr) (LZ (R:=fun v_ w_=>v_ = .bool true/\KR (fun _=>False) aH w_) 10 false 13 rfl rfl rfl rfl rfl (LQ rfl rfl rfl (fun _ _=>by kernel_rfl) (K6 _) (Lo rfl (Lo rfl (Lo rfl L5))) (MW D 0 16777215  _   ) (fun e_ w_ h_=>⟨_,h_.1,(congrArg Value.bool (decide_eq_true ak)),h_.2⟩)) ?_)))))
     rintro _ aI ⟨rfl,ar⟩
     have aJ:=aq.all ar id
     refine Lj (.bool false) 10 false 13 Li (Mq rfl rfl rfl rr) (KN (.bool false) rr (Lt rfl rfl rfl rr) (KN (.bool false) rr (KT rfl rfl rr) (Lj (pt p1 3) 16 false 19 Li (KU (n:=1) rfl ab Tryz.underlying25 rfl (by kernel_rfl) (by decide) rfl rr) (Lj (iv F) 16 false 19 Li (KY rfl rfl Tryz.underlying3 aJ rfl rfl rr) (LZ (R:=fun v_ w_=>v_ = .bool true/\KR (fun _=>False) aI w_) 16 false 19 rfl rfl rfl rfl rfl (LQ rfl rfl rfl (fun _ _=>by kernel_rfl) (K6 _) (Lo rfl (Lo rfl (Lo rfl L5))) (MW F 0 1073741824  _   ) (fun e_ w_ h_=>⟨_,h_.1,(congrArg Value.bool (decide_eq_true am)),h_.2⟩)) ?_)))))
     rintro _ bh ⟨rfl,aK⟩
     refine Lj (.bool false) 16 false 19 Li (Mq rfl rfl rfl rr) (KN (.bool false) rr (Lt rfl rfl rfl rr) (KQ ?_))
     have aL:=K4 (.bool false)
     refine KK ?_
     refine K5 (t:=false) aL (fun e=>by cases e) (fun _=>?_)
     refine Lf (KK (KM (KL (Lb (iv 0) LE (KQ ?_)))))
     have aM:=K4 (iv 0)
     refine KK (Le ?_)
     exact LC (v:=iv 0) ah rfl rfl aM ⟨(by first|rw[show Qy K Q D F=0 from if_pos (by unfold OM;omega)]|rw[show Qy K Q D F=110 from if_neg (by unfold OM;omega)]),((((K7.tr an).tr ap).tr ar).tr aK)⟩
    ·skip
     refine KL (KN (pt p1 0) rr (KU (n:=1) rfl ab Tryz.underlying25 rfl (by kernel_rfl) (by decide) rfl rr) (KN (iv K) rr (KY rfl rfl Tryz.underlying3 B4 rfl rfl rr) (LH (R:=fun v_ w_=>v_ = .bool true/\KR (fun _=>False) w2 w_) rfl rfl (LQ rfl rfl rfl (fun _ _=>by kernel_rfl) (K6 _) (Lo rfl (Lo rfl (Lo rfl L5))) (MW K 0 2  _   ) (fun e_ w_ h_=>⟨_,h_.1,(congrArg Value.bool (decide_eq_true ai)),h_.2⟩)) ?_)))
     rintro _ aN ⟨rfl,au⟩
     have av:=B4.all au id
     refine KN (.bool false) rr (Mq rfl rfl rfl rr) (KN (.bool false) rr (KT rfl rfl rr) (Lj (pt p1 1) 4 false 7 Li (KU (n:=1) rfl ab Tryz.underlying25 rfl (by kernel_rfl) (by decide) rfl rr) (Lj (iv Q) 4 false 7 Li (KY rfl rfl Tryz.underlying3 av rfl rfl rr) (LZ (R:=fun v_ w_=>v_ = .bool true/\KR (fun _=>False) aN w_) 4 false 7 rfl rfl rfl rfl rfl (LQ rfl rfl rfl (fun _ _=>by kernel_rfl) (K6 _) (Lo rfl (Lo rfl (Lo rfl L5))) (MW Q 0 20  _   ) (fun e_ w_ h_=>⟨_,h_.1,(congrArg Value.bool (decide_eq_true aj)),h_.2⟩)) ?_))))
     rintro _ aO ⟨rfl,aw⟩
     have az:=av.all aw id
     refine Lj (.bool false) 4 false 7 Li (Mq rfl rfl rfl rr) (KN (.bool false) rr (Lt rfl rfl rfl rr) (KN (.bool false) rr (KT rfl rfl rr) (Lj (pt p1 2) 10 false 13 Li (KU (n:=1) rfl ab Tryz.underlying25 rfl (by kernel_rfl) (by decide) rfl rr) (Lj (iv D) 10 false 13 Li (KY rfl rfl Tryz.underlying3 az rfl rfl rr) (LZ (R:=fun v_ w_=>v_ = .bool true/\KR (fun _=>False) aO w_) 10 false 13 rfl rfl rfl rfl rfl (LQ rfl rfl rfl (fun _ _=>by kernel_rfl) (K6 _) (Lo rfl (Lo rfl (Lo rfl L5))) (MW D 0 16777215  _   ) (fun e_ w_ h_=>⟨_,h_.1,(congrArg Value.bool (decide_eq_true ak)),h_.2⟩)) ?_)))))
     rintro _ aP ⟨rfl,aA⟩
     have aQ:=az.all aA id
     refine Lj (.bool false) 10 false 13 Li (Mq rfl rfl rfl rr) (KN (.bool false) rr (Lt rfl rfl rfl rr) (KN (.bool false) rr (KT rfl rfl rr) (Lj (pt p1 3) 16 false 19 Li (KU (n:=1) rfl ab Tryz.underlying25 rfl (by kernel_rfl) (by decide) rfl rr) (Lj (iv F) 16 false 19 Li (KY rfl rfl Tryz.underlying3 aQ rfl rfl rr) (LZ (R:=fun v_ w_=>v_ = .bool false/\KR (fun _=>False) aP w_) 16 false 19 rfl rfl rfl rfl rfl (LQ rfl rfl rfl (fun _ _=>by kernel_rfl) (K6 _) (Lo rfl (Lo rfl (Lo rfl L5))) (MW F 0 1073741824  _   ) (fun e_ w_ h_=>⟨_,h_.1,(congrArg Value.bool (decide_eq_false am)),h_.2⟩)) ?_)))))
     rintro _ bi ⟨rfl,aR⟩
     refine Lj (.bool true) 16 false 19 Li (Mq rfl rfl rfl rr) (KN (.bool true) rr (Lt rfl rfl rfl rr) (KQ ?_))
     have aS:=K4 (.bool true)
     refine KK ?_
     refine K5 (t:=true) aS (fun _=>?_) (fun e=>by cases e)
     refine KM (KL (Lb (iv 110) LE (KQ ?_)))
     have aT:=K4 (iv 110)
     refine KK (Le (Lx ?_))
     exact LC (v:=iv 110) ah rfl rfl aT ⟨(by first|rw[show Qy K Q D F=0 from if_pos (by unfold OM;omega)]|rw[show Qy K Q D F=110 from if_neg (by unfold OM;omega)]),((((K7.tr au).tr aw).tr aA).tr aR)⟩
   ·skip
    refine KL (KN (pt p1 0) rr (KU (n:=1) rfl ab Tryz.underlying25 rfl (by kernel_rfl) (by decide) rfl rr) (KN (iv K) rr (KY rfl rfl Tryz.underlying3 B4 rfl rfl rr) (LH (R:=fun v_ w_=>v_ = .bool true/\KR (fun _=>False) w2 w_) rfl rfl (LQ rfl rfl rfl (fun _ _=>by kernel_rfl) (K6 _) (Lo rfl (Lo rfl (Lo rfl L5))) (MW K 0 2  _   ) (fun e_ w_ h_=>⟨_,h_.1,(congrArg Value.bool (decide_eq_true ai)),h_.2⟩)) ?_)))
    rintro _ aU ⟨rfl,aB⟩
    have aC:=B4.all aB id
    refine KN (.bool false) rr (Mq rfl rfl rfl rr) (KN (.bool false) rr (KT rfl rfl rr) (Lj (pt p1 1) 4 false 7 Li (KU (n:=1) rfl ab Tryz.underlying25 rfl (by kernel_rfl) (by decide) rfl rr) (Lj (iv Q) 4 false 7 Li (KY rfl rfl Tryz.underlying3 aC rfl rfl rr) (LZ (R:=fun v_ w_=>v_ = .bool true/\KR (fun _=>False) aU w_) 4 false 7 rfl rfl rfl rfl rfl (LQ rfl rfl rfl (fun _ _=>by kernel_rfl) (K6 _) (Lo rfl (Lo rfl (Lo rfl L5))) (MW Q 0 20  _   ) (fun e_ w_ h_=>⟨_,h_.1,(congrArg Value.bool (decide_eq_true aj)),h_.2⟩)) ?_))))
    rintro _ aV ⟨rfl,aD⟩
    have aW:=aC.all aD id
    refine Lj (.bool false) 4 false 7 Li (Mq rfl rfl rfl rr) (KN (.bool false) rr (Lt rfl rfl rfl rr) (KN (.bool false) rr (KT rfl rfl rr) (Lj (pt p1 2) 10 false 13 Li (KU (n:=1) rfl ab Tryz.underlying25 rfl (by kernel_rfl) (by decide) rfl rr) (Lj (iv D) 10 false 13 Li (KY rfl rfl Tryz.underlying3 aW rfl rfl rr) (LZ (R:=fun v_ w_=>v_ = .bool false/\KR (fun _=>False) aV w_) 10 false 13 rfl rfl rfl rfl rfl (LQ rfl rfl rfl (fun _ _=>by kernel_rfl) (K6 _) (Lo rfl (Lo rfl (Lo rfl L5))) (MW D 0 16777215  _   ) (fun e_ w_ h_=>⟨_,h_.1,(congrArg Value.bool (decide_eq_false ak)),h_.2⟩)) ?_)))))
    rintro _ bj ⟨rfl,aX⟩
    refine Lj (.bool true) 10 false 13 Li (Mq rfl rfl rfl rr) (KN (.bool true) rr (Lt rfl rfl rfl rr) (KN (.bool true) rr (KT rfl rfl rr) (Lq 16 false 19 Li (Lq 16 false 19 Li (Lq 16 false 19 Li (Lq 16 false 19 Li (KN (.bool true) rr (LB rfl rfl rfl rr) (KQ ?_))))))))
    have aY:=K4 (.bool true)
    refine KK ?_
    refine K5 (t:=true) aY (fun _=>?_) (fun e=>by cases e)
    refine KM (KL (Lb (iv 110) LE (KQ ?_)))
    have aZ:=K4 (iv 110)
    refine KK (Le (Lx ?_))
    exact LC (v:=iv 110) ah rfl rfl aZ ⟨(by first|rw[show Qy K Q D F=0 from if_pos (by unfold OM;omega)]|rw[show Qy K Q D F=110 from if_neg (by unfold OM;omega)]),(((K7.tr aB).tr aD).tr aX)⟩
  ·skip
   refine KL (KN (pt p1 0) rr (KU (n:=1) rfl ab Tryz.underlying25 rfl (by kernel_rfl) (by decide) rfl rr) (KN (iv K) rr (KY rfl rfl Tryz.underlying3 B4 rfl rfl rr) (LH (R:=fun v_ w_=>v_ = .bool true/\KR (fun _=>False) w2 w_) rfl rfl (LQ rfl rfl rfl (fun _ _=>by kernel_rfl) (K6 _) (Lo rfl (Lo rfl (Lo rfl L5))) (MW K 0 2  _   ) (fun e_ w_ h_=>⟨_,h_.1,(congrArg Value.bool (decide_eq_true ai)),h_.2⟩)) ?_)))
   rintro _ a8 ⟨rfl,aE⟩
   have a9:=B4.all aE id
   refine KN (.bool false) rr (Mq rfl rfl rfl rr) (KN (.bool false) rr (KT rfl rfl rr) (Lj (pt p1 1) 4 false 7 Li (KU (n:=1) rfl ab Tryz.underlying25 rfl (by kernel_rfl) (by decide) rfl rr) (Lj (iv Q) 4 false 7 Li (KY rfl rfl Tryz.underlying3 a9 rfl rfl rr) (LZ (R:=fun v_ w_=>v_ = .bool false/\KR (fun _=>False) a8 w_) 4 false 7 rfl rfl rfl rfl rfl (LQ rfl rfl rfl (fun _ _=>by kernel_rfl) (K6 _) (Lo rfl (Lo rfl (Lo rfl L5))) (MW Q 0 20  _   ) (fun e_ w_ h_=>⟨_,h_.1,(congrArg Value.bool (decide_eq_false aj)),h_.2⟩)) ?_))))
   rintro _ bl ⟨rfl,ba⟩
   refine Lj (.bool true) 4 false 7 Li (Mq rfl rfl rfl rr) (KN (.bool true) rr (Lt rfl rfl rfl rr) (KN (.bool true) rr (KT rfl rfl rr) (Lq 10 false 13 Li (Lq 10 false 13 Li (Lq 10 false 13 Li (Lq 10 false 13 Li (KN (.bool true) rr (LB rfl rfl rfl rr) (KN (.bool true) rr (KT rfl rfl rr) (Lq 16 false 19 Li (Lq 16 false 19 Li (Lq 16 false 19 Li ?_)))))))))))
   refine Lq 16 false 19 Li (KN (.bool true) rr (LB rfl rfl rfl rr) (KQ ?_))
   have bb:=K4 (.bool true)
   refine KK ?_
   refine K5 (t:=true) bb (fun _=>?_) (fun e=>by cases e)
   refine KM (KL (Lb (iv 110) LE (KQ ?_)))
   have bc:=K4 (iv 110)
   refine KK (Le (Lx ?_))
   exact LC (v:=iv 110) ah rfl rfl bc ⟨(by first|rw[show Qy K Q D F=0 from if_pos (by unfold OM;omega)]|rw[show Qy K Q D F=110 from if_neg (by unfold OM;omega)]),((K7.tr aE).tr ba)⟩
 ·skip
  refine KL (KN (pt p1 0) rr (KU (n:=1) rfl ab Tryz.underlying25 rfl (by kernel_rfl) (by decide) rfl rr) (KN (iv K) rr (KY rfl rfl Tryz.underlying3 B4 rfl rfl rr) (LH (R:=fun v_ w_=>v_ = .bool false/\KR (fun _=>False) w2 w_) rfl rfl (LQ rfl rfl rfl (fun _ _=>by kernel_rfl) (K6 _) (Lo rfl (Lo rfl (Lo rfl L5))) (MW K 0 2  _   ) (fun e_ w_ h_=>⟨_,h_.1,(congrArg Value.bool (decide_eq_false ai)),h_.2⟩)) ?_)))
  rintro _ bm ⟨rfl,bd⟩
  refine KN (.bool true) rr (Mq rfl rfl rfl rr) (KN (.bool true) rr (KT rfl rfl rr) (Lq 4 false 7 Li (Lq 4 false 7 Li (Lq 4 false 7 Li (Lq 4 false 7 Li (KN (.bool true) rr (LB rfl rfl rfl rr) (KN (.bool true) rr (KT rfl rfl rr) (Lq 10 false 13 Li (Lq 10 false 13 Li (Lq 10 false 13 Li (Lq 10 false 13 Li ?_)))))))))))
  refine KN (.bool true) rr (LB rfl rfl rfl rr) (KN (.bool true) rr (KT rfl rfl rr) (Lq 16 false 19 Li (Lq 16 false 19 Li (Lq 16 false 19 Li (Lq 16 false 19 Li (KN (.bool true) rr (LB rfl rfl rfl rr) (KQ ?_)))))))
  have be:=K4 (.bool true)
  refine KK ?_
  refine K5 (t:=true) be (fun _=>?_) (fun e=>by cases e)
  refine KM (KL (Lb (iv 110) LE (KQ ?_)))
  have bf:=K4 (iv 110)
  refine KK (Le (Lx ?_))
  exact LC (v:=iv 110) ah rfl rfl bf ⟨(by first|rw[show Qy K Q D F=0 from if_pos (by unfold OM;omega)]|rw[show Qy K Q D F=110 from if_neg (by unfold OM;omega)]),(K7.tr bd)⟩
open Go.RowKit
theorem QR:Rf Tryz.prog 65 3:=⟨_,Tryz.underlying65,rfl,by kernel_rfl⟩
theorem Wb:Rf Tryz.prog 58 2:=⟨_,Tryz.underlying58,rfl,by kernel_rfl⟩
theorem Ug:Rf Tryz.prog 59 6:=⟨_,Tryz.underlying59,rfl,by kernel_rfl⟩
theorem aEz{W:Int}(h0:0<=W):Int.tdiv W 2=W/2:=Int.tdiv_eq_ediv_of_nonneg h0
theorem aEA{W:Int}{p:Nat}(h0:0<=W)(hp:p≠0):Int.tdiv (W/2) 4=((Lk W p:Nat):Int):=by
 rw[Int.tdiv_eq_ediv_of_nonneg (by omega)];unfold Lk;rw[if_neg hp];omega
theorem Tj(W H R B:Int)(f:FD)(f0 f1 f2:Value)(T_f0:Nat->Prop)(T_f1:Nat->Prop)(T_f2:Nat->Prop)(w0:World)(h_f0:Mv w0 T_f0 f0 ((f).p0))(h_f1:Mv w0 T_f1 f1 ((f).p1))(h_f2:Mv w0 T_f2 f2 ((f).p2)) :
  Calls Tryz.prog 16 #[.agg #[.int .i64 (W),.int .i64 (H),.int .i64 (R),.int .i64 (B)],.agg #[.int .i64 ((f).W),.int .i64 ((f).H),f0,f1,f2]] w0 fun e w'=>e = .returned (.bool (decide (Nl W H R B f)))/\KR (fun _=>False) w0 w':=by
 refine Ly (args:=[.agg #[iv W,iv H,iv R,iv B],.agg #[iv (f.W),iv (f.H),f0,f1,f2]]) 27 Tryz.func16 rfl rfl (Nat.le_of_ble_eq_true rfl) ?_
 have g_f0:=KS.refl w0 T_f0
 have g_f1:=KS.refl w0 T_f1
 have g_f2:=KS.refl w0 T_f2
 refine KM (KL (LJ (vs:=[iv W,iv H,iv R,iv B]) rfl rfl rfl rfl fun p1 w2 B4 g5 k3=>?_))
 obtain⟨aH,aI,aJ⟩:=Od k3 h_f0 h_f1 h_f2
 refine LJ (vs:=[iv (f.W),iv (f.H),f0,f1,f2]) rfl rfl rfl rfl fun af bh ak bi ar=>?_
 obtain⟨am,an,ao,ab⟩:=Pg ar aH aI aJ B4
 have ah:=((KR.refl (fun _=>False) w0).tr k3).tr ar
 refine Lb (.bool false) LE (KQ ?_)
 have ai:=K4 (undef)
 have aa:=K4 (pt p1 0)
 have ac:=K4 (pt af 0)
 refine KK (KM ?_)
 by_cases aj:(PB W H R B)=0
 ·skip
  by_cases ap:(NU f)=0
  ·skip
   by_cases au:W=(f.W)
   ·skip
    refine KL (KN (.agg #[iv W,iv H,iv R,iv B]) rr (KX MR rfl aa ab rr) (L9 rfl rfl rfl rfl rfl (fun _ _=>by kernel_rfl) (Lo rfl L5) (Wk W H R B  _   ) fun aK av=>?_))
    obtain⟨aL,aM,aN,aO,aw⟩:=O6 av am an ao ab ak
    refine KN (.bool true) rr (MA rfl rfl rfl (decide_eq_true aj) rr) (KN (.bool true) rr (KT rfl rfl rr) (Lj (.agg #[iv (f.W),iv (f.H),f0,f1,f2]) 3 true 8 Li (KX La rfl ac aw rr) (LZ (R:=fun v_ w_=>v_=iv (NU f)/\KR (fun _=>False) aK w_) 3 true 8 rfl rfl rfl rfl rfl (LQ rfl rfl rfl (fun _ _=>by kernel_rfl) (K6 _) (Lo rfl L5) (NG f f0 f1 f2 T_f0 T_f1 T_f2 _  aL aM aN ) (fun e_ w_ h_=>⟨_,h_.1,rfl,h_.2⟩)) ?_)))
    rintro _ bj ⟨rfl,az⟩
    obtain⟨aA,aB⟩:=Oe az aO aw
    refine Lj (.bool true) 3 true 8 Li (MA rfl rfl rfl (decide_eq_true ap) rr) (KN (.bool true) rr (LB rfl rfl rfl rr) (KN (.bool true) rr (KT rfl rfl rr) (Lj (pt p1 0) 8 true 13 Li (KU (n:=1) rfl aa Tryz.underlying23 rfl (by kernel_rfl) (by decide) rfl rr) (Lj (iv W) 8 true 13 Li (KY rfl rfl Tryz.underlying3 aA rfl rfl rr) (Lj (pt af 0) 8 true 13 Li (KU (n:=1) rfl ac Tryz.underlying29 rfl (by kernel_rfl) (by decide) rfl rr) (Lj (iv (f.W)) 8 true 13 Li (KY rfl rfl Tryz.underlying3 aB rfl rfl rr) (Lj (.bool true) 8 true 13 Li (MA rfl rfl rfl (decide_eq_true au) rr) (KN (.bool true) rr (LB rfl rfl rfl rr) (KN (.bool true) rr (KT rfl rfl rr) (Lj (pt p1 1) 15 true 20 Li (KU (n:=1) rfl aa Tryz.underlying23 rfl (by kernel_rfl) (by decide) rfl rr) (Lj (iv H) 15 true 20 Li (KY rfl rfl Tryz.underlying3 aA rfl rfl rr) ?_)))))))))))
    refine Lj (pt af 1) 15 true 20 Li (KU (n:=1) rfl ac Tryz.underlying29 rfl (by kernel_rfl) (by decide) rfl rr) (Lj (iv (f.H)) 15 true 20 Li (KY rfl rfl Tryz.underlying3 aB rfl rfl rr) (Lj (.bool (decide (H=(f.H)))) 15 true 20 Li (MA rfl rfl rfl rfl rr) (KN (.bool (decide (H=(f.H)))) rr (LB rfl rfl rfl rr) (Lb (.bool (decide (H=(f.H)))) LE (KQ ?_)))))
    have aP:=K4 (.bool (decide (H=(f.H))))
    refine KK (Le ?_)
    exact LC (v:=.bool (decide (H=(f.H)))) ai rfl rfl aP ⟨(PS (Uq (by simp_all))),((ah.tr av).tr az)⟩
   ·skip
    refine KL (KN (.agg #[iv W,iv H,iv R,iv B]) rr (KX MR rfl aa ab rr) (L9 rfl rfl rfl rfl rfl (fun _ _=>by kernel_rfl) (Lo rfl L5) (Wk W H R B  _   ) fun aQ aC=>?_))
    obtain⟨aR,aS,aT,aU,aD⟩:=O6 aC am an ao ab ak
    refine KN (.bool true) rr (MA rfl rfl rfl (decide_eq_true aj) rr) (KN (.bool true) rr (KT rfl rfl rr) (Lj (.agg #[iv (f.W),iv (f.H),f0,f1,f2]) 3 true 8 Li (KX La rfl ac aD rr) (LZ (R:=fun v_ w_=>v_=iv (NU f)/\KR (fun _=>False) aQ w_) 3 true 8 rfl rfl rfl rfl rfl (LQ rfl rfl rfl (fun _ _=>by kernel_rfl) (K6 _) (Lo rfl L5) (NG f f0 f1 f2 T_f0 T_f1 T_f2 _  aR aS aT ) (fun e_ w_ h_=>⟨_,h_.1,rfl,h_.2⟩)) ?_)))
    rintro _ bl ⟨rfl,aE⟩
    obtain⟨aV,aW⟩:=Oe aE aU aD
    refine Lj (.bool true) 3 true 8 Li (MA rfl rfl rfl (decide_eq_true ap) rr) (KN (.bool true) rr (LB rfl rfl rfl rr) (KN (.bool true) rr (KT rfl rfl rr) (Lj (pt p1 0) 8 true 13 Li (KU (n:=1) rfl aa Tryz.underlying23 rfl (by kernel_rfl) (by decide) rfl rr) (Lj (iv W) 8 true 13 Li (KY rfl rfl Tryz.underlying3 aV rfl rfl rr) (Lj (pt af 0) 8 true 13 Li (KU (n:=1) rfl ac Tryz.underlying29 rfl (by kernel_rfl) (by decide) rfl rr) (Lj (iv (f.W)) 8 true 13 Li (KY rfl rfl Tryz.underlying3 aW rfl rfl rr) (Lj (.bool false) 8 true 13 Li (MA rfl rfl rfl (decide_eq_false au) rr) (KN (.bool false) rr (LB rfl rfl rfl rr) (KN (.bool false) rr (KT rfl rfl rr) (Lq 15 true 20 Li (Lq 15 true 20 Li ?_)))))))))))
    refine Lq 15 true 20 Li (Lq 15 true 20 Li (Lq 15 true 20 Li (KN (.bool false) rr (Lt rfl rfl rfl rr) (Lb (.bool false) LE (KQ ?_)))))
    have aX:=K4 (.bool false)
    refine KK (Le ?_)
    exact LC (v:=.bool false) ai rfl rfl aX ⟨(PS (Uq (by simp_all))),((ah.tr aC).tr aE)⟩
  ·skip
   refine KL (KN (.agg #[iv W,iv H,iv R,iv B]) rr (KX MR rfl aa ab rr) (L9 rfl rfl rfl rfl rfl (fun _ _=>by kernel_rfl) (Lo rfl L5) (Wk W H R B  _   ) fun aY aF=>?_))
   obtain⟨aZ,a8,a9,ba⟩:=Pg aF am an ao ak
   refine KN (.bool true) rr (MA rfl rfl rfl (decide_eq_true aj) rr) (KN (.bool true) rr (KT rfl rfl rr) (Lj (.agg #[iv (f.W),iv (f.H),f0,f1,f2]) 3 true 8 Li (KX La rfl ac ba rr) (LZ (R:=fun v_ w_=>v_=iv (NU f)/\KR (fun _=>False) aY w_) 3 true 8 rfl rfl rfl rfl rfl (LQ rfl rfl rfl (fun _ _=>by kernel_rfl) (K6 _) (Lo rfl L5) (NG f f0 f1 f2 T_f0 T_f1 T_f2 _  aZ a8 a9 ) (fun e_ w_ h_=>⟨_,h_.1,rfl,h_.2⟩)) ?_)))
   rintro _ bm ⟨rfl,bb⟩
   refine Lj (.bool false) 3 true 8 Li (MA rfl rfl rfl (decide_eq_false ap) rr) (KN (.bool false) rr (LB rfl rfl rfl rr) (KN (.bool false) rr (KT rfl rfl rr) (Lq 8 true 13 Li (Lq 8 true 13 Li (Lq 8 true 13 Li (Lq 8 true 13 Li (Lq 8 true 13 Li (KN (.bool false) rr (Lt rfl rfl rfl rr) (KN (.bool false) rr (KT rfl rfl rr) (Lq 15 true 20 Li (Lq 15 true 20 Li ?_)))))))))))
   refine Lq 15 true 20 Li (Lq 15 true 20 Li (Lq 15 true 20 Li (KN (.bool false) rr (Lt rfl rfl rfl rr) (Lb (.bool false) LE (KQ ?_)))))
   have bc:=K4 (.bool false)
   refine KK (Le ?_)
   exact LC (v:=.bool false) ai rfl rfl bc ⟨(PS (Uq (by simp_all))),((ah.tr aF).tr bb)⟩
 ·skip
  refine KL (KN (.agg #[iv W,iv H,iv R,iv B]) rr (KX MR rfl aa ab rr) (L9 rfl rfl rfl rfl rfl (fun _ _=>by kernel_rfl) (Lo rfl L5) (Wk W H R B  _   ) fun bn bd=>?_))
  refine KN (.bool false) rr (MA rfl rfl rfl (decide_eq_false aj) rr) (KN (.bool false) rr (KT rfl rfl rr) (Lq 3 true 8 Li (Lq 3 true 8 Li (Lq 3 true 8 Li (KN (.bool false) rr (Lt rfl rfl rfl rr) (KN (.bool false) rr (KT rfl rfl rr) (Lq 8 true 13 Li (Lq 8 true 13 Li (Lq 8 true 13 Li (Lq 8 true 13 Li (Lq 8 true 13 Li ?_)))))))))))
  refine KN (.bool false) rr (Lt rfl rfl rfl rr) (KN (.bool false) rr (KT rfl rfl rr) (Lq 15 true 20 Li (Lq 15 true 20 Li (Lq 15 true 20 Li (Lq 15 true 20 Li (Lq 15 true 20 Li (KN (.bool false) rr (Lt rfl rfl rfl rr) (Lb (.bool false) LE (KQ ?_)))))))))
  have be:=K4 (.bool false)
  refine KK (Le ?_)
  exact LC (v:=.bool false) ai rfl rfl be ⟨(PS (Uq (by simp_all))),(ah.tr bd)⟩
def RM(W H R B K Q D F:Int):Int:=if RU W H R B K Q D F then 0 else 110
theorem Oo{W H R B K Q D F:Int}(h:¬ RU W H R B K Q D F):RM W H R B K Q D F=110:=if_neg h
theorem aDQ{W H R B K Q D F:Int}(h:RU W H R B K Q D F):RM W H R B K Q D F=0:=if_pos h
theorem azQ{W H R B K Q D F:Int}(h:RM W H R B K Q D F=0):RU W H R B K Q D F:=Decidable.byContradiction fun hn=>by rw[Oo hn] at h;cases h
theorem aAl{W H R B K Q D F:Int}(h:RM W H R B K Q D F≠0):¬ RU W H R B K Q D F:=fun hm=>h (aDQ hm)
theorem aCE{W H R B:Int}(h:PB W H R B≠0):PB W H R B=110:=by unfold PB at h ⊢;split at h <;> first|exact absurd rfl h|(rename_i hn;exact if_neg hn)
theorem YZ{W H R B K Q D F:Int}(h:PB W H R B=0):RM W H R B K Q D F=Qy K Q D F:=by
 have hs:=aE9 h
 unfold RM Qy
 by_cases hh:OM K Q D F
 ·rw[if_pos hh,if_pos ⟨hs,hh⟩]
 ·rw[if_neg hh,if_neg (fun z=>hh z.2)]
theorem azU{W H R B K Q D F:Int}(h:PB W H R B≠0):RM W H R B K Q D F=PB W H R B:=by
 rw[aCE h,Oo]
 intro z;exact h (if_pos z.1)
theorem Zr(W H R B K Q D F:Int)(w0:World) :
  Calls Tryz.prog 26 #[.agg #[.int .i64 (W),.int .i64 (H),.int .i64 (R),.int .i64 (B)],.agg #[.int .i64 (K),.int .i64 (Q),.int .i64 (D),.int .i64 (F)]] w0 fun e w'=>e = .returned (.int .i64 (RM W H R B K Q D F))/\KR (fun _=>False) w0 w':=by
 refine Ly (args:=[.agg #[iv W,iv H,iv R,iv B],.agg #[iv K,iv Q,iv D,iv F]]) 13 Tryz.func26 rfl rfl (Nat.le_of_ble_eq_true rfl) ?_
 refine KM (KL (LJ (vs:=[iv W,iv H,iv R,iv B]) rfl rfl rfl rfl fun p1 w2 B4 g5 k3=>?_))
 refine LJ (vs:=[iv K,iv Q,iv D,iv F]) rfl rfl rfl rfl fun p8 w9 an aD ab=>?_
 have ao:=B4.all ab id
 refine Lb (iv 0) LE (KQ ?_)
 have ac:=K4 (undef)
 have ap:=K4 (pt p1 0)
 have aq:=K4 (pt p8 0)
 refine KK (KM (KM (KL (KN (.agg #[iv W,iv H,iv R,iv B]) rr (KX MR rfl ap ao rr) (L9 rfl rfl rfl rfl rfl (fun _ _=>by kernel_rfl) (Lo rfl L5) (Wk W H R B  _   ) fun aE ae=>?_)))))
 have ar:=an.all ae id
 have af:=(((KR.refl (fun _=>False) w0).tr k3).tr ab).tr ae
 refine Lb (iv (PB W H R B)) LE (KQ ?_)
 have ah:=K4 (iv (PB W H R B))
 refine KK (KM (KL (K2 Lw ah (KN (.bool (decide ((PB W H R B)≠0))) rr (Mw rfl rfl rfl rfl rr) (KQ ?_)))))
 have au:=K4 (.bool (decide ((PB W H R B)≠0)))
 refine KK ?_
 refine K5 au (fun aa=>?_) (fun aa=>?_)
 ·replace aa:=of_decide_eq_true aa
  refine KM (KL (K2 Lw ah (Lb (iv (PB W H R B)) LE (KQ ?_))))
  have av:=K4 (iv (PB W H R B))
  refine KK (Le (Lx ?_))
  exact LC (v:=iv (PB W H R B)) ac rfl rfl av ⟨(by first|rw[azU (by assumption)]|rw[YZ (by first|assumption|(apply Decidable.byContradiction;assumption))]),af⟩
 ·replace aa:=of_decide_eq_false aa
  refine Lf (KK (KM (KL (KN (.agg #[iv K,iv Q,iv D,iv F]) rr (KX Tl rfl aq ar rr) (L9 rfl rfl rfl rfl rfl (fun _ _=>by kernel_rfl) (Lo rfl L5) (aEm K Q D F  _   ) fun aF aw=>?_)))))
  refine Lb (iv (Qy K Q D F)) LE (KQ ?_)
  have az:=K4 (iv (Qy K Q D F))
  refine KK (Le ?_)
  exact LC (v:=iv (Qy K Q D F)) ac rfl rfl az ⟨(by first|rw[azU (by assumption)]|rw[YZ (by first|assumption|(apply Decidable.byContradiction;assumption))]),(af.tr aw)⟩
theorem aB4(W H R B K:Int)(g:FD)(g0 g1 g2:Value)(h:FD)(h0 h1 h2:Value)(T_g0:Nat->Prop)(T_g1:Nat->Prop)(T_g2:Nat->Prop)(T_h0:Nat->Prop)(T_h1:Nat->Prop)(T_h2:Nat->Prop)(w0:World)(h_g0:Mv w0 T_g0 g0 ((g).p0))(h_g1:Mv w0 T_g1 g1 ((g).p1))(h_g2:Mv w0 T_g2 g2 ((g).p2))(h_h0:Mv w0 T_h0 h0 ((h).p0))(h_h1:Mv w0 T_h1 h1 ((h).p1))(h_h2:Mv w0 T_h2 h2 ((h).p2)) :
  Calls Tryz.prog 41 #[.agg #[.int .i64 (W),.int .i64 (H),.int .i64 (R),.int .i64 (B)],.int .i64 (K),.agg #[.int .i64 ((g).W),.int .i64 ((g).H),g0,g1,g2],.agg #[.int .i64 ((h).W),.int .i64 ((h).H),h0,h1,h2]] w0 fun e w'=>e = .returned (.bool (decide (¬ ((K≠0/\¬ Nl W H R B g)\/(K=2/\¬ Nl W H R B h)))))/\KR (fun _=>False) w0 w':=by
 refine Ly (args:=[.agg #[iv W,iv H,iv R,iv B],iv K,.agg #[iv (g.W),iv (g.H),g0,g1,g2],.agg #[iv (h.W),iv (h.H),h0,h1,h2]]) 25 Tryz.func41 rfl rfl (Nat.le_of_ble_eq_true rfl) ?_
 have g_g0:=KS.refl w0 T_g0
 have g_g1:=KS.refl w0 T_g1
 have g_g2:=KS.refl w0 T_g2
 have g_h0:=KS.refl w0 T_h0
 have g_h1:=KS.refl w0 T_h1
 have g_h2:=KS.refl w0 T_h2
 refine KM (KL (LJ (vs:=[iv W,iv H,iv R,iv B]) rfl rfl rfl rfl fun p1 w2 B4 g5 k3=>?_))
 obtain⟨aH,aI,aJ,aK,aL,aM⟩:=Qh k3 h_g0 h_g1 h_g2 h_h0 h_h1 h_h2
 refine LJ (vs:=[iv (g.W),iv (g.H),g0,g1,g2]) rfl rfl rfl rfl fun aN bn aO bo ar=>?_
 obtain⟨aP,aQ,aR,aS,aT,aU,aV⟩:=Uc ar aH aI aJ aK aL aM B4
 refine LJ (vs:=[iv (h.W),iv (h.H),h0,h1,h2]) rfl rfl rfl rfl fun aW ai au bp av=>?_
 obtain⟨ak,am,an,aw,az,aA,ab,ao⟩:=Yf av aP aQ aR aS aT aU aV aO
 have ac:=(((KR.refl (fun _=>False) w0).tr k3).tr ar).tr av
 refine Lb (.bool false) LE (KQ ?_)
 have aa:=K4 (iv K)
 have ae:=K4 (undef)
 have af:=K4 (pt p1 0)
 have ap:=K4 (pt aN 0)
 have aB:=K4 (pt aW 0)
 refine KK (KM ?_)
 by_cases ah:K=0
 ·skip
  by_cases aC:K≠2
  ·skip
   refine KL (K2 Lw aa (KN (.bool true) rr (MA rfl rfl rfl (decide_eq_true ah) rr) (KN (.bool true) rr (KT rfl rfl rr) (Lq 2 false 11 Li (Lq 2 false 11 Li (Lq 2 false 11 Li (KN (.bool true) rr (LB rfl rfl rfl rr) (KN (.bool true) rr (KT rfl rfl rr) (Lj (iv K) 7 true 16 Li (KT rfl aa rr) (Lj (.bool true) 7 true 16 Li (Mw rfl rfl rfl (decide_eq_true aC) rr) (Lj (.bool true) 7 true 16 Li (KT rfl rfl rr) ?_)))))))))))
   refine Lq 10 false 19 Li (Lq 10 false 19 Li (Lq 10 false 19 Li (Lj (.bool true) 7 true 16 Li (LB rfl rfl rfl rr) (KN (.bool true) rr (LB rfl rfl rfl rr) (Lb (.bool true) LE (KQ ?_))))))
   have aX:=K4 (.bool true)
   refine KK (Le ?_)
   exact LC (v:=.bool true) ae rfl rfl aX ⟨(PS (by first|(simp[*];done)|(simp_all;done)|(simp_all;omega))),ac⟩
  ·skip
   refine KL (K2 Lw aa (KN (.bool true) rr (MA rfl rfl rfl (decide_eq_true ah) rr) (KN (.bool true) rr (KT rfl rfl rr) (Lq 2 false 11 Li (Lq 2 false 11 Li (Lq 2 false 11 Li (KN (.bool true) rr (LB rfl rfl rfl rr) (KN (.bool true) rr (KT rfl rfl rr) (Lj (iv K) 7 true 16 Li (KT rfl aa rr) (Lj (.bool false) 7 true 16 Li (Mw rfl rfl rfl (decide_eq_false aC) rr) (Lj (.bool false) 7 true 16 Li (KT rfl rfl rr) ?_)))))))))))
   refine Lj (.agg #[iv W,iv H,iv R,iv B]) 10 false 19 Li (KX MR rfl af ab rr) (Lj (.agg #[iv (h.W),iv (h.H),h0,h1,h2]) 10 false 19 Li (KX La rfl aB au rr) (LZ (R:=fun v_ w_=>v_ = .bool (decide (Nl W H R B h))/\KR (fun _=>False) ai w_) 10 false 19 rfl rfl rfl rfl rfl (LQ rfl rfl rfl (fun _ _=>by kernel_rfl) (K6 _) (Lo rfl (Lo rfl L5)) (Tj W H R B h h0 h1 h2 T_h0 T_h1 T_h2 _  aw az aA ) (fun e_ w_ h_=>⟨_,h_.1,rfl,h_.2⟩)) ?_))
   rintro _ bq ⟨rfl,aY⟩
   refine Lj (.bool (decide (Nl W H R B h))) 7 true 16 Li (Lt rfl rfl rfl rr) (KN (.bool (decide (Nl W H R B h))) rr (LB rfl rfl rfl rr) (Lb (.bool (decide (Nl W H R B h))) LE (KQ ?_)))
   have aZ:=K4 (.bool (decide (Nl W H R B h)))
   refine KK (Le ?_)
   exact LC (v:=.bool (decide (Nl W H R B h))) ae rfl rfl aZ ⟨(PS (by first|(simp[*];done)|(simp_all;done)|(simp_all;omega))),(ac.tr aY)⟩
 ·skip
  rcases Bool.eq_false_or_eq_true (decide (Nl W H R B g)) with aj|aj
  ·skip
   by_cases aD:K≠2
   ·skip
    refine KL (K2 Lw aa (KN (.bool false) rr (MA rfl rfl rfl (decide_eq_false ah) rr) (KN (.bool false) rr (KT rfl rfl rr) (Lj (.agg #[iv W,iv H,iv R,iv B]) 2 false 11 Li (KX MR rfl af ab rr) (Lj (.agg #[iv (g.W),iv (g.H),g0,g1,g2]) 2 false 11 Li (KX La rfl ap ao rr) (LZ (R:=fun v_ w_=>v_ = .bool true/\KR (fun _=>False) ai w_) 2 false 11 rfl rfl rfl rfl rfl (LQ rfl rfl rfl (fun _ _=>by kernel_rfl) (K6 _) (Lo rfl (Lo rfl L5)) (Tj W H R B g g0 g1 g2 T_g0 T_g1 T_g2 _  ak am an ) (fun e_ w_ h_=>⟨_,h_.1,(congrArg Value.bool aj),h_.2⟩)) ?_))))))
    rintro _ bt ⟨rfl,a8⟩
    refine KN (.bool true) rr (Lt rfl rfl rfl rr) (KN (.bool true) rr (KT rfl rfl rr) (Lj (iv K) 7 true 16 Li (KT rfl aa rr) (Lj (.bool true) 7 true 16 Li (Mw rfl rfl rfl (decide_eq_true aD) rr) (Lj (.bool true) 7 true 16 Li (KT rfl rfl rr) (Lq 10 false 19 Li (Lq 10 false 19 Li (Lq 10 false 19 Li (Lj (.bool true) 7 true 16 Li (LB rfl rfl rfl rr) (KN (.bool true) rr (LB rfl rfl rfl rr) (Lb (.bool true) LE (KQ ?_)))))))))))
    have a9:=K4 (.bool true)
    refine KK (Le ?_)
    exact LC (v:=.bool true) ae rfl rfl a9 ⟨(PS (by first|(simp[*];done)|(simp_all;done)|(simp_all;omega))),(ac.tr a8)⟩
   ·skip
    refine KL (K2 Lw aa (KN (.bool false) rr (MA rfl rfl rfl (decide_eq_false ah) rr) (KN (.bool false) rr (KT rfl rfl rr) (Lj (.agg #[iv W,iv H,iv R,iv B]) 2 false 11 Li (KX MR rfl af ab rr) (Lj (.agg #[iv (g.W),iv (g.H),g0,g1,g2]) 2 false 11 Li (KX La rfl ap ao rr) (LZ (R:=fun v_ w_=>v_ = .bool true/\KR (fun _=>False) ai w_) 2 false 11 rfl rfl rfl rfl rfl (LQ rfl rfl rfl (fun _ _=>by kernel_rfl) (K6 _) (Lo rfl (Lo rfl L5)) (Tj W H R B g g0 g1 g2 T_g0 T_g1 T_g2 _  ak am an ) (fun e_ w_ h_=>⟨_,h_.1,(congrArg Value.bool aj),h_.2⟩)) ?_))))))
    rintro _ ba ⟨rfl,aE⟩
    obtain⟨bb,bc,bd,be,bf⟩:=O6 aE aw az aA ab au
    refine KN (.bool true) rr (Lt rfl rfl rfl rr) (KN (.bool true) rr (KT rfl rfl rr) (Lj (iv K) 7 true 16 Li (KT rfl aa rr) (Lj (.bool false) 7 true 16 Li (Mw rfl rfl rfl (decide_eq_false aD) rr) (Lj (.bool false) 7 true 16 Li (KT rfl rfl rr) (Lj (.agg #[iv W,iv H,iv R,iv B]) 10 false 19 Li (KX MR rfl af be rr) (Lj (.agg #[iv (h.W),iv (h.H),h0,h1,h2]) 10 false 19 Li (KX La rfl aB bf rr) (LZ (R:=fun v_ w_=>v_ = .bool (decide (Nl W H R B h))/\KR (fun _=>False) ba w_) 10 false 19 rfl rfl rfl rfl rfl (LQ rfl rfl rfl (fun _ _=>by kernel_rfl) (K6 _) (Lo rfl (Lo rfl L5)) (Tj W H R B h h0 h1 h2 T_h0 T_h1 T_h2 _  bb bc bd ) (fun e_ w_ h_=>⟨_,h_.1,rfl,h_.2⟩)) ?_)))))))
    rintro _ bu ⟨rfl,bg⟩
    refine Lj (.bool (decide (Nl W H R B h))) 7 true 16 Li (Lt rfl rfl rfl rr) (KN (.bool (decide (Nl W H R B h))) rr (LB rfl rfl rfl rr) (Lb (.bool (decide (Nl W H R B h))) LE (KQ ?_)))
    have bh:=K4 (.bool (decide (Nl W H R B h)))
    refine KK (Le ?_)
    exact LC (v:=.bool (decide (Nl W H R B h))) ae rfl rfl bh ⟨(PS (by first|(simp[*];done)|(simp_all;done)|(simp_all;omega))),((ac.tr aE).tr bg)⟩
  ·skip
   refine KL (K2 Lw aa (KN (.bool false) rr (MA rfl rfl rfl (decide_eq_false ah) rr) (KN (.bool false) rr (KT rfl rfl rr) (Lj (.agg #[iv W,iv H,iv R,iv B]) 2 false 11 Li (KX MR rfl af ab rr) (Lj (.agg #[iv (g.W),iv (g.H),g0,g1,g2]) 2 false 11 Li (KX La rfl ap ao rr) (LZ (R:=fun v_ w_=>v_ = .bool false/\KR (fun _=>False) ai w_) 2 false 11 rfl rfl rfl rfl rfl (LQ rfl rfl rfl (fun _ _=>by kernel_rfl) (K6 _) (Lo rfl (Lo rfl L5)) (Tj W H R B g g0 g1 g2 T_g0 T_g1 T_g2 _  ak am an ) (fun e_ w_ h_=>⟨_,h_.1,(congrArg Value.bool aj),h_.2⟩)) ?_))))))
   rintro _ bv ⟨rfl,bi⟩
   refine KN (.bool false) rr (Lt rfl rfl rfl rr) (KN (.bool false) rr (KT rfl rfl rr) (Lq 7 true 16 Li (Lq 7 true 16 Li (Lq 7 true 16 Li (Th 10 false 19 rfl rfl rfl (Or.inr rfl) rfl (Th 10 false 19 rfl rfl rfl (Or.inr rfl) rfl (Th 10 false 19 rfl rfl rfl (Or.inr rfl) rfl (Lq 7 true 16 Li (KN (.bool false) rr (Lt rfl rfl rfl rr) (Lb (.bool false) LE (KQ ?_)))))))))))
   have bj:=K4 (.bool false)
   refine KK (Le ?_)
   exact LC (v:=.bool false) ae rfl rfl bj ⟨(PS (by first|(simp[*];done)|(simp_all;done)|(simp_all;omega))),(ac.tr bi)⟩
theorem Te(W H R B:Int)(p:Nat)(w0:World)(hs:PU W H R B) :
  Calls Tryz.prog 58 #[.agg #[.int .i64 (W),.int .i64 (H),.int .i64 (R),.int .i64 (B)],.int .i64 (((p:Nat):Int))] w0 fun e w'=>e = .returned (.tuple #[.int .i64 (((Lk W p:Nat):Int)),.int .i64 (((Lk H p:Nat):Int))])/\KR (fun _=>False) w0 w':=by
 refine Ly (args:=[.agg #[iv W,iv H,iv R,iv B],iv ((p:Nat):Int)]) 22 Tryz.func58 rfl rfl (Nat.le_of_ble_eq_true rfl) ?_
 have hsd:=SJ hs
 have hpw:=Pe (W:=W) (p:=p) hsd.2.1
 have hph:=Pe (W:=H) (p:=p) hsd.2.2.2.2.1
 refine KM (KL (LJ (vs:=[iv W,iv H,iv R,iv B]) rfl rfl rfl rfl fun p1 w2 B4 g5 k3=>?_))
 have K7:=(KR.refl (fun _=>False) w0).tr k3
 refine Lb (iv 0) LE (Lb (iv 0) LE (KQ ?_))
 have aq:=K4 (iv ((p:Nat):Int))
 have am:=K4 (undef)
 have ae:=K4 (pt p1 0)
 refine KK (KM (KM (KL (K2 Lw aq (KN (.bool (decide (((p:Nat):Int)=0))) rr (MA rfl rfl rfl rfl rr) (KQ ?_))))))
 have ar:=K4 (.bool (decide (((p:Nat):Int)=0)))
 refine KK ?_
 refine K5 ar (fun ab=>?_) (fun ab=>?_)
 ·replace ab:=of_decide_eq_true ab
  refine KM ?_
  refine RZ [some 8,some 9,some 10,some 11,some 12,some 13,some 4,some 5] [Pd.eq (pt p1 0),Pd.eq (iv W),Pd.eq (iv ((Lk W p:Nat):Int)),Pd.eq (pt p1 1),Pd.eq (iv H),Pd.eq (iv ((Lk H p:Nat):Int)),Pd.eq (iv ((Lk W p:Nat):Int)),Pd.eq (iv ((Lk H p:Nat):Int))] (by kernel_rfl) (by kernel_rfl) ?_ ?_
  ·refine KP ?_ ?_
   ·refine Ld.one rfl fun F_ w_ hR hout hD=>?_
    exact(KU (n:=1) rfl ((hout 2 rfl (by decide)).trans ae) Tryz.underlying23 rfl (by kernel_rfl) (by decide) rfl ⟨rfl,KR.refl _ _⟩)
   refine KP ?_ ?_
   ·refine Ld.one rfl fun F_ w_ hR hout hD=>?_
    have g8:F_ 8=pt p1 0:=(hD.get 0 rfl rfl rfl)
    exact(KY rfl g8 Tryz.underlying3 (B4.all hR id) rfl rfl ⟨rfl,KR.refl _ _⟩)
   refine KP ?_ ?_
   ·refine Ld.one rfl fun F_ w_ hR hout hD=>?_
    have g9:F_ 9=iv W:=(hD.get 0 rfl rfl rfl)
    exact(O8 rfl g9 rfl (by first|decide|omega) (LX (aED (by omega) (by omega)) (by omega)) ⟨rfl,KR.refl _ _⟩)
   refine KP ?_ ?_
   ·refine Ld.one rfl fun F_ w_ hR hout hD=>?_
    exact(KU (n:=1) rfl ((hout 2 rfl (by decide)).trans ae) Tryz.underlying23 rfl (by kernel_rfl) (by decide) rfl ⟨rfl,KR.refl _ _⟩)
   refine KP ?_ ?_
   ·refine Ld.one rfl fun F_ w_ hR hout hD=>?_
    have aw:F_ 11=pt p1 1:=(hD.get 0 rfl rfl rfl)
    exact(KY rfl aw Tryz.underlying3 (B4.all hR id) rfl rfl ⟨rfl,KR.refl _ _⟩)
   refine KP ?_ ?_
   ·refine Ld.one rfl fun F_ w_ hR hout hD=>?_
    have az:F_ 12=iv H:=(hD.get 0 rfl rfl rfl)
    exact(O8 rfl az rfl (by first|decide|omega) (LX (aED (by omega) (by omega)) (by omega)) ⟨rfl,KR.refl _ _⟩)
   refine KP ?_ ?_
   ·refine Ld.one rfl fun F_ w_ hR hout hD=>?_
    have aA:F_ 10=iv ((Lk W p:Nat):Int):=(hD.get 0 rfl rfl rfl)
    exact(Pv rfl aA ⟨rfl,KR.refl _ _⟩)
   refine KP ?_ ?_
   ·refine Ld.one rfl fun F_ w_ hR hout hD=>?_
    have aB:F_ 13=iv ((Lk H p:Nat):Int):=(hD.get 0 rfl rfl rfl)
    exact(Pv rfl aB ⟨rfl,KR.refl _ _⟩)
   exact Mj
  intro aU an aV aC ai af
  have aD:=(af 22).trans am
  have aE:an 4=iv ((Lk W p:Nat):Int):=(af 4).trans (ai 6 (by decide))
  have aF:an 5=iv ((Lk H p:Nat):Int):=(af 5).trans (ai 7 (by decide))
  clear ai af
  refine KK (Le (Lx ?_))
  exact Mo aD rfl (LF (v:=iv ((Lk W p:Nat):Int)) rfl aE) (LF (v:=iv ((Lk H p:Nat):Int)) rfl aF) ⟨rfl,(K7.tr aC)⟩
 ·replace ab:=of_decide_eq_false ab
  refine Lf (KK (KM ?_))
  refine RZ [some 14,some 15,some 16,some 17,some 18,some 19,some 20,some 21,some 4,some 5] [Pd.eq (pt p1 0),Pd.eq (iv W),Pd.eq (iv (W/2)),Pd.eq (iv ((Lk W p:Nat):Int)),Pd.eq (pt p1 1),Pd.eq (iv H),Pd.eq (iv (H/2)),Pd.eq (iv ((Lk H p:Nat):Int)),Pd.eq (iv ((Lk W p:Nat):Int)),Pd.eq (iv ((Lk H p:Nat):Int))] (by kernel_rfl) (by kernel_rfl) ?_ ?_
  ·refine KP ?_ ?_
   ·refine Ld.one rfl fun F_ w_ hR hout hD=>?_
    exact(KU (n:=1) rfl ((hout 2 rfl (by decide)).trans ae) Tryz.underlying23 rfl (by kernel_rfl) (by decide) rfl ⟨rfl,KR.refl _ _⟩)
   refine KP ?_ ?_
   ·refine Ld.one rfl fun F_ w_ hR hout hD=>?_
    have aG:F_ 14=pt p1 0:=(hD.get 0 rfl rfl rfl)
    exact(KY rfl aG Tryz.underlying3 (B4.all hR id) rfl rfl ⟨rfl,KR.refl _ _⟩)
   refine KP ?_ ?_
   ·refine Ld.one rfl fun F_ w_ hR hout hD=>?_
    have aH:F_ 15=iv W:=(hD.get 0 rfl rfl rfl)
    exact(O8 rfl aH rfl (by first|decide|omega) (Mn (aEz (by omega)) (by omega)) ⟨rfl,KR.refl _ _⟩)
   refine KP ?_ ?_
   ·refine Ld.one rfl fun F_ w_ hR hout hD=>?_
    have aI:F_ 16=iv (W/2):=(hD.get 0 rfl rfl rfl)
    exact(O8 rfl aI rfl (by first|decide|omega) (LX (aEA (by omega) (by omega)) (by omega)) ⟨rfl,KR.refl _ _⟩)
   refine KP ?_ ?_
   ·refine Ld.one rfl fun F_ w_ hR hout hD=>?_
    exact(KU (n:=1) rfl ((hout 2 rfl (by decide)).trans ae) Tryz.underlying23 rfl (by kernel_rfl) (by decide) rfl ⟨rfl,KR.refl _ _⟩)
   refine KP ?_ ?_
   ·refine Ld.one rfl fun F_ w_ hR hout hD=>?_
    have aJ:F_ 18=pt p1 1:=(hD.get 0 rfl rfl rfl)
    exact(KY rfl aJ Tryz.underlying3 (B4.all hR id) rfl rfl ⟨rfl,KR.refl _ _⟩)
   refine KP ?_ ?_
   ·refine Ld.one rfl fun F_ w_ hR hout hD=>?_
    have aK:F_ 19=iv H:=(hD.get 0 rfl rfl rfl)
    exact(O8 rfl aK rfl (by first|decide|omega) (Mn (aEz (by omega)) (by omega)) ⟨rfl,KR.refl _ _⟩)
   refine KP ?_ ?_
   ·refine Ld.one rfl fun F_ w_ hR hout hD=>?_
    have aL:F_ 20=iv (H/2):=(hD.get 0 rfl rfl rfl)
    exact(O8 rfl aL rfl (by first|decide|omega) (LX (aEA (by omega) (by omega)) (by omega)) ⟨rfl,KR.refl _ _⟩)
   refine KP ?_ ?_
   ·refine Ld.one rfl fun F_ w_ hR hout hD=>?_
    have aM:F_ 17=iv ((Lk W p:Nat):Int):=(hD.get 0 rfl rfl rfl)
    exact(Pv rfl aM ⟨rfl,KR.refl _ _⟩)
   refine KP ?_ ?_
   ·refine Ld.one rfl fun F_ w_ hR hout hD=>?_
    have aN:F_ 21=iv ((Lk H p:Nat):Int):=(hD.get 0 rfl rfl rfl)
    exact(Pv rfl aN ⟨rfl,KR.refl _ _⟩)
   exact Mj
  intro aW ao aX aO aj ah
  have aP:=(ah 22).trans am
  have aQ:ao 4=iv ((Lk W p:Nat):Int):=(ah 4).trans (aj 8 (by decide))
  have aR:ao 5=iv ((Lk H p:Nat):Int):=(ah 5).trans (aj 9 (by decide))
  clear aj ah
  refine KK (Le ?_)
  exact Mo aP rfl (LF (v:=iv ((Lk W p:Nat):Int)) rfl aQ) (LF (v:=iv ((Lk H p:Nat):Int)) rfl aR) ⟨rfl,(K7.tr aO)⟩
def mdE(f g h:FD)(p x y:Int)(c:Ch)(q:Int):Int:=if UO f g h p (4*x) (4*y) c=0 then Q5 q else UO f g h p (4*x) (4*y) c
def Xe(f g h:FD)(p x y:Int)(c:Ch)(q:Int):Nat->Int:=if UO f g h p (4*x) (4*y) c=0 then buB (VM f g h p (4*x) (4*y) c) c.b q else fun _=>0
theorem aCx{f g h:FD}{p x y:Int}{c:Ch}{q:Int}(e:UO f g h p (4*x) (4*y) c=0):mdE f g h p x y c q=Q5 q/\Xe f g h p x y c q=buB (VM f g h p (4*x) (4*y) c) c.b q:=⟨if_pos e,if_pos e⟩
theorem aF0{f g h:FD}{p x y:Int}{c:Ch}{q:Int}(e:UO f g h p (4*x) (4*y) c≠0):mdE f g h p x y c q=UO f g h p (4*x) (4*y) c/\Xe f g h p x y c q=fun _=>0:=⟨if_neg e,if_neg e⟩
theorem aDH(p x y q:Int)(c:Ch)(f:FD)(f0 f1 f2:Value)(g:FD)(g0 g1 g2:Value)(h:FD)(h0 h1 h2:Value)(T_f0:Nat->Prop)(T_f1:Nat->Prop)(T_f2:Nat->Prop)(T_g0:Nat->Prop)(T_g1:Nat->Prop)(T_g2:Nat->Prop)(T_h0:Nat->Prop)(T_h1:Nat->Prop)(T_h2:Nat->Prop)(w0:World)(hA:Og w0)(hs:Ox w0)(hw:QZ w0)(hx:0<=x/\x<=16)(hy:0<=y/\y<=256)(h_f0:Mv w0 T_f0 f0 ((f).p0))(h_f1:Mv w0 T_f1 f1 ((f).p1))(h_f2:Mv w0 T_f2 f2 ((f).p2))(h_g0:Mv w0 T_g0 g0 ((g).p0))(h_g1:Mv w0 T_g1 g1 ((g).p1))(h_g2:Mv w0 T_g2 g2 ((g).p2))(h_h0:Mv w0 T_h0 h0 ((h).p0))(h_h1:Mv w0 T_h1 h1 ((h).p1))(h_h2:Mv w0 T_h2 h2 ((h).p2)) :
  Calls Tryz.prog 42 #[.agg #[.int .i64 ((f).W),.int .i64 ((f).H),f0,f1,f2],.agg #[.int .i64 ((g).W),.int .i64 ((g).H),g0,g1,g2],.agg #[.int .i64 ((h).W),.int .i64 ((h).H),h0,h1,h2],.agg #[.int .i64 (p),.int .i64 (x),.int .i64 (y)],.agg (PN (c)).toArray,.int .i64 (q)] w0 fun e w'=>e = .returned (.tuple #[LW (Xe f g h p x y c q),.int .i64 (mdE f g h p x y c q)])/\KR (fun _=>False) w0 w':=by
 refine Ly (args:=[.agg #[iv (f.W),iv (f.H),f0,f1,f2],.agg #[iv (g.W),iv (g.H),g0,g1,g2],.agg #[iv (h.W),iv (h.H),h0,h1,h2],.agg #[iv p,iv x,iv y],.agg (PN c).toArray,iv q]) 42 Tryz.func42 rfl rfl (Nat.le_of_ble_eq_true rfl) ?_
 have g_f0:=KS.refl w0 T_f0
 have g_f1:=KS.refl w0 T_f1
 have g_f2:=KS.refl w0 T_f2
 have g_g0:=KS.refl w0 T_g0
 have g_g1:=KS.refl w0 T_g1
 have g_g2:=KS.refl w0 T_g2
 have g_h0:=KS.refl w0 T_h0
 have g_h1:=KS.refl w0 T_h1
 have g_h2:=KS.refl w0 T_h2
 refine KM (KL (LJ (vs:=[iv (f.W),iv (f.H),f0,f1,f2]) rfl rfl rfl rfl fun p1 w2 B4 g5 k3=>?_))
 obtain⟨aQ,aR,aS,aT,aU,aV,aW,aX,aY⟩:=aA9 k3 h_f0 h_f1 h_f2 h_g0 h_g1 h_g2 h_h0 h_h1 h_h2
 refine LJ (vs:=[iv (g.W),iv (g.H),g0,g1,g2]) rfl rfl rfl rfl fun aZ cT a8 cU ak=>?_
 obtain⟨a9,ba,bb,bc,bd,be,bf,bg,bh,bi⟩:=Uo ak aQ aR aS aT aU aV aW aX aY B4
 refine LJ (vs:=[iv (h.W),iv (h.H),h0,h1,h2]) rfl rfl rfl rfl fun bj cV bl cW am=>?_
 obtain⟨bm,bn,bo,bp,bq,bt,bu,bv,bz,bA,bB⟩:=aCY am a9 ba bb bc bd be bf bg bh bi a8
 refine LJ (vs:=[iv p,iv x,iv y]) rfl rfl rfl rfl fun ab cX bC cY an=>?_
 obtain⟨bD,bE,bF,bG,bH,bI,bJ,bK,bL,bM,bN,bO⟩:=aCl an bm bn bo bp bq bt bu bv bz bA bB bl
 refine LJ (vs:=(PN c)) rfl rfl rfl rfl fun ao cZ bP c5 ap=>?_
 obtain⟨bQ,bR,bS,bT,bU,bV,bW,bX,bY,bZ,b7,b8,b9⟩:=ZI ap bD bE bF bG bH bI bJ bK bL bM bN bO bC
 have aq:=(((((KR.refl (fun _=>False) w0).tr k3).tr ak).tr am).tr an).tr ap
 refine Mf rfl rfl rfl KW.2.2 fun ar c6 au cd av=>?_
 have aw:=L7 (Nat.le_of_eq au.symm)
 have az:=KS.new aq aw
 clear au aw
 obtain⟨ce,cf,cg,ci,cj,cm,cn,co,cq,cr,ct,cu,af,aA⟩:=PT av bQ bR bS bT bU bV bW bX bY bZ b7 b8 b9 bP
 have aB:=aq.tr av
 refine Lb (iv 0) LE (KQ ?_)
 have cv:=K4 (iv q)
 have aC:=K4 (undef)
 have cw:=K4 (pt p1 0)
 have cy:=K4 (pt aZ 0)
 have cz:=K4 (pt bj 0)
 have ah:=K4 (pt ab 0)
 have aD:=K4 (pt ao 0)
 have ac:=K4 (pt ar 0)
 refine KK (KM (KL (KN (.agg #[iv (f.W),iv (f.H),f0,f1,f2]) rr (KX La rfl cw cr rr) (KN (.agg #[iv (g.W),iv (g.H),g0,g1,g2]) rr (KX La rfl cy ct rr) (KN (.agg #[iv (h.W),iv (h.H),h0,h1,h2]) rr (KX La rfl cz cu rr) (KN (pt ab 0) rr (KU (n:=1) rfl ah Tryz.underlying65 rfl (by kernel_rfl) (by decide) rfl rr) (KN (iv p) rr (KY rfl rfl Tryz.underlying3 af rfl rfl rr) (KN (pt ab 1) rr (KU (n:=1) rfl ah Tryz.underlying65 rfl (by kernel_rfl) (by decide) rfl rr) (KN (iv x) rr (KY rfl rfl Tryz.underlying3 af rfl rfl rr) (KN (iv (4*x)) rr (Nb rfl rfl rfl (Mn rfl (by omega)) rr) (KN (pt ab 2) rr (KU (n:=1) rfl ah Tryz.underlying65 rfl (by kernel_rfl) (by decide) rfl rr) ?_)))))))))))
 refine KN (iv y) rr (KY rfl rfl Tryz.underlying3 af rfl rfl rr) (KN (iv (4*y)) rr (Nb rfl rfl rfl (Mn rfl (by omega)) rr) (KN (.agg (PN c).toArray) rr (KX LM rfl aD aA rr) (L9 rfl rfl rfl rfl rfl (fun _ _=>by kernel_rfl) (Lo rfl (Lo rfl (Lo rfl (Lo rfl (Lo rfl (Lo rfl (Lo rfl L5))))))) (azy p (4*x) (4*y) c f f0 f1 f2 g g0 g1 g2 h h0 h1 h2 T_f0 T_f1 T_f2 T_g0 T_g1 T_g2 T_h0 T_h1 T_h2 _ (hA.all aB) ce cf cg ci cj cm cn co cq ) fun c7 aE=>?_)))
 obtain⟨aF,aG⟩:=Oe aE aA cd
 have aH:=aB.tr aE
 refine KN (.tuple #[LW (VM f g h p (4*x) (4*y) c),iv (UO f g h p (4*x) (4*y) c)]) rr (KT rfl rfl rr) (KN (LW (VM f g h p (4*x) (4*y) c)) rr (LY rfl rfl rfl rr) (KN (iv (UO f g h p (4*x) (4*y) c)) rr (LY rfl rfl rfl rr) (Mf rfl rfl rfl KW.2.2 fun cA c9 aI cB aJ=>?_)))
 have aK:=L7 (Nat.le_of_eq aI.symm)
 obtain⟨cC,cD⟩:=UJ aK aF aG
 clear aI
 obtain⟨cE,cF⟩:=Oe aJ aF aG
 refine Lu KW rfl rfl rfl rfl rfl cB fun da cG ai=>?_
 have cH:=cE.all ai (cC.symm ao rfl)
 have aL:=cF.all ai (cD.symm ar rfl)
 have ae:=(aH.tr aJ).trans ai (KS.ok (S:=fun _=>False) (KS.new aH aK) KZ)
 refine Lb (iv (UO f g h p (4*x) (4*y) c)) LE (KQ ?_)
 have cI:=K4 (pt cA 0)
 have aM:=K4 (iv (UO f g h p (4*x) (4*y) c))
 refine KK (KM (KM (KL (K2 Lw aM (KN (.bool (decide ((UO f g h p (4*x) (4*y) c)≠0))) rr (Mw rfl rfl rfl rfl rr) (KQ ?_))))))
 have cJ:=K4 (.bool (decide ((UO f g h p (4*x) (4*y) c)≠0)))
 refine KK ?_
 refine K5 cJ (fun aa=>?_) (fun aa=>?_)
 ·replace aa:=of_decide_eq_true aa
  refine KM ?_
  have hR:=aF0 (q:=q) (show UO f g h p (4*x) (4*y) c≠0 from by assumption)
  refine KL (KN (LW (fun _=>0)) rr (MQ (cells:=(Mp 16 (fun _=>0)).toArray) rfl (by kernel_rfl) rfl rr) (K2 Lw aM (Lu KW rfl rfl rfl ac rfl aL fun db cK cL=>?_)))
  refine Lb (iv (UO f g h p (4*x) (4*y) c)) LE (KQ ?_)
  have cM:=K4 (iv (UO f g h p (4*x) (4*y) c))
  refine KK (Le (Lx ?_))
  exact Mo aC rfl (MH KW rfl ac cK) (LF (v:=iv (UO f g h p (4*x) (4*y) c)) rfl cM) ⟨(by rw[hR.1,hR.2] <;> rfl),(ae.trans cL (KS.ok (S:=fun _=>False) az KZ))⟩
 ·replace aa:=of_decide_eq_false aa
  refine Lf (KK (KM ?_))
  have hR:=aCx (q:=q) (show UO f g h p (4*x) (4*y) c=0 from by first|assumption|(apply Decidable.byContradiction;assumption))
  refine KL (KN (LW (VM f g h p (4*x) (4*y) c)) rr (Me KW rfl cI cG rr) (KN (.agg (PN c).toArray) rr (KX LM rfl aD cH rr) (K2 Lw cv (L9 rfl rfl rfl rfl rfl (fun _ _=>by kernel_rfl) (Lo rfl (Lo rfl (Lo rfl L5))) (aDg (VM f g h p (4*x) (4*y) c) c q  _ (hs.all ae) (hw.all ae)  ) fun dc aN=>?_))))
  have cN:=aL.all aN id
  refine KN (LW (buB (VM f g h p (4*x) (4*y) c) c.b q)) rr (LY rfl rfl rfl rr) (KN (iv (Q5 q)) rr (LY rfl rfl rfl rr) (Lu KW rfl rfl rfl ac rfl cN fun dd cO cP=>?_))
  refine Lb (iv (Q5 q)) LE (KQ ?_)
  have cQ:=K4 (iv (Q5 q))
  refine KK (Le ?_)
  exact Mo aC rfl (MH KW rfl ac cO) (LF (v:=iv (Q5 q)) rfl cQ) ⟨(by rw[hR.1,hR.2] <;> rfl),((ae.tr aN).trans cP (KS.ok (S:=fun _=>False) az KZ))⟩
open Go.RowKit
theorem azn{lo:Option Nat}{P:Program}{ops:Array Oper}{Q:Exit->Act->World->Prop}{a0:Act}(D:List (Option Tmp))(J:(Nat->Bool)->(Nat->Value)->World->Prop)
  (hpl:plain a0.tmps.size 0 D ops.toList=true) (hsteps:QU ops.toList P D J a0 0 ops.toList)
  (hend:∀ (L:Nat->Bool) (v:Nat->Value) (w:World),J L v w->(∀ i,i<ops.size->L i=true)->Q .normal (MI v 0 D a0) w) :
  ∀ (fuel:Nat) (listed:Array Bool) (v:Nat->Value) (a:Act) (w:World),aAP ops D J a0 v listed a w->(fuel=0->Region.ready .any ops listed=[]) →
   (List.range ops.size).countP (fun i => !listed.getD i false)<=fuel->wpAnyIn (Xf lo) 0 P .any ops Q fuel listed a w:=by
 obtain⟨hDl,hpa⟩:=SO hpl
 have hlen:D.length=ops.size:=by simpa using hDl
 have hback:∀ (k:Nat) (o:Oper),ops[k]? = some o->∀ e∈o.after.toList,Region.binds .any e=true->e.on<k:=by
  intro k o hk e he hb
  have:=(hpa k o (by simpa using hk)).2.2 e he hb
  omega
 have fin:∀ (listed:Array Bool) (v:Nat->Value) (a:Act) (w:World),aAP ops D J a0 v listed a w->Region.ready .any ops listed=[]->Q .normal a w:=by
  intro listed v a w hm hr
  have hall:=Q8 hback hr hm.ls
  have hp:=PM v D 0 a0
  have ha:a=MI v 0 D a0:=by
   have ht:a.tmps=(MI v 0 D a0).tmps:=by
    apply Array.ext
    ·rw[hm.size,hp.1]
    ·intro t h1 h2
     have e:a.tmps.getD t undef=(MI v 0 D a0).tmps.getD t undef:=by
      by_cases hmem:some t∈D
      ·obtain⟨j,hj⟩:=List.mem_iff_getElem?.1 hmem
       have hjs:j<ops.size:=by rw[← hlen];exact(List.getElem?_eq_some_iff.1 hj).1
       obtain⟨g1,g2,_⟩:=hpa j ops[j] (by simp[hjs])
       have hdst:ops[j].dst=some t:=by rw[hj] at g1;exact(Option.some.inj g1).symm
       obtain⟨k1,k2⟩:=g2 t hdst
       rw[hm.here j t (hall j hjs) hj,hp.2.2.2 j t hj k2 k1,Nat.zero_add]
      ·rw[hp.2.2.1 t hmem,hm.out t (fun j _ hj=>hmem (List.mem_of_getElem? hj))]
     simpa [Array.getD_eq_getD_getElem?,h1,h2] using e
   have hd:a.defers=(MI v 0 D a0).defers:=by rw[hm.defers,hp.2.1]
   cases a
   cases hq:MI v 0 D a0
   rw[hq] at ht hd
   simp only at ht hd
   rw[ht,hd]
  rw[ha]
  exact hend _ v w hm.good hall
 intro fuel
 induction fuel with
 | zero =>
  intro listed v a w hm h0 _
  exact⟨h0 rfl,fin listed v a w hm (h0 rfl)⟩
 | succ fuel ih =>
  intro listed v a w hm _ hcount
  refine⟨fin listed v a w hm,fun i hi=>?_⟩
  obtain⟨hlt,hnl,o,ho,haft⟩:=NA hi
  have hlsz:i<listed.size:=by rw[hm.ls];exact hlt
  have hnl':listed.getD i false=false:=by simpa [Array.getD,hlsz] using hnl
  obtain⟨g1,g2,g3⟩:=hpa i o (by simpa using ho)
  have hstep:=hsteps.at i o (by simpa using ho)
  rw[Nat.zero_add] at hstep
  have hout:∀ t,some t∉D->a.eval (.tmp t)=a0.eval (.tmp t):=fun t ht=>hm.out t (fun j _ hj=>ht (List.mem_of_getElem? hj))
  have hlate:∀ t,aBt ops.toList t i=true->a.eval (.tmp t)=a0.eval (.tmp t):=by
   intro t ht
   refine hm.out t fun j hj hD=>?_
   have hjs:j<ops.size:=by rw[← hlen];exact(List.getElem?_eq_some_iff.1 hD).1
   obtain⟨k1,_,_⟩:=hpa j ops[j] (by simp[hjs])
   have hdst:ops[j].dst=some t:=by rw[hD] at k1;exact(Option.some.inj k1).symm
   unfold aBt at ht
   have h1:=List.all_eq_true.1 ht ops[j] (by simp)
   simp only[hdst,bne_self_eq_false,Bool.false_or] at h1
   obtain⟨e,he,hb⟩:=List.any_eq_true.1 h1
   simp only[Bool.and_eq_true,beq_iff_eq] at hb
   have h2:=hm.cl j ops[j] (by simp[hjs]) hj e he hb.1
   rw[hb.2,hnl'] at h2
   cases h2
  obtain⟨s1,s2⟩:=hstep (fun j=>listed.getD j false) v a w hm.good hnl' haft hout (fun j d hj hD=>hm.here j d hj hD) hlate
  -- what is left when it answers x in the world w'
  have next:∀ (x:Value) (w':World),J (Ro (fun j=>listed.getD j false) i) (VE v i x) w'->wpAnyIn (Xf lo) 0 P .any ops Q fuel (listed.setIfInBounds i true) (a.put o.dst x) w':=by
   intro x w' hJ
   have hcnt:(List.range ops.size).countP (fun j => !(listed.setIfInBounds i true).getD j false)<=fuel:=by
    have h1:(List.range ops.size).countP (fun j => !(listed.setIfInBounds i true).getD j false)<(List.range ops.size).countP (fun j => !listed.getD j false):=by
     have hmemi:i∈List.range ops.size:=by simpa using hlt
     have key:∀ (l:List Nat),i∈l->(∀ j,(!(listed.setIfInBounds i true).getD j false)=true->(!listed.getD j false)=true)->l.countP (fun j => !(listed.setIfInBounds i true).getD j false)<l.countP (fun j => !listed.getD j false):=by
      intro l
      induction l with
      | nil=>intro h;cases h
      | cons y r ihl =>
       intro hy himp
       have hle:r.countP (fun j => !(listed.setIfInBounds i true).getD j false)<=r.countP (fun j => !listed.getD j false):=List.countP_mono_left fun j _ hj=>himp j hj
       by_cases hyi:y=i
       ·subst hyi
        have e1:(!(listed.setIfInBounds y true).getD y false)=false:=by rw[LA _ _ _ hlsz,if_pos rfl];rfl
        have e2:(!listed.getD y false)=true:=by rw[hnl'];rfl
        rw[List.countP_cons,List.countP_cons]
        simp only[e1,e2,if_true,Bool.false_eq_true,if_false]
        omega
       ·have hir:i∈r:=by
         rcases List.mem_cons.1 hy with h|h
         ·exact absurd h.symm hyi
         ·exact h
        have:=ihl hir himp
        rw[List.countP_cons,List.countP_cons]
        have e3:(listed.setIfInBounds i true).getD y false=listed.getD y false:=by rw[LA _ _ _ hlsz,if_neg hyi]
        rw[e3];omega
     refine key _ hmemi fun j hj=>?_
     rw[LA _ _ _ hlsz] at hj
     by_cases hji:j=i
     ·rw[if_pos hji] at hj;cases hj
     ·rwa [if_neg hji] at hj
    omega
   have hmid:aAP ops D J a0 (VE v i x) (listed.setIfInBounds i true) (a.put o.dst x) w':=by
    refine⟨?_,by simpa using hm.ls,?_,?_,?_,?_,?_⟩
    ·rw[← hm.size];cases o.dst <;> simp[Act.put]
    ·rw[← hm.defers];cases o.dst <;> rfl
    ·intro t ht
     have hold:=hm.out t (fun j hj=>ht j (by rw[LA _ _ _ hlsz];split <;> first|rfl|exact hj))
     have hne:o.dst≠some t:=by
      intro e
      exact ht i (by rw[LA _ _ _ hlsz,if_pos rfl]) (by rw[g1,e])
     rw[← hold]
     cases hd:o.dst with
     | none=>rfl
     | some d =>
      have:d≠t:=fun e=>hne (by rw[hd,e])
      simp only[Act.put,Array.getD_eq_getD_getElem?,Array.getElem?_setIfInBounds_ne this]
    ·intro j d hj hD
     by_cases hji:j=i
     ·subst hji
      have hd:o.dst=some d:=by rw[g1] at hD;exact Option.some.inj hD
      have hsz:d<a.tmps.size:=by rw[hm.size];exact(g2 d hd).1
      simp[hd,Act.put,Array.getD_eq_getD_getElem?,hsz,VE]
     ·rw[LA _ _ _ hlsz,if_neg hji] at hj
      have hold:=hm.here j d hj hD
      rw[show VE v i x j=v j from if_neg hji,← hold]
      cases hd:o.dst with
      | none=>rfl
      | some y =>
       have hne:y≠d:=by
        rintro rfl
        rw[hd] at g1
        rcases Nat.lt_or_gt_of_ne hji with hlt2|hgt2
        ·have hjs:j<ops.size:=by rw[← hlen];exact(List.getElem?_eq_some_iff.1 hD).1
         obtain⟨k1,k2,_⟩:=hpa j ops[j] (by simp[hjs])
         have hdst:ops[j].dst=some y:=by rw[hD] at k1;exact(Option.some.inj k1).symm
         exact(k2 y hdst).2 i hlt2 g1
        ·exact(g2 y hd).2 j hgt2 hD
       simp only[Act.put,Array.getD_eq_getD_getElem?,Array.getElem?_setIfInBounds_ne hne]
    ·have e:(fun j=>(listed.setIfInBounds i true).getD j false)=Ro (fun j=>listed.getD j false) i:=by
      funext j;exact LA _ _ _ hlsz
     rw[e];exact hJ
    ·intro k o' hk hl e he hb
     rw[LA _ _ _ hlsz] at hl ⊢
     by_cases hee:e.on=i
     ·rw[if_pos hee]
     ·rw[if_neg hee]
      by_cases hki:k=i
      ·subst hki
       rw[ho] at hk
       cases hk
       exact haft e he hb
      ·rw[if_neg hki] at hl
       exact hm.cl k o' hk hl e he hb
   refine ih _ _ _ _ hmid ?_ hcnt
   intro hz
   subst hz
   have hz0:(List.range ops.size).countP (fun j => !(listed.setIfInBounds i true).getD j false)=0:=by omega
   rw[List.countP_eq_zero] at hz0
   cases hr:Region.ready .any ops (listed.setIfInBounds i true) with
   | nil=>rfl
   | cons y r =>
    have hy:y∈Region.ready .any ops (listed.setIfInBounds i true):=by rw[hr];simp
    obtain⟨q1,q2,_⟩:=NA hy
    have:=hz0 y (by simpa using q1)
    have hys:y<(listed.setIfInBounds i true).size:=by simp[hm.ls];exact q1
    have q3:(listed.setIfInBounds i true).getD y false=false:=by rw[← PW _ y hys];exact q2
    rw[q3] at this
    exact absurd rfl this
  have hwant:Region.wanted o (yielded ops a.tmps)=Qs D o a:=by
   unfold Region.wanted Qs
   cases hg:o.guard with
   | none=>rfl
   | some p =>
    obtain⟨j,want⟩:=p
    simp only[yielded]
    by_cases hj:j<ops.size
    ·obtain⟨k1,k2,_⟩:=hpa j ops[j] (by simp[hj])
     have hDj:D.getD j none=ops[j].dst:=by simp[List.getD,k1]
     rw[hDj]
     simp only[Array.getElem?_eq_getElem hj,Option.bind_some]
     cases hd:ops[j].dst with
     | none=>simp
     | some d =>
      have hsz:d<a.tmps.size:=by rw[hm.size];exact(k2 d hd).1
      simp only[Option.bind_some,Array.getElem?_eq_getElem hsz]
      have he:a.eval (.tmp d)=a.tmps[d]:=by simp[Act.eval,Array.getD,hsz]
      rw[he]
      cases a.tmps[d] <;> simp
    ·have hDj:D.getD j none=none:=by simp[List.getD,List.getElem?_eq_none (show D.length<=j by omega)]
     rw[hDj]
     simp[Array.getElem?_eq_none (show ops.size<=j by omega)]
  unfold wpOpIn
  rw[ho]
  simp only[hwant]
  cases hgo:Qs D o a with
  | true =>
   simp only[if_true]
   refine Lg.wpIn (l:=lo) ?_
   have:=s1 hgo
   revert this
   unfold Lg
   generalize (execOp a.eval o).run P w=res
   intro h
   cases res with
   | ok n w' =>
    cases n <;> simp only at h ⊢ <;> first
     | exact next _ _ h
     | exact h.elim
     | exact Calls.mono h (fun e w'' ⟨y,he,hk⟩=>⟨y,he,next _ _ hk⟩)
   | halt y w'=>exact h.elim
  | false =>
   simp only[Bool.false_eq_true,if_false]
   exact⟨fun f _=>YJ _ f,next undef w (s2 hgo)⟩
theorem Su{lo:Option Nat}{P:Program}{id:Nat}{ops:Array Oper}{Q:Exit->Act->World->Prop}{a0:Act}{w0:World}(D:List (Option Tmp))(J:(Nat->Bool)->(Nat->Value)->World->Prop)
  (hm:P.follows .mixedOrders=true) (hpl:plain a0.tmps.size 0 D ops.toList=true) (h0:J (fun _=>false) (fun _=>undef) w0.drew) (hsteps:QU ops.toList P D J a0 0 ops.toList)
  (hend:∀ (L:Nat->Bool) (v:Nat->Value) (w:World),J L v w->(∀ i,i<ops.size->L i=true)->Q .normal (MI v 0 D a0) w):(Code.region id ops true).wpIn (Xf lo) 0 P Q a0 w0:=by
 refine wpIn_region_any hm ?_
 have hno:∀ j,(Array.replicate ops.size false).getD j false=false:=by
  intro j
  by_cases h:j<ops.size <;> simp[Array.getD,h]
 refine azn D J hpl hsteps hend ops.size _ (fun _=>undef) a0 _ ⟨rfl,by simp,rfl,fun _ _=>rfl,fun j _ hj=>?_,?_,fun k _ _ hl=>?_⟩ ?_ ?_
 ·rw[hno] at hj;cases hj
 ·have e:(fun j=>(Array.replicate ops.size false).getD j false)=fun _=>false:=funext hno
  rw[e];exact h0
 ·rw[hno] at hl;cases hl
 ·intro h0
  cases hr:Region.ready .any ops (Array.replicate ops.size false) with
  | nil=>rfl
  | cons y r =>
   have hy:y∈Region.ready .any ops (Array.replicate ops.size false):=by rw[hr];simp
   have:=(NA hy).1
   omega
 ·exact Nat.le_trans (List.countP_le_length) (by simp)
end Go.Proofs.YtknjpdcpmpfklaaGreatDoor
