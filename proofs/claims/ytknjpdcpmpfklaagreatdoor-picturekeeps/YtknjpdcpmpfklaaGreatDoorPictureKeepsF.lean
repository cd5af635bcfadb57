/- What PictureKeeps reaches of my texts, part 6. -/
import Derived.Test.YtknjpdcpmpfklaaGreatDoorPictureKeepsE
set_option maxRecDepth 100000
set_option maxHeartbeats 4000000
set_option maxRecDepth 100000
namespace Go.Proofs.YtknjpdcpmpfklaaGreatDoor
open Go.RowKit
theorem L4.of_eq{w:World}{T:Nat->Prop}{v:Value}{l m:List Nat}(e:m=l)(h:L4 w T v l):L4 w T v m:=e ▸ h
theorem Ti{f:FD}{p:Int}(h:0<(Lf f p).2):(Lf f p).1≠0:=by
 by_cases hk:QB f/\0<=p/\p<=2
 ·have:=(Ot hk);omega
 ·rw[PA hk] at h;exact absurd h (by decide)
theorem aCb(p x y:Int)(b:Nat->Int)(f:FD)(f0 f1 f2:Value)(T_f0:Nat->Prop)(T_f1:Nat->Prop)(T_f2:Nat->Prop)(w0:World)(h_f0:L9 w0 T_f0 f0 ((f).p0))(h_f1:L9 w0 T_f1 f1 ((f).p1))(h_f2:L9 w0 T_f2 f2 ((f).p2)) :
  Calls Tryz.prog 43 #[.agg #[.int .i64 ((f).W),.int .i64 ((f).H),f0,f1,f2],.int .i64 (p),.int .i64 (x),.int .i64 (y),LK (b)] w0 fun e w'=>∃ (v1:Value) (T1:Nat->Prop) (v2:Value) (T2:Nat->Prop) (v3:Value) (T3:Nat->Prop),e = .returned (.agg #[.int .i64 ((Qp f p x y b).W),.int .i64 ((Qp f p x y b).H),v1,v2,v3])/\KP (fun _=>False) w0 w'/\(L4 w' T1 v1 ((Qp f p x y b).p0)/\KS w0 Ma T1)/\(L4 w' T2 v2 ((Qp f p x y b).p1)/\KS w0 Ma T2)/\(L4 w' T3 v3 ((Qp f p x y b).p2)/\KS w0 Ma T3)/\KM T1 T2/\KM T1 T3/\KM T2 T3:=by
 refine Ls (args:=[.agg #[iv (f.W),iv (f.H),f0,f1,f2],iv p,iv x,iv y,LK b]) 55 Tryz.func43 rfl rfl (Nat.le_of_ble_eq_true rfl) ?_
 have hnx:=TZ x
 have hny:=TZ y
 have hsb:=Nq f p
 have g_f0:=KS.refl w0 T_f0
 have g_f1:=KS.refl w0 T_f1
 have g_f2:=KS.refl w0 T_f2
 refine KK (KI (Lx (vs:=[iv (f.W),iv (f.H),f0,f1,f2]) rfl rfl rfl rfl fun p1 w2 B4 g5 k3=>?_))
 obtain⟨dX,dY,dZ⟩:=ND k3 h_f0 h_f1 h_f2
 refine M6 rfl rfl rfl rfl fun an jq cA d8 cB=>?_
 have d9:=LV (Nat.le_of_eq cA.symm)
 clear cA d9
 obtain⟨eb,ee,eh,ei⟩:=OW cB dX dY dZ B4
 have cC:=((KP.refl (fun _=>False) w0).tr k3).tr cB
 refine LI (n:=5) (vs:=[iv 0,iv 0,.slice none 0 0,.slice none 0 0,.slice none 0 0]) rfl rfl rfl (by kernel_rfl) fun ao bQ bR ek cD=>?_
 obtain⟨bq,bt,bu,bv,bS⟩:=OJ cD eb ee eh ei d8
 have bT:=cC.tr cD
 refine KO ?_
 have cE:=La (iv p)
 have en:=La (iv x)
 have eo:=La (iv y)
 have ep:=La (undef)
 have er:=La (pt p1 0)
 have et:=La (pt an 0)
 have eu:=La (pt ao 0)
 refine KH (KK (KI (KJ (.agg #[iv (f.W),iv (f.H),f0,f1,f2]) rfl rfl (KU K3 rfl er bv rr) (Ly (R:=fun v_ w_=>∃ (af:Value) (aI:Nat->Prop) (ah:Value) (aJ:Nat->Prop) (ai:Value) (aK:Nat->Prop),.agg #[iv ((MD f).W),iv ((MD f).H),af,ah,ai]=v_/\KP (fun _=>False) bQ w_/\(L4 w_ aI af ((MD f).p0)/\KS bQ Ma aI)/\(L4 w_ aJ ah ((MD f).p1)/\KS bQ Ma aJ)/\(L4 w_ aK ai ((MD f).p2)/\KS bQ Ma aK)/\KM aI aJ/\KM aI aK/\KM aJ aK) rfl rfl (LE rfl rfl rfl (fun _ _=>by kernel_rfl) (K4 _) (Lm rfl LS) (Zl f f0 f1 f2 T_f0 T_f1 T_f2 _  bq bt bu ) (fun e_ w_ h_=>by obtain⟨v56_,T61_,v57_,T62_,v58_,T63_,he_,hr_⟩:=h_;exact⟨_,he_,v56_,T61_,v57_,T62_,v58_,T63_,rfl,hr_⟩)) ?_))))
 rintro _ jr ⟨af,aI,ah,aJ,ai,aK,rfl,cF,⟨cG,cH⟩,⟨cI,cJ⟩,⟨cK,cL⟩,ew,ex,ey⟩
 obtain⟨cM,cN,cO,cP,cQ,cR⟩:=Qz cF bq bt bu bv bS bR
 have cS:=bT.tr cF
 obtain⟨ez,eA,eB,eC,eD,eE⟩:=Vk cH bq bt bu bv bS bR
 obtain⟨eF,eG,eH,eI,eJ,eK⟩:=Vk cJ bq bt bu bv bS bR
 obtain⟨eL,eM,eN,eO,eP,eQ⟩:=Vk cL bq bt bu bv bS bR
 refine LI (n:=5) (vs:=[iv 0,iv 0,.slice none 0 0,.slice none 0 0,.slice none 0 0]) rfl rfl rfl (by kernel_rfl) fun aa js eR cT cU=>?_
 obtain⟨eS,eT,eU,eV,eW,eX,cV,cW,cX⟩:=aDM cT cM cN cO cP cQ cR cG cI cK
 obtain⟨eY,eZ,e6,e7,e8,e9,cY,cZ,c5⟩:=X9 cU cM cN cO cP cQ cR cG cI cK
 refine Ll (us:=[iv ((MD f).W),iv ((MD f).H),af,ah,ai]) K3 rfl rfl rfl rfl rfl eR rfl (K2 rfl (K2 rfl (K2 cY.one (K2 cZ.one (K2 c5.one MI))))) fun jt c6 ap=>?_
 have fa:=eY.all ap eS.symm
 have fb:=eZ.all ap eT.symm
 have fc:=e6.all ap eU.symm
 have fd:=e7.all ap (eV.symm p1 rfl)
 have fe:=e8.all ap (eW.symm an rfl)
 have ff:=e9.all ap (eX.symm ao rfl)
 have c7:=cY.all ap cV.symm
 have c9:=cZ.all ap cW.symm
 have da:=c5.all ap cX.symm
 refine KO ?_
 have db:=La (pt aa 0)
 refine KH (KK (KI (KJ (.agg #[iv ((MD f).W),iv ((MD f).H),af,ah,ai]) rfl rfl (KU K3 rfl db c6 rr) (KW rfl rfl rfl cE (LY rfl rfl rfl rfl rfl (fun _ _=>by kernel_rfl) (Lm rfl (Lm rfl LS)) (Ts p (MD f) af ah ai aI aJ aK _  c7.byt c9.byt da.byt ) fun ju dc=>?_)))))
 obtain⟨fg,fh,fi,fj,fk,fm,fo,fp,fq,ft⟩:=Sn dc fa fb fc fd fe ff c7 c9 da c6
 refine KJ (.tuple #[iv ((Lf (MD f) p).1),iv ((Lf (MD f) p).2)]) rfl rfl (KQ rfl rfl rr) (KJ (iv ((Lf (MD f) p).1)) rfl rfl (LM rfl rfl rfl rr) (KJ (iv ((Lf (MD f) p).2)) rfl rfl (LM rfl rfl rfl rr) (KJ (iv ((Lf (MD f) p).1)) rfl rfl (KX rfl rfl rr) (KJ (iv ((Lf (MD f) p).2)) rfl rfl (KX rfl rfl rr) (RK fun bU bV=>?_)))))
 obtain⟨fu,fw,fx,fy,fA,fB,fC⟩:=t7 bV 1 cE 2 en 3 eo 55 ep 9 et 10 eu 11 db
 have fD:bU 12=iv ((Lf (MD f) p).1):=(bV 12).trans rfl
 have fE:bU 13=iv ((Lf (MD f) p).2):=(bV 13).trans rfl
 clear bV
 refine KH (KK ?_)
 have fF:bU 12=iv ((Lf f p).1):=fD.trans (congrArg (Value.int .i64) (congrArg Prod.fst (Wh f p)))
 have fG:bU 13=iv ((Lf f p).2):=fE.trans (congrArg (Value.int .i64) (congrArg Prod.snd (Wh f p)))
 refine KI (KW rfl rfl rfl fw (LY rfl rfl rfl rfl rfl (fun _ _=>by kernel_rfl) (Lm rfl LS) (Zb x  _   ) fun jw dd=>?_))
 obtain⟨fH,fI,fJ,fK,fL,fM,fN,fO,fP,fQ⟩:=Sn dd fg fh fi fj fk fm fo fp fq ft
 refine KW rfl rfl rfl fx (LY rfl rfl rfl rfl rfl (fun _ _=>by kernel_rfl) (Lm rfl LS) (Zb y  _   ) fun jx de=>?_)
 obtain⟨fR,fS,fT,fU,fV,fW,fX,fY,fZ,f5⟩:=Sn de fH fI fJ fK fL fM fN fO fP fQ
 refine KJ (iv (LN x)) rfl rfl (KX rfl rfl rr) (KJ (iv (LN y)) rfl rfl (KX rfl rfl rr) (KO ?_))
 have f6:=La (iv (LN x))
 have f7:=La (iv (LN y))
 refine KH (KK (KK (KI (KJ (iv 0) rfl rfl (KQ rfl rfl rr) (KO ?_)))))
 have f8:=La (iv 0)
 refine KH (Lo (M4 (fun nn FF ww=>∃ (i:Nat),∃ (ab:Nat->Prop),∃ (ac:Nat->Prop),∃ (ae:Nat->Prop),(i<=4)/\nn=4-i/\FF 1=iv p/\FF 2=iv (LN x)/\FF 3=iv (LN y)/\FF 9=pt an 0/\FF 10=pt ao 0/\FF 11=pt aa 0/\FF 12=iv ((Lf f p).1)/\FF 13=iv ((Lf f p).2)/\FF 55=undef/\FF 28=iv ((i:Nat):Int)/\KP (fun _=>False) w0 ww/\L9 ww T_f0 f0 (f.p0)/\L9 ww T_f1 f1 (f.p1)/\L9 ww T_f2 f2 (f.p2)/\My ww p1 29 [iv (f.W),iv (f.H),f0,f1,f2]/\NO ww an 69 b/\My ww ao 29 [iv 0,iv 0,.slice none 0 0,.slice none 0 0,.slice none 0 0]/\L4 ww ab af ((MJ f p x y b (4*i)).p0)/\L4 ww ac ah ((MJ f p x y b (4*i)).p1)/\L4 ww ae ai ((MJ f p x y b (4*i)).p2)/\My ww aa 29 [iv ((MD f).W),iv ((MD f).H),af,ah,ai]/\KS w0 Ma ab/\KS w0 Ma ac/\KS w0 Ma ae/\KM ab T_f0/\KM ab T_f1/\KM ab T_f2/\KM ab (Lh p1)/\KM ab (Lh an)/\KM ab (Lh ao)/\KM ab ac/\KM ab ae/\KM ab (Lh aa)/\KM ac T_f0/\KM ac T_f1/\KM ac T_f2/\KM ac (Lh p1)/\KM ac (Lh an)/\KM ac (Lh ao)/\KM ac ae/\KM ac (Lh aa)/\KM ae T_f0/\KM ae T_f1/\KM ae T_f2/\KM ae (Lh p1)/\KM ae (Lh an)/\KM ae (Lh ao)/\KM ae (Lh aa)) (4-0) ⟨0,aI,aJ,aK,by omega,rfl,fu,f6,f7,fA,fB,fC,fF,fG,fy,f8,(((((cS.tr cU).trans ap (KS.ok (S:=fun _=>False) (KS.new cS cT) K6)).tr dc).tr dd).tr de),fR,fS,fT,fU,fV,fW,fX,fY,fZ,f5,(KS.new bT cH),(KS.new bT cJ),(KS.new bT cL),ez,eA,eB,eC,eD,eE,ew,ex,cV.symm,eF,eG,eH,eI,eJ,eK,ey,cW.symm,eL,eM,eN,eO,eP,eQ,cX.symm⟩ ?_))
 rintro jy jz jA ⟨i,ab,ac,ae,i230,hn229,aA,aB,aT,aC,aL,aw,aD,aU,aV,aM,aW,bz,bA,bB,bC,aE,aX,aj,ak,am,az,aN,aO,aP,aY,aZ,a8,a9,ba,aQ,aF,aG,bb,bc,bd,be,bf,bg,aR,aH,bh,bi,bj,bl,bm,bn,aS,bo⟩
 refine KK (KI (KJ (.bool (decide (((i:Nat):Int)<4))) rfl rfl (L5 rfl aM rfl rfl rr) (KO ?_)))
 have f9:=La (.bool (decide (((i:Nat):Int)<4)))
 refine KH (KK ?_)
 refine Lc f9 (fun bD=>?_) (fun bD=>?_)
 ·replace bD:=of_decide_eq_true bD
  refine Li (KH (KK (Lo (KK (KI (KW rfl rfl rfl aM (KJ (iv ((i:Nat):Int)) rfl rfl (KX rfl rfl rr) (KO ?_))))))))
  have bW:=La (iv ((i:Nat):Int))
  refine KH (KK (KI (KW rfl rfl rfl aT (KW rfl rfl rfl bW (KJ (iv ((LN y)+((i:Nat):Int))) rfl rfl (LR rfl rfl rfl (Mb rfl (by omega)) rr) (KJ (iv ((LN y)+((i:Nat):Int))) rfl rfl (KX rfl rfl rr) (KO ?_)))))))
  have bp:=La (iv ((LN y)+((i:Nat):Int)))
  refine KH (KK ?_)
  by_cases df:0<=((LN y)+((i:Nat):Int))
  ·skip
   refine KI (KW rfl rfl rfl bp (KJ (.bool true) rfl rfl (Nl rfl rfl rfl (decide_eq_true df) rr) (KJ (.bool true) rfl rfl (KQ rfl rfl rr) (KR (iv ((LN y)+((i:Nat):Int))) 2 true 36 rfl rfl rfl rfl rfl (KQ rfl bp rr) (KR (iv ((Lf f p).2)) 2 true 36 rfl rfl rfl rfl rfl (KQ rfl aU rr) (KR (.bool (decide (((LN y)+((i:Nat):Int))<((Lf f p).2)))) 2 true 36 rfl rfl rfl rfl rfl (L5 rfl rfl rfl rfl rr) (KJ (.bool (decide (((LN y)+((i:Nat):Int))<((Lf f p).2)))) rfl rfl (Lg rfl rfl rfl rr) (KO ?_))))))))
   have ga:=La (.bool (decide (((LN y)+((i:Nat):Int))<((Lf f p).2))))
   refine KH ?_
   refine Lc ga (fun bE=>?_) (fun bE=>?_)
   ·replace bE:=of_decide_eq_true bE
    rcases (show p=0\/p=1\/p=2 from SN (f:=f) (Ti (by omega))) with rfl|rfl|rfl
    ·skip
     have hsz:(Lf f 0).1≠0:=Ti (by omega)
     have hsp:=Ot (NE hsz)
     have hL := @UX f 0 x y b i (by decide) (by decide) hsz ⟨by omega,by omega⟩
     have hin2:Oe (Lf f 0).1 (Lf f 0).2 ((Lf f 0).1-1) (LN y+(i:Int)):=⟨by omega,by omega,by omega,by omega⟩
     have hc:=OR hin2
     have hls:=Tg x y b (4*i) hsz
     have dg:(f.pl 0).length=f.p0.length:=rfl
     have dh:(f.pl 1).length=f.p1.length:=rfl
     have di:(f.pl 2).length=f.p2.length:=rfl
     refine Nd 11 [some 41,some 42,some 43,some 44,some 45,some 46,some 47,some 48,some 49,some 50,some 51] [Pd.eq (iv 0),Pd.eq (pt aa 2),Pd.eq (pt aa 2),Pd.eq af,Pd.eq (iv ((Lf f 0).1)),Pd.eq (iv ((LN y)+((i:Nat):Int))),Pd.eq (Mx af ((((LN y)+((i:Nat):Int))*((Lf f 0).1)).toNat) ((((LN y)+((i:Nat):Int))*((Lf f 0).1)+((Lf f 0).1)).toNat) ((((LN y)+((i:Nat):Int))*((Lf f 0).1)+((Lf f 0).1)).toNat)),Pd.eq (iv (LN x)),Pd.eq (LK b),Pd.eq (iv ((i:Nat):Int)),Pd.eq (.agg #[.int .u8 ((LX (b (i*4)):Nat):Int),.int .u8 ((LX (b (i*4+1)):Nat):Int),.int .u8 ((LX (b (i*4+2)):Nat):Int),.int .u8 ((LX (b (i*4+3)):Nat):Int)])] (by kernel_rfl) (by kernel_rfl) (by kernel_rfl) ?_ ?_
     ·refine KN ?_ ?_
      ·refine Le.one rfl fun F_ w_ hR hout hD=>?_
       exact(KQ rfl ((hout 1 rfl (by decide)).trans aA) ⟨rfl,KP.refl _ _⟩)
      refine KN ?_ ?_
      ·refine Le.one rfl fun F_ w_ hR hout hD=>?_
       exact(KT (n:=3) rfl ((hout 11 rfl (by decide)).trans aw) Tryz.underlying29 rfl (by kernel_rfl) (by decide) rfl ⟨rfl,KP.refl _ _⟩)
      refine KN ?_ ?_
      ·refine Le.one rfl fun F_ w_ hR hout hD=>?_
       have bF:F_ 42=pt aa 2:=(hD.get 0 rfl rfl rfl)
       have bG:F_ 41=iv 0:=(hD.get 1 rfl rfl rfl)
       exact(LU 0 (s:=1) rfl bF bG (by omega) Tryz.underlying27 (by omega) (by kernel_rfl) (by omega) ⟨rfl,KP.refl _ _⟩)
      refine KN ?_ ?_
      ·refine Le.one rfl fun F_ w_ hR hout hD=>?_
       have bH:F_ 43=pt aa 2:=(hD.get 0 rfl rfl rfl)
       exact(KV rfl bH Tryz.underlying26 (az.all hR id) rfl rfl ⟨rfl,KP.refl _ _⟩)
      refine KN ?_ ?_
      ·refine Le.one rfl fun F_ w_ hR hout hD=>?_
       exact(KQ rfl ((hout 12 rfl (by decide)).trans aD) ⟨rfl,KP.refl _ _⟩)
      refine KN ?_ ?_
      ·refine Le.one rfl fun F_ w_ hR hout hD=>?_
       exact(KQ rfl ((hout 15 rfl (by decide)).trans bp) ⟨rfl,KP.refl _ _⟩)
      refine KN ?_ ?_
      ·refine Le.one rfl fun F_ w_ hR hout hD=>?_
       have bI:F_ 44=af:=(hD.get 0 rfl rfl rfl)
       have bJ:F_ 45=iv ((Lf f 0).1):=(hD.get 1 rfl rfl rfl)
       have bK:F_ 46=iv ((LN y)+((i:Nat):Int)):=(hD.get 2 rfl rfl rfl)
       exact(LE rfl rfl rfl (fun _ _=>by kernel_rfl) (K4 _) (Lm bI (Lm bJ (Lm bK LS))) (SE af ((MJ f 0 x y b (4*i)).p0) ((Lf f 0).1) ((LN y)+((i:Nat):Int)) ab _ (by omega) (by omega) (by omega) (by omega) (aj.all hR KM.none).byt ) (fun e_ w_ h_=>⟨_,h_.1,rfl,h_.2⟩))
      refine KN ?_ ?_
      ·refine Le.one rfl fun F_ w_ hR hout hD=>?_
       exact(KQ rfl ((hout 2 rfl (by decide)).trans aB) ⟨rfl,KP.refl _ _⟩)
      refine KN ?_ ?_
      ·refine Le.one rfl fun F_ w_ hR hout hD=>?_
       exact(LZ KZ rfl ((hout 9 rfl (by decide)).trans aC) (aE.all hR id) ⟨rfl,KP.refl _ _⟩)
      refine KN ?_ ?_
      ·refine Le.one rfl fun F_ w_ hR hout hD=>?_
       exact(KQ rfl ((hout 14 rfl (by decide)).trans bW) ⟨rfl,KP.refl _ _⟩)
      refine KN ?_ ?_
      ·refine Le.one rfl fun F_ w_ hR hout hD=>?_
       have bL:F_ 49=LK b:=(hD.get 0 rfl rfl rfl)
       have bM:F_ 50=iv ((i:Nat):Int):=(hD.get 1 rfl rfl rfl)
       exact(LE rfl rfl rfl (fun _ _=>by kernel_rfl) (K4 _) (Lm bL (Lm bM LS)) (W5 b i  _ (by omega)  ) (fun e_ w_ h_=>⟨_,h_.1,rfl,h_.2⟩))
      exact L3
     intro jB ce dj dk bX bN
     obtain⟨dl,dm,dn,dp,dq,dr,gb,dt,du,dv⟩:=Sn dk bz bA bB bC aE aX aj ak am az
     have dw:=aW.tr dk
     obtain⟨gc,gd,ge,gh,gi,gj,gl,gm,gn,go⟩:=t10 bN 1 aA 2 aB 3 aT 9 aC 10 aL 11 aw 12 aD 13 aU 55 aV 28 aM
     have gp:ce 47=Mx af ((((LN y)+((i:Nat):Int))*((Lf f 0).1)).toNat) ((((LN y)+((i:Nat):Int))*((Lf f 0).1)+((Lf f 0).1)).toNat) ((((LN y)+((i:Nat):Int))*((Lf f 0).1)+((Lf f 0).1)).toNat):=(bN 47).trans (bX 6 (by decide))
     have gq:ce 48=iv (LN x):=(bN 48).trans (bX 7 (by decide))
     have gr:ce 51 = .agg #[.int .u8 ((LX (b (i*4)):Nat):Int),.int .u8 ((LX (b (i*4+1)):Nat):Int),.int .u8 ((LX (b (i*4+2)):Nat):Int),.int .u8 ((LX (b (i*4+3)):Nat):Int)]:=(bN 51).trans (bX 10 (by decide))
     clear bX bN
     refine Ly (R:=fun v_ w_=>∃ (bY:Nat->Prop),.tuple #[]=v_/\KP ab dj w_/\(L4 w_ bY af (YH ((MJ f 0 x y b (4*i)).p0) ((((LN y)+((i:Nat):Int))*((Lf f 0).1)).toNat) ((((LN y)+((i:Nat):Int))*((Lf f 0).1)+((Lf f 0).1)).toNat) (LN x) [(LX (b (i*4))),(LX (b (i*4+1))),(LX (b (i*4+2))),(LX (b (i*4+3)))])/\KS dj ab bY)) rfl rfl (LE rfl rfl rfl (fun _ _=>by kernel_rfl) (K4 _) (Lm gp (Lm gq (Lm gr LS))) (Yq af ((MJ f 0 x y b (4*i)).p0) ((((LN y)+((i:Nat):Int))*((Lf f 0).1)).toNat) ((((LN y)+((i:Nat):Int))*((Lf f 0).1)+((Lf f 0).1)).toNat) (LN x) (LX (b (i*4))) (LX (b (i*4+1))) (LX (b (i*4+2))) (LX (b (i*4+3))) ab _ (by omega) (by omega) (by omega) (N9 _) (N9 _) (N9 _) (N9 _) gb ) (fun e_ w_ h_=>by obtain⟨T369_,he_,hr_⟩:=h_;exact⟨_,he_,T369_,rfl,hr_⟩)) ?_
     rintro _ jC ⟨bY,rfl,aq,⟨cf,cg⟩⟩
     have gt:=dl.all aq aY.symm
     have gu:=dm.all aq aZ.symm
     have gv:=dn.all aq a8.symm
     have gw:=dp.all aq (a9.symm p1 rfl)
     have gz:=dq.all aq (ba.symm an rfl)
     have gA:=dr.all aq (aQ.symm ao rfl)
     have ci:=dt.all aq aF.symm
     have cj:=du.all aq aG.symm
     have gB:=dv.all aq (bb.symm aa rfl)
     obtain⟨gC,gD,gE,gF,gG,gH,gI,gJ⟩:=RF cg aY dl aZ dm a8 dn a9 dp ba dq aQ dr aF dt aG du
     have gK:=bb.grew cg (LO dv.lt)
     refine KO ?_
     refine LD (KH (KI (KJ (iv ((i+1:Nat):Int)) rfl rfl (LR rfl go rfl (L2 (by omega) (by omega)) rr) (KJ (iv ((i+1:Nat):Int)) rfl rfl (KQ rfl rfl rr) (KO ?_)))))
     have gL:=La (iv ((i+1:Nat):Int))
     exact KH ⟨(4-(i+1)),by omega,i+1,bY,ac,ae,by omega,rfl,gc,gd,ge,gh,gi,gj,gl,gm,gn,gL,(dw.trans aq (fun i hi x=>((KS.ok (S:=fun _=>False) aN K6) i hi x))),gt,gu,gv,gw,gz,gA,(by first|exact L4.of_eq hL.1 cf|exact L4.of_eq (hL.2 0 (by decide) (by decide) (by decide)) cf|exact L4.of_eq (congrArg FD.p0 (Nt (by omega))) cf),(by first|exact L4.of_eq hL.1 ci|exact L4.of_eq (hL.2 1 (by decide) (by decide) (by decide)) ci|exact L4.of_eq (congrArg FD.p1 (Nt (by omega))) ci),(by first|exact L4.of_eq hL.1 cj|exact L4.of_eq (hL.2 2 (by decide) (by decide) (by decide)) cj|exact L4.of_eq (congrArg FD.p2 (Nt (by omega))) cj),gB,(aN.trans dw cg),aO,aP,gC,gD,gE,gF,gG,gH,gI,gJ,gK,bc,bd,be,bf,bg,aR,aH,bh,bi,bj,bl,bm,bn,aS,bo⟩
    ·skip
     have hsz:(Lf f 1).1≠0:=Ti (by omega)
     have hsp:=Ot (NE hsz)
     have hL := @UX f 1 x y b i (by decide) (by decide) hsz ⟨by omega,by omega⟩
     have hin2:Oe (Lf f 1).1 (Lf f 1).2 ((Lf f 1).1-1) (LN y+(i:Int)):=⟨by omega,by omega,by omega,by omega⟩
     have hc:=OR hin2
     have hls:=Tg x y b (4*i) hsz
     have dg:(f.pl 0).length=f.p0.length:=rfl
     have dh:(f.pl 1).length=f.p1.length:=rfl
     have di:(f.pl 2).length=f.p2.length:=rfl
     refine Nd 11 [some 41,some 42,some 43,some 44,some 45,some 46,some 47,some 48,some 49,some 50,some 51] [Pd.eq (iv 1),Pd.eq (pt aa 2),Pd.eq (pt aa 3),Pd.eq ah,Pd.eq (iv ((Lf f 1).1)),Pd.eq (iv ((LN y)+((i:Nat):Int))),Pd.eq (Mx ah ((((LN y)+((i:Nat):Int))*((Lf f 1).1)).toNat) ((((LN y)+((i:Nat):Int))*((Lf f 1).1)+((Lf f 1).1)).toNat) ((((LN y)+((i:Nat):Int))*((Lf f 1).1)+((Lf f 1).1)).toNat)),Pd.eq (iv (LN x)),Pd.eq (LK b),Pd.eq (iv ((i:Nat):Int)),Pd.eq (.agg #[.int .u8 ((LX (b (i*4)):Nat):Int),.int .u8 ((LX (b (i*4+1)):Nat):Int),.int .u8 ((LX (b (i*4+2)):Nat):Int),.int .u8 ((LX (b (i*4+3)):Nat):Int)])] (by kernel_rfl) (by kernel_rfl) (by kernel_rfl) ?_ ?_
     ·refine KN ?_ ?_
      ·refine Le.one rfl fun F_ w_ hR hout hD=>?_
       exact(KQ rfl ((hout 1 rfl (by decide)).trans aA) ⟨rfl,KP.refl _ _⟩)
      refine KN ?_ ?_
      ·refine Le.one rfl fun F_ w_ hR hout hD=>?_
       exact(KT (n:=3) rfl ((hout 11 rfl (by decide)).trans aw) Tryz.underlying29 rfl (by kernel_rfl) (by decide) rfl ⟨rfl,KP.refl _ _⟩)
      refine KN ?_ ?_
      ·refine Le.one rfl fun F_ w_ hR hout hD=>?_
       have bF:F_ 42=pt aa 2:=(hD.get 0 rfl rfl rfl)
       have bG:F_ 41=iv 1:=(hD.get 1 rfl rfl rfl)
       exact(LU 1 (s:=1) rfl bF bG (by omega) Tryz.underlying27 (by omega) (by kernel_rfl) (by omega) ⟨rfl,KP.refl _ _⟩)
      refine KN ?_ ?_
      ·refine Le.one rfl fun F_ w_ hR hout hD=>?_
       have bH:F_ 43=pt aa 3:=(hD.get 0 rfl rfl rfl)
       exact(KV rfl bH Tryz.underlying26 (az.all hR id) rfl rfl ⟨rfl,KP.refl _ _⟩)
      refine KN ?_ ?_
      ·refine Le.one rfl fun F_ w_ hR hout hD=>?_
       exact(KQ rfl ((hout 12 rfl (by decide)).trans aD) ⟨rfl,KP.refl _ _⟩)
      refine KN ?_ ?_
      ·refine Le.one rfl fun F_ w_ hR hout hD=>?_
       exact(KQ rfl ((hout 15 rfl (by decide)).trans bp) ⟨rfl,KP.refl _ _⟩)
      refine KN ?_ ?_
      ·refine Le.one rfl fun F_ w_ hR hout hD=>?_
       have bI:F_ 44=ah:=(hD.get 0 rfl rfl rfl)
       have bJ:F_ 45=iv ((Lf f 1).1):=(hD.get 1 rfl rfl rfl)
       have bK:F_ 46=iv ((LN y)+((i:Nat):Int)):=(hD.get 2 rfl rfl rfl)
       exact(LE rfl rfl rfl (fun _ _=>by kernel_rfl) (K4 _) (Lm bI (Lm bJ (Lm bK LS))) (SE ah ((MJ f 1 x y b (4*i)).p1) ((Lf f 1).1) ((LN y)+((i:Nat):Int)) ac _ (by omega) (by omega) (by omega) (by omega) (ak.all hR KM.none).byt ) (fun e_ w_ h_=>⟨_,h_.1,rfl,h_.2⟩))
      refine KN ?_ ?_
      ·refine Le.one rfl fun F_ w_ hR hout hD=>?_
       exact(KQ rfl ((hout 2 rfl (by decide)).trans aB) ⟨rfl,KP.refl _ _⟩)
      refine KN ?_ ?_
      ·refine Le.one rfl fun F_ w_ hR hout hD=>?_
       exact(LZ KZ rfl ((hout 9 rfl (by decide)).trans aC) (aE.all hR id) ⟨rfl,KP.refl _ _⟩)
      refine KN ?_ ?_
      ·refine Le.one rfl fun F_ w_ hR hout hD=>?_
       exact(KQ rfl ((hout 14 rfl (by decide)).trans bW) ⟨rfl,KP.refl _ _⟩)
      refine KN ?_ ?_
      ·refine Le.one rfl fun F_ w_ hR hout hD=>?_
       have bL:F_ 49=LK b:=(hD.get 0 rfl rfl rfl)
       have bM:F_ 50=iv ((i:Nat):Int):=(hD.get 1 rfl rfl rfl)
       exact(LE rfl rfl rfl (fun _ _=>by kernel_rfl) (K4 _) (Lm bL (Lm bM LS)) (W5 b i  _ (by omega)  ) (fun e_ w_ h_=>⟨_,h_.1,rfl,h_.2⟩))
      exact L3
     intro jD cm dy dz bZ bO
     obtain⟨dA,dB,dC,dD,dE,dF,dG,gM,dH,dI⟩:=Sn dz bz bA bB bC aE aX aj ak am az
     have dJ:=aW.tr dz
     obtain⟨gN,gO,gP,gQ,gR,gS,gT,gU,gV,gW⟩:=t10 bO 1 aA 2 aB 3 aT 9 aC 10 aL 11 aw 12 aD 13 aU 55 aV 28 aM
     have gZ:cm 47=Mx ah ((((LN y)+((i:Nat):Int))*((Lf f 1).1)).toNat) ((((LN y)+((i:Nat):Int))*((Lf f 1).1)+((Lf f 1).1)).toNat) ((((LN y)+((i:Nat):Int))*((Lf f 1).1)+((Lf f 1).1)).toNat):=(bO 47).trans (bZ 6 (by decide))
     have hP:cm 48=iv (LN x):=(bO 48).trans (bZ 7 (by decide))
     have hQ:cm 51 = .agg #[.int .u8 ((LX (b (i*4)):Nat):Int),.int .u8 ((LX (b (i*4+1)):Nat):Int),.int .u8 ((LX (b (i*4+2)):Nat):Int),.int .u8 ((LX (b (i*4+3)):Nat):Int)]:=(bO 51).trans (bZ 10 (by decide))
     clear bZ bO
     refine Ly (R:=fun v_ w_=>∃ (b7:Nat->Prop),.tuple #[]=v_/\KP ac dy w_/\(L4 w_ b7 ah (YH ((MJ f 1 x y b (4*i)).p1) ((((LN y)+((i:Nat):Int))*((Lf f 1).1)).toNat) ((((LN y)+((i:Nat):Int))*((Lf f 1).1)+((Lf f 1).1)).toNat) (LN x) [(LX (b (i*4))),(LX (b (i*4+1))),(LX (b (i*4+2))),(LX (b (i*4+3)))])/\KS dy ac b7)) rfl rfl (LE rfl rfl rfl (fun _ _=>by kernel_rfl) (K4 _) (Lm gZ (Lm hP (Lm hQ LS))) (Yq ah ((MJ f 1 x y b (4*i)).p1) ((((LN y)+((i:Nat):Int))*((Lf f 1).1)).toNat) ((((LN y)+((i:Nat):Int))*((Lf f 1).1)+((Lf f 1).1)).toNat) (LN x) (LX (b (i*4))) (LX (b (i*4+1))) (LX (b (i*4+2))) (LX (b (i*4+3))) ac _ (by omega) (by omega) (by omega) (N9 _) (N9 _) (N9 _) (N9 _) gM ) (fun e_ w_ h_=>by obtain⟨T449_,he_,hr_⟩:=h_;exact⟨_,he_,T449_,rfl,hr_⟩)) ?_
     rintro _ jE ⟨b7,rfl,ar,⟨cn,co⟩⟩
     have hZ:=dA.all ar bc.symm
     have ia:=dB.all ar bd.symm
     have ib:=dC.all ar be.symm
     have ie:=dD.all ar (bf.symm p1 rfl)
     have ig:=dE.all ar (bg.symm an rfl)
     have ii:=dF.all ar (aR.symm ao rfl)
     have cq:=dG.all ar aF
     have cr:=dH.all ar aH.symm
     have ij:=dI.all ar (bh.symm aa rfl)
     obtain⟨ik,io,ip,iq,ir,iu,iw,iy⟩:=RF co bc dA bd dB be dC bf dD bg dE aR dF (aF.symm) dG aH dH
     have iz:=bh.grew co (LO dI.lt)
     refine KO ?_
     refine LD (KH (KI (KJ (iv ((i+1:Nat):Int)) rfl rfl (LR rfl gW rfl (L2 (by omega) (by omega)) rr) (KJ (iv ((i+1:Nat):Int)) rfl rfl (KQ rfl rfl rr) (KO ?_)))))
     have iA:=La (iv ((i+1:Nat):Int))
     exact KH ⟨(4-(i+1)),by omega,i+1,ab,b7,ae,by omega,rfl,gN,gO,gP,gQ,gR,gS,gT,gU,gV,iA,(dJ.trans ar (fun i hi x=>((KS.ok (S:=fun _=>False) aO K6) i hi x))),hZ,ia,ib,ie,ig,ii,(by first|exact L4.of_eq hL.1 cq|exact L4.of_eq (hL.2 0 (by decide) (by decide) (by decide)) cq|exact L4.of_eq (congrArg FD.p0 (Nt (by omega))) cq),(by first|exact L4.of_eq hL.1 cn|exact L4.of_eq (hL.2 1 (by decide) (by decide) (by decide)) cn|exact L4.of_eq (congrArg FD.p1 (Nt (by omega))) cn),(by first|exact L4.of_eq hL.1 cr|exact L4.of_eq (hL.2 2 (by decide) (by decide) (by decide)) cr|exact L4.of_eq (congrArg FD.p2 (Nt (by omega))) cr),ij,aN,(aO.trans dJ co),aP,aY,aZ,a8,a9,ba,aQ,iw.symm,aG,bb,ik,io,ip,iq,ir,iu,iy,iz,bi,bj,bl,bm,bn,aS,bo⟩
    ·skip
     have hsz:(Lf f 2).1≠0:=Ti (by omega)
     have hsp:=Ot (NE hsz)
     have hL := @UX f 2 x y b i (by decide) (by decide) hsz ⟨by omega,by omega⟩
     have hin2:Oe (Lf f 2).1 (Lf f 2).2 ((Lf f 2).1-1) (LN y+(i:Int)):=⟨by omega,by omega,by omega,by omega⟩
     have hc:=OR hin2
     have hls:=Tg x y b (4*i) hsz
     have dg:(f.pl 0).length=f.p0.length:=rfl
     have dh:(f.pl 1).length=f.p1.length:=rfl
     have di:(f.pl 2).length=f.p2.length:=rfl
     refine Nd 11 [some 41,some 42,some 43,some 44,some 45,some 46,some 47,some 48,some 49,some 50,some 51] [Pd.eq (iv 2),Pd.eq (pt aa 2),Pd.eq (pt aa 4),Pd.eq ai,Pd.eq (iv ((Lf f 2).1)),Pd.eq (iv ((LN y)+((i:Nat):Int))),Pd.eq (Mx ai ((((LN y)+((i:Nat):Int))*((Lf f 2).1)).toNat) ((((LN y)+((i:Nat):Int))*((Lf f 2).1)+((Lf f 2).1)).toNat) ((((LN y)+((i:Nat):Int))*((Lf f 2).1)+((Lf f 2).1)).toNat)),Pd.eq (iv (LN x)),Pd.eq (LK b),Pd.eq (iv ((i:Nat):Int)),Pd.eq (.agg #[.int .u8 ((LX (b (i*4)):Nat):Int),.int .u8 ((LX (b (i*4+1)):Nat):Int),.int .u8 ((LX (b (i*4+2)):Nat):Int),.int .u8 ((LX (b (i*4+3)):Nat):Int)])] (by kernel_rfl) (by kernel_rfl) (by kernel_rfl) ?_ ?_
     ·refine KN ?_ ?_
      ·refine Le.one rfl fun F_ w_ hR hout hD=>?_
       exact(KQ rfl ((hout 1 rfl (by decide)).trans aA) ⟨rfl,KP.refl _ _⟩)
      refine KN ?_ ?_
      ·refine Le.one rfl fun F_ w_ hR hout hD=>?_
       exact(KT (n:=3) rfl ((hout 11 rfl (by decide)).trans aw) Tryz.underlying29 rfl (by kernel_rfl) (by decide) rfl ⟨rfl,KP.refl _ _⟩)
      refine KN ?_ ?_
      ·refine Le.one rfl fun F_ w_ hR hout hD=>?_
       have bF:F_ 42=pt aa 2:=(hD.get 0 rfl rfl rfl)
       have bG:F_ 41=iv 2:=(hD.get 1 rfl rfl rfl)
       exact(LU 2 (s:=1) rfl bF bG (by omega) Tryz.underlying27 (by omega) (by kernel_rfl) (by omega) ⟨rfl,KP.refl _ _⟩)
      refine KN ?_ ?_
      ·refine Le.one rfl fun F_ w_ hR hout hD=>?_
       have bH:F_ 43=pt aa 4:=(hD.get 0 rfl rfl rfl)
       exact(KV rfl bH Tryz.underlying26 (az.all hR id) rfl rfl ⟨rfl,KP.refl _ _⟩)
      refine KN ?_ ?_
      ·refine Le.one rfl fun F_ w_ hR hout hD=>?_
       exact(KQ rfl ((hout 12 rfl (by decide)).trans aD) ⟨rfl,KP.refl _ _⟩)
      refine KN ?_ ?_
      ·refine Le.one rfl fun F_ w_ hR hout hD=>?_
       exact(KQ rfl ((hout 15 rfl (by decide)).trans bp) ⟨rfl,KP.refl _ _⟩)
      refine KN ?_ ?_
      ·refine Le.one rfl fun F_ w_ hR hout hD=>?_
       have bI:F_ 44=ai:=(hD.get 0 rfl rfl rfl)
       have bJ:F_ 45=iv ((Lf f 2).1):=(hD.get 1 rfl rfl rfl)
       have bK:F_ 46=iv ((LN y)+((i:Nat):Int)):=(hD.get 2 rfl rfl rfl)
       exact(LE rfl rfl rfl (fun _ _=>by kernel_rfl) (K4 _) (Lm bI (Lm bJ (Lm bK LS))) (SE ai ((MJ f 2 x y b (4*i)).p2) ((Lf f 2).1) ((LN y)+((i:Nat):Int)) ae _ (by omega) (by omega) (by omega) (by omega) (am.all hR KM.none).byt ) (fun e_ w_ h_=>⟨_,h_.1,rfl,h_.2⟩))
      refine KN ?_ ?_
      ·refine Le.one rfl fun F_ w_ hR hout hD=>?_
       exact(KQ rfl ((hout 2 rfl (by decide)).trans aB) ⟨rfl,KP.refl _ _⟩)
      refine KN ?_ ?_
      ·refine Le.one rfl fun F_ w_ hR hout hD=>?_
       exact(LZ KZ rfl ((hout 9 rfl (by decide)).trans aC) (aE.all hR id) ⟨rfl,KP.refl _ _⟩)
      refine KN ?_ ?_
      ·refine Le.one rfl fun F_ w_ hR hout hD=>?_
       exact(KQ rfl ((hout 14 rfl (by decide)).trans bW) ⟨rfl,KP.refl _ _⟩)
      refine KN ?_ ?_
      ·refine Le.one rfl fun F_ w_ hR hout hD=>?_
       have bL:F_ 49=LK b:=(hD.get 0 rfl rfl rfl)
       have bM:F_ 50=iv ((i:Nat):Int):=(hD.get 1 rfl rfl rfl)
       exact(LE rfl rfl rfl (fun _ _=>by kernel_rfl) (K4 _) (Lm bL (Lm bM LS)) (W5 b i  _ (by omega)  ) (fun e_ w_ h_=>⟨_,h_.1,rfl,h_.2⟩))
      exact L3
     intro jF ct dK dL b8 bP
     obtain⟨dM,dN,dO,dP,dQ,dR,dS,dT,iB,dU⟩:=Sn dL bz bA bB bC aE aX aj ak am az
     have dV:=aW.tr dL
     obtain⟨iC,iD,iE,iF,iG,iH,iI,iJ,iK,iL⟩:=t10 bP 1 aA 2 aB 3 aT 9 aC 10 aL 11 aw 12 aD 13 aU 55 aV 28 aM
     have iM:ct 47=Mx ai ((((LN y)+((i:Nat):Int))*((Lf f 2).1)).toNat) ((((LN y)+((i:Nat):Int))*((Lf f 2).1)+((Lf f 2).1)).toNat) ((((LN y)+((i:Nat):Int))*((Lf f 2).1)+((Lf f 2).1)).toNat):=(bP 47).trans (b8 6 (by decide))
     have iN:ct 48=iv (LN x):=(bP 48).trans (b8 7 (by decide))
     have iO:ct 51 = .agg #[.int .u8 ((LX (b (i*4)):Nat):Int),.int .u8 ((LX (b (i*4+1)):Nat):Int),.int .u8 ((LX (b (i*4+2)):Nat):Int),.int .u8 ((LX (b (i*4+3)):Nat):Int)]:=(bP 51).trans (b8 10 (by decide))
     clear b8 bP
     refine Ly (R:=fun v_ w_=>∃ (b9:Nat->Prop),.tuple #[]=v_/\KP ae dK w_/\(L4 w_ b9 ai (YH ((MJ f 2 x y b (4*i)).p2) ((((LN y)+((i:Nat):Int))*((Lf f 2).1)).toNat) ((((LN y)+((i:Nat):Int))*((Lf f 2).1)+((Lf f 2).1)).toNat) (LN x) [(LX (b (i*4))),(LX (b (i*4+1))),(LX (b (i*4+2))),(LX (b (i*4+3)))])/\KS dK ae b9)) rfl rfl (LE rfl rfl rfl (fun _ _=>by kernel_rfl) (K4 _) (Lm iM (Lm iN (Lm iO LS))) (Yq ai ((MJ f 2 x y b (4*i)).p2) ((((LN y)+((i:Nat):Int))*((Lf f 2).1)).toNat) ((((LN y)+((i:Nat):Int))*((Lf f 2).1)+((Lf f 2).1)).toNat) (LN x) (LX (b (i*4))) (LX (b (i*4+1))) (LX (b (i*4+2))) (LX (b (i*4+3))) ae _ (by omega) (by omega) (by omega) (N9 _) (N9 _) (N9 _) (N9 _) iB ) (fun e_ w_ h_=>by obtain⟨T529_,he_,hr_⟩:=h_;exact⟨_,he_,T529_,rfl,hr_⟩)) ?_
     rintro _ jG ⟨b9,rfl,au,⟨cu,cv⟩⟩
     have iP:=dM.all au bi.symm
     have iQ:=dN.all au bj.symm
     have iR:=dO.all au bl.symm
     have iS:=dP.all au (bm.symm p1 rfl)
     have iT:=dQ.all au (bn.symm an rfl)
     have iU:=dR.all au (aS.symm ao rfl)
     have cw:=dS.all au aG
     have cy:=dT.all au aH
     have iV:=dU.all au (bo.symm aa rfl)
     obtain⟨iW,iX,iY,iZ,ja,jb,jc,jd⟩:=RF cv bi dM bj dN bl dO bm dP bn dQ aS dR (aG.symm) dS (aH.symm) dT
     have je:=bo.grew cv (LO dU.lt)
     refine KO ?_
     refine LD (KH (KI (KJ (iv ((i+1:Nat):Int)) rfl rfl (LR rfl iL rfl (L2 (by omega) (by omega)) rr) (KJ (iv ((i+1:Nat):Int)) rfl rfl (KQ rfl rfl rr) (KO ?_)))))
     have jf:=La (iv ((i+1:Nat):Int))
     exact KH ⟨(4-(i+1)),by omega,i+1,ab,ac,b9,by omega,rfl,iC,iD,iE,iF,iG,iH,iI,iJ,iK,jf,(dV.trans au (fun i hi x=>((KS.ok (S:=fun _=>False) aP K6) i hi x))),iP,iQ,iR,iS,iT,iU,(by first|exact L4.of_eq hL.1 cw|exact L4.of_eq (hL.2 0 (by decide) (by decide) (by decide)) cw|exact L4.of_eq (congrArg FD.p0 (Nt (by omega))) cw),(by first|exact L4.of_eq hL.1 cy|exact L4.of_eq (hL.2 1 (by decide) (by decide) (by decide)) cy|exact L4.of_eq (congrArg FD.p1 (Nt (by omega))) cy),(by first|exact L4.of_eq hL.1 cu|exact L4.of_eq (hL.2 2 (by decide) (by decide) (by decide)) cu|exact L4.of_eq (congrArg FD.p2 (Nt (by omega))) cu),iV,aN,aO,(aP.trans dV cv),aY,aZ,a8,a9,ba,aQ,aF,jc.symm,bb,bc,bd,be,bf,bg,aR,jd.symm,bh,iW,iX,iY,iZ,ja,jb,je⟩
   ·replace bE:=of_decide_eq_false bE
    refine Li (LD (KH (KI (KJ (iv ((i+1:Nat):Int)) rfl rfl (LR rfl aM rfl (L2 (by omega) (by omega)) rr) (KJ (iv ((i+1:Nat):Int)) rfl rfl (KQ rfl rfl rr) (KO ?_))))))
    have jg:=La (iv ((i+1:Nat):Int))
    exact KH ⟨(4-(i+1)),by omega,i+1,ab,ac,ae,by omega,rfl,aA,aB,aT,aC,aL,aw,aD,aU,aV,jg,aW,bz,bA,bB,bC,aE,aX,(by first|exact L4.of_eq hL.1 aj|exact L4.of_eq (hL.2 0 (by decide) (by decide) (by decide)) aj|exact L4.of_eq (congrArg FD.p0 (Nt (by omega))) aj),(by first|exact L4.of_eq hL.1 ak|exact L4.of_eq (hL.2 1 (by decide) (by decide) (by decide)) ak|exact L4.of_eq (congrArg FD.p1 (Nt (by omega))) ak),(by first|exact L4.of_eq hL.1 am|exact L4.of_eq (hL.2 2 (by decide) (by decide) (by decide)) am|exact L4.of_eq (congrArg FD.p2 (Nt (by omega))) am),az,aN,aO,aP,aY,aZ,a8,a9,ba,aQ,aF,aG,bb,bc,bd,be,bf,bg,aR,aH,bh,bi,bj,bl,bm,bn,aS,bo⟩
  ·skip
   refine KI (KW rfl rfl rfl bp (KJ (.bool false) rfl rfl (Nl rfl rfl rfl (decide_eq_false df) rr) (KJ (.bool false) rfl rfl (KQ rfl rfl rr) (KL 2 true 36 rfl rfl rfl (Or.inl rfl) rfl (KL 2 true 36 rfl rfl rfl (Or.inl rfl) rfl (KL 2 true 36 rfl rfl rfl (Or.inl rfl) rfl (KJ (.bool false) rfl rfl (Lb rfl rfl rfl rr) (KO ?_))))))))
   have jh:=La (.bool false)
   refine KH ?_
   refine Lc (t:=false) jh (fun e=>by cases e) (fun _=>?_)
   refine Li (LD (KH (KI (KJ (iv ((i+1:Nat):Int)) rfl rfl (LR rfl aM rfl (L2 (by omega) (by omega)) rr) (KJ (iv ((i+1:Nat):Int)) rfl rfl (KQ rfl rfl rr) (KO ?_))))))
   have ji:=La (iv ((i+1:Nat):Int))
   exact KH ⟨(4-(i+1)),by omega,i+1,ab,ac,ae,by omega,rfl,aA,aB,aT,aC,aL,aw,aD,aU,aV,ji,aW,bz,bA,bB,bC,aE,aX,(by first|exact L4.of_eq hL.1 aj|exact L4.of_eq (hL.2 0 (by decide) (by decide) (by decide)) aj|exact L4.of_eq (congrArg FD.p0 (Nt (by omega))) aj),(by first|exact L4.of_eq hL.1 ak|exact L4.of_eq (hL.2 1 (by decide) (by decide) (by decide)) ak|exact L4.of_eq (congrArg FD.p1 (Nt (by omega))) ak),(by first|exact L4.of_eq hL.1 am|exact L4.of_eq (hL.2 2 (by decide) (by decide) (by decide)) am|exact L4.of_eq (congrArg FD.p2 (Nt (by omega))) am),az,aN,aO,aP,aY,aZ,a8,a9,ba,aQ,aF,aG,bb,bc,bd,be,bf,bg,aR,aH,bh,bi,bj,bl,bm,bn,aS,bo⟩
 ·replace bD:=of_decide_eq_false bD
  refine Mg (Lt (Lt ?_))
  have jj:4=i:=by omega
  subst jj
  refine Mh (KH (KK (KI (KJ (.agg #[iv ((MD f).W),iv ((MD f).H),af,ah,ai]) rfl rfl (KU K3 rfl aw az rr) (Ll (us:=[iv ((MD f).W),iv ((MD f).H),af,ah,ai]) K3 rfl rfl rfl aL rfl aX rfl (K2 rfl (K2 rfl (K2 aj.one (K2 ak.one (K2 am.one MI))))) fun jH jk cd=>?_)))))
  have jl:=aj.all cd aQ
  have jm:=ak.all cd aR
  have jn:=am.all cd aS
  refine KO ?_
  refine KH (Ld ?_)
  exact OY (vs:=[iv ((MD f).W),iv ((MD f).H),af,ah,ai]) K3 aV rfl rfl aL jk ⟨af,ab,ah,ac,ai,ae,(by rw[show Qp f p x y b=MJ f p x y b 16 from rfl,(Q5 f p x y b 16).1,(Q5 f p x y b 16).2.1]),(aW.trans cd (KS.ok (S:=fun _=>False) (KS.new cC ek) K6)),⟨jl,aN⟩,⟨jm,aO⟩,⟨jn,aP⟩,aF,aG,aH⟩
end Go.Proofs.YtknjpdcpmpfklaaGreatDoor
set_option maxRecDepth 100000
namespace Go.Proofs.YtknjpdcpmpfklaaGreatDoor
open Go.RowKit
section
variable {N:Nat} {Q:(Exit->(Nat->Value)->World->Prop)} {F:Nat->Value} {w:World} {P:Program}
def aAm(N:Nat)(P:Program)(R:World->World->Prop)(D:List (Option Tmp))(G:Nat->Value->World->Prop)(F0:Nat->Value)(w0:World)(i:Nat)(o:Oper):Prop :=
 ∀ (F:Nat->Value) (w:World),R w0 w->(∀ t,Nat.blt t N=true->some t∉D->F t=F0 t)->OG D G F w o.after.toList->o.guard=none/\Lj P (ev F) o w (fun v w'=>G i v w'/\R w w')
def SG(N:Nat)(P:Program)(R:World->World->Prop)(D:List (Option Tmp))(G:Nat->Value->World->Prop)(F0:Nat->Value)(w0:World):Nat->List Oper->Prop
 | _,[]=>True
 | i,o::r=>aAm N P R D G F0 w0 i o/\SG N P R D G F0 w0 (i+1) r
theorem aAm.step{R:World->World->Prop}{D:List (Option Tmp)}{G:Nat->Value->World->Prop}{w0:World}{i:Nat}{o:Oper}{a0:Act}(ha:Fr N F a0)(h:aAm N P R D G F w0 i o):aBc P R D G a0 w0 i o:=by
 intro a w hR hout hD
 have h1:=h (fun t=>a.tmps.getD t undef) w hR (fun t hb ht=>by rw[← ha.at' t hb];exact hout t ht) hD.toF
 rw[← Sf a] at h1
 unfold PW
 rw[h1.1]
 exact⟨fun _=>h1.2,fun e=>by cases e⟩
theorem SG.steps{R:World->World->Prop}{D:List (Option Tmp)}{G:Nat->Value->World->Prop}{w0:World}{a0:Act}(ha:Fr N F a0):∀ {os:List Oper} {i:Nat},SG N P R D G F w0 i os->Steps P R D G a0 w0 i os:=by
 intro os
 induction os with
 | nil=>intro i _;exact trivial
 | cons o r ih=>intro i h;exact⟨h.1.step ha,ih h.2⟩
theorem Y2{R:World->World->Prop}{D:List (Option Tmp)}{G:Nat->Value->World->Prop}{F0:Nat->Value}{w0:World}{i:Nat}:SG N P R D G F0 w0 i []:=trivial
theorem NJ{R:World->World->Prop}{D:List (Option Tmp)}{G:Nat->Value->World->Prop}{F0:Nat->Value}{w0:World}{i:Nat}{o:Oper}{r:List Oper}(hg:o.guard=none)
  (h:∀ (F:Nat->Value) (w:World),R w0 w->(∀ t,Nat.blt t N=true->some t∉D->F t=F0 t)->OG D G F w o.after.toList->Lj P (ev F) o w (fun v w'=>G i v w'/\R w w')) (k:SG N P R D G F0 w0 (i+1) r):SG N P R D G F0 w0 i (o::r):=⟨fun F w h1 h2 h3=>⟨hg,h F w h1 h2 h3⟩,k⟩
theorem aAX{id:Nat}{ops:Array Oper}(n:Nat)(R:World->World->Prop)(D:List (Option Tmp))(G:Nat->Value->World->Prop)(hm:P.follows .mixedOrders=true)(hta:SM ops.toList n=true)(hpl:plain N 0 D (ops.toList.take n)=true)
  (hrf:∀ a,R a a) (htr:∀ a b c,R a b->R b c->R a c) (hdr:R w w.drew) (hst:∀ i v w w',G i v w->R w w'->G i v w') (hsteps:SG N P R D G F w 0 (ops.toList.take n))
  (hend:∀ (v:Nat->Value) (F':Nat->Value) (w':World),R w w'->(∀ i,i<n->G i (v i) w')->(∀ t,F' t=Q6 v 0 D F t)->wl none P N ops Q (ops.toList.drop n) F' w'):wq none P N (.region id ops true) Q F w:=by
 intro a ha
 refine wpIn_wide.2 ?_
 refine wp_region_any hm ?_
 have T:=SJ hta
 have hno:∀ j,(Array.replicate ops.size false).getD j false=false:=by
  intro j
  by_cases h:j<ops.size <;> simp[Array.getD,h]
 refine VH n T R D G (by rw[ha.size];exact hpl) hrf htr hst (hsteps.steps ha) (fun v w' hk hG=>hend v _ w' hk hG (fun _=>rfl) _ (Pj v D 0 F a ha (OO hpl))) ops.size _ (fun _=>undef) a _ ⟨rfl,by simp,rfl,hdr,fun _ _=>rfl,fun j _ hj=>?_,fun j hj=>?_⟩ ?_ ?_ ?_
 ·rw[hno] at hj;cases hj
 ·rw[hno] at hj;cases hj
 ·intro k o _ hl;rw[hno] at hl;cases hl
 ·intro j _;exact hno j
 ·exact Nat.le_trans (List.countP_le_length) (by simp)
end
def PD(L:List Nat)(n k:Nat):List Nat:=L.take (0+k)++((((L.drop 0).take (n-0)).drop 0).take (k-0) |>.take (n-0-k) |> (· ++ L.drop (0+k+min (n-0-k) (((((L.drop 0).take (n-0)).drop 0).take (k-0)).length))))
theorem W4{L:List Nat}{n k:Nat}(hL:L.length=n)(hk:k<=n):PD L n k=L.take k++(L.take (min (n-k) k)++L.drop (k+min (n-k) k)):=by
 unfold PD
 have e:((((L.drop 0).take (n-0)).drop 0).take (k-0))=L.take k:=by simp;rw[← hL,List.take_length]
 rw[e]
 simp only[Nat.zero_add,Nat.sub_zero,List.take_take,List.length_take]
 rw[show min (n-k) (min k L.length)=min (n-k) k by omega]
theorem RM{L:List Nat}{n k:Nat}(hL:L.length=n)(hk:k<=n):(PD L n k).length=n:=by rw[W4 hL hk];simp;omega
theorem Wq{L:List Nat}{n k s:Nat}(hL:L.length=n)(hk:k<=n)(h:L.take k=List.replicate k s):(PD L n k).take (k+min (n-k) k)=List.replicate (k+min (n-k) k) s:=by
 rw[W4 hL hk,h,show L.take (min (n-k) k)=(L.take k).take (min (n-k) k) by rw[List.take_take];congr 1;omega,h,List.take_replicate,show min (min (n-k) k) k=min (n-k) k by omega,← List.append_assoc,List.replicate_append_replicate]
 rw[List.take_append_of_le_length (by simp),List.take_of_length_le (by simp)]
theorem YX{L:List Nat}{n k s:Nat}(hL:L.length=n)(hk:k<=n)(h:L.take k=List.replicate k s):PD (PD L n k) n k=PD L n k:=by
 have h2:=RM hL hk
 have h3:=Wq hL hk h
 rw[W4 h2 hk]
 have e1:(PD L n k).take k=List.replicate k s:=by
  have:(PD L n k).take k=((PD L n k).take (k+min (n-k) k)).take k:=by rw[List.take_take];congr 1;omega
  rw[this,h3,List.take_replicate];congr 1;omega
 have e2:(PD L n k).take (min (n-k) k)=List.replicate (min (n-k) k) s:=by
  have:(PD L n k).take (min (n-k) k)=((PD L n k).take (k+min (n-k) k)).take (min (n-k) k):=by rw[List.take_take];congr 1;omega
  rw[this,h3,List.take_replicate];congr 1;omega
 rw[e1,e2,← List.append_assoc,List.replicate_append_replicate,← h3,List.take_append_drop]
theorem Wm{J l:List Nat}{n s:Nat}(hJ:J.length=n)(hn:1<=n)(hl:l.length=1)(hs:l.getD 0 0=s):(J.take 0++(l.take (n-0)++J.drop (0+min (n-0) l.length))).length=n/\(J.take 0++(l.take (n-0)++J.drop (0+min (n-0) l.length))).take 1=List.replicate 1 s:=by
 obtain⟨z,rfl⟩:∃ z,l=[z]:=by
  match l,hl with
  | [z],_=>exact⟨z,rfl⟩
 obtain rfl:z=s:=by simpa using hs
 obtain⟨m,rfl⟩:∃ m,n=m+1:=⟨n-1,by omega⟩
 constructor
 ·simp;omega
 ·simp
theorem azt{L:List Nat}{n k s:Nat}(hk:k=n)(h:L.take k=List.replicate k s):List.replicate n s=((L.drop 0).take (n-0)):=by
 subst hk;rw[List.drop_zero,Nat.sub_zero,h]
def PF(T:Nat->Prop)(v:Value)(L L':List Nat)(a b:World):Prop:=KP T a b/\(L4 a T v L'->L4 b T v L')/\(L4 a T v L->L4 b T v L\/L4 b T v L')
theorem PF.refl{T:Nat->Prop}{v:Value}{L L':List Nat}(a:World):PF T v L L' a a:=⟨KP.refl _ _,id,.inl⟩
theorem PF.trans{T:Nat->Prop}{v:Value}{L L':List Nat}{a b c:World}(h:PF T v L L' a b)(k:PF T v L L' b c):PF T v L L' a c :=
 ⟨h.1.trans k.1 (fun _ _ x=>x),fun x=>k.2.1 (h.2.1 x),fun x=>(h.2.2 x).elim k.2.2 (fun y=>.inr (k.2.1 y))⟩
theorem PF.drew{T:Nat->Prop}{v:Value}{L L':List Nat}(a:World):PF T v L L' a a.drew :=
 ⟨(KP.refl _ _).drew,fun h=>h.all (S:=fun _=>False) (KP.refl _ _).drew KM.none,fun h=>.inl (h.all (S:=fun _=>False) (KP.refl _ _).drew KM.none)⟩
def Yo(T:Nat->Prop)(v:Value)(L':List Nat)(vs:List Value)(i:Nat)(x:Value)(w:World):Prop:=x=vs.getD i undef/\(i=7->L4 w T v L')
theorem Yo.stays{T:Nat->Prop}{v:Value}{L L':List Nat}{vs:List Value}(i:Nat)(x:Value)(w w':World)(h:Yo T v L' vs i x w)(k:PF T v L L' w w'):Yo T v L' vs i x w':=⟨h.1,fun e=>k.2.1 (h.2 e)⟩
theorem L9.of_eq{w:World}{T:Nat->Prop}{v:Value}{l m:List Nat}(e:m=l)(h:L9 w T v l):L9 w T v m:=e ▸ h
theorem aAt{ρ:Operand->Value}{o:Oper}{w w0:World}{T:Nat->Prop}{v:Value}{L:List Nat}{n k s:Nat}{c:Call}{x y:Operand}{vs:List Value}(ho:o.op = .call c)(hc:c={ callee:=.builtin .copy,args:=#[x,y],argTypes:=#[26,26] })(hx:ρ x=Mx (Mx v 0 n n) k (n-0) (n-0))(hy:ρ y=Mx (Mx v 0 n n) 0 k (n-0))
  (hL:L.length=n) (hk:k<=n) (ht:L.take k=List.replicate k s) (h0:L4 w0 T v L) (hR:PF T v L (PD L n k) w0 w) (hvs:vs.getD 7 undef = .int .i64 ((min (n-k) k:Nat):Int)) :
  Lj Tryz.prog ρ o w (fun r w'=>Yo T v (PD L n k) vs 7 r w'/\PF T v L (PD L n k) w w'):=by
 have main:∀ M:List Nat,L4 w T v M->M.length=n->PD M n k=PD L n k->Lj Tryz.prog ρ o w (fun r w'=>Yo T v (PD L n k) vs 7 r w'/\PF T v L (PD L n k) w w'):=by
  intro M hM hMl he
  have hb:L9 w T (Mx (Mx v 0 n n) 0 k (n-0)) ((((M.drop 0).take (n-0)).drop 0).take (k-0)):=by
   have h1:L9 w T (Mx v 0 n n) ((M.drop 0).take (n-0)):=hM.byt.sub (by omega) (by omega) (by omega) (by have:=hM.byt.cap;omega)
   have hcap:aAl (Mx v 0 n n)=n-0:=by
    obtain⟨a,e⟩:=UM hM.byt 0 n n
    rw[e];rfl
   exact h1.sub (by omega) (by omega) (by simp;omega) (by rw[hcap];omega)
  obtain⟨w',hr,h1,h2⟩:=Wn (off:=0+k) (n:=n-0-k) ho hc (by rw[hx];exact Wd hM.byt (Nat.le_refl _) (Nat.le_refl _) rfl) hy hM hb (by omega)
  have h1':L4 w' T v (PD L n k):=by rw[← he];exact h1
  refine MS hr ⟨⟨?_,fun _=>h1'⟩,h2,fun _=>h1',fun _=>.inr h1'⟩
  rw[hvs]
  congr 2
  simp;omega
 rcases hR.2.2 h0 with h|h
 ·exact main L h hL rfl
 ·exact main _ h (RM hL hk) (YX hL hk ht)
theorem aAc{ρ:Operand->Value}{o:Oper}{w w0:World}{R:Value->World->Prop}{T:Nat->Prop}{v:Value}{L:List Nat}{n k:Nat}{x lo:Operand}(ho:o.op = .slice 26 x (some lo) none none)(hx:ρ x=Mx v 0 n n)(hl:ρ lo = .int .i64 (k:Int))(hk:k<=n)(h0:L4 w0 T v L)(hR:PF T v L (PD L n k) w0 w)(h:R (Mx (Mx v 0 n n) k (n-0) (n-0)) w):Lj Tryz.prog ρ o w R:=by
 rcases hR.2.2 h0 with hb|hb
 ·exact WA k ho hx hl rfl hb.byt (by omega) h
 ·exact WA k ho hx hl rfl hb.byt (by omega) h
theorem aAj{ρ:Operand->Value}{o:Oper}{w w0:World}{R:Value->World->Prop}{T:Nat->Prop}{v:Value}{L:List Nat}{n k:Nat}{x hi:Operand}(ho:o.op = .slice 26 x none (some hi) none)(hx:ρ x=Mx v 0 n n)(hl:ρ hi = .int .i64 (k:Int))(hk:k<=n)(h0:L4 w0 T v L)(hR:PF T v L (PD L n k) w0 w)(h:R (Mx (Mx v 0 n n) 0 k (n-0)) w):Lj Tryz.prog ρ o w R:=by
 rcases hR.2.2 h0 with hb|hb
 ·exact Zy k ho hx hl rfl hb.byt (by omega) h
 ·exact Zy k ho hx hl rfl hb.byt (by omega) h
theorem TS{n:Nat}(h:n<18446744073709551616):IntKind.u64.wrap ((n:Nat):Int)=((n:Nat):Int):=by
 unfold IntKind.wrap;simp[IntKind.signed,IntKind.bits];omega
theorem Zz{a b:Nat}(h:a*b<18446744073709551616):IntKind.u64.wrap ((a:Int)*(b:Int))=((a*b:Nat):Int):=by rw[← Int.natCast_mul];exact TS h
theorem aAB{n:Nat}(h:n<4294967296):bits .and .u64 ((n:Nat):Int) 4294967295=((n:Nat):Int):=by
 have e:=u64_and_nat n 4294967295 (by omega) (by omega)
 rw[show ((4294967295:Nat):Int)=4294967295 from rfl] at e
 rw[e,show (4294967295:Nat)=2 ^ 32-1 from rfl,Nat.and_two_pow_sub_one_eq_mod,Nat.mod_eq_of_lt (by simpa using h)]
theorem Yj{n:Nat}(h:n<4294967296):((n:Nat):Int)/2 ^ 32=((0:Nat):Int):=by
 have:(2:Int) ^ 32=4294967296:=by decide
 rw[this];omega
end Go.Proofs.YtknjpdcpmpfklaaGreatDoor
set_option maxRecDepth 100000
namespace Go.Proofs.YtknjpdcpmpfklaaGreatDoor
open Go.RowKit
theorem azy(x y:Nat)(w0:World)(hx:x<4294967296)(hy:y<4294967296)(hxy:x*y<4294967296) :
  Calls Tryz.prog 125 #[.int .u64 (((x:Nat):Int)),.int .u64 (((y:Nat):Int))] w0 fun e w'=>e = .returned (.tuple #[.int .u64 (((0:Nat):Int)),.int .u64 (((x*y:Nat):Int))])/\KP (fun _=>False) w0 w':=by
 refine Ls (args:=[.int .u64 ((x:Nat):Int),.int .u64 ((y:Nat):Int)]) 51 Tryz.func125 rfl rfl (Nat.le_of_ble_eq_true rfl) ?_
 refine KK (KI (KJ (.int .u64 0) rfl rfl (KX rfl rfl rr) (KJ (.int .u64 0) rfl rfl (KX rfl rfl rr) (KO ?_))))
 have s3:=La (.int .u64 ((x:Nat):Int))
 have s4:=La (.int .u64 ((y:Nat):Int))
 have s5:=La (undef)
 refine KH (KK (KI (KW rfl rfl rfl s3 (KJ (.int .u64 ((x:Nat):Int)) rfl rfl (VL rfl rfl rfl (aAB hx) rr) (KJ (.int .u64 ((x:Nat):Int)) rfl rfl (KX rfl rfl rr) (KO ?_))))))
 have ac:=La (.int .u64 ((x:Nat):Int))
 refine KH (KK (KI (KW rfl rfl rfl s3 (KJ (.int .u64 ((0:Nat):Int)) rfl rfl (RI 32 rfl rfl rfl (by decide) (Yj hx) rr) (KJ (.int .u64 ((0:Nat):Int)) rfl rfl (KX rfl rfl rr) (KO ?_))))))
 have ae:=La (.int .u64 ((0:Nat):Int))
 refine KH (KK (KI (KW rfl rfl rfl s4 (KJ (.int .u64 ((y:Nat):Int)) rfl rfl (VL rfl rfl rfl (aAB hy) rr) (KJ (.int .u64 ((y:Nat):Int)) rfl rfl (KX rfl rfl rr) (KO ?_))))))
 have af:=La (.int .u64 ((y:Nat):Int))
 refine KH (KK (KI (KW rfl rfl rfl s4 (KJ (.int .u64 ((0:Nat):Int)) rfl rfl (RI 32 rfl rfl rfl (by decide) (Yj hy) rr) (KJ (.int .u64 ((0:Nat):Int)) rfl rfl (KX rfl rfl rr) (KO ?_))))))
 have ah:=La (.int .u64 ((0:Nat):Int))
 refine KH (KK (KI (KW rfl rfl rfl ac (KW rfl rfl rfl af (KJ (.int .u64 ((x*y:Nat):Int)) rfl rfl (NH rfl rfl rfl (Zz (by omega)) rr) (KJ (.int .u64 ((x*y:Nat):Int)) rfl rfl (KX rfl rfl rr) (KO ?_)))))))
 have ak:=La (.int .u64 ((x*y:Nat):Int))
 refine KH (KK (KI (KW rfl rfl rfl ae (KW rfl rfl rfl af (KJ (.int .u64 ((0:Nat):Int)) rfl rfl (NH rfl rfl rfl (by rw[show ((0:Nat):Int)*((y:Nat):Int)=((0:Nat):Int) by simp];rfl) rr) (KW rfl rfl rfl ak (KJ (.int .u64 ((0:Nat):Int)) rfl rfl (RI 32 rfl rfl rfl (by decide) (Yj hxy) rr) (KJ (.int .u64 ((0:Nat):Int)) rfl rfl (LR rfl rfl rfl rfl rr) (KJ (.int .u64 ((0:Nat):Int)) rfl rfl (KX rfl rfl rr) (KO ?_))))))))))
 have ai:=La (.int .u64 ((0:Nat):Int))
 refine KH (KK (KI (KW rfl rfl rfl ai (KJ (.int .u64 ((0:Nat):Int)) rfl rfl (VL rfl rfl rfl (aAB (by decide)) rr) (KJ (.int .u64 ((0:Nat):Int)) rfl rfl (KX rfl rfl rr) (KO ?_))))))
 have am:=La (.int .u64 ((0:Nat):Int))
 refine KH (KK (KI (KW rfl rfl rfl ai (KJ (.int .u64 ((0:Nat):Int)) rfl rfl (RI 32 rfl rfl rfl (by decide) (Yj (by decide)) rr) (KJ (.int .u64 ((0:Nat):Int)) rfl rfl (KX rfl rfl rr) (KO ?_))))))
 have an:=La (.int .u64 ((0:Nat):Int))
 refine KH (KK (KI (KW rfl rfl rfl am (KW rfl rfl rfl ac (KW rfl rfl rfl ah (KJ (.int .u64 ((0:Nat):Int)) rfl rfl (NH rfl rfl rfl (by rw[show ((x:Nat):Int)*((0:Nat):Int)=((0:Nat):Int) by simp];rfl) rr) (KJ (.int .u64 ((0:Nat):Int)) rfl rfl (LR rfl rfl rfl rfl rr) (KJ (.int .u64 ((0:Nat):Int)) rfl rfl (KX rfl rfl rr) (KO ?_)))))))))
 have ao:=La (.int .u64 ((0:Nat):Int))
 refine KH (KK (KI (KW rfl rfl rfl ae (KW rfl rfl rfl ah (KJ (.int .u64 ((0:Nat):Int)) rfl rfl (NH rfl rfl rfl rfl rr) (KW rfl rfl rfl an (KJ (.int .u64 ((0:Nat):Int)) rfl rfl (LR rfl rfl rfl rfl rr) (KW rfl rfl rfl ao (KJ (.int .u64 ((0:Nat):Int)) rfl rfl (RI 32 rfl rfl rfl (by decide) (Yj (by decide)) rr) (KJ (.int .u64 ((0:Nat):Int)) rfl rfl (LR rfl rfl rfl rfl rr) (KJ (.int .u64 ((0:Nat):Int)) rfl rfl (KX rfl rfl rr) ?_)))))))))))
 refine KO ?_
 have ap:=La (.int .u64 ((0:Nat):Int))
 refine KH (KK (KI (KW rfl rfl rfl s3 (KW rfl rfl rfl s4 (KJ (.int .u64 ((x*y:Nat):Int)) rfl rfl (NH rfl rfl rfl (Zz (by omega)) rr) (KJ (.int .u64 ((x*y:Nat):Int)) rfl rfl (KX rfl rfl rr) (KO ?_)))))))
 have aq:=La (.int .u64 ((x*y:Nat):Int))
 refine KH (Ld ?_)
 exact L7 s5 rfl (Lz (v:=.int .u64 ((0:Nat):Int)) rfl ap) (Lz (v:=.int .u64 ((x*y:Nat):Int)) rfl aq) ⟨rfl,(KP.refl (fun _=>False) w0)⟩
theorem aCp(x y:Nat)(w0:World)(hx:x<4294967296)(hy:y<4294967296)(hxy:x*y<4294967296) :
  Calls Tryz.prog 92 #[.int .u64 (((x:Nat):Int)),.int .u64 (((y:Nat):Int))] w0 fun e w'=>e = .returned (.tuple #[.int .u64 (((0:Nat):Int)),.int .u64 (((x*y:Nat):Int))])/\KP (fun _=>False) w0 w':=by
 refine Ls (args:=[.int .u64 ((x:Nat):Int),.int .u64 ((y:Nat):Int)]) 30 Tryz.func92 rfl rfl (Nat.le_of_ble_eq_true rfl) ?_
 refine KK (KI (KJ (.int .u64 0) rfl rfl (KX rfl rfl rr) (KJ (.int .u64 0) rfl rfl (KX rfl rfl rr) (KO ?_))))
 have s3:=La (.int .u64 ((x:Nat):Int))
 have s4:=La (.int .u64 ((y:Nat):Int))
 have s5:=La (undef)
 refine KH (KK ?_)
 refine Lc (t:=false) rfl (fun e=>by cases e) (fun _=>?_)
 refine Li (KH (KK (KI (KW rfl rfl rfl s3 (KW rfl rfl rfl s4 (LY rfl rfl rfl rfl rfl (fun _ _=>by kernel_rfl) (Lm rfl (Lm rfl LS)) (azy x y  _ hx hy hxy  ) fun w6 k7=>?_))))))
 refine KJ (.tuple #[.int .u64 ((0:Nat):Int),.int .u64 ((x*y:Nat):Int)]) rfl rfl (KQ rfl rfl rr) (KJ (.int .u64 ((0:Nat):Int)) rfl rfl (LM rfl rfl rfl rr) (KJ (.int .u64 ((x*y:Nat):Int)) rfl rfl (LM rfl rfl rfl rr) (KJ (.int .u64 ((0:Nat):Int)) rfl rfl (KX rfl rfl rr) (KJ (.int .u64 ((x*y:Nat):Int)) rfl rfl (KX rfl rfl rr) (KO ?_)))))
 have af:=La (.int .u64 ((0:Nat):Int))
 have ah:=La (.int .u64 ((x*y:Nat):Int))
 refine KH (KK (KI (KW rfl rfl rfl af (KW rfl rfl rfl ah (KJ (.int .u64 ((0:Nat):Int)) rfl rfl (KX rfl rfl rr) (KJ (.int .u64 ((x*y:Nat):Int)) rfl rfl (KX rfl rfl rr) (KO ?_)))))))
 have ai:=La (.int .u64 ((0:Nat):Int))
 have aj:=La (.int .u64 ((x*y:Nat):Int))
 refine KH (Ld ?_)
 exact L7 s5 rfl (Lz (v:=.int .u64 ((0:Nat):Int)) rfl ai) (Lz (v:=.int .u64 ((x*y:Nat):Int)) rfl aj) ⟨rfl,((KP.refl (fun _=>False) w0).tr k7)⟩
theorem ZW(v:Value)(l:List Nat)(s n:Nat)(T_b:Nat->Prop)(w0:World)(hl:l.length=1)(hs:l.getD 0 0=s)(hn:1<=n)(hn2:n<=64)(h_b:L9 w0 T_b v (l)) :
  Calls Tryz.prog 54 #[v,.int .i64 (((n:Nat):Int))] w0 fun e w'=>∃ (v1:Value) (T1:Nat->Prop),e = .returned (v1)/\KP (fun _=>False) w0 w'/\(L9 w' T1 v1 (List.replicate n s)/\KS w0 Ma T1):=by
 refine Ls (args:=[v,iv ((n:Nat):Int)]) 77 Tryz.func54 rfl rfl (Nat.le_of_ble_eq_true rfl) ?_
 have g_b:=KS.refl w0 T_b
 refine KK (KI (KJ (.slice none 0 0) rfl rfl (KX rfl rfl rr) (KO ?_)))
 have s3:=La (v)
 have s4:=La (iv ((n:Nat):Int))
 have s5:=La (undef)
 refine KH (KK (KK (KI (KW rfl rfl rfl s4 (KJ (.bool (decide (((n:Nat):Int)=0))) rfl rfl (Mj rfl rfl rfl rfl rr) (KO ?_))))))
 have aW:=La (.bool (decide (((n:Nat):Int)=0)))
 refine KH ?_
 refine Lc aW (fun af=>?_) (fun af=>?_)
 ·replace af:=of_decide_eq_true af
  refine KK ?_
  exfalso;omega
 ·replace af:=of_decide_eq_false af
  refine Li (KH (KK (KK (KI (KW rfl rfl rfl s4 (KJ (.bool (decide (((n:Nat):Int)<0))) rfl rfl (L5 rfl rfl rfl rfl rr) (KO ?_)))))))
  have aX:=La (.bool (decide (((n:Nat):Int)<0)))
  refine KH ?_
  refine Lc aX (fun ah=>?_) (fun ah=>?_)
  ·replace ah:=of_decide_eq_true ah
   exfalso;omega
  ·replace ah:=of_decide_eq_false ah
   refine Li (KH (KK (KI (KW rfl rfl rfl s3 (KJ (iv ((l.length:Nat):Int)) rfl rfl (M3 rfl rfl rfl h_b rr) (KJ (.int .u64 ((l.length:Nat):Int)) rfl rfl (Pq rfl rfl Tryz.underlying3 Tryz.underlying101 (TS (by omega)) rr) (KW rfl rfl rfl s4 (KJ (.int .u64 ((n:Nat):Int)) rfl rfl (Pq rfl rfl Tryz.underlying3 Tryz.underlying101 (TS (by omega)) rr) (LY rfl rfl rfl rfl rfl (fun _ _=>by kernel_rfl) (Lm rfl (Lm rfl LS)) (aCp (l.length) n  _ (by omega) (by omega) (by rw[hl];omega)  ) fun bF aE=>?_)))))))))
   have aw:=h_b.all aE KM.none
   have aF:=(KP.refl (fun _=>False) w0).tr aE
   refine KJ (.tuple #[.int .u64 ((0:Nat):Int),.int .u64 (((l.length)*n:Nat):Int)]) rfl rfl (KQ rfl rfl rr) (KJ (.int .u64 ((0:Nat):Int)) rfl rfl (LM rfl rfl rfl rr) (KJ (.int .u64 (((l.length)*n:Nat):Int)) rfl rfl (LM rfl rfl rfl rr) (KJ (.int .u64 ((0:Nat):Int)) rfl rfl (KX rfl rfl rr) (KJ (.int .u64 (((l.length)*n:Nat):Int)) rfl rfl (KX rfl rfl rr) (RK fun az ap=>?_)))))
   obtain⟨aG,aY⟩:=t2 ap 0 s3 77 s5
   have aZ:az 5 = .int .u64 ((0:Nat):Int):=(ap 5).trans rfl
   have a8:az 6 = .int .u64 (((l.length)*n:Nat):Int):=(ap 6).trans rfl
   clear ap
   refine KH (KK (KK ?_))
   have aH:az 6 = .int .u64 ((n:Nat):Int):=a8.trans (congrArg (Value.int .u64) (by rw[hl,Nat.one_mul]))
   refine KI (KW rfl rfl rfl aZ (KJ (.bool false) rfl rfl (Ms rfl rfl rfl rfl rr) (KJ (.bool false) rfl rfl (KQ rfl rfl rr) (KR (.int .u64 ((n:Nat):Int)) 2 false 29 rfl rfl rfl rfl rfl (KQ rfl aH rr) (KR (.bool (decide (9223372036854775807<((n:Nat):Int)))) 2 false 29 rfl rfl rfl rfl rfl (Ms rfl rfl rfl rfl rr) (KJ (.bool (decide (9223372036854775807<((n:Nat):Int)))) rfl rfl (Lb rfl rfl rfl rr) (KO ?_)))))))
   have a9:=La (.bool (decide (9223372036854775807<((n:Nat):Int))))
   refine KH ?_
   refine Lc a9 (fun ai=>?_) (fun ai=>?_)
   ·replace ai:=of_decide_eq_true ai
    exfalso;omega
   ·replace ai:=of_decide_eq_false ai
    refine Li (KH (KK (KI (KW rfl rfl rfl aH (KJ (iv ((n:Nat):Int)) rfl rfl (Pq rfl rfl Tryz.underlying101 Tryz.underlying3 (Mb rfl (by omega)) rr) (KJ (iv ((n:Nat):Int)) rfl rfl (KX rfl rfl rr) (KO ?_)))))))
    have aj:=La (iv ((n:Nat):Int))
    refine KH (KK (KK (KI (KW rfl rfl rfl aG (KJ (iv ((l.length:Nat):Int)) rfl rfl (M3 rfl rfl rfl aw rr) (KJ (.bool (decide (((l.length:Nat):Int)=0))) rfl rfl (Mj rfl rfl rfl rfl rr) (KO ?_)))))))
    have ba:=La (.bool (decide (((l.length:Nat):Int)=0)))
    refine KH ?_
    refine Lc ba (fun ak=>?_) (fun ak=>?_)
    ·replace ak:=of_decide_eq_true ak
     refine KK ?_
     exfalso;omega
    ·replace ak:=of_decide_eq_false ak
     refine Li (KH (KK (KI (KW rfl rfl rfl aj (KJ (iv ((n:Nat):Int)) rfl rfl (KX rfl rfl rr) (KO ?_))))))
     have aI:=La (iv ((n:Nat):Int))
     refine KH (KK (KK (KI (KW rfl rfl rfl aI (KJ (.bool (decide (8192<((n:Nat):Int)))) rfl rfl (Ms rfl rfl rfl rfl rr) (KO ?_))))))
     have bb:=La (.bool (decide (8192<((n:Nat):Int))))
     refine KH ?_
     refine Lc bb (fun am=>?_) (fun am=>?_)
     ·replace am:=of_decide_eq_true am
      refine KK ?_
      exfalso;omega
     ·replace am:=of_decide_eq_false am
      refine Li (KH (KK (KI (KW rfl rfl rfl aj (aCE (n:=n) rfl rfl rfl rfl rfl (by omega) (by omega) Tryz.func93 (by kernel_rfl) (by kernel_rfl) (by kernel_rfl) (by kernel_rfl) fun aa bH bc J70 aA hJ71 aq aJ=>?_)))))
      have aK:=KS.new aF aq
      have aL:=KM.new aq aw.live
      have aM:=aw.all aJ KM.none
      refine KW rfl rfl rfl aj (KW rfl rfl rfl aj (KJ (Mx aa 0 n n) rfl rfl (aBl n n rfl rfl rfl rfl (by omega) (by omega) aA.byt (by omega) (by omega) rr) (KJ (Mx aa 0 n n) rfl rfl (KX rfl rfl rr) (KO ?_))))
      have aN:=La (Mx aa 0 n n)
      refine KH (KK (KI (KW rfl rfl rfl aN (KW rfl rfl rfl aG (RU rfl rfl rfl rfl rfl (S8 aA.byt (by omega)) rfl aA aM (by omega) fun bI bd aO=>?_)))))
      have be:=aM.all aO aL.symm
      refine KJ (iv ((min (n-0) l.length:Nat):Int)) rfl rfl (KX rfl rfl rr) (KO ?_)
      have bf:=La (iv ((min (n-0) l.length:Nat):Int))
      refine KH (KK (Lo (M4 (fun nn FF ww=>∃ (k:Nat),∃ (L:List Nat),∃ (ab:Nat->Prop),(1<=k/\k<=n)/\(L.length=n)/\(L.take k=List.replicate k s)/\nn=n-k/\FF 7=iv ((n:Nat):Int)/\FF 8=iv ((n:Nat):Int)/\FF 9=Mx aa 0 n n/\FF 77=undef/\FF 10=iv ((k:Nat):Int)/\KP (fun _=>False) w0 ww/\L9 ww T_b v l/\L4 ww ab aa L/\KS w0 Ma ab/\KM ab T_b) (n-1) ⟨1,_,bc,by omega,(Wm (by assumption) hn hl hs).1,(Wm (by assumption) hn hl hs).2,rfl,aj,aI,aN,aY,bf.trans (congrArg (Value.int .i64) (by omega)),((aF.tr aJ).trans aO (KS.ok (S:=fun _=>False) aK K6)),be,bd,aK,aL⟩ ?_)))
      rintro bJ bK bL ⟨k,L,ab,i103,hLn,hT,hn102,aP,aQ,ar,aR,au,aS,bg,ac,aB,aT⟩
      refine KK (KK (KI (KW rfl rfl rfl au (KW rfl rfl rfl aP (KJ (.bool (decide (((k:Nat):Int)<((n:Nat):Int)))) rfl rfl (L5 rfl rfl rfl rfl rr) (KO ?_))))))
      have bh:=La (.bool (decide (((k:Nat):Int)<((n:Nat):Int))))
      refine KH ?_
      refine Lc bh (fun an=>?_) (fun an=>?_)
      ·replace an:=of_decide_eq_true an
       refine Li (KH (Lo (KK (KI (KW rfl rfl rfl au (KW rfl rfl rfl aQ (KJ (iv ((k:Nat):Int)) rfl rfl (QO rfl rfl rfl (by omega) rr) (KJ (iv ((k:Nat):Int)) rfl rfl (KX rfl rfl rr) (KO ?_)))))))))
       have bi:=La (iv ((k:Nat):Int))
       refine KH ?_
       refine aAX 9 (PF ab aa L (PD L n k)) [some 67,some 68,some 69,some 70,some 71,some 72,some 73,some 74,some 75] (Yo ab aa (PD L n k) [iv (k:Int),Mx aa 0 n n,iv (k:Int),Mx (Mx aa 0 n n) k (n-0) (n-0),Mx aa 0 n n,iv (k:Int),Mx (Mx aa 0 n n) 0 k (n-0),iv ((min (n-k) k:Nat):Int),iv ((k+min (n-k) k:Nat):Int)]) (by kernel_rfl) (by kernel_rfl) (by kernel_rfl) PF.refl (fun _ _ _ h1 h2=>h1.trans h2) (PF.drew _) Yo.stays ?_ ?_
       ·refine NJ rfl (fun F_ w_ hR hout hD=>?_) ?_
        ·exact KQ rfl ((hout 10 rfl (by decide)).trans au) ⟨⟨rfl,fun e=>by cases e⟩,PF.refl _⟩
        refine NJ rfl (fun F_ w_ hR hout hD=>?_) ?_
        ·exact KQ rfl ((hout 9 rfl (by decide)).trans ar) ⟨⟨rfl,fun e=>by cases e⟩,PF.refl _⟩
        refine NJ rfl (fun F_ w_ hR hout hD=>?_) ?_
        ·exact KQ rfl ((hout 10 rfl (by decide)).trans au) ⟨⟨rfl,fun e=>by cases e⟩,PF.refl _⟩
        refine NJ rfl (fun F_ w_ hR hout hD=>?_) ?_
        ·have aq:F_ 68=Mx aa 0 n n:=(hD.get 0 rfl rfl rfl).1
         have bj:F_ 69=iv (k:Int):=(hD.get 1 rfl rfl rfl).1
         exact aAc rfl aq bj (by omega) ac hR ⟨⟨rfl,fun e=>by cases e⟩,PF.refl _⟩
        refine NJ rfl (fun F_ w_ hR hout hD=>?_) ?_
        ·exact KQ rfl ((hout 9 rfl (by decide)).trans ar) ⟨⟨rfl,fun e=>by cases e⟩,PF.refl _⟩
        refine NJ rfl (fun F_ w_ hR hout hD=>?_) ?_
        ·exact KQ rfl ((hout 11 rfl (by decide)).trans bi) ⟨⟨rfl,fun e=>by cases e⟩,PF.refl _⟩
        refine NJ rfl (fun F_ w_ hR hout hD=>?_) ?_
        ·have bl:F_ 71=Mx aa 0 n n:=(hD.get 0 rfl rfl rfl).1
         have bm:F_ 72=iv (k:Int):=(hD.get 1 rfl rfl rfl).1
         exact aAj rfl bl bm (by omega) ac hR ⟨⟨rfl,fun e=>by cases e⟩,PF.refl _⟩
        refine NJ rfl (fun F_ w_ hR hout hD=>?_) ?_
        ·have bn:F_ 70=Mx (Mx aa 0 n n) k (n-0) (n-0):=(hD.get 0 rfl rfl rfl).1
         have bo:F_ 73=Mx (Mx aa 0 n n) 0 k (n-0):=(hD.get 1 rfl rfl rfl).1
         exact aAt rfl rfl bn bo hLn (by omega) hT ac hR rfl
        refine NJ rfl (fun F_ w_ hR hout hD=>?_) ?_
        ·have bp:F_ 67=iv (k:Int):=(hD.get 0 rfl rfl rfl).1
         have bq:F_ 74=iv ((min (n-k) k:Nat):Int):=(hD.get 1 rfl rfl rfl).1
         exact LR rfl bp bq (L2 (m:=k+min (n-k) k) (by omega) (by omega)) ⟨⟨rfl,fun e=>by cases e⟩,PF.refl _⟩
        exact Y2
       intro bM ao bN R133 aC ae
       have aU:=R133.1
       have bt:=(aC 7 (by decide)).2 rfl
       have bu:=bg.all aU aT.symm
       have bv:ao 7=iv ((n:Nat):Int):=(ae 7).trans aP
       have bz:ao 8=iv ((n:Nat):Int):=(ae 8).trans aQ
       have bA:ao 9=Mx aa 0 n n:=(ae 9).trans ar
       have bB:ao 77=undef:=(ae 77).trans aR
       have bC:ao 75=iv ((k+min (n-k) k:Nat):Int):=(ae 75).trans (aC 8 (by decide)).1
       clear R133 aC ae
       refine aB1 rfl rfl rfl bC (KO ?_)
       have bD:=La (iv ((k+min (n-k) k:Nat):Int))
       refine LD ?_
       exact KH ⟨(n-(k+min (n-k) k)),by omega,k+min (n-k) k,_,ab,by omega,RM hLn (by omega),Wq hLn (by omega) hT,rfl,bv,bz,bA,bB,bD,(aS.trans aU (KS.ok (S:=fun _=>False) aB K6)),bu,bt,aB,aT⟩
      ·replace an:=of_decide_eq_false an
       refine Mg (Lt (Lt (Mh (KH (KK (KI (KW rfl rfl rfl ar (KJ (Mx aa 0 n n) rfl rfl (KX rfl rfl rr) (KO ?_)))))))))
       have bE:=La (Mx aa 0 n n)
       refine KH (Ld ?_)
       exact Lu (v:=Mx aa 0 n n) aR rfl rfl bE ⟨(Mx aa 0 n n),ab,rfl,aS,⟨(L9.of_eq (azt (by omega) hT) ((ac.byt).sub (i:=0) (j:=n) (m:=n) (by omega) (by have hc_:=(ac.byt).cap;omega) (by omega) (by have hc_:=(ac.byt).cap;omega))),aB⟩⟩
end Go.Proofs.YtknjpdcpmpfklaaGreatDoor
set_option maxRecDepth 100000
namespace Go.Proofs.YtknjpdcpmpfklaaGreatDoor
open Go.RowKit
def MC(A s m:Nat):List Nat:=List.replicate m s++List.replicate (A-m) 0
theorem OS{A s m:Nat}(h:m<=A):(MC A s m).length=A:=by unfold MC;simp;omega
theorem SH{A s pw:Nat}{l:List Nat}(h:l=List.replicate A 0):MC A s (0*pw)=l:=by rw[h];unfold MC;simp
theorem Oy{A s:Nat}{l:List Nat}(h:l=List.replicate A s):l=MC A s A:=by rw[h];unfold MC;simp
theorem TP{A s a pw y:Nat}(hp:pw<=a) :
  MC A s ((y+1)*pw)=(MC A s (y*pw)).take ((((y:Nat):Int))*(((pw:Nat):Int))).toNat++((List.replicate a s).take ((((((y:Nat):Int))*(((pw:Nat):Int)))+(((pw:Nat):Int))).toNat-((((y:Nat):Int))*(((pw:Nat):Int))).toNat)++(MC A s (y*pw)).drop (((((y:Nat):Int))*(((pw:Nat):Int))).toNat+min ((((((y:Nat):Int))*(((pw:Nat):Int)))+(((pw:Nat):Int))).toNat-((((y:Nat):Int))*(((pw:Nat):Int))).toNat) (List.replicate a s).length)):=by
 have e1:((((y:Nat):Int))*(((pw:Nat):Int))).toNat=y*pw:=by rw[← Int.natCast_mul,Int.toNat_natCast]
 have e2:(((((y:Nat):Int))*(((pw:Nat):Int)))+(((pw:Nat):Int))).toNat=y*pw+pw:=by rw[← Int.natCast_mul,← Int.natCast_add,Int.toNat_natCast]
 rw[e1,e2,show y*pw+pw-y*pw=pw by omega,List.length_replicate,show min pw a=pw by omega,List.take_replicate,show min pw a=pw by omega,Nat.succ_mul]
 unfold MC
 rw[List.take_append_of_le_length (by simp),List.take_of_length_le (by simp),List.drop_append]
 simp only[List.length_replicate,List.drop_replicate]
 rw[show y*pw-(y*pw+pw)=0 by omega,show y*pw+pw-y*pw=pw by omega,show A-y*pw-pw=A-(y*pw+pw) by omega,List.replicate_zero,List.nil_append,← List.append_assoc,List.replicate_append_replicate]
theorem MG{w h:Int}(s:Nat)(hsw:Mm w=true)(hsh:Mm h=true){a b:Nat}(ha:(a:Int)=w)(hb:(b:Int)=h):(LJ w h s).p0=List.replicate (b*a) s/\(LJ w h s).p1=List.replicate (b/2*(a/2)) s/\(LJ w h s).p2=List.replicate (b/2*(a/2)) s:=by
 have h1:=(Mv _).1 hsw
 have h2:=(Mv _).1 hsh
 subst ha;subst hb
 rw[Pu s hsw hsh]
 have e0:((a:Int)*(b:Int)).toNat=b*a:=by rw[← Int.natCast_mul,Int.toNat_natCast,Nat.mul_comm]
 have e1:((a:Int)*(b:Int)/4).toNat=b/2*(a/2):=by
  rw[← WG h1.2.2 h2.2.2 (by omega) (by omega),O7 (by omega),O7 (by omega),show (a:Int)/2=((a/2:Nat):Int) by omega,show (b:Int)/2=((b/2:Nat):Int) by omega,← Int.natCast_mul,Int.toNat_natCast,Nat.mul_comm]
 exact⟨congrArg (List.replicate · s) e0,congrArg (List.replicate · s) e1,congrArg (List.replicate · s) e1⟩
theorem Zc{w h:Int}(hsw:Mm w=true)(hsh:Mm h=true){g:FD}(hW:g.W=w)(hH:g.H=h)(h0:g.p0.length=(LJ w h 0).p0.length)(h1:g.p1.length=(LJ w h 0).p1.length)(h2:g.p2.length=(LJ w h 0).p2.length)(k:Nat)(hk:k<=2){a b:Nat}(ha:(a:Int)=w)(hb:(b:Int)=h):Lf g ((k:Nat):Int)=(((Qq a (a/2) k:Nat):Int),((Qq b (b/2) k:Nat):Int)):=by
 have hn:=Xd 0 hsw hsh
 have hg:QB g:=aBT hn (by rw[hW,(Mn 0 hsw hsh).1]) (by rw[hH,(Mn 0 hsw hsh).2]) h0 h1 h2
 have s1:=(Mv _).1 hsw
 have s2:=(Mv _).1 hsh
 cases k with
 | zero=>show Lf g 0=_;rw[Ui hg rfl,hW,hH,← ha,← hb];rfl
 | succ k =>
  rw[Ud hg (by omega) (by omega) (by omega),hW,hH,O7 (by omega),O7 (by omega)]
  simp only[Qq]
  congr 1 <;> omega
theorem Vq{w h:Int}(hsw:Mm w=true)(hsh:Mm h=true){g:FD}(hW:g.W=w)(hH:g.H=h)(h0:g.p0.length=(LJ w h 0).p0.length)(h1:g.p1.length=(LJ w h 0).p1.length)(h2:g.p2.length=(LJ w h 0).p2.length)(k:Nat)(hk:k<=2){a b:Nat}(ha:(a:Int)=w)(hb:(b:Int)=h):(Lf g ((k:Nat):Int)).1=((Qq a (a/2) k:Nat):Int):=by rw[Zc hsw hsh hW hH h0 h1 h2 k hk ha hb]
theorem Vh{w h:Int}(hsw:Mm w=true)(hsh:Mm h=true){g:FD}(hW:g.W=w)(hH:g.H=h)(h0:g.p0.length=(LJ w h 0).p0.length)(h1:g.p1.length=(LJ w h 0).p1.length)(h2:g.p2.length=(LJ w h 0).p2.length)(k:Nat)(hk:k<=2){a b:Nat}(ha:(a:Int)=w)(hb:(b:Int)=h):(Lf g ((k:Nat):Int)).2=((Qq b (b/2) k:Nat):Int):=by rw[Zc hsw hsh hW hH h0 h1 h2 k hk ha hb]
theorem Vl{y pw ph:Nat}(h:y<ph)(hp:pw<=64)(hh:ph<=64):y*pw+pw<=ph*pw/\0<=((y:Nat):Int)*((pw:Nat):Int)/\((y:Nat):Int)*((pw:Nat):Int)<=4096/\((y:Nat):Int)*((pw:Nat):Int)+((pw:Nat):Int)<=((ph*pw:Nat):Int):=by
 have h1:(y+1)*pw<=ph*pw:=Nat.mul_le_mul_right _ h
 rw[Nat.succ_mul] at h1
 have h2:y*pw<=64*64:=Nat.mul_le_mul (by omega) hp
 rw[← Int.natCast_mul]
 omega
theorem azd(w h:Int)(s:Nat)(w0:World)(hs:s<256) :
  Calls Tryz.prog 25 #[.int .i64 (w),.int .i64 (h),.int .u8 (((s:Nat):Int))] w0 fun e w'=>∃ (v1:Value) (T1:Nat->Prop) (v2:Value) (T2:Nat->Prop) (v3:Value) (T3:Nat->Prop),e = .returned (.tuple #[.agg #[.int .i64 ((LJ w h s).W),.int .i64 ((LJ w h s).H),v1,v2,v3],.int .i64 (R2 w h)])/\KP (fun _=>False) w0 w'/\(L4 w' T1 v1 ((LJ w h s).p0)/\KS w0 Ma T1)/\(L4 w' T2 v2 ((LJ w h s).p1)/\KS w0 Ma T2)/\(L4 w' T3 v3 ((LJ w h s).p2)/\KS w0 Ma T3)/\KM T1 T2/\KM T1 T3/\KM T2 T3:=by
 refine Ls (args:=[iv w,iv h,.int .u8 ((s:Nat):Int)]) 55 Tryz.func25 rfl rfl (Nat.le_of_ble_eq_true rfl) ?_
 have K0:=KP.refl (fun _=>False) w0
 refine KK (KI (LI (n:=5) (vs:=[iv 0,iv 0,.slice none 0 0,.slice none 0 0,.slice none 0 0]) rfl rfl rfl (by kernel_rfl) fun p1 w2 B4 g5 k3=>?_))
 have aZ:=KS.new K0 g5
 have K7:=K0.tr k3
 refine KJ (iv 0) rfl rfl (KX rfl rfl rr) (KO ?_)
 have aw:=La (iv w)
 have a9:=La (iv h)
 have dP:=La (.int .u8 ((s:Nat):Int))
 have ba:=La (undef)
 have az:=La (pt p1 0)
 refine KH (KK (KK ?_))
 rcases Bool.eq_false_or_eq_true (Mm w) with aE|aE
 ·skip
  rcases Bool.eq_false_or_eq_true (Mm h) with bb|bb
  ·skip
   refine KI (KW rfl rfl rfl aw (Ly (R:=fun v_ w_=>v_ = .bool true/\KP (fun _=>False) w2 w_) rfl rfl (LE rfl rfl rfl (fun _ _=>by kernel_rfl) (K4 _) (Lm rfl LS) (Pn w  _   ) (fun e_ w_ h_=>⟨_,h_.1,(congrArg Value.bool aE),h_.2⟩)) ?_))
   rintro _ dQ ⟨rfl,bN⟩
   have dR:=B4.all bN id
   refine KJ (.bool false) rfl rfl (LW rfl rfl rfl rr) (KJ (.bool false) rfl rfl (KQ rfl rfl rr) (KR (iv h) 3 false 17 rfl rfl rfl rfl rfl (KQ rfl a9 rr) (LA (R:=fun v_ w_=>v_ = .bool true/\KP (fun _=>False) dQ w_) 3 false 17 rfl rfl rfl rfl rfl (LE rfl rfl rfl (fun _ _=>by kernel_rfl) (K4 _) (Lm rfl LS) (Pn h  _   ) (fun e_ w_ h_=>⟨_,h_.1,(congrArg Value.bool bb),h_.2⟩)) ?_)))
   rintro _ aF ⟨rfl,bO⟩
   have aG:=dR.all bO id
   have aH:=(K7.tr bN).tr bO
   refine KR (.bool false) 3 false 17 rfl rfl rfl rfl rfl (LW rfl rfl rfl rr) (KJ (.bool false) rfl rfl (Lb rfl rfl rfl rr) (KO ?_))
   have dS:=La (.bool false)
   refine KH ?_
   refine Lc (t:=false) dS (fun e=>by cases e) (fun _=>?_)
   refine Li (KH (KK ?_))
   have hsw:Mm w=true:=by assumption
   have hsh:Mm h=true:=by assumption
   have hws:=(Mv _).1 hsw
   have hhs:=(Mv _).1 hsh
   obtain⟨a,ha⟩:∃ n:Nat,(n:Int)=w:=⟨w.toNat,by omega⟩
   obtain⟨b,hb⟩:∃ n:Nat,(n:Int)=h:=⟨h.toNat,by omega⟩
   refine KI (KW rfl rfl rfl aw (KW rfl rfl rfl a9 (Ly (R:=fun v_ w_=>∃ (aa:Value) (ap:Nat->Prop) (ab:Value) (an:Nat->Prop) (ac:Value) (aj:Nat->Prop),.agg #[iv ((LJ w h 0).W),iv ((LJ w h 0).H),aa,ab,ac]=v_/\KP (fun _=>False) aF w_/\(L4 w_ ap aa ((LJ w h 0).p0)/\KS aF Ma ap)/\(L4 w_ an ab ((LJ w h 0).p1)/\KS aF Ma an)/\(L4 w_ aj ac ((LJ w h 0).p2)/\KS aF Ma aj)/\KM ap an/\KM ap aj/\KM an aj) rfl rfl (LE rfl rfl rfl (fun _ _=>by kernel_rfl) (K4 _) (Lm rfl (Lm rfl LS)) (XL w h  _ hsw hsh  ) (fun e_ w_ h_=>by obtain⟨v33_,T38_,v34_,T39_,v35_,T40_,he_,hr_⟩:=h_;exact⟨_,he_,v33_,T38_,v34_,T39_,v35_,T40_,rfl,hr_⟩)) ?_)))
   rintro _ ii ⟨aa,ap,ab,an,ac,aj,rfl,bP,⟨bQ,bR⟩,⟨bS,bT⟩,⟨bU,bV⟩,dT,dU,dV⟩
   have bW:=aG.all bP id
   have bX:=aH.tr bP
   have dW:=KM.new bR (LO aG.lt)
   have dX:=KM.new bT (LO aG.lt)
   have dY:=KM.new bV (LO aG.lt)
   refine LI (n:=5) (vs:=[iv 0,iv 0,.slice none 0 0,.slice none 0 0,.slice none 0 0]) rfl rfl rfl (by kernel_rfl) fun ae ij dZ bY bZ=>?_
   obtain⟨d8,b7,b8,b9⟩:=VK bY bW bQ bS bU
   obtain⟨d9,cd,ce,cf⟩:=OW bZ bW bQ bS bU
   refine Ll (us:=[iv ((LJ w h 0).W),iv ((LJ w h 0).H),aa,ab,ac]) K3 rfl rfl rfl rfl rfl dZ rfl (K2 rfl (K2 rfl (K2 cd.one (K2 ce.one (K2 cf.one MI))))) fun ik eb aA=>?_
   have ee:=d9.all aA (d8.symm p1 rfl)
   have cg:=cd.all aA b7.symm
   have ci:=ce.all aA b8.symm
   have cj:=cf.all aA b9.symm
   refine RK fun cm bc=>?_
   obtain⟨eh,ei,ek,en⟩:=t4 bc 0 aw 2 dP 55 ba 6 az
   have cn:cm 8=pt ae 0:=(bc 8).trans rfl
   clear bc
   refine KH (KK ?_)
   have eo:cm 0=iv ((a:Nat):Int):=eh.trans (congrArg (Value.int .i64) (ha.symm))
   refine KI (KW rfl rfl rfl ei (UY (n:=s) rfl rfl rfl rfl (by omega) (by omega) fun aI co aq cq ep cr=>?_))
   obtain⟨er,et,eu⟩:=Tn ep cg ci cj
   obtain⟨ew,ct,cu,cv,ex⟩:=OJ cr ee cg ci cj eb
   refine KW rfl rfl rfl eo (Ly (R:=fun v_ w_=>∃ (am:Value) (ao:Nat->Prop),am=v_/\KP (fun _=>False) co w_/\(L9 w_ ao am (List.replicate a s)/\KS co Ma ao)) rfl rfl (LE rfl rfl rfl (fun _ _=>by kernel_rfl) (K4 _) (Lm rfl (Lm rfl LS)) (ZW aI ([s]) s a aq _ rfl rfl (by omega) (by omega) cq.byt ) (fun e_ w_ h_=>by obtain⟨v107_,T110_,he_,hr_⟩:=h_;exact⟨_,he_,v107_,T110_,rfl,hr_⟩)) ?_)
   rintro _ ip ⟨am,ao,rfl,cw,⟨ey,ez⟩⟩
   obtain⟨eA,cy,cz,cA,cB,eB⟩:=Qz cw ew ct cu cv ex cq
   obtain⟨eC,eD,eE⟩:=Tn ez ct cu cv
   refine KJ am rfl rfl (KX rfl rfl rr) (KO ?_)
   have eF:=La (am)
   refine KH (KK (KK (KI (KJ (iv 0) rfl rfl (KQ rfl rfl rr) (KO ?_)))))
   have bd:=La (iv 0)
   refine KH (Lo (OA 4 (Md (KK (KI (KJ (.bool true) rfl rfl (L5 rfl bd rfl rfl rr) (KO ?_)))))))
   have eG:=La (.bool true)
   refine KH (KK ?_)
   refine Lc (t:=true) eG (fun _=>?_) (fun e=>by cases e)
   refine Li (KH (KK (Lo (KK (KI (KW rfl rfl rfl bd (KJ (iv 0) rfl rfl (KX rfl rfl rr) (KO ?_))))))))
   have cC:=La (iv 0)
   refine KH (KK (KI (KJ (.agg #[iv ((LJ w h 0).W),iv ((LJ w h 0).H),aa,ab,ac]) rfl rfl (KU K3 rfl cn cB rr) (KW rfl rfl rfl cC (LY rfl rfl rfl rfl rfl (fun _ _=>by kernel_rfl) (Lm rfl (Lm rfl LS)) (Ts 0 (LJ w h 0) aa ab ac ap an aj _  cy.byt cz.byt cA.byt ) fun iq cD=>?_)))))
   obtain⟨eH,eI,eJ,eK,eL,eM,eN⟩:=SO cD eA cy cz cA cB eB ey
   refine KJ (.tuple #[iv ((Lf (LJ w h 0) 0).1),iv ((Lf (LJ w h 0) 0).2)]) rfl rfl (KQ rfl rfl rr) (KJ (iv ((Lf (LJ w h 0) 0).1)) rfl rfl (LM rfl rfl rfl rr) (KJ (iv ((Lf (LJ w h 0) 0).2)) rfl rfl (LM rfl rfl rfl rr) (KJ (iv ((Lf (LJ w h 0) 0).1)) rfl rfl (KX rfl rfl rr) (KJ (iv ((Lf (LJ w h 0) 0).2)) rfl rfl (KX rfl rfl rr) (RK fun aJ aK=>?_)))))
   obtain⟨eO,eP,eQ,eR,eS,eT⟩:=t6 aK 55 ek 6 en 8 cn 9 eF 30 bd 10 cC
   have eU:aJ 11=iv ((Lf (LJ w h 0) 0).1):=(aK 11).trans rfl
   have eV:aJ 12=iv ((Lf (LJ w h 0) 0).2):=(aK 12).trans rfl
   clear aK
   refine KH (KK ?_)
   obtain⟨pw0,hpw0⟩:∃ q,q=Qq a (a/2) 0:=⟨_,rfl⟩
   obtain⟨ph0,hph0⟩:∃ q,q=Qq b (b/2) 0:=⟨_,rfl⟩
   have cF:(LJ w h 0).p0=List.replicate (ph0*pw0) 0:=by rw[hpw0,hph0];first|exact(MG 0 hsw hsh ha hb).1|exact(MG 0 hsw hsh ha hb).2.1|exact(MG 0 hsw hsh ha hb).2.2
   have hE0:(LJ w h s).p0=List.replicate (ph0*pw0) s:=by rw[hpw0,hph0];first|exact(MG s hsw hsh ha hb).1|exact(MG s hsw hsh ha hb).2.1|exact(MG s hsw hsh ha hb).2.2
   have hB0:pw0<=a/\pw0<=64/\ph0<=64:=by have e1:=Re a (a/2) 0;have e2:=Re b (b/2) 0;omega
   have eW:aJ 11=iv ((pw0:Nat):Int):=eU.trans (congrArg (Value.int .i64) (by rw[hpw0];(refine Vq hsw hsh ?_ ?_ ?_ ?_ ?_ 0 (by decide) ha hb <;> first|exact(Mn 0 hsw hsh).1|exact(Mn 0 hsw hsh).2|exact hl0|exact hl1|rfl)))
   have eX:aJ 12=iv ((ph0:Nat):Int):=eV.trans (congrArg (Value.int .i64) (by rw[hph0];(refine Vh hsw hsh ?_ ?_ ?_ ?_ ?_ 0 (by decide) ha hb <;> first|exact(Mn 0 hsw hsh).1|exact(Mn 0 hsw hsh).2|exact hl0|exact hl1|rfl)))
   refine KI (KW rfl rfl rfl eX (KJ (iv 0) rfl rfl (KQ rfl rfl rr) (KO ?_)))
   have eY:=La (iv ((ph0:Nat):Int))
   have eZ:=La (iv 0)
   refine KH (Lo (M4 (fun nn FF ww=>∃ (y:Nat),∃ (af:Nat->Prop),(y<=ph0)/\nn=ph0-y/\FF 6=pt p1 0/\FF 8=pt ae 0/\FF 9=am/\FF 10=iv 0/\FF 11=iv ((pw0:Nat):Int)/\FF 30=iv 0/\FF 39=iv ((ph0:Nat):Int)/\FF 55=undef/\FF 40=iv ((y:Nat):Int)/\KP (fun _=>False) w0 ww/\My ww p1 29 [iv 0,iv 0,.slice none 0 0,.slice none 0 0,.slice none 0 0]/\L4 ww af aa (MC (ph0*pw0) s (y*pw0))/\L4 ww an ab ((LJ w h 0).p1)/\L4 ww aj ac ((LJ w h 0).p2)/\My ww ae 29 [iv ((LJ w h 0).W),iv ((LJ w h 0).H),aa,ab,ac]/\L4 ww aq aI ([s])/\L9 ww ao am (List.replicate a s)/\KS w0 Ma af/\KM af (Lh p1)/\KM af an/\KM af aj/\KM af (Lh ae)/\KM af aq/\KM af ao) (ph0-0) ⟨0,ap,by omega,rfl,eP,eQ,eR,eT,eW,eS,eY,eO,eZ,(((((bX.tr bZ).trans aA (KS.ok (S:=fun _=>False) (KS.new bX bY) K6)).tr cr).tr cw).tr cD),eH,L4.of_eq (SH cF) eI,eJ,eK,eL,eM,eN,(KS.new aH bR),dW,dT,dU,b7.symm,er.symm,eC.symm⟩ ?_))
   rintro ir iu iw ⟨y,af,i194,hn193,cI,aL,be,cJ,cK,cL,cM,cN,bf,cO,cP,aM,bg,bh,aN,cQ,cR,bi,bj,bl,bm,cS,cT,cU⟩
   refine KK (KI (KJ (.bool (decide (((y:Nat):Int)<((ph0:Nat):Int)))) rfl rfl (L5 rfl bf cM rfl rr) (KO ?_)))
   have e6:=La (.bool (decide (((y:Nat):Int)<((ph0:Nat):Int))))
   refine KH (KK ?_)
   refine Lc e6 (fun aB=>?_) (fun aB=>?_)
   ·replace aB:=of_decide_eq_true aB
    refine Li (KH (KK (Lo (KK (KI (KW rfl rfl rfl bf (KJ (iv ((y:Nat):Int)) rfl rfl (KX rfl rfl rr) (KO ?_))))))))
    have e7:=La (iv ((y:Nat):Int))
    refine KH ?_
    have hz:=Vl (y:=y) (pw:=pw0) (ph:=ph0) (by omega) hB0.2.1 hB0.2.2
    have hfl:(MC (ph0*pw0) s (y*pw0)).length=ph0*pw0:=OS (by omega)
    refine KI (KW rfl rfl rfl cJ (KJ (pt ae 2) rfl rfl (KT (n:=3) rfl aL Tryz.underlying29 rfl (by kernel_rfl) (by decide) rfl rr) (KJ (pt ae 2) rfl rfl (LU 0 (s:=1) rfl rfl rfl (by omega) Tryz.underlying27 (by omega) (by kernel_rfl) (by omega) rr) (KJ aa rfl rfl (KV rfl rfl Tryz.underlying26 aN rfl rfl rr) (KW rfl rfl rfl cK (KW rfl rfl rfl e7 (LY rfl rfl rfl rfl rfl (fun _ _=>by kernel_rfl) (Lm rfl (Lm rfl (Lm rfl LS))) (SE aa (MC (ph0*pw0) s (y*pw0)) ((pw0:Nat):Int) ((y:Nat):Int) af _ (by omega) (by omega) (by rw[hfl];exact hz.2.2.2) (by omega) aM.byt ) fun iy cV=>?_)))))))
    obtain⟨e8,cW,e9,fa,fb,fc,cX⟩:=SO cV cP aM bg bh aN cQ cR
    refine KW rfl rfl rfl be (RU rfl rfl rfl rfl rfl (S8 cW.byt (by omega)) rfl cW cX (by rw[hfl];omega) fun iz fd ar=>?_)
    have fe:=e8.all ar (bj.symm p1 rfl)
    have ff:=e9.all ar bl.symm
    have fg:=fa.all ar bm.symm
    have fh:=fb.all ar (cS.symm ae rfl)
    have fi:=fc.all ar cT.symm
    have fj:=cX.all ar cU.symm
    refine KO ?_
    refine LD (KH (KI (KJ (iv ((y+1:Nat):Int)) rfl rfl (LR rfl bf rfl (L2 (by omega) (by omega)) rr) (KJ (iv ((y+1:Nat):Int)) rfl rfl (KQ rfl rfl rr) (KO ?_)))))
    have fk:=La (iv ((y+1:Nat):Int))
    exact KH ⟨(ph0-(y+1)),by omega,y+1,af,by omega,rfl,cI,aL,be,cJ,cK,cL,cM,cN,fk,((cO.tr cV).trans ar (KS.ok (S:=fun _=>False) bi K6)),fe,L4.of_eq (TP hB0.1) fd,ff,fg,fh,fi,fj,bi,bj,bl,bm,cS,cT,cU⟩
   ·replace aB:=of_decide_eq_false aB
    refine Mg (Lt (Lt ?_))
    have fm:ph0=y:=by omega
    subst fm
    have hl0:(MC (ph0*pw0) s (ph0*pw0)).length=(LJ w h 0).p0.length:=by rw[OS (Nat.le_refl _),cF,List.length_replicate]
    refine Mh (LD (KH (KI (KJ (iv ((1:Nat):Int)) rfl rfl (LR rfl cL rfl (L2 (by omega) (by omega)) rr) (KJ (iv ((1:Nat):Int)) rfl rfl (KQ rfl rfl rr) (KO ?_))))))
    have bn:=La (iv ((1:Nat):Int))
    refine KH (Md (KK (KI (KJ (.bool true) rfl rfl (L5 rfl bn rfl rfl rr) (KO ?_)))))
    have fo:=La (.bool true)
    refine KH (KK ?_)
    refine Lc (t:=true) fo (fun _=>?_) (fun e=>by cases e)
    refine Li (KH (KK (Lo (KK (KI (KW rfl rfl rfl bn (KJ (iv ((1:Nat):Int)) rfl rfl (KX rfl rfl rr) (KO ?_))))))))
    have cY:=La (iv ((1:Nat):Int))
    refine KH (KK (KI (KJ (.agg #[iv ((LJ w h 0).W),iv ((LJ w h 0).H),aa,ab,ac]) rfl rfl (KU K3 rfl aL aN rr) (KW rfl rfl rfl cY (LY rfl rfl rfl rfl rfl (fun _ _=>by kernel_rfl) (Lm rfl (Lm rfl LS)) (Ts ((1:Nat):Int) (FD.mk ((LJ w h 0).W) ((LJ w h 0).H) (MC (ph0*pw0) s (ph0*pw0)) ((LJ w h 0).p1) ((LJ w h 0).p2)) aa ab ac af an aj _  aM.byt bg.byt bh.byt ) fun iA cZ=>?_)))))
    obtain⟨fp,fq,ft,fu,fw,fx,fy⟩:=SO cZ cP aM bg bh aN cQ cR
    refine KJ (.tuple #[iv ((Lf (FD.mk ((LJ w h 0).W) ((LJ w h 0).H) (MC (ph0*pw0) s (ph0*pw0)) ((LJ w h 0).p1) ((LJ w h 0).p2)) ((1:Nat):Int)).1),iv ((Lf (FD.mk ((LJ w h 0).W) ((LJ w h 0).H) (MC (ph0*pw0) s (ph0*pw0)) ((LJ w h 0).p1) ((LJ w h 0).p2)) ((1:Nat):Int)).2)]) rfl rfl (KQ rfl rfl rr) (KJ (iv ((Lf (FD.mk ((LJ w h 0).W) ((LJ w h 0).H) (MC (ph0*pw0) s (ph0*pw0)) ((LJ w h 0).p1) ((LJ w h 0).p2)) ((1:Nat):Int)).1)) rfl rfl (LM rfl rfl rfl rr) (KJ (iv ((Lf (FD.mk ((LJ w h 0).W) ((LJ w h 0).H) (MC (ph0*pw0) s (ph0*pw0)) ((LJ w h 0).p1) ((LJ w h 0).p2)) ((1:Nat):Int)).2)) rfl rfl (LM rfl rfl rfl rr) (KJ (iv ((Lf (FD.mk ((LJ w h 0).W) ((LJ w h 0).H) (MC (ph0*pw0) s (ph0*pw0)) ((LJ w h 0).p1) ((LJ w h 0).p2)) ((1:Nat):Int)).1)) rfl rfl (KX rfl rfl rr) (KJ (iv ((Lf (FD.mk ((LJ w h 0).W) ((LJ w h 0).H) (MC (ph0*pw0) s (ph0*pw0)) ((LJ w h 0).p1) ((LJ w h 0).p2)) ((1:Nat):Int)).2)) rfl rfl (KX rfl rfl rr) (RK fun aO aP=>?_)))))
    obtain⟨fA,fB,fC,fD,fE,fF⟩:=t6 aP 6 cI 8 aL 9 be 55 cN 30 bn 10 cY
    have fG:aO 11=iv ((Lf (FD.mk ((LJ w h 0).W) ((LJ w h 0).H) (MC (ph0*pw0) s (ph0*pw0)) ((LJ w h 0).p1) ((LJ w h 0).p2)) ((1:Nat):Int)).1):=(aP 11).trans rfl
    have fH:aO 12=iv ((Lf (FD.mk ((LJ w h 0).W) ((LJ w h 0).H) (MC (ph0*pw0) s (ph0*pw0)) ((LJ w h 0).p1) ((LJ w h 0).p2)) ((1:Nat):Int)).2):=(aP 12).trans rfl
    clear aP
    refine KH (KK ?_)
    obtain⟨pw1,hpw1⟩:∃ q,q=Qq a (a/2) 1:=⟨_,rfl⟩
    obtain⟨ph1,hph1⟩:∃ q,q=Qq b (b/2) 1:=⟨_,rfl⟩
    have c5:(LJ w h 0).p1=List.replicate (ph1*pw1) 0:=by rw[hpw1,hph1];first|exact(MG 0 hsw hsh ha hb).1|exact(MG 0 hsw hsh ha hb).2.1|exact(MG 0 hsw hsh ha hb).2.2
    have hE1:(LJ w h s).p1=List.replicate (ph1*pw1) s:=by rw[hpw1,hph1];first|exact(MG s hsw hsh ha hb).1|exact(MG s hsw hsh ha hb).2.1|exact(MG s hsw hsh ha hb).2.2
    have hB1:pw1<=a/\pw1<=64/\ph1<=64:=by have e1:=Re a (a/2) 1;have e2:=Re b (b/2) 1;omega
    have fI:aO 11=iv ((pw1:Nat):Int):=fG.trans (congrArg (Value.int .i64) (by rw[hpw1];(refine Vq hsw hsh ?_ ?_ ?_ ?_ ?_ 1 (by decide) ha hb <;> first|exact(Mn 0 hsw hsh).1|exact(Mn 0 hsw hsh).2|exact hl0|exact hl1|rfl)))
    have fJ:aO 12=iv ((ph1:Nat):Int):=fH.trans (congrArg (Value.int .i64) (by rw[hph1];(refine Vh hsw hsh ?_ ?_ ?_ ?_ ?_ 1 (by decide) ha hb <;> first|exact(Mn 0 hsw hsh).1|exact(Mn 0 hsw hsh).2|exact hl0|exact hl1|rfl)))
    refine KI (KW rfl rfl rfl fJ (KJ (iv 0) rfl rfl (KQ rfl rfl rr) (KO ?_)))
    have fK:=La (iv ((ph1:Nat):Int))
    have fL:=La (iv 0)
    refine KH (Lo (M4 (fun nn FF ww=>∃ (y:Nat),∃ (ah:Nat->Prop),(y<=ph1)/\nn=ph1-y/\FF 6=pt p1 0/\FF 8=pt ae 0/\FF 9=am/\FF 10=iv ((1:Nat):Int)/\FF 11=iv ((pw1:Nat):Int)/\FF 30=iv ((1:Nat):Int)/\FF 39=iv ((ph1:Nat):Int)/\FF 55=undef/\FF 40=iv ((y:Nat):Int)/\KP (fun _=>False) w0 ww/\My ww p1 29 [iv 0,iv 0,.slice none 0 0,.slice none 0 0,.slice none 0 0]/\L4 ww af aa (MC (ph0*pw0) s (ph0*pw0))/\L4 ww ah ab (MC (ph1*pw1) s (y*pw1))/\L4 ww aj ac ((LJ w h 0).p2)/\My ww ae 29 [iv ((LJ w h 0).W),iv ((LJ w h 0).H),aa,ab,ac]/\L4 ww aq aI ([s])/\L9 ww ao am (List.replicate a s)/\KS w0 Ma ah/\KM ah (Lh p1)/\KM ah af/\KM ah aj/\KM ah (Lh ae)/\KM ah aq/\KM ah ao) (ph1-0) ⟨0,an,by omega,rfl,fA,fB,fC,fF,fI,fE,fK,fD,fL,(cO.tr cZ),fp,fq,L4.of_eq (SH c5) ft,fu,fw,fx,fy,(KS.new aH bT),dX,bl.symm,dV,b8.symm,et.symm,eD.symm⟩ ?_))
    rintro iB iC iD ⟨y,ah,i350,hn349,c6,aQ,bo,c7,c9,da,db,dc,bp,dd,de,bq,aR,bt,aS,df,dg,bu,bv,bz,bA,dh,di,dj⟩
    refine KK (KI (KJ (.bool (decide (((y:Nat):Int)<((ph1:Nat):Int)))) rfl rfl (L5 rfl bp db rfl rr) (KO ?_)))
    have fM:=La (.bool (decide (((y:Nat):Int)<((ph1:Nat):Int))))
    refine KH (KK ?_)
    refine Lc fM (fun aC=>?_) (fun aC=>?_)
    ·replace aC:=of_decide_eq_true aC
     refine Li (KH (KK (Lo (KK (KI (KW rfl rfl rfl bp (KJ (iv ((y:Nat):Int)) rfl rfl (KX rfl rfl rr) (KO ?_))))))))
     have fN:=La (iv ((y:Nat):Int))
     refine KH ?_
     have hz:=Vl (y:=y) (pw:=pw1) (ph:=ph1) (by omega) hB1.2.1 hB1.2.2
     have hfl:(MC (ph1*pw1) s (y*pw1)).length=ph1*pw1:=OS (by omega)
     refine KI (KW rfl rfl rfl c7 (KJ (pt ae 2) rfl rfl (KT (n:=3) rfl aQ Tryz.underlying29 rfl (by kernel_rfl) (by decide) rfl rr) (KJ (pt ae 3) rfl rfl (LU 1 (s:=1) rfl rfl rfl (by omega) Tryz.underlying27 (by omega) (by kernel_rfl) (by omega) rr) (KJ ab rfl rfl (KV rfl rfl Tryz.underlying26 aS rfl rfl rr) (KW rfl rfl rfl c9 (KW rfl rfl rfl fN (LY rfl rfl rfl rfl rfl (fun _ _=>by kernel_rfl) (Lm rfl (Lm rfl (Lm rfl LS))) (SE ab (MC (ph1*pw1) s (y*pw1)) ((pw1:Nat):Int) ((y:Nat):Int) ah _ (by omega) (by omega) (by rw[hfl];exact hz.2.2.2) (by omega) aR.byt ) fun iE dk=>?_)))))))
     obtain⟨fO,fP,dl,fQ,fR,fS,dm⟩:=SO dk de bq aR bt aS df dg
     refine KW rfl rfl rfl bo (RU rfl rfl rfl rfl rfl (S8 dl.byt (by omega)) rfl dl dm (by rw[hfl];omega) fun iF fT au=>?_)
     have fU:=fO.all au (bv.symm p1 rfl)
     have fV:=fP.all au bz.symm
     have fW:=fQ.all au bA.symm
     have fX:=fR.all au (dh.symm ae rfl)
     have fY:=fS.all au di.symm
     have fZ:=dm.all au dj.symm
     refine KO ?_
     refine LD (KH (KI (KJ (iv ((y+1:Nat):Int)) rfl rfl (LR rfl bp rfl (L2 (by omega) (by omega)) rr) (KJ (iv ((y+1:Nat):Int)) rfl rfl (KQ rfl rfl rr) (KO ?_)))))
     have f5:=La (iv ((y+1:Nat):Int))
     exact KH ⟨(ph1-(y+1)),by omega,y+1,ah,by omega,rfl,c6,aQ,bo,c7,c9,da,db,dc,f5,((dd.tr dk).trans au (KS.ok (S:=fun _=>False) bu K6)),fU,fV,L4.of_eq (TP hB1.1) fT,fW,fX,fY,fZ,bu,bv,bz,bA,dh,di,dj⟩
    ·replace aC:=of_decide_eq_false aC
     refine Mg (Lt (Lt ?_))
     have f6:ph1=y:=by omega
     subst f6
     have hl1:(MC (ph1*pw1) s (ph1*pw1)).length=(LJ w h 0).p1.length:=by rw[OS (Nat.le_refl _),c5,List.length_replicate]
     refine Mh (LD (KH (KI (KJ (iv ((2:Nat):Int)) rfl rfl (LR rfl da rfl (L2 (by omega) (by omega)) rr) (KJ (iv ((2:Nat):Int)) rfl rfl (KQ rfl rfl rr) (KO ?_))))))
     have bB:=La (iv ((2:Nat):Int))
     refine KH (Md (KK (KI (KJ (.bool true) rfl rfl (L5 rfl bB rfl rfl rr) (KO ?_)))))
     have f7:=La (.bool true)
     refine KH (KK ?_)
     refine Lc (t:=true) f7 (fun _=>?_) (fun e=>by cases e)
     refine Li (KH (KK (Lo (KK (KI (KW rfl rfl rfl bB (KJ (iv ((2:Nat):Int)) rfl rfl (KX rfl rfl rr) (KO ?_))))))))
     have dn:=La (iv ((2:Nat):Int))
     refine KH (KK (KI (KJ (.agg #[iv ((LJ w h 0).W),iv ((LJ w h 0).H),aa,ab,ac]) rfl rfl (KU K3 rfl aQ aS rr) (KW rfl rfl rfl dn (LY rfl rfl rfl rfl rfl (fun _ _=>by kernel_rfl) (Lm rfl (Lm rfl LS)) (Ts ((2:Nat):Int) (FD.mk ((LJ w h 0).W) ((LJ w h 0).H) (MC (ph0*pw0) s (ph0*pw0)) (MC (ph1*pw1) s (ph1*pw1)) ((LJ w h 0).p2)) aa ab ac af ah aj _  bq.byt aR.byt bt.byt ) fun iG dp=>?_)))))
     obtain⟨f8,f9,ga,gb,gc,gd,ge⟩:=SO dp de bq aR bt aS df dg
     refine KJ (.tuple #[iv ((Lf (FD.mk ((LJ w h 0).W) ((LJ w h 0).H) (MC (ph0*pw0) s (ph0*pw0)) (MC (ph1*pw1) s (ph1*pw1)) ((LJ w h 0).p2)) ((2:Nat):Int)).1),iv ((Lf (FD.mk ((LJ w h 0).W) ((LJ w h 0).H) (MC (ph0*pw0) s (ph0*pw0)) (MC (ph1*pw1) s (ph1*pw1)) ((LJ w h 0).p2)) ((2:Nat):Int)).2)]) rfl rfl (KQ rfl rfl rr) (KJ (iv ((Lf (FD.mk ((LJ w h 0).W) ((LJ w h 0).H) (MC (ph0*pw0) s (ph0*pw0)) (MC (ph1*pw1) s (ph1*pw1)) ((LJ w h 0).p2)) ((2:Nat):Int)).1)) rfl rfl (LM rfl rfl rfl rr) (KJ (iv ((Lf (FD.mk ((LJ w h 0).W) ((LJ w h 0).H) (MC (ph0*pw0) s (ph0*pw0)) (MC (ph1*pw1) s (ph1*pw1)) ((LJ w h 0).p2)) ((2:Nat):Int)).2)) rfl rfl (LM rfl rfl rfl rr) (KJ (iv ((Lf (FD.mk ((LJ w h 0).W) ((LJ w h 0).H) (MC (ph0*pw0) s (ph0*pw0)) (MC (ph1*pw1) s (ph1*pw1)) ((LJ w h 0).p2)) ((2:Nat):Int)).1)) rfl rfl (KX rfl rfl rr) (KJ (iv ((Lf (FD.mk ((LJ w h 0).W) ((LJ w h 0).H) (MC (ph0*pw0) s (ph0*pw0)) (MC (ph1*pw1) s (ph1*pw1)) ((LJ w h 0).p2)) ((2:Nat):Int)).2)) rfl rfl (KX rfl rfl rr) (RK fun aT aU=>?_)))))
     obtain⟨gh,gi,gj,gl,gm,gn⟩:=t6 aU 6 c6 8 aQ 9 bo 55 dc 30 bB 10 dn
     have go:aT 11=iv ((Lf (FD.mk ((LJ w h 0).W) ((LJ w h 0).H) (MC (ph0*pw0) s (ph0*pw0)) (MC (ph1*pw1) s (ph1*pw1)) ((LJ w h 0).p2)) ((2:Nat):Int)).1):=(aU 11).trans rfl
     have gp:aT 12=iv ((Lf (FD.mk ((LJ w h 0).W) ((LJ w h 0).H) (MC (ph0*pw0) s (ph0*pw0)) (MC (ph1*pw1) s (ph1*pw1)) ((LJ w h 0).p2)) ((2:Nat):Int)).2):=(aU 12).trans rfl
     clear aU
     refine KH (KK ?_)
     obtain⟨pw2,hpw2⟩:∃ q,q=Qq a (a/2) 2:=⟨_,rfl⟩
     obtain⟨ph2,hph2⟩:∃ q,q=Qq b (b/2) 2:=⟨_,rfl⟩
     have dq:(LJ w h 0).p2=List.replicate (ph2*pw2) 0:=by rw[hpw2,hph2];first|exact(MG 0 hsw hsh ha hb).1|exact(MG 0 hsw hsh ha hb).2.1|exact(MG 0 hsw hsh ha hb).2.2
     have hE2:(LJ w h s).p2=List.replicate (ph2*pw2) s:=by rw[hpw2,hph2];first|exact(MG s hsw hsh ha hb).1|exact(MG s hsw hsh ha hb).2.1|exact(MG s hsw hsh ha hb).2.2
     have hB2:pw2<=a/\pw2<=64/\ph2<=64:=by have e1:=Re a (a/2) 2;have e2:=Re b (b/2) 2;omega
     have gq:aT 11=iv ((pw2:Nat):Int):=go.trans (congrArg (Value.int .i64) (by rw[hpw2];(refine Vq hsw hsh ?_ ?_ ?_ ?_ ?_ 2 (by decide) ha hb <;> first|exact(Mn 0 hsw hsh).1|exact(Mn 0 hsw hsh).2|exact hl0|exact hl1|rfl)))
     have gr:aT 12=iv ((ph2:Nat):Int):=gp.trans (congrArg (Value.int .i64) (by rw[hph2];(refine Vh hsw hsh ?_ ?_ ?_ ?_ ?_ 2 (by decide) ha hb <;> first|exact(Mn 0 hsw hsh).1|exact(Mn 0 hsw hsh).2|exact hl0|exact hl1|rfl)))
     refine KI (KW rfl rfl rfl gr (KJ (iv 0) rfl rfl (KQ rfl rfl rr) (KO ?_)))
     have gt:=La (iv ((ph2:Nat):Int))
     have gu:=La (iv 0)
     refine KH (Lo (M4 (fun nn FF ww=>∃ (y:Nat),∃ (ak:Nat->Prop),(y<=ph2)/\nn=ph2-y/\FF 6=pt p1 0/\FF 8=pt ae 0/\FF 9=am/\FF 10=iv ((2:Nat):Int)/\FF 11=iv ((pw2:Nat):Int)/\FF 30=iv ((2:Nat):Int)/\FF 39=iv ((ph2:Nat):Int)/\FF 55=undef/\FF 40=iv ((y:Nat):Int)/\KP (fun _=>False) w0 ww/\My ww p1 29 [iv 0,iv 0,.slice none 0 0,.slice none 0 0,.slice none 0 0]/\L4 ww af aa (MC (ph0*pw0) s (ph0*pw0))/\L4 ww ah ab (MC (ph1*pw1) s (ph1*pw1))/\L4 ww ak ac (MC (ph2*pw2) s (y*pw2))/\My ww ae 29 [iv ((LJ w h 0).W),iv ((LJ w h 0).H),aa,ab,ac]/\L4 ww aq aI ([s])/\L9 ww ao am (List.replicate a s)/\KS w0 Ma ak/\KM ak (Lh p1)/\KM ak af/\KM ak ah/\KM ak (Lh ae)/\KM ak aq/\KM ak ao) (ph2-0) ⟨0,aj,by omega,rfl,gh,gi,gj,gn,gq,gm,gt,gl,gu,(dd.tr dp),f8,f9,ga,L4.of_eq (SH dq) gb,gc,gd,ge,(KS.new aH bV),dY,bm.symm,bA.symm,b9.symm,eu.symm,eE.symm⟩ ?_))
     rintro iH iI iJ ⟨y,ak,i506,hn505,bC,bD,dr,dt,du,dv,dw,dy,bE,dz,dA,bF,bG,aV,bH,gv,gw,bI,bJ,bK,bL,dB,dC,dD⟩
     refine KK (KI (KJ (.bool (decide (((y:Nat):Int)<((ph2:Nat):Int)))) rfl rfl (L5 rfl bE dw rfl rr) (KO ?_)))
     have gz:=La (.bool (decide (((y:Nat):Int)<((ph2:Nat):Int))))
     refine KH (KK ?_)
     refine Lc gz (fun aD=>?_) (fun aD=>?_)
     ·replace aD:=of_decide_eq_true aD
      refine Li (KH (KK (Lo (KK (KI (KW rfl rfl rfl bE (KJ (iv ((y:Nat):Int)) rfl rfl (KX rfl rfl rr) (KO ?_))))))))
      have gA:=La (iv ((y:Nat):Int))
      refine KH ?_
      have hz:=Vl (y:=y) (pw:=pw2) (ph:=ph2) (by omega) hB2.2.1 hB2.2.2
      have hfl:(MC (ph2*pw2) s (y*pw2)).length=ph2*pw2:=OS (by omega)
      refine KI (KW rfl rfl rfl dt (KJ (pt ae 2) rfl rfl (KT (n:=3) rfl bD Tryz.underlying29 rfl (by kernel_rfl) (by decide) rfl rr) (KJ (pt ae 4) rfl rfl (LU 2 (s:=1) rfl rfl rfl (by omega) Tryz.underlying27 (by omega) (by kernel_rfl) (by omega) rr) (KJ ac rfl rfl (KV rfl rfl Tryz.underlying26 bH rfl rfl rr) (KW rfl rfl rfl du (KW rfl rfl rfl gA (LY rfl rfl rfl rfl rfl (fun _ _=>by kernel_rfl) (Lm rfl (Lm rfl (Lm rfl LS))) (SE ac (MC (ph2*pw2) s (y*pw2)) ((pw2:Nat):Int) ((y:Nat):Int) ak _ (by omega) (by omega) (by rw[hfl];exact hz.2.2.2) (by omega) aV.byt ) fun iK dE=>?_)))))))
      obtain⟨gB,gC,gD,dF,gE,gF,dG⟩:=SO dE dA bF bG aV bH gv gw
      refine KW rfl rfl rfl dr (RU rfl rfl rfl rfl rfl (S8 dF.byt (by omega)) rfl dF dG (by rw[hfl];omega) fun iL gG av=>?_)
      have gH:=gB.all av (bJ.symm p1 rfl)
      have gI:=gC.all av bK.symm
      have gJ:=gD.all av bL.symm
      have gK:=gE.all av (dB.symm ae rfl)
      have gL:=gF.all av dC.symm
      have gM:=dG.all av dD.symm
      refine KO ?_
      refine LD (KH (KI (KJ (iv ((y+1:Nat):Int)) rfl rfl (LR rfl bE rfl (L2 (by omega) (by omega)) rr) (KJ (iv ((y+1:Nat):Int)) rfl rfl (KQ rfl rfl rr) (KO ?_)))))
      have gN:=La (iv ((y+1:Nat):Int))
      exact KH ⟨(ph2-(y+1)),by omega,y+1,ak,by omega,rfl,bC,bD,dr,dt,du,dv,dw,dy,gN,((dz.tr dE).trans av (KS.ok (S:=fun _=>False) bI K6)),gH,gI,gJ,L4.of_eq (TP hB2.1) gG,gK,gL,gM,bI,bJ,bK,bL,dB,dC,dD⟩
     ·replace aD:=of_decide_eq_false aD
      refine Mg (Lt (Lt ?_))
      have gO:ph2=y:=by omega
      subst gO
      have hl2:(MC (ph2*pw2) s (ph2*pw2)).length=(LJ w h 0).p2.length:=by rw[OS (Nat.le_refl _),dq,List.length_replicate]
      refine Mh (LD (KH (KI (KJ (iv ((3:Nat):Int)) rfl rfl (LR rfl dv rfl (L2 (by omega) (by omega)) rr) (KJ (iv ((3:Nat):Int)) rfl rfl (KQ rfl rfl rr) (KO ?_))))))
      have gP:=La (iv ((3:Nat):Int))
      refine KH (Md (KK (KI (KJ (.bool false) rfl rfl (L5 rfl gP rfl rfl rr) (KO ?_)))))
      have gQ:=La (.bool false)
      refine KH (KK ?_)
      refine Lc (t:=false) gQ (fun e=>by cases e) (fun _=>?_)
      refine Mg (Lt (Lt (Mh (KH (KK (KI (KJ (.agg #[iv ((LJ w h 0).W),iv ((LJ w h 0).H),aa,ab,ac]) rfl rfl (KU K3 rfl bD bH rr) (Ll (us:=[iv ((LJ w h 0).W),iv ((LJ w h 0).H),aa,ab,ac]) K3 rfl rfl rfl bC rfl dA rfl (K2 rfl (K2 rfl (K2 bF.one (K2 bG.one (K2 aV.one MI))))) fun iM gR aW=>?_))))))))
      have dH:=bF.all aW bj
      have dI:=bG.all aW bv
      have dJ:=aV.all aW bJ
      refine KJ (iv 0) rfl rfl (KX rfl rfl rr) (KO ?_)
      have gS:=La (iv 0)
      refine KH (Ld ?_)
      exact L7 dy rfl (ML (vs:=[iv ((LJ w h 0).W),iv ((LJ w h 0).H),aa,ab,ac]) K3 rfl bC gR) (Lz (v:=iv 0) rfl gS) ⟨aa,af,ab,ah,ac,ak,(by first|rw[(Mn s hsw hsh).1,(Mn s hsw hsh).2,(Mn 0 hsw hsh).1,(Mn 0 hsw hsh).2,Te hsw hsh]|(rw[hN,WS hno];rfl)),(dz.trans aW (KS.ok (S:=fun _=>False) aZ K6)),⟨(by first|exact L4.of_eq (Oy hE0) dH|(rw[hN];exact dH)),bi⟩,⟨(by first|exact L4.of_eq (Oy hE1) dI|(rw[hN];exact dI)),bu⟩,⟨(by first|exact L4.of_eq (Oy hE2) dJ|(rw[hN];exact dJ)),bI⟩,bz.symm,bK.symm,bL.symm⟩
  ·skip
   refine KI (KW rfl rfl rfl aw (Ly (R:=fun v_ w_=>v_ = .bool true/\KP (fun _=>False) w2 w_) rfl rfl (LE rfl rfl rfl (fun _ _=>by kernel_rfl) (K4 _) (Lm rfl LS) (Pn w  _   ) (fun e_ w_ h_=>⟨_,h_.1,(congrArg Value.bool aE),h_.2⟩)) ?_))
   rintro _ gT ⟨rfl,dK⟩
   have gU:=B4.all dK id
   refine KJ (.bool false) rfl rfl (LW rfl rfl rfl rr) (KJ (.bool false) rfl rfl (KQ rfl rfl rr) (KR (iv h) 3 false 17 rfl rfl rfl rfl rfl (KQ rfl a9 rr) (LA (R:=fun v_ w_=>v_ = .bool false/\KP (fun _=>False) gT w_) 3 false 17 rfl rfl rfl rfl rfl (LE rfl rfl rfl (fun _ _=>by kernel_rfl) (K4 _) (Lm rfl LS) (Pn h  _   ) (fun e_ w_ h_=>⟨_,h_.1,(congrArg Value.bool bb),h_.2⟩)) ?_)))
   rintro _ iN ⟨rfl,dL⟩
   have gV:=gU.all dL id
   refine KR (.bool true) 3 false 17 rfl rfl rfl rfl rfl (LW rfl rfl rfl rr) (KJ (.bool true) rfl rfl (Lb rfl rfl rfl rr) (KO ?_))
   have gW:=La (.bool true)
   refine KH ?_
   refine Lc (t:=true) gW (fun _=>?_) (fun e=>by cases e)
   refine KK ?_
   have hno:¬ (Mm w=true/\Mm h=true):=by rintro ⟨h1,h2⟩;simp_all
   have hN:=ZL s hno
   refine KI (KJ (.agg #[iv 0,iv 0,.slice none 0 0,.slice none 0 0,.slice none 0 0]) rfl rfl (L0 (l':=[]) (cells:=#[iv 0,iv 0,.slice none 0 0,.slice none 0 0,.slice none 0 0]) rfl Rc (by kernel_rfl) rfl rr) (Ll (us:=[iv 0,iv 0,.slice none 0 0,.slice none 0 0,.slice none 0 0]) K3 rfl rfl rfl az rfl gV rfl (K2 rfl (K2 rfl (K2 rfl (K2 rfl (K2 rfl MI))))) fun iO gZ hP=>?_))
   refine KJ (iv 70) rfl rfl (KX rfl rfl rr) (KO ?_)
   have hQ:=La (iv 70)
   refine KH (Ld (Lq ?_))
   exact L7 ba rfl (ML (vs:=[iv 0,iv 0,.slice none 0 0,.slice none 0 0,.slice none 0 0]) K3 rfl az gZ) (Lz (v:=iv 70) rfl hQ) ⟨(.slice none 0 0),Ma,(.slice none 0 0),Ma,(.slice none 0 0),Ma,(by first|rw[(Mn s hsw hsh).1,(Mn s hsw hsh).2,(Mn 0 hsw hsh).1,(Mn 0 hsw hsh).2,Te hsw hsh]|(rw[hN,WS hno];rfl)),(((K7.tr dK).tr dL).trans hP (KS.ok (S:=fun _=>False) aZ K6)),⟨(by first|exact L4.of_eq (Oy hE0) (L4.nil _)|(rw[hN];exact(L4.nil _))),(KS.refl _ _)⟩,⟨(by first|exact L4.of_eq (Oy hE1) (L4.nil _)|(rw[hN];exact(L4.nil _))),(KS.refl _ _)⟩,⟨(by first|exact L4.of_eq (Oy hE2) (L4.nil _)|(rw[hN];exact(L4.nil _))),(KS.refl _ _)⟩,KM.none,KM.none,KM.none⟩
 ·skip
  refine KI (KW rfl rfl rfl aw (Ly (R:=fun v_ w_=>v_ = .bool false/\KP (fun _=>False) w2 w_) rfl rfl (LE rfl rfl rfl (fun _ _=>by kernel_rfl) (K4 _) (Lm rfl LS) (Pn w  _   ) (fun e_ w_ h_=>⟨_,h_.1,(congrArg Value.bool aE),h_.2⟩)) ?_))
  rintro _ iP ⟨rfl,dM⟩
  have hZ:=B4.all dM id
  refine KJ (.bool true) rfl rfl (LW rfl rfl rfl rr) (KJ (.bool true) rfl rfl (KQ rfl rfl rr) (KL 3 false 17 rfl rfl rfl (Or.inl rfl) rfl (KL 3 false 17 rfl rfl rfl (Or.inl rfl) rfl (KL 3 false 17 rfl rfl rfl (Or.inl rfl) rfl (KJ (.bool true) rfl rfl (Lg rfl rfl rfl rr) (KO ?_))))))
  have ia:=La (.bool true)
  refine KH ?_
  refine Lc (t:=true) ia (fun _=>?_) (fun e=>by cases e)
  refine KK ?_
  have hno:¬ (Mm w=true/\Mm h=true):=by rintro ⟨h1,h2⟩;simp_all
  have hN:=ZL s hno
  refine KI (KJ (.agg #[iv 0,iv 0,.slice none 0 0,.slice none 0 0,.slice none 0 0]) rfl rfl (L0 (l':=[]) (cells:=#[iv 0,iv 0,.slice none 0 0,.slice none 0 0,.slice none 0 0]) rfl Rc (by kernel_rfl) rfl rr) (Ll (us:=[iv 0,iv 0,.slice none 0 0,.slice none 0 0,.slice none 0 0]) K3 rfl rfl rfl az rfl hZ rfl (K2 rfl (K2 rfl (K2 rfl (K2 rfl (K2 rfl MI))))) fun iQ ib ie=>?_))
  refine KJ (iv 70) rfl rfl (KX rfl rfl rr) (KO ?_)
  have ig:=La (iv 70)
  refine KH (Ld (Lq ?_))
  exact L7 ba rfl (ML (vs:=[iv 0,iv 0,.slice none 0 0,.slice none 0 0,.slice none 0 0]) K3 rfl az ib) (Lz (v:=iv 70) rfl ig) ⟨(.slice none 0 0),Ma,(.slice none 0 0),Ma,(.slice none 0 0),Ma,(by first|rw[(Mn s hsw hsh).1,(Mn s hsw hsh).2,(Mn 0 hsw hsh).1,(Mn 0 hsw hsh).2,Te hsw hsh]|(rw[hN,WS hno];rfl)),((K7.tr dM).trans ie (KS.ok (S:=fun _=>False) aZ K6)),⟨(by first|exact L4.of_eq (Oy hE0) (L4.nil _)|(rw[hN];exact(L4.nil _))),(KS.refl _ _)⟩,⟨(by first|exact L4.of_eq (Oy hE1) (L4.nil _)|(rw[hN];exact(L4.nil _))),(KS.refl _ _)⟩,⟨(by first|exact L4.of_eq (Oy hE2) (L4.nil _)|(rw[hN];exact(L4.nil _))),(KS.refl _ _)⟩,KM.none,KM.none,KM.none⟩
end Go.Proofs.YtknjpdcpmpfklaaGreatDoor
set_option maxRecDepth 100000
namespace Go.Proofs.YtknjpdcpmpfklaaGreatDoor
open Go.RowKit
theorem ME(n a b:Int)(w0:World) :
  Calls Tryz.prog 90 #[.int .i64 (n),.int .i64 (a),.int .i64 (b)] w0 fun e w'=>e = .returned (.bool (decide (a<=n/\n<=b)))/\KP (fun _=>False) w0 w':=by
 refine Ls (args:=[iv n,iv a,iv b]) 15 Tryz.func90 rfl rfl (Nat.le_of_ble_eq_true rfl) ?_
 have K0:=KP.refl (fun _=>False) w0
 refine KK (KI (KJ (.bool false) rfl rfl (KX rfl rfl rr) (KO ?_)))
 have s3:=La (iv n)
 have s4:=La (iv a)
 have s5:=La (iv b)
 have s6:=La (undef)
 refine KH (KK ?_)
 by_cases d7:a<=n
 ·skip
  refine KI (KW rfl rfl rfl s3 (KW rfl rfl rfl s4 (KJ (.bool true) rfl rfl (Nl rfl rfl rfl (decide_eq_true d7) rr) (KJ (.bool true) rfl rfl (KQ rfl rfl rr) (KR (iv n) 3 true 10 rfl rfl rfl rfl rfl (KQ rfl s3 rr) (KR (iv b) 3 true 10 rfl rfl rfl rfl rfl (KQ rfl s5 rr) (KR (.bool (decide (n<=b))) 3 true 10 rfl rfl rfl rfl rfl (Nf rfl rfl rfl rfl rr) (KJ (.bool (decide (n<=b))) rfl rfl (Lg rfl rfl rfl rr) (KJ (.bool (decide (n<=b))) rfl rfl (KX rfl rfl rr) (KO ?_))))))))))
  have ai:=La (.bool (decide (n<=b)))
  refine KH (Ld ?_)
  exact Lu (v:=.bool (decide (n<=b))) s6 rfl rfl ai ⟨(O9 (by first|exact(decide_eq_true (by omega)).symm|exact(decide_eq_false (by omega)).symm|exact decide_eq_decide.2 (by omega))),K0⟩
 ·skip
  refine KI (KW rfl rfl rfl s3 (KW rfl rfl rfl s4 (KJ (.bool false) rfl rfl (Nl rfl rfl rfl (decide_eq_false d7) rr) (KJ (.bool false) rfl rfl (KQ rfl rfl rr) (KL 3 true 10 rfl rfl rfl (Or.inl rfl) rfl (KL 3 true 10 rfl rfl rfl (Or.inl rfl) rfl (KL 3 true 10 rfl rfl rfl (Or.inl rfl) rfl (KJ (.bool false) rfl rfl (Lb rfl rfl rfl rr) (KJ (.bool false) rfl rfl (KX rfl rfl rr) (KO ?_))))))))))
  have aj:=La (.bool false)
  refine KH (Ld ?_)
  exact Lu (v:=.bool false) s6 rfl rfl aj ⟨(O9 (by first|exact(decide_eq_true (by omega)).symm|exact(decide_eq_false (by omega)).symm|exact decide_eq_decide.2 (by omega))),K0⟩
theorem PQ(n:Int)(w0:World) :
  Calls Tryz.prog 89 #[.int .i64 (n)] w0 fun e w'=>e = .returned (.bool (decide (Nv n)))/\KP (fun _=>False) w0 w':=by
 refine Ls (args:=[iv n]) 10 Tryz.func89 rfl rfl (Nat.le_of_ble_eq_true rfl) ?_
 have K0:=KP.refl (fun _=>False) w0
 refine KK (KI (KJ (.bool false) rfl rfl (KX rfl rfl rr) (KO ?_)))
 have s3:=La (iv n)
 have s4:=La (undef)
 refine KH (KK ?_)
 by_cases d5:8<=n/\n<=64
 ·skip
  refine KI (KW rfl rfl rfl s3 (Ly (R:=fun v_ w_=>v_ = .bool true/\KP (fun _=>False) w0 w_) rfl rfl (LE rfl rfl rfl (fun _ _=>by kernel_rfl) (K4 _) (Lm rfl (Lm rfl (Lm rfl LS))) (ME n 8 64  _   ) (fun e_ w_ h_=>⟨_,h_.1,(congrArg Value.bool (decide_eq_true d5)),h_.2⟩)) ?_))
  rintro _ w6 ⟨rfl,k7⟩
  refine KJ (.bool true) rfl rfl (KQ rfl rfl rr) (KR (iv n) 2 true 5 rfl rfl rfl rfl rfl (KQ rfl s3 rr) (KR (iv (n%8)) 2 true 5 rfl rfl rfl rfl rfl (Ya rfl rfl rfl (by first|decide|omega) (aDd (by omega)) rr) (KR (.bool (decide ((n%8)=0))) 2 true 5 rfl rfl rfl rfl rfl (Mj rfl rfl rfl rfl rr) (KJ (.bool (decide ((n%8)=0))) rfl rfl (Lg rfl rfl rfl rr) (KJ (.bool (decide ((n%8)=0))) rfl rfl (KX rfl rfl rr) (KO ?_))))))
  have ah:=La (.bool (decide ((n%8)=0)))
  refine KH (Ld ?_)
  exact Lu (v:=.bool (decide ((n%8)=0))) s4 rfl rfl ah ⟨(O9 (by first|exact(decide_eq_true (by unfold Nv;omega)).symm|exact(decide_eq_false (by unfold Nv;omega)).symm|exact decide_eq_decide.2 (by unfold Nv;omega))),(K0.tr k7)⟩
 ·skip
  refine KI (KW rfl rfl rfl s3 (Ly (R:=fun v_ w_=>v_ = .bool false/\KP (fun _=>False) w0 w_) rfl rfl (LE rfl rfl rfl (fun _ _=>by kernel_rfl) (K4 _) (Lm rfl (Lm rfl (Lm rfl LS))) (ME n 8 64  _   ) (fun e_ w_ h_=>⟨_,h_.1,(congrArg Value.bool (decide_eq_false d5)),h_.2⟩)) ?_))
  rintro _ am ⟨rfl,ai⟩
  refine KJ (.bool false) rfl rfl (KQ rfl rfl rr) (KL 2 true 5 rfl rfl rfl (Or.inl rfl) rfl (KL 2 true 5 rfl rfl rfl (Or.inl rfl) rfl (KL 2 true 5 rfl rfl rfl (Or.inl rfl) rfl (KJ (.bool false) rfl rfl (Lb rfl rfl rfl rr) (KJ (.bool false) rfl rfl (KX rfl rfl rr) (KO ?_))))))
  have aj:=La (.bool false)
  refine KH (Ld ?_)
  exact Lu (v:=.bool false) s4 rfl rfl aj ⟨(O9 (by first|exact(decide_eq_true (by unfold Nv;omega)).symm|exact(decide_eq_false (by unfold Nv;omega)).symm|exact decide_eq_decide.2 (by unfold Nv;omega))),(K0.tr ai)⟩
theorem UV(W H R B:Int)(w0:World) :
  Calls Tryz.prog 48 #[.agg #[.int .i64 (W),.int .i64 (H),.int .i64 (R),.int .i64 (B)]] w0 fun e w'=>e = .returned (.int .i64 (OV W H R B))/\KP (fun _=>False) w0 w':=by
 refine Ls (args:=[.agg #[iv W,iv H,iv R,iv B]]) 27 Tryz.func48 rfl rfl (Nat.le_of_ble_eq_true rfl) ?_
 refine KK (KI (Lx (vs:=[iv W,iv H,iv R,iv B]) rfl rfl rfl rfl fun p1 w2 B4 g5 k3=>?_))
 have K7:=(KP.refl (fun _=>False) w0).tr k3
 refine KJ (iv 0) rfl rfl (KX rfl rfl rr) (KO ?_)
 have ah:=La (undef)
 have ab:=La (pt p1 0)
 refine KH (KK (KK ?_))
 by_cases ai:Nv W
 ·skip
  by_cases aj:Nv H
  ·skip
   by_cases ak:1<=R/\R<=16777216
   ·skip
    by_cases am:R<=B/\B<=1073741824
    ·skip
     refine KI (KJ (pt p1 0) rfl rfl (KT (n:=1) rfl ab Tryz.underlying23 rfl (by kernel_rfl) (by decide) rfl rr) (KJ (iv W) rfl rfl (KV rfl rfl Tryz.underlying3 B4 rfl rfl rr) (Ly (R:=fun v_ w_=>v_ = .bool true/\KP (fun _=>False) w2 w_) rfl rfl (LE rfl rfl rfl (fun _ _=>by kernel_rfl) (K4 _) (Lm rfl LS) (PQ W  _   ) (fun e_ w_ h_=>⟨_,h_.1,(congrArg Value.bool (decide_eq_true ai)),h_.2⟩)) ?_)))
     rintro _ aI ⟨rfl,an⟩
     have ao:=B4.all an id
     refine KJ (.bool false) rfl rfl (LW rfl rfl rfl rr) (KJ (.bool false) rfl rfl (KQ rfl rfl rr) (KR (pt p1 1) 4 false 7 rfl rfl rfl rfl rfl (KT (n:=1) rfl ab Tryz.underlying23 rfl (by kernel_rfl) (by decide) rfl rr) (KR (iv H) 4 false 7 rfl rfl rfl rfl rfl (KV rfl rfl Tryz.underlying3 ao rfl rfl rr) (LA (R:=fun v_ w_=>v_ = .bool true/\KP (fun _=>False) aI w_) 4 false 7 rfl rfl rfl rfl rfl (LE rfl rfl rfl (fun _ _=>by kernel_rfl) (K4 _) (Lm rfl LS) (PQ H  _   ) (fun e_ w_ h_=>⟨_,h_.1,(congrArg Value.bool (decide_eq_true aj)),h_.2⟩)) ?_))))
     rintro _ aJ ⟨rfl,ap⟩
     have aq:=ao.all ap id
     refine KR (.bool false) 4 false 7 rfl rfl rfl rfl rfl (LW rfl rfl rfl rr) (KJ (.bool false) rfl rfl (Lb rfl rfl rfl rr) (KJ (.bool false) rfl rfl (KQ rfl rfl rr) (KR (pt p1 2) 10 false 13 rfl rfl rfl rfl rfl (KT (n:=1) rfl ab Tryz.underlying23 rfl (by kernel_rfl) (by decide) rfl rr) (KR (iv R) 10 false 13 rfl rfl rfl rfl rfl (KV rfl rfl Tryz.underlying3 aq rfl rfl rr) (LA (R:=fun v_ w_=>v_ = .bool true/\KP (fun _=>False) aJ w_) 10 false 13 rfl rfl rfl rfl rfl (LE rfl rfl rfl (fun _ _=>by kernel_rfl) (K4 _) (Lm rfl (Lm rfl (Lm rfl LS))) (ME R 1 16777216  _   ) (fun e_ w_ h_=>⟨_,h_.1,(congrArg Value.bool (decide_eq_true ak)),h_.2⟩)) ?_)))))
     rintro _ aK ⟨rfl,ar⟩
     have au:=aq.all ar id
     refine KR (.bool false) 10 false 13 rfl rfl rfl rfl rfl (LW rfl rfl rfl rr) (KJ (.bool false) rfl rfl (Lb rfl rfl rfl rr) (KJ (.bool false) rfl rfl (KQ rfl rfl rr) (KR (pt p1 3) 16 false 19 rfl rfl rfl rfl rfl (KT (n:=1) rfl ab Tryz.underlying23 rfl (by kernel_rfl) (by decide) rfl rr) (KR (iv B) 16 false 19 rfl rfl rfl rfl rfl (KV rfl rfl Tryz.underlying3 au rfl rfl rr) (KR (pt p1 2) 16 false 19 rfl rfl rfl rfl rfl (KT (n:=1) rfl ab Tryz.underlying23 rfl (by kernel_rfl) (by decide) rfl rr) (KR (iv R) 16 false 19 rfl rfl rfl rfl rfl (KV rfl rfl Tryz.underlying3 au rfl rfl rr) (LA (R:=fun v_ w_=>v_ = .bool true/\KP (fun _=>False) aK w_) 16 false 19 rfl rfl rfl rfl rfl (LE rfl rfl rfl (fun _ _=>by kernel_rfl) (K4 _) (Lm rfl (Lm rfl (Lm rfl LS))) (ME B R 1073741824  _   ) (fun e_ w_ h_=>⟨_,h_.1,(congrArg Value.bool (decide_eq_true am)),h_.2⟩)) ?_)))))))
     rintro _ bh ⟨rfl,aL⟩
     refine KR (.bool false) 16 false 19 rfl rfl rfl rfl rfl (LW rfl rfl rfl rr) (KJ (.bool false) rfl rfl (Lb rfl rfl rfl rr) (KO ?_))
     have aM:=La (.bool false)
     refine KH ?_
     refine Lc (t:=false) aM (fun e=>by cases e) (fun _=>?_)
     refine Li (KH (KK (KI (KJ (iv 0) rfl rfl (KX rfl rfl rr) (KO ?_)))))
     have aN:=La (iv 0)
     refine KH (Ld ?_)
     exact Lu (v:=iv 0) ah rfl rfl aN ⟨(by first|rw[show OV W H R B=0 from if_pos ⟨by assumption,by assumption,by omega,by omega,by omega,by omega⟩]|rw[show OV W H R B=110 from if_neg (by unfold Pf;rintro ⟨h1,h2,h3,h4,h5,h6⟩;first|(exact absurd h1 (by assumption))|(exact absurd h2 (by assumption))|omega)]),((((K7.tr an).tr ap).tr ar).tr aL)⟩
    ·skip
     refine KI (KJ (pt p1 0) rfl rfl (KT (n:=1) rfl ab Tryz.underlying23 rfl (by kernel_rfl) (by decide) rfl rr) (KJ (iv W) rfl rfl (KV rfl rfl Tryz.underlying3 B4 rfl rfl rr) (Ly (R:=fun v_ w_=>v_ = .bool true/\KP (fun _=>False) w2 w_) rfl rfl (LE rfl rfl rfl (fun _ _=>by kernel_rfl) (K4 _) (Lm rfl LS) (PQ W  _   ) (fun e_ w_ h_=>⟨_,h_.1,(congrArg Value.bool (decide_eq_true ai)),h_.2⟩)) ?_)))
     rintro _ aO ⟨rfl,av⟩
     have aw:=B4.all av id
     refine KJ (.bool false) rfl rfl (LW rfl rfl rfl rr) (KJ (.bool false) rfl rfl (KQ rfl rfl rr) (KR (pt p1 1) 4 false 7 rfl rfl rfl rfl rfl (KT (n:=1) rfl ab Tryz.underlying23 rfl (by kernel_rfl) (by decide) rfl rr) (KR (iv H) 4 false 7 rfl rfl rfl rfl rfl (KV rfl rfl Tryz.underlying3 aw rfl rfl rr) (LA (R:=fun v_ w_=>v_ = .bool true/\KP (fun _=>False) aO w_) 4 false 7 rfl rfl rfl rfl rfl (LE rfl rfl rfl (fun _ _=>by kernel_rfl) (K4 _) (Lm rfl LS) (PQ H  _   ) (fun e_ w_ h_=>⟨_,h_.1,(congrArg Value.bool (decide_eq_true aj)),h_.2⟩)) ?_))))
     rintro _ aP ⟨rfl,az⟩
     have aA:=aw.all az id
     refine KR (.bool false) 4 false 7 rfl rfl rfl rfl rfl (LW rfl rfl rfl rr) (KJ (.bool false) rfl rfl (Lb rfl rfl rfl rr) (KJ (.bool false) rfl rfl (KQ rfl rfl rr) (KR (pt p1 2) 10 false 13 rfl rfl rfl rfl rfl (KT (n:=1) rfl ab Tryz.underlying23 rfl (by kernel_rfl) (by decide) rfl rr) (KR (iv R) 10 false 13 rfl rfl rfl rfl rfl (KV rfl rfl Tryz.underlying3 aA rfl rfl rr) (LA (R:=fun v_ w_=>v_ = .bool true/\KP (fun _=>False) aP w_) 10 false 13 rfl rfl rfl rfl rfl (LE rfl rfl rfl (fun _ _=>by kernel_rfl) (K4 _) (Lm rfl (Lm rfl (Lm rfl LS))) (ME R 1 16777216  _   ) (fun e_ w_ h_=>⟨_,h_.1,(congrArg Value.bool (decide_eq_true ak)),h_.2⟩)) ?_)))))
     rintro _ aQ ⟨rfl,aB⟩
     have aC:=aA.all aB id
     refine KR (.bool false) 10 false 13 rfl rfl rfl rfl rfl (LW rfl rfl rfl rr) (KJ (.bool false) rfl rfl (Lb rfl rfl rfl rr) (KJ (.bool false) rfl rfl (KQ rfl rfl rr) (KR (pt p1 3) 16 false 19 rfl rfl rfl rfl rfl (KT (n:=1) rfl ab Tryz.underlying23 rfl (by kernel_rfl) (by decide) rfl rr) (KR (iv B) 16 false 19 rfl rfl rfl rfl rfl (KV rfl rfl Tryz.underlying3 aC rfl rfl rr) (KR (pt p1 2) 16 false 19 rfl rfl rfl rfl rfl (KT (n:=1) rfl ab Tryz.underlying23 rfl (by kernel_rfl) (by decide) rfl rr) (KR (iv R) 16 false 19 rfl rfl rfl rfl rfl (KV rfl rfl Tryz.underlying3 aC rfl rfl rr) (LA (R:=fun v_ w_=>v_ = .bool false/\KP (fun _=>False) aQ w_) 16 false 19 rfl rfl rfl rfl rfl (LE rfl rfl rfl (fun _ _=>by kernel_rfl) (K4 _) (Lm rfl (Lm rfl (Lm rfl LS))) (ME B R 1073741824  _   ) (fun e_ w_ h_=>⟨_,h_.1,(congrArg Value.bool (decide_eq_false am)),h_.2⟩)) ?_)))))))
     rintro _ bi ⟨rfl,aR⟩
     refine KR (.bool true) 16 false 19 rfl rfl rfl rfl rfl (LW rfl rfl rfl rr) (KJ (.bool true) rfl rfl (Lb rfl rfl rfl rr) (KO ?_))
     have aS:=La (.bool true)
     refine KH ?_
     refine Lc (t:=true) aS (fun _=>?_) (fun e=>by cases e)
     refine KK (KI (KJ (iv 110) rfl rfl (KX rfl rfl rr) (KO ?_)))
     have aT:=La (iv 110)
     refine KH (Ld (Lq ?_))
     exact Lu (v:=iv 110) ah rfl rfl aT ⟨(by first|rw[show OV W H R B=0 from if_pos ⟨by assumption,by assumption,by omega,by omega,by omega,by omega⟩]|rw[show OV W H R B=110 from if_neg (by unfold Pf;rintro ⟨h1,h2,h3,h4,h5,h6⟩;first|(exact absurd h1 (by assumption))|(exact absurd h2 (by assumption))|omega)]),((((K7.tr av).tr az).tr aB).tr aR)⟩
   ·skip
    refine KI (KJ (pt p1 0) rfl rfl (KT (n:=1) rfl ab Tryz.underlying23 rfl (by kernel_rfl) (by decide) rfl rr) (KJ (iv W) rfl rfl (KV rfl rfl Tryz.underlying3 B4 rfl rfl rr) (Ly (R:=fun v_ w_=>v_ = .bool true/\KP (fun _=>False) w2 w_) rfl rfl (LE rfl rfl rfl (fun _ _=>by kernel_rfl) (K4 _) (Lm rfl LS) (PQ W  _   ) (fun e_ w_ h_=>⟨_,h_.1,(congrArg Value.bool (decide_eq_true ai)),h_.2⟩)) ?_)))
    rintro _ aU ⟨rfl,aD⟩
    have aE:=B4.all aD id
    refine KJ (.bool false) rfl rfl (LW rfl rfl rfl rr) (KJ (.bool false) rfl rfl (KQ rfl rfl rr) (KR (pt p1 1) 4 false 7 rfl rfl rfl rfl rfl (KT (n:=1) rfl ab Tryz.underlying23 rfl (by kernel_rfl) (by decide) rfl rr) (KR (iv H) 4 false 7 rfl rfl rfl rfl rfl (KV rfl rfl Tryz.underlying3 aE rfl rfl rr) (LA (R:=fun v_ w_=>v_ = .bool true/\KP (fun _=>False) aU w_) 4 false 7 rfl rfl rfl rfl rfl (LE rfl rfl rfl (fun _ _=>by kernel_rfl) (K4 _) (Lm rfl LS) (PQ H  _   ) (fun e_ w_ h_=>⟨_,h_.1,(congrArg Value.bool (decide_eq_true aj)),h_.2⟩)) ?_))))
    rintro _ aV ⟨rfl,aF⟩
    have aW:=aE.all aF id
    refine KR (.bool false) 4 false 7 rfl rfl rfl rfl rfl (LW rfl rfl rfl rr) (KJ (.bool false) rfl rfl (Lb rfl rfl rfl rr) (KJ (.bool false) rfl rfl (KQ rfl rfl rr) (KR (pt p1 2) 10 false 13 rfl rfl rfl rfl rfl (KT (n:=1) rfl ab Tryz.underlying23 rfl (by kernel_rfl) (by decide) rfl rr) (KR (iv R) 10 false 13 rfl rfl rfl rfl rfl (KV rfl rfl Tryz.underlying3 aW rfl rfl rr) (LA (R:=fun v_ w_=>v_ = .bool false/\KP (fun _=>False) aV w_) 10 false 13 rfl rfl rfl rfl rfl (LE rfl rfl rfl (fun _ _=>by kernel_rfl) (K4 _) (Lm rfl (Lm rfl (Lm rfl LS))) (ME R 1 16777216  _   ) (fun e_ w_ h_=>⟨_,h_.1,(congrArg Value.bool (decide_eq_false ak)),h_.2⟩)) ?_)))))
    rintro _ bj ⟨rfl,aX⟩
    refine KR (.bool true) 10 false 13 rfl rfl rfl rfl rfl (LW rfl rfl rfl rr) (KJ (.bool true) rfl rfl (Lb rfl rfl rfl rr) (KJ (.bool true) rfl rfl (KQ rfl rfl rr) (KL 16 false 19 rfl rfl rfl (Or.inl rfl) rfl (KL 16 false 19 rfl rfl rfl (Or.inl rfl) rfl (KL 16 false 19 rfl rfl rfl (Or.inl rfl) rfl (KL 16 false 19 rfl rfl rfl (Or.inl rfl) rfl (KL 16 false 19 rfl rfl rfl (Or.inl rfl) rfl (KL 16 false 19 rfl rfl rfl (Or.inl rfl) rfl (KJ (.bool true) rfl rfl (Lg rfl rfl rfl rr) (KO ?_))))))))))
    have aY:=La (.bool true)
    refine KH ?_
    refine Lc (t:=true) aY (fun _=>?_) (fun e=>by cases e)
    refine KK (KI (KJ (iv 110) rfl rfl (KX rfl rfl rr) (KO ?_)))
    have aZ:=La (iv 110)
    refine KH (Ld (Lq ?_))
    exact Lu (v:=iv 110) ah rfl rfl aZ ⟨(by first|rw[show OV W H R B=0 from if_pos ⟨by assumption,by assumption,by omega,by omega,by omega,by omega⟩]|rw[show OV W H R B=110 from if_neg (by unfold Pf;rintro ⟨h1,h2,h3,h4,h5,h6⟩;first|(exact absurd h1 (by assumption))|(exact absurd h2 (by assumption))|omega)]),(((K7.tr aD).tr aF).tr aX)⟩
  ·skip
   refine KI (KJ (pt p1 0) rfl rfl (KT (n:=1) rfl ab Tryz.underlying23 rfl (by kernel_rfl) (by decide) rfl rr) (KJ (iv W) rfl rfl (KV rfl rfl Tryz.underlying3 B4 rfl rfl rr) (Ly (R:=fun v_ w_=>v_ = .bool true/\KP (fun _=>False) w2 w_) rfl rfl (LE rfl rfl rfl (fun _ _=>by kernel_rfl) (K4 _) (Lm rfl LS) (PQ W  _   ) (fun e_ w_ h_=>⟨_,h_.1,(congrArg Value.bool (decide_eq_true ai)),h_.2⟩)) ?_)))
   rintro _ a8 ⟨rfl,aG⟩
   have a9:=B4.all aG id
   refine KJ (.bool false) rfl rfl (LW rfl rfl rfl rr) (KJ (.bool false) rfl rfl (KQ rfl rfl rr) (KR (pt p1 1) 4 false 7 rfl rfl rfl rfl rfl (KT (n:=1) rfl ab Tryz.underlying23 rfl (by kernel_rfl) (by decide) rfl rr) (KR (iv H) 4 false 7 rfl rfl rfl rfl rfl (KV rfl rfl Tryz.underlying3 a9 rfl rfl rr) (LA (R:=fun v_ w_=>v_ = .bool false/\KP (fun _=>False) a8 w_) 4 false 7 rfl rfl rfl rfl rfl (LE rfl rfl rfl (fun _ _=>by kernel_rfl) (K4 _) (Lm rfl LS) (PQ H  _   ) (fun e_ w_ h_=>⟨_,h_.1,(congrArg Value.bool (decide_eq_false aj)),h_.2⟩)) ?_))))
   rintro _ bl ⟨rfl,ba⟩
   refine KR (.bool true) 4 false 7 rfl rfl rfl rfl rfl (LW rfl rfl rfl rr) (KJ (.bool true) rfl rfl (Lb rfl rfl rfl rr) (KJ (.bool true) rfl rfl (KQ rfl rfl rr) (KL 10 false 13 rfl rfl rfl (Or.inl rfl) rfl (KL 10 false 13 rfl rfl rfl (Or.inl rfl) rfl (KL 10 false 13 rfl rfl rfl (Or.inl rfl) rfl (KL 10 false 13 rfl rfl rfl (Or.inl rfl) rfl (KJ (.bool true) rfl rfl (Lg rfl rfl rfl rr) (KJ (.bool true) rfl rfl (KQ rfl rfl rr) (KL 16 false 19 rfl rfl rfl (Or.inl rfl) rfl (KL 16 false 19 rfl rfl rfl (Or.inl rfl) rfl (KL 16 false 19 rfl rfl rfl (Or.inl rfl) rfl ?_)))))))))))
   refine KL 16 false 19 rfl rfl rfl (Or.inl rfl) rfl (KL 16 false 19 rfl rfl rfl (Or.inl rfl) rfl (KL 16 false 19 rfl rfl rfl (Or.inl rfl) rfl (KJ (.bool true) rfl rfl (Lg rfl rfl rfl rr) (KO ?_))))
   have bb:=La (.bool true)
   refine KH ?_
   refine Lc (t:=true) bb (fun _=>?_) (fun e=>by cases e)
   refine KK (KI (KJ (iv 110) rfl rfl (KX rfl rfl rr) (KO ?_)))
   have bc:=La (iv 110)
   refine KH (Ld (Lq ?_))
   exact Lu (v:=iv 110) ah rfl rfl bc ⟨(by first|rw[show OV W H R B=0 from if_pos ⟨by assumption,by assumption,by omega,by omega,by omega,by omega⟩]|rw[show OV W H R B=110 from if_neg (by unfold Pf;rintro ⟨h1,h2,h3,h4,h5,h6⟩;first|(exact absurd h1 (by assumption))|(exact absurd h2 (by assumption))|omega)]),((K7.tr aG).tr ba)⟩
 ·skip
  refine KI (KJ (pt p1 0) rfl rfl (KT (n:=1) rfl ab Tryz.underlying23 rfl (by kernel_rfl) (by decide) rfl rr) (KJ (iv W) rfl rfl (KV rfl rfl Tryz.underlying3 B4 rfl rfl rr) (Ly (R:=fun v_ w_=>v_ = .bool false/\KP (fun _=>False) w2 w_) rfl rfl (LE rfl rfl rfl (fun _ _=>by kernel_rfl) (K4 _) (Lm rfl LS) (PQ W  _   ) (fun e_ w_ h_=>⟨_,h_.1,(congrArg Value.bool (decide_eq_false ai)),h_.2⟩)) ?_)))
  rintro _ bm ⟨rfl,bd⟩
  refine KJ (.bool true) rfl rfl (LW rfl rfl rfl rr) (KJ (.bool true) rfl rfl (KQ rfl rfl rr) (KL 4 false 7 rfl rfl rfl (Or.inl rfl) rfl (KL 4 false 7 rfl rfl rfl (Or.inl rfl) rfl (KL 4 false 7 rfl rfl rfl (Or.inl rfl) rfl (KL 4 false 7 rfl rfl rfl (Or.inl rfl) rfl (KJ (.bool true) rfl rfl (Lg rfl rfl rfl rr) (KJ (.bool true) rfl rfl (KQ rfl rfl rr) (KL 10 false 13 rfl rfl rfl (Or.inl rfl) rfl (KL 10 false 13 rfl rfl rfl (Or.inl rfl) rfl (KL 10 false 13 rfl rfl rfl (Or.inl rfl) rfl (KL 10 false 13 rfl rfl rfl (Or.inl rfl) rfl ?_)))))))))))
  refine KJ (.bool true) rfl rfl (Lg rfl rfl rfl rr) (KJ (.bool true) rfl rfl (KQ rfl rfl rr) (KL 16 false 19 rfl rfl rfl (Or.inl rfl) rfl (KL 16 false 19 rfl rfl rfl (Or.inl rfl) rfl (KL 16 false 19 rfl rfl rfl (Or.inl rfl) rfl (KL 16 false 19 rfl rfl rfl (Or.inl rfl) rfl (KL 16 false 19 rfl rfl rfl (Or.inl rfl) rfl (KL 16 false 19 rfl rfl rfl (Or.inl rfl) rfl (KJ (.bool true) rfl rfl (Lg rfl rfl rfl rr) (KO ?_)))))))))
  have be:=La (.bool true)
  refine KH ?_
  refine Lc (t:=true) be (fun _=>?_) (fun e=>by cases e)
  refine KK (KI (KJ (iv 110) rfl rfl (KX rfl rfl rr) (KO ?_)))
  have bf:=La (iv 110)
  refine KH (Ld (Lq ?_))
  exact Lu (v:=iv 110) ah rfl rfl bf ⟨(by first|rw[show OV W H R B=0 from if_pos ⟨by assumption,by assumption,by omega,by omega,by omega,by omega⟩]|rw[show OV W H R B=110 from if_neg (by unfold Pf;rintro ⟨h1,h2,h3,h4,h5,h6⟩;first|(exact absurd h1 (by assumption))|(exact absurd h2 (by assumption))|omega)]),(K7.tr bd)⟩
theorem aBd(K Q D F:Int)(w0:World) :
  Calls Tryz.prog 57 #[.agg #[.int .i64 (K),.int .i64 (Q),.int .i64 (D),.int .i64 (F)]] w0 fun e w'=>e = .returned (.int .i64 (PN K Q D F))/\KP (fun _=>False) w0 w':=by
 refine Ls (args:=[.agg #[iv K,iv Q,iv D,iv F]]) 25 Tryz.func57 rfl rfl (Nat.le_of_ble_eq_true rfl) ?_
 refine KK (KI (Lx (vs:=[iv K,iv Q,iv D,iv F]) rfl rfl rfl rfl fun p1 w2 B4 g5 k3=>?_))
 have K7:=(KP.refl (fun _=>False) w0).tr k3
 refine KJ (iv 0) rfl rfl (KX rfl rfl rr) (KO ?_)
 have ah:=La (undef)
 have ab:=La (pt p1 0)
 refine KH (KK (KK ?_))
 by_cases ai:0<=K/\K<=2
 ·skip
  by_cases aj:0<=Q/\Q<=20
  ·skip
   by_cases ak:0<=D/\D<=16777215
   ·skip
    by_cases am:0<=F/\F<=1073741824
    ·skip
     refine KI (KJ (pt p1 0) rfl rfl (KT (n:=1) rfl ab Tryz.underlying25 rfl (by kernel_rfl) (by decide) rfl rr) (KJ (iv K) rfl rfl (KV rfl rfl Tryz.underlying3 B4 rfl rfl rr) (Ly (R:=fun v_ w_=>v_ = .bool true/\KP (fun _=>False) w2 w_) rfl rfl (LE rfl rfl rfl (fun _ _=>by kernel_rfl) (K4 _) (Lm rfl (Lm rfl (Lm rfl LS))) (ME K 0 2  _   ) (fun e_ w_ h_=>⟨_,h_.1,(congrArg Value.bool (decide_eq_true ai)),h_.2⟩)) ?_)))
     rintro _ aG ⟨rfl,an⟩
     have ao:=B4.all an id
     refine KJ (.bool false) rfl rfl (LW rfl rfl rfl rr) (KJ (.bool false) rfl rfl (KQ rfl rfl rr) (KR (pt p1 1) 4 false 7 rfl rfl rfl rfl rfl (KT (n:=1) rfl ab Tryz.underlying25 rfl (by kernel_rfl) (by decide) rfl rr) (KR (iv Q) 4 false 7 rfl rfl rfl rfl rfl (KV rfl rfl Tryz.underlying3 ao rfl rfl rr) (LA (R:=fun v_ w_=>v_ = .bool true/\KP (fun _=>False) aG w_) 4 false 7 rfl rfl rfl rfl rfl (LE rfl rfl rfl (fun _ _=>by kernel_rfl) (K4 _) (Lm rfl (Lm rfl (Lm rfl LS))) (ME Q 0 20  _   ) (fun e_ w_ h_=>⟨_,h_.1,(congrArg Value.bool (decide_eq_true aj)),h_.2⟩)) ?_))))
     rintro _ aH ⟨rfl,ap⟩
     have aq:=ao.all ap id
     refine KR (.bool false) 4 false 7 rfl rfl rfl rfl rfl (LW rfl rfl rfl rr) (KJ (.bool false) rfl rfl (Lb rfl rfl rfl rr) (KJ (.bool false) rfl rfl (KQ rfl rfl rr) (KR (pt p1 2) 10 false 13 rfl rfl rfl rfl rfl (KT (n:=1) rfl ab Tryz.underlying25 rfl (by kernel_rfl) (by decide) rfl rr) (KR (iv D) 10 false 13 rfl rfl rfl rfl rfl (KV rfl rfl Tryz.underlying3 aq rfl rfl rr) (LA (R:=fun v_ w_=>v_ = .bool true/\KP (fun _=>False) aH w_) 10 false 13 rfl rfl rfl rfl rfl (LE rfl rfl rfl (fun _ _=>by kernel_rfl) (K4 _) (Lm rfl (Lm rfl (Lm rfl LS))) (ME D 0 16777215  _   ) (fun e_ w_ h_=>⟨_,h_.1,(congrArg Value.bool (decide_eq_true ak)),h_.2⟩)) ?_)))))
     rintro _ aI ⟨rfl,ar⟩
     have aJ:=aq.all ar id
     refine KR (.bool false) 10 false 13 rfl rfl rfl rfl rfl (LW rfl rfl rfl rr) (KJ (.bool false) rfl rfl (Lb rfl rfl rfl rr) (KJ (.bool false) rfl rfl (KQ rfl rfl rr) (KR (pt p1 3) 16 false 19 rfl rfl rfl rfl rfl (KT (n:=1) rfl ab Tryz.underlying25 rfl (by kernel_rfl) (by decide) rfl rr) (KR (iv F) 16 false 19 rfl rfl rfl rfl rfl (KV rfl rfl Tryz.underlying3 aJ rfl rfl rr) (LA (R:=fun v_ w_=>v_ = .bool true/\KP (fun _=>False) aI w_) 16 false 19 rfl rfl rfl rfl rfl (LE rfl rfl rfl (fun _ _=>by kernel_rfl) (K4 _) (Lm rfl (Lm rfl (Lm rfl LS))) (ME F 0 1073741824  _   ) (fun e_ w_ h_=>⟨_,h_.1,(congrArg Value.bool (decide_eq_true am)),h_.2⟩)) ?_)))))
     rintro _ bh ⟨rfl,aK⟩
     refine KR (.bool false) 16 false 19 rfl rfl rfl rfl rfl (LW rfl rfl rfl rr) (KJ (.bool false) rfl rfl (Lb rfl rfl rfl rr) (KO ?_))
     have aL:=La (.bool false)
     refine KH ?_
     refine Lc (t:=false) aL (fun e=>by cases e) (fun _=>?_)
     refine Li (KH (KK (KI (KJ (iv 0) rfl rfl (KX rfl rfl rr) (KO ?_)))))
     have aM:=La (iv 0)
     refine KH (Ld ?_)
     exact Lu (v:=iv 0) ah rfl rfl aM ⟨(by first|rw[show PN K Q D F=0 from if_pos (by unfold Od;omega)]|rw[show PN K Q D F=110 from if_neg (by unfold Od;omega)]),((((K7.tr an).tr ap).tr ar).tr aK)⟩
    ·skip
     refine KI (KJ (pt p1 0) rfl rfl (KT (n:=1) rfl ab Tryz.underlying25 rfl (by kernel_rfl) (by decide) rfl rr) (KJ (iv K) rfl rfl (KV rfl rfl Tryz.underlying3 B4 rfl rfl rr) (Ly (R:=fun v_ w_=>v_ = .bool true/\KP (fun _=>False) w2 w_) rfl rfl (LE rfl rfl rfl (fun _ _=>by kernel_rfl) (K4 _) (Lm rfl (Lm rfl (Lm rfl LS))) (ME K 0 2  _   ) (fun e_ w_ h_=>⟨_,h_.1,(congrArg Value.bool (decide_eq_true ai)),h_.2⟩)) ?_)))
     rintro _ aN ⟨rfl,au⟩
     have av:=B4.all au id
     refine KJ (.bool false) rfl rfl (LW rfl rfl rfl rr) (KJ (.bool false) rfl rfl (KQ rfl rfl rr) (KR (pt p1 1) 4 false 7 rfl rfl rfl rfl rfl (KT (n:=1) rfl ab Tryz.underlying25 rfl (by kernel_rfl) (by decide) rfl rr) (KR (iv Q) 4 false 7 rfl rfl rfl rfl rfl (KV rfl rfl Tryz.underlying3 av rfl rfl rr) (LA (R:=fun v_ w_=>v_ = .bool true/\KP (fun _=>False) aN w_) 4 false 7 rfl rfl rfl rfl rfl (LE rfl rfl rfl (fun _ _=>by kernel_rfl) (K4 _) (Lm rfl (Lm rfl (Lm rfl LS))) (ME Q 0 20  _   ) (fun e_ w_ h_=>⟨_,h_.1,(congrArg Value.bool (decide_eq_true aj)),h_.2⟩)) ?_))))
     rintro _ aO ⟨rfl,aw⟩
     have az:=av.all aw id
     refine KR (.bool false) 4 false 7 rfl rfl rfl rfl rfl (LW rfl rfl rfl rr) (KJ (.bool false) rfl rfl (Lb rfl rfl rfl rr) (KJ (.bool false) rfl rfl (KQ rfl rfl rr) (KR (pt p1 2) 10 false 13 rfl rfl rfl rfl rfl (KT (n:=1) rfl ab Tryz.underlying25 rfl (by kernel_rfl) (by decide) rfl rr) (KR (iv D) 10 false 13 rfl rfl rfl rfl rfl (KV rfl rfl Tryz.underlying3 az rfl rfl rr) (LA (R:=fun v_ w_=>v_ = .bool true/\KP (fun _=>False) aO w_) 10 false 13 rfl rfl rfl rfl rfl (LE rfl rfl rfl (fun _ _=>by kernel_rfl) (K4 _) (Lm rfl (Lm rfl (Lm rfl LS))) (ME D 0 16777215  _   ) (fun e_ w_ h_=>⟨_,h_.1,(congrArg Value.bool (decide_eq_true ak)),h_.2⟩)) ?_)))))
     rintro _ aP ⟨rfl,aA⟩
     have aQ:=az.all aA id
     refine KR (.bool false) 10 false 13 rfl rfl rfl rfl rfl (LW rfl rfl rfl rr) (KJ (.bool false) rfl rfl (Lb rfl rfl rfl rr) (KJ (.bool false) rfl rfl (KQ rfl rfl rr) (KR (pt p1 3) 16 false 19 rfl rfl rfl rfl rfl (KT (n:=1) rfl ab Tryz.underlying25 rfl (by kernel_rfl) (by decide) rfl rr) (KR (iv F) 16 false 19 rfl rfl rfl rfl rfl (KV rfl rfl Tryz.underlying3 aQ rfl rfl rr) (LA (R:=fun v_ w_=>v_ = .bool false/\KP (fun _=>False) aP w_) 16 false 19 rfl rfl rfl rfl rfl (LE rfl rfl rfl (fun _ _=>by kernel_rfl) (K4 _) (Lm rfl (Lm rfl (Lm rfl LS))) (ME F 0 1073741824  _   ) (fun e_ w_ h_=>⟨_,h_.1,(congrArg Value.bool (decide_eq_false am)),h_.2⟩)) ?_)))))
     rintro _ bi ⟨rfl,aR⟩
     refine KR (.bool true) 16 false 19 rfl rfl rfl rfl rfl (LW rfl rfl rfl rr) (KJ (.bool true) rfl rfl (Lb rfl rfl rfl rr) (KO ?_))
     have aS:=La (.bool true)
     refine KH ?_
     refine Lc (t:=true) aS (fun _=>?_) (fun e=>by cases e)
     refine KK (KI (KJ (iv 110) rfl rfl (KX rfl rfl rr) (KO ?_)))
     have aT:=La (iv 110)
     refine KH (Ld (Lq ?_))
     exact Lu (v:=iv 110) ah rfl rfl aT ⟨(by first|rw[show PN K Q D F=0 from if_pos (by unfold Od;omega)]|rw[show PN K Q D F=110 from if_neg (by unfold Od;omega)]),((((K7.tr au).tr aw).tr aA).tr aR)⟩
   ·skip
    refine KI (KJ (pt p1 0) rfl rfl (KT (n:=1) rfl ab Tryz.underlying25 rfl (by kernel_rfl) (by decide) rfl rr) (KJ (iv K) rfl rfl (KV rfl rfl Tryz.underlying3 B4 rfl rfl rr) (Ly (R:=fun v_ w_=>v_ = .bool true/\KP (fun _=>False) w2 w_) rfl rfl (LE rfl rfl rfl (fun _ _=>by kernel_rfl) (K4 _) (Lm rfl (Lm rfl (Lm rfl LS))) (ME K 0 2  _   ) (fun e_ w_ h_=>⟨_,h_.1,(congrArg Value.bool (decide_eq_true ai)),h_.2⟩)) ?_)))
    rintro _ aU ⟨rfl,aB⟩
    have aC:=B4.all aB id
    refine KJ (.bool false) rfl rfl (LW rfl rfl rfl rr) (KJ (.bool false) rfl rfl (KQ rfl rfl rr) (KR (pt p1 1) 4 false 7 rfl rfl rfl rfl rfl (KT (n:=1) rfl ab Tryz.underlying25 rfl (by kernel_rfl) (by decide) rfl rr) (KR (iv Q) 4 false 7 rfl rfl rfl rfl rfl (KV rfl rfl Tryz.underlying3 aC rfl rfl rr) (LA (R:=fun v_ w_=>v_ = .bool true/\KP (fun _=>False) aU w_) 4 false 7 rfl rfl rfl rfl rfl (LE rfl rfl rfl (fun _ _=>by kernel_rfl) (K4 _) (Lm rfl (Lm rfl (Lm rfl LS))) (ME Q 0 20  _   ) (fun e_ w_ h_=>⟨_,h_.1,(congrArg Value.bool (decide_eq_true aj)),h_.2⟩)) ?_))))
    rintro _ aV ⟨rfl,aD⟩
    have aW:=aC.all aD id
    refine KR (.bool false) 4 false 7 rfl rfl rfl rfl rfl (LW rfl rfl rfl rr) (KJ (.bool false) rfl rfl (Lb rfl rfl rfl rr) (KJ (.bool false) rfl rfl (KQ rfl rfl rr) (KR (pt p1 2) 10 false 13 rfl rfl rfl rfl rfl (KT (n:=1) rfl ab Tryz.underlying25 rfl (by kernel_rfl) (by decide) rfl rr) (KR (iv D) 10 false 13 rfl rfl rfl rfl rfl (KV rfl rfl Tryz.underlying3 aW rfl rfl rr) (LA (R:=fun v_ w_=>v_ = .bool false/\KP (fun _=>False) aV w_) 10 false 13 rfl rfl rfl rfl rfl (LE rfl rfl rfl (fun _ _=>by kernel_rfl) (K4 _) (Lm rfl (Lm rfl (Lm rfl LS))) (ME D 0 16777215  _   ) (fun e_ w_ h_=>⟨_,h_.1,(congrArg Value.bool (decide_eq_false ak)),h_.2⟩)) ?_)))))
    rintro _ bj ⟨rfl,aX⟩
    refine KR (.bool true) 10 false 13 rfl rfl rfl rfl rfl (LW rfl rfl rfl rr) (KJ (.bool true) rfl rfl (Lb rfl rfl rfl rr) (KJ (.bool true) rfl rfl (KQ rfl rfl rr) (KL 16 false 19 rfl rfl rfl (Or.inl rfl) rfl (KL 16 false 19 rfl rfl rfl (Or.inl rfl) rfl (KL 16 false 19 rfl rfl rfl (Or.inl rfl) rfl (KL 16 false 19 rfl rfl rfl (Or.inl rfl) rfl (KJ (.bool true) rfl rfl (Lg rfl rfl rfl rr) (KO ?_))))))))
    have aY:=La (.bool true)
    refine KH ?_
    refine Lc (t:=true) aY (fun _=>?_) (fun e=>by cases e)
    refine KK (KI (KJ (iv 110) rfl rfl (KX rfl rfl rr) (KO ?_)))
    have aZ:=La (iv 110)
    refine KH (Ld (Lq ?_))
    exact Lu (v:=iv 110) ah rfl rfl aZ ⟨(by first|rw[show PN K Q D F=0 from if_pos (by unfold Od;omega)]|rw[show PN K Q D F=110 from if_neg (by unfold Od;omega)]),(((K7.tr aB).tr aD).tr aX)⟩
  ·skip
   refine KI (KJ (pt p1 0) rfl rfl (KT (n:=1) rfl ab Tryz.underlying25 rfl (by kernel_rfl) (by decide) rfl rr) (KJ (iv K) rfl rfl (KV rfl rfl Tryz.underlying3 B4 rfl rfl rr) (Ly (R:=fun v_ w_=>v_ = .bool true/\KP (fun _=>False) w2 w_) rfl rfl (LE rfl rfl rfl (fun _ _=>by kernel_rfl) (K4 _) (Lm rfl (Lm rfl (Lm rfl LS))) (ME K 0 2  _   ) (fun e_ w_ h_=>⟨_,h_.1,(congrArg Value.bool (decide_eq_true ai)),h_.2⟩)) ?_)))
   rintro _ a8 ⟨rfl,aE⟩
   have a9:=B4.all aE id
   refine KJ (.bool false) rfl rfl (LW rfl rfl rfl rr) (KJ (.bool false) rfl rfl (KQ rfl rfl rr) (KR (pt p1 1) 4 false 7 rfl rfl rfl rfl rfl (KT (n:=1) rfl ab Tryz.underlying25 rfl (by kernel_rfl) (by decide) rfl rr) (KR (iv Q) 4 false 7 rfl rfl rfl rfl rfl (KV rfl rfl Tryz.underlying3 a9 rfl rfl rr) (LA (R:=fun v_ w_=>v_ = .bool false/\KP (fun _=>False) a8 w_) 4 false 7 rfl rfl rfl rfl rfl (LE rfl rfl rfl (fun _ _=>by kernel_rfl) (K4 _) (Lm rfl (Lm rfl (Lm rfl LS))) (ME Q 0 20  _   ) (fun e_ w_ h_=>⟨_,h_.1,(congrArg Value.bool (decide_eq_false aj)),h_.2⟩)) ?_))))
   rintro _ bl ⟨rfl,ba⟩
   refine KR (.bool true) 4 false 7 rfl rfl rfl rfl rfl (LW rfl rfl rfl rr) (KJ (.bool true) rfl rfl (Lb rfl rfl rfl rr) (KJ (.bool true) rfl rfl (KQ rfl rfl rr) (KL 10 false 13 rfl rfl rfl (Or.inl rfl) rfl (KL 10 false 13 rfl rfl rfl (Or.inl rfl) rfl (KL 10 false 13 rfl rfl rfl (Or.inl rfl) rfl (KL 10 false 13 rfl rfl rfl (Or.inl rfl) rfl (KJ (.bool true) rfl rfl (Lg rfl rfl rfl rr) (KJ (.bool true) rfl rfl (KQ rfl rfl rr) (KL 16 false 19 rfl rfl rfl (Or.inl rfl) rfl (KL 16 false 19 rfl rfl rfl (Or.inl rfl) rfl (KL 16 false 19 rfl rfl rfl (Or.inl rfl) rfl ?_)))))))))))
   refine KL 16 false 19 rfl rfl rfl (Or.inl rfl) rfl (KJ (.bool true) rfl rfl (Lg rfl rfl rfl rr) (KO ?_))
   have bb:=La (.bool true)
   refine KH ?_
   refine Lc (t:=true) bb (fun _=>?_) (fun e=>by cases e)
   refine KK (KI (KJ (iv 110) rfl rfl (KX rfl rfl rr) (KO ?_)))
   have bc:=La (iv 110)
   refine KH (Ld (Lq ?_))
   exact Lu (v:=iv 110) ah rfl rfl bc ⟨(by first|rw[show PN K Q D F=0 from if_pos (by unfold Od;omega)]|rw[show PN K Q D F=110 from if_neg (by unfold Od;omega)]),((K7.tr aE).tr ba)⟩
 ·skip
  refine KI (KJ (pt p1 0) rfl rfl (KT (n:=1) rfl ab Tryz.underlying25 rfl (by kernel_rfl) (by decide) rfl rr) (KJ (iv K) rfl rfl (KV rfl rfl Tryz.underlying3 B4 rfl rfl rr) (Ly (R:=fun v_ w_=>v_ = .bool false/\KP (fun _=>False) w2 w_) rfl rfl (LE rfl rfl rfl (fun _ _=>by kernel_rfl) (K4 _) (Lm rfl (Lm rfl (Lm rfl LS))) (ME K 0 2  _   ) (fun e_ w_ h_=>⟨_,h_.1,(congrArg Value.bool (decide_eq_false ai)),h_.2⟩)) ?_)))
  rintro _ bm ⟨rfl,bd⟩
  refine KJ (.bool true) rfl rfl (LW rfl rfl rfl rr) (KJ (.bool true) rfl rfl (KQ rfl rfl rr) (KL 4 false 7 rfl rfl rfl (Or.inl rfl) rfl (KL 4 false 7 rfl rfl rfl (Or.inl rfl) rfl (KL 4 false 7 rfl rfl rfl (Or.inl rfl) rfl (KL 4 false 7 rfl rfl rfl (Or.inl rfl) rfl (KJ (.bool true) rfl rfl (Lg rfl rfl rfl rr) (KJ (.bool true) rfl rfl (KQ rfl rfl rr) (KL 10 false 13 rfl rfl rfl (Or.inl rfl) rfl (KL 10 false 13 rfl rfl rfl (Or.inl rfl) rfl (KL 10 false 13 rfl rfl rfl (Or.inl rfl) rfl (KL 10 false 13 rfl rfl rfl (Or.inl rfl) rfl ?_)))))))))))
  refine KJ (.bool true) rfl rfl (Lg rfl rfl rfl rr) (KJ (.bool true) rfl rfl (KQ rfl rfl rr) (KL 16 false 19 rfl rfl rfl (Or.inl rfl) rfl (KL 16 false 19 rfl rfl rfl (Or.inl rfl) rfl (KL 16 false 19 rfl rfl rfl (Or.inl rfl) rfl (KL 16 false 19 rfl rfl rfl (Or.inl rfl) rfl (KJ (.bool true) rfl rfl (Lg rfl rfl rfl rr) (KO ?_)))))))
  have be:=La (.bool true)
  refine KH ?_
  refine Lc (t:=true) be (fun _=>?_) (fun e=>by cases e)
  refine KK (KI (KJ (iv 110) rfl rfl (KX rfl rfl rr) (KO ?_)))
  have bf:=La (iv 110)
  refine KH (Ld (Lq ?_))
  exact Lu (v:=iv 110) ah rfl rfl bf ⟨(by first|rw[show PN K Q D F=0 from if_pos (by unfold Od;omega)]|rw[show PN K Q D F=110 from if_neg (by unfold Od;omega)]),(K7.tr bd)⟩
end Go.Proofs.YtknjpdcpmpfklaaGreatDoor
set_option maxRecDepth 100000
namespace Go.Proofs.YtknjpdcpmpfklaaGreatDoor
open Go.RowKit
theorem P7:QA Tryz.prog 65 3:=⟨_,Tryz.underlying65,rfl,by kernel_rfl⟩
theorem VP:QA Tryz.prog 58 2:=⟨_,Tryz.underlying58,rfl,by kernel_rfl⟩
theorem Tb:QA Tryz.prog 59 6:=⟨_,Tryz.underlying59,rfl,by kernel_rfl⟩
theorem aB4{W:Int}(h0:0<=W):Int.tdiv W 2=W/2:=Int.tdiv_eq_ediv_of_nonneg h0
theorem aBV{W:Int}{p:Nat}(h0:0<=W)(hp:p≠0):Int.tdiv (W/2) 4=((Lk W p:Nat):Int):=by
 rw[Int.tdiv_eq_ediv_of_nonneg (by omega)];unfold Lk;rw[if_neg hp];omega
theorem QF(W H R B:Int)(f:FD)(f0 f1 f2:Value)(T_f0:Nat->Prop)(T_f1:Nat->Prop)(T_f2:Nat->Prop)(w0:World)(h_f0:L9 w0 T_f0 f0 ((f).p0))(h_f1:L9 w0 T_f1 f1 ((f).p1))(h_f2:L9 w0 T_f2 f2 ((f).p2)) :
  Calls Tryz.prog 16 #[.agg #[.int .i64 (W),.int .i64 (H),.int .i64 (R),.int .i64 (B)],.agg #[.int .i64 ((f).W),.int .i64 ((f).H),f0,f1,f2]] w0 fun e w'=>e = .returned (.bool (decide (MU W H R B f)))/\KP (fun _=>False) w0 w':=by
 refine Ls (args:=[.agg #[iv W,iv H,iv R,iv B],.agg #[iv (f.W),iv (f.H),f0,f1,f2]]) 27 Tryz.func16 rfl rfl (Nat.le_of_ble_eq_true rfl) ?_
 have g_f0:=KS.refl w0 T_f0
 have g_f1:=KS.refl w0 T_f1
 have g_f2:=KS.refl w0 T_f2
 refine KK (KI (Lx (vs:=[iv W,iv H,iv R,iv B]) rfl rfl rfl rfl fun p1 w2 B4 g5 k3=>?_))
 obtain⟨aH,aI,aJ⟩:=ND k3 h_f0 h_f1 h_f2
 refine Lx (vs:=[iv (f.W),iv (f.H),f0,f1,f2]) rfl rfl rfl rfl fun af bh ak bi ar=>?_
 obtain⟨am,an,ao,ab⟩:=OW ar aH aI aJ B4
 have ah:=((KP.refl (fun _=>False) w0).tr k3).tr ar
 refine KJ (.bool false) rfl rfl (KX rfl rfl rr) (KO ?_)
 have ai:=La (undef)
 have aa:=La (pt p1 0)
 have ac:=La (pt af 0)
 refine KH (KK ?_)
 by_cases aj:(OV W H R B)=0
 ·skip
  by_cases ap:(Na f)=0
  ·skip
   by_cases au:W=(f.W)
   ·skip
    refine KI (KJ (.agg #[iv W,iv H,iv R,iv B]) rfl rfl (KU Mw rfl aa ab rr) (LY rfl rfl rfl rfl rfl (fun _ _=>by kernel_rfl) (Lm rfl LS) (UV W H R B  _   ) fun aK av=>?_))
    obtain⟨aL,aM,aN,aO,aw⟩:=OJ av am an ao ab ak
    refine KJ (.bool true) rfl rfl (Mj rfl rfl rfl (decide_eq_true aj) rr) (KJ (.bool true) rfl rfl (KQ rfl rfl rr) (KR (.agg #[iv (f.W),iv (f.H),f0,f1,f2]) 3 true 8 rfl rfl rfl rfl rfl (KU K3 rfl ac aw rr) (LA (R:=fun v_ w_=>v_=iv (Na f)/\KP (fun _=>False) aK w_) 3 true 8 rfl rfl rfl rfl rfl (LE rfl rfl rfl (fun _ _=>by kernel_rfl) (K4 _) (Lm rfl LS) (M0 f f0 f1 f2 T_f0 T_f1 T_f2 _  aL aM aN ) (fun e_ w_ h_=>⟨_,h_.1,rfl,h_.2⟩)) ?_)))
    rintro _ bj ⟨rfl,az⟩
    obtain⟨aA,aB⟩:=NL az aO aw
    refine KR (.bool true) 3 true 8 rfl rfl rfl rfl rfl (Mj rfl rfl rfl (decide_eq_true ap) rr) (KJ (.bool true) rfl rfl (Lg rfl rfl rfl rr) (KJ (.bool true) rfl rfl (KQ rfl rfl rr) (KR (pt p1 0) 8 true 13 rfl rfl rfl rfl rfl (KT (n:=1) rfl aa Tryz.underlying23 rfl (by kernel_rfl) (by decide) rfl rr) (KR (iv W) 8 true 13 rfl rfl rfl rfl rfl (KV rfl rfl Tryz.underlying3 aA rfl rfl rr) (KR (pt af 0) 8 true 13 rfl rfl rfl rfl rfl (KT (n:=1) rfl ac Tryz.underlying29 rfl (by kernel_rfl) (by decide) rfl rr) (KR (iv (f.W)) 8 true 13 rfl rfl rfl rfl rfl (KV rfl rfl Tryz.underlying3 aB rfl rfl rr) (KR (.bool true) 8 true 13 rfl rfl rfl rfl rfl (Mj rfl rfl rfl (decide_eq_true au) rr) (KJ (.bool true) rfl rfl (Lg rfl rfl rfl rr) (KJ (.bool true) rfl rfl (KQ rfl rfl rr) (KR (pt p1 1) 15 true 20 rfl rfl rfl rfl rfl (KT (n:=1) rfl aa Tryz.underlying23 rfl (by kernel_rfl) (by decide) rfl rr) (KR (iv H) 15 true 20 rfl rfl rfl rfl rfl (KV rfl rfl Tryz.underlying3 aA rfl rfl rr) ?_)))))))))))
    refine KR (pt af 1) 15 true 20 rfl rfl rfl rfl rfl (KT (n:=1) rfl ac Tryz.underlying29 rfl (by kernel_rfl) (by decide) rfl rr) (KR (iv (f.H)) 15 true 20 rfl rfl rfl rfl rfl (KV rfl rfl Tryz.underlying3 aB rfl rfl rr) (KR (.bool (decide (H=(f.H)))) 15 true 20 rfl rfl rfl rfl rfl (Mj rfl rfl rfl rfl rr) (KJ (.bool (decide (H=(f.H)))) rfl rfl (Lg rfl rfl rfl rr) (KJ (.bool (decide (H=(f.H)))) rfl rfl (KX rfl rfl rr) (KO ?_)))))
    have aP:=La (.bool (decide (H=(f.H))))
    refine KH (Ld ?_)
    exact Lu (v:=.bool (decide (H=(f.H)))) ai rfl rfl aP ⟨(O9 (S4 (by simp_all))),((ah.tr av).tr az)⟩
   ·skip
    refine KI (KJ (.agg #[iv W,iv H,iv R,iv B]) rfl rfl (KU Mw rfl aa ab rr) (LY rfl rfl rfl rfl rfl (fun _ _=>by kernel_rfl) (Lm rfl LS) (UV W H R B  _   ) fun aQ aC=>?_))
    obtain⟨aR,aS,aT,aU,aD⟩:=OJ aC am an ao ab ak
    refine KJ (.bool true) rfl rfl (Mj rfl rfl rfl (decide_eq_true aj) rr) (KJ (.bool true) rfl rfl (KQ rfl rfl rr) (KR (.agg #[iv (f.W),iv (f.H),f0,f1,f2]) 3 true 8 rfl rfl rfl rfl rfl (KU K3 rfl ac aD rr) (LA (R:=fun v_ w_=>v_=iv (Na f)/\KP (fun _=>False) aQ w_) 3 true 8 rfl rfl rfl rfl rfl (LE rfl rfl rfl (fun _ _=>by kernel_rfl) (K4 _) (Lm rfl LS) (M0 f f0 f1 f2 T_f0 T_f1 T_f2 _  aR aS aT ) (fun e_ w_ h_=>⟨_,h_.1,rfl,h_.2⟩)) ?_)))
    rintro _ bl ⟨rfl,aE⟩
    obtain⟨aV,aW⟩:=NL aE aU aD
    refine KR (.bool true) 3 true 8 rfl rfl rfl rfl rfl (Mj rfl rfl rfl (decide_eq_true ap) rr) (KJ (.bool true) rfl rfl (Lg rfl rfl rfl rr) (KJ (.bool true) rfl rfl (KQ rfl rfl rr) (KR (pt p1 0) 8 true 13 rfl rfl rfl rfl rfl (KT (n:=1) rfl aa Tryz.underlying23 rfl (by kernel_rfl) (by decide) rfl rr) (KR (iv W) 8 true 13 rfl rfl rfl rfl rfl (KV rfl rfl Tryz.underlying3 aV rfl rfl rr) (KR (pt af 0) 8 true 13 rfl rfl rfl rfl rfl (KT (n:=1) rfl ac Tryz.underlying29 rfl (by kernel_rfl) (by decide) rfl rr) (KR (iv (f.W)) 8 true 13 rfl rfl rfl rfl rfl (KV rfl rfl Tryz.underlying3 aW rfl rfl rr) (KR (.bool false) 8 true 13 rfl rfl rfl rfl rfl (Mj rfl rfl rfl (decide_eq_false au) rr) (KJ (.bool false) rfl rfl (Lg rfl rfl rfl rr) (KJ (.bool false) rfl rfl (KQ rfl rfl rr) (KL 15 true 20 rfl rfl rfl (Or.inl rfl) rfl (KL 15 true 20 rfl rfl rfl (Or.inl rfl) rfl ?_)))))))))))
    refine KL 15 true 20 rfl rfl rfl (Or.inl rfl) rfl (KL 15 true 20 rfl rfl rfl (Or.inl rfl) rfl (KL 15 true 20 rfl rfl rfl (Or.inl rfl) rfl (KJ (.bool false) rfl rfl (Lb rfl rfl rfl rr) (KJ (.bool false) rfl rfl (KX rfl rfl rr) (KO ?_)))))
    have aX:=La (.bool false)
    refine KH (Ld ?_)
    exact Lu (v:=.bool false) ai rfl rfl aX ⟨(O9 (S4 (by simp_all))),((ah.tr aC).tr aE)⟩
  ·skip
   refine KI (KJ (.agg #[iv W,iv H,iv R,iv B]) rfl rfl (KU Mw rfl aa ab rr) (LY rfl rfl rfl rfl rfl (fun _ _=>by kernel_rfl) (Lm rfl LS) (UV W H R B  _   ) fun aY aF=>?_))
   obtain⟨aZ,a8,a9,ba⟩:=OW aF am an ao ak
   refine KJ (.bool true) rfl rfl (Mj rfl rfl rfl (decide_eq_true aj) rr) (KJ (.bool true) rfl rfl (KQ rfl rfl rr) (KR (.agg #[iv (f.W),iv (f.H),f0,f1,f2]) 3 true 8 rfl rfl rfl rfl rfl (KU K3 rfl ac ba rr) (LA (R:=fun v_ w_=>v_=iv (Na f)/\KP (fun _=>False) aY w_) 3 true 8 rfl rfl rfl rfl rfl (LE rfl rfl rfl (fun _ _=>by kernel_rfl) (K4 _) (Lm rfl LS) (M0 f f0 f1 f2 T_f0 T_f1 T_f2 _  aZ a8 a9 ) (fun e_ w_ h_=>⟨_,h_.1,rfl,h_.2⟩)) ?_)))
   rintro _ bm ⟨rfl,bb⟩
   refine KR (.bool false) 3 true 8 rfl rfl rfl rfl rfl (Mj rfl rfl rfl (decide_eq_false ap) rr) (KJ (.bool false) rfl rfl (Lg rfl rfl rfl rr) (KJ (.bool false) rfl rfl (KQ rfl rfl rr) (KL 8 true 13 rfl rfl rfl (Or.inl rfl) rfl (KL 8 true 13 rfl rfl rfl (Or.inl rfl) rfl (KL 8 true 13 rfl rfl rfl (Or.inl rfl) rfl (KL 8 true 13 rfl rfl rfl (Or.inl rfl) rfl (KL 8 true 13 rfl rfl rfl (Or.inl rfl) rfl (KJ (.bool false) rfl rfl (Lb rfl rfl rfl rr) (KJ (.bool false) rfl rfl (KQ rfl rfl rr) (KL 15 true 20 rfl rfl rfl (Or.inl rfl) rfl (KL 15 true 20 rfl rfl rfl (Or.inl rfl) rfl ?_)))))))))))
   refine KL 15 true 20 rfl rfl rfl (Or.inl rfl) rfl (KL 15 true 20 rfl rfl rfl (Or.inl rfl) rfl (KL 15 true 20 rfl rfl rfl (Or.inl rfl) rfl (KJ (.bool false) rfl rfl (Lb rfl rfl rfl rr) (KJ (.bool false) rfl rfl (KX rfl rfl rr) (KO ?_)))))
   have bc:=La (.bool false)
   refine KH (Ld ?_)
   exact Lu (v:=.bool false) ai rfl rfl bc ⟨(O9 (S4 (by simp_all))),((ah.tr aF).tr bb)⟩
 ·skip
  refine KI (KJ (.agg #[iv W,iv H,iv R,iv B]) rfl rfl (KU Mw rfl aa ab rr) (LY rfl rfl rfl rfl rfl (fun _ _=>by kernel_rfl) (Lm rfl LS) (UV W H R B  _   ) fun bn bd=>?_))
  refine KJ (.bool false) rfl rfl (Mj rfl rfl rfl (decide_eq_false aj) rr) (KJ (.bool false) rfl rfl (KQ rfl rfl rr) (KL 3 true 8 rfl rfl rfl (Or.inl rfl) rfl (KL 3 true 8 rfl rfl rfl (Or.inl rfl) rfl (KL 3 true 8 rfl rfl rfl (Or.inl rfl) rfl (KJ (.bool false) rfl rfl (Lb rfl rfl rfl rr) (KJ (.bool false) rfl rfl (KQ rfl rfl rr) (KL 8 true 13 rfl rfl rfl (Or.inl rfl) rfl (KL 8 true 13 rfl rfl rfl (Or.inl rfl) rfl (KL 8 true 13 rfl rfl rfl (Or.inl rfl) rfl (KL 8 true 13 rfl rfl rfl (Or.inl rfl) rfl (KL 8 true 13 rfl rfl rfl (Or.inl rfl) rfl ?_)))))))))))
  refine KJ (.bool false) rfl rfl (Lb rfl rfl rfl rr) (KJ (.bool false) rfl rfl (KQ rfl rfl rr) (KL 15 true 20 rfl rfl rfl (Or.inl rfl) rfl (KL 15 true 20 rfl rfl rfl (Or.inl rfl) rfl (KL 15 true 20 rfl rfl rfl (Or.inl rfl) rfl (KL 15 true 20 rfl rfl rfl (Or.inl rfl) rfl (KL 15 true 20 rfl rfl rfl (Or.inl rfl) rfl (KJ (.bool false) rfl rfl (Lb rfl rfl rfl rr) (KJ (.bool false) rfl rfl (KX rfl rfl rr) (KO ?_)))))))))
  have be:=La (.bool false)
  refine KH (Ld ?_)
  exact Lu (v:=.bool false) ai rfl rfl be ⟨(O9 (S4 (by simp_all))),(ah.tr bd)⟩
def Q4(W H R B K Q D F:Int):Int:=if PH W H R B K Q D F then 0 else 110
theorem NU{W H R B K Q D F:Int}(h:¬ PH W H R B K Q D F):Q4 W H R B K Q D F=110:=if_neg h
theorem aBC{W H R B K Q D F:Int}(h:PH W H R B K Q D F):Q4 W H R B K Q D F=0:=if_pos h
theorem Zo{W H R B K Q D F:Int}(h:Q4 W H R B K Q D F=0):PH W H R B K Q D F:=Decidable.byContradiction fun hn=>by rw[NU hn] at h;cases h
theorem Zu{W H R B K Q D F:Int}(h:Q4 W H R B K Q D F≠0):¬ PH W H R B K Q D F:=fun hm=>h (aBC hm)
theorem azB{W H R B:Int}(h:OV W H R B≠0):OV W H R B=110:=by unfold OV at h ⊢;split at h <;> first|exact absurd rfl h|(rename_i hn;exact if_neg hn)
theorem XU{W H R B K Q D F:Int}(h:OV W H R B=0):Q4 W H R B K Q D F=PN K Q D F:=by
 have hs:=aCS h
 unfold Q4 PN
 by_cases hh:Od K Q D F
 ·rw[if_pos hh,if_pos ⟨hs,hh⟩]
 ·rw[if_neg hh,if_neg (fun z=>hh z.2)]
theorem Zg{W H R B K Q D F:Int}(h:OV W H R B≠0):Q4 W H R B K Q D F=OV W H R B:=by
 rw[azB h,NU]
 intro z;exact h (if_pos z.1)
theorem XI(W H R B K Q D F:Int)(w0:World) :
  Calls Tryz.prog 26 #[.agg #[.int .i64 (W),.int .i64 (H),.int .i64 (R),.int .i64 (B)],.agg #[.int .i64 (K),.int .i64 (Q),.int .i64 (D),.int .i64 (F)]] w0 fun e w'=>e = .returned (.int .i64 (Q4 W H R B K Q D F))/\KP (fun _=>False) w0 w':=by
 refine Ls (args:=[.agg #[iv W,iv H,iv R,iv B],.agg #[iv K,iv Q,iv D,iv F]]) 13 Tryz.func26 rfl rfl (Nat.le_of_ble_eq_true rfl) ?_
 refine KK (KI (Lx (vs:=[iv W,iv H,iv R,iv B]) rfl rfl rfl rfl fun p1 w2 B4 g5 k3=>?_))
 refine Lx (vs:=[iv K,iv Q,iv D,iv F]) rfl rfl rfl rfl fun p8 w9 an aD ab=>?_
 have ao:=B4.all ab id
 refine KJ (iv 0) rfl rfl (KX rfl rfl rr) (KO ?_)
 have ac:=La (undef)
 have ap:=La (pt p1 0)
 have aq:=La (pt p8 0)
 refine KH (KK (KK (KI (KJ (.agg #[iv W,iv H,iv R,iv B]) rfl rfl (KU Mw rfl ap ao rr) (LY rfl rfl rfl rfl rfl (fun _ _=>by kernel_rfl) (Lm rfl LS) (UV W H R B  _   ) fun aE ae=>?_)))))
 have ar:=an.all ae id
 have af:=(((KP.refl (fun _=>False) w0).tr k3).tr ab).tr ae
 refine KJ (iv (OV W H R B)) rfl rfl (KX rfl rfl rr) (KO ?_)
 have ah:=La (iv (OV W H R B))
 refine KH (KK (KI (KW rfl rfl rfl ah (KJ (.bool (decide ((OV W H R B)≠0))) rfl rfl (Mc rfl rfl rfl rfl rr) (KO ?_)))))
 have au:=La (.bool (decide ((OV W H R B)≠0)))
 refine KH ?_
 refine Lc au (fun aa=>?_) (fun aa=>?_)
 ·replace aa:=of_decide_eq_true aa
  refine KK (KI (KW rfl rfl rfl ah (KJ (iv (OV W H R B)) rfl rfl (KX rfl rfl rr) (KO ?_))))
  have av:=La (iv (OV W H R B))
  refine KH (Ld (Lq ?_))
  exact Lu (v:=iv (OV W H R B)) ac rfl rfl av ⟨(by first|rw[Zg (by assumption)]|rw[XU (by first|assumption|(apply Decidable.byContradiction;assumption))]),af⟩
 ·replace aa:=of_decide_eq_false aa
  refine Li (KH (KK (KI (KJ (.agg #[iv K,iv Q,iv D,iv F]) rfl rfl (KU Qa rfl aq ar rr) (LY rfl rfl rfl rfl rfl (fun _ _=>by kernel_rfl) (Lm rfl LS) (aBd K Q D F  _   ) fun aF aw=>?_)))))
  refine KJ (iv (PN K Q D F)) rfl rfl (KX rfl rfl rr) (KO ?_)
  have az:=La (iv (PN K Q D F))
  refine KH (Ld ?_)
  exact Lu (v:=iv (PN K Q D F)) ac rfl rfl az ⟨(by first|rw[Zg (by assumption)]|rw[XU (by first|assumption|(apply Decidable.byContradiction;assumption))]),(af.tr aw)⟩
theorem azs(W H R B K:Int)(g:FD)(g0 g1 g2:Value)(h:FD)(h0 h1 h2:Value)(T_g0:Nat->Prop)(T_g1:Nat->Prop)(T_g2:Nat->Prop)(T_h0:Nat->Prop)(T_h1:Nat->Prop)(T_h2:Nat->Prop)(w0:World)(h_g0:L9 w0 T_g0 g0 ((g).p0))(h_g1:L9 w0 T_g1 g1 ((g).p1))(h_g2:L9 w0 T_g2 g2 ((g).p2))(h_h0:L9 w0 T_h0 h0 ((h).p0))(h_h1:L9 w0 T_h1 h1 ((h).p1))(h_h2:L9 w0 T_h2 h2 ((h).p2)) :
  Calls Tryz.prog 41 #[.agg #[.int .i64 (W),.int .i64 (H),.int .i64 (R),.int .i64 (B)],.int .i64 (K),.agg #[.int .i64 ((g).W),.int .i64 ((g).H),g0,g1,g2],.agg #[.int .i64 ((h).W),.int .i64 ((h).H),h0,h1,h2]] w0 fun e w'=>e = .returned (.bool (decide (¬ ((K≠0/\¬ MU W H R B g)\/(K=2/\¬ MU W H R B h)))))/\KP (fun _=>False) w0 w':=by
 refine Ls (args:=[.agg #[iv W,iv H,iv R,iv B],iv K,.agg #[iv (g.W),iv (g.H),g0,g1,g2],.agg #[iv (h.W),iv (h.H),h0,h1,h2]]) 25 Tryz.func41 rfl rfl (Nat.le_of_ble_eq_true rfl) ?_
 have g_g0:=KS.refl w0 T_g0
 have g_g1:=KS.refl w0 T_g1
 have g_g2:=KS.refl w0 T_g2
 have g_h0:=KS.refl w0 T_h0
 have g_h1:=KS.refl w0 T_h1
 have g_h2:=KS.refl w0 T_h2
 refine KK (KI (Lx (vs:=[iv W,iv H,iv R,iv B]) rfl rfl rfl rfl fun p1 w2 B4 g5 k3=>?_))
 obtain⟨aH,aI,aJ,aK,aL,aM⟩:=Qz k3 h_g0 h_g1 h_g2 h_h0 h_h1 h_h2
 refine Lx (vs:=[iv (g.W),iv (g.H),g0,g1,g2]) rfl rfl rfl rfl fun aN bn aO bo ar=>?_
 obtain⟨aP,aQ,aR,aS,aT,aU,aV⟩:=SO ar aH aI aJ aK aL aM B4
 refine Lx (vs:=[iv (h.W),iv (h.H),h0,h1,h2]) rfl rfl rfl rfl fun aW ai au bp av=>?_
 obtain⟨ak,am,an,aw,az,aA,ab,ao⟩:=Xj av aP aQ aR aS aT aU aV aO
 have ac:=(((KP.refl (fun _=>False) w0).tr k3).tr ar).tr av
 refine KJ (.bool false) rfl rfl (KX rfl rfl rr) (KO ?_)
 have aa:=La (iv K)
 have ae:=La (undef)
 have af:=La (pt p1 0)
 have ap:=La (pt aN 0)
 have aB:=La (pt aW 0)
 refine KH (KK ?_)
 by_cases ah:K=0
 ·skip
  by_cases aC:K≠2
  ·skip
   refine KI (KW rfl rfl rfl aa (KJ (.bool true) rfl rfl (Mj rfl rfl rfl (decide_eq_true ah) rr) (KJ (.bool true) rfl rfl (KQ rfl rfl rr) (KL 2 false 11 rfl rfl rfl (Or.inl rfl) rfl (KL 2 false 11 rfl rfl rfl (Or.inl rfl) rfl (KL 2 false 11 rfl rfl rfl (Or.inl rfl) rfl (KJ (.bool true) rfl rfl (Lg rfl rfl rfl rr) (KJ (.bool true) rfl rfl (KQ rfl rfl rr) (KR (iv K) 7 true 16 rfl rfl rfl rfl rfl (KQ rfl aa rr) (KR (.bool true) 7 true 16 rfl rfl rfl rfl rfl (Mc rfl rfl rfl (decide_eq_true aC) rr) (KR (.bool true) 7 true 16 rfl rfl rfl rfl rfl (KQ rfl rfl rr) ?_)))))))))))
   refine KL 10 false 19 rfl rfl rfl (Or.inl rfl) rfl (KL 10 false 19 rfl rfl rfl (Or.inl rfl) rfl (KL 10 false 19 rfl rfl rfl (Or.inl rfl) rfl (KR (.bool true) 7 true 16 rfl rfl rfl rfl rfl (Lg rfl rfl rfl rr) (KJ (.bool true) rfl rfl (Lg rfl rfl rfl rr) (KJ (.bool true) rfl rfl (KX rfl rfl rr) (KO ?_))))))
   have aX:=La (.bool true)
   refine KH (Ld ?_)
   exact Lu (v:=.bool true) ae rfl rfl aX ⟨(O9 (by first|(simp[*];done)|(simp_all;done)|(simp_all;omega))),ac⟩
  ·skip
   refine KI (KW rfl rfl rfl aa (KJ (.bool true) rfl rfl (Mj rfl rfl rfl (decide_eq_true ah) rr) (KJ (.bool true) rfl rfl (KQ rfl rfl rr) (KL 2 false 11 rfl rfl rfl (Or.inl rfl) rfl (KL 2 false 11 rfl rfl rfl (Or.inl rfl) rfl (KL 2 false 11 rfl rfl rfl (Or.inl rfl) rfl (KJ (.bool true) rfl rfl (Lg rfl rfl rfl rr) (KJ (.bool true) rfl rfl (KQ rfl rfl rr) (KR (iv K) 7 true 16 rfl rfl rfl rfl rfl (KQ rfl aa rr) (KR (.bool false) 7 true 16 rfl rfl rfl rfl rfl (Mc rfl rfl rfl (decide_eq_false aC) rr) (KR (.bool false) 7 true 16 rfl rfl rfl rfl rfl (KQ rfl rfl rr) ?_)))))))))))
   refine KR (.agg #[iv W,iv H,iv R,iv B]) 10 false 19 rfl rfl rfl rfl rfl (KU Mw rfl af ab rr) (KR (.agg #[iv (h.W),iv (h.H),h0,h1,h2]) 10 false 19 rfl rfl rfl rfl rfl (KU K3 rfl aB au rr) (LA (R:=fun v_ w_=>v_ = .bool (decide (MU W H R B h))/\KP (fun _=>False) ai w_) 10 false 19 rfl rfl rfl rfl rfl (LE rfl rfl rfl (fun _ _=>by kernel_rfl) (K4 _) (Lm rfl (Lm rfl LS)) (QF W H R B h h0 h1 h2 T_h0 T_h1 T_h2 _  aw az aA ) (fun e_ w_ h_=>⟨_,h_.1,rfl,h_.2⟩)) ?_))
   rintro _ bq ⟨rfl,aY⟩
   refine KR (.bool (decide (MU W H R B h))) 7 true 16 rfl rfl rfl rfl rfl (Lb rfl rfl rfl rr) (KJ (.bool (decide (MU W H R B h))) rfl rfl (Lg rfl rfl rfl rr) (KJ (.bool (decide (MU W H R B h))) rfl rfl (KX rfl rfl rr) (KO ?_)))
   have aZ:=La (.bool (decide (MU W H R B h)))
   refine KH (Ld ?_)
   exact Lu (v:=.bool (decide (MU W H R B h))) ae rfl rfl aZ ⟨(O9 (by first|(simp[*];done)|(simp_all;done)|(simp_all;omega))),(ac.tr aY)⟩
 ·skip
  rcases Bool.eq_false_or_eq_true (decide (MU W H R B g)) with aj|aj
  ·skip
   by_cases aD:K≠2
   ·skip
    refine KI (KW rfl rfl rfl aa (KJ (.bool false) rfl rfl (Mj rfl rfl rfl (decide_eq_false ah) rr) (KJ (.bool false) rfl rfl (KQ rfl rfl rr) (KR (.agg #[iv W,iv H,iv R,iv B]) 2 false 11 rfl rfl rfl rfl rfl (KU Mw rfl af ab rr) (KR (.agg #[iv (g.W),iv (g.H),g0,g1,g2]) 2 false 11 rfl rfl rfl rfl rfl (KU K3 rfl ap ao rr) (LA (R:=fun v_ w_=>v_ = .bool true/\KP (fun _=>False) ai w_) 2 false 11 rfl rfl rfl rfl rfl (LE rfl rfl rfl (fun _ _=>by kernel_rfl) (K4 _) (Lm rfl (Lm rfl LS)) (QF W H R B g g0 g1 g2 T_g0 T_g1 T_g2 _  ak am an ) (fun e_ w_ h_=>⟨_,h_.1,(congrArg Value.bool aj),h_.2⟩)) ?_))))))
    rintro _ bt ⟨rfl,a8⟩
    refine KJ (.bool true) rfl rfl (Lb rfl rfl rfl rr) (KJ (.bool true) rfl rfl (KQ rfl rfl rr) (KR (iv K) 7 true 16 rfl rfl rfl rfl rfl (KQ rfl aa rr) (KR (.bool true) 7 true 16 rfl rfl rfl rfl rfl (Mc rfl rfl rfl (decide_eq_true aD) rr) (KR (.bool true) 7 true 16 rfl rfl rfl rfl rfl (KQ rfl rfl rr) (KL 10 false 19 rfl rfl rfl (Or.inl rfl) rfl (KL 10 false 19 rfl rfl rfl (Or.inl rfl) rfl (KL 10 false 19 rfl rfl rfl (Or.inl rfl) rfl (KR (.bool true) 7 true 16 rfl rfl rfl rfl rfl (Lg rfl rfl rfl rr) (KJ (.bool true) rfl rfl (Lg rfl rfl rfl rr) (KJ (.bool true) rfl rfl (KX rfl rfl rr) (KO ?_)))))))))))
    have a9:=La (.bool true)
    refine KH (Ld ?_)
    exact Lu (v:=.bool true) ae rfl rfl a9 ⟨(O9 (by first|(simp[*];done)|(simp_all;done)|(simp_all;omega))),(ac.tr a8)⟩
   ·skip
    refine KI (KW rfl rfl rfl aa (KJ (.bool false) rfl rfl (Mj rfl rfl rfl (decide_eq_false ah) rr) (KJ (.bool false) rfl rfl (KQ rfl rfl rr) (KR (.agg #[iv W,iv H,iv R,iv B]) 2 false 11 rfl rfl rfl rfl rfl (KU Mw rfl af ab rr) (KR (.agg #[iv (g.W),iv (g.H),g0,g1,g2]) 2 false 11 rfl rfl rfl rfl rfl (KU K3 rfl ap ao rr) (LA (R:=fun v_ w_=>v_ = .bool true/\KP (fun _=>False) ai w_) 2 false 11 rfl rfl rfl rfl rfl (LE rfl rfl rfl (fun _ _=>by kernel_rfl) (K4 _) (Lm rfl (Lm rfl LS)) (QF W H R B g g0 g1 g2 T_g0 T_g1 T_g2 _  ak am an ) (fun e_ w_ h_=>⟨_,h_.1,(congrArg Value.bool aj),h_.2⟩)) ?_))))))
    rintro _ ba ⟨rfl,aE⟩
    obtain⟨bb,bc,bd,be,bf⟩:=OJ aE aw az aA ab au
    refine KJ (.bool true) rfl rfl (Lb rfl rfl rfl rr) (KJ (.bool true) rfl rfl (KQ rfl rfl rr) (KR (iv K) 7 true 16 rfl rfl rfl rfl rfl (KQ rfl aa rr) (KR (.bool false) 7 true 16 rfl rfl rfl rfl rfl (Mc rfl rfl rfl (decide_eq_false aD) rr) (KR (.bool false) 7 true 16 rfl rfl rfl rfl rfl (KQ rfl rfl rr) (KR (.agg #[iv W,iv H,iv R,iv B]) 10 false 19 rfl rfl rfl rfl rfl (KU Mw rfl af be rr) (KR (.agg #[iv (h.W),iv (h.H),h0,h1,h2]) 10 false 19 rfl rfl rfl rfl rfl (KU K3 rfl aB bf rr) (LA (R:=fun v_ w_=>v_ = .bool (decide (MU W H R B h))/\KP (fun _=>False) ba w_) 10 false 19 rfl rfl rfl rfl rfl (LE rfl rfl rfl (fun _ _=>by kernel_rfl) (K4 _) (Lm rfl (Lm rfl LS)) (QF W H R B h h0 h1 h2 T_h0 T_h1 T_h2 _  bb bc bd ) (fun e_ w_ h_=>⟨_,h_.1,rfl,h_.2⟩)) ?_)))))))
    rintro _ bu ⟨rfl,bg⟩
    refine KR (.bool (decide (MU W H R B h))) 7 true 16 rfl rfl rfl rfl rfl (Lb rfl rfl rfl rr) (KJ (.bool (decide (MU W H R B h))) rfl rfl (Lg rfl rfl rfl rr) (KJ (.bool (decide (MU W H R B h))) rfl rfl (KX rfl rfl rr) (KO ?_)))
    have bh:=La (.bool (decide (MU W H R B h)))
    refine KH (Ld ?_)
    exact Lu (v:=.bool (decide (MU W H R B h))) ae rfl rfl bh ⟨(O9 (by first|(simp[*];done)|(simp_all;done)|(simp_all;omega))),((ac.tr aE).tr bg)⟩
  ·skip
   refine KI (KW rfl rfl rfl aa (KJ (.bool false) rfl rfl (Mj rfl rfl rfl (decide_eq_false ah) rr) (KJ (.bool false) rfl rfl (KQ rfl rfl rr) (KR (.agg #[iv W,iv H,iv R,iv B]) 2 false 11 rfl rfl rfl rfl rfl (KU Mw rfl af ab rr) (KR (.agg #[iv (g.W),iv (g.H),g0,g1,g2]) 2 false 11 rfl rfl rfl rfl rfl (KU K3 rfl ap ao rr) (LA (R:=fun v_ w_=>v_ = .bool false/\KP (fun _=>False) ai w_) 2 false 11 rfl rfl rfl rfl rfl (LE rfl rfl rfl (fun _ _=>by kernel_rfl) (K4 _) (Lm rfl (Lm rfl LS)) (QF W H R B g g0 g1 g2 T_g0 T_g1 T_g2 _  ak am an ) (fun e_ w_ h_=>⟨_,h_.1,(congrArg Value.bool aj),h_.2⟩)) ?_))))))
   rintro _ bv ⟨rfl,bi⟩
   refine KJ (.bool false) rfl rfl (Lb rfl rfl rfl rr) (KJ (.bool false) rfl rfl (KQ rfl rfl rr) (KL 7 true 16 rfl rfl rfl (Or.inl rfl) rfl (KL 7 true 16 rfl rfl rfl (Or.inl rfl) rfl (KL 7 true 16 rfl rfl rfl (Or.inl rfl) rfl (KL 10 false 19 rfl rfl rfl (Or.inr rfl) rfl (KL 10 false 19 rfl rfl rfl (Or.inr rfl) rfl (KL 10 false 19 rfl rfl rfl (Or.inr rfl) rfl (KL 7 true 16 rfl rfl rfl (Or.inl rfl) rfl (KJ (.bool false) rfl rfl (Lb rfl rfl rfl rr) (KJ (.bool false) rfl rfl (KX rfl rfl rr) (KO ?_)))))))))))
   have bj:=La (.bool false)
   refine KH (Ld ?_)
   exact Lu (v:=.bool false) ae rfl rfl bj ⟨(O9 (by first|(simp[*];done)|(simp_all;done)|(simp_all;omega))),(ac.tr bi)⟩
theorem Sd(W H R B:Int)(p:Nat)(w0:World)(hs:Pf W H R B) :
  Calls Tryz.prog 58 #[.agg #[.int .i64 (W),.int .i64 (H),.int .i64 (R),.int .i64 (B)],.int .i64 (((p:Nat):Int))] w0 fun e w'=>e = .returned (.tuple #[.int .i64 (((Lk W p:Nat):Int)),.int .i64 (((Lk H p:Nat):Int))])/\KP (fun _=>False) w0 w':=by
 refine Ls (args:=[.agg #[iv W,iv H,iv R,iv B],iv ((p:Nat):Int)]) 22 Tryz.func58 rfl rfl (Nat.le_of_ble_eq_true rfl) ?_
 have hsd:=RV hs
 have hpw:=OC (W:=W) (p:=p) hsd.2.1
 have hph:=OC (W:=H) (p:=p) hsd.2.2.2.2.1
 refine KK (KI (Lx (vs:=[iv W,iv H,iv R,iv B]) rfl rfl rfl rfl fun p1 w2 B4 g5 k3=>?_))
 have K7:=(KP.refl (fun _=>False) w0).tr k3
 refine KJ (iv 0) rfl rfl (KX rfl rfl rr) (KJ (iv 0) rfl rfl (KX rfl rfl rr) (KO ?_))
 have aq:=La (iv ((p:Nat):Int))
 have am:=La (undef)
 have ae:=La (pt p1 0)
 refine KH (KK (KK (KI (KW rfl rfl rfl aq (KJ (.bool (decide (((p:Nat):Int)=0))) rfl rfl (Mj rfl rfl rfl rfl rr) (KO ?_))))))
 have ar:=La (.bool (decide (((p:Nat):Int)=0)))
 refine KH ?_
 refine Lc ar (fun ab=>?_) (fun ab=>?_)
 ·replace ab:=of_decide_eq_true ab
  refine KK ?_
  refine Rd [some 8,some 9,some 10,some 11,some 12,some 13,some 4,some 5] [Pd.eq (pt p1 0),Pd.eq (iv W),Pd.eq (iv ((Lk W p:Nat):Int)),Pd.eq (pt p1 1),Pd.eq (iv H),Pd.eq (iv ((Lk H p:Nat):Int)),Pd.eq (iv ((Lk W p:Nat):Int)),Pd.eq (iv ((Lk H p:Nat):Int))] (by kernel_rfl) (by kernel_rfl) ?_ ?_
  ·refine KN ?_ ?_
   ·refine Le.one rfl fun F_ w_ hR hout hD=>?_
    exact(KT (n:=1) rfl ((hout 2 rfl (by decide)).trans ae) Tryz.underlying23 rfl (by kernel_rfl) (by decide) rfl ⟨rfl,KP.refl _ _⟩)
   refine KN ?_ ?_
   ·refine Le.one rfl fun F_ w_ hR hout hD=>?_
    have g8:F_ 8=pt p1 0:=(hD.get 0 rfl rfl rfl)
    exact(KV rfl g8 Tryz.underlying3 (B4.all hR id) rfl rfl ⟨rfl,KP.refl _ _⟩)
   refine KN ?_ ?_
   ·refine Le.one rfl fun F_ w_ hR hout hD=>?_
    have g9:F_ 9=iv W:=(hD.get 0 rfl rfl rfl)
    exact(Qd rfl g9 rfl (by first|decide|omega) (L2 (aB2 (by omega) (by omega)) (by omega)) ⟨rfl,KP.refl _ _⟩)
   refine KN ?_ ?_
   ·refine Le.one rfl fun F_ w_ hR hout hD=>?_
    exact(KT (n:=1) rfl ((hout 2 rfl (by decide)).trans ae) Tryz.underlying23 rfl (by kernel_rfl) (by decide) rfl ⟨rfl,KP.refl _ _⟩)
   refine KN ?_ ?_
   ·refine Le.one rfl fun F_ w_ hR hout hD=>?_
    have aw:F_ 11=pt p1 1:=(hD.get 0 rfl rfl rfl)
    exact(KV rfl aw Tryz.underlying3 (B4.all hR id) rfl rfl ⟨rfl,KP.refl _ _⟩)
   refine KN ?_ ?_
   ·refine Le.one rfl fun F_ w_ hR hout hD=>?_
    have az:F_ 12=iv H:=(hD.get 0 rfl rfl rfl)
    exact(Qd rfl az rfl (by first|decide|omega) (L2 (aB2 (by omega) (by omega)) (by omega)) ⟨rfl,KP.refl _ _⟩)
   refine KN ?_ ?_
   ·refine Le.one rfl fun F_ w_ hR hout hD=>?_
    have aA:F_ 10=iv ((Lk W p:Nat):Int):=(hD.get 0 rfl rfl rfl)
    exact(KX rfl aA ⟨rfl,KP.refl _ _⟩)
   refine KN ?_ ?_
   ·refine Le.one rfl fun F_ w_ hR hout hD=>?_
    have aB:F_ 13=iv ((Lk H p:Nat):Int):=(hD.get 0 rfl rfl rfl)
    exact(KX rfl aB ⟨rfl,KP.refl _ _⟩)
   exact L3
  intro aU an aV aC ai af
  have aD:=(af 22).trans am
  have aE:an 4=iv ((Lk W p:Nat):Int):=(af 4).trans (ai 6 (by decide))
  have aF:an 5=iv ((Lk H p:Nat):Int):=(af 5).trans (ai 7 (by decide))
  clear ai af
  refine KH (Ld (Lq ?_))
  exact L7 aD rfl (Lz (v:=iv ((Lk W p:Nat):Int)) rfl aE) (Lz (v:=iv ((Lk H p:Nat):Int)) rfl aF) ⟨rfl,(K7.tr aC)⟩
 ·replace ab:=of_decide_eq_false ab
  refine Li (KH (KK ?_))
  refine Rd [some 14,some 15,some 16,some 17,some 18,some 19,some 20,some 21,some 4,some 5] [Pd.eq (pt p1 0),Pd.eq (iv W),Pd.eq (iv (W/2)),Pd.eq (iv ((Lk W p:Nat):Int)),Pd.eq (pt p1 1),Pd.eq (iv H),Pd.eq (iv (H/2)),Pd.eq (iv ((Lk H p:Nat):Int)),Pd.eq (iv ((Lk W p:Nat):Int)),Pd.eq (iv ((Lk H p:Nat):Int))] (by kernel_rfl) (by kernel_rfl) ?_ ?_
  ·refine KN ?_ ?_
   ·refine Le.one rfl fun F_ w_ hR hout hD=>?_
    exact(KT (n:=1) rfl ((hout 2 rfl (by decide)).trans ae) Tryz.underlying23 rfl (by kernel_rfl) (by decide) rfl ⟨rfl,KP.refl _ _⟩)
   refine KN ?_ ?_
   ·refine Le.one rfl fun F_ w_ hR hout hD=>?_
    have aG:F_ 14=pt p1 0:=(hD.get 0 rfl rfl rfl)
    exact(KV rfl aG Tryz.underlying3 (B4.all hR id) rfl rfl ⟨rfl,KP.refl _ _⟩)
   refine KN ?_ ?_
   ·refine Le.one rfl fun F_ w_ hR hout hD=>?_
    have aH:F_ 15=iv W:=(hD.get 0 rfl rfl rfl)
    exact(Qd rfl aH rfl (by first|decide|omega) (Mb (aB4 (by omega)) (by omega)) ⟨rfl,KP.refl _ _⟩)
   refine KN ?_ ?_
   ·refine Le.one rfl fun F_ w_ hR hout hD=>?_
    have aI:F_ 16=iv (W/2):=(hD.get 0 rfl rfl rfl)
    exact(Qd rfl aI rfl (by first|decide|omega) (L2 (aBV (by omega) (by omega)) (by omega)) ⟨rfl,KP.refl _ _⟩)
   refine KN ?_ ?_
   ·refine Le.one rfl fun F_ w_ hR hout hD=>?_
    exact(KT (n:=1) rfl ((hout 2 rfl (by decide)).trans ae) Tryz.underlying23 rfl (by kernel_rfl) (by decide) rfl ⟨rfl,KP.refl _ _⟩)
   refine KN ?_ ?_
   ·refine Le.one rfl fun F_ w_ hR hout hD=>?_
    have aJ:F_ 18=pt p1 1:=(hD.get 0 rfl rfl rfl)
    exact(KV rfl aJ Tryz.underlying3 (B4.all hR id) rfl rfl ⟨rfl,KP.refl _ _⟩)
   refine KN ?_ ?_
   ·refine Le.one rfl fun F_ w_ hR hout hD=>?_
    have aK:F_ 19=iv H:=(hD.get 0 rfl rfl rfl)
    exact(Qd rfl aK rfl (by first|decide|omega) (Mb (aB4 (by omega)) (by omega)) ⟨rfl,KP.refl _ _⟩)
   refine KN ?_ ?_
   ·refine Le.one rfl fun F_ w_ hR hout hD=>?_
    have aL:F_ 20=iv (H/2):=(hD.get 0 rfl rfl rfl)
    exact(Qd rfl aL rfl (by first|decide|omega) (L2 (aBV (by omega) (by omega)) (by omega)) ⟨rfl,KP.refl _ _⟩)
   refine KN ?_ ?_
   ·refine Le.one rfl fun F_ w_ hR hout hD=>?_
    have aM:F_ 17=iv ((Lk W p:Nat):Int):=(hD.get 0 rfl rfl rfl)
    exact(KX rfl aM ⟨rfl,KP.refl _ _⟩)
   refine KN ?_ ?_
   ·refine Le.one rfl fun F_ w_ hR hout hD=>?_
    have aN:F_ 21=iv ((Lk H p:Nat):Int):=(hD.get 0 rfl rfl rfl)
    exact(KX rfl aN ⟨rfl,KP.refl _ _⟩)
   exact L3
  intro aW ao aX aO aj ah
  have aP:=(ah 22).trans am
  have aQ:ao 4=iv ((Lk W p:Nat):Int):=(ah 4).trans (aj 8 (by decide))
  have aR:ao 5=iv ((Lk H p:Nat):Int):=(ah 5).trans (aj 9 (by decide))
  clear aj ah
  refine KH (Ld ?_)
  exact L7 aP rfl (Lz (v:=iv ((Lk W p:Nat):Int)) rfl aQ) (Lz (v:=iv ((Lk H p:Nat):Int)) rfl aR) ⟨rfl,(K7.tr aO)⟩
def ZF(f g h:FD)(p x y:Int)(c:Ch)(q:Int):Int:=if Tu f g h p (4*x) (4*y) c=0 then Qx q else Tu f g h p (4*x) (4*y) c
def VU(f g h:FD)(p x y:Int)(c:Ch)(q:Int):Nat->Int:=if Tu f g h p (4*x) (4*y) c=0 then buB (V9 f g h p (4*x) (4*y) c) c.b q else fun _=>0
theorem aza{f g h:FD}{p x y:Int}{c:Ch}{q:Int}(e:Tu f g h p (4*x) (4*y) c=0):ZF f g h p x y c q=Qx q/\VU f g h p x y c q=buB (V9 f g h p (4*x) (4*y) c) c.b q:=⟨if_pos e,if_pos e⟩
theorem aDm{f g h:FD}{p x y:Int}{c:Ch}{q:Int}(e:Tu f g h p (4*x) (4*y) c≠0):ZF f g h p x y c q=Tu f g h p (4*x) (4*y) c/\VU f g h p x y c q=fun _=>0:=⟨if_neg e,if_neg e⟩
theorem aBt(p x y q:Int)(c:Ch)(f:FD)(f0 f1 f2:Value)(g:FD)(g0 g1 g2:Value)(h:FD)(h0 h1 h2:Value)(T_f0:Nat->Prop)(T_f1:Nat->Prop)(T_f2:Nat->Prop)(T_g0:Nat->Prop)(T_g1:Nat->Prop)(T_g2:Nat->Prop)(T_h0:Nat->Prop)(T_h1:Nat->Prop)(T_h2:Nat->Prop)(w0:World)(hA:NP w0)(hs:NY w0)(hw:Qi w0)(hx:0<=x/\x<=16)(hy:0<=y/\y<=256)(h_f0:L9 w0 T_f0 f0 ((f).p0))(h_f1:L9 w0 T_f1 f1 ((f).p1))(h_f2:L9 w0 T_f2 f2 ((f).p2))(h_g0:L9 w0 T_g0 g0 ((g).p0))(h_g1:L9 w0 T_g1 g1 ((g).p1))(h_g2:L9 w0 T_g2 g2 ((g).p2))(h_h0:L9 w0 T_h0 h0 ((h).p0))(h_h1:L9 w0 T_h1 h1 ((h).p1))(h_h2:L9 w0 T_h2 h2 ((h).p2)) :
  Calls Tryz.prog 42 #[.agg #[.int .i64 ((f).W),.int .i64 ((f).H),f0,f1,f2],.agg #[.int .i64 ((g).W),.int .i64 ((g).H),g0,g1,g2],.agg #[.int .i64 ((h).W),.int .i64 ((h).H),h0,h1,h2],.agg #[.int .i64 (p),.int .i64 (x),.int .i64 (y)],.agg (O1 (c)).toArray,.int .i64 (q)] w0 fun e w'=>e = .returned (.tuple #[LK (VU f g h p x y c q),.int .i64 (ZF f g h p x y c q)])/\KP (fun _=>False) w0 w':=by
 refine Ls (args:=[.agg #[iv (f.W),iv (f.H),f0,f1,f2],.agg #[iv (g.W),iv (g.H),g0,g1,g2],.agg #[iv (h.W),iv (h.H),h0,h1,h2],.agg #[iv p,iv x,iv y],.agg (O1 c).toArray,iv q]) 42 Tryz.func42 rfl rfl (Nat.le_of_ble_eq_true rfl) ?_
 have g_f0:=KS.refl w0 T_f0
 have g_f1:=KS.refl w0 T_f1
 have g_f2:=KS.refl w0 T_f2
 have g_g0:=KS.refl w0 T_g0
 have g_g1:=KS.refl w0 T_g1
 have g_g2:=KS.refl w0 T_g2
 have g_h0:=KS.refl w0 T_h0
 have g_h1:=KS.refl w0 T_h1
 have g_h2:=KS.refl w0 T_h2
 refine KK (KI (Lx (vs:=[iv (f.W),iv (f.H),f0,f1,f2]) rfl rfl rfl rfl fun p1 w2 B4 g5 k3=>?_))
 obtain⟨aQ,aR,aS,aT,aU,aV,aW,aX,aY⟩:=X9 k3 h_f0 h_f1 h_f2 h_g0 h_g1 h_g2 h_h0 h_h1 h_h2
 refine Lx (vs:=[iv (g.W),iv (g.H),g0,g1,g2]) rfl rfl rfl rfl fun aZ cT a8 cU ak=>?_
 obtain⟨a9,ba,bb,bc,bd,be,bf,bg,bh,bi⟩:=Sn ak aQ aR aS aT aU aV aW aX aY B4
 refine Lx (vs:=[iv (h.W),iv (h.H),h0,h1,h2]) rfl rfl rfl rfl fun bj cV bl cW am=>?_
 obtain⟨bm,bn,bo,bp,bq,bt,bu,bv,bz,bA,bB⟩:=Oa am a9 ba bb bc bd be bf bg bh bi a8
 refine Lx (vs:=[iv p,iv x,iv y]) rfl rfl rfl rfl fun ab cX bC cY an=>?_
 obtain⟨bD,bE,bF,bG,bH,bI,bJ,bK,bL,bM,bN,bO⟩:=azK an bm bn bo bp bq bt bu bv bz bA bB bl
 refine Lx (vs:=(O1 c)) rfl rfl rfl rfl fun ao cZ bP c5 ap=>?_
 obtain⟨bQ,bR,bS,bT,bU,bV,bW,bX,bY,bZ,b7,b8,b9⟩:=Uo ap bD bE bF bG bH bI bJ bK bL bM bN bO bC
 have aq:=(((((KP.refl (fun _=>False) w0).tr k3).tr ak).tr am).tr an).tr ap
 refine L1 rfl rfl rfl KZ.2.2 fun ar c6 au cd av=>?_
 have aw:=LV (Nat.le_of_eq au.symm)
 have az:=KS.new aq aw
 clear au aw
 obtain⟨ce,cf,cg,ci,cj,cm,cn,co,cq,cr,ct,cu,af,aA⟩:=OB av bQ bR bS bT bU bV bW bX bY bZ b7 b8 b9 bP
 have aB:=aq.tr av
 refine KJ (iv 0) rfl rfl (KX rfl rfl rr) (KO ?_)
 have cv:=La (iv q)
 have aC:=La (undef)
 have cw:=La (pt p1 0)
 have cy:=La (pt aZ 0)
 have cz:=La (pt bj 0)
 have ah:=La (pt ab 0)
 have aD:=La (pt ao 0)
 have ac:=La (pt ar 0)
 refine KH (KK (KI (KJ (.agg #[iv (f.W),iv (f.H),f0,f1,f2]) rfl rfl (KU K3 rfl cw cr rr) (KJ (.agg #[iv (g.W),iv (g.H),g0,g1,g2]) rfl rfl (KU K3 rfl cy ct rr) (KJ (.agg #[iv (h.W),iv (h.H),h0,h1,h2]) rfl rfl (KU K3 rfl cz cu rr) (KJ (pt ab 0) rfl rfl (KT (n:=1) rfl ah Tryz.underlying65 rfl (by kernel_rfl) (by decide) rfl rr) (KJ (iv p) rfl rfl (KV rfl rfl Tryz.underlying3 af rfl rfl rr) (KJ (pt ab 1) rfl rfl (KT (n:=1) rfl ah Tryz.underlying65 rfl (by kernel_rfl) (by decide) rfl rr) (KJ (iv x) rfl rfl (KV rfl rfl Tryz.underlying3 af rfl rfl rr) (KJ (iv (4*x)) rfl rfl (NH rfl rfl rfl (Mb rfl (by omega)) rr) (KJ (pt ab 2) rfl rfl (KT (n:=1) rfl ah Tryz.underlying65 rfl (by kernel_rfl) (by decide) rfl rr) ?_)))))))))))
 refine KJ (iv y) rfl rfl (KV rfl rfl Tryz.underlying3 af rfl rfl rr) (KJ (iv (4*y)) rfl rfl (NH rfl rfl rfl (Mb rfl (by omega)) rr) (KJ (.agg (O1 c).toArray) rfl rfl (KU LH rfl aD aA rr) (LY rfl rfl rfl rfl rfl (fun _ _=>by kernel_rfl) (Lm rfl (Lm rfl (Lm rfl (Lm rfl (Lm rfl (Lm rfl (Lm rfl LS))))))) (YN p (4*x) (4*y) c f f0 f1 f2 g g0 g1 g2 h h0 h1 h2 T_f0 T_f1 T_f2 T_g0 T_g1 T_g2 T_h0 T_h1 T_h2 _ (hA.all aB) ce cf cg ci cj cm cn co cq ) fun c7 aE=>?_)))
 obtain⟨aF,aG⟩:=NL aE aA cd
 have aH:=aB.tr aE
 refine KJ (.tuple #[LK (V9 f g h p (4*x) (4*y) c),iv (Tu f g h p (4*x) (4*y) c)]) rfl rfl (KQ rfl rfl rr) (KJ (LK (V9 f g h p (4*x) (4*y) c)) rfl rfl (LM rfl rfl rfl rr) (KJ (iv (Tu f g h p (4*x) (4*y) c)) rfl rfl (LM rfl rfl rfl rr) (L1 rfl rfl rfl KZ.2.2 fun cA c9 aI cB aJ=>?_)))
 have aK:=LV (Nat.le_of_eq aI.symm)
 obtain⟨cC,cD⟩:=S3 aK aF aG
 clear aI
 obtain⟨cE,cF⟩:=NL aJ aF aG
 refine Lp KZ rfl rfl rfl rfl rfl cB fun da cG ai=>?_
 have cH:=cE.all ai (cC.symm ao rfl)
 have aL:=cF.all ai (cD.symm ar rfl)
 have ae:=(aH.tr aJ).trans ai (KS.ok (S:=fun _=>False) (KS.new aH aK) K6)
 refine KJ (iv (Tu f g h p (4*x) (4*y) c)) rfl rfl (KX rfl rfl rr) (KO ?_)
 have cI:=La (pt cA 0)
 have aM:=La (iv (Tu f g h p (4*x) (4*y) c))
 refine KH (KK (KK (KI (KW rfl rfl rfl aM (KJ (.bool (decide ((Tu f g h p (4*x) (4*y) c)≠0))) rfl rfl (Mc rfl rfl rfl rfl rr) (KO ?_))))))
 have cJ:=La (.bool (decide ((Tu f g h p (4*x) (4*y) c)≠0)))
 refine KH ?_
 refine Lc cJ (fun aa=>?_) (fun aa=>?_)
 ·replace aa:=of_decide_eq_true aa
  refine KK ?_
  have hR:=aDm (q:=q) (show Tu f g h p (4*x) (4*y) c≠0 from by assumption)
  refine KI (KJ (LK (fun _=>0)) rfl rfl (Mz (cells:=(L8 16 (fun _=>0)).toArray) rfl (by kernel_rfl) rfl rr) (KW rfl rfl rfl aM (Lp KZ rfl rfl rfl ac rfl aL fun db cK cL=>?_)))
  refine KJ (iv (Tu f g h p (4*x) (4*y) c)) rfl rfl (KX rfl rfl rr) (KO ?_)
  have cM:=La (iv (Tu f g h p (4*x) (4*y) c))
  refine KH (Ld (Lq ?_))
  exact L7 aC rfl (Mq KZ rfl ac cK) (Lz (v:=iv (Tu f g h p (4*x) (4*y) c)) rfl cM) ⟨(by rw[hR.1,hR.2] <;> rfl),(ae.trans cL (KS.ok (S:=fun _=>False) az K6))⟩
 ·replace aa:=of_decide_eq_false aa
  refine Li (KH (KK ?_))
  have hR:=aza (q:=q) (show Tu f g h p (4*x) (4*y) c=0 from by first|assumption|(apply Decidable.byContradiction;assumption))
  refine KI (KJ (LK (V9 f g h p (4*x) (4*y) c)) rfl rfl (LZ KZ rfl cI cG rr) (KJ (.agg (O1 c).toArray) rfl rfl (KU LH rfl aD cH rr) (KW rfl rfl rfl cv (LY rfl rfl rfl rfl rfl (fun _ _=>by kernel_rfl) (Lm rfl (Lm rfl (Lm rfl LS))) (azG (V9 f g h p (4*x) (4*y) c) c q  _ (hs.all ae) (hw.all ae)  ) fun dc aN=>?_))))
  have cN:=aL.all aN id
  refine KJ (LK (buB (V9 f g h p (4*x) (4*y) c) c.b q)) rfl rfl (LM rfl rfl rfl rr) (KJ (iv (Qx q)) rfl rfl (LM rfl rfl rfl rr) (Lp KZ rfl rfl rfl ac rfl cN fun dd cO cP=>?_))
  refine KJ (iv (Qx q)) rfl rfl (KX rfl rfl rr) (KO ?_)
  have cQ:=La (iv (Qx q))
  refine KH (Ld ?_)
  exact L7 aC rfl (Mq KZ rfl ac cO) (Lz (v:=iv (Qx q)) rfl cQ) ⟨(by rw[hR.1,hR.2] <;> rfl),((ae.tr aN).trans cP (KS.ok (S:=fun _=>False) az K6))⟩
end Go.Proofs.YtknjpdcpmpfklaaGreatDoor
set_option maxRecDepth 100000
namespace Go.Proofs.YtknjpdcpmpfklaaGreatDoor
open Go.RowKit
theorem Yz{lo:Option Nat}{P:Program}{ops:Array Oper}{Q:Exit->Act->World->Prop}{a0:Act}(D:List (Option Tmp))(J:(Nat->Bool)->(Nat->Value)->World->Prop)
  (hpl:plain a0.tmps.size 0 D ops.toList=true) (hsteps:QT ops.toList P D J a0 0 ops.toList)
  (hend:∀ (L:Nat->Bool) (v:Nat->Value) (w:World),J L v w->(∀ i,i<ops.size->L i=true)->Q .normal (Mr v 0 D a0) w) :
  ∀ (fuel:Nat) (listed:Array Bool) (v:Nat->Value) (a:Act) (w:World),ZU ops D J a0 v listed a w->(fuel=0->Region.ready .any ops listed=[]) →
   (List.range ops.size).countP (fun i => !listed.getD i false)<=fuel->wpAnyIn (VW lo) 0 P .any ops Q fuel listed a w:=by
 obtain⟨hDl,hpa⟩:=RQ hpl
 have hlen:D.length=ops.size:=by simpa using hDl
 have hback:∀ (k:Nat) (o:Oper),ops[k]? = some o->∀ e∈o.after.toList,Region.binds .any e=true->e.on<k:=by
  intro k o hk e he hb
  have:=(hpa k o (by simpa using hk)).2.2 e he hb
  omega
 have fin:∀ (listed:Array Bool) (v:Nat->Value) (a:Act) (w:World),ZU ops D J a0 v listed a w->Region.ready .any ops listed=[]->Q .normal a w:=by
  intro listed v a w hm hr
  have hall:=Qe hback hr hm.ls
  have hp:=O3 v D 0 a0
  have ha:a=Mr v 0 D a0:=by
   have ht:a.tmps=(Mr v 0 D a0).tmps:=by
    apply Array.ext
    ·rw[hm.size,hp.1]
    ·intro t h1 h2
     have e:a.tmps.getD t undef=(Mr v 0 D a0).tmps.getD t undef:=by
      by_cases hmem:some t∈D
      ·obtain⟨j,hj⟩:=List.mem_iff_getElem?.1 hmem
       have hjs:j<ops.size:=by rw[← hlen];exact(List.getElem?_eq_some_iff.1 hj).1
       obtain⟨g1,g2,_⟩:=hpa j ops[j] (by simp[hjs])
       have hdst:ops[j].dst=some t:=by rw[hj] at g1;exact(Option.some.inj g1).symm
       obtain⟨k1,k2⟩:=g2 t hdst
       rw[hm.here j t (hall j hjs) hj,hp.2.2.2 j t hj k2 k1,Nat.zero_add]
      ·rw[hp.2.2.1 t hmem,hm.out t (fun j _ hj=>hmem (List.mem_of_getElem? hj))]
     simpa [Array.getD_eq_getD_getElem?,h1,h2] using e
   have hd:a.defers=(Mr v 0 D a0).defers:=by rw[hm.defers,hp.2.1]
   cases a
   cases hq:Mr v 0 D a0
   rw[hq] at ht hd
   simp only at ht hd
   rw[ht,hd]
  rw[ha]
  exact hend _ v w hm.good hall
 intro fuel
 induction fuel with
 | zero =>
  intro listed v a w hm h0 _
  exact⟨h0 rfl,fin listed v a w hm (h0 rfl)⟩
 | succ fuel ih =>
  intro listed v a w hm _ hcount
  refine⟨fin listed v a w hm,fun i hi=>?_⟩
  obtain⟨hlt,hnl,o,ho,haft⟩:=M7 hi
  have hlsz:i<listed.size:=by rw[hm.ls];exact hlt
  have hnl':listed.getD i false=false:=by simpa [Array.getD,hlsz] using hnl
  obtain⟨g1,g2,g3⟩:=hpa i o (by simpa using ho)
  have hstep:=hsteps.at i o (by simpa using ho)
  rw[Nat.zero_add] at hstep
  have hout:∀ t,some t∉D->a.eval (.tmp t)=a0.eval (.tmp t):=fun t ht=>hm.out t (fun j _ hj=>ht (List.mem_of_getElem? hj))
  have hlate:∀ t,aAQ ops.toList t i=true->a.eval (.tmp t)=a0.eval (.tmp t):=by
   intro t ht
   refine hm.out t fun j hj hD=>?_
   have hjs:j<ops.size:=by rw[← hlen];exact(List.getElem?_eq_some_iff.1 hD).1
   obtain⟨k1,_,_⟩:=hpa j ops[j] (by simp[hjs])
   have hdst:ops[j].dst=some t:=by rw[hD] at k1;exact(Option.some.inj k1).symm
   unfold aAQ at ht
   have h1:=List.all_eq_true.1 ht ops[j] (by simp)
   simp only[hdst,bne_self_eq_false,Bool.false_or] at h1
   obtain⟨e,he,hb⟩:=List.any_eq_true.1 h1
   simp only[Bool.and_eq_true,beq_iff_eq] at hb
   have h2:=hm.cl j ops[j] (by simp[hjs]) hj e he hb.1
   rw[hb.2,hnl'] at h2
   cases h2
  obtain⟨s1,s2⟩:=hstep (fun j=>listed.getD j false) v a w hm.good hnl' haft hout (fun j d hj hD=>hm.here j d hj hD) hlate
  -- what is left when it answers x in the world w'
  have next:∀ (x:Value) (w':World),J (Rs (fun j=>listed.getD j false) i) (UE v i x) w'->wpAnyIn (VW lo) 0 P .any ops Q fuel (listed.setIfInBounds i true) (a.put o.dst x) w':=by
   intro x w' hJ
   have hcnt:(List.range ops.size).countP (fun j => !(listed.setIfInBounds i true).getD j false)<=fuel:=by
    have h1:(List.range ops.size).countP (fun j => !(listed.setIfInBounds i true).getD j false)<(List.range ops.size).countP (fun j => !listed.getD j false):=by
     have hmemi:i∈List.range ops.size:=by simpa using hlt
     have key:∀ (l:List Nat),i∈l->(∀ j,(!(listed.setIfInBounds i true).getD j false)=true->(!listed.getD j false)=true)->l.countP (fun j => !(listed.setIfInBounds i true).getD j false)<l.countP (fun j => !listed.getD j false):=by
      intro l
      induction l with
      | nil=>intro h;cases h
      | cons y r ihl =>
       intro hy himp
       have hle:r.countP (fun j => !(listed.setIfInBounds i true).getD j false)<=r.countP (fun j => !listed.getD j false):=List.countP_mono_left fun j _ hj=>himp j hj
       by_cases hyi:y=i
       ·subst hyi
        have e1:(!(listed.setIfInBounds y true).getD y false)=false:=by rw[Lw _ _ _ hlsz,if_pos rfl];rfl
        have e2:(!listed.getD y false)=true:=by rw[hnl'];rfl
        rw[List.countP_cons,List.countP_cons]
        simp only[e1,e2,if_true,Bool.false_eq_true,if_false]
        omega
       ·have hir:i∈r:=by
         rcases List.mem_cons.1 hy with h|h
         ·exact absurd h.symm hyi
         ·exact h
        have:=ihl hir himp
        rw[List.countP_cons,List.countP_cons]
        have e3:(listed.setIfInBounds i true).getD y false=listed.getD y false:=by rw[Lw _ _ _ hlsz,if_neg hyi]
        rw[e3];omega
     refine key _ hmemi fun j hj=>?_
     rw[Lw _ _ _ hlsz] at hj
     by_cases hji:j=i
     ·rw[if_pos hji] at hj;cases hj
     ·rwa [if_neg hji] at hj
    omega
   have hmid:ZU ops D J a0 (UE v i x) (listed.setIfInBounds i true) (a.put o.dst x) w':=by
    refine⟨?_,by simpa using hm.ls,?_,?_,?_,?_,?_⟩
    ·rw[← hm.size];cases o.dst <;> simp[Act.put]
    ·rw[← hm.defers];cases o.dst <;> rfl
    ·intro t ht
     have hold:=hm.out t (fun j hj=>ht j (by rw[Lw _ _ _ hlsz];split <;> first|rfl|exact hj))
     have hne:o.dst≠some t:=by
      intro e
      exact ht i (by rw[Lw _ _ _ hlsz,if_pos rfl]) (by rw[g1,e])
     rw[← hold]
     cases hd:o.dst with
     | none=>rfl
     | some d =>
      have:d≠t:=fun e=>hne (by rw[hd,e])
      simp only[Act.put,Array.getD_eq_getD_getElem?,Array.getElem?_setIfInBounds_ne this]
    ·intro j d hj hD
     by_cases hji:j=i
     ·subst hji
      have hd:o.dst=some d:=by rw[g1] at hD;exact Option.some.inj hD
      have hsz:d<a.tmps.size:=by rw[hm.size];exact(g2 d hd).1
      simp[hd,Act.put,Array.getD_eq_getD_getElem?,hsz,UE]
     ·rw[Lw _ _ _ hlsz,if_neg hji] at hj
      have hold:=hm.here j d hj hD
      rw[show UE v i x j=v j from if_neg hji,← hold]
      cases hd:o.dst with
      | none=>rfl
      | some y =>
       have hne:y≠d:=by
        rintro rfl
        rw[hd] at g1
        rcases Nat.lt_or_gt_of_ne hji with hlt2|hgt2
        ·have hjs:j<ops.size:=by rw[← hlen];exact(List.getElem?_eq_some_iff.1 hD).1
         obtain⟨k1,k2,_⟩:=hpa j ops[j] (by simp[hjs])
         have hdst:ops[j].dst=some y:=by rw[hD] at k1;exact(Option.some.inj k1).symm
         exact(k2 y hdst).2 i hlt2 g1
        ·exact(g2 y hd).2 j hgt2 hD
       simp only[Act.put,Array.getD_eq_getD_getElem?,Array.getElem?_setIfInBounds_ne hne]
    ·have e:(fun j=>(listed.setIfInBounds i true).getD j false)=Rs (fun j=>listed.getD j false) i:=by
      funext j;exact Lw _ _ _ hlsz
     rw[e];exact hJ
    ·intro k o' hk hl e he hb
     rw[Lw _ _ _ hlsz] at hl ⊢
     by_cases hee:e.on=i
     ·rw[if_pos hee]
     ·rw[if_neg hee]
      by_cases hki:k=i
      ·subst hki
       rw[ho] at hk
       cases hk
       exact haft e he hb
      ·rw[if_neg hki] at hl
       exact hm.cl k o' hk hl e he hb
   refine ih _ _ _ _ hmid ?_ hcnt
   intro hz
   subst hz
   have hz0:(List.range ops.size).countP (fun j => !(listed.setIfInBounds i true).getD j false)=0:=by omega
   rw[List.countP_eq_zero] at hz0
   cases hr:Region.ready .any ops (listed.setIfInBounds i true) with
   | nil=>rfl
   | cons y r =>
    have hy:y∈Region.ready .any ops (listed.setIfInBounds i true):=by rw[hr];simp
    obtain⟨q1,q2,_⟩:=M7 hy
    have:=hz0 y (by simpa using q1)
    have hys:y<(listed.setIfInBounds i true).size:=by simp[hm.ls];exact q1
    have q3:(listed.setIfInBounds i true).getD y false=false:=by rw[← Pi _ y hys];exact q2
    rw[q3] at this
    exact absurd rfl this
  have hwant:Region.wanted o (yielded ops a.tmps)=PW D o a:=by
   unfold Region.wanted PW
   cases hg:o.guard with
   | none=>rfl
   | some p =>
    obtain⟨j,want⟩:=p
    simp only[yielded]
    by_cases hj:j<ops.size
    ·obtain⟨k1,k2,_⟩:=hpa j ops[j] (by simp[hj])
     have hDj:D.getD j none=ops[j].dst:=by simp[List.getD,k1]
     rw[hDj]
     simp only[Array.getElem?_eq_getElem hj,Option.bind_some]
     cases hd:ops[j].dst with
     | none=>simp
     | some d =>
      have hsz:d<a.tmps.size:=by rw[hm.size];exact(k2 d hd).1
      simp only[Option.bind_some,Array.getElem?_eq_getElem hsz]
      have he:a.eval (.tmp d)=a.tmps[d]:=by simp[Act.eval,Array.getD,hsz]
      rw[he]
      cases a.tmps[d] <;> simp
    ·have hDj:D.getD j none=none:=by simp[List.getD,List.getElem?_eq_none (show D.length<=j by omega)]
     rw[hDj]
     simp[Array.getElem?_eq_none (show ops.size<=j by omega)]
  unfold wpOpIn
  rw[ho]
  simp only[hwant]
  cases hgo:PW D o a with
  | true =>
   simp only[if_true]
   refine Lj.wpIn (l:=lo) ?_
   have:=s1 hgo
   revert this
   unfold Lj
   generalize (execOp a.eval o).run P w=res
   intro h
   cases res with
   | ok n w' =>
    cases n <;> simp only at h ⊢ <;> first
     | exact next _ _ h
     | exact h.elim
     | exact Calls.mono h (fun e w'' ⟨y,he,hk⟩=>⟨y,he,next _ _ hk⟩)
   | halt y w'=>exact h.elim
  | false =>
   simp only[Bool.false_eq_true,if_false]
   exact⟨fun f _=>WC _ f,next undef w (s2 hgo)⟩
theorem Ut{lo:Option Nat}{P:Program}{id:Nat}{ops:Array Oper}{Q:Exit->Act->World->Prop}{a0:Act}{w0:World}(D:List (Option Tmp))(J:(Nat->Bool)->(Nat->Value)->World->Prop)
  (hm:P.follows .mixedOrders=true) (hpl:plain a0.tmps.size 0 D ops.toList=true) (h0:J (fun _=>false) (fun _=>undef) w0.drew) (hsteps:QT ops.toList P D J a0 0 ops.toList)
  (hend:∀ (L:Nat->Bool) (v:Nat->Value) (w:World),J L v w->(∀ i,i<ops.size->L i=true)->Q .normal (Mr v 0 D a0) w):(Code.region id ops true).wpIn (VW lo) 0 P Q a0 w0:=by
 refine wpIn_region_any hm ?_
 have hno:∀ j,(Array.replicate ops.size false).getD j false=false:=by
  intro j
  by_cases h:j<ops.size <;> simp[Array.getD,h]
 refine Yz D J hpl hsteps hend ops.size _ (fun _=>undef) a0 _ ⟨rfl,by simp,rfl,fun _ _=>rfl,fun j _ hj=>?_,?_,fun k _ _ hl=>?_⟩ ?_ ?_
 ·rw[hno] at hj;cases hj
 ·have e:(fun j=>(Array.replicate ops.size false).getD j false)=fun _=>false:=funext hno
  rw[e];exact h0
 ·rw[hno] at hl;cases hl
 ·intro h0
  cases hr:Region.ready .any ops (Array.replicate ops.size false) with
  | nil=>rfl
  | cons y r =>
   have hy:y∈Region.ready .any ops (Array.replicate ops.size false):=by rw[hr];simp
   have:=(M7 hy).1
   omega
 ·exact Nat.le_trans (List.countP_le_length) (by simp)
end Go.Proofs.YtknjpdcpmpfklaaGreatDoor
