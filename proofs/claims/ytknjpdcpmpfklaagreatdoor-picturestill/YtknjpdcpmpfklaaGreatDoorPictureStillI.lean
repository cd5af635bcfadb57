/- What PictureStill reaches of my texts, part 9. -/
import Derived.Test.YtknjpdcpmpfklaaGreatDoorPictureStillH
set_option maxRecDepth 100000
set_option maxHeartbeats 4000000
set_option maxRecDepth 100000
namespace Go.Proofs.YtknjpdcpmpfklaaGreatDoor
open Go.RowKit
instance {w w':World} {D:Nat}:Cr w w' (VP w D) (VP w' D):=⟨fun h k=>h.all k id⟩
theorem TW(W H R B K Q D F:Int)(v:Value)(l:List Nat)(T_b:Nat->Prop)(w0:World)(hA:Og w0)(hO:OX w0)(hl:l.length<=1001)(h_b:Mv w0 T_b v (l)) :
  Calls Tryz.prog 10 #[.agg #[.int .i64 (W),.int .i64 (H),.int .i64 (R),.int .i64 (B)],.agg #[.int .i64 (K),.int .i64 (Q),.int .i64 (D),.int .i64 (F)],v] w0 fun e w'=>∃ (v1:Value) (T1:Nat->Prop),e = .returned (.tuple #[v1,.int .i64 ((O2 l W H R B K Q D F).2)])/\KR (fun _=>False) w0 w'/\(RP VD w' T1 v1 ((O2 l W H R B K Q D F).1)/\KS w0 Mb T1):=by
 refine Zq (args:=[.agg #[iv W,iv H,iv R,iv B],.agg #[iv K,iv Q,iv D,iv F],v]) 53 Tryz.func10 rfl rfl (Nat.le_of_ble_eq_true rfl) ?_
 have g_b:=KS.refl w0 T_b
 refine KM (KL (LJ (vs:=[iv W,iv H,iv R,iv B]) rfl rfl rfl rfl fun p1 w2 B4 g5 k3=>?_))
 have B8:=h_b.all k3 KO.none
 refine LJ (vs:=[iv K,iv Q,iv D,iv F]) rfl rfl rfl rfl fun ao Bt iq cy ir=>?_
 obtain⟨iu,iw⟩:=Oe ir B8 B4
 have iy:=((KR.refl (fun _=>False) w0).tr k3).tr ir
 refine O7 (v:=.slice none 0 0) rfl rfl rfl (by kernel_rfl) rfl fun ac Bu iz iA iB=>?_
 have bA:=KS.new iy iA
 obtain⟨fK,fL,fM⟩:=Us iA iu iw iq
 obtain⟨iC,iD,iE⟩:=Od iB iu iw iq
 have iF:=iy.tr iB
 refine O7 (v:=iv 0) rfl rfl rfl (by kernel_rfl) rfl fun ae Bv oa iG iH=>?_
 have bB:=KS.new iF iG
 obtain⟨fN,fO,fP,bg⟩:=WI iG iC iD iE iz
 obtain⟨oc,iI,iJ,od⟩:=Pg iH iC iD iE iz
 refine KQ ?_
 have oe:=K4 (.agg #[iv W,iv H,iv R,iv B])
 have og:=K4 (.agg #[iv K,iv Q,iv D,iv F])
 have iK:=K4 (v)
 have iL:=K4 (undef)
 have eQ:=K4 (pt p1 0)
 have iM:=K4 (pt ao 0)
 have fQ:=K4 (pt ac 0)
 have fR:=K4 (pt ae 0)
 refine KK (KM (KM (KL (KN (.agg #[iv W,iv H,iv R,iv B]) rr (KX MR rfl eQ iI rr) (KN (.agg #[iv K,iv Q,iv D,iv F]) rr (KX Tl rfl iM iJ rr) (L9 rfl rfl rfl rfl rfl (fun _ _=>by kernel_rfl) (Lo rfl (Lo rfl L5)) (Zr W H R B K Q D F  _   ) fun Bw iN=>?_))))))
 obtain⟨iO,iP,iQ,fS,fT⟩:=O6 iN oc iI iJ od oa
 have fU:=(iF.tr iH).tr iN
 refine Lb (iv (RM W H R B K Q D F)) LE (KQ ?_)
 have fV:=K4 (iv (RM W H R B K Q D F))
 refine KK (KM (KL (K2 Lw fV (KN (.bool (decide ((RM W H R B K Q D F)≠0))) rr (Mw rfl rfl rfl rfl rr) (KQ ?_)))))
 have iR:=K4 (.bool (decide ((RM W H R B K Q D F)≠0)))
 refine KK ?_
 refine K5 iR (fun dd=>?_) (fun dd=>?_)
 ·replace dd:=of_decide_eq_true dd
  refine KM ?_
  have hmn:=aAl (W:=W) (H:=H) (R:=R) (B:=B) (K:=K) (Q:=Q) (D:=D) (F:=F) (by assumption)
  have hR:=aDB (l:=l) hmn
  refine KL (K2 Lw fV (Ml rfl rfl rfl fQ rfl fS (by rfl) (by kernel_rfl) fun Bx oh iS=>?_))
  have oi:=fT.all iS (bg ae rfl)
  refine Ml rfl rfl rfl fR rfl oi (by rfl) (by kernel_rfl) fun Bz oj iT=>?_
  have ol:=oh.all iT (bg.symm ac rfl)
  refine KQ ?_
  refine KK (Le (Lx ?_))
  exact R8 (ms:=[]) (Eq.trans iL (rfl:undef=OZ [])) trivial rfl (O3 Tryz.underlying32 rfl rfl fQ ol) (O3 Tryz.underlying33 rfl rfl fR oj) ⟨(.slice none 0 0),Mb,(by first|(rw[hR,Oo hmn];rfl)|(rw[hR];rfl)|(rw[OH hm hpf hne];rfl)|rw[hR,Oo hmn]|rw[hR]|rw[OH hm hpf hne]),((fU.trans iS (KS.ok (S:=fun _=>False) bA KZ)).trans iT (KS.ok (S:=fun _=>False) bB KZ)),⟨(by first|(rw[hR];exact(RP.nil VD _))|(rw[OH hm hpf hne];exact(RP.nil VD _))),(KS.refl _ _)⟩⟩
 ·replace dd:=of_decide_eq_false dd
  refine Lf (KK (KM ?_))
  have hm:RU W H R B K Q D F:=azQ (by first|assumption|(apply Decidable.byContradiction;assumption))
  have hsq:=hm.1
  have hsd:=SJ hm.1
  refine KL (O7 (v:=.slice none 0 0) rfl rfl rfl (by kernel_rfl) rfl fun ap iU iV iW iX=>?_)
  have cz:=KS.new fU iW
  obtain⟨fW,fX,fY,fZ,f5⟩:=azg iW iO iP iQ fS fT
  obtain⟨f7,iY,iZ,ja,jb⟩:=O6 iX iO iP iQ fS fT
  have jc:=fU.tr iX
  refine KQ ?_
  have om:=K4 (pt ap 0)
  refine KK (KM (KL (K2 Lw iK (LH (R:=fun v_ w_=>∃ (aA:Nat) (eR:Nat->Prop),pt aA 0=v_/\KR (fun _=>False) iU w_/\(P2 w_ eR aA l (some 0)/\KS iU Mb eR)) rfl rfl (LQ rfl rfl rfl (fun _ _=>by kernel_rfl) (K6 _) (Lo rfl L5) (aFP v l T_b _ (by omega) f7 ) (fun e_ w_ h_=>by obtain⟨v148_,T151_,he_,hr_⟩:=h_;exact⟨_,he_,v148_,T151_,rfl,hr_⟩)) ?_))))
  rintro _ BA ⟨aA,eR,rfl,jd,⟨je,jf⟩⟩
  obtain⟨jg,jh,ji,jj,jk,jl⟩:=Qh jd f7 iY iZ ja jb iV
  have jm:=jc.tr jd
  obtain⟨oo,oq,ot,ou,ov,ow⟩:=WS jf f7 iY iZ ja jb iV
  refine O7 (v:=.pointer none) rfl rfl rfl (by kernel_rfl) rfl fun ar BB ox jn jo=>?_
  obtain⟨oy,oz,oA,eS,eT,eU,jp⟩:=aGg jn jg jh ji jj jk jl je
  obtain⟨oB,oC,oD,oE,oF,oG,oH⟩:=Uc jo jg jh ji jj jk jl je
  refine Ml rfl rfl rfl rfl rfl ox (by rfl) (by kernel_rfl) fun b9 cd bO=>?_
  have ce:=oB.all bO oy.symm
  have bP:=oC.all bO (oz.symm p1 rfl)
  have cf:=oD.all bO (oA.symm ao rfl)
  have cg:=oE.all bO (eS.symm ac rfl)
  have ci:=oF.all bO (eT.symm ae rfl)
  have cj:=oG.all bO (eU.symm ap rfl)
  have cm:=oH.all bO jp.symm
  have cn:=(jm.tr jo).trans bO (KS.ok (S:=fun _=>False) (KS.new jm jn) KZ)
  refine KQ ?_
  have oI:=K4 (pt ar 0)
  refine KK (KM (KL (KN (.agg #[iv W,iv H,iv R,iv B]) rr (KX MR rfl eQ bP rr) (LH (R:=fun v_ w_=>∃ (a8:Value) (bC:Nat->Prop) (a9:Value) (bD:Nat->Prop) (ba:Value) (bE:Nat->Prop) (bb:Value) (bF:Nat->Prop) (bc:Value) (bG:Nat->Prop) (bd:Value) (bH:Nat->Prop),.agg #[a8,a9,ba,bb,bc,bd]=v_/\KR (fun _=>False) b9 w_/\(Qn w_ bC a8 (some (Qo ((Lk W 0:Nat):Int) ((Lk H 0:Nat):Int)))/\KS b9 Mb bC)/\(Qn w_ bD a9 (some (Qo ((Lk W 0:Nat):Int) ((Lk H 0:Nat):Int)))/\KS b9 Mb bD)/\(Qn w_ bE ba (some (Qo ((Lk W 1:Nat):Int) ((Lk H 1:Nat):Int)))/\KS b9 Mb bE)/\(Qn w_ bF bb (some (Qo ((Lk W 1:Nat):Int) ((Lk H 1:Nat):Int)))/\KS b9 Mb bF)/\(Qn w_ bG bc (some (Qo ((Lk W 2:Nat):Int) ((Lk H 2:Nat):Int)))/\KS b9 Mb bG)/\(Qn w_ bH bd (some (Qo ((Lk W 2:Nat):Int) ((Lk H 2:Nat):Int)))/\KS b9 Mb bH)/\KO bC bD/\KO bC bE/\KO bC bF/\KO bC bG/\KO bC bH/\KO bD bE/\KO bD bF/\KO bD bG/\KO bD bH/\KO bE bF/\KO bE bG/\KO bE bH/\KO bF bG/\KO bF bH/\KO bG bH) rfl rfl (LQ rfl rfl rfl (fun _ _=>by kernel_rfl) (K6 _) (Lo rfl L5) (aC9 W H R B  _ (by assumption)  ) (fun e_ w_ h_=>by obtain⟨v216_,T224_,v217_,T225_,v218_,T226_,v219_,T227_,v220_,T228_,v221_,T229_,he_,hr_⟩:=h_;exact⟨_,he_,v216_,T224_,v217_,T225_,v218_,T226_,v219_,T227_,v220_,T228_,v221_,T229_,rfl,hr_⟩)) ?_))))
  rintro _ BC ⟨a8,bC,a9,bD,ba,bE,bb,bF,bc,bG,bd,bH,rfl,jq,⟨jr,js⟩,⟨jt,ju⟩,⟨jv,jw⟩,⟨jx,jy⟩,⟨jz,jA⟩,⟨jB,jC⟩,oJ,oK,oL,oM,oN,oO,oP,oQ,oR,oS,oT,oU,oV,oW,oX⟩
  obtain⟨jD,jE,jF,jG,jH,jI,jJ,jK⟩:=Yf jq ce bP cf cg ci cj cm cd
  have jL:=cn.tr jq
  obtain⟨oY,oZ,o2,o3,o4,o5,o6,o7⟩:=Zp js ce bP cf cg ci cj cm cd
  obtain⟨o8,o9,pa,pb,pc,pd,pe,pf⟩:=Zp ju ce bP cf cg ci cj cm cd
  obtain⟨pg,pi,pj,pk,pm,po,pp,pq⟩:=Zp jw ce bP cf cg ci cj cm cd
  obtain⟨pu,pz,pA,pB,pC,pD,pE,pF⟩:=Zp jy ce bP cf cg ci cj cm cd
  obtain⟨pG,pH,pI,pJ,pK,pL,pM,pN⟩:=Zp jA ce bP cf cg ci cj cm cd
  obtain⟨pO,pP,pQ,pR,pS,pT,pU,pV⟩:=Zp jC ce bP cf cg ci cj cm cd
  refine LN (n:=6) (vs:=[.pointer none,.pointer none,.pointer none,.pointer none,.pointer none,.pointer none]) rfl rfl rfl (by kernel_rfl) fun aq BD pW jM jN=>?_
  obtain⟨pZ,qa,qb,eV,eW,eX,jO,qc,jP,jQ,jR,jS,jT,jU⟩:=SQ jM jD jE jF jG jH jI jJ jK jr jt jv jx jz jB
  obtain⟨qd,qe,qf,qg,qh,qi,qj,qk,jV,jW,jX,jY,jZ,j0⟩:=PT jN jD jE jF jG jH jI jJ jK jr jt jv jx jz jB
  refine Ll (us:=[a8,a9,ba,bb,bc,bd]) Ug rfl rfl rfl rfl rfl pW rfl (L4 jV.one (L4 jW.one (L4 jX.one (L4 jY.one (L4 jZ.one (L4 j0.one MX)))))) fun j1 ql aS=>?_
  have qm:=qd.all aS pZ.symm
  have j2:=qe.all aS (qa.symm p1 rfl)
  have qn:=qf.all aS (qb.symm ao rfl)
  have j3:=qg.all aS (eV.symm ac rfl)
  have j4:=qh.all aS (eW.symm ae rfl)
  have j5:=qi.all aS (eX.symm ap rfl)
  have j6:=qj.all aS jO.symm
  have qo:=qk.all aS (qc.symm ar rfl)
  have qp:=jV.all aS jP.symm
  have qq:=jW.all aS jQ.symm
  have qr:=jX.all aS jR.symm
  have qs:=jY.all aS jS.symm
  have qt:=jZ.all aS jT.symm
  have qu:=j0.all aS jU.symm
  refine KQ ?_
  have qv:=K4 (pt aq 0)
  refine KK (KM (KM ?_))
  obtain⟨de,j7⟩:=U9 qp
  obtain⟨df,j8⟩:=U9 qq
  obtain⟨dg,j9⟩:=U9 qr
  obtain⟨dh,ka⟩:=U9 qs
  obtain⟨di,kb⟩:=U9 qt
  obtain⟨dj,kd⟩:=U9 qu
  refine KL (KN (.agg #[iv W,iv H,iv R,iv B]) rr (KX MR rfl eQ j2 rr) (LH (R:=fun v_ w_=>∃ (bI:Nat) (aZ:Nat->Prop),.func (.func 60) #[] #[pt bI 0]=v_/\KR (fun _=>False) j1 w_/\(XP w_ aZ bI W H R B/\KS j1 Mb aZ)) rfl rfl (LQ rfl rfl rfl (fun _ _=>by kernel_rfl) (K6 _) (Lo rfl L5) (Xu W H R B  _   ) (fun e_ w_ h_=>by obtain⟨v400_,T403_,he_,hr_⟩:=h_;exact⟨_,he_,v400_,T403_,rfl,hr_⟩)) ?_))
  rintro _ BE ⟨bI,aZ,rfl,f8,⟨f9,qw⟩⟩
  obtain⟨qx,qy,qz,ga,gb,qA,qB,qC,bQ,bR,bS,bT,bU,bV⟩:=PT f8 qm j2 qn j3 j4 j5 j6 qo j7 j8 j9 ka kb kd
  have qD:=ql.all f8 id
  have dk:=((jL.tr jN).trans aS (KS.ok (S:=fun _=>False) (KS.new jL jM) KZ)).tr f8
  obtain⟨cA,cB,cC,qE,qF,qG,qH,qI,qJ,qK⟩:=aFL qw j3 j4 j5 j6 j7 j8 j9 ka kb kd
  refine PQ fun gc gd=>?_
  obtain⟨qL,qM,qN,ke,qO,qP,cD,cE,qQ,qR,kf,kg,qS⟩:=t13 gd 0 oe 1 og 2 iK 53 iL 3 eQ 4 iM 6 fQ 7 fR 8 fV 20 iR 9 om 10 oI 11 qv
  have ki:gc 27 = .func (.func 60) #[] #[pt bI 0]:=(gd 27).trans rfl
  clear gd
  refine KK (Lm ?_)
  refine XW (α:=SI W H) (encs:=fun el=>[iv ((el.m:Nat):Int),.agg #[iv ((el.p:Nat):Int),iv (pX (Lk W el.p) el.i),iv (pY (Lk W el.p) el.i)]]) (U:=fun i=>i≠bI) (S:=fun xs=>xs=NH W H 3) (Sp:=fun xs=>xs <+: NH W H 3) (M:=1000) ki (fun _ _=>by kernel_rfl) (aAd W H R B bI _ hm.1 f9.2) (fun i hi=>Nat.ne_of_gt (Nat.lt_of_lt_of_le f9.2.lt hi)) [28,29] rfl (fun _=>rfl) rfl (fun pre ww=>∃ (V:Value),∃ (ab:Nat->Prop),∃ (af:Nat->Prop),∃ (ah:Nat->Prop),∃ (ai:Nat->Prop),∃ (aj:Nat->Prop),∃ (ak:Nat->Prop),∃ (am:Nat->Prop),∃ (an:Nat->Prop),((K3 l K W H pre).e=0)/\KR (fun _=>False) w0 ww/\Mv ww T_b v l/\MJ ww p1 23 [iv W,iv H,iv R,iv B]/\MJ ww ao 25 [iv K,iv Q,iv D,iv F]/\Qx ww ac 32 (.slice none 0 0)/\Qx ww ae 33 (iv 0)/\Qx ww ap 32 V/\P2 ww ab aA l ((K3 l K W H pre).s)/\Qx ww ar 54 (pt aA 0)/\PR ww af a8 de (((K3 l K W H pre).f 0).1)/\PR ww ah a9 df (((K3 l K W H pre).f 0).2)/\PR ww ai ba dg (((K3 l K W H pre).f 1).1)/\PR ww aj bb dh (((K3 l K W H pre).f 1).2)/\PR ww ak bc di (((K3 l K W H pre).f 2).1)/\PR ww am bd dj (((K3 l K W H pre).f 2).2)/\MJ ww aq 59 [a8,a9,ba,bb,bc,bd]/\XP ww aZ bI W H R B/\RP VD ww an V ((K3 l K W H pre).o)/\KS w0 Mb ab/\KS w0 Mb af/\KS w0 Mb ah/\KS w0 Mb ai/\KS w0 Mb aj/\KS w0 Mb ak/\KS w0 Mb am/\KS w0 Mb an/\KO ab T_b/\KO ab (Lh p1)/\KO ab (Lh ao)/\KO ab (Lh ac)/\KO ab (Lh ae)/\KO ab (Lh ap)/\KO ab (Lh ar)/\KO ab af/\KO ab ah/\KO ab ai/\KO ab aj/\KO ab ak/\KO ab am/\KO ab (Lh aq)/\KO ab aZ/\KO ab an/\KO af T_b/\KO af (Lh p1)/\KO af (Lh ao)/\KO af (Lh ac)/\KO af (Lh ae)/\KO af (Lh ap)/\KO af (Lh ar)/\KO af ah/\KO af ai/\KO af aj/\KO af ak/\KO af am/\KO af (Lh aq)/\KO af aZ/\KO af an/\KO ah T_b/\KO ah (Lh p1)/\KO ah (Lh ao)/\KO ah (Lh ac)/\KO ah (Lh ae)/\KO ah (Lh ap)/\KO ah (Lh ar)/\KO ah ai/\KO ah aj/\KO ah ak/\KO ah am/\KO ah (Lh aq)/\KO ah aZ/\KO ah an/\KO ai T_b/\KO ai (Lh p1)/\KO ai (Lh ao)/\KO ai (Lh ac)/\KO ai (Lh ae)/\KO ai (Lh ap)/\KO ai (Lh ar)/\KO ai aj/\KO ai ak/\KO ai am/\KO ai (Lh aq)/\KO ai aZ/\KO ai an/\KO aj T_b/\KO aj (Lh p1)/\KO aj (Lh ao)/\KO aj (Lh ac)/\KO aj (Lh ae)/\KO aj (Lh ap)/\KO aj (Lh ar)/\KO aj ak/\KO aj am/\KO aj (Lh aq)/\KO aj aZ/\KO aj an/\KO ak T_b/\KO ak (Lh p1)/\KO ak (Lh ao)/\KO ak (Lh ac)/\KO ak (Lh ae)/\KO ak (Lh ap)/\KO ak (Lh ar)/\KO ak am/\KO ak (Lh aq)/\KO ak aZ/\KO ak an/\KO am T_b/\KO am (Lh p1)/\KO am (Lh ao)/\KO am (Lh ac)/\KO am (Lh ae)/\KO am (Lh ap)/\KO am (Lh ar)/\KO am (Lh aq)/\KO am aZ/\KO am an/\KO an T_b/\KO an (Lh p1)/\KO an (Lh ao)/\KO an (Lh ac)/\KO an (Lh ae)/\KO an (Lh ap)/\KO an (Lh ar)/\KO an (Lh aq)/\KO an aZ) (fun pre ww=>KR (fun _=>False) w0 ww/\Mv ww T_b v l/\MJ ww p1 23 [iv W,iv H,iv R,iv B]/\MJ ww ao 25 [iv K,iv Q,iv D,iv F]/\Qx ww ac 32 (.slice none 0 0)/\Qx ww ae 33 (iv ((K3 l K W H pre).e))/\Qx ww ar 54 (pt aA 0)/\MJ ww aq 59 [a8,a9,ba,bb,bc,bd]/\XP ww aZ bI W H R B/\((K3 l K W H pre).e≠0)) ?_ ?_ ⟨(.slice none 0 0),eR,bC,bD,bE,bF,bG,bH,Mb,rfl,dk,qx,qy,qz,ga,gb,qA,qB,qC,bQ,bR,bS,bT,bU,bV,qD,f9,(RP.nil VD _),(KS.new jc jf),(KS.new cn js),(KS.new cn ju),(KS.new cn jw),(KS.new cn jy),(KS.new cn jA),(KS.new cn jC),(KS.refl _ _),oo,oq,ot,ou,ov,ow,jp.symm,o6.symm,pe.symm,pp.symm,pE.symm,pM.symm,pU.symm,jO.symm,qE.symm,KO.none,oY,oZ,o2,o3,o4,o5,o7,oJ,oK,oL,oM,oN,jP.symm,qF.symm,KO.none,o8,o9,pa,pb,pc,pd,pf,oO,oP,oQ,oR,jQ.symm,qG.symm,KO.none,pg,pi,pj,pk,pm,po,pq,oS,oT,oU,jR.symm,qH.symm,KO.none,pu,pz,pA,pB,pC,pD,pF,oV,oW,jS.symm,qI.symm,KO.none,pG,pH,pI,pJ,pK,pL,pN,oX,jT.symm,qJ.symm,KO.none,pO,pP,pQ,pR,pS,pT,pV,jU.symm,qK.symm,KO.none,KO.none.symm,KO.none.symm,KO.none.symm,KO.none.symm,KO.none.symm,KO.none.symm,KO.none.symm,KO.none.symm,KO.none.symm⟩ (fun el FF WW=>∃ (pa0_:Nat),FF 0 = .agg #[iv W,iv H,iv R,iv B]/\FF 1 = .agg #[iv K,iv Q,iv D,iv F]/\FF 2=v/\FF 3=pt p1 0/\FF 4=pt ao 0/\FF 6=pt ac 0/\FF 7=pt ae 0/\FF 8=iv (RM W H R B K Q D F)/\FF 9=pt ap 0/\FF 10=pt ar 0/\FF 11=pt aq 0/\FF 13=pt pa0_ 0/\FF 20 = .bool (decide ((RM W H R B K Q D F)≠0))/\FF 27 = .func (.func 60) #[] #[pt bI 0]/\FF 29 = .agg #[iv ((el.p:Nat):Int),iv (pX (Lk W el.p) el.i),iv (pY (Lk W el.p) el.i)]/\FF 53=undef/\MJ WW pa0_ 65 [iv ((el.p:Nat):Int),iv (pX (Lk W el.p) el.i),iv (pY (Lk W el.p) el.i)]/\KO (Lh pa0_) T_b/\KO (Lh pa0_) (Lh p1)/\KO (Lh pa0_) (Lh ao)/\KO (Lh pa0_) (Lh ac)/\KO (Lh pa0_) (Lh ae)/\KO (Lh pa0_) (Lh ap)/\KO (Lh pa0_) (Lh ar)/\KO (Lh pa0_) (Lh aq)/\KO (Lh pa0_) aZ) ?_ ?_ ?_ ?_ ?_
  ·rintro pre A_ B_ row_ ⟨V,ab,af,ah,ai,aj,ak,am,an,i0_,K_,B0_,B1_,B2_,B3_,B4_,B5_,B6_,B7_,B8_,B9_,B10_,B11_,B12_,B13_,B14_,B15_,B16_,g0_,g1_,g2_,g3_,g4_,g5_,g6_,g7_,a0_,a1_,a2_,a3_,a4_,a5_,a6_,a7_,a8_,a9_,a10_,a11_,a12_,a13_,a14_,a15_,a16_,a17_,a18_,a19_,a20_,a21_,a22_,a23_,a24_,a25_,a26_,a27_,a28_,a29_,a30_,a31_,a32_,a33_,a34_,a35_,a36_,a37_,a38_,a39_,a40_,a41_,a42_,a43_,a44_,a45_,a46_,a47_,a48_,a49_,a50_,a51_,a52_,a53_,a54_,a55_,a56_,a57_,a58_,a59_,a60_,a61_,a62_,a63_,a64_,a65_,a66_,a67_,a68_,a69_,a70_,a71_,a72_,a73_,a74_,a75_,a76_,a77_,a78_,a79_,a80_,a81_,a82_,a83_,a84_,a85_,a86_,a87_,a88_,a89_,a90_,a91_,a92_,a93_,a94_,a95_,a96_,a97_,a98_,a99_⟩ hg_ hr_
   exact⟨V,ab,af,ah,ai,aj,ak,am,an,i0_,K_.row hg_ hr_ dk.size,B0_.row hg_ hr_,B1_.row hg_ hr_,B2_.row hg_ hr_,B3_.row hg_ hr_,B4_.row hg_ hr_,B5_.row hg_ hr_,B6_.row hg_ hr_,B7_.row hg_ hr_,B8_.row hg_ hr_ bQ.lt,B9_.row hg_ hr_ bR.lt,B10_.row hg_ hr_ bS.lt,B11_.row hg_ hr_ bT.lt,B12_.row hg_ hr_ bU.lt,B13_.row hg_ hr_ bV.lt,B14_.row hg_ hr_,B15_.row hg_ hr_,B16_.row hg_ hr_,g0_,g1_,g2_,g3_,g4_,g5_,g6_,g7_,a0_,a1_,a2_,a3_,a4_,a5_,a6_,a7_,a8_,a9_,a10_,a11_,a12_,a13_,a14_,a15_,a16_,a17_,a18_,a19_,a20_,a21_,a22_,a23_,a24_,a25_,a26_,a27_,a28_,a29_,a30_,a31_,a32_,a33_,a34_,a35_,a36_,a37_,a38_,a39_,a40_,a41_,a42_,a43_,a44_,a45_,a46_,a47_,a48_,a49_,a50_,a51_,a52_,a53_,a54_,a55_,a56_,a57_,a58_,a59_,a60_,a61_,a62_,a63_,a64_,a65_,a66_,a67_,a68_,a69_,a70_,a71_,a72_,a73_,a74_,a75_,a76_,a77_,a78_,a79_,a80_,a81_,a82_,a83_,a84_,a85_,a86_,a87_,a88_,a89_,a90_,a91_,a92_,a93_,a94_,a95_,a96_,a97_,a98_,a99_⟩
  ·rintro pre A_ B_ row_ ⟨K_,B0_,B1_,B2_,B3_,B4_,B5_,B6_,B7_,i0_⟩ hg_ hr_
   exact⟨K_.row hg_ hr_ dk.size,B0_.row hg_ hr_,B1_.row hg_ hr_,B2_.row hg_ hr_,B3_.row hg_ hr_,B4_.row hg_ hr_,B5_.row hg_ hr_,B6_.row hg_ hr_,B7_.row hg_ hr_,i0_⟩
  ·rintro el FF _ A_ B_ row_ ⟨p0_,s0_,s1_,s2_,s3_,s4_,s5_,s6_,s7_,s8_,s9_,s10_,s11_,s12_,s13_,s14_,s15_,B0_,a0_,a1_,a2_,a3_,a4_,a5_,a6_,a7_,a8_⟩ hg_ hr_
   exact⟨p0_,s0_,s1_,s2_,s3_,s4_,s5_,s6_,s7_,s8_,s9_,s10_,s11_,s12_,s13_,s14_,s15_,B0_.row hg_ hr_,a0_,a1_,a2_,a3_,a4_,a5_,a6_,a7_,a8_⟩
  ·rintro l_ pre el W_ ⟨V,ab,af,ah,ai,aj,ak,am,an,hN,qT,kj,kn,ko,kp,kq,kr,ks,kt,ku,kv,kw,kx,ky,kz,kA,kB,kC,qU,qV,qW,qX,qY,qZ,q6,q7,q8,q9,ra,rb,rc,re,rf,rg,rh,ri,rj,rk,rl,rm,rp,rq,rt,ru,rv,rx,ry,rz,rA,rB,rC,rD,rE,rF,rG,rH,rI,rJ,rK,rL,rM,rN,rO,rP,rQ,rR,rS,rT,rU,rV,rW,rX,rY,rZ,r4,r5,r6,r7,r8,r9,sb,sc,se,sf,sg,si,sj,sk,sl,sm,sn,so,sp,sq,ss,su,sv,sw,sx,sy,sz,sA,sB,sC,sD,sE,sF,sG,sH,sI,sJ,sK,sL,sM,sN,sO,sP,sQ,sR,sS,sT,sU,sV,sW,sX,sY⟩
   refine KL (LN (n:=3) (vs:=[iv 0,iv 0,iv 0]) rfl rfl rfl (by kernel_rfl) fun kD BF sZ ge gh=>?_)
   obtain⟨kE,kF,kG,kH,kI,kJ,ta,kK,tb,tc,td,te,tf,tg⟩:=SQ ge kj kn ko kp kq kr ks kt ku kv kw kx ky kz
   obtain⟨kL,kM,th⟩:=Us ge kA kB kC
   obtain⟨ti,tj,tk,tl,tm,tn,tp,tq,tt,tu,tv,tw,tx,tz⟩:=PT gh kj kn ko kp kq kr ks kt ku kv kw kx ky kz
   obtain⟨tA,tB,tC⟩:=Od gh kA kB kC
   refine Ll (us:=[iv ((el.p:Nat):Int),iv (pX (Lk W el.p) el.i),iv (pY (Lk W el.p) el.i)]) QR rfl rfl rfl rfl rfl sZ rfl (Qc rr (L4 rfl MX)) fun BG tD aB=>?_
   have tE:=ti.all aB kE.symm
   have tF:=tj.all aB (kF.symm p1 rfl)
   have tG:=tk.all aB (kG.symm ao rfl)
   have tH:=tl.all aB (kH.symm ac rfl)
   have tI:=tm.all aB (kI.symm ae rfl)
   have tJ:=tn.all aB (kJ.symm ap rfl)
   have tK:=tp.all aB ta.symm
   have tL:=tq.all aB (kK.symm ar rfl)
   have tM:=tt.all aB tb.symm
   have tN:=tu.all aB tc.symm
   have tO:=tv.all aB td.symm
   have tP:=tw.all aB te.symm
   have tQ:=tx.all aB tf.symm
   have tS:=tz.all aB tg.symm
   have tT:=tA.all aB (kL.symm aq rfl)
   have tU:=tB.all aB kM.symm
   have tV:=tC.all aB th.symm
   have gi:=((KR.refl (fun _=>False) W_).trans gh (fun _ _ x=>x.elim)).trans aB (KS.ok (S:=fun _=>False) (KS.new (KR.refl (fun _=>False) W_) ge) KZ)
   refine KQ ?_
   have tW:=K4 (undef)
   have tX:=K4 (.agg #[iv ((el.p:Nat):Int),iv (pX (Lk W el.p) el.i),iv (pY (Lk W el.p) el.i)])
   have tY:=K4 (pt kD 0)
   exact⟨Pw.keeps Pw.no gi _,gi.mono (fun _ _ x=>x.elim),⟨V,ab,af,ah,ai,aj,ak,am,an,hN,qT.trans gi (fun _ _ x=>x.elim),tE,tF,tG,tH,tI,tJ,tK,tL,tM,tN,tO,tP,tQ,tS,tT,tU,tV,qU,qV,qW,qX,qY,qZ,q6,q7,q8,q9,ra,rb,rc,re,rf,rg,rh,ri,rj,rk,rl,rm,rp,rq,rt,ru,rv,rx,ry,rz,rA,rB,rC,rD,rE,rF,rG,rH,rI,rJ,rK,rL,rM,rN,rO,rP,rQ,rR,rS,rT,rU,rV,rW,rX,rY,rZ,r4,r5,r6,r7,r8,r9,sb,sc,se,sf,sg,si,sj,sk,sl,sm,sn,so,sp,sq,ss,su,sv,sw,sx,sy,sz,sA,sB,sC,sD,sE,sF,sG,sH,sI,sJ,sK,sL,sM,sN,sO,sP,sQ,sR,sS,sT,sU,sV,sW,sX,sY⟩,⟨kD,qL,qM,qN,qO,qP,cD,cE,qQ,kf,kg,qS,tY,qR,ki,tX,tW,tD,kE,kF,kG,kH,kI,kJ,kK,kL,kM⟩⟩
  ·rintro l_ pre el BH aa ⟨V,ab,af,ah,ai,aj,ak,am,an,hN,az,bh,bi,aT,aC,aD,aE,be,aU,aG,aH,aI,aJ,aK,aL,aV,au,aF,bm,bn,bo,bp,bq,bt,bu,bv,cF,cG,bJ,cH,cI,cJ,bK,dl,dm,dn,dp,dq,dr,bL,bM,cK,eY,eZ,dt,e6,e7,cL,du,gj,dv,dw,dy,dz,dA,co,cM,e8,e9,dB,fa,fb,cN,dC,dD,dE,dF,dG,dH,cq,cO,fc,fd,dI,fe,ff,cP,dJ,gl,dK,dL,dM,cr,cQ,fg,fh,dN,fi,fj,cR,dO,dP,dQ,dR,ct,cS,fk,fm,dS,fo,fp,cT,dT,gm,dU,cu,cU,fq,ft,dV,fu,fw,cV,dW,dX,cv,cW,cX,cY,cZ,c5,c6,c7,c9,da,bN⟩ ⟨aw,BI,BJ,BK,BL,gn,go,gp,BM,gq,gr,gt,db,BN,BO,BP,BQ,bz,BR,BS,BT,BU,BV,BW,BX,BZ,Ca⟩ hlen_
   have bj:=KR.refl (fun i=>(Lh ac) i\/((Lh ae) i\/((Lh ap) i\/(ab i\/(af i\/(ah i\/(ai i\/(aj i\/(ak i\/(am i\/(an i))))))))))) aa
   have dc:KO (Lh aw) ab:=(aDS bz be (by decide))
   have kN:KO (Lh aw) af:=(Tg bz aG (by decide))
   have kO:KO (Lh aw) ah:=(Tg bz aH (by decide))
   have kP:KO (Lh aw) ai:=(Tg bz aI (by decide))
   have kQ:KO (Lh aw) aj:=(Tg bz aJ (by decide))
   have kR:KO (Lh aw) ak:=(Tg bz aK (by decide))
   have kS:KO (Lh aw) am:=(Tg bz aL (by decide))
   have gu:=hA.all az
   have hO2:=hO.all az
   have hab0:=SM bm hA
   have hab1:=SM bn hA
   have hab2:=SM bo hA
   have hab3:=SM bp hA
   have hab4:=SM bq hA
   have hab5:=SM bt hA
   have hab6:=SM bu hA
   have hab7:=SM bv hA
   have hei:=el.hi
   refine Lm (KM ?_)
   rcases (show el.p=0\/el.p=1\/el.p=2 from (by have:=el.hp;omega)) with hpv|hpv|hpv
   ·skip
    have kT:MJ aa aw 65 [iv ((0:Nat):Int),iv (pX (Lk W 0) el.i),iv (pY (Lk W 0) el.i)]:=by have h_:=bz;rw[hpv] at h_;exact h_
    have hwp:=S4 (W:=W) (p:=0) hsd.1
    have hwl:=Pe (W:=W) (p:=0) hsd.2.1
    have hwh:=Pe (W:=H) (p:=0) hsd.2.2.2.2.1
    have hwn:Lk W 0*Lk H 0<=16*16:=Nat.mul_le_mul hwl hwh
    rw[hpv] at hei
    refine Rr (γ:=(Nat->Prop)×(Nat->Prop)×(Nat->Prop)) [(9,8),(10,8),(11,8),(13,8),(14,8),(13,12),(14,12)] [some 31,some 32,some 33,some 34,some 35,some 36,some 37,some 38,some 39,some 30,some 40,some 41,some 14,none,some 15] ⟨fun w_=>P2 w_ ab aA l ((K3 l K W H pre).s)/\PR w_ af a8 de (((K3 l K W H pre).f 0).1)/\PR w_ ah a9 df (((K3 l K W H pre).f 0).2),fun i=>ab i\/(af i\/(ah i)),fun g_ w_=>(P2 w_ (g_.1) aA l ((Sy l K (Lk W 0) (el.i) ⟨(((K3 l K W H pre).f 0).1),(((K3 l K W H pre).f 0).2),((K3 l K W H pre).s)⟩).s)/\KS aa ab (g_.1))/\(PR w_ (g_.2.1) a8 de ((Sy l K (Lk W 0) (el.i) ⟨(((K3 l K W H pre).f 0).1),(((K3 l K W H pre).f 0).2),((K3 l K W H pre).s)⟩).a)/\KS aa af (g_.2.1))/\(PR w_ (g_.2.2) a9 df ((Sy l K (Lk W 0) (el.i) ⟨(((K3 l K W H pre).f 0).1),(((K3 l K W H pre).f 0).2),((K3 l K W H pre).s)⟩).b)/\KS aa ah (g_.2.2))/\KO (g_.1) (g_.2.1)/\KO (g_.1) (g_.2.2)/\KO (g_.2.1) (g_.2.2),fun g_=>fun i=>(g_.1) i\/((g_.2.1) i\/((g_.2.2) i)),fun p_ w_=>MJ w_ p_ 71 (OP 0 0 0 0 0 (fun _=>(0:Int))),fun g_ p_ w_=>MJ w_ p_ 71 (PN (Rb l K (Lk W 0) (el.i) ⟨(((K3 l K W H pre).f 0).1),(((K3 l K W H pre).f 0).2),((K3 l K W H pre).s)⟩))⟩ (fun i=>ab i\/(af i\/(ah i))) (fun p_=>aa.heap.size<=p_) [fun g_=>pt aA 0,fun g_=>pt ao 0,fun g_=>iv K,fun g_=>pt aw 0,fun g_=>iv ((0:Nat):Int),fun g_=>pt aq 0,fun g_=>.agg #[a8,a9],fun g_=>.agg #[iv ((0:Nat):Int),iv (pX (Lk W 0) el.i),iv (pY (Lk W 0) el.i)],fun g_=>.tuple #[.agg (PN (Rb l K (Lk W 0) (el.i) ⟨(((K3 l K W H pre).f 0).1),(((K3 l K W H pre).f 0).2),((K3 l K W H pre).s)⟩)).toArray,iv ((Mt l K (Lk W 0) (el.i) ⟨(((K3 l K W H pre).f 0).1),(((K3 l K W H pre).f 0).2),((K3 l K W H pre).s)⟩).2.1)],fun g_=>.tuple #[.agg (PN (Rb l K (Lk W 0) (el.i) ⟨(((K3 l K W H pre).f 0).1),(((K3 l K W H pre).f 0).2),((K3 l K W H pre).s)⟩)).toArray,iv ((Mt l K (Lk W 0) (el.i) ⟨(((K3 l K W H pre).f 0).1),(((K3 l K W H pre).f 0).2),((K3 l K W H pre).s)⟩).2.1)],fun g_=>.agg (PN (Rb l K (Lk W 0) (el.i) ⟨(((K3 l K W H pre).f 0).1),(((K3 l K W H pre).f 0).2),((K3 l K W H pre).s)⟩)).toArray,fun g_=>iv ((Mt l K (Lk W 0) (el.i) ⟨(((K3 l K W H pre).f 0).1),(((K3 l K W H pre).f 0).2),((K3 l K W H pre).s)⟩).2.1),fun _=>undef,fun _=>undef,fun g_=>iv ((Mt l K (Lk W 0) (el.i) ⟨(((K3 l K W H pre).f 0).1),(((K3 l K W H pre).f 0).2),((K3 l K W H pre).s)⟩).2.1)] 8 13 (some 12) (Mb,Mb,Mb) 0 (by kernel_rfl) (by kernel_rfl) (by kernel_rfl) (by kernel_rfl) ⟨.inr (.inr fun _ _=>rfl),⟨.inr (.inr fun _ _=>rfl),⟨.inr (.inr fun _ _=>rfl),⟨.inr (.inr fun _ _=>rfl),⟨.inr (.inr fun _ _=>rfl),⟨.inr (.inr fun _ _=>rfl),⟨.inr (.inr fun _ _=>rfl),⟨.inr (.inr fun _ _=>rfl),⟨.inr (.inl rfl),⟨.inl rfl,⟨.inl rfl,⟨.inl rfl,⟨.inr (.inr fun _ _=>rfl),⟨.inl rfl,⟨.inl rfl,trivial⟩⟩⟩⟩⟩⟩⟩⟩⟩⟩⟩⟩⟩⟩⟩ ⟨⟨be,aG,aH⟩,fun w w1 S1 h k a=>by obtain⟨h0_,h1_,h2_⟩:=h;exact⟨h0_.all k (fun i z=>a i (Or.inl z)),h1_.all k (fun i z=>a i (Or.inr (Or.inl z))),h2_.all k (fun i z=>a i (Or.inr (Or.inr z)))⟩,fun w h i z=>by obtain⟨h0_,h1_,h2_⟩:=h;rcases z with z|z|z <;> first|exact h0_.live i z|exact h1_.live i z|exact h2_.live i z,fun g w w1 S1 h k a=>by obtain⟨⟨b0_,g0_⟩,⟨b1_,g1_⟩,⟨b2_,g2_⟩,a0_1_,a0_2_,a1_2_⟩:=h;exact⟨⟨b0_.all k (fun i z=>a i (Or.inl z)),g0_⟩,⟨b1_.all k (fun i z=>a i (Or.inr (Or.inl z))),g1_⟩,⟨b2_.all k (fun i z=>a i (Or.inr (Or.inr z))),g2_⟩,a0_1_,a0_2_,a1_2_⟩,fun g w h i z=>by obtain⟨⟨b0_,g0_⟩,⟨b1_,g1_⟩,⟨b2_,g2_⟩,a0_1_,a0_2_,a1_2_⟩:=h;rcases z with z|z|z <;> first|exact b0_.live i z|exact b1_.live i z|exact b2_.live i z,fun _ _ _ _ h k z=>h.all k z,fun _ _ h=>h.lt,fun _ _ _ _ _ h k z=>h.all k z,fun _ z=>z,fun _ h=>.inr h,fun p h z=>by rcases z with z|z|z <;> first|exact absurd h (Nat.not_le.2 (be.live p z))|exact absurd h (Nat.not_le.2 (aG.live p z))|exact absurd h (Nat.not_le.2 (aH.live p z))⟩ (fun _ _ _ h=>h) (fun e=>by cases e) ?_ ?_
    ·refine KV ?_ ?_
     ·refine Lr.one rfl rfl rfl rfl fun g_ p_ F_ w_ hR hout hD=>?_
      exact(M0 rfl ((hout 10 rfl (by decide)).trans gr) Tryz.underlying54 (aU.all hR (fun x=>(x.elim (fun y=>((bK.symm) ar rfl y)) (fun y=>(y.elim (fun y=>((du.symm) ar rfl y)) (fun y=>((dC.symm) ar rfl y))))))) rfl ⟨rfl,KR.refl _ _⟩)
     refine KV ?_ ?_
     ·refine Lr.one rfl rfl rfl rfl fun g_ p_ F_ w_ hR hout hD=>?_
      exact(KU (n:=1) rfl ((hout 4 rfl (by decide)).trans gn) Tryz.underlying25 rfl (by kernel_rfl) (by decide) rfl ⟨rfl,KR.refl _ _⟩)
     refine KV ?_ ?_
     ·refine Lr.one rfl rfl rfl rfl fun g_ p_ F_ w_ hR hout hD=>?_
      have dZ:F_ 32=pt ao 0:=(hD.get 0 rfl rfl rfl).2 (by decide)
      exact(KY rfl dZ Tryz.underlying3 (aT.all hR (fun x=>(x.elim (fun y=>((bJ.symm) ao rfl y)) (fun y=>(y.elim (fun y=>((dt.symm) ao rfl y)) (fun y=>((dB.symm) ao rfl y))))))) rfl rfl ⟨rfl,KR.refl _ _⟩)
     refine KV ?_ ?_
     ·refine Lr.one rfl rfl rfl rfl fun g_ p_ F_ w_ hR hout hD=>?_
      exact(KU (n:=1) rfl ((hout 13 rfl (by decide)).trans db) Tryz.underlying65 rfl (by kernel_rfl) (by decide) rfl ⟨rfl,KR.refl _ _⟩)
     refine KV ?_ ?_
     ·refine Lr.one rfl rfl rfl rfl fun g_ p_ F_ w_ hR hout hD=>?_
      have d8:F_ 34=pt aw 0:=(hD.get 0 rfl rfl rfl).2 (by decide)
      exact(KY rfl d8 Tryz.underlying3 (kT.all hR (fun x=>(x.elim (fun y=>(dc aw rfl y)) (fun y=>(y.elim (fun y=>(kN aw rfl y)) (fun y=>(kO aw rfl y))))))) rfl rfl ⟨rfl,KR.refl _ _⟩)
     refine KV ?_ ?_
     ·refine Lr.one rfl rfl rfl rfl fun g_ p_ F_ w_ hR hout hD=>?_
      have d9:F_ 35=iv ((0:Nat):Int):=(hD.get 0 rfl rfl rfl).2 (by decide)
      exact(L3 0 (s:=2) rfl ((hout 11 rfl (by decide)).trans gt) d9 (by omega) Tryz.underlying59 (by omega) (by kernel_rfl) (by omega) ⟨rfl,KR.refl _ _⟩)
     refine KV ?_ ?_
     ·refine Lr.one rfl rfl rfl rfl fun g_ p_ F_ w_ hR hout hD=>?_
      have eb:F_ 36=pt aq 0:=(hD.get 0 rfl rfl rfl).2 (by decide)
      exact(PO (n:=2) Wb rfl eb (aV.all hR (fun x=>(x.elim (fun y=>((bL.symm) aq rfl y)) (fun y=>(y.elim (fun y=>((dA.symm) aq rfl y)) (fun y=>((dH.symm) aq rfl y))))))) (Nat.le_of_ble_eq_true rfl) rfl ⟨rfl,KR.refl _ _⟩)
     refine KV ?_ ?_
     ·refine Lr.one rfl rfl rfl rfl fun g_ p_ F_ w_ hR hout hD=>?_
      exact(KX QR rfl ((hout 13 rfl (by decide)).trans db) (kT.all hR (fun x=>(x.elim (fun y=>(dc aw rfl y)) (fun y=>(y.elim (fun y=>(kN aw rfl y)) (fun y=>(kO aw rfl y))))))) ⟨rfl,KR.refl _ _⟩)
     refine KV ?_ ?_
     ·refine Lr.call rfl rfl rfl rfl fun g_ p_ F_ w_ hR hout hD hP_=>?_
      have ee:F_ 31=pt aA 0:=(hD.get 0 rfl rfl rfl).2 (by decide)
      have eh:F_ 33=iv K:=(hD.get 1 rfl rfl rfl).2 (by decide)
      have ei:F_ 37 = .agg #[a8,a9]:=(hD.get 2 rfl rfl rfl).2 (by decide)
      have en:F_ 38 = .agg #[iv ((0:Nat):Int),iv (pX (Lk W 0) el.i),iv (pY (Lk W 0) el.i)]:=(hD.get 3 rfl rfl rfl).2 (by decide)
      exact(LQ rfl rfl rfl (fun _ _=>by kernel_rfl) (K6 _) (Lo ee (Lo eh (Lo ei (Lo en L5)))) (X6 aA l ((K3 l K W H pre).s) K ((0:Nat):Int) (Lk W 0) (el.i) a8 a9 de df (((K3 l K W H pre).f 0).1) (((K3 l K W H pre).f 0).2) ab af ah _ (gu.but hR (by rintro i (h|h|h) <;> first|exact hab0 _ h|exact hab1 _ h|exact hab2 _ h|exact hab3 _ h|exact hab4 _ h|exact hab5 _ h|exact hab6 _ h|exact hab7 _ h)) (hO2.but hR (ovO (by rintro i (h|h|h) <;> first|exact hab0 _ h|exact hab1 _ h|exact hab2 _ h|exact hab3 _ h|exact hab4 _ h|exact hab5 _ h|exact hab6 _ h|exact hab7 _ h))) (by first|exact hab0|exact hab1|exact hab2|exact hab3|exact hab4|exact hab5|exact hab6|exact hab7) (by first|exact hab0|exact hab1|exact hab2|exact hab3|exact hab4|exact hab5|exact hab6|exact hab7) (by first|exact hab0|exact hab1|exact hab2|exact hab3|exact hab4|exact hab5|exact hab6|exact hab7) hwp hwl (by omega) hP_.1 hP_.2.1 hP_.2.2 dl dm gj) (fun e_ w_ h_=>by obtain⟨x0_,x1_,x2_,he_,hk_,⟨b0_,g0_⟩,⟨b1_,g1_⟩,⟨b2_,g2_⟩,a0_1_,a0_2_,a1_2_⟩:=h_;exact⟨_,he_,⟨x0_,x1_,x2_⟩,rfl,hk_,⟨⟨b0_,(KS.refl aa _).trans hR g0_⟩,⟨b1_,(KS.refl aa _).trans hR g1_⟩,⟨b2_,(KS.refl aa _).trans hR g2_⟩,a0_1_,a0_2_,a1_2_⟩,fun b hb=>by rcases hb with hb|hb|hb <;> first|exact(g0_ b hb).elim (fun z=>.inl (Or.inl z)) .inr|exact(g1_ b hb).elim (fun z=>.inl (Or.inr (Or.inl z))) .inr|exact(g2_ b hb).elim (fun z=>.inl (Or.inr (Or.inr z))) .inr⟩))
     refine KV ?_ ?_
     ·refine Lr.one rfl rfl rfl rfl fun g_ p_ F_ w_ hR hout hD=>?_
      have eo:F_ 39 = .tuple #[.agg (PN (Rb l K (Lk W 0) (el.i) ⟨(((K3 l K W H pre).f 0).1),(((K3 l K W H pre).f 0).2),((K3 l K W H pre).s)⟩)).toArray,iv ((Mt l K (Lk W 0) (el.i) ⟨(((K3 l K W H pre).f 0).1),(((K3 l K W H pre).f 0).2),((K3 l K W H pre).s)⟩).2.1)]:=(hD.get 0 rfl rfl rfl).2 (by decide)
      exact(KT rfl eo ⟨rfl,KR.refl _ _⟩)
     refine KV ?_ ?_
     ·refine Lr.one rfl rfl rfl rfl fun g_ p_ F_ w_ hR hout hD=>?_
      have bl:F_ 30 = .tuple #[.agg (PN (Rb l K (Lk W 0) (el.i) ⟨(((K3 l K W H pre).f 0).1),(((K3 l K W H pre).f 0).2),((K3 l K W H pre).s)⟩)).toArray,iv ((Mt l K (Lk W 0) (el.i) ⟨(((K3 l K W H pre).f 0).1),(((K3 l K W H pre).f 0).2),((K3 l K W H pre).s)⟩).2.1)]:=(hD.get 0 rfl rfl rfl).2 (by decide)
      exact(LY rfl bl rfl ⟨rfl,KR.refl _ _⟩)
     refine KV ?_ ?_
     ·refine Lr.one rfl rfl rfl rfl fun g_ p_ F_ w_ hR hout hD=>?_
      have bl:F_ 30 = .tuple #[.agg (PN (Rb l K (Lk W 0) (el.i) ⟨(((K3 l K W H pre).f 0).1),(((K3 l K W H pre).f 0).2),((K3 l K W H pre).s)⟩)).toArray,iv ((Mt l K (Lk W 0) (el.i) ⟨(((K3 l K W H pre).f 0).1),(((K3 l K W H pre).f 0).2),((K3 l K W H pre).s)⟩).2.1)]:=(hD.get 0 rfl rfl rfl).2 (by decide)
      exact(LY rfl bl rfl ⟨rfl,KR.refl _ _⟩)
     refine KV ?_ ?_
     ·refine Lr.alloc rfl rfl rfl rfl fun F_ w_ hR=>?_
      exact OY (n:=21) (vs:=(OP 0 0 0 0 0 (fun _=>(0:Int)))) rfl (by kernel_rfl) ⟨_,rfl,Nat.le_refl _,heap_alloc_new _ _,(KR.refl _ _).alloc _⟩
     refine KV ?_ ?_
     ·refine Lr.store rfl rfl rfl rfl fun g_ p_ F_ w_ hR hout hD hO_ hZ_ hQ_=>?_
      have cy:F_ 14=pt p_ 0:=(hD.get 0 rfl rfl rfl).1 rfl
      have ep:F_ 40 = .agg (PN (Rb l K (Lk W 0) (el.i) ⟨(((K3 l K W H pre).f 0).1),(((K3 l K W H pre).f 0).2),((K3 l K W H pre).s)⟩)).toArray:=(hD.get 1 rfl rfl rfl).2 (by decide)
      exact Pr (us:=(PN (Rb l K (Lk W 0) (el.i) ⟨(((K3 l K W H pre).f 0).1),(((K3 l K W H pre).f 0).2),((K3 l K W H pre).s)⟩))) LM rfl cy ep hZ_ rfl (MS Li (MS Li (MS Li (MS Li (L4 rfl MX))))) fun w2_ b_ k_=>⟨rfl,k_,b_⟩
     refine KV ?_ ?_
     ·refine Lr.one rfl rfl rfl rfl fun g_ p_ F_ w_ hR hout hD=>?_
      have er:F_ 41=iv ((Mt l K (Lk W 0) (el.i) ⟨(((K3 l K W H pre).f 0).1),(((K3 l K W H pre).f 0).2),((K3 l K W H pre).s)⟩).2.1):=(hD.get 0 rfl rfl rfl).2 (by decide)
      exact(Pv rfl er ⟨rfl,KR.refl _ _⟩)
     exact NT
    intro tZ kU Cb kV fx aW Cc ua ub gv uc kW kX fy
    obtain⟨et,eu,ew⟩:=tZ
    have kY:=bh.all aW (fun i h x=>(x.elim (fun y=>((cF.symm) i h y)) (fun y=>(y.elim (fun y=>((eY.symm) i h y)) (fun y=>((e8.symm) i h y))))))
    have kZ:=bi.all aW (fun x=>(x.elim (fun y=>((cG.symm) p1 rfl y)) (fun y=>(y.elim (fun y=>((eZ.symm) p1 rfl y)) (fun y=>((e9.symm) p1 rfl y))))))
    have k8:=aT.all aW (fun x=>(x.elim (fun y=>((bJ.symm) ao rfl y)) (fun y=>(y.elim (fun y=>((dt.symm) ao rfl y)) (fun y=>((dB.symm) ao rfl y))))))
    have la:=aC.all aW (fun x=>(x.elim (fun y=>((cH.symm) ac rfl y)) (fun y=>(y.elim (fun y=>((e6.symm) ac rfl y)) (fun y=>((fa.symm) ac rfl y))))))
    have lc:=aD.all aW (fun x=>(x.elim (fun y=>((cI.symm) ae rfl y)) (fun y=>(y.elim (fun y=>((e7.symm) ae rfl y)) (fun y=>((fb.symm) ae rfl y))))))
    have ld:=aE.all aW (fun x=>(x.elim (fun y=>((cJ.symm) ap rfl y)) (fun y=>(y.elim (fun y=>((cL.symm) ap rfl y)) (fun y=>((cN.symm) ap rfl y))))))
    have le:=aU.all aW (fun x=>(x.elim (fun y=>((bK.symm) ar rfl y)) (fun y=>(y.elim (fun y=>((du.symm) ar rfl y)) (fun y=>((dC.symm) ar rfl y))))))
    have ud:=aI.all aW (fun i h x=>(x.elim (fun y=>((dn.symm) i h y)) (fun y=>(y.elim (fun y=>((dv.symm) i h y)) (fun y=>((dD.symm) i h y))))))
    have ue:=aJ.all aW (fun i h x=>(x.elim (fun y=>((dp.symm) i h y)) (fun y=>(y.elim (fun y=>((dw.symm) i h y)) (fun y=>((dE.symm) i h y))))))
    have uf:=aK.all aW (fun i h x=>(x.elim (fun y=>((dq.symm) i h y)) (fun y=>(y.elim (fun y=>((dy.symm) i h y)) (fun y=>((dF.symm) i h y))))))
    have ug:=aL.all aW (fun i h x=>(x.elim (fun y=>((dr.symm) i h y)) (fun y=>(y.elim (fun y=>((dz.symm) i h y)) (fun y=>((dG.symm) i h y))))))
    have lf:=aV.all aW (fun x=>(x.elim (fun y=>((bL.symm) aq rfl y)) (fun y=>(y.elim (fun y=>((dA.symm) aq rfl y)) (fun y=>((dH.symm) aq rfl y))))))
    have lg:=au.all aW (fun i h x=>(x.elim (fun y=>((bM.symm) i h y)) (fun y=>(y.elim (fun y=>((co.symm) i h y)) (fun y=>((cq.symm) i h y))))))
    have uh:=aF.all aW (fun i h x=>(x.elim (fun y=>((cK.symm) i h y)) (fun y=>(y.elim (fun y=>((cM.symm) i h y)) (fun y=>((cO.symm) i h y))))))
    have lh:=bj.trans aW (fun i hi x=>(x.elim (fun y=>((KS.ok (S:=fun i=>(Lh ac) i\/((Lh ae) i\/((Lh ap) i\/(ab i\/(af i\/(ah i\/(ai i\/(aj i\/(ak i\/(am i\/(an i))))))))))) (KS.refl aa ab) (fun _ x=>Or.inr (Or.inr (Or.inr (Or.inl x))))) i hi y)) (fun y=>(y.elim (fun y=>((KS.ok (S:=fun i=>(Lh ac) i\/((Lh ae) i\/((Lh ap) i\/(ab i\/(af i\/(ah i\/(ai i\/(aj i\/(ak i\/(am i\/(an i))))))))))) (KS.refl aa af) (fun _ x=>Or.inr (Or.inr (Or.inr (Or.inr (Or.inl x)))))) i hi y)) (fun y=>((KS.ok (S:=fun i=>(Lh ac) i\/((Lh ae) i\/((Lh ap) i\/(ab i\/(af i\/(ah i\/(ai i\/(aj i\/(ak i\/(am i\/(an i))))))))))) (KS.refl aa ah) (fun _ x=>Or.inr (Or.inr (Or.inr (Or.inr (Or.inr (Or.inl x))))))) i hi y))))))
    obtain⟨⟨gw,ex⟩,⟨gz,ey⟩,⟨gA,ez⟩,gB,gC,gD⟩:=ua
    replace gw:P2 fx et aA l ((Sy l K (Lk W 0) (el.i) ⟨(((K3 l K W H pre).f 0).1),(((K3 l K W H pre).f 0).2),((K3 l K W H pre).s)⟩).s):=gw
    replace gz:PR fx eu a8 de ((Sy l K (Lk W 0) (el.i) ⟨(((K3 l K W H pre).f 0).1),(((K3 l K W H pre).f 0).2),((K3 l K W H pre).s)⟩).a):=gz
    replace gA:PR fx ew a9 df ((Sy l K (Lk W 0) (el.i) ⟨(((K3 l K W H pre).f 0).1),(((K3 l K W H pre).f 0).2),((K3 l K W H pre).s)⟩).b):=gA
    replace ex:KS aa ab et:=ex
    replace ey:KS aa af eu:=ey
    replace ez:KS aa ah ew:=ez
    replace gB:KO et eu:=gB
    replace gC:KO et ew:=gC
    replace gD:KO eu ew:=gD
    obtain⟨ui,uj,uk,ul,um,lj,un,uo⟩:=Sx ex cF bh cG bi bJ aT cH aC cI aD cJ aE bK aU dn aI
    obtain⟨uq,ur,ut,uu,uv,lk⟩:=Yo ex dp aJ dq aK dr aL bL aV bM au cK aF
    obtain⟨uw,ux,uy,uz,uA,ll,uB,uC⟩:=Sx ey eY bh eZ bi dt aT e6 aC e7 aD cL aE du aU dv aI
    obtain⟨uD,uE,uF,uG,uH,lm⟩:=Yo ey dw aJ dy aK dz aL dA aV co au cM aF
    obtain⟨uI,uJ,uK,uL,uM,ln,uN,uO⟩:=Sx ez e8 bh e9 bi dB aT fa aC fb aD cN aE dC aU dD aI
    obtain⟨uP,uQ,uR,uS,uT,lp⟩:=Yo ez dE aJ dF aK dG aL dH aV cq au cO aF
    replace gv:MJ fx kU 71 (PN (Rb l K (Lk W 0) (el.i) ⟨(((K3 l K W H pre).f 0).1),(((K3 l K W H pre).f 0).2),((K3 l K W H pre).s)⟩)):=gv
    obtain⟨uU,uV,lq⟩:=t3 fy 6 go 7 gp 9 gq
    have uW:kV 14=pt kU 0:=(fy 14).trans (kW 12 rfl)
    have lu:kV 15=iv ((Mt l K (Lk W 0) (el.i) ⟨(((K3 l K W H pre).f 0).1),(((K3 l K W H pre).f 0).2),((K3 l K W H pre).s)⟩).2.1):=(fy 15).trans (kX 14 (by decide) (by decide))
    clear fy kX kW uc ub
    refine KK (KM (KM (KL (K2 Lw lu (KN (.bool (decide (((Mt l K (Lk W 0) (el.i) ⟨(((K3 l K W H pre).f 0).1),(((K3 l K W H pre).f 0).2),((K3 l K W H pre).s)⟩).2.1)≠0))) rr (Mw rfl rfl rfl rfl rr) (KQ ?_))))))
    have uX:=K4 (.bool (decide (((Mt l K (Lk W 0) (el.i) ⟨(((K3 l K W H pre).f 0).1),(((K3 l K W H pre).f 0).2),((K3 l K W H pre).s)⟩).2.1)≠0)))
    refine KK ?_
    refine K5 uX (fun eA=>?_) (fun eA=>?_)
    ·replace eA:=of_decide_eq_true eA
     refine KM ?_
     have hX:=ay9 (l:=l) (k:=K) hpv hN (show (Mt l K (Lk W 0) el.i ((K3 l K W H pre).at 0)).2.1≠0 from by assumption)
     refine KL (K2 Lw lu (Ml rfl rfl rfl uU rfl la (by rfl) (by kernel_rfl) fun Cd uY bW=>?_))
     have uZ:=kY.all bW fK.symm
     have u0:=kZ.all bW (fL.symm p1 rfl)
     have u5:=k8.all bW (fM.symm ao rfl)
     have u6:=lc.all bW (bg ae rfl)
     have u7:=le.all bW (eS ar rfl)
     have u9:=lf.all bW (eV aq rfl)
     have va:=lg.all bW cA
     have vb:=lh.trans bW (KS.ok (S:=fun i=>(Lh ac) i\/((Lh ae) i\/((Lh ap) i\/(ab i\/(af i\/(ah i\/(ai i\/(aj i\/(ak i\/(am i\/(an i))))))))))) (KS.refl aa (Lh ac)) (fun _ x=>Or.inl x))
     refine Ml rfl rfl rfl uV rfl u6 (by rfl) (by kernel_rfl) fun Ce vc bX=>?_
     have vd:=uZ.all bX fN.symm
     have ve:=u0.all bX (fO.symm p1 rfl)
     have vf:=u5.all bX (fP.symm ao rfl)
     have vg:=uY.all bX (bg.symm ac rfl)
     have vh:=u7.all bX (eT ar rfl)
     have vi:=u9.all bX (eW aq rfl)
     have vj:=va.all bX cB
     have lv:=vb.trans bX (KS.ok (S:=fun i=>(Lh ac) i\/((Lh ae) i\/((Lh ap) i\/(ab i\/(af i\/(ah i\/(ai i\/(aj i\/(ak i\/(am i\/(an i))))))))))) (KS.refl aa (Lh ae)) (fun _ x=>Or.inr (Or.inl x)))
     refine KQ ?_
     refine KK (Le (Lx (Ot ?_)))
     exact⟨L2.keeps (L2.or aC.cells.cb (L2.or aD.cells.cb (L2.or aE.cells.cb (L2.or be.cells.cb (L2.or (aG.cb bQ.lt) (L2.or (aH.cb bR.lt) (L2.or (aI.cb bS.lt) (L2.or (aJ.cb bT.lt) (L2.or (aK.cb bU.lt) (L2.or (aL.cb bV.lt) aF.cells.cb)))))))))) lv,⟨az.trans lv (fun i hi x=>(x.elim (fun y=>((KS.ok (S:=fun _=>False) bA KZ) i hi y)) (fun y=>(y.elim (fun y=>((KS.ok (S:=fun _=>False) bB KZ) i hi y)) (fun y=>(y.elim (fun y=>((KS.ok (S:=fun _=>False) cz KZ) i hi y)) (fun y=>(y.elim (fun y=>((KS.ok (S:=fun _=>False) bm KZ) i hi y)) (fun y=>(y.elim (fun y=>((KS.ok (S:=fun _=>False) bn KZ) i hi y)) (fun y=>(y.elim (fun y=>((KS.ok (S:=fun _=>False) bo KZ) i hi y)) (fun y=>(y.elim (fun y=>((KS.ok (S:=fun _=>False) bp KZ) i hi y)) (fun y=>(y.elim (fun y=>((KS.ok (S:=fun _=>False) bq KZ) i hi y)) (fun y=>(y.elim (fun y=>((KS.ok (S:=fun _=>False) bt KZ) i hi y)) (fun y=>(y.elim (fun y=>((KS.ok (S:=fun _=>False) bu KZ) i hi y)) (fun y=>((KS.ok (S:=fun _=>False) bv KZ) i hi y)))))))))))))))))))))),vd,ve,vf,vg,(by rw[hX];exact vc),vh,vi,vj,(by rw[hX];assumption)⟩⟩
    ·replace eA:=of_decide_eq_false eA
     refine Lf (KK ?_)
     have hce:(Mt l K (Lk W 0) el.i ((K3 l K W H pre).at 0)).2.1=0:=by first|assumption|(apply Decidable.byContradiction;assumption)
     have hX:=aCb (l:=l) (k:=K) hpv hN hce
     have hol:=ayJ (l:=l) (k:=K) pre
     refine KL (KN V rr (M0 rfl lq Tryz.underlying32 ld rfl rr) (KN (.agg (PN (Rb l K (Lk W 0) (el.i) ⟨(((K3 l K W H pre).f 0).1),(((K3 l K W H pre).f 0).2),((K3 l K W H pre).s)⟩)).toArray) rr (KX LM rfl uW gv rr) (TO (r:=VD) (xs:=[.tmp 46]) (vs:=[.agg (PN (Rb l K (Lk W 0) (el.i) ⟨(((K3 l K W H pre).f 0).1),(((K3 l K W H pre).f 0).2),((K3 l K W H pre).s)⟩)).toArray]) (l:=[Rb l K (Lk W 0) (el.i) ⟨(((K3 l K W H pre).f 0).1),(((K3 l K W H pre).f 0).2),((K3 l K W H pre).s)⟩]) rfl rfl rfl rfl rfl (Lo rfl L5) rfl (by first|decide|exact Nat.le_of_ble_eq_true rfl) (by first|decide|exact Nat.le_of_ble_eq_true rfl) fun Cf Cg Ci vk Cj gE=>?_)))
     obtain⟨lw,lx,ly,lz,lA,lB,lC,lD,lE,lF,lG,lH,lJ,lK⟩:=PT gE kY kZ k8 la lc ld gw le gz gA ud ue uf ug
     obtain⟨lL,lM,vl⟩:=Od gE lf lg uh
     have lN:=lh.tr gE
     refine SS (r:=VD) rfl rfl rfl rfl rfl rfl vl vk.roa (by first|omega|(simp;done)|(simp;omega)) fun vm Ck vn lO gF aM=>?_
     obtain⟨vo,vp,vq,vr,vt,lP,vu,vv⟩:=Sx gF cX lw cY lx cZ ly c5 lz c6 lA c7 lB (lk.symm) lC c9 lD
     obtain⟨vw,vx,vy,vz,vA,vB,vC,vD⟩:=Sx gF (lm.symm) lE (lp.symm) lF (cQ.symm) lG (cS.symm) lH (cU.symm) lJ (cW.symm) lK da lL bN lM
     have vE:=lw.all aM cX.symm
     have vF:=lx.all aM (cY.symm p1 rfl)
     have vG:=ly.all aM (cZ.symm ao rfl)
     have vH:=lz.all aM (c5.symm ac rfl)
     have vJ:=lA.all aM (c6.symm ae rfl)
     have vK:=lB.all aM (c7.symm ap rfl)
     have vL:=lC.all aM lk
     have vM:=lD.all aM (c9.symm ar rfl)
     have vN:=lE.all aM lm
     have vO:=lF.all aM lp
     have vP:=lG.all aM cQ
     have vQ:=lH.all aM cS
     have vR:=lJ.all aM cU
     have vS:=lK.all aM cW
     have vT:=lL.all aM (da.symm aq rfl)
     have vU:=lM.all aM bN.symm
     have vV:=lN.trans aM (KS.ok (S:=fun i=>(Lh ac) i\/((Lh ae) i\/((Lh ap) i\/(ab i\/(af i\/(ah i\/(ai i\/(aj i\/(ak i\/(am i\/(an i))))))))))) (KS.refl aa an) (fun _ x=>Or.inr (Or.inr (Or.inr (Or.inr (Or.inr (Or.inr (Or.inr (Or.inr (Or.inr (Or.inr x)))))))))))
     refine Ml rfl rfl rfl lq rfl vK lO.oneC (by kernel_rfl) fun Cl vW aN=>?_
     have vX:=vE.all aN fW.symm
     have vY:=vF.all aN (fX.symm p1 rfl)
     have vZ:=vG.all aN (fY.symm ao rfl)
     have v7:=vH.all aN (fZ.symm ac rfl)
     have v9:=vJ.all aN (f5.symm ae rfl)
     have wa:=vL.all aN lj
     have wb:=vM.all aN (eU ar rfl)
     have lQ:=vN.all aN ll
     have lR:=vO.all aN ln
     have lS:=vP.all aN cP
     have lT:=vQ.all aN cR
     have lU:=vR.all aN cT
     have lV:=vS.all aN cV
     have wc:=vT.all aN (eX aq rfl)
     have wd:=vU.all aN cC
     have we:=lO.all aN lP
     have gG:=vV.trans aN (KS.ok (S:=fun i=>(Lh ac) i\/((Lh ae) i\/((Lh ap) i\/(ab i\/(af i\/(ah i\/(ai i\/(aj i\/(ak i\/(am i\/(an i))))))))))) (KS.refl aa (Lh ap)) (fun _ x=>Or.inr (Or.inr (Or.inl x))))
     refine KQ ?_
     refine Lz ?_
     exact⟨L2.keeps (L2.or aC.cells.cb (L2.or aD.cells.cb (L2.or aE.cells.cb (L2.or be.cells.cb (L2.or (aG.cb bQ.lt) (L2.or (aH.cb bR.lt) (L2.or (aI.cb bS.lt) (L2.or (aJ.cb bT.lt) (L2.or (aK.cb bU.lt) (L2.or (aL.cb bV.lt) aF.cells.cb)))))))))) gG,gG.mono (fun i hi x=>(x.elim (fun y=>fun e=>cA.symm i y (by rw[au.1];exact e)) (fun y=>(y.elim (fun y=>fun e=>cB.symm i y (by rw[au.1];exact e)) (fun y=>(y.elim (fun y=>fun e=>cC.symm i y (by rw[au.1];exact e)) (fun y=>(y.elim (fun y=>fun e=>bM i y (by rw[au.1];exact e)) (fun y=>(y.elim (fun y=>fun e=>co i y (by rw[au.1];exact e)) (fun y=>(y.elim (fun y=>fun e=>cq i y (by rw[au.1];exact e)) (fun y=>(y.elim (fun y=>fun e=>cr i y (by rw[au.1];exact e)) (fun y=>(y.elim (fun y=>fun e=>ct i y (by rw[au.1];exact e)) (fun y=>(y.elim (fun y=>fun e=>cu i y (by rw[au.1];exact e)) (fun y=>(y.elim (fun y=>fun e=>cv i y (by rw[au.1];exact e)) (fun y=>(fun e=>bN i y (by rw[au.1];exact e))))))))))))))))))))))),⟨vm,et,eu,ew,ai,aj,ak,am,vn,(hX.2.2.2.2),az.trans gG (fun i hi x=>(x.elim (fun y=>((KS.ok (S:=fun _=>False) bA KZ) i hi y)) (fun y=>(y.elim (fun y=>((KS.ok (S:=fun _=>False) bB KZ) i hi y)) (fun y=>(y.elim (fun y=>((KS.ok (S:=fun _=>False) cz KZ) i hi y)) (fun y=>(y.elim (fun y=>((KS.ok (S:=fun _=>False) bm KZ) i hi y)) (fun y=>(y.elim (fun y=>((KS.ok (S:=fun _=>False) bn KZ) i hi y)) (fun y=>(y.elim (fun y=>((KS.ok (S:=fun _=>False) bo KZ) i hi y)) (fun y=>(y.elim (fun y=>((KS.ok (S:=fun _=>False) bp KZ) i hi y)) (fun y=>(y.elim (fun y=>((KS.ok (S:=fun _=>False) bq KZ) i hi y)) (fun y=>(y.elim (fun y=>((KS.ok (S:=fun _=>False) bt KZ) i hi y)) (fun y=>(y.elim (fun y=>((KS.ok (S:=fun _=>False) bu KZ) i hi y)) (fun y=>((KS.ok (S:=fun _=>False) bv KZ) i hi y)))))))))))))))))))))),vX,vY,vZ,v7,v9,vW,(by rw[hX.1];exact wa),wb,(by first|(rw[hX.2.2.1];exact lQ)|(rw[hX.2.2.2.1 0 (by decide)];exact lQ)),(by first|(rw[hX.2.2.1];exact lR)|(rw[hX.2.2.2.1 0 (by decide)];exact lR)),(by first|(rw[hX.2.2.1];exact lS)|(rw[hX.2.2.2.1 1 (by decide)];exact lS)),(by first|(rw[hX.2.2.1];exact lT)|(rw[hX.2.2.2.1 1 (by decide)];exact lT)),(by first|(rw[hX.2.2.1];exact lU)|(rw[hX.2.2.2.1 2 (by decide)];exact lU)),(by first|(rw[hX.2.2.1];exact lV)|(rw[hX.2.2.2.1 2 (by decide)];exact lV)),wc,wd,(by rw[hX.2.1];exact we),bm.trans az ((KS.refl aa ab).trans bj ex),bn.trans az ((KS.refl aa af).trans bj ey),bo.trans az ((KS.refl aa ah).trans bj ez),bp.trans az (KS.refl aa ai),bq.trans az (KS.refl aa aj),bt.trans az (KS.refl aa ak),bu.trans az (KS.refl aa am),bv.trans az (KS.trans (KS.refl aa an) lN gF),ui,uj,uk,ul,um,lj,un,gB,gC,uo,uq,ur,ut,uu,uv,vu.symm,uw,ux,uy,uz,uA,ll,uB,gD,uC,uD,uE,uF,uG,uH,vw.symm,uI,uJ,uK,uL,uM,ln,uN,uO,uP,uQ,uR,uS,uT,vx.symm,fc,fd,dI,fe,ff,cP,dJ,gl,dK,dL,dM,cr,vy.symm,fg,fh,dN,fi,fj,cR,dO,dP,dQ,dR,ct,vz.symm,fk,fm,dS,fo,fp,cT,dT,gm,dU,cu,vA.symm,fq,ft,dV,fu,fw,cV,dW,dX,cv,vB.symm,vo,vp,vq,vr,vt,lP,vv,vC,vD⟩⟩
   ·skip
    have lW:MJ aa aw 65 [iv ((1:Nat):Int),iv (pX (Lk W 1) el.i),iv (pY (Lk W 1) el.i)]:=by have h_:=bz;rw[hpv] at h_;exact h_
    have hwp:=S4 (W:=W) (p:=1) hsd.1
    have hwl:=Pe (W:=W) (p:=1) hsd.2.1
    have hwh:=Pe (W:=H) (p:=1) hsd.2.2.2.2.1
    have hwn:Lk W 1*Lk H 1<=16*16:=Nat.mul_le_mul hwl hwh
    rw[hpv] at hei
    refine Rr (γ:=(Nat->Prop)×(Nat->Prop)×(Nat->Prop)) [(9,8),(10,8),(11,8),(13,8),(14,8),(13,12),(14,12)] [some 31,some 32,some 33,some 34,some 35,some 36,some 37,some 38,some 39,some 30,some 40,some 41,some 14,none,some 15] ⟨fun w_=>P2 w_ ab aA l ((K3 l K W H pre).s)/\PR w_ ai ba dg (((K3 l K W H pre).f 1).1)/\PR w_ aj bb dh (((K3 l K W H pre).f 1).2),fun i=>ab i\/(ai i\/(aj i)),fun g_ w_=>(P2 w_ (g_.1) aA l ((Sy l K (Lk W 1) (el.i) ⟨(((K3 l K W H pre).f 1).1),(((K3 l K W H pre).f 1).2),((K3 l K W H pre).s)⟩).s)/\KS aa ab (g_.1))/\(PR w_ (g_.2.1) ba dg ((Sy l K (Lk W 1) (el.i) ⟨(((K3 l K W H pre).f 1).1),(((K3 l K W H pre).f 1).2),((K3 l K W H pre).s)⟩).a)/\KS aa ai (g_.2.1))/\(PR w_ (g_.2.2) bb dh ((Sy l K (Lk W 1) (el.i) ⟨(((K3 l K W H pre).f 1).1),(((K3 l K W H pre).f 1).2),((K3 l K W H pre).s)⟩).b)/\KS aa aj (g_.2.2))/\KO (g_.1) (g_.2.1)/\KO (g_.1) (g_.2.2)/\KO (g_.2.1) (g_.2.2),fun g_=>fun i=>(g_.1) i\/((g_.2.1) i\/((g_.2.2) i)),fun p_ w_=>MJ w_ p_ 71 (OP 0 0 0 0 0 (fun _=>(0:Int))),fun g_ p_ w_=>MJ w_ p_ 71 (PN (Rb l K (Lk W 1) (el.i) ⟨(((K3 l K W H pre).f 1).1),(((K3 l K W H pre).f 1).2),((K3 l K W H pre).s)⟩))⟩ (fun i=>ab i\/(ai i\/(aj i))) (fun p_=>aa.heap.size<=p_) [fun g_=>pt aA 0,fun g_=>pt ao 0,fun g_=>iv K,fun g_=>pt aw 0,fun g_=>iv ((1:Nat):Int),fun g_=>pt aq 2,fun g_=>.agg #[ba,bb],fun g_=>.agg #[iv ((1:Nat):Int),iv (pX (Lk W 1) el.i),iv (pY (Lk W 1) el.i)],fun g_=>.tuple #[.agg (PN (Rb l K (Lk W 1) (el.i) ⟨(((K3 l K W H pre).f 1).1),(((K3 l K W H pre).f 1).2),((K3 l K W H pre).s)⟩)).toArray,iv ((Mt l K (Lk W 1) (el.i) ⟨(((K3 l K W H pre).f 1).1),(((K3 l K W H pre).f 1).2),((K3 l K W H pre).s)⟩).2.1)],fun g_=>.tuple #[.agg (PN (Rb l K (Lk W 1) (el.i) ⟨(((K3 l K W H pre).f 1).1),(((K3 l K W H pre).f 1).2),((K3 l K W H pre).s)⟩)).toArray,iv ((Mt l K (Lk W 1) (el.i) ⟨(((K3 l K W H pre).f 1).1),(((K3 l K W H pre).f 1).2),((K3 l K W H pre).s)⟩).2.1)],fun g_=>.agg (PN (Rb l K (Lk W 1) (el.i) ⟨(((K3 l K W H pre).f 1).1),(((K3 l K W H pre).f 1).2),((K3 l K W H pre).s)⟩)).toArray,fun g_=>iv ((Mt l K (Lk W 1) (el.i) ⟨(((K3 l K W H pre).f 1).1),(((K3 l K W H pre).f 1).2),((K3 l K W H pre).s)⟩).2.1),fun _=>undef,fun _=>undef,fun g_=>iv ((Mt l K (Lk W 1) (el.i) ⟨(((K3 l K W H pre).f 1).1),(((K3 l K W H pre).f 1).2),((K3 l K W H pre).s)⟩).2.1)] 8 13 (some 12) (Mb,Mb,Mb) 0 (by kernel_rfl) (by kernel_rfl) (by kernel_rfl) (by kernel_rfl) ⟨.inr (.inr fun _ _=>rfl),⟨.inr (.inr fun _ _=>rfl),⟨.inr (.inr fun _ _=>rfl),⟨.inr (.inr fun _ _=>rfl),⟨.inr (.inr fun _ _=>rfl),⟨.inr (.inr fun _ _=>rfl),⟨.inr (.inr fun _ _=>rfl),⟨.inr (.inr fun _ _=>rfl),⟨.inr (.inl rfl),⟨.inl rfl,⟨.inl rfl,⟨.inl rfl,⟨.inr (.inr fun _ _=>rfl),⟨.inl rfl,⟨.inl rfl,trivial⟩⟩⟩⟩⟩⟩⟩⟩⟩⟩⟩⟩⟩⟩⟩ ⟨⟨be,aI,aJ⟩,fun w w1 S1 h k a=>by obtain⟨h0_,h1_,h2_⟩:=h;exact⟨h0_.all k (fun i z=>a i (Or.inl z)),h1_.all k (fun i z=>a i (Or.inr (Or.inl z))),h2_.all k (fun i z=>a i (Or.inr (Or.inr z)))⟩,fun w h i z=>by obtain⟨h0_,h1_,h2_⟩:=h;rcases z with z|z|z <;> first|exact h0_.live i z|exact h1_.live i z|exact h2_.live i z,fun g w w1 S1 h k a=>by obtain⟨⟨b0_,g0_⟩,⟨b1_,g1_⟩,⟨b2_,g2_⟩,a0_1_,a0_2_,a1_2_⟩:=h;exact⟨⟨b0_.all k (fun i z=>a i (Or.inl z)),g0_⟩,⟨b1_.all k (fun i z=>a i (Or.inr (Or.inl z))),g1_⟩,⟨b2_.all k (fun i z=>a i (Or.inr (Or.inr z))),g2_⟩,a0_1_,a0_2_,a1_2_⟩,fun g w h i z=>by obtain⟨⟨b0_,g0_⟩,⟨b1_,g1_⟩,⟨b2_,g2_⟩,a0_1_,a0_2_,a1_2_⟩:=h;rcases z with z|z|z <;> first|exact b0_.live i z|exact b1_.live i z|exact b2_.live i z,fun _ _ _ _ h k z=>h.all k z,fun _ _ h=>h.lt,fun _ _ _ _ _ h k z=>h.all k z,fun _ z=>z,fun _ h=>.inr h,fun p h z=>by rcases z with z|z|z <;> first|exact absurd h (Nat.not_le.2 (be.live p z))|exact absurd h (Nat.not_le.2 (aI.live p z))|exact absurd h (Nat.not_le.2 (aJ.live p z))⟩ (fun _ _ _ h=>h) (fun e=>by cases e) ?_ ?_
    ·refine KV ?_ ?_
     ·refine Lr.one rfl rfl rfl rfl fun g_ p_ F_ w_ hR hout hD=>?_
      exact(M0 rfl ((hout 10 rfl (by decide)).trans gr) Tryz.underlying54 (aU.all hR (fun x=>(x.elim (fun y=>((bK.symm) ar rfl y)) (fun y=>(y.elim (fun y=>((dJ.symm) ar rfl y)) (fun y=>((dO.symm) ar rfl y))))))) rfl ⟨rfl,KR.refl _ _⟩)
     refine KV ?_ ?_
     ·refine Lr.one rfl rfl rfl rfl fun g_ p_ F_ w_ hR hout hD=>?_
      exact(KU (n:=1) rfl ((hout 4 rfl (by decide)).trans gn) Tryz.underlying25 rfl (by kernel_rfl) (by decide) rfl ⟨rfl,KR.refl _ _⟩)
     refine KV ?_ ?_
     ·refine Lr.one rfl rfl rfl rfl fun g_ p_ F_ w_ hR hout hD=>?_
      have dZ:F_ 32=pt ao 0:=(hD.get 0 rfl rfl rfl).2 (by decide)
      exact(KY rfl dZ Tryz.underlying3 (aT.all hR (fun x=>(x.elim (fun y=>((bJ.symm) ao rfl y)) (fun y=>(y.elim (fun y=>((dI.symm) ao rfl y)) (fun y=>((dN.symm) ao rfl y))))))) rfl rfl ⟨rfl,KR.refl _ _⟩)
     refine KV ?_ ?_
     ·refine Lr.one rfl rfl rfl rfl fun g_ p_ F_ w_ hR hout hD=>?_
      exact(KU (n:=1) rfl ((hout 13 rfl (by decide)).trans db) Tryz.underlying65 rfl (by kernel_rfl) (by decide) rfl ⟨rfl,KR.refl _ _⟩)
     refine KV ?_ ?_
     ·refine Lr.one rfl rfl rfl rfl fun g_ p_ F_ w_ hR hout hD=>?_
      have d8:F_ 34=pt aw 0:=(hD.get 0 rfl rfl rfl).2 (by decide)
      exact(KY rfl d8 Tryz.underlying3 (lW.all hR (fun x=>(x.elim (fun y=>(dc aw rfl y)) (fun y=>(y.elim (fun y=>(kP aw rfl y)) (fun y=>(kQ aw rfl y))))))) rfl rfl ⟨rfl,KR.refl _ _⟩)
     refine KV ?_ ?_
     ·refine Lr.one rfl rfl rfl rfl fun g_ p_ F_ w_ hR hout hD=>?_
      have d9:F_ 35=iv ((1:Nat):Int):=(hD.get 0 rfl rfl rfl).2 (by decide)
      exact(L3 1 (s:=2) rfl ((hout 11 rfl (by decide)).trans gt) d9 (by omega) Tryz.underlying59 (by omega) (by kernel_rfl) (by omega) ⟨rfl,KR.refl _ _⟩)
     refine KV ?_ ?_
     ·refine Lr.one rfl rfl rfl rfl fun g_ p_ F_ w_ hR hout hD=>?_
      have eb:F_ 36=pt aq 2:=(hD.get 0 rfl rfl rfl).2 (by decide)
      exact(PO (n:=2) Wb rfl eb (aV.all hR (fun x=>(x.elim (fun y=>((bL.symm) aq rfl y)) (fun y=>(y.elim (fun y=>((dM.symm) aq rfl y)) (fun y=>((dR.symm) aq rfl y))))))) (Nat.le_of_ble_eq_true rfl) rfl ⟨rfl,KR.refl _ _⟩)
     refine KV ?_ ?_
     ·refine Lr.one rfl rfl rfl rfl fun g_ p_ F_ w_ hR hout hD=>?_
      exact(KX QR rfl ((hout 13 rfl (by decide)).trans db) (lW.all hR (fun x=>(x.elim (fun y=>(dc aw rfl y)) (fun y=>(y.elim (fun y=>(kP aw rfl y)) (fun y=>(kQ aw rfl y))))))) ⟨rfl,KR.refl _ _⟩)
     refine KV ?_ ?_
     ·refine Lr.call rfl rfl rfl rfl fun g_ p_ F_ w_ hR hout hD hP_=>?_
      have ee:F_ 31=pt aA 0:=(hD.get 0 rfl rfl rfl).2 (by decide)
      have eh:F_ 33=iv K:=(hD.get 1 rfl rfl rfl).2 (by decide)
      have ei:F_ 37 = .agg #[ba,bb]:=(hD.get 2 rfl rfl rfl).2 (by decide)
      have en:F_ 38 = .agg #[iv ((1:Nat):Int),iv (pX (Lk W 1) el.i),iv (pY (Lk W 1) el.i)]:=(hD.get 3 rfl rfl rfl).2 (by decide)
      exact(LQ rfl rfl rfl (fun _ _=>by kernel_rfl) (K6 _) (Lo ee (Lo eh (Lo ei (Lo en L5)))) (X6 aA l ((K3 l K W H pre).s) K ((1:Nat):Int) (Lk W 1) (el.i) ba bb dg dh (((K3 l K W H pre).f 1).1) (((K3 l K W H pre).f 1).2) ab ai aj _ (gu.but hR (by rintro i (h|h|h) <;> first|exact hab0 _ h|exact hab1 _ h|exact hab2 _ h|exact hab3 _ h|exact hab4 _ h|exact hab5 _ h|exact hab6 _ h|exact hab7 _ h)) (hO2.but hR (ovO (by rintro i (h|h|h) <;> first|exact hab0 _ h|exact hab1 _ h|exact hab2 _ h|exact hab3 _ h|exact hab4 _ h|exact hab5 _ h|exact hab6 _ h|exact hab7 _ h))) (by first|exact hab0|exact hab1|exact hab2|exact hab3|exact hab4|exact hab5|exact hab6|exact hab7) (by first|exact hab0|exact hab1|exact hab2|exact hab3|exact hab4|exact hab5|exact hab6|exact hab7) (by first|exact hab0|exact hab1|exact hab2|exact hab3|exact hab4|exact hab5|exact hab6|exact hab7) hwp hwl (by omega) hP_.1 hP_.2.1 hP_.2.2 dn dp gl) (fun e_ w_ h_=>by obtain⟨x0_,x1_,x2_,he_,hk_,⟨b0_,g0_⟩,⟨b1_,g1_⟩,⟨b2_,g2_⟩,a0_1_,a0_2_,a1_2_⟩:=h_;exact⟨_,he_,⟨x0_,x1_,x2_⟩,rfl,hk_,⟨⟨b0_,(KS.refl aa _).trans hR g0_⟩,⟨b1_,(KS.refl aa _).trans hR g1_⟩,⟨b2_,(KS.refl aa _).trans hR g2_⟩,a0_1_,a0_2_,a1_2_⟩,fun b hb=>by rcases hb with hb|hb|hb <;> first|exact(g0_ b hb).elim (fun z=>.inl (Or.inl z)) .inr|exact(g1_ b hb).elim (fun z=>.inl (Or.inr (Or.inl z))) .inr|exact(g2_ b hb).elim (fun z=>.inl (Or.inr (Or.inr z))) .inr⟩))
     refine KV ?_ ?_
     ·refine Lr.one rfl rfl rfl rfl fun g_ p_ F_ w_ hR hout hD=>?_
      have eo:F_ 39 = .tuple #[.agg (PN (Rb l K (Lk W 1) (el.i) ⟨(((K3 l K W H pre).f 1).1),(((K3 l K W H pre).f 1).2),((K3 l K W H pre).s)⟩)).toArray,iv ((Mt l K (Lk W 1) (el.i) ⟨(((K3 l K W H pre).f 1).1),(((K3 l K W H pre).f 1).2),((K3 l K W H pre).s)⟩).2.1)]:=(hD.get 0 rfl rfl rfl).2 (by decide)
      exact(KT rfl eo ⟨rfl,KR.refl _ _⟩)
     refine KV ?_ ?_
     ·refine Lr.one rfl rfl rfl rfl fun g_ p_ F_ w_ hR hout hD=>?_
      have bl:F_ 30 = .tuple #[.agg (PN (Rb l K (Lk W 1) (el.i) ⟨(((K3 l K W H pre).f 1).1),(((K3 l K W H pre).f 1).2),((K3 l K W H pre).s)⟩)).toArray,iv ((Mt l K (Lk W 1) (el.i) ⟨(((K3 l K W H pre).f 1).1),(((K3 l K W H pre).f 1).2),((K3 l K W H pre).s)⟩).2.1)]:=(hD.get 0 rfl rfl rfl).2 (by decide)
      exact(LY rfl bl rfl ⟨rfl,KR.refl _ _⟩)
     refine KV ?_ ?_
     ·refine Lr.one rfl rfl rfl rfl fun g_ p_ F_ w_ hR hout hD=>?_
      have bl:F_ 30 = .tuple #[.agg (PN (Rb l K (Lk W 1) (el.i) ⟨(((K3 l K W H pre).f 1).1),(((K3 l K W H pre).f 1).2),((K3 l K W H pre).s)⟩)).toArray,iv ((Mt l K (Lk W 1) (el.i) ⟨(((K3 l K W H pre).f 1).1),(((K3 l K W H pre).f 1).2),((K3 l K W H pre).s)⟩).2.1)]:=(hD.get 0 rfl rfl rfl).2 (by decide)
      exact(LY rfl bl rfl ⟨rfl,KR.refl _ _⟩)
     refine KV ?_ ?_
     ·refine Lr.alloc rfl rfl rfl rfl fun F_ w_ hR=>?_
      exact OY (n:=21) (vs:=(OP 0 0 0 0 0 (fun _=>(0:Int)))) rfl (by kernel_rfl) ⟨_,rfl,Nat.le_refl _,heap_alloc_new _ _,(KR.refl _ _).alloc _⟩
     refine KV ?_ ?_
     ·refine Lr.store rfl rfl rfl rfl fun g_ p_ F_ w_ hR hout hD hO_ hZ_ hQ_=>?_
      have cy:F_ 14=pt p_ 0:=(hD.get 0 rfl rfl rfl).1 rfl
      have ep:F_ 40 = .agg (PN (Rb l K (Lk W 1) (el.i) ⟨(((K3 l K W H pre).f 1).1),(((K3 l K W H pre).f 1).2),((K3 l K W H pre).s)⟩)).toArray:=(hD.get 1 rfl rfl rfl).2 (by decide)
      exact Pr (us:=(PN (Rb l K (Lk W 1) (el.i) ⟨(((K3 l K W H pre).f 1).1),(((K3 l K W H pre).f 1).2),((K3 l K W H pre).s)⟩))) LM rfl cy ep hZ_ rfl (MS Li (MS Li (MS Li (MS Li (L4 rfl MX))))) fun w2_ b_ k_=>⟨rfl,k_,b_⟩
     refine KV ?_ ?_
     ·refine Lr.one rfl rfl rfl rfl fun g_ p_ F_ w_ hR hout hD=>?_
      have er:F_ 41=iv ((Mt l K (Lk W 1) (el.i) ⟨(((K3 l K W H pre).f 1).1),(((K3 l K W H pre).f 1).2),((K3 l K W H pre).s)⟩).2.1):=(hD.get 0 rfl rfl rfl).2 (by decide)
      exact(Pv rfl er ⟨rfl,KR.refl _ _⟩)
     exact NT
    intro wg lX Cm lY fA aX Cn wh wi gH wj lZ l0 fB
    obtain⟨eB,eC,eD⟩:=wg
    have l1:=bh.all aX (fun i h x=>(x.elim (fun y=>((cF.symm) i h y)) (fun y=>(y.elim (fun y=>((fc.symm) i h y)) (fun y=>((fg.symm) i h y))))))
    have l3:=bi.all aX (fun x=>(x.elim (fun y=>((cG.symm) p1 rfl y)) (fun y=>(y.elim (fun y=>((fd.symm) p1 rfl y)) (fun y=>((fh.symm) p1 rfl y))))))
    have l4:=aT.all aX (fun x=>(x.elim (fun y=>((bJ.symm) ao rfl y)) (fun y=>(y.elim (fun y=>((dI.symm) ao rfl y)) (fun y=>((dN.symm) ao rfl y))))))
    have l5:=aC.all aX (fun x=>(x.elim (fun y=>((cH.symm) ac rfl y)) (fun y=>(y.elim (fun y=>((fe.symm) ac rfl y)) (fun y=>((fi.symm) ac rfl y))))))
    have l6:=aD.all aX (fun x=>(x.elim (fun y=>((cI.symm) ae rfl y)) (fun y=>(y.elim (fun y=>((ff.symm) ae rfl y)) (fun y=>((fj.symm) ae rfl y))))))
    have l7:=aE.all aX (fun x=>(x.elim (fun y=>((cJ.symm) ap rfl y)) (fun y=>(y.elim (fun y=>((cP.symm) ap rfl y)) (fun y=>((cR.symm) ap rfl y))))))
    have l8:=aU.all aX (fun x=>(x.elim (fun y=>((bK.symm) ar rfl y)) (fun y=>(y.elim (fun y=>((dJ.symm) ar rfl y)) (fun y=>((dO.symm) ar rfl y))))))
    have wk:=aG.all aX (fun i h x=>(x.elim (fun y=>((dl.symm) i h y)) (fun y=>(y.elim (fun y=>(dv i h y)) (fun y=>(dw i h y))))))
    have wm:=aH.all aX (fun i h x=>(x.elim (fun y=>((dm.symm) i h y)) (fun y=>(y.elim (fun y=>(dD i h y)) (fun y=>(dE i h y))))))
    have wn:=aK.all aX (fun i h x=>(x.elim (fun y=>((dq.symm) i h y)) (fun y=>(y.elim (fun y=>((dK.symm) i h y)) (fun y=>((dP.symm) i h y))))))
    have wo:=aL.all aX (fun i h x=>(x.elim (fun y=>((dr.symm) i h y)) (fun y=>(y.elim (fun y=>((dL.symm) i h y)) (fun y=>((dQ.symm) i h y))))))
    have l9:=aV.all aX (fun x=>(x.elim (fun y=>((bL.symm) aq rfl y)) (fun y=>(y.elim (fun y=>((dM.symm) aq rfl y)) (fun y=>((dR.symm) aq rfl y))))))
    have ma:=au.all aX (fun i h x=>(x.elim (fun y=>((bM.symm) i h y)) (fun y=>(y.elim (fun y=>((cr.symm) i h y)) (fun y=>((ct.symm) i h y))))))
    have ws:=aF.all aX (fun i h x=>(x.elim (fun y=>((cK.symm) i h y)) (fun y=>(y.elim (fun y=>((cQ.symm) i h y)) (fun y=>((cS.symm) i h y))))))
    have mb:=bj.trans aX (fun i hi x=>(x.elim (fun y=>((KS.ok (S:=fun i=>(Lh ac) i\/((Lh ae) i\/((Lh ap) i\/(ab i\/(af i\/(ah i\/(ai i\/(aj i\/(ak i\/(am i\/(an i))))))))))) (KS.refl aa ab) (fun _ x=>Or.inr (Or.inr (Or.inr (Or.inl x))))) i hi y)) (fun y=>(y.elim (fun y=>((KS.ok (S:=fun i=>(Lh ac) i\/((Lh ae) i\/((Lh ap) i\/(ab i\/(af i\/(ah i\/(ai i\/(aj i\/(ak i\/(am i\/(an i))))))))))) (KS.refl aa ai) (fun _ x=>Or.inr (Or.inr (Or.inr (Or.inr (Or.inr (Or.inr (Or.inl x)))))))) i hi y)) (fun y=>((KS.ok (S:=fun i=>(Lh ac) i\/((Lh ae) i\/((Lh ap) i\/(ab i\/(af i\/(ah i\/(ai i\/(aj i\/(ak i\/(am i\/(an i))))))))))) (KS.refl aa aj) (fun _ x=>Or.inr (Or.inr (Or.inr (Or.inr (Or.inr (Or.inr (Or.inr (Or.inl x))))))))) i hi y))))))
    obtain⟨⟨gI,eE⟩,⟨gJ,eF⟩,⟨gK,eG⟩,gL,gM,gN⟩:=wh
    replace gI:P2 fA eB aA l ((Sy l K (Lk W 1) (el.i) ⟨(((K3 l K W H pre).f 1).1),(((K3 l K W H pre).f 1).2),((K3 l K W H pre).s)⟩).s):=gI
    replace gJ:PR fA eC ba dg ((Sy l K (Lk W 1) (el.i) ⟨(((K3 l K W H pre).f 1).1),(((K3 l K W H pre).f 1).2),((K3 l K W H pre).s)⟩).a):=gJ
    replace gK:PR fA eD bb dh ((Sy l K (Lk W 1) (el.i) ⟨(((K3 l K W H pre).f 1).1),(((K3 l K W H pre).f 1).2),((K3 l K W H pre).s)⟩).b):=gK
    replace eE:KS aa ab eB:=eE
    replace eF:KS aa ai eC:=eF
    replace eG:KS aa aj eD:=eG
    replace gL:KO eB eC:=gL
    replace gM:KO eB eD:=gM
    replace gN:KO eC eD:=gN
    obtain⟨wt,wu,wy,wz,wA,mc,wB,wC⟩:=Sx eE cF bh cG bi bJ aT cH aC cI aD cJ aE bK aU dl aG
    obtain⟨wD,wE,wF,wG,wH,me⟩:=Yo eE dm aH dq aK dr aL bL aV bM au cK aF
    obtain⟨wI,wJ,wK,wL,wM,mf,wN,wO⟩:=Sx eF fc bh fd bi dI aT fe aC ff aD cP aE dJ aU (dv.symm) aG
    obtain⟨wP,wQ,wR,wS,wT,mg⟩:=Yo eF (dD.symm) aH dK aK dL aL dM aV cr au cQ aF
    obtain⟨wU,wV,wW,wX,wY,mh,wZ,w4⟩:=Sx eG fg bh fh bi dN aT fi aC fj aD cR aE dO aU (dw.symm) aG
    obtain⟨w7,xa,xb,xc,xd,mi⟩:=Yo eG (dE.symm) aH dP aK dQ aL dR aV ct au cS aF
    replace gH:MJ fA lX 71 (PN (Rb l K (Lk W 1) (el.i) ⟨(((K3 l K W H pre).f 1).1),(((K3 l K W H pre).f 1).2),((K3 l K W H pre).s)⟩)):=gH
    obtain⟨xe,xf,mj⟩:=t3 fB 6 go 7 gp 9 gq
    have xg:lY 14=pt lX 0:=(fB 14).trans (lZ 12 rfl)
    have ml:lY 15=iv ((Mt l K (Lk W 1) (el.i) ⟨(((K3 l K W H pre).f 1).1),(((K3 l K W H pre).f 1).2),((K3 l K W H pre).s)⟩).2.1):=(fB 15).trans (l0 14 (by decide) (by decide))
    clear fB l0 lZ wj wi
    refine KK (KM (KM (KL (K2 Lw ml (KN (.bool (decide (((Mt l K (Lk W 1) (el.i) ⟨(((K3 l K W H pre).f 1).1),(((K3 l K W H pre).f 1).2),((K3 l K W H pre).s)⟩).2.1)≠0))) rr (Mw rfl rfl rfl rfl rr) (KQ ?_))))))
    have xh:=K4 (.bool (decide (((Mt l K (Lk W 1) (el.i) ⟨(((K3 l K W H pre).f 1).1),(((K3 l K W H pre).f 1).2),((K3 l K W H pre).s)⟩).2.1)≠0)))
    refine KK ?_
    refine K5 xh (fun eH=>?_) (fun eH=>?_)
    ·replace eH:=of_decide_eq_true eH
     refine KM ?_
     have hX:=ay9 (l:=l) (k:=K) hpv hN (show (Mt l K (Lk W 1) el.i ((K3 l K W H pre).at 1)).2.1≠0 from by assumption)
     refine KL (K2 Lw ml (Ml rfl rfl rfl xe rfl l5 (by rfl) (by kernel_rfl) fun Co xi bY=>?_))
     have xj:=l1.all bY fK.symm
     have xk:=l3.all bY (fL.symm p1 rfl)
     have xl:=l4.all bY (fM.symm ao rfl)
     have xm:=l6.all bY (bg ae rfl)
     have xn:=l8.all bY (eS ar rfl)
     have xo:=l9.all bY (eV aq rfl)
     have xp:=ma.all bY cA
     have xq:=mb.trans bY (KS.ok (S:=fun i=>(Lh ac) i\/((Lh ae) i\/((Lh ap) i\/(ab i\/(af i\/(ah i\/(ai i\/(aj i\/(ak i\/(am i\/(an i))))))))))) (KS.refl aa (Lh ac)) (fun _ x=>Or.inl x))
     refine Ml rfl rfl rfl xf rfl xm (by rfl) (by kernel_rfl) fun Cp xr bZ=>?_
     have xt:=xj.all bZ fN.symm
     have xu:=xk.all bZ (fO.symm p1 rfl)
     have xv:=xl.all bZ (fP.symm ao rfl)
     have xw:=xi.all bZ (bg.symm ac rfl)
     have xx:=xn.all bZ (eT ar rfl)
     have xy:=xo.all bZ (eW aq rfl)
     have xz:=xp.all bZ cB
     have mm:=xq.trans bZ (KS.ok (S:=fun i=>(Lh ac) i\/((Lh ae) i\/((Lh ap) i\/(ab i\/(af i\/(ah i\/(ai i\/(aj i\/(ak i\/(am i\/(an i))))))))))) (KS.refl aa (Lh ae)) (fun _ x=>Or.inr (Or.inl x)))
     refine KQ ?_
     refine KK (Le (Lx (Ot ?_)))
     exact⟨L2.keeps (L2.or aC.cells.cb (L2.or aD.cells.cb (L2.or aE.cells.cb (L2.or be.cells.cb (L2.or (aG.cb bQ.lt) (L2.or (aH.cb bR.lt) (L2.or (aI.cb bS.lt) (L2.or (aJ.cb bT.lt) (L2.or (aK.cb bU.lt) (L2.or (aL.cb bV.lt) aF.cells.cb)))))))))) mm,⟨az.trans mm (fun i hi x=>(x.elim (fun y=>((KS.ok (S:=fun _=>False) bA KZ) i hi y)) (fun y=>(y.elim (fun y=>((KS.ok (S:=fun _=>False) bB KZ) i hi y)) (fun y=>(y.elim (fun y=>((KS.ok (S:=fun _=>False) cz KZ) i hi y)) (fun y=>(y.elim (fun y=>((KS.ok (S:=fun _=>False) bm KZ) i hi y)) (fun y=>(y.elim (fun y=>((KS.ok (S:=fun _=>False) bn KZ) i hi y)) (fun y=>(y.elim (fun y=>((KS.ok (S:=fun _=>False) bo KZ) i hi y)) (fun y=>(y.elim (fun y=>((KS.ok (S:=fun _=>False) bp KZ) i hi y)) (fun y=>(y.elim (fun y=>((KS.ok (S:=fun _=>False) bq KZ) i hi y)) (fun y=>(y.elim (fun y=>((KS.ok (S:=fun _=>False) bt KZ) i hi y)) (fun y=>(y.elim (fun y=>((KS.ok (S:=fun _=>False) bu KZ) i hi y)) (fun y=>((KS.ok (S:=fun _=>False) bv KZ) i hi y)))))))))))))))))))))),xt,xu,xv,xw,(by rw[hX];exact xr),xx,xy,xz,(by rw[hX];assumption)⟩⟩
    ·replace eH:=of_decide_eq_false eH
     refine Lf (KK ?_)
     have hce:(Mt l K (Lk W 1) el.i ((K3 l K W H pre).at 1)).2.1=0:=by first|assumption|(apply Decidable.byContradiction;assumption)
     have hX:=aCb (l:=l) (k:=K) hpv hN hce
     have hol:=ayJ (l:=l) (k:=K) pre
     refine KL (KN V rr (M0 rfl mj Tryz.underlying32 l7 rfl rr) (KN (.agg (PN (Rb l K (Lk W 1) (el.i) ⟨(((K3 l K W H pre).f 1).1),(((K3 l K W H pre).f 1).2),((K3 l K W H pre).s)⟩)).toArray) rr (KX LM rfl xg gH rr) (TO (r:=VD) (xs:=[.tmp 46]) (vs:=[.agg (PN (Rb l K (Lk W 1) (el.i) ⟨(((K3 l K W H pre).f 1).1),(((K3 l K W H pre).f 1).2),((K3 l K W H pre).s)⟩)).toArray]) (l:=[Rb l K (Lk W 1) (el.i) ⟨(((K3 l K W H pre).f 1).1),(((K3 l K W H pre).f 1).2),((K3 l K W H pre).s)⟩]) rfl rfl rfl rfl rfl (Lo rfl L5) rfl (by first|decide|exact Nat.le_of_ble_eq_true rfl) (by first|decide|exact Nat.le_of_ble_eq_true rfl) fun Cq Cs Ct xA Cu gO=>?_)))
     obtain⟨mn,mo,mp,mq,mr,mu,mv,mw,mz,mA,mB,mC,mD,mE⟩:=PT gO l1 l3 l4 l5 l6 l7 gI l8 wk wm gJ gK wn wo
     obtain⟨mF,mG,xB⟩:=Od gO l9 ma ws
     have mH:=mb.tr gO
     refine SS (r:=VD) rfl rfl rfl rfl rfl rfl xB xA.roa (by first|omega|(simp;done)|(simp;omega)) fun xC Cv xD mI gP aO=>?_
     obtain⟨xE,xF,xG,xH,xI,mJ,xJ,xK⟩:=Sx gP cX mn cY mo cZ mp c5 mq c6 mr c7 mu (me.symm) mv c9 mw
     obtain⟨xL,xM,xN,xO,xP,xQ,xR,xS⟩:=Sx gP (cM.symm) mz (cO.symm) mA (mg.symm) mB (mi.symm) mC (cU.symm) mD (cW.symm) mE da mF bN mG
     have xT:=mn.all aO cX.symm
     have xU:=mo.all aO (cY.symm p1 rfl)
     have xV:=mp.all aO (cZ.symm ao rfl)
     have xW:=mq.all aO (c5.symm ac rfl)
     have xX:=mr.all aO (c6.symm ae rfl)
     have xY:=mu.all aO (c7.symm ap rfl)
     have xZ:=mv.all aO me
     have ya:=mw.all aO (c9.symm ar rfl)
     have yb:=mz.all aO cM
     have yc:=mA.all aO cO
     have yd:=mB.all aO mg
     have ye:=mC.all aO mi
     have yf:=mD.all aO cU
     have yg:=mE.all aO cW
     have yh:=mF.all aO (da.symm aq rfl)
     have yi:=mG.all aO bN.symm
     have yj:=mH.trans aO (KS.ok (S:=fun i=>(Lh ac) i\/((Lh ae) i\/((Lh ap) i\/(ab i\/(af i\/(ah i\/(ai i\/(aj i\/(ak i\/(am i\/(an i))))))))))) (KS.refl aa an) (fun _ x=>Or.inr (Or.inr (Or.inr (Or.inr (Or.inr (Or.inr (Or.inr (Or.inr (Or.inr (Or.inr x)))))))))))
     refine Ml rfl rfl rfl mj rfl xY mI.oneC (by kernel_rfl) fun Cw yk aP=>?_
     have yl:=xT.all aP fW.symm
     have ym:=xU.all aP (fX.symm p1 rfl)
     have yn:=xV.all aP (fY.symm ao rfl)
     have yo:=xW.all aP (fZ.symm ac rfl)
     have yp:=xX.all aP (f5.symm ae rfl)
     have yq:=xZ.all aP mc
     have yr:=ya.all aP (eU ar rfl)
     have mK:=yb.all aP cL
     have mL:=yc.all aP cN
     have mM:=yd.all aP mf
     have mN:=ye.all aP mh
     have mO:=yf.all aP cT
     have mP:=yg.all aP cV
     have yt:=yh.all aP (eX aq rfl)
     have yu:=yi.all aP cC
     have yv:=mI.all aP mJ
     have gQ:=yj.trans aP (KS.ok (S:=fun i=>(Lh ac) i\/((Lh ae) i\/((Lh ap) i\/(ab i\/(af i\/(ah i\/(ai i\/(aj i\/(ak i\/(am i\/(an i))))))))))) (KS.refl aa (Lh ap)) (fun _ x=>Or.inr (Or.inr (Or.inl x))))
     refine KQ ?_
     refine Lz ?_
     exact⟨L2.keeps (L2.or aC.cells.cb (L2.or aD.cells.cb (L2.or aE.cells.cb (L2.or be.cells.cb (L2.or (aG.cb bQ.lt) (L2.or (aH.cb bR.lt) (L2.or (aI.cb bS.lt) (L2.or (aJ.cb bT.lt) (L2.or (aK.cb bU.lt) (L2.or (aL.cb bV.lt) aF.cells.cb)))))))))) gQ,gQ.mono (fun i hi x=>(x.elim (fun y=>fun e=>cA.symm i y (by rw[au.1];exact e)) (fun y=>(y.elim (fun y=>fun e=>cB.symm i y (by rw[au.1];exact e)) (fun y=>(y.elim (fun y=>fun e=>cC.symm i y (by rw[au.1];exact e)) (fun y=>(y.elim (fun y=>fun e=>bM i y (by rw[au.1];exact e)) (fun y=>(y.elim (fun y=>fun e=>co i y (by rw[au.1];exact e)) (fun y=>(y.elim (fun y=>fun e=>cq i y (by rw[au.1];exact e)) (fun y=>(y.elim (fun y=>fun e=>cr i y (by rw[au.1];exact e)) (fun y=>(y.elim (fun y=>fun e=>ct i y (by rw[au.1];exact e)) (fun y=>(y.elim (fun y=>fun e=>cu i y (by rw[au.1];exact e)) (fun y=>(y.elim (fun y=>fun e=>cv i y (by rw[au.1];exact e)) (fun y=>(fun e=>bN i y (by rw[au.1];exact e))))))))))))))))))))))),⟨xC,eB,af,ah,eC,eD,ak,am,xD,(hX.2.2.2.2),az.trans gQ (fun i hi x=>(x.elim (fun y=>((KS.ok (S:=fun _=>False) bA KZ) i hi y)) (fun y=>(y.elim (fun y=>((KS.ok (S:=fun _=>False) bB KZ) i hi y)) (fun y=>(y.elim (fun y=>((KS.ok (S:=fun _=>False) cz KZ) i hi y)) (fun y=>(y.elim (fun y=>((KS.ok (S:=fun _=>False) bm KZ) i hi y)) (fun y=>(y.elim (fun y=>((KS.ok (S:=fun _=>False) bn KZ) i hi y)) (fun y=>(y.elim (fun y=>((KS.ok (S:=fun _=>False) bo KZ) i hi y)) (fun y=>(y.elim (fun y=>((KS.ok (S:=fun _=>False) bp KZ) i hi y)) (fun y=>(y.elim (fun y=>((KS.ok (S:=fun _=>False) bq KZ) i hi y)) (fun y=>(y.elim (fun y=>((KS.ok (S:=fun _=>False) bt KZ) i hi y)) (fun y=>(y.elim (fun y=>((KS.ok (S:=fun _=>False) bu KZ) i hi y)) (fun y=>((KS.ok (S:=fun _=>False) bv KZ) i hi y)))))))))))))))))))))),yl,ym,yn,yo,yp,yk,(by rw[hX.1];exact yq),yr,(by first|(rw[hX.2.2.1];exact mK)|(rw[hX.2.2.2.1 0 (by decide)];exact mK)),(by first|(rw[hX.2.2.1];exact mL)|(rw[hX.2.2.2.1 0 (by decide)];exact mL)),(by first|(rw[hX.2.2.1];exact mM)|(rw[hX.2.2.2.1 1 (by decide)];exact mM)),(by first|(rw[hX.2.2.1];exact mN)|(rw[hX.2.2.2.1 1 (by decide)];exact mN)),(by first|(rw[hX.2.2.1];exact mO)|(rw[hX.2.2.2.1 2 (by decide)];exact mO)),(by first|(rw[hX.2.2.1];exact mP)|(rw[hX.2.2.2.1 2 (by decide)];exact mP)),yt,yu,(by rw[hX.2.1];exact yv),bm.trans az ((KS.refl aa ab).trans bj eE),bn.trans az (KS.refl aa af),bo.trans az (KS.refl aa ah),bp.trans az ((KS.refl aa ai).trans bj eF),bq.trans az ((KS.refl aa aj).trans bj eG),bt.trans az (KS.refl aa ak),bu.trans az (KS.refl aa am),bv.trans az (KS.trans (KS.refl aa an) mH gP),wt,wu,wy,wz,wA,mc,wB,wC,wD,gL,gM,wE,wF,wG,wH,xJ.symm,eY,eZ,dt,e6,e7,cL,du,gj,wO.symm,w4.symm,dy,dz,dA,co,xL.symm,e8,e9,dB,fa,fb,cN,dC,wP.symm,w7.symm,dF,dG,dH,cq,xM.symm,wI,wJ,wK,wL,wM,mf,wN,gN,wQ,wR,wS,wT,xN.symm,wU,wV,wW,wX,wY,mh,wZ,xa,xb,xc,xd,xO.symm,fk,fm,dS,fo,fp,cT,dT,gm,dU,cu,xP.symm,fq,ft,dV,fu,fw,cV,dW,dX,cv,xQ.symm,xE,xF,xG,xH,xI,mJ,xK,xR,xS⟩⟩
   ·skip
    have mQ:MJ aa aw 65 [iv ((2:Nat):Int),iv (pX (Lk W 2) el.i),iv (pY (Lk W 2) el.i)]:=by have h_:=bz;rw[hpv] at h_;exact h_
    have hwp:=S4 (W:=W) (p:=2) hsd.1
    have hwl:=Pe (W:=W) (p:=2) hsd.2.1
    have hwh:=Pe (W:=H) (p:=2) hsd.2.2.2.2.1
    have hwn:Lk W 2*Lk H 2<=16*16:=Nat.mul_le_mul hwl hwh
    rw[hpv] at hei
    refine Rr (γ:=(Nat->Prop)×(Nat->Prop)×(Nat->Prop)) [(9,8),(10,8),(11,8),(13,8),(14,8),(13,12),(14,12)] [some 31,some 32,some 33,some 34,some 35,some 36,some 37,some 38,some 39,some 30,some 40,some 41,some 14,none,some 15] ⟨fun w_=>P2 w_ ab aA l ((K3 l K W H pre).s)/\PR w_ ak bc di (((K3 l K W H pre).f 2).1)/\PR w_ am bd dj (((K3 l K W H pre).f 2).2),fun i=>ab i\/(ak i\/(am i)),fun g_ w_=>(P2 w_ (g_.1) aA l ((Sy l K (Lk W 2) (el.i) ⟨(((K3 l K W H pre).f 2).1),(((K3 l K W H pre).f 2).2),((K3 l K W H pre).s)⟩).s)/\KS aa ab (g_.1))/\(PR w_ (g_.2.1) bc di ((Sy l K (Lk W 2) (el.i) ⟨(((K3 l K W H pre).f 2).1),(((K3 l K W H pre).f 2).2),((K3 l K W H pre).s)⟩).a)/\KS aa ak (g_.2.1))/\(PR w_ (g_.2.2) bd dj ((Sy l K (Lk W 2) (el.i) ⟨(((K3 l K W H pre).f 2).1),(((K3 l K W H pre).f 2).2),((K3 l K W H pre).s)⟩).b)/\KS aa am (g_.2.2))/\KO (g_.1) (g_.2.1)/\KO (g_.1) (g_.2.2)/\KO (g_.2.1) (g_.2.2),fun g_=>fun i=>(g_.1) i\/((g_.2.1) i\/((g_.2.2) i)),fun p_ w_=>MJ w_ p_ 71 (OP 0 0 0 0 0 (fun _=>(0:Int))),fun g_ p_ w_=>MJ w_ p_ 71 (PN (Rb l K (Lk W 2) (el.i) ⟨(((K3 l K W H pre).f 2).1),(((K3 l K W H pre).f 2).2),((K3 l K W H pre).s)⟩))⟩ (fun i=>ab i\/(ak i\/(am i))) (fun p_=>aa.heap.size<=p_) [fun g_=>pt aA 0,fun g_=>pt ao 0,fun g_=>iv K,fun g_=>pt aw 0,fun g_=>iv ((2:Nat):Int),fun g_=>pt aq 4,fun g_=>.agg #[bc,bd],fun g_=>.agg #[iv ((2:Nat):Int),iv (pX (Lk W 2) el.i),iv (pY (Lk W 2) el.i)],fun g_=>.tuple #[.agg (PN (Rb l K (Lk W 2) (el.i) ⟨(((K3 l K W H pre).f 2).1),(((K3 l K W H pre).f 2).2),((K3 l K W H pre).s)⟩)).toArray,iv ((Mt l K (Lk W 2) (el.i) ⟨(((K3 l K W H pre).f 2).1),(((K3 l K W H pre).f 2).2),((K3 l K W H pre).s)⟩).2.1)],fun g_=>.tuple #[.agg (PN (Rb l K (Lk W 2) (el.i) ⟨(((K3 l K W H pre).f 2).1),(((K3 l K W H pre).f 2).2),((K3 l K W H pre).s)⟩)).toArray,iv ((Mt l K (Lk W 2) (el.i) ⟨(((K3 l K W H pre).f 2).1),(((K3 l K W H pre).f 2).2),((K3 l K W H pre).s)⟩).2.1)],fun g_=>.agg (PN (Rb l K (Lk W 2) (el.i) ⟨(((K3 l K W H pre).f 2).1),(((K3 l K W H pre).f 2).2),((K3 l K W H pre).s)⟩)).toArray,fun g_=>iv ((Mt l K (Lk W 2) (el.i) ⟨(((K3 l K W H pre).f 2).1),(((K3 l K W H pre).f 2).2),((K3 l K W H pre).s)⟩).2.1),fun _=>undef,fun _=>undef,fun g_=>iv ((Mt l K (Lk W 2) (el.i) ⟨(((K3 l K W H pre).f 2).1),(((K3 l K W H pre).f 2).2),((K3 l K W H pre).s)⟩).2.1)] 8 13 (some 12) (Mb,Mb,Mb) 0 (by kernel_rfl) (by kernel_rfl) (by kernel_rfl) (by kernel_rfl) ⟨.inr (.inr fun _ _=>rfl),⟨.inr (.inr fun _ _=>rfl),⟨.inr (.inr fun _ _=>rfl),⟨.inr (.inr fun _ _=>rfl),⟨.inr (.inr fun _ _=>rfl),⟨.inr (.inr fun _ _=>rfl),⟨.inr (.inr fun _ _=>rfl),⟨.inr (.inr fun _ _=>rfl),⟨.inr (.inl rfl),⟨.inl rfl,⟨.inl rfl,⟨.inl rfl,⟨.inr (.inr fun _ _=>rfl),⟨.inl rfl,⟨.inl rfl,trivial⟩⟩⟩⟩⟩⟩⟩⟩⟩⟩⟩⟩⟩⟩⟩ ⟨⟨be,aK,aL⟩,fun w w1 S1 h k a=>by obtain⟨h0_,h1_,h2_⟩:=h;exact⟨h0_.all k (fun i z=>a i (Or.inl z)),h1_.all k (fun i z=>a i (Or.inr (Or.inl z))),h2_.all k (fun i z=>a i (Or.inr (Or.inr z)))⟩,fun w h i z=>by obtain⟨h0_,h1_,h2_⟩:=h;rcases z with z|z|z <;> first|exact h0_.live i z|exact h1_.live i z|exact h2_.live i z,fun g w w1 S1 h k a=>by obtain⟨⟨b0_,g0_⟩,⟨b1_,g1_⟩,⟨b2_,g2_⟩,a0_1_,a0_2_,a1_2_⟩:=h;exact⟨⟨b0_.all k (fun i z=>a i (Or.inl z)),g0_⟩,⟨b1_.all k (fun i z=>a i (Or.inr (Or.inl z))),g1_⟩,⟨b2_.all k (fun i z=>a i (Or.inr (Or.inr z))),g2_⟩,a0_1_,a0_2_,a1_2_⟩,fun g w h i z=>by obtain⟨⟨b0_,g0_⟩,⟨b1_,g1_⟩,⟨b2_,g2_⟩,a0_1_,a0_2_,a1_2_⟩:=h;rcases z with z|z|z <;> first|exact b0_.live i z|exact b1_.live i z|exact b2_.live i z,fun _ _ _ _ h k z=>h.all k z,fun _ _ h=>h.lt,fun _ _ _ _ _ h k z=>h.all k z,fun _ z=>z,fun _ h=>.inr h,fun p h z=>by rcases z with z|z|z <;> first|exact absurd h (Nat.not_le.2 (be.live p z))|exact absurd h (Nat.not_le.2 (aK.live p z))|exact absurd h (Nat.not_le.2 (aL.live p z))⟩ (fun _ _ _ h=>h) (fun e=>by cases e) ?_ ?_
    ·refine KV ?_ ?_
     ·refine Lr.one rfl rfl rfl rfl fun g_ p_ F_ w_ hR hout hD=>?_
      exact(M0 rfl ((hout 10 rfl (by decide)).trans gr) Tryz.underlying54 (aU.all hR (fun x=>(x.elim (fun y=>((bK.symm) ar rfl y)) (fun y=>(y.elim (fun y=>((dT.symm) ar rfl y)) (fun y=>((dW.symm) ar rfl y))))))) rfl ⟨rfl,KR.refl _ _⟩)
     refine KV ?_ ?_
     ·refine Lr.one rfl rfl rfl rfl fun g_ p_ F_ w_ hR hout hD=>?_
      exact(KU (n:=1) rfl ((hout 4 rfl (by decide)).trans gn) Tryz.underlying25 rfl (by kernel_rfl) (by decide) rfl ⟨rfl,KR.refl _ _⟩)
     refine KV ?_ ?_
     ·refine Lr.one rfl rfl rfl rfl fun g_ p_ F_ w_ hR hout hD=>?_
      have dZ:F_ 32=pt ao 0:=(hD.get 0 rfl rfl rfl).2 (by decide)
      exact(KY rfl dZ Tryz.underlying3 (aT.all hR (fun x=>(x.elim (fun y=>((bJ.symm) ao rfl y)) (fun y=>(y.elim (fun y=>((dS.symm) ao rfl y)) (fun y=>((dV.symm) ao rfl y))))))) rfl rfl ⟨rfl,KR.refl _ _⟩)
     refine KV ?_ ?_
     ·refine Lr.one rfl rfl rfl rfl fun g_ p_ F_ w_ hR hout hD=>?_
      exact(KU (n:=1) rfl ((hout 13 rfl (by decide)).trans db) Tryz.underlying65 rfl (by kernel_rfl) (by decide) rfl ⟨rfl,KR.refl _ _⟩)
     refine KV ?_ ?_
     ·refine Lr.one rfl rfl rfl rfl fun g_ p_ F_ w_ hR hout hD=>?_
      have d8:F_ 34=pt aw 0:=(hD.get 0 rfl rfl rfl).2 (by decide)
      exact(KY rfl d8 Tryz.underlying3 (mQ.all hR (fun x=>(x.elim (fun y=>(dc aw rfl y)) (fun y=>(y.elim (fun y=>(kR aw rfl y)) (fun y=>(kS aw rfl y))))))) rfl rfl ⟨rfl,KR.refl _ _⟩)
     refine KV ?_ ?_
     ·refine Lr.one rfl rfl rfl rfl fun g_ p_ F_ w_ hR hout hD=>?_
      have d9:F_ 35=iv ((2:Nat):Int):=(hD.get 0 rfl rfl rfl).2 (by decide)
      exact(L3 2 (s:=2) rfl ((hout 11 rfl (by decide)).trans gt) d9 (by omega) Tryz.underlying59 (by omega) (by kernel_rfl) (by omega) ⟨rfl,KR.refl _ _⟩)
     refine KV ?_ ?_
     ·refine Lr.one rfl rfl rfl rfl fun g_ p_ F_ w_ hR hout hD=>?_
      have eb:F_ 36=pt aq 4:=(hD.get 0 rfl rfl rfl).2 (by decide)
      exact(PO (n:=2) Wb rfl eb (aV.all hR (fun x=>(x.elim (fun y=>((bL.symm) aq rfl y)) (fun y=>(y.elim (fun y=>((dU.symm) aq rfl y)) (fun y=>((dX.symm) aq rfl y))))))) (Nat.le_of_ble_eq_true rfl) rfl ⟨rfl,KR.refl _ _⟩)
     refine KV ?_ ?_
     ·refine Lr.one rfl rfl rfl rfl fun g_ p_ F_ w_ hR hout hD=>?_
      exact(KX QR rfl ((hout 13 rfl (by decide)).trans db) (mQ.all hR (fun x=>(x.elim (fun y=>(dc aw rfl y)) (fun y=>(y.elim (fun y=>(kR aw rfl y)) (fun y=>(kS aw rfl y))))))) ⟨rfl,KR.refl _ _⟩)
     refine KV ?_ ?_
     ·refine Lr.call rfl rfl rfl rfl fun g_ p_ F_ w_ hR hout hD hP_=>?_
      have ee:F_ 31=pt aA 0:=(hD.get 0 rfl rfl rfl).2 (by decide)
      have eh:F_ 33=iv K:=(hD.get 1 rfl rfl rfl).2 (by decide)
      have ei:F_ 37 = .agg #[bc,bd]:=(hD.get 2 rfl rfl rfl).2 (by decide)
      have en:F_ 38 = .agg #[iv ((2:Nat):Int),iv (pX (Lk W 2) el.i),iv (pY (Lk W 2) el.i)]:=(hD.get 3 rfl rfl rfl).2 (by decide)
      exact(LQ rfl rfl rfl (fun _ _=>by kernel_rfl) (K6 _) (Lo ee (Lo eh (Lo ei (Lo en L5)))) (X6 aA l ((K3 l K W H pre).s) K ((2:Nat):Int) (Lk W 2) (el.i) bc bd di dj (((K3 l K W H pre).f 2).1) (((K3 l K W H pre).f 2).2) ab ak am _ (gu.but hR (by rintro i (h|h|h) <;> first|exact hab0 _ h|exact hab1 _ h|exact hab2 _ h|exact hab3 _ h|exact hab4 _ h|exact hab5 _ h|exact hab6 _ h|exact hab7 _ h)) (hO2.but hR (ovO (by rintro i (h|h|h) <;> first|exact hab0 _ h|exact hab1 _ h|exact hab2 _ h|exact hab3 _ h|exact hab4 _ h|exact hab5 _ h|exact hab6 _ h|exact hab7 _ h))) (by first|exact hab0|exact hab1|exact hab2|exact hab3|exact hab4|exact hab5|exact hab6|exact hab7) (by first|exact hab0|exact hab1|exact hab2|exact hab3|exact hab4|exact hab5|exact hab6|exact hab7) (by first|exact hab0|exact hab1|exact hab2|exact hab3|exact hab4|exact hab5|exact hab6|exact hab7) hwp hwl (by omega) hP_.1 hP_.2.1 hP_.2.2 dq dr gm) (fun e_ w_ h_=>by obtain⟨x0_,x1_,x2_,he_,hk_,⟨b0_,g0_⟩,⟨b1_,g1_⟩,⟨b2_,g2_⟩,a0_1_,a0_2_,a1_2_⟩:=h_;exact⟨_,he_,⟨x0_,x1_,x2_⟩,rfl,hk_,⟨⟨b0_,(KS.refl aa _).trans hR g0_⟩,⟨b1_,(KS.refl aa _).trans hR g1_⟩,⟨b2_,(KS.refl aa _).trans hR g2_⟩,a0_1_,a0_2_,a1_2_⟩,fun b hb=>by rcases hb with hb|hb|hb <;> first|exact(g0_ b hb).elim (fun z=>.inl (Or.inl z)) .inr|exact(g1_ b hb).elim (fun z=>.inl (Or.inr (Or.inl z))) .inr|exact(g2_ b hb).elim (fun z=>.inl (Or.inr (Or.inr z))) .inr⟩))
     refine KV ?_ ?_
     ·refine Lr.one rfl rfl rfl rfl fun g_ p_ F_ w_ hR hout hD=>?_
      have eo:F_ 39 = .tuple #[.agg (PN (Rb l K (Lk W 2) (el.i) ⟨(((K3 l K W H pre).f 2).1),(((K3 l K W H pre).f 2).2),((K3 l K W H pre).s)⟩)).toArray,iv ((Mt l K (Lk W 2) (el.i) ⟨(((K3 l K W H pre).f 2).1),(((K3 l K W H pre).f 2).2),((K3 l K W H pre).s)⟩).2.1)]:=(hD.get 0 rfl rfl rfl).2 (by decide)
      exact(KT rfl eo ⟨rfl,KR.refl _ _⟩)
     refine KV ?_ ?_
     ·refine Lr.one rfl rfl rfl rfl fun g_ p_ F_ w_ hR hout hD=>?_
      have bl:F_ 30 = .tuple #[.agg (PN (Rb l K (Lk W 2) (el.i) ⟨(((K3 l K W H pre).f 2).1),(((K3 l K W H pre).f 2).2),((K3 l K W H pre).s)⟩)).toArray,iv ((Mt l K (Lk W 2) (el.i) ⟨(((K3 l K W H pre).f 2).1),(((K3 l K W H pre).f 2).2),((K3 l K W H pre).s)⟩).2.1)]:=(hD.get 0 rfl rfl rfl).2 (by decide)
      exact(LY rfl bl rfl ⟨rfl,KR.refl _ _⟩)
     refine KV ?_ ?_
     ·refine Lr.one rfl rfl rfl rfl fun g_ p_ F_ w_ hR hout hD=>?_
      have bl:F_ 30 = .tuple #[.agg (PN (Rb l K (Lk W 2) (el.i) ⟨(((K3 l K W H pre).f 2).1),(((K3 l K W H pre).f 2).2),((K3 l K W H pre).s)⟩)).toArray,iv ((Mt l K (Lk W 2) (el.i) ⟨(((K3 l K W H pre).f 2).1),(((K3 l K W H pre).f 2).2),((K3 l K W H pre).s)⟩).2.1)]:=(hD.get 0 rfl rfl rfl).2 (by decide)
      exact(LY rfl bl rfl ⟨rfl,KR.refl _ _⟩)
     refine KV ?_ ?_
     ·refine Lr.alloc rfl rfl rfl rfl fun F_ w_ hR=>?_
      exact OY (n:=21) (vs:=(OP 0 0 0 0 0 (fun _=>(0:Int)))) rfl (by kernel_rfl) ⟨_,rfl,Nat.le_refl _,heap_alloc_new _ _,(KR.refl _ _).alloc _⟩
     refine KV ?_ ?_
     ·refine Lr.store rfl rfl rfl rfl fun g_ p_ F_ w_ hR hout hD hO_ hZ_ hQ_=>?_
      have cy:F_ 14=pt p_ 0:=(hD.get 0 rfl rfl rfl).1 rfl
      have ep:F_ 40 = .agg (PN (Rb l K (Lk W 2) (el.i) ⟨(((K3 l K W H pre).f 2).1),(((K3 l K W H pre).f 2).2),((K3 l K W H pre).s)⟩)).toArray:=(hD.get 1 rfl rfl rfl).2 (by decide)
      exact Pr (us:=(PN (Rb l K (Lk W 2) (el.i) ⟨(((K3 l K W H pre).f 2).1),(((K3 l K W H pre).f 2).2),((K3 l K W H pre).s)⟩))) LM rfl cy ep hZ_ rfl (MS Li (MS Li (MS Li (MS Li (L4 rfl MX))))) fun w2_ b_ k_=>⟨rfl,k_,b_⟩
     refine KV ?_ ?_
     ·refine Lr.one rfl rfl rfl rfl fun g_ p_ F_ w_ hR hout hD=>?_
      have er:F_ 41=iv ((Mt l K (Lk W 2) (el.i) ⟨(((K3 l K W H pre).f 2).1),(((K3 l K W H pre).f 2).2),((K3 l K W H pre).s)⟩).2.1):=(hD.get 0 rfl rfl rfl).2 (by decide)
      exact(Pv rfl er ⟨rfl,KR.refl _ _⟩)
     exact NT
    intro yw mR Cx mS fC aY Cy yx yz gR yA mT mU fD
    obtain⟨eI,eJ,eK⟩:=yw
    have mV:=bh.all aY (fun i h x=>(x.elim (fun y=>((cF.symm) i h y)) (fun y=>(y.elim (fun y=>((fk.symm) i h y)) (fun y=>((fq.symm) i h y))))))
    have mW:=bi.all aY (fun x=>(x.elim (fun y=>((cG.symm) p1 rfl y)) (fun y=>(y.elim (fun y=>((fm.symm) p1 rfl y)) (fun y=>((ft.symm) p1 rfl y))))))
    have mX:=aT.all aY (fun x=>(x.elim (fun y=>((bJ.symm) ao rfl y)) (fun y=>(y.elim (fun y=>((dS.symm) ao rfl y)) (fun y=>((dV.symm) ao rfl y))))))
    have mY:=aC.all aY (fun x=>(x.elim (fun y=>((cH.symm) ac rfl y)) (fun y=>(y.elim (fun y=>((fo.symm) ac rfl y)) (fun y=>((fu.symm) ac rfl y))))))
    have mZ:=aD.all aY (fun x=>(x.elim (fun y=>((cI.symm) ae rfl y)) (fun y=>(y.elim (fun y=>((fp.symm) ae rfl y)) (fun y=>((fw.symm) ae rfl y))))))
    have m2:=aE.all aY (fun x=>(x.elim (fun y=>((cJ.symm) ap rfl y)) (fun y=>(y.elim (fun y=>((cT.symm) ap rfl y)) (fun y=>((cV.symm) ap rfl y))))))
    have m4:=aU.all aY (fun x=>(x.elim (fun y=>((bK.symm) ar rfl y)) (fun y=>(y.elim (fun y=>((dT.symm) ar rfl y)) (fun y=>((dW.symm) ar rfl y))))))
    have yB:=aG.all aY (fun i h x=>(x.elim (fun y=>((dl.symm) i h y)) (fun y=>(y.elim (fun y=>(dy i h y)) (fun y=>(dz i h y))))))
    have yC:=aH.all aY (fun i h x=>(x.elim (fun y=>((dm.symm) i h y)) (fun y=>(y.elim (fun y=>(dF i h y)) (fun y=>(dG i h y))))))
    have yD:=aI.all aY (fun i h x=>(x.elim (fun y=>((dn.symm) i h y)) (fun y=>(y.elim (fun y=>(dK i h y)) (fun y=>(dL i h y))))))
    have yE:=aJ.all aY (fun i h x=>(x.elim (fun y=>((dp.symm) i h y)) (fun y=>(y.elim (fun y=>(dP i h y)) (fun y=>(dQ i h y))))))
    have m5:=aV.all aY (fun x=>(x.elim (fun y=>((bL.symm) aq rfl y)) (fun y=>(y.elim (fun y=>((dU.symm) aq rfl y)) (fun y=>((dX.symm) aq rfl y))))))
    have m6:=au.all aY (fun i h x=>(x.elim (fun y=>((bM.symm) i h y)) (fun y=>(y.elim (fun y=>((cu.symm) i h y)) (fun y=>((cv.symm) i h y))))))
    have yF:=aF.all aY (fun i h x=>(x.elim (fun y=>((cK.symm) i h y)) (fun y=>(y.elim (fun y=>((cU.symm) i h y)) (fun y=>((cW.symm) i h y))))))
    have m7:=bj.trans aY (fun i hi x=>(x.elim (fun y=>((KS.ok (S:=fun i=>(Lh ac) i\/((Lh ae) i\/((Lh ap) i\/(ab i\/(af i\/(ah i\/(ai i\/(aj i\/(ak i\/(am i\/(an i))))))))))) (KS.refl aa ab) (fun _ x=>Or.inr (Or.inr (Or.inr (Or.inl x))))) i hi y)) (fun y=>(y.elim (fun y=>((KS.ok (S:=fun i=>(Lh ac) i\/((Lh ae) i\/((Lh ap) i\/(ab i\/(af i\/(ah i\/(ai i\/(aj i\/(ak i\/(am i\/(an i))))))))))) (KS.refl aa ak) (fun _ x=>Or.inr (Or.inr (Or.inr (Or.inr (Or.inr (Or.inr (Or.inr (Or.inr (Or.inl x)))))))))) i hi y)) (fun y=>((KS.ok (S:=fun i=>(Lh ac) i\/((Lh ae) i\/((Lh ap) i\/(ab i\/(af i\/(ah i\/(ai i\/(aj i\/(ak i\/(am i\/(an i))))))))))) (KS.refl aa am) (fun _ x=>Or.inr (Or.inr (Or.inr (Or.inr (Or.inr (Or.inr (Or.inr (Or.inr (Or.inr (Or.inl x))))))))))) i hi y))))))
    obtain⟨⟨gS,eL⟩,⟨gT,eM⟩,⟨gU,eN⟩,gV,gW,gZ⟩:=yx
    replace gS:P2 fC eI aA l ((Sy l K (Lk W 2) (el.i) ⟨(((K3 l K W H pre).f 2).1),(((K3 l K W H pre).f 2).2),((K3 l K W H pre).s)⟩).s):=gS
    replace gT:PR fC eJ bc di ((Sy l K (Lk W 2) (el.i) ⟨(((K3 l K W H pre).f 2).1),(((K3 l K W H pre).f 2).2),((K3 l K W H pre).s)⟩).a):=gT
    replace gU:PR fC eK bd dj ((Sy l K (Lk W 2) (el.i) ⟨(((K3 l K W H pre).f 2).1),(((K3 l K W H pre).f 2).2),((K3 l K W H pre).s)⟩).b):=gU
    replace eL:KS aa ab eI:=eL
    replace eM:KS aa ak eJ:=eM
    replace eN:KS aa am eK:=eN
    replace gV:KO eI eJ:=gV
    replace gW:KO eI eK:=gW
    replace gZ:KO eJ eK:=gZ
    obtain⟨yG,yH,yI,yJ,yK,m8,yL,yM⟩:=Sx eL cF bh cG bi bJ aT cH aC cI aD cJ aE bK aU dl aG
    obtain⟨yN,yO,yP,yQ,yR,m9⟩:=Yo eL dm aH dn aI dp aJ bL aV bM au cK aF
    obtain⟨yT,yU,yV,yW,yX,nb,yY,yZ⟩:=Sx eM fk bh fm bi dS aT fo aC fp aD cT aE dT aU (dy.symm) aG
    obtain⟨y5,y6,y7,y8,y9,nc⟩:=Yo eM (dF.symm) aH (dK.symm) aI (dP.symm) aJ dU aV cu au cU aF
    obtain⟨za,zb,zc,zd,ze,nd,zf,zg⟩:=Sx eN fq bh ft bi dV aT fu aC fw aD cV aE dW aU (dz.symm) aG
    obtain⟨zh,zi,zj,zk,zl,nf⟩:=Yo eN (dG.symm) aH (dL.symm) aI (dQ.symm) aJ dX aV cv au cW aF
    replace gR:MJ fC mR 71 (PN (Rb l K (Lk W 2) (el.i) ⟨(((K3 l K W H pre).f 2).1),(((K3 l K W H pre).f 2).2),((K3 l K W H pre).s)⟩)):=gR
    obtain⟨zm,zn,nh⟩:=t3 fD 6 go 7 gp 9 gq
    have zo:mS 14=pt mR 0:=(fD 14).trans (mT 12 rfl)
    have ni:mS 15=iv ((Mt l K (Lk W 2) (el.i) ⟨(((K3 l K W H pre).f 2).1),(((K3 l K W H pre).f 2).2),((K3 l K W H pre).s)⟩).2.1):=(fD 15).trans (mU 14 (by decide) (by decide))
    clear fD mU mT yA yz
    refine KK (KM (KM (KL (K2 Lw ni (KN (.bool (decide (((Mt l K (Lk W 2) (el.i) ⟨(((K3 l K W H pre).f 2).1),(((K3 l K W H pre).f 2).2),((K3 l K W H pre).s)⟩).2.1)≠0))) rr (Mw rfl rfl rfl rfl rr) (KQ ?_))))))
    have zp:=K4 (.bool (decide (((Mt l K (Lk W 2) (el.i) ⟨(((K3 l K W H pre).f 2).1),(((K3 l K W H pre).f 2).2),((K3 l K W H pre).s)⟩).2.1)≠0)))
    refine KK ?_
    refine K5 zp (fun eO=>?_) (fun eO=>?_)
    ·replace eO:=of_decide_eq_true eO
     refine KM ?_
     have hX:=ay9 (l:=l) (k:=K) hpv hN (show (Mt l K (Lk W 2) el.i ((K3 l K W H pre).at 2)).2.1≠0 from by assumption)
     refine KL (K2 Lw ni (Ml rfl rfl rfl zm rfl mY (by rfl) (by kernel_rfl) fun Cz zq b7=>?_))
     have zr:=mV.all b7 fK.symm
     have zt:=mW.all b7 (fL.symm p1 rfl)
     have zu:=mX.all b7 (fM.symm ao rfl)
     have zv:=mZ.all b7 (bg ae rfl)
     have zw:=m4.all b7 (eS ar rfl)
     have zx:=m5.all b7 (eV aq rfl)
     have zy:=m6.all b7 cA
     have zz:=m7.trans b7 (KS.ok (S:=fun i=>(Lh ac) i\/((Lh ae) i\/((Lh ap) i\/(ab i\/(af i\/(ah i\/(ai i\/(aj i\/(ak i\/(am i\/(an i))))))))))) (KS.refl aa (Lh ac)) (fun _ x=>Or.inl x))
     refine Ml rfl rfl rfl zn rfl zv (by rfl) (by kernel_rfl) fun CA zA b8=>?_
     have zB:=zr.all b8 fN.symm
     have zC:=zt.all b8 (fO.symm p1 rfl)
     have zD:=zu.all b8 (fP.symm ao rfl)
     have zE:=zq.all b8 (bg.symm ac rfl)
     have zF:=zw.all b8 (eT ar rfl)
     have zG:=zx.all b8 (eW aq rfl)
     have zH:=zy.all b8 cB
     have nj:=zz.trans b8 (KS.ok (S:=fun i=>(Lh ac) i\/((Lh ae) i\/((Lh ap) i\/(ab i\/(af i\/(ah i\/(ai i\/(aj i\/(ak i\/(am i\/(an i))))))))))) (KS.refl aa (Lh ae)) (fun _ x=>Or.inr (Or.inl x)))
     refine KQ ?_
     refine KK (Le (Lx (Ot ?_)))
     exact⟨L2.keeps (L2.or aC.cells.cb (L2.or aD.cells.cb (L2.or aE.cells.cb (L2.or be.cells.cb (L2.or (aG.cb bQ.lt) (L2.or (aH.cb bR.lt) (L2.or (aI.cb bS.lt) (L2.or (aJ.cb bT.lt) (L2.or (aK.cb bU.lt) (L2.or (aL.cb bV.lt) aF.cells.cb)))))))))) nj,⟨az.trans nj (fun i hi x=>(x.elim (fun y=>((KS.ok (S:=fun _=>False) bA KZ) i hi y)) (fun y=>(y.elim (fun y=>((KS.ok (S:=fun _=>False) bB KZ) i hi y)) (fun y=>(y.elim (fun y=>((KS.ok (S:=fun _=>False) cz KZ) i hi y)) (fun y=>(y.elim (fun y=>((KS.ok (S:=fun _=>False) bm KZ) i hi y)) (fun y=>(y.elim (fun y=>((KS.ok (S:=fun _=>False) bn KZ) i hi y)) (fun y=>(y.elim (fun y=>((KS.ok (S:=fun _=>False) bo KZ) i hi y)) (fun y=>(y.elim (fun y=>((KS.ok (S:=fun _=>False) bp KZ) i hi y)) (fun y=>(y.elim (fun y=>((KS.ok (S:=fun _=>False) bq KZ) i hi y)) (fun y=>(y.elim (fun y=>((KS.ok (S:=fun _=>False) bt KZ) i hi y)) (fun y=>(y.elim (fun y=>((KS.ok (S:=fun _=>False) bu KZ) i hi y)) (fun y=>((KS.ok (S:=fun _=>False) bv KZ) i hi y)))))))))))))))))))))),zB,zC,zD,zE,(by rw[hX];exact zA),zF,zG,zH,(by rw[hX];assumption)⟩⟩
    ·replace eO:=of_decide_eq_false eO
     refine Lf (KK ?_)
     have hce:(Mt l K (Lk W 2) el.i ((K3 l K W H pre).at 2)).2.1=0:=by first|assumption|(apply Decidable.byContradiction;assumption)
     have hX:=aCb (l:=l) (k:=K) hpv hN hce
     have hol:=ayJ (l:=l) (k:=K) pre
     refine KL (KN V rr (M0 rfl nh Tryz.underlying32 m2 rfl rr) (KN (.agg (PN (Rb l K (Lk W 2) (el.i) ⟨(((K3 l K W H pre).f 2).1),(((K3 l K W H pre).f 2).2),((K3 l K W H pre).s)⟩)).toArray) rr (KX LM rfl zo gR rr) (TO (r:=VD) (xs:=[.tmp 46]) (vs:=[.agg (PN (Rb l K (Lk W 2) (el.i) ⟨(((K3 l K W H pre).f 2).1),(((K3 l K W H pre).f 2).2),((K3 l K W H pre).s)⟩)).toArray]) (l:=[Rb l K (Lk W 2) (el.i) ⟨(((K3 l K W H pre).f 2).1),(((K3 l K W H pre).f 2).2),((K3 l K W H pre).s)⟩]) rfl rfl rfl rfl rfl (Lo rfl L5) rfl (by first|decide|exact Nat.le_of_ble_eq_true rfl) (by first|decide|exact Nat.le_of_ble_eq_true rfl) fun CB CC CD zI CE hQ=>?_)))
     obtain⟨nk,nl,np,nr,nt,nu,nv,nw,nz,nA,nB,nD,nE,nF⟩:=PT hQ mV mW mX mY mZ m2 gS m4 yB yC yD yE gT gU
     obtain⟨nG,nH,zJ⟩:=Od hQ m5 m6 yF
     have nI:=m7.tr hQ
     refine SS (r:=VD) rfl rfl rfl rfl rfl rfl zJ zI.roa (by first|omega|(simp;done)|(simp;omega)) fun zK CF zM nJ hZ aQ=>?_
     obtain⟨zN,zO,zP,zQ,zR,nK,zT,zU⟩:=Sx hZ cX nk cY nl cZ np c5 nr c6 nt c7 nu (m9.symm) nv c9 nw
     obtain⟨zV,zW,zX,zY,zZ,z1,z3,z4⟩:=Sx hZ (cM.symm) nz (cO.symm) nA (cQ.symm) nB (cS.symm) nD (nc.symm) nE (nf.symm) nF da nG bN nH
     have z5:=nk.all aQ cX.symm
     have z6:=nl.all aQ (cY.symm p1 rfl)
     have z7:=np.all aQ (cZ.symm ao rfl)
     have z8:=nr.all aQ (c5.symm ac rfl)
     have z9:=nt.all aQ (c6.symm ae rfl)
     have Aa:=nu.all aQ (c7.symm ap rfl)
     have Ab:=nv.all aQ m9
     have Ac:=nw.all aQ (c9.symm ar rfl)
     have Ad:=nz.all aQ cM
     have Ae:=nA.all aQ cO
     have Af:=nB.all aQ cQ
     have Ag:=nD.all aQ cS
     have Ah:=nE.all aQ nc
     have Ai:=nF.all aQ nf
     have Aj:=nG.all aQ (da.symm aq rfl)
     have Ak:=nH.all aQ bN.symm
     have Al:=nI.trans aQ (KS.ok (S:=fun i=>(Lh ac) i\/((Lh ae) i\/((Lh ap) i\/(ab i\/(af i\/(ah i\/(ai i\/(aj i\/(ak i\/(am i\/(an i))))))))))) (KS.refl aa an) (fun _ x=>Or.inr (Or.inr (Or.inr (Or.inr (Or.inr (Or.inr (Or.inr (Or.inr (Or.inr (Or.inr x)))))))))))
     refine Ml rfl rfl rfl nh rfl Aa nJ.oneC (by kernel_rfl) fun CG Am aR=>?_
     have An:=z5.all aR fW.symm
     have Ao:=z6.all aR (fX.symm p1 rfl)
     have Ap:=z7.all aR (fY.symm ao rfl)
     have Aq:=z8.all aR (fZ.symm ac rfl)
     have Ar:=z9.all aR (f5.symm ae rfl)
     have As:=Ab.all aR m8
     have At:=Ac.all aR (eU ar rfl)
     have nL:=Ad.all aR cL
     have nM:=Ae.all aR cN
     have nN:=Af.all aR cP
     have nO:=Ag.all aR cR
     have nP:=Ah.all aR nb
     have nQ:=Ai.all aR nd
     have Au:=Aj.all aR (eX aq rfl)
     have Av:=Ak.all aR cC
     have Aw:=nJ.all aR nK
     have ia:=Al.trans aR (KS.ok (S:=fun i=>(Lh ac) i\/((Lh ae) i\/((Lh ap) i\/(ab i\/(af i\/(ah i\/(ai i\/(aj i\/(ak i\/(am i\/(an i))))))))))) (KS.refl aa (Lh ap)) (fun _ x=>Or.inr (Or.inr (Or.inl x))))
     refine KQ ?_
     refine Lz ?_
     exact⟨L2.keeps (L2.or aC.cells.cb (L2.or aD.cells.cb (L2.or aE.cells.cb (L2.or be.cells.cb (L2.or (aG.cb bQ.lt) (L2.or (aH.cb bR.lt) (L2.or (aI.cb bS.lt) (L2.or (aJ.cb bT.lt) (L2.or (aK.cb bU.lt) (L2.or (aL.cb bV.lt) aF.cells.cb)))))))))) ia,ia.mono (fun i hi x=>(x.elim (fun y=>fun e=>cA.symm i y (by rw[au.1];exact e)) (fun y=>(y.elim (fun y=>fun e=>cB.symm i y (by rw[au.1];exact e)) (fun y=>(y.elim (fun y=>fun e=>cC.symm i y (by rw[au.1];exact e)) (fun y=>(y.elim (fun y=>fun e=>bM i y (by rw[au.1];exact e)) (fun y=>(y.elim (fun y=>fun e=>co i y (by rw[au.1];exact e)) (fun y=>(y.elim (fun y=>fun e=>cq i y (by rw[au.1];exact e)) (fun y=>(y.elim (fun y=>fun e=>cr i y (by rw[au.1];exact e)) (fun y=>(y.elim (fun y=>fun e=>ct i y (by rw[au.1];exact e)) (fun y=>(y.elim (fun y=>fun e=>cu i y (by rw[au.1];exact e)) (fun y=>(y.elim (fun y=>fun e=>cv i y (by rw[au.1];exact e)) (fun y=>(fun e=>bN i y (by rw[au.1];exact e))))))))))))))))))))))),⟨zK,eI,af,ah,ai,aj,eJ,eK,zM,(hX.2.2.2.2),az.trans ia (fun i hi x=>(x.elim (fun y=>((KS.ok (S:=fun _=>False) bA KZ) i hi y)) (fun y=>(y.elim (fun y=>((KS.ok (S:=fun _=>False) bB KZ) i hi y)) (fun y=>(y.elim (fun y=>((KS.ok (S:=fun _=>False) cz KZ) i hi y)) (fun y=>(y.elim (fun y=>((KS.ok (S:=fun _=>False) bm KZ) i hi y)) (fun y=>(y.elim (fun y=>((KS.ok (S:=fun _=>False) bn KZ) i hi y)) (fun y=>(y.elim (fun y=>((KS.ok (S:=fun _=>False) bo KZ) i hi y)) (fun y=>(y.elim (fun y=>((KS.ok (S:=fun _=>False) bp KZ) i hi y)) (fun y=>(y.elim (fun y=>((KS.ok (S:=fun _=>False) bq KZ) i hi y)) (fun y=>(y.elim (fun y=>((KS.ok (S:=fun _=>False) bt KZ) i hi y)) (fun y=>(y.elim (fun y=>((KS.ok (S:=fun _=>False) bu KZ) i hi y)) (fun y=>((KS.ok (S:=fun _=>False) bv KZ) i hi y)))))))))))))))))))))),An,Ao,Ap,Aq,Ar,Am,(by rw[hX.1];exact As),At,(by first|(rw[hX.2.2.1];exact nL)|(rw[hX.2.2.2.1 0 (by decide)];exact nL)),(by first|(rw[hX.2.2.1];exact nM)|(rw[hX.2.2.2.1 0 (by decide)];exact nM)),(by first|(rw[hX.2.2.1];exact nN)|(rw[hX.2.2.2.1 1 (by decide)];exact nN)),(by first|(rw[hX.2.2.1];exact nO)|(rw[hX.2.2.2.1 1 (by decide)];exact nO)),(by first|(rw[hX.2.2.1];exact nP)|(rw[hX.2.2.2.1 2 (by decide)];exact nP)),(by first|(rw[hX.2.2.1];exact nQ)|(rw[hX.2.2.2.1 2 (by decide)];exact nQ)),Au,Av,(by rw[hX.2.1];exact Aw),bm.trans az ((KS.refl aa ab).trans bj eL),bn.trans az (KS.refl aa af),bo.trans az (KS.refl aa ah),bp.trans az (KS.refl aa ai),bq.trans az (KS.refl aa aj),bt.trans az ((KS.refl aa ak).trans bj eM),bu.trans az ((KS.refl aa am).trans bj eN),bv.trans az (KS.trans (KS.refl aa an) nI hZ),yG,yH,yI,yJ,yK,m8,yL,yM,yN,yO,yP,gV,gW,yQ,yR,zT.symm,eY,eZ,dt,e6,e7,cL,du,gj,dv,dw,yZ.symm,zg.symm,dA,co,zV.symm,e8,e9,dB,fa,fb,cN,dC,dD,dE,y5.symm,zh.symm,dH,cq,zW.symm,fc,fd,dI,fe,ff,cP,dJ,gl,y6.symm,zi.symm,dM,cr,zX.symm,fg,fh,dN,fi,fj,cR,dO,y7.symm,zj.symm,dR,ct,zY.symm,yT,yU,yV,yW,yX,nb,yY,gZ,y8,y9,zZ.symm,za,zb,zc,zd,ze,nd,zf,zk,zl,z1.symm,zN,zO,zP,zQ,zR,nK,zU,z3,z4⟩⟩
  ·rintro bf xs_ Ay ib hS_ ⟨V,ab,af,ah,ai,aj,ak,am,an,hN,Az,CH,CI,CJ,AA,AB,AC,AD,AE,CK,CL,CM,CN,CO,CP,CQ,CR,nR,CS,CT,CU,CV,CW,CX,CY,AF,CZ,C0,C1,C2,C3,C4,C5,C6,C7,C8,C9,Da,Db,Dc,Dd,De,Df,Dg,Dh,Di,Dj,Dk,Dl,Dm,Dn,Do,Dp,Dq,Dr,Ds,Dt,Du,Dv,Dw,Dx,Dy,Dz,DA,DB,DC,DD,DE,DF,DG,DH,DI,DJ,DK,DL,DM,DN,DO,DP,DQ,DR,DS,DT,DU,DV,DW,DX,DY,DZ,D0,D1,D2,D3,D4,D5,D6,D7,D8,D9,Ea,Eb,Ec,Ed,Ee,Ef,Eg,Eh,Ei,Ej,Ek,El,Em,En,Eo,Ep,Er,Es,Et,Eu,Ev,AG,AH,Ew,Ex,Ey,Ez⟩ fE
   subst hS_
   have fE:VP Ay bf:=fE
   have nT:KS w0 Mb (Lh bf):=L7 (Nat.le_trans dk.size ib)
   have fF:=VP.far ib (L8 ga.lt)
   have fG:=VP.far ib (L8 gb.lt)
   have AJ:=VP.apart fE nR.cells
   have nU:OZ (bf::ON (gc 53))=OZ [bf]:=congrArg (fun z=>OZ (bf::ON z)) ke
   refine Lz (KK (KM (KM (KL (KN (pt aA 0) rr (M0 rfl kg Tryz.underlying54 AE rfl rr) (L9 rfl rfl rfl rfl rfl (fun _ _=>by kernel_rfl) (Lo rfl L5) (aFf aA l ((K3 l K W H (NH W H 3)).s) ab _  AD ) fun EA nV=>?_))))))
   obtain⟨nW,nX,AK,nY,nZ⟩:=O6 nV AA AB AC nR fE
   have n5:=Az.tr nV
   refine KN (.bool (decide ((Pb l ((K3 l K W H (NH W H 3)).s))≠0))) rr (Mw rfl rfl rfl rfl rr) (KQ ?_)
   have AL:=K4 (.bool (decide ((Pb l ((K3 l K W H (NH W H 3)).s))≠0)))
   refine KK ?_
   refine K5 AL (fun eP=>?_) (fun eP=>?_)
   ·replace eP:=of_decide_eq_true eP
    refine KM ?_
    have hR:=(ZT hm hN).1 (by assumption)
    refine KL (Ml rfl rfl rfl cD rfl nW (by rfl) (by kernel_rfl) fun EB AM ie=>?_)
    have AN:=nX.all ie (bg ae rfl)
    have AO:=nZ.all ie (fF bf rfl)
    refine Ml rfl rfl rfl cE rfl AN (by rfl) (by kernel_rfl) fun AP AQ ig=>?_
    have AR:=AM.all ig (bg.symm ac rfl)
    have AU:=AO.all ig (fG bf rfl)
    refine KQ ?_
    refine KK (Le (Lx ?_))
    have ii:=RR AP bf
    have AV:=AR.all ii (fF.symm ac rfl)
    have AW:=AQ.all ii (fG.symm ae rfl)
    exact R8 (ms:=[bf]) nU AU.opens rfl (O3 Tryz.underlying32 rfl rfl cD AV) (O3 Tryz.underlying33 rfl rfl cE AW) ⟨(.slice none 0 0),Mb,(by first|(rw[hR,Oo hmn];rfl)|(rw[hR];rfl)|(rw[OH hm hpf hne];rfl)|rw[hR,Oo hmn]|rw[hR]|rw[OH hm hpf hne]),(((n5.trans ie (KS.ok (S:=fun _=>False) bA KZ)).trans ig (KS.ok (S:=fun _=>False) bB KZ)).trans ii (KS.ok (S:=fun _=>False) nT KZ)),⟨(by first|(rw[hR];exact(RP.nil VD _))|(rw[OH hm hpf hne];exact(RP.nil VD _))),(KS.refl _ _)⟩⟩
   ·replace eP:=of_decide_eq_false eP
    refine Lf (KK (KM ?_))
    have hR:=(ZT hm hN).2 (by first|assumption|(apply Decidable.byContradiction;assumption))
    refine KL (KN V rr (M0 rfl kf Tryz.underlying32 AK rfl rr) (Ml rfl rfl rfl cD rfl nW nY.oneC (by kernel_rfl) fun EC AX fH=>?_))
    have AY:=nX.all fH (bg ae rfl)
    have AZ:=nY.all fH AG
    have Ba:=nZ.all fH (fF bf rfl)
    refine Ml rfl rfl rfl cE rfl AY (by rfl) (by kernel_rfl) fun Bb Bc fI=>?_
    have Bd:=AX.all fI (bg.symm ac rfl)
    have Be:=AZ.all fI AH
    have Bf:=Ba.all fI (fG bf rfl)
    refine KQ ?_
    refine KK (Le ?_)
    have fJ:=RR Bb bf
    have Bg:=Bd.all fJ (fF.symm ac rfl)
    have Bh:=Bc.all fJ (fG.symm ae rfl)
    have n6:=Be.all fJ AJ.symm
    exact R8 (ms:=[bf]) nU Bf.opens rfl (O3 Tryz.underlying32 rfl rfl cD Bg) (O3 Tryz.underlying33 rfl rfl cE Bh) ⟨V,an,(by first|(rw[hR,Oo hmn];rfl)|(rw[hR];rfl)|(rw[OH hm hpf hne];rfl)|rw[hR,Oo hmn]|rw[hR]|rw[OH hm hpf hne]),(((n5.trans fH (KS.ok (S:=fun _=>False) bA KZ)).trans fI (KS.ok (S:=fun _=>False) bB KZ)).trans fJ (KS.ok (S:=fun _=>False) nT KZ)),⟨(by first|(rw[hR];exact n6)|(rw[OH hm hpf hne];exact n6)),AF⟩⟩
  ·rintro cw pre n7 ij hpf ⟨Bi,ED,EE,EF,Bj,Bk,EG,EH,EI,hne⟩ ik
   have ik:VP n7 cw:=ik
   have Bl:KS w0 Mb (Lh cw):=L7 (Nat.le_trans dk.size ij)
   have Bm:=VP.far ij (L8 ga.lt)
   have Bn:=VP.far ij (L8 gb.lt)
   have Bo:OZ (cw::ON (gc 53))=OZ [cw]:=congrArg (fun z=>OZ (cw::ON z)) ke
   refine Ot (Lx ?_)
   have io:=RR n7 cw
   have Bp:=Bj.all io (Bm.symm ac rfl)
   have Bq:=Bk.all io (Bn.symm ae rfl)
   exact R8 (ms:=[cw]) Bo ik.opens rfl (O3 Tryz.underlying32 rfl rfl cD Bp) (O3 Tryz.underlying33 rfl rfl cE Bq) ⟨(.slice none 0 0),Mb,(by first|(rw[hR,Oo hmn];rfl)|(rw[hR];rfl)|(rw[OH hm hpf hne];rfl)|rw[hR,Oo hmn]|rw[hR]|rw[OH hm hpf hne]),(Bi.trans io (KS.ok (S:=fun _=>False) Bl KZ)),⟨(by first|(rw[hR];exact(RP.nil VD _))|(rw[OH hm hpf hne];exact(RP.nil VD _))),(KS.refl _ _)⟩⟩
open Go.RowKit
def aA3(k:Int)(c:Ch):Prop:=0<=c.m/\c.m<=N3 k/\M1 c.px c.py/\M1 c.nx c.ny
theorem aEB:M1 0 0:=by decide
theorem aFm{l:List Nat}{gx gy:Int}{s:Option Nat}:M1 (Se l gx gy s) (R2 l gx gy s):=by
 by_cases h:SN l gx gy s
 ·rw[(Yt h).1,(Yt h).2.1];exact h.2
 ·rw[(aAg h).1,(aAg h).2.1];exact aEB
theorem azH{has:Bool}{l:List Nat}{gx gy:Int}{s:Option Nat}:M1 (stV has l gx gy s).1 (stV has l gx gy s).2.1:=by
 cases has with
 | true=>rw[Um rfl];exact aFm
 | false=>rw[S3 rfl];exact aEB
theorem aCq{l:List Nat}{k ax ay bx yy:Int}{st:Option Nat}(hk:0<=N3 k)(h:(Sz l k ax ay bx yy st).2.1=0):aA3 k (Sz l k ax ay bx yy st).1:=by
 have hw:=VI l (N3 k) hk st
 revert h
 unfold Sz
 generalize Ls (LD l (N3 k)) st=m at hw ⊢
 unfold rd1
 split
 ·intro h;cases h
 ·unfold YT
  split
  ·unfold VV
   split
   ·unfold rd4
    split
    ·intro _;exact⟨hw.1,hw.2,azH,azH⟩
    ·intro h;exact absurd h (by assumption)
   ·intro h;exact absurd h (by assumption)
  ·intro h;exact absurd h (by assumption)
theorem aCh{l:List Nat}{k:Int}{w:Nat}(hk:0<=N3 k):∀ (m i:Nat) (t:ZG) (o:List Ch),(∀ c∈o,aA3 k c)->∀ c∈(To l k w m i t o).1,aA3 k c:=by
 intro m
 induction m with
 | zero=>intro i t o h;exact h
 | succ m ih =>
  intro i t o h
  by_cases hc:(Mt l k w i t).2.1=0
  ·rw[Uu hc]
   refine ih _ _ _ fun c hcm=>?_
   rcases List.mem_append.1 hcm with z|z
   ·exact h c z
   ·rw[List.mem_singleton.1 z];exact aCq hk hc
  ·rw[Yu hc];intro c z;cases z
theorem aBv{l:List Nat}{k W H:Int}(hk:0<=N3 k):∀ p,∀ c∈(Oi l k W H p).1,aA3 k c:=by
 intro p
 induction p with
 | zero=>intro c z;cases z
 | succ p ih =>
  by_cases hc:(Oi l k W H p).2.1=0
  ·rw[UB hc];exact aCh hk _ _ _ _ ih
  ·rw[V2 hc];exact ih
theorem aCU{l:List Nat}{k W H:Int}(hk:0<=N3 k):∀ c∈(Qm l k W H).1,aA3 k c:=by
 unfold Qm
 split
 ·split
  ·exact aBv hk 3
  ·intro c z;cases z
 ·intro c z;cases z
theorem aBU{K Q D F:Int}(h:OM K Q D F):0<=N3 K:=by
 have h1:=h.1;have h2:=h.2.1
 unfold N3;split;omega;split;omega;split;omega;omega
theorem aEn{α:Type}{L:List α}{d:α}{i:Nat}(h:i<L.length):L.getD i d∈L:=by
 rw[List.getD_eq_getElem?_getD,List.getElem?_eq_getElem h];exact List.getElem_mem h
theorem aEu{W H R B K:Int}{F g h:FD}{c:Ch}{p i:Nat}(hF:PD F)(hW:F.W=W)(hH:F.H=H)(hn:¬ ((K≠0/\¬ Nl W H R B g)\/(K=2/\¬ Nl W H R B h)))(hK:0<=K/\K<=2)(hc:aA3 K c)(hp:p<3)(hi:i<Lk W p*Lk H p) :
  UO F g h (p:Int) (4*pX (Lk W p) i) (4*pY (Lk W p) i) c=0:=by
 obtain⟨m0,m1,v1,v2⟩:=hc
 have pos:∀ {f:FD},PD f->f.W=W->f.H=H->Ni f (p:Int) (4*pX (Lk W p) i) (4*pY (Lk W p) i):=fun {f} ho e1 e2=>by
  subst e1;subst e2
  refine UU ho hp hi ?_
  rcases Nat.eq_zero_or_pos (Lk f.W p) with z|z
  ·rw[z,Nat.zero_mul] at hi;omega
  ·exact z
 have hpF:=pos hF hW hH
 have fitg:K≠0->Ni g (p:Int) (4*pX (Lk W p) i) (4*pY (Lk W p) i):=fun hk=>by
  have hf:Nl W H R B g:=Decidable.byContradiction fun z=>hn (Or.inl ⟨hk,z⟩)
  exact pos hf.2.1 hf.2.2.1.symm hf.2.2.2.symm
 have fith:K=2->Ni h (p:Int) (4*pX (Lk W p) i) (4*pY (Lk W p) i):=fun hk=>by
  have hf:Nl W H R B h:=Decidable.byContradiction fun z=>hn (Or.inr ⟨hk,z⟩)
  exact pos hf.2.1 hf.2.2.1.symm hf.2.2.2.symm
 have hm:N3 K=3/\K=0\/N3 K=4/\K=1\/N3 K=6/\K=2:=by
  unfold N3
  rcases (show K=0\/K=1\/K=2 by omega) with rfl|rfl|rfl <;> decide
 have e1:K≠0->PC g (p:Int) (4*pX (Lk W p) i) (4*pY (Lk W p) i) c.px c.py=0:=fun hk=>(if_pos (fitg hk)).trans (PG v1)
 have e2:K=2->PC h (p:Int) (4*pX (Lk W p) i) (4*pY (Lk W p) i) c.nx c.ny=0:=fun hk=>(if_pos (fith hk)).trans (PG v2)
 by_cases h3:c.m<4
 ·rw[(aB9 ⟨m0,h3⟩).2]
  exact(if_pos hpF).trans (if_pos ⟨m0,by omega⟩)
 ·by_cases h4:c.m=4
  ·rw[(Ua h4).2];exact e1 (by omega)
  ·by_cases h5:c.m=5
   ·rw[(VZ h5).2];exact e2 (by omega)
   ·have h6:c.m=6:=by omega
    exact(X4 h6 (e1 (by omega)) (e2 (by omega))).2
def WG{W H:Int}(g h:FD)(q:Int)(L:List Ch)(F:FD)(x:SI W H):FD:=aDf g h q (x.p:Int) (Lk W x.p) x.i (L.getD x.m W3) F
def Mu(g h:FD)(q W H:Int)(L:List Ch)(pre:List (SI W H)):FD:=pre.foldl (WG g h q L) (LR W H 0)
theorem VS{g h:FD}{q W H:Int}{L:List Ch}(pre:List (SI W H))(x:SI W H):Mu g h q W H L (pre ++ [x])=aDf g h q (x.p:Int) (Lk W x.p) x.i (L.getD x.m W3) (Mu g h q W H L pre):=by
 unfold Mu;rw[List.foldl_append];rfl
theorem aFB{g h:FD}{q W H:Int}{L:List Ch}(hW:NQ W)(hH:NQ H):∀ (pre:List (SI W H)),PD (Mu g h q W H L pre)/\(Mu g h q W H L pre).W=W/\(Mu g h q W H L pre).H=H:=by
 have key:∀ (pre:List (SI W H)) (F:FD),(PD F/\F.W=W/\F.H=H)->PD (pre.foldl (WG g h q L) F)/\(pre.foldl (WG g h q L) F).W=W/\(pre.foldl (WG g h q L) F).H=H:=by
  intro pre
  induction pre with
  | nil=>intro F h;exact h
  | cons x r ih =>
   intro F hF
   rw[List.foldl_cons]
   refine ih _ ?_
   unfold WG aDf
   have hsd:=RH F (x.p:Int) (4*pX (Lk W x.p) x.i) (4*pY (Lk W x.p) x.i) (buB (VM F g h (x.p:Int) (4*pX (Lk W x.p) x.i) (4*pY (Lk W x.p) x.i) (L.getD x.m W3)) (L.getD x.m W3).b q) 16
   rw[NL hF.1] at hsd
   exact⟨aB8 hF.1 _ _ _ _ 16,hsd.1.trans hF.2.1,hsd.2.1.trans hF.2.2⟩
 intro pre
 exact key pre _ ⟨YE 0 (Qb hW) (Qb hH),by rw[Qe 0 (Qb hW) (Qb hH)],by rw[Qe 0 (Qb hW) (Qb hH)]⟩
theorem aBA{g h:FD}{q W H:Int}{L:List Ch}{p:Nat}(hp:p<3)(F:FD):∀ n,n<=Lk W p*Lk H p->(VY W H p n).foldl (WG g h q L) F=SU g h q p (Lk W p) L (MY W H p) F n:=by
 intro n
 induction n with
 | zero=>intro _;rfl
 | succ n ih =>
  intro hn
  rw[S7 hp (by omega),List.foldl_append,List.foldl_cons,List.foldl_nil,ih (by omega)]
  rfl
theorem NN{g h:FD}{q W H:Int}{L:List Ch}:∀ p,p<=3->Mu g h q W H L (NH W H p)=VK g h q W H L p:=by
 intro p
 induction p with
 | zero=>intro _;rfl
 | succ p ih =>
  intro hp
  have e:Mu g h q W H L (NH W H (p+1))=(VY W H p (Lk W p*Lk H p)).foldl (WG g h q L) (Mu g h q W H L (NH W H p)):=by
   unfold Mu;rw[NH,List.foldl_append]
  rw[e,ih (by omega),aBA (by omega) _ _ (Nat.le_refl _)]
  rfl
end Go.Proofs.YtknjpdcpmpfklaaGreatDoor
