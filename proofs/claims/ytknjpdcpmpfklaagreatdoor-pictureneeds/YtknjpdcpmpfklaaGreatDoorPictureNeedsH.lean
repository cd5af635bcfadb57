/- What PictureNeeds reaches of my texts, part 8. -/
import Derived.Test.YtknjpdcpmpfklaaGreatDoorPictureNeedsG
set_option maxRecDepth 100000
set_option maxHeartbeats 4000000
set_option maxRecDepth 100000
namespace Go.Proofs.YtknjpdcpmpfklaaGreatDoor
open Go.RowKit
instance {w w':World} {D:Nat}:Cr w w' (UH w D) (UH w' D):=⟨fun h k=>h.all k id⟩
theorem SR(W H R B K Q D F:Int)(v:Value)(l:List Nat)(T_b:Nat->Prop)(w0:World)(hA:NM w0)(hO:Of w0)(hl:l.length<=1001)(h_b:L7 w0 T_b v (l)) :
  Calls Tryz.prog 10 #[.agg #[.int .i64 (W),.int .i64 (H),.int .i64 (R),.int .i64 (B)],.agg #[.int .i64 (K),.int .i64 (Q),.int .i64 (D),.int .i64 (F)],v] w0 fun e w'=>∃ (v1:Value) (T1:Nat->Prop),e = .returned (.tuple #[v1,.int .i64 ((Ov l W H R B K Q D F).2)])/\KM (fun _=>False) w0 w'/\(QR Ux w' T1 v1 ((Ov l W H R B K Q D F).1)/\KP w0 L8 T1):=by
 refine XL (args:=[.agg #[iv W,iv H,iv R,iv B],.agg #[iv K,iv Q,iv D,iv F],v]) 53 Tryz.func10 rfl rfl (Nat.le_of_ble_eq_true rfl) ?_
 have g_b:=KP.refl w0 T_b
 refine KH (KF (Lt (vs:=[iv W,iv H,iv R,iv B]) rfl rfl rfl rfl fun p1 w2 B4 g5 k3=>?_))
 have B8:=h_b.all k3 KJ.none
 refine Lt (vs:=[iv K,iv Q,iv D,iv F]) rfl rfl rfl rfl fun ao Bm io cy ip=>?_
 obtain⟨iq,ir⟩:=NL ip B8 B4
 have iu:=((KM.refl (fun _=>False) w0).tr k3).tr ip
 refine Ox (v:=.slice none 0 0) rfl rfl rfl (by kernel_rfl) rfl fun ac Bn iw iy iz=>?_
 have bA:=KP.new iu iy
 obtain⟨fJ,fK,fL⟩:=SW iy iq ir io
 obtain⟨iA,iB,iC⟩:=Nx iz iq ir io
 have iD:=iu.tr iz
 refine Ox (v:=iv 0) rfl rfl rfl (by kernel_rfl) rfl fun ae Bo n8 iE iF=>?_
 have bB:=KP.new iD iE
 obtain⟨fM,fN,fO,bg⟩:=V2 iE iA iB iC iw
 obtain⟨n9,iG,iH,oa⟩:=OS iF iA iB iC iw
 refine KL ?_
 have oc:=K4 (.agg #[iv W,iv H,iv R,iv B])
 have od:=K4 (.agg #[iv K,iv Q,iv D,iv F])
 have iI:=K4 (v)
 have iJ:=K4 (undef)
 have eP:=K4 (pt p1 0)
 have iK:=K4 (pt ao 0)
 have fP:=K4 (pt ac 0)
 have fQ:=K4 (pt ae 0)
 refine KE (KH (KH (KF (KG (.agg #[iv W,iv H,iv R,iv B]) rfl rfl (KU Mv rfl eP iG rr) (KG (.agg #[iv K,iv Q,iv D,iv F]) rfl rfl (KU Pj rfl iK iH rr) (LV rfl rfl rfl rfl rfl (fun _ _=>by kernel_rfl) (Lj rfl (Lj rfl LP)) (X8 W H R B K Q D F  _   ) fun Bp iL=>?_))))))
 obtain⟨iM,iN,iO,fR,fS⟩:=OR iL n9 iG iH oa n8
 have fT:=(iD.tr iF).tr iL
 refine KG (iv (QW W H R B K Q D F)) rfl rfl (KT rfl rfl rr) (KL ?_)
 have fU:=K4 (iv (QW W H R B K Q D F))
 refine KE (KH (KF (KS rfl rfl rfl fU (KG (.bool (decide ((QW W H R B K Q D F)≠0))) rfl rfl (L9 rfl rfl rfl rfl rr) (KL ?_)))))
 have iP:=K4 (.bool (decide ((QW W H R B K Q D F)≠0)))
 refine KE ?_
 refine K5 iP (fun dd=>?_) (fun dd=>?_)
 ·replace dd:=of_decide_eq_true dd
  refine KH ?_
  have hmn:=Za (W:=W) (H:=H) (R:=R) (B:=B) (K:=K) (Q:=Q) (D:=D) (F:=F) (by assumption)
  have hR:=aAW (l:=l) hmn
  refine KF (KS rfl rfl rfl fU (L3 rfl rfl rfl fP rfl fR (by rfl) (by kernel_rfl) fun Bq oe iQ=>?_))
  have og:=fS.all iQ (bg ae rfl)
  refine L3 rfl rfl rfl fQ rfl og (by rfl) (by kernel_rfl) fun Br oh iR=>?_
  have oi:=oe.all iR (bg.symm ac rfl)
  refine KL ?_
  refine KE (La (Ln ?_))
  exact Rk (ms:=[]) (Eq.trans iJ (rfl:undef=Oi [])) trivial rfl (Oo Tryz.underlying32 rfl rfl fP oi) (Oo Tryz.underlying33 rfl rfl fQ oh) ⟨(.slice none 0 0),L8,(by first|(rw[hR,NS hmn];rfl)|(rw[hR];rfl)|(rw[N6 hm hpf hne];rfl)|rw[hR,NS hmn]|rw[hR]|rw[N6 hm hpf hne]),((fT.trans iQ (KP.ok (S:=fun _=>False) bA K3)).trans iR (KP.ok (S:=fun _=>False) bB K3)),⟨(by first|(rw[hR];exact(QR.nil Ux _))|(rw[N6 hm hpf hne];exact(QR.nil Ux _))),(KP.refl _ _)⟩⟩
 ·replace dd:=of_decide_eq_false dd
  refine Lf (KE (KH ?_))
  have hm:QJ W H R B K Q D F:=Y9 (by first|assumption|(apply Decidable.byContradiction;assumption))
  have hsq:=hm.1
  have hsd:=R5 hm.1
  refine KF (Ox (v:=.slice none 0 0) rfl rfl rfl (by kernel_rfl) rfl fun ap iS iT iU iV=>?_)
  have cz:=KP.new fT iU
  obtain⟨fV,fW,fX,fY,fZ⟩:=Z4 iU iM iN iO fR fS
  obtain⟨f5,iW,iX,iY,iZ⟩:=OR iV iM iN iO fR fS
  have ja:=fT.tr iV
  refine KL ?_
  have oj:=K4 (pt ap 0)
  refine KE (KH (KF (KS rfl rfl rfl iI (Lw (R:=fun v_ w_=>∃ (aA:Nat) (eQ:Nat->Prop),pt aA 0=v_/\KM (fun _=>False) iS w_/\(Pn w_ eQ aA l (some 0)/\KP iS L8 eQ)) rfl rfl (LE rfl rfl rfl (fun _ _=>by kernel_rfl) (K2 _) (Lj rfl LP) (aC6 v l T_b _ (by omega) f5 ) (fun e_ w_ h_=>by obtain⟨v148_,T151_,he_,hr_⟩:=h_;exact⟨_,he_,v148_,T151_,rfl,hr_⟩)) ?_))))
  rintro _ Bs ⟨aA,eQ,rfl,jb,⟨jc,jd⟩⟩
  obtain⟨je,jf,jg,jh,ji,jj⟩:=Qt jb f5 iW iX iY iZ iT
  have jk:=ja.tr jb
  obtain⟨ol,om,oo,oq,ot,ou⟩:=Vk jd f5 iW iX iY iZ iT
  refine Ox (v:=.pointer none) rfl rfl rfl (by kernel_rfl) rfl fun ar Bt ov jl jm=>?_
  obtain⟨ow,ox,oy,eR,eS,eT,jn⟩:=aC5 jl je jf jg jh ji jj jc
  obtain⟨oz,oA,oB,oC,oD,oE,oF⟩:=Sl jm je jf jg jh ji jj jc
  refine L3 rfl rfl rfl rfl rfl ov (by rfl) (by kernel_rfl) fun b9 cd bO=>?_
  have ce:=oz.all bO ow.symm
  have bP:=oA.all bO (ox.symm p1 rfl)
  have cf:=oB.all bO (oy.symm ao rfl)
  have cg:=oC.all bO (eR.symm ac rfl)
  have ci:=oD.all bO (eS.symm ae rfl)
  have cj:=oE.all bO (eT.symm ap rfl)
  have cm:=oF.all bO jn.symm
  have cn:=(jk.tr jm).trans bO (KP.ok (S:=fun _=>False) (KP.new jk jl) K3)
  refine KL ?_
  have oG:=K4 (pt ar 0)
  refine KE (KH (KF (KG (.agg #[iv W,iv H,iv R,iv B]) rfl rfl (KU Mv rfl eP bP rr) (Lw (R:=fun v_ w_=>∃ (a8:Value) (bC:Nat->Prop) (a9:Value) (bD:Nat->Prop) (ba:Value) (bE:Nat->Prop) (bb:Value) (bF:Nat->Prop) (bc:Value) (bG:Nat->Prop) (bd:Value) (bH:Nat->Prop),.agg #[a8,a9,ba,bb,bc,bd]=v_/\KM (fun _=>False) b9 w_/\(PC w_ bC a8 (some (Qu ((Li W 0:Nat):Int) ((Li H 0:Nat):Int)))/\KP b9 L8 bC)/\(PC w_ bD a9 (some (Qu ((Li W 0:Nat):Int) ((Li H 0:Nat):Int)))/\KP b9 L8 bD)/\(PC w_ bE ba (some (Qu ((Li W 1:Nat):Int) ((Li H 1:Nat):Int)))/\KP b9 L8 bE)/\(PC w_ bF bb (some (Qu ((Li W 1:Nat):Int) ((Li H 1:Nat):Int)))/\KP b9 L8 bF)/\(PC w_ bG bc (some (Qu ((Li W 2:Nat):Int) ((Li H 2:Nat):Int)))/\KP b9 L8 bG)/\(PC w_ bH bd (some (Qu ((Li W 2:Nat):Int) ((Li H 2:Nat):Int)))/\KP b9 L8 bH)/\KJ bC bD/\KJ bC bE/\KJ bC bF/\KJ bC bG/\KJ bC bH/\KJ bD bE/\KJ bD bF/\KJ bD bG/\KJ bD bH/\KJ bE bF/\KJ bE bG/\KJ bE bH/\KJ bF bG/\KJ bF bH/\KJ bG bH) rfl rfl (LE rfl rfl rfl (fun _ _=>by kernel_rfl) (K2 _) (Lj rfl LP) (azr W H R B  _ (by assumption)  ) (fun e_ w_ h_=>by obtain⟨v216_,T224_,v217_,T225_,v218_,T226_,v219_,T227_,v220_,T228_,v221_,T229_,he_,hr_⟩:=h_;exact⟨_,he_,v216_,T224_,v217_,T225_,v218_,T226_,v219_,T227_,v220_,T228_,v221_,T229_,rfl,hr_⟩)) ?_))))
  rintro _ Bu ⟨a8,bC,a9,bD,ba,bE,bb,bF,bc,bG,bd,bH,rfl,jo,⟨jp,jq⟩,⟨jr,js⟩,⟨jt,ju⟩,⟨jv,jw⟩,⟨jx,jy⟩,⟨jz,jA⟩,oH,oI,oJ,oK,oL,oM,oN,oO,oP,oQ,oR,oS,oT,oU,oV⟩
  obtain⟨jB,jC,jD,jE,jF,jG,jH,jI⟩:=Xz jo ce bP cf cg ci cj cm cd
  have jJ:=cn.tr jo
  obtain⟨oW,oX,oY,oZ,o2,o3,o4,o5⟩:=XH jq ce bP cf cg ci cj cm cd
  obtain⟨o6,o7,o8,o9,pa,pb,pc,pd⟩:=XH js ce bP cf cg ci cj cm cd
  obtain⟨pe,pf,pg,pi,pj,pk,pm,po⟩:=XH ju ce bP cf cg ci cj cm cd
  obtain⟨pp,pq,pu,pz,pA,pB,pC,pD⟩:=XH jw ce bP cf cg ci cj cm cd
  obtain⟨pE,pF,pG,pH,pI,pJ,pK,pL⟩:=XH jy ce bP cf cg ci cj cm cd
  obtain⟨pM,pN,pO,pP,pQ,pR,pS,pT⟩:=XH jA ce bP cf cg ci cj cm cd
  refine LF (n:=6) (vs:=[.pointer none,.pointer none,.pointer none,.pointer none,.pointer none,.pointer none]) rfl rfl rfl (by kernel_rfl) fun aq Bv pU jK jL=>?_
  obtain⟨pV,pW,pZ,eU,eV,eW,jM,qa,jN,jO,jP,jQ,jR,jS⟩:=RM jK jB jC jD jE jF jG jH jI jp jr jt jv jx jz
  obtain⟨qb,qc,qd,qe,qf,qg,qh,qi,jT,jU,jV,jW,jX,jY⟩:=OW jL jB jC jD jE jF jG jH jI jp jr jt jv jx jz
  refine Lh (us:=[a8,a9,ba,bb,bc,bd]) S9 rfl rfl rfl rfl rfl pU rfl (KX jT.one (KX jU.one (KX jV.one (KX jW.one (KX jX.one (KX jY.one MC)))))) fun jZ qj aS=>?_
  have qk:=qb.all aS pV.symm
  have j0:=qc.all aS (pW.symm p1 rfl)
  have ql:=qd.all aS (pZ.symm ao rfl)
  have j1:=qe.all aS (eU.symm ac rfl)
  have j2:=qf.all aS (eV.symm ae rfl)
  have j3:=qg.all aS (eW.symm ap rfl)
  have j4:=qh.all aS jM.symm
  have qm:=qi.all aS (qa.symm ar rfl)
  have qn:=jT.all aS jN.symm
  have qo:=jU.all aS jO.symm
  have qp:=jV.all aS jP.symm
  have qq:=jW.all aS jQ.symm
  have qr:=jX.all aS jR.symm
  have qs:=jY.all aS jS.symm
  refine KL ?_
  have qt:=K4 (pt aq 0)
  refine KE (KH (KH ?_))
  obtain⟨de,j5⟩:=Ub qn
  obtain⟨df,j6⟩:=Ub qo
  obtain⟨dg,j7⟩:=Ub qp
  obtain⟨dh,j8⟩:=Ub qq
  obtain⟨di,j9⟩:=Ub qr
  obtain⟨dj,ka⟩:=Ub qs
  refine KF (KG (.agg #[iv W,iv H,iv R,iv B]) rfl rfl (KU Mv rfl eP j0 rr) (Lw (R:=fun v_ w_=>∃ (bI:Nat) (aZ:Nat->Prop),.func (.func 60) #[] #[pt bI 0]=v_/\KM (fun _=>False) jZ w_/\(Wg w_ aZ bI W H R B/\KP jZ L8 aZ)) rfl rfl (LE rfl rfl rfl (fun _ _=>by kernel_rfl) (K2 _) (Lj rfl LP) (V5 W H R B  _   ) (fun e_ w_ h_=>by obtain⟨v400_,T403_,he_,hr_⟩:=h_;exact⟨_,he_,v400_,T403_,rfl,hr_⟩)) ?_))
  rintro _ Bw ⟨bI,aZ,rfl,f6,⟨f8,qu⟩⟩
  obtain⟨qv,qw,qx,f9,ga,qy,qz,qA,bQ,bR,bS,bT,bU,bV⟩:=OW f6 qk j0 ql j1 j2 j3 j4 qm j5 j6 j7 j8 j9 ka
  have qB:=qj.all f6 id
  have dk:=((jJ.tr jL).trans aS (KP.ok (S:=fun _=>False) (KP.new jJ jK) K3)).tr f6
  obtain⟨cA,cB,cC,qC,qD,qE,qF,qG,qH,qI⟩:=aC2 qu j1 j2 j3 j4 j5 j6 j7 j8 j9 ka
  refine RV fun gb gc=>?_
  obtain⟨qJ,qK,qL,kb,qM,qN,cD,cE,qO,qP,kd,ke,qQ⟩:=t13 gc 0 oc 1 od 2 iI 53 iJ 3 eP 4 iK 6 fP 7 fQ 8 fU 20 iP 9 oj 10 oG 11 qt
  have kf:gb 27 = .func (.func 60) #[] #[pt bI 0]:=(gc 27).trans rfl
  clear gc
  refine KE (Lk ?_)
  refine We (α:=RU W H) (encs:=fun el=>[iv ((el.m:Nat):Int),.agg #[iv ((el.p:Nat):Int),iv (pX (Li W el.p) el.i),iv (pY (Li W el.p) el.i)]]) (U:=fun i=>i≠bI) (S:=fun xs=>xs=M9 W H 3) (Sp:=fun xs=>xs <+: M9 W H 3) (M:=1000) kf (fun _ _=>by kernel_rfl) (Ze W H R B bI _ hm.1 f8.2) (fun i hi=>Nat.ne_of_gt (Nat.lt_of_lt_of_le f8.2.lt hi)) [28,29] rfl (fun _=>rfl) rfl (fun pre ww=>∃ (V:Value),∃ (ab:Nat->Prop),∃ (af:Nat->Prop),∃ (ah:Nat->Prop),∃ (ai:Nat->Prop),∃ (aj:Nat->Prop),∃ (ak:Nat->Prop),∃ (am:Nat->Prop),∃ (an:Nat->Prop),((KY l K W H pre).e=0)/\KM (fun _=>False) w0 ww/\L7 ww T_b v l/\Mu ww p1 23 [iv W,iv H,iv R,iv B]/\Mu ww ao 25 [iv K,iv Q,iv D,iv F]/\PH ww ac 32 (.slice none 0 0)/\PH ww ae 33 (iv 0)/\PH ww ap 32 V/\Pn ww ab aA l ((KY l K W H pre).s)/\PH ww ar 54 (pt aA 0)/\O9 ww af a8 de (((KY l K W H pre).f 0).1)/\O9 ww ah a9 df (((KY l K W H pre).f 0).2)/\O9 ww ai ba dg (((KY l K W H pre).f 1).1)/\O9 ww aj bb dh (((KY l K W H pre).f 1).2)/\O9 ww ak bc di (((KY l K W H pre).f 2).1)/\O9 ww am bd dj (((KY l K W H pre).f 2).2)/\Mu ww aq 59 [a8,a9,ba,bb,bc,bd]/\Wg ww aZ bI W H R B/\QR Ux ww an V ((KY l K W H pre).o)/\KP w0 L8 ab/\KP w0 L8 af/\KP w0 L8 ah/\KP w0 L8 ai/\KP w0 L8 aj/\KP w0 L8 ak/\KP w0 L8 am/\KP w0 L8 an/\KJ ab T_b/\KJ ab (Le p1)/\KJ ab (Le ao)/\KJ ab (Le ac)/\KJ ab (Le ae)/\KJ ab (Le ap)/\KJ ab (Le ar)/\KJ ab af/\KJ ab ah/\KJ ab ai/\KJ ab aj/\KJ ab ak/\KJ ab am/\KJ ab (Le aq)/\KJ ab aZ/\KJ ab an/\KJ af T_b/\KJ af (Le p1)/\KJ af (Le ao)/\KJ af (Le ac)/\KJ af (Le ae)/\KJ af (Le ap)/\KJ af (Le ar)/\KJ af ah/\KJ af ai/\KJ af aj/\KJ af ak/\KJ af am/\KJ af (Le aq)/\KJ af aZ/\KJ af an/\KJ ah T_b/\KJ ah (Le p1)/\KJ ah (Le ao)/\KJ ah (Le ac)/\KJ ah (Le ae)/\KJ ah (Le ap)/\KJ ah (Le ar)/\KJ ah ai/\KJ ah aj/\KJ ah ak/\KJ ah am/\KJ ah (Le aq)/\KJ ah aZ/\KJ ah an/\KJ ai T_b/\KJ ai (Le p1)/\KJ ai (Le ao)/\KJ ai (Le ac)/\KJ ai (Le ae)/\KJ ai (Le ap)/\KJ ai (Le ar)/\KJ ai aj/\KJ ai ak/\KJ ai am/\KJ ai (Le aq)/\KJ ai aZ/\KJ ai an/\KJ aj T_b/\KJ aj (Le p1)/\KJ aj (Le ao)/\KJ aj (Le ac)/\KJ aj (Le ae)/\KJ aj (Le ap)/\KJ aj (Le ar)/\KJ aj ak/\KJ aj am/\KJ aj (Le aq)/\KJ aj aZ/\KJ aj an/\KJ ak T_b/\KJ ak (Le p1)/\KJ ak (Le ao)/\KJ ak (Le ac)/\KJ ak (Le ae)/\KJ ak (Le ap)/\KJ ak (Le ar)/\KJ ak am/\KJ ak (Le aq)/\KJ ak aZ/\KJ ak an/\KJ am T_b/\KJ am (Le p1)/\KJ am (Le ao)/\KJ am (Le ac)/\KJ am (Le ae)/\KJ am (Le ap)/\KJ am (Le ar)/\KJ am (Le aq)/\KJ am aZ/\KJ am an/\KJ an T_b/\KJ an (Le p1)/\KJ an (Le ao)/\KJ an (Le ac)/\KJ an (Le ae)/\KJ an (Le ap)/\KJ an (Le ar)/\KJ an (Le aq)/\KJ an aZ) (fun pre ww=>KM (fun _=>False) w0 ww/\L7 ww T_b v l/\Mu ww p1 23 [iv W,iv H,iv R,iv B]/\Mu ww ao 25 [iv K,iv Q,iv D,iv F]/\PH ww ac 32 (.slice none 0 0)/\PH ww ae 33 (iv ((KY l K W H pre).e))/\PH ww ar 54 (pt aA 0)/\Mu ww aq 59 [a8,a9,ba,bb,bc,bd]/\Wg ww aZ bI W H R B/\((KY l K W H pre).e≠0)) ?_ ?_ ⟨(.slice none 0 0),eQ,bC,bD,bE,bF,bG,bH,L8,rfl,dk,qv,qw,qx,f9,ga,qy,qz,qA,bQ,bR,bS,bT,bU,bV,qB,f8,(QR.nil Ux _),(KP.new ja jd),(KP.new cn jq),(KP.new cn js),(KP.new cn ju),(KP.new cn jw),(KP.new cn jy),(KP.new cn jA),(KP.refl _ _),ol,om,oo,oq,ot,ou,jn.symm,o4.symm,pc.symm,pm.symm,pC.symm,pK.symm,pS.symm,jM.symm,qC.symm,KJ.none,oW,oX,oY,oZ,o2,o3,o5,oH,oI,oJ,oK,oL,jN.symm,qD.symm,KJ.none,o6,o7,o8,o9,pa,pb,pd,oM,oN,oO,oP,jO.symm,qE.symm,KJ.none,pe,pf,pg,pi,pj,pk,po,oQ,oR,oS,jP.symm,qF.symm,KJ.none,pp,pq,pu,pz,pA,pB,pD,oT,oU,jQ.symm,qG.symm,KJ.none,pE,pF,pG,pH,pI,pJ,pL,oV,jR.symm,qH.symm,KJ.none,pM,pN,pO,pP,pQ,pR,pT,jS.symm,qI.symm,KJ.none,KJ.none.symm,KJ.none.symm,KJ.none.symm,KJ.none.symm,KJ.none.symm,KJ.none.symm,KJ.none.symm,KJ.none.symm,KJ.none.symm⟩ (fun el FF WW=>∃ (pa0_:Nat),FF 0 = .agg #[iv W,iv H,iv R,iv B]/\FF 1 = .agg #[iv K,iv Q,iv D,iv F]/\FF 2=v/\FF 3=pt p1 0/\FF 4=pt ao 0/\FF 6=pt ac 0/\FF 7=pt ae 0/\FF 8=iv (QW W H R B K Q D F)/\FF 9=pt ap 0/\FF 10=pt ar 0/\FF 11=pt aq 0/\FF 13=pt pa0_ 0/\FF 20 = .bool (decide ((QW W H R B K Q D F)≠0))/\FF 27 = .func (.func 60) #[] #[pt bI 0]/\FF 29 = .agg #[iv ((el.p:Nat):Int),iv (pX (Li W el.p) el.i),iv (pY (Li W el.p) el.i)]/\FF 53=undef/\Mu WW pa0_ 65 [iv ((el.p:Nat):Int),iv (pX (Li W el.p) el.i),iv (pY (Li W el.p) el.i)]/\KJ (Le pa0_) T_b/\KJ (Le pa0_) (Le p1)/\KJ (Le pa0_) (Le ao)/\KJ (Le pa0_) (Le ac)/\KJ (Le pa0_) (Le ae)/\KJ (Le pa0_) (Le ap)/\KJ (Le pa0_) (Le ar)/\KJ (Le pa0_) (Le aq)/\KJ (Le pa0_) aZ) ?_ ?_ ?_ ?_ ?_
  ·rintro pre A_ B_ row_ ⟨V,ab,af,ah,ai,aj,ak,am,an,i0_,K_,B0_,B1_,B2_,B3_,B4_,B5_,B6_,B7_,B8_,B9_,B10_,B11_,B12_,B13_,B14_,B15_,B16_,g0_,g1_,g2_,g3_,g4_,g5_,g6_,g7_,a0_,a1_,a2_,a3_,a4_,a5_,a6_,a7_,a8_,a9_,a10_,a11_,a12_,a13_,a14_,a15_,a16_,a17_,a18_,a19_,a20_,a21_,a22_,a23_,a24_,a25_,a26_,a27_,a28_,a29_,a30_,a31_,a32_,a33_,a34_,a35_,a36_,a37_,a38_,a39_,a40_,a41_,a42_,a43_,a44_,a45_,a46_,a47_,a48_,a49_,a50_,a51_,a52_,a53_,a54_,a55_,a56_,a57_,a58_,a59_,a60_,a61_,a62_,a63_,a64_,a65_,a66_,a67_,a68_,a69_,a70_,a71_,a72_,a73_,a74_,a75_,a76_,a77_,a78_,a79_,a80_,a81_,a82_,a83_,a84_,a85_,a86_,a87_,a88_,a89_,a90_,a91_,a92_,a93_,a94_,a95_,a96_,a97_,a98_,a99_⟩ hg_ hr_
   exact⟨V,ab,af,ah,ai,aj,ak,am,an,i0_,K_.row hg_ hr_ dk.size,B0_.row hg_ hr_,B1_.row hg_ hr_,B2_.row hg_ hr_,B3_.row hg_ hr_,B4_.row hg_ hr_,B5_.row hg_ hr_,B6_.row hg_ hr_,B7_.row hg_ hr_,B8_.row hg_ hr_ bQ.lt,B9_.row hg_ hr_ bR.lt,B10_.row hg_ hr_ bS.lt,B11_.row hg_ hr_ bT.lt,B12_.row hg_ hr_ bU.lt,B13_.row hg_ hr_ bV.lt,B14_.row hg_ hr_,B15_.row hg_ hr_,B16_.row hg_ hr_,g0_,g1_,g2_,g3_,g4_,g5_,g6_,g7_,a0_,a1_,a2_,a3_,a4_,a5_,a6_,a7_,a8_,a9_,a10_,a11_,a12_,a13_,a14_,a15_,a16_,a17_,a18_,a19_,a20_,a21_,a22_,a23_,a24_,a25_,a26_,a27_,a28_,a29_,a30_,a31_,a32_,a33_,a34_,a35_,a36_,a37_,a38_,a39_,a40_,a41_,a42_,a43_,a44_,a45_,a46_,a47_,a48_,a49_,a50_,a51_,a52_,a53_,a54_,a55_,a56_,a57_,a58_,a59_,a60_,a61_,a62_,a63_,a64_,a65_,a66_,a67_,a68_,a69_,a70_,a71_,a72_,a73_,a74_,a75_,a76_,a77_,a78_,a79_,a80_,a81_,a82_,a83_,a84_,a85_,a86_,a87_,a88_,a89_,a90_,a91_,a92_,a93_,a94_,a95_,a96_,a97_,a98_,a99_⟩
  ·rintro pre A_ B_ row_ ⟨K_,B0_,B1_,B2_,B3_,B4_,B5_,B6_,B7_,i0_⟩ hg_ hr_
   exact⟨K_.row hg_ hr_ dk.size,B0_.row hg_ hr_,B1_.row hg_ hr_,B2_.row hg_ hr_,B3_.row hg_ hr_,B4_.row hg_ hr_,B5_.row hg_ hr_,B6_.row hg_ hr_,B7_.row hg_ hr_,i0_⟩
  ·rintro el FF _ A_ B_ row_ ⟨p0_,s0_,s1_,s2_,s3_,s4_,s5_,s6_,s7_,s8_,s9_,s10_,s11_,s12_,s13_,s14_,s15_,B0_,a0_,a1_,a2_,a3_,a4_,a5_,a6_,a7_,a8_⟩ hg_ hr_
   exact⟨p0_,s0_,s1_,s2_,s3_,s4_,s5_,s6_,s7_,s8_,s9_,s10_,s11_,s12_,s13_,s14_,s15_,B0_.row hg_ hr_,a0_,a1_,a2_,a3_,a4_,a5_,a6_,a7_,a8_⟩
  ·rintro l_ pre el W_ ⟨V,ab,af,ah,ai,aj,ak,am,an,hN,qR,kg,ki,kj,kn,ko,kp,kq,kr,ks,kt,ku,kv,kw,kx,ky,kz,kA,qS,qT,qU,qV,qW,qX,qY,qZ,q5,q6,q7,q8,q9,ra,rb,rc,re,rf,rg,rh,ri,rj,rk,rl,rm,rn,rp,rq,rt,ru,rv,rx,ry,rz,rA,rB,rC,rD,rE,rF,rG,rH,rI,rJ,rK,rL,rM,rN,rO,rP,rQ,rR,rS,rT,rU,rV,rW,rX,rY,rZ,r5,r6,r7,r8,r9,sb,sc,sd,se,sf,sg,si,sj,sk,sl,sm,sn,so,sp,sq,ss,su,sv,sw,sx,sy,sz,sA,sB,sC,sD,sE,sF,sG,sH,sI,sJ,sK,sL,sM,sN,sO,sP,sQ,sR,sS,sT,sU⟩
   refine KF (LF (n:=3) (vs:=[iv 0,iv 0,iv 0]) rfl rfl rfl (by kernel_rfl) fun kB Bx sV gd ge=>?_)
   obtain⟨kC,kD,kE,kF,kG,kH,sW,kI,sX,sY,sZ,ta,tb,tc⟩:=RM gd kg ki kj kn ko kp kq kr ks kt ku kv kw kx
   obtain⟨kJ,kK,td⟩:=SW gd ky kz kA
   obtain⟨te,tf,tg,th,ti,tj,tk,tl,tm,tn,tp,tq,tt,tu⟩:=OW ge kg ki kj kn ko kp kq kr ks kt ku kv kw kx
   obtain⟨tv,tw,tx⟩:=Nx ge ky kz kA
   refine Lh (us:=[iv ((el.p:Nat):Int),iv (pX (Li W el.p) el.i),iv (pY (Li W el.p) el.i)]) PY rfl rfl rfl rfl rfl sV rfl (KX rfl (KX rfl (KX rfl MC))) fun Bz tz aB=>?_
   have tA:=te.all aB kC.symm
   have tB:=tf.all aB (kD.symm p1 rfl)
   have tC:=tg.all aB (kE.symm ao rfl)
   have tD:=th.all aB (kF.symm ac rfl)
   have tE:=ti.all aB (kG.symm ae rfl)
   have tF:=tj.all aB (kH.symm ap rfl)
   have tG:=tk.all aB sW.symm
   have tH:=tl.all aB (kI.symm ar rfl)
   have tI:=tm.all aB sX.symm
   have tJ:=tn.all aB sY.symm
   have tK:=tp.all aB sZ.symm
   have tL:=tq.all aB ta.symm
   have tM:=tt.all aB tb.symm
   have tN:=tu.all aB tc.symm
   have tO:=tv.all aB (kJ.symm aq rfl)
   have tP:=tw.all aB kK.symm
   have tQ:=tx.all aB td.symm
   have gh:=((KM.refl (fun _=>False) W_).trans ge (fun _ _ x=>x.elim)).trans aB (KP.ok (S:=fun _=>False) (KP.new (KM.refl (fun _=>False) W_) gd) K3)
   refine KL ?_
   have tS:=K4 (undef)
   have tT:=K4 (.agg #[iv ((el.p:Nat):Int),iv (pX (Li W el.p) el.i),iv (pY (Li W el.p) el.i)])
   have tU:=K4 (pt kB 0)
   exact⟨OP.keeps OP.no gh _,gh.mono (fun _ _ x=>x.elim),⟨V,ab,af,ah,ai,aj,ak,am,an,hN,qR.trans gh (fun _ _ x=>x.elim),tA,tB,tC,tD,tE,tF,tG,tH,tI,tJ,tK,tL,tM,tN,tO,tP,tQ,qS,qT,qU,qV,qW,qX,qY,qZ,q5,q6,q7,q8,q9,ra,rb,rc,re,rf,rg,rh,ri,rj,rk,rl,rm,rn,rp,rq,rt,ru,rv,rx,ry,rz,rA,rB,rC,rD,rE,rF,rG,rH,rI,rJ,rK,rL,rM,rN,rO,rP,rQ,rR,rS,rT,rU,rV,rW,rX,rY,rZ,r5,r6,r7,r8,r9,sb,sc,sd,se,sf,sg,si,sj,sk,sl,sm,sn,so,sp,sq,ss,su,sv,sw,sx,sy,sz,sA,sB,sC,sD,sE,sF,sG,sH,sI,sJ,sK,sL,sM,sN,sO,sP,sQ,sR,sS,sT,sU⟩,⟨kB,qJ,qK,qL,qM,qN,cD,cE,qO,kd,ke,qQ,tU,qP,kf,tT,tS,tz,kC,kD,kE,kF,kG,kH,kI,kJ,kK⟩⟩
  ·rintro l_ pre el BA aa ⟨V,ab,af,ah,ai,aj,ak,am,an,hN,az,bh,bi,aT,aC,aD,aE,be,aU,aG,aH,aI,aJ,aK,aL,aV,au,aF,bm,bn,bo,bp,bq,bt,bu,bv,cF,cG,bJ,cH,cI,cJ,bK,dl,dm,dn,dp,dq,dr,bL,bM,cK,eX,eY,dt,eZ,e6,cL,du,gi,dv,dw,dy,dz,dA,co,cM,e7,e8,dB,e9,fa,cN,dC,dD,dE,dF,dG,dH,cq,cO,fb,fc,dI,fd,fe,cP,dJ,gj,dK,dL,dM,cr,cQ,ff,fg,dN,fh,fi,cR,dO,dP,dQ,dR,ct,cS,fj,fk,dS,fm,fo,cT,dT,gl,dU,cu,cU,fp,fq,dV,ft,fu,cV,dW,dX,cv,cW,cX,cY,cZ,c5,c6,c7,c9,da,bN⟩ ⟨aw,BB,BC,BD,BE,gm,gn,go,BF,gp,gq,gr,db,BG,BH,BI,BJ,bz,BK,BL,BM,BN,BO,BP,BQ,BR,BS⟩ hlen_
   have bj:=KM.refl (fun i=>(Le ac) i\/((Le ae) i\/((Le ap) i\/(ab i\/(af i\/(ah i\/(ai i\/(aj i\/(ak i\/(am i\/(an i))))))))))) aa
   have dc:KJ (Le aw) ab:=(aBm bz be (by decide))
   have kL:KJ (Le aw) af:=(Sc bz aG (by decide))
   have kM:KJ (Le aw) ah:=(Sc bz aH (by decide))
   have kN:KJ (Le aw) ai:=(Sc bz aI (by decide))
   have kO:KJ (Le aw) aj:=(Sc bz aJ (by decide))
   have kP:KJ (Le aw) ak:=(Sc bz aK (by decide))
   have kQ:KJ (Le aw) am:=(Sc bz aL (by decide))
   have gt:=hA.all az
   have hO2:=hO.all az
   have hab0:=R9 bm hA
   have hab1:=R9 bn hA
   have hab2:=R9 bo hA
   have hab3:=R9 bp hA
   have hab4:=R9 bq hA
   have hab5:=R9 bt hA
   have hab6:=R9 bu hA
   have hab7:=R9 bv hA
   have hei:=el.hi
   refine Lk (KH ?_)
   rcases (show el.p=0\/el.p=1\/el.p=2 from (by have:=el.hp;omega)) with hpv|hpv|hpv
   ·skip
    have kR:Mu aa aw 65 [iv ((0:Nat):Int),iv (pX (Li W 0) el.i),iv (pY (Li W 0) el.i)]:=by have h_:=bz;rw[hpv] at h_;exact h_
    have hwp:=Sb (W:=W) (p:=0) hsd.1
    have hwl:=Oz (W:=W) (p:=0) hsd.2.1
    have hwh:=Oz (W:=H) (p:=0) hsd.2.2.2.2.1
    have hwn:Li W 0*Li H 0<=16*16:=Nat.mul_le_mul hwl hwh
    rw[hpv] at hei
    refine QE (γ:=(Nat->Prop)×(Nat->Prop)×(Nat->Prop)) [(9,8),(10,8),(11,8),(13,8),(14,8),(13,12),(14,12)] [some 31,some 32,some 33,some 34,some 35,some 36,some 37,some 38,some 39,some 30,some 40,some 41,some 14,none,some 15] ⟨fun w_=>Pn w_ ab aA l ((KY l K W H pre).s)/\O9 w_ af a8 de (((KY l K W H pre).f 0).1)/\O9 w_ ah a9 df (((KY l K W H pre).f 0).2),fun i=>ab i\/(af i\/(ah i)),fun g_ w_=>(Pn w_ (g_.1) aA l ((RB l K (Li W 0) (el.i) ⟨(((KY l K W H pre).f 0).1),(((KY l K W H pre).f 0).2),((KY l K W H pre).s)⟩).s)/\KP aa ab (g_.1))/\(O9 w_ (g_.2.1) a8 de ((RB l K (Li W 0) (el.i) ⟨(((KY l K W H pre).f 0).1),(((KY l K W H pre).f 0).2),((KY l K W H pre).s)⟩).a)/\KP aa af (g_.2.1))/\(O9 w_ (g_.2.2) a9 df ((RB l K (Li W 0) (el.i) ⟨(((KY l K W H pre).f 0).1),(((KY l K W H pre).f 0).2),((KY l K W H pre).s)⟩).b)/\KP aa ah (g_.2.2))/\KJ (g_.1) (g_.2.1)/\KJ (g_.1) (g_.2.2)/\KJ (g_.2.1) (g_.2.2),fun g_=>fun i=>(g_.1) i\/((g_.2.1) i\/((g_.2.2) i)),fun p_ w_=>Mu w_ p_ 71 (Ob 0 0 0 0 0 (fun _=>(0:Int))),fun g_ p_ w_=>Mu w_ p_ 71 (OZ (Qg l K (Li W 0) (el.i) ⟨(((KY l K W H pre).f 0).1),(((KY l K W H pre).f 0).2),((KY l K W H pre).s)⟩))⟩ (fun i=>ab i\/(af i\/(ah i))) (fun p_=>aa.heap.size<=p_) [fun g_=>pt aA 0,fun g_=>pt ao 0,fun g_=>iv K,fun g_=>pt aw 0,fun g_=>iv ((0:Nat):Int),fun g_=>pt aq 0,fun g_=>.agg #[a8,a9],fun g_=>.agg #[iv ((0:Nat):Int),iv (pX (Li W 0) el.i),iv (pY (Li W 0) el.i)],fun g_=>.tuple #[.agg (OZ (Qg l K (Li W 0) (el.i) ⟨(((KY l K W H pre).f 0).1),(((KY l K W H pre).f 0).2),((KY l K W H pre).s)⟩)).toArray,iv ((Md l K (Li W 0) (el.i) ⟨(((KY l K W H pre).f 0).1),(((KY l K W H pre).f 0).2),((KY l K W H pre).s)⟩).2.1)],fun g_=>.tuple #[.agg (OZ (Qg l K (Li W 0) (el.i) ⟨(((KY l K W H pre).f 0).1),(((KY l K W H pre).f 0).2),((KY l K W H pre).s)⟩)).toArray,iv ((Md l K (Li W 0) (el.i) ⟨(((KY l K W H pre).f 0).1),(((KY l K W H pre).f 0).2),((KY l K W H pre).s)⟩).2.1)],fun g_=>.agg (OZ (Qg l K (Li W 0) (el.i) ⟨(((KY l K W H pre).f 0).1),(((KY l K W H pre).f 0).2),((KY l K W H pre).s)⟩)).toArray,fun g_=>iv ((Md l K (Li W 0) (el.i) ⟨(((KY l K W H pre).f 0).1),(((KY l K W H pre).f 0).2),((KY l K W H pre).s)⟩).2.1),fun _=>undef,fun _=>undef,fun g_=>iv ((Md l K (Li W 0) (el.i) ⟨(((KY l K W H pre).f 0).1),(((KY l K W H pre).f 0).2),((KY l K W H pre).s)⟩).2.1)] 8 13 (some 12) (L8,L8,L8) 0 (by kernel_rfl) (by kernel_rfl) (by kernel_rfl) (by kernel_rfl) ⟨.inr (.inr fun _ _=>rfl),⟨.inr (.inr fun _ _=>rfl),⟨.inr (.inr fun _ _=>rfl),⟨.inr (.inr fun _ _=>rfl),⟨.inr (.inr fun _ _=>rfl),⟨.inr (.inr fun _ _=>rfl),⟨.inr (.inr fun _ _=>rfl),⟨.inr (.inr fun _ _=>rfl),⟨.inr (.inl rfl),⟨.inl rfl,⟨.inl rfl,⟨.inl rfl,⟨.inr (.inr fun _ _=>rfl),⟨.inl rfl,⟨.inl rfl,trivial⟩⟩⟩⟩⟩⟩⟩⟩⟩⟩⟩⟩⟩⟩⟩ ⟨⟨be,aG,aH⟩,fun w w1 S1 h k a=>by obtain⟨h0_,h1_,h2_⟩:=h;exact⟨h0_.all k (fun i z=>a i (Or.inl z)),h1_.all k (fun i z=>a i (Or.inr (Or.inl z))),h2_.all k (fun i z=>a i (Or.inr (Or.inr z)))⟩,fun w h i z=>by obtain⟨h0_,h1_,h2_⟩:=h;rcases z with z|z|z <;> first|exact h0_.live i z|exact h1_.live i z|exact h2_.live i z,fun g w w1 S1 h k a=>by obtain⟨⟨b0_,g0_⟩,⟨b1_,g1_⟩,⟨b2_,g2_⟩,a0_1_,a0_2_,a1_2_⟩:=h;exact⟨⟨b0_.all k (fun i z=>a i (Or.inl z)),g0_⟩,⟨b1_.all k (fun i z=>a i (Or.inr (Or.inl z))),g1_⟩,⟨b2_.all k (fun i z=>a i (Or.inr (Or.inr z))),g2_⟩,a0_1_,a0_2_,a1_2_⟩,fun g w h i z=>by obtain⟨⟨b0_,g0_⟩,⟨b1_,g1_⟩,⟨b2_,g2_⟩,a0_1_,a0_2_,a1_2_⟩:=h;rcases z with z|z|z <;> first|exact b0_.live i z|exact b1_.live i z|exact b2_.live i z,fun _ _ _ _ h k z=>h.all k z,fun _ _ h=>h.lt,fun _ _ _ _ _ h k z=>h.all k z,fun _ z=>z,fun _ h=>.inr h,fun p h z=>by rcases z with z|z|z <;> first|exact absurd h (Nat.not_le.2 (be.live p z))|exact absurd h (Nat.not_le.2 (aG.live p z))|exact absurd h (Nat.not_le.2 (aH.live p z))⟩ (fun _ _ _ h=>h) (fun e=>by cases e) ?_ ?_
    ·refine KV ?_ ?_
     ·refine Ll.one rfl rfl rfl rfl fun g_ p_ F_ w_ hR hout hD=>?_
      exact(MB rfl ((hout 10 rfl (by decide)).trans gq) Tryz.underlying54 (aU.all hR (fun x=>(x.elim (fun y=>((bK.symm) ar rfl y)) (fun y=>(y.elim (fun y=>((du.symm) ar rfl y)) (fun y=>((dC.symm) ar rfl y))))))) rfl ⟨rfl,KM.refl _ _⟩)
     refine KV ?_ ?_
     ·refine Ll.one rfl rfl rfl rfl fun g_ p_ F_ w_ hR hout hD=>?_
      exact(KQ (n:=1) rfl ((hout 4 rfl (by decide)).trans gm) Tryz.underlying25 rfl (by kernel_rfl) (by decide) rfl ⟨rfl,KM.refl _ _⟩)
     refine KV ?_ ?_
     ·refine Ll.one rfl rfl rfl rfl fun g_ p_ F_ w_ hR hout hD=>?_
      have dZ:F_ 32=pt ao 0:=(hD.get 0 rfl rfl rfl).2 (by decide)
      exact(KR rfl dZ Tryz.underlying3 (aT.all hR (fun x=>(x.elim (fun y=>((bJ.symm) ao rfl y)) (fun y=>(y.elim (fun y=>((dt.symm) ao rfl y)) (fun y=>((dB.symm) ao rfl y))))))) rfl rfl ⟨rfl,KM.refl _ _⟩)
     refine KV ?_ ?_
     ·refine Ll.one rfl rfl rfl rfl fun g_ p_ F_ w_ hR hout hD=>?_
      exact(KQ (n:=1) rfl ((hout 13 rfl (by decide)).trans db) Tryz.underlying65 rfl (by kernel_rfl) (by decide) rfl ⟨rfl,KM.refl _ _⟩)
     refine KV ?_ ?_
     ·refine Ll.one rfl rfl rfl rfl fun g_ p_ F_ w_ hR hout hD=>?_
      have d8:F_ 34=pt aw 0:=(hD.get 0 rfl rfl rfl).2 (by decide)
      exact(KR rfl d8 Tryz.underlying3 (kR.all hR (fun x=>(x.elim (fun y=>(dc aw rfl y)) (fun y=>(y.elim (fun y=>(kL aw rfl y)) (fun y=>(kM aw rfl y))))))) rfl rfl ⟨rfl,KM.refl _ _⟩)
     refine KV ?_ ?_
     ·refine Ll.one rfl rfl rfl rfl fun g_ p_ F_ w_ hR hout hD=>?_
      have d9:F_ 35=iv ((0:Nat):Int):=(hD.get 0 rfl rfl rfl).2 (by decide)
      exact(LQ 0 (s:=2) rfl ((hout 11 rfl (by decide)).trans gr) d9 (by omega) Tryz.underlying59 (by omega) (by kernel_rfl) (by omega) ⟨rfl,KM.refl _ _⟩)
     refine KV ?_ ?_
     ·refine Ll.one rfl rfl rfl rfl fun g_ p_ F_ w_ hR hout hD=>?_
      have eb:F_ 36=pt aq 0:=(hD.get 0 rfl rfl rfl).2 (by decide)
      exact(O5 (n:=2) VD rfl eb (aV.all hR (fun x=>(x.elim (fun y=>((bL.symm) aq rfl y)) (fun y=>(y.elim (fun y=>((dA.symm) aq rfl y)) (fun y=>((dH.symm) aq rfl y))))))) (Nat.le_of_ble_eq_true rfl) rfl ⟨rfl,KM.refl _ _⟩)
     refine KV ?_ ?_
     ·refine Ll.one rfl rfl rfl rfl fun g_ p_ F_ w_ hR hout hD=>?_
      exact(KU PY rfl ((hout 13 rfl (by decide)).trans db) (kR.all hR (fun x=>(x.elim (fun y=>(dc aw rfl y)) (fun y=>(y.elim (fun y=>(kL aw rfl y)) (fun y=>(kM aw rfl y))))))) ⟨rfl,KM.refl _ _⟩)
     refine KV ?_ ?_
     ·refine Ll.call rfl rfl rfl rfl fun g_ p_ F_ w_ hR hout hD hP_=>?_
      have ee:F_ 31=pt aA 0:=(hD.get 0 rfl rfl rfl).2 (by decide)
      have eh:F_ 33=iv K:=(hD.get 1 rfl rfl rfl).2 (by decide)
      have ei:F_ 37 = .agg #[a8,a9]:=(hD.get 2 rfl rfl rfl).2 (by decide)
      have ek:F_ 38 = .agg #[iv ((0:Nat):Int),iv (pX (Li W 0) el.i),iv (pY (Li W 0) el.i)]:=(hD.get 3 rfl rfl rfl).2 (by decide)
      exact(LE rfl rfl rfl (fun _ _=>by kernel_rfl) (K2 _) (Lj ee (Lj eh (Lj ei (Lj ek LP)))) (WP aA l ((KY l K W H pre).s) K ((0:Nat):Int) (Li W 0) (el.i) a8 a9 de df (((KY l K W H pre).f 0).1) (((KY l K W H pre).f 0).2) ab af ah _ (gt.but hR (by rintro i (h|h|h) <;> first|exact hab0 _ h|exact hab1 _ h|exact hab2 _ h|exact hab3 _ h|exact hab4 _ h|exact hab5 _ h|exact hab6 _ h|exact hab7 _ h)) (hO2.but hR (ovO (by rintro i (h|h|h) <;> first|exact hab0 _ h|exact hab1 _ h|exact hab2 _ h|exact hab3 _ h|exact hab4 _ h|exact hab5 _ h|exact hab6 _ h|exact hab7 _ h))) (by first|exact hab0|exact hab1|exact hab2|exact hab3|exact hab4|exact hab5|exact hab6|exact hab7) (by first|exact hab0|exact hab1|exact hab2|exact hab3|exact hab4|exact hab5|exact hab6|exact hab7) (by first|exact hab0|exact hab1|exact hab2|exact hab3|exact hab4|exact hab5|exact hab6|exact hab7) hwp hwl (by omega) hP_.1 hP_.2.1 hP_.2.2 dl dm gi) (fun e_ w_ h_=>by obtain⟨x0_,x1_,x2_,he_,hk_,⟨b0_,g0_⟩,⟨b1_,g1_⟩,⟨b2_,g2_⟩,a0_1_,a0_2_,a1_2_⟩:=h_;exact⟨_,he_,⟨x0_,x1_,x2_⟩,rfl,hk_,⟨⟨b0_,(KP.refl aa _).trans hR g0_⟩,⟨b1_,(KP.refl aa _).trans hR g1_⟩,⟨b2_,(KP.refl aa _).trans hR g2_⟩,a0_1_,a0_2_,a1_2_⟩,fun b hb=>by rcases hb with hb|hb|hb <;> first|exact(g0_ b hb).elim (fun z=>.inl (Or.inl z)) .inr|exact(g1_ b hb).elim (fun z=>.inl (Or.inr (Or.inl z))) .inr|exact(g2_ b hb).elim (fun z=>.inl (Or.inr (Or.inr z))) .inr⟩))
     refine KV ?_ ?_
     ·refine Ll.one rfl rfl rfl rfl fun g_ p_ F_ w_ hR hout hD=>?_
      have en:F_ 39 = .tuple #[.agg (OZ (Qg l K (Li W 0) (el.i) ⟨(((KY l K W H pre).f 0).1),(((KY l K W H pre).f 0).2),((KY l K W H pre).s)⟩)).toArray,iv ((Md l K (Li W 0) (el.i) ⟨(((KY l K W H pre).f 0).1),(((KY l K W H pre).f 0).2),((KY l K W H pre).s)⟩).2.1)]:=(hD.get 0 rfl rfl rfl).2 (by decide)
      exact(KN rfl en ⟨rfl,KM.refl _ _⟩)
     refine KV ?_ ?_
     ·refine Ll.one rfl rfl rfl rfl fun g_ p_ F_ w_ hR hout hD=>?_
      have bl:F_ 30 = .tuple #[.agg (OZ (Qg l K (Li W 0) (el.i) ⟨(((KY l K W H pre).f 0).1),(((KY l K W H pre).f 0).2),((KY l K W H pre).s)⟩)).toArray,iv ((Md l K (Li W 0) (el.i) ⟨(((KY l K W H pre).f 0).1),(((KY l K W H pre).f 0).2),((KY l K W H pre).s)⟩).2.1)]:=(hD.get 0 rfl rfl rfl).2 (by decide)
      exact(LI rfl bl rfl ⟨rfl,KM.refl _ _⟩)
     refine KV ?_ ?_
     ·refine Ll.one rfl rfl rfl rfl fun g_ p_ F_ w_ hR hout hD=>?_
      have bl:F_ 30 = .tuple #[.agg (OZ (Qg l K (Li W 0) (el.i) ⟨(((KY l K W H pre).f 0).1),(((KY l K W H pre).f 0).2),((KY l K W H pre).s)⟩)).toArray,iv ((Md l K (Li W 0) (el.i) ⟨(((KY l K W H pre).f 0).1),(((KY l K W H pre).f 0).2),((KY l K W H pre).s)⟩).2.1)]:=(hD.get 0 rfl rfl rfl).2 (by decide)
      exact(LI rfl bl rfl ⟨rfl,KM.refl _ _⟩)
     refine KV ?_ ?_
     ·refine Ll.alloc rfl rfl rfl rfl fun F_ w_ hR=>?_
      exact Pw (n:=21) (vs:=(Ob 0 0 0 0 0 (fun _=>(0:Int)))) rfl (by kernel_rfl) ⟨_,rfl,Nat.le_refl _,heap_alloc_new _ _,(KM.refl _ _).alloc _⟩
     refine KV ?_ ?_
     ·refine Ll.store rfl rfl rfl rfl fun g_ p_ F_ w_ hR hout hD hO_ hZ_ hQ_=>?_
      have cy:F_ 14=pt p_ 0:=(hD.get 0 rfl rfl rfl).1 rfl
      have eo:F_ 40 = .agg (OZ (Qg l K (Li W 0) (el.i) ⟨(((KY l K W H pre).f 0).1),(((KY l K W H pre).f 0).2),((KY l K W H pre).s)⟩)).toArray:=(hD.get 1 rfl rfl rfl).2 (by decide)
      exact P8 (us:=(OZ (Qg l K (Li W 0) (el.i) ⟨(((KY l K W H pre).f 0).1),(((KY l K W H pre).f 0).2),((KY l K W H pre).s)⟩))) LD rfl cy eo hZ_ rfl (KX rfl (KX rfl (KX rfl (KX rfl (KX rfl (KX rfl (KX rfl (KX rfl (KX rfl (KX rfl (KX rfl (KX rfl (KX rfl (KX rfl (KX rfl (KX rfl (KX rfl (KX rfl (KX rfl (KX rfl (KX rfl MC))))))))))))))))))))) fun w2_ b_ k_=>⟨rfl,k_,b_⟩
     refine KV ?_ ?_
     ·refine Ll.one rfl rfl rfl rfl fun g_ p_ F_ w_ hR hout hD=>?_
      have ep:F_ 41=iv ((Md l K (Li W 0) (el.i) ⟨(((KY l K W H pre).f 0).1),(((KY l K W H pre).f 0).2),((KY l K W H pre).s)⟩).2.1):=(hD.get 0 rfl rfl rfl).2 (by decide)
      exact(KT rfl ep ⟨rfl,KM.refl _ _⟩)
     exact Nl
    intro tV kS BT kT fw aW BU tW tX gu tY kU kV fx
    obtain⟨er,et,eu⟩:=tV
    have kW:=bh.all aW (fun i h x=>(x.elim (fun y=>((cF.symm) i h y)) (fun y=>(y.elim (fun y=>((eX.symm) i h y)) (fun y=>((e7.symm) i h y))))))
    have kX:=bi.all aW (fun x=>(x.elim (fun y=>((cG.symm) p1 rfl y)) (fun y=>(y.elim (fun y=>((eY.symm) p1 rfl y)) (fun y=>((e8.symm) p1 rfl y))))))
    have kY:=aT.all aW (fun x=>(x.elim (fun y=>((bJ.symm) ao rfl y)) (fun y=>(y.elim (fun y=>((dt.symm) ao rfl y)) (fun y=>((dB.symm) ao rfl y))))))
    have kZ:=aC.all aW (fun x=>(x.elim (fun y=>((cH.symm) ac rfl y)) (fun y=>(y.elim (fun y=>((eZ.symm) ac rfl y)) (fun y=>((e9.symm) ac rfl y))))))
    have k8:=aD.all aW (fun x=>(x.elim (fun y=>((cI.symm) ae rfl y)) (fun y=>(y.elim (fun y=>((e6.symm) ae rfl y)) (fun y=>((fa.symm) ae rfl y))))))
    have la:=aE.all aW (fun x=>(x.elim (fun y=>((cJ.symm) ap rfl y)) (fun y=>(y.elim (fun y=>((cL.symm) ap rfl y)) (fun y=>((cN.symm) ap rfl y))))))
    have lc:=aU.all aW (fun x=>(x.elim (fun y=>((bK.symm) ar rfl y)) (fun y=>(y.elim (fun y=>((du.symm) ar rfl y)) (fun y=>((dC.symm) ar rfl y))))))
    have tZ:=aI.all aW (fun i h x=>(x.elim (fun y=>((dn.symm) i h y)) (fun y=>(y.elim (fun y=>((dv.symm) i h y)) (fun y=>((dD.symm) i h y))))))
    have ua:=aJ.all aW (fun i h x=>(x.elim (fun y=>((dp.symm) i h y)) (fun y=>(y.elim (fun y=>((dw.symm) i h y)) (fun y=>((dE.symm) i h y))))))
    have ub:=aK.all aW (fun i h x=>(x.elim (fun y=>((dq.symm) i h y)) (fun y=>(y.elim (fun y=>((dy.symm) i h y)) (fun y=>((dF.symm) i h y))))))
    have uc:=aL.all aW (fun i h x=>(x.elim (fun y=>((dr.symm) i h y)) (fun y=>(y.elim (fun y=>((dz.symm) i h y)) (fun y=>((dG.symm) i h y))))))
    have ld:=aV.all aW (fun x=>(x.elim (fun y=>((bL.symm) aq rfl y)) (fun y=>(y.elim (fun y=>((dA.symm) aq rfl y)) (fun y=>((dH.symm) aq rfl y))))))
    have le:=au.all aW (fun i h x=>(x.elim (fun y=>((bM.symm) i h y)) (fun y=>(y.elim (fun y=>((co.symm) i h y)) (fun y=>((cq.symm) i h y))))))
    have ud:=aF.all aW (fun i h x=>(x.elim (fun y=>((cK.symm) i h y)) (fun y=>(y.elim (fun y=>((cM.symm) i h y)) (fun y=>((cO.symm) i h y))))))
    have lf:=bj.trans aW (fun i hi x=>(x.elim (fun y=>((KP.ok (S:=fun i=>(Le ac) i\/((Le ae) i\/((Le ap) i\/(ab i\/(af i\/(ah i\/(ai i\/(aj i\/(ak i\/(am i\/(an i))))))))))) (KP.refl aa ab) (fun _ x=>Or.inr (Or.inr (Or.inr (Or.inl x))))) i hi y)) (fun y=>(y.elim (fun y=>((KP.ok (S:=fun i=>(Le ac) i\/((Le ae) i\/((Le ap) i\/(ab i\/(af i\/(ah i\/(ai i\/(aj i\/(ak i\/(am i\/(an i))))))))))) (KP.refl aa af) (fun _ x=>Or.inr (Or.inr (Or.inr (Or.inr (Or.inl x)))))) i hi y)) (fun y=>((KP.ok (S:=fun i=>(Le ac) i\/((Le ae) i\/((Le ap) i\/(ab i\/(af i\/(ah i\/(ai i\/(aj i\/(ak i\/(am i\/(an i))))))))))) (KP.refl aa ah) (fun _ x=>Or.inr (Or.inr (Or.inr (Or.inr (Or.inr (Or.inl x))))))) i hi y))))))
    obtain⟨⟨gv,ew⟩,⟨gw,ex⟩,⟨gz,ey⟩,gA,gB,gC⟩:=tW
    replace gv:Pn fw er aA l ((RB l K (Li W 0) (el.i) ⟨(((KY l K W H pre).f 0).1),(((KY l K W H pre).f 0).2),((KY l K W H pre).s)⟩).s):=gv
    replace gw:O9 fw et a8 de ((RB l K (Li W 0) (el.i) ⟨(((KY l K W H pre).f 0).1),(((KY l K W H pre).f 0).2),((KY l K W H pre).s)⟩).a):=gw
    replace gz:O9 fw eu a9 df ((RB l K (Li W 0) (el.i) ⟨(((KY l K W H pre).f 0).1),(((KY l K W H pre).f 0).2),((KY l K W H pre).s)⟩).b):=gz
    replace ew:KP aa ab er:=ew
    replace ex:KP aa af et:=ex
    replace ey:KP aa ah eu:=ey
    replace gA:KJ er et:=gA
    replace gB:KJ er eu:=gB
    replace gC:KJ et eu:=gC
    obtain⟨ue,uf,ug,uh,ui,lg,uj,uk⟩:=RC ew cF bh cG bi bJ aT cH aC cI aD cJ aE bK aU dn aI
    obtain⟨ul,um,un,uo,uq,lh⟩:=WL ew dp aJ dq aK dr aL bL aV bM au cK aF
    obtain⟨ur,ut,uu,uv,uw,lj,ux,uy⟩:=RC ex eX bh eY bi dt aT eZ aC e6 aD cL aE du aU dv aI
    obtain⟨uz,uA,uB,uC,uD,lk⟩:=WL ex dw aJ dy aK dz aL dA aV co au cM aF
    obtain⟨uE,uF,uG,uH,uI,ll,uJ,uK⟩:=RC ey e7 bh e8 bi dB aT e9 aC fa aD cN aE dC aU dD aI
    obtain⟨uL,uM,uN,uO,uP,lm⟩:=WL ey dE aJ dF aK dG aL dH aV cq au cO aF
    replace gu:Mu fw kS 71 (OZ (Qg l K (Li W 0) (el.i) ⟨(((KY l K W H pre).f 0).1),(((KY l K W H pre).f 0).2),((KY l K W H pre).s)⟩)):=gu
    obtain⟨uQ,uR,ln⟩:=t3 fx 6 gn 7 go 9 gp
    have uS:kT 14=pt kS 0:=(fx 14).trans (kU 12 rfl)
    have lq:kT 15=iv ((Md l K (Li W 0) (el.i) ⟨(((KY l K W H pre).f 0).1),(((KY l K W H pre).f 0).2),((KY l K W H pre).s)⟩).2.1):=(fx 15).trans (kV 14 (by decide) (by decide))
    clear fx kV kU tY tX
    refine KE (KH (KH (KF (KS rfl rfl rfl lq (KG (.bool (decide (((Md l K (Li W 0) (el.i) ⟨(((KY l K W H pre).f 0).1),(((KY l K W H pre).f 0).2),((KY l K W H pre).s)⟩).2.1)≠0))) rfl rfl (L9 rfl rfl rfl rfl rr) (KL ?_))))))
    have uT:=K4 (.bool (decide (((Md l K (Li W 0) (el.i) ⟨(((KY l K W H pre).f 0).1),(((KY l K W H pre).f 0).2),((KY l K W H pre).s)⟩).2.1)≠0)))
    refine KE ?_
    refine K5 uT (fun ez=>?_) (fun ez=>?_)
    ·replace ez:=of_decide_eq_true ez
     refine KH ?_
     have hX:=YL (l:=l) (k:=K) hpv hN (show (Md l K (Li W 0) el.i ((KY l K W H pre).at 0)).2.1≠0 from by assumption)
     refine KF (KS rfl rfl rfl lq (L3 rfl rfl rfl uQ rfl kZ (by rfl) (by kernel_rfl) fun BV uU bW=>?_))
     have uV:=kW.all bW fJ.symm
     have uW:=kX.all bW (fK.symm p1 rfl)
     have uX:=kY.all bW (fL.symm ao rfl)
     have uY:=k8.all bW (bg ae rfl)
     have uZ:=lc.all bW (eR ar rfl)
     have u0:=ld.all bW (eU aq rfl)
     have u5:=le.all bW cA
     have u6:=lf.trans bW (KP.ok (S:=fun i=>(Le ac) i\/((Le ae) i\/((Le ap) i\/(ab i\/(af i\/(ah i\/(ai i\/(aj i\/(ak i\/(am i\/(an i))))))))))) (KP.refl aa (Le ac)) (fun _ x=>Or.inl x))
     refine L3 rfl rfl rfl uR rfl uY (by rfl) (by kernel_rfl) fun BW u7 bX=>?_
     have u9:=uV.all bX fM.symm
     have va:=uW.all bX (fN.symm p1 rfl)
     have vb:=uX.all bX (fO.symm ao rfl)
     have vc:=uU.all bX (bg.symm ac rfl)
     have vd:=uZ.all bX (eS ar rfl)
     have ve:=u0.all bX (eV aq rfl)
     have vf:=u5.all bX cB
     have lr:=u6.trans bX (KP.ok (S:=fun i=>(Le ac) i\/((Le ae) i\/((Le ap) i\/(ab i\/(af i\/(ah i\/(ai i\/(aj i\/(ak i\/(am i\/(an i))))))))))) (KP.refl aa (Le ae)) (fun _ x=>Or.inr (Or.inl x)))
     refine KL ?_
     refine KE (La (Ln (NT ?_)))
     exact⟨LM.keeps (LM.or aC.cells.cb (LM.or aD.cells.cb (LM.or aE.cells.cb (LM.or be.cells.cb (LM.or (aG.cb bQ.lt) (LM.or (aH.cb bR.lt) (LM.or (aI.cb bS.lt) (LM.or (aJ.cb bT.lt) (LM.or (aK.cb bU.lt) (LM.or (aL.cb bV.lt) aF.cells.cb)))))))))) lr,⟨az.trans lr (fun i hi x=>(x.elim (fun y=>((KP.ok (S:=fun _=>False) bA K3) i hi y)) (fun y=>(y.elim (fun y=>((KP.ok (S:=fun _=>False) bB K3) i hi y)) (fun y=>(y.elim (fun y=>((KP.ok (S:=fun _=>False) cz K3) i hi y)) (fun y=>(y.elim (fun y=>((KP.ok (S:=fun _=>False) bm K3) i hi y)) (fun y=>(y.elim (fun y=>((KP.ok (S:=fun _=>False) bn K3) i hi y)) (fun y=>(y.elim (fun y=>((KP.ok (S:=fun _=>False) bo K3) i hi y)) (fun y=>(y.elim (fun y=>((KP.ok (S:=fun _=>False) bp K3) i hi y)) (fun y=>(y.elim (fun y=>((KP.ok (S:=fun _=>False) bq K3) i hi y)) (fun y=>(y.elim (fun y=>((KP.ok (S:=fun _=>False) bt K3) i hi y)) (fun y=>(y.elim (fun y=>((KP.ok (S:=fun _=>False) bu K3) i hi y)) (fun y=>((KP.ok (S:=fun _=>False) bv K3) i hi y)))))))))))))))))))))),u9,va,vb,vc,(by rw[hX];exact u7),vd,ve,vf,(by rw[hX];assumption)⟩⟩
    ·replace ez:=of_decide_eq_false ez
     refine Lf (KE ?_)
     have hce:(Md l K (Li W 0) el.i ((KY l K W H pre).at 0)).2.1=0:=by first|assumption|(apply Decidable.byContradiction;assumption)
     have hX:=az6 (l:=l) (k:=K) hpv hN hce
     have hol:=YO (l:=l) (k:=K) pre
     refine KF (KG V rfl rfl (MB rfl ln Tryz.underlying32 la rfl rr) (KG (.agg (OZ (Qg l K (Li W 0) (el.i) ⟨(((KY l K W H pre).f 0).1),(((KY l K W H pre).f 0).2),((KY l K W H pre).s)⟩)).toArray) rfl rfl (KU LD rfl uS gu rr) (SA (r:=Ux) (xs:=[.tmp 46]) (vs:=[.agg (OZ (Qg l K (Li W 0) (el.i) ⟨(((KY l K W H pre).f 0).1),(((KY l K W H pre).f 0).2),((KY l K W H pre).s)⟩)).toArray]) (l:=[Qg l K (Li W 0) (el.i) ⟨(((KY l K W H pre).f 0).1),(((KY l K W H pre).f 0).2),((KY l K W H pre).s)⟩]) rfl rfl rfl rfl rfl (Lj rfl LP) rfl (by first|decide|exact Nat.le_of_ble_eq_true rfl) (by first|decide|exact Nat.le_of_ble_eq_true rfl) fun BX BZ Ca vg Cb gD=>?_)))
     obtain⟨lu,lv,lw,lx,ly,lz,lA,lB,lC,lD,lE,lF,lG,lH⟩:=OW gD kW kX kY kZ k8 la gv lc gw gz tZ ua ub uc
     obtain⟨lJ,lK,vh⟩:=Nx gD ld le ud
     have lL:=lf.tr gD
     refine RZ (r:=Ux) rfl rfl rfl rfl rfl rfl vh vg.roa (by first|omega|(simp;done)|(simp;omega)) fun vi Cc vj lM gE aM=>?_
     obtain⟨vk,vl,vm,vn,vo,lN,vp,vq⟩:=RC gE cX lu cY lv cZ lw c5 lx c6 ly c7 lz (lh.symm) lA c9 lB
     obtain⟨vr,vt,vu,vv,vw,vx,vy,vz⟩:=RC gE (lk.symm) lC (lm.symm) lD (cQ.symm) lE (cS.symm) lF (cU.symm) lG (cW.symm) lH da lJ bN lK
     have vA:=lu.all aM cX.symm
     have vB:=lv.all aM (cY.symm p1 rfl)
     have vC:=lw.all aM (cZ.symm ao rfl)
     have vD:=lx.all aM (c5.symm ac rfl)
     have vE:=ly.all aM (c6.symm ae rfl)
     have vF:=lz.all aM (c7.symm ap rfl)
     have vG:=lA.all aM lh
     have vH:=lB.all aM (c9.symm ar rfl)
     have vJ:=lC.all aM lk
     have vK:=lD.all aM lm
     have vL:=lE.all aM cQ
     have vM:=lF.all aM cS
     have vN:=lG.all aM cU
     have vO:=lH.all aM cW
     have vP:=lJ.all aM (da.symm aq rfl)
     have vQ:=lK.all aM bN.symm
     have vR:=lL.trans aM (KP.ok (S:=fun i=>(Le ac) i\/((Le ae) i\/((Le ap) i\/(ab i\/(af i\/(ah i\/(ai i\/(aj i\/(ak i\/(am i\/(an i))))))))))) (KP.refl aa an) (fun _ x=>Or.inr (Or.inr (Or.inr (Or.inr (Or.inr (Or.inr (Or.inr (Or.inr (Or.inr (Or.inr x)))))))))))
     refine L3 rfl rfl rfl ln rfl vF lM.oneC (by kernel_rfl) fun Cd vS aN=>?_
     have vT:=vA.all aN fV.symm
     have vU:=vB.all aN (fW.symm p1 rfl)
     have vV:=vC.all aN (fX.symm ao rfl)
     have vW:=vD.all aN (fY.symm ac rfl)
     have vX:=vE.all aN (fZ.symm ae rfl)
     have vY:=vG.all aN lg
     have vZ:=vH.all aN (eT ar rfl)
     have lO:=vJ.all aN lj
     have lP:=vK.all aN ll
     have lQ:=vL.all aN cP
     have lR:=vM.all aN cR
     have lS:=vN.all aN cT
     have lT:=vO.all aN cV
     have v7:=vP.all aN (eW aq rfl)
     have v9:=vQ.all aN cC
     have wa:=lM.all aN lN
     have gF:=vR.trans aN (KP.ok (S:=fun i=>(Le ac) i\/((Le ae) i\/((Le ap) i\/(ab i\/(af i\/(ah i\/(ai i\/(aj i\/(ak i\/(am i\/(an i))))))))))) (KP.refl aa (Le ap)) (fun _ x=>Or.inr (Or.inr (Or.inl x))))
     refine KL ?_
     refine LA ?_
     exact⟨LM.keeps (LM.or aC.cells.cb (LM.or aD.cells.cb (LM.or aE.cells.cb (LM.or be.cells.cb (LM.or (aG.cb bQ.lt) (LM.or (aH.cb bR.lt) (LM.or (aI.cb bS.lt) (LM.or (aJ.cb bT.lt) (LM.or (aK.cb bU.lt) (LM.or (aL.cb bV.lt) aF.cells.cb)))))))))) gF,gF.mono (fun i hi x=>(x.elim (fun y=>fun e=>cA.symm i y (by rw[au.1];exact e)) (fun y=>(y.elim (fun y=>fun e=>cB.symm i y (by rw[au.1];exact e)) (fun y=>(y.elim (fun y=>fun e=>cC.symm i y (by rw[au.1];exact e)) (fun y=>(y.elim (fun y=>fun e=>bM i y (by rw[au.1];exact e)) (fun y=>(y.elim (fun y=>fun e=>co i y (by rw[au.1];exact e)) (fun y=>(y.elim (fun y=>fun e=>cq i y (by rw[au.1];exact e)) (fun y=>(y.elim (fun y=>fun e=>cr i y (by rw[au.1];exact e)) (fun y=>(y.elim (fun y=>fun e=>ct i y (by rw[au.1];exact e)) (fun y=>(y.elim (fun y=>fun e=>cu i y (by rw[au.1];exact e)) (fun y=>(y.elim (fun y=>fun e=>cv i y (by rw[au.1];exact e)) (fun y=>(fun e=>bN i y (by rw[au.1];exact e))))))))))))))))))))))),⟨vi,er,et,eu,ai,aj,ak,am,vj,(hX.2.2.2.2),az.trans gF (fun i hi x=>(x.elim (fun y=>((KP.ok (S:=fun _=>False) bA K3) i hi y)) (fun y=>(y.elim (fun y=>((KP.ok (S:=fun _=>False) bB K3) i hi y)) (fun y=>(y.elim (fun y=>((KP.ok (S:=fun _=>False) cz K3) i hi y)) (fun y=>(y.elim (fun y=>((KP.ok (S:=fun _=>False) bm K3) i hi y)) (fun y=>(y.elim (fun y=>((KP.ok (S:=fun _=>False) bn K3) i hi y)) (fun y=>(y.elim (fun y=>((KP.ok (S:=fun _=>False) bo K3) i hi y)) (fun y=>(y.elim (fun y=>((KP.ok (S:=fun _=>False) bp K3) i hi y)) (fun y=>(y.elim (fun y=>((KP.ok (S:=fun _=>False) bq K3) i hi y)) (fun y=>(y.elim (fun y=>((KP.ok (S:=fun _=>False) bt K3) i hi y)) (fun y=>(y.elim (fun y=>((KP.ok (S:=fun _=>False) bu K3) i hi y)) (fun y=>((KP.ok (S:=fun _=>False) bv K3) i hi y)))))))))))))))))))))),vT,vU,vV,vW,vX,vS,(by rw[hX.1];exact vY),vZ,(by first|(rw[hX.2.2.1];exact lO)|(rw[hX.2.2.2.1 0 (by decide)];exact lO)),(by first|(rw[hX.2.2.1];exact lP)|(rw[hX.2.2.2.1 0 (by decide)];exact lP)),(by first|(rw[hX.2.2.1];exact lQ)|(rw[hX.2.2.2.1 1 (by decide)];exact lQ)),(by first|(rw[hX.2.2.1];exact lR)|(rw[hX.2.2.2.1 1 (by decide)];exact lR)),(by first|(rw[hX.2.2.1];exact lS)|(rw[hX.2.2.2.1 2 (by decide)];exact lS)),(by first|(rw[hX.2.2.1];exact lT)|(rw[hX.2.2.2.1 2 (by decide)];exact lT)),v7,v9,(by rw[hX.2.1];exact wa),bm.trans az ((KP.refl aa ab).trans bj ew),bn.trans az ((KP.refl aa af).trans bj ex),bo.trans az ((KP.refl aa ah).trans bj ey),bp.trans az (KP.refl aa ai),bq.trans az (KP.refl aa aj),bt.trans az (KP.refl aa ak),bu.trans az (KP.refl aa am),bv.trans az (KP.trans (KP.refl aa an) lL gE),ue,uf,ug,uh,ui,lg,uj,gA,gB,uk,ul,um,un,uo,uq,vp.symm,ur,ut,uu,uv,uw,lj,ux,gC,uy,uz,uA,uB,uC,uD,vr.symm,uE,uF,uG,uH,uI,ll,uJ,uK,uL,uM,uN,uO,uP,vt.symm,fb,fc,dI,fd,fe,cP,dJ,gj,dK,dL,dM,cr,vu.symm,ff,fg,dN,fh,fi,cR,dO,dP,dQ,dR,ct,vv.symm,fj,fk,dS,fm,fo,cT,dT,gl,dU,cu,vw.symm,fp,fq,dV,ft,fu,cV,dW,dX,cv,vx.symm,vk,vl,vm,vn,vo,lN,vq,vy,vz⟩⟩
   ·skip
    have lU:Mu aa aw 65 [iv ((1:Nat):Int),iv (pX (Li W 1) el.i),iv (pY (Li W 1) el.i)]:=by have h_:=bz;rw[hpv] at h_;exact h_
    have hwp:=Sb (W:=W) (p:=1) hsd.1
    have hwl:=Oz (W:=W) (p:=1) hsd.2.1
    have hwh:=Oz (W:=H) (p:=1) hsd.2.2.2.2.1
    have hwn:Li W 1*Li H 1<=16*16:=Nat.mul_le_mul hwl hwh
    rw[hpv] at hei
    refine QE (γ:=(Nat->Prop)×(Nat->Prop)×(Nat->Prop)) [(9,8),(10,8),(11,8),(13,8),(14,8),(13,12),(14,12)] [some 31,some 32,some 33,some 34,some 35,some 36,some 37,some 38,some 39,some 30,some 40,some 41,some 14,none,some 15] ⟨fun w_=>Pn w_ ab aA l ((KY l K W H pre).s)/\O9 w_ ai ba dg (((KY l K W H pre).f 1).1)/\O9 w_ aj bb dh (((KY l K W H pre).f 1).2),fun i=>ab i\/(ai i\/(aj i)),fun g_ w_=>(Pn w_ (g_.1) aA l ((RB l K (Li W 1) (el.i) ⟨(((KY l K W H pre).f 1).1),(((KY l K W H pre).f 1).2),((KY l K W H pre).s)⟩).s)/\KP aa ab (g_.1))/\(O9 w_ (g_.2.1) ba dg ((RB l K (Li W 1) (el.i) ⟨(((KY l K W H pre).f 1).1),(((KY l K W H pre).f 1).2),((KY l K W H pre).s)⟩).a)/\KP aa ai (g_.2.1))/\(O9 w_ (g_.2.2) bb dh ((RB l K (Li W 1) (el.i) ⟨(((KY l K W H pre).f 1).1),(((KY l K W H pre).f 1).2),((KY l K W H pre).s)⟩).b)/\KP aa aj (g_.2.2))/\KJ (g_.1) (g_.2.1)/\KJ (g_.1) (g_.2.2)/\KJ (g_.2.1) (g_.2.2),fun g_=>fun i=>(g_.1) i\/((g_.2.1) i\/((g_.2.2) i)),fun p_ w_=>Mu w_ p_ 71 (Ob 0 0 0 0 0 (fun _=>(0:Int))),fun g_ p_ w_=>Mu w_ p_ 71 (OZ (Qg l K (Li W 1) (el.i) ⟨(((KY l K W H pre).f 1).1),(((KY l K W H pre).f 1).2),((KY l K W H pre).s)⟩))⟩ (fun i=>ab i\/(ai i\/(aj i))) (fun p_=>aa.heap.size<=p_) [fun g_=>pt aA 0,fun g_=>pt ao 0,fun g_=>iv K,fun g_=>pt aw 0,fun g_=>iv ((1:Nat):Int),fun g_=>pt aq 2,fun g_=>.agg #[ba,bb],fun g_=>.agg #[iv ((1:Nat):Int),iv (pX (Li W 1) el.i),iv (pY (Li W 1) el.i)],fun g_=>.tuple #[.agg (OZ (Qg l K (Li W 1) (el.i) ⟨(((KY l K W H pre).f 1).1),(((KY l K W H pre).f 1).2),((KY l K W H pre).s)⟩)).toArray,iv ((Md l K (Li W 1) (el.i) ⟨(((KY l K W H pre).f 1).1),(((KY l K W H pre).f 1).2),((KY l K W H pre).s)⟩).2.1)],fun g_=>.tuple #[.agg (OZ (Qg l K (Li W 1) (el.i) ⟨(((KY l K W H pre).f 1).1),(((KY l K W H pre).f 1).2),((KY l K W H pre).s)⟩)).toArray,iv ((Md l K (Li W 1) (el.i) ⟨(((KY l K W H pre).f 1).1),(((KY l K W H pre).f 1).2),((KY l K W H pre).s)⟩).2.1)],fun g_=>.agg (OZ (Qg l K (Li W 1) (el.i) ⟨(((KY l K W H pre).f 1).1),(((KY l K W H pre).f 1).2),((KY l K W H pre).s)⟩)).toArray,fun g_=>iv ((Md l K (Li W 1) (el.i) ⟨(((KY l K W H pre).f 1).1),(((KY l K W H pre).f 1).2),((KY l K W H pre).s)⟩).2.1),fun _=>undef,fun _=>undef,fun g_=>iv ((Md l K (Li W 1) (el.i) ⟨(((KY l K W H pre).f 1).1),(((KY l K W H pre).f 1).2),((KY l K W H pre).s)⟩).2.1)] 8 13 (some 12) (L8,L8,L8) 0 (by kernel_rfl) (by kernel_rfl) (by kernel_rfl) (by kernel_rfl) ⟨.inr (.inr fun _ _=>rfl),⟨.inr (.inr fun _ _=>rfl),⟨.inr (.inr fun _ _=>rfl),⟨.inr (.inr fun _ _=>rfl),⟨.inr (.inr fun _ _=>rfl),⟨.inr (.inr fun _ _=>rfl),⟨.inr (.inr fun _ _=>rfl),⟨.inr (.inr fun _ _=>rfl),⟨.inr (.inl rfl),⟨.inl rfl,⟨.inl rfl,⟨.inl rfl,⟨.inr (.inr fun _ _=>rfl),⟨.inl rfl,⟨.inl rfl,trivial⟩⟩⟩⟩⟩⟩⟩⟩⟩⟩⟩⟩⟩⟩⟩ ⟨⟨be,aI,aJ⟩,fun w w1 S1 h k a=>by obtain⟨h0_,h1_,h2_⟩:=h;exact⟨h0_.all k (fun i z=>a i (Or.inl z)),h1_.all k (fun i z=>a i (Or.inr (Or.inl z))),h2_.all k (fun i z=>a i (Or.inr (Or.inr z)))⟩,fun w h i z=>by obtain⟨h0_,h1_,h2_⟩:=h;rcases z with z|z|z <;> first|exact h0_.live i z|exact h1_.live i z|exact h2_.live i z,fun g w w1 S1 h k a=>by obtain⟨⟨b0_,g0_⟩,⟨b1_,g1_⟩,⟨b2_,g2_⟩,a0_1_,a0_2_,a1_2_⟩:=h;exact⟨⟨b0_.all k (fun i z=>a i (Or.inl z)),g0_⟩,⟨b1_.all k (fun i z=>a i (Or.inr (Or.inl z))),g1_⟩,⟨b2_.all k (fun i z=>a i (Or.inr (Or.inr z))),g2_⟩,a0_1_,a0_2_,a1_2_⟩,fun g w h i z=>by obtain⟨⟨b0_,g0_⟩,⟨b1_,g1_⟩,⟨b2_,g2_⟩,a0_1_,a0_2_,a1_2_⟩:=h;rcases z with z|z|z <;> first|exact b0_.live i z|exact b1_.live i z|exact b2_.live i z,fun _ _ _ _ h k z=>h.all k z,fun _ _ h=>h.lt,fun _ _ _ _ _ h k z=>h.all k z,fun _ z=>z,fun _ h=>.inr h,fun p h z=>by rcases z with z|z|z <;> first|exact absurd h (Nat.not_le.2 (be.live p z))|exact absurd h (Nat.not_le.2 (aI.live p z))|exact absurd h (Nat.not_le.2 (aJ.live p z))⟩ (fun _ _ _ h=>h) (fun e=>by cases e) ?_ ?_
    ·refine KV ?_ ?_
     ·refine Ll.one rfl rfl rfl rfl fun g_ p_ F_ w_ hR hout hD=>?_
      exact(MB rfl ((hout 10 rfl (by decide)).trans gq) Tryz.underlying54 (aU.all hR (fun x=>(x.elim (fun y=>((bK.symm) ar rfl y)) (fun y=>(y.elim (fun y=>((dJ.symm) ar rfl y)) (fun y=>((dO.symm) ar rfl y))))))) rfl ⟨rfl,KM.refl _ _⟩)
     refine KV ?_ ?_
     ·refine Ll.one rfl rfl rfl rfl fun g_ p_ F_ w_ hR hout hD=>?_
      exact(KQ (n:=1) rfl ((hout 4 rfl (by decide)).trans gm) Tryz.underlying25 rfl (by kernel_rfl) (by decide) rfl ⟨rfl,KM.refl _ _⟩)
     refine KV ?_ ?_
     ·refine Ll.one rfl rfl rfl rfl fun g_ p_ F_ w_ hR hout hD=>?_
      have dZ:F_ 32=pt ao 0:=(hD.get 0 rfl rfl rfl).2 (by decide)
      exact(KR rfl dZ Tryz.underlying3 (aT.all hR (fun x=>(x.elim (fun y=>((bJ.symm) ao rfl y)) (fun y=>(y.elim (fun y=>((dI.symm) ao rfl y)) (fun y=>((dN.symm) ao rfl y))))))) rfl rfl ⟨rfl,KM.refl _ _⟩)
     refine KV ?_ ?_
     ·refine Ll.one rfl rfl rfl rfl fun g_ p_ F_ w_ hR hout hD=>?_
      exact(KQ (n:=1) rfl ((hout 13 rfl (by decide)).trans db) Tryz.underlying65 rfl (by kernel_rfl) (by decide) rfl ⟨rfl,KM.refl _ _⟩)
     refine KV ?_ ?_
     ·refine Ll.one rfl rfl rfl rfl fun g_ p_ F_ w_ hR hout hD=>?_
      have d8:F_ 34=pt aw 0:=(hD.get 0 rfl rfl rfl).2 (by decide)
      exact(KR rfl d8 Tryz.underlying3 (lU.all hR (fun x=>(x.elim (fun y=>(dc aw rfl y)) (fun y=>(y.elim (fun y=>(kN aw rfl y)) (fun y=>(kO aw rfl y))))))) rfl rfl ⟨rfl,KM.refl _ _⟩)
     refine KV ?_ ?_
     ·refine Ll.one rfl rfl rfl rfl fun g_ p_ F_ w_ hR hout hD=>?_
      have d9:F_ 35=iv ((1:Nat):Int):=(hD.get 0 rfl rfl rfl).2 (by decide)
      exact(LQ 1 (s:=2) rfl ((hout 11 rfl (by decide)).trans gr) d9 (by omega) Tryz.underlying59 (by omega) (by kernel_rfl) (by omega) ⟨rfl,KM.refl _ _⟩)
     refine KV ?_ ?_
     ·refine Ll.one rfl rfl rfl rfl fun g_ p_ F_ w_ hR hout hD=>?_
      have eb:F_ 36=pt aq 2:=(hD.get 0 rfl rfl rfl).2 (by decide)
      exact(O5 (n:=2) VD rfl eb (aV.all hR (fun x=>(x.elim (fun y=>((bL.symm) aq rfl y)) (fun y=>(y.elim (fun y=>((dM.symm) aq rfl y)) (fun y=>((dR.symm) aq rfl y))))))) (Nat.le_of_ble_eq_true rfl) rfl ⟨rfl,KM.refl _ _⟩)
     refine KV ?_ ?_
     ·refine Ll.one rfl rfl rfl rfl fun g_ p_ F_ w_ hR hout hD=>?_
      exact(KU PY rfl ((hout 13 rfl (by decide)).trans db) (lU.all hR (fun x=>(x.elim (fun y=>(dc aw rfl y)) (fun y=>(y.elim (fun y=>(kN aw rfl y)) (fun y=>(kO aw rfl y))))))) ⟨rfl,KM.refl _ _⟩)
     refine KV ?_ ?_
     ·refine Ll.call rfl rfl rfl rfl fun g_ p_ F_ w_ hR hout hD hP_=>?_
      have ee:F_ 31=pt aA 0:=(hD.get 0 rfl rfl rfl).2 (by decide)
      have eh:F_ 33=iv K:=(hD.get 1 rfl rfl rfl).2 (by decide)
      have ei:F_ 37 = .agg #[ba,bb]:=(hD.get 2 rfl rfl rfl).2 (by decide)
      have ek:F_ 38 = .agg #[iv ((1:Nat):Int),iv (pX (Li W 1) el.i),iv (pY (Li W 1) el.i)]:=(hD.get 3 rfl rfl rfl).2 (by decide)
      exact(LE rfl rfl rfl (fun _ _=>by kernel_rfl) (K2 _) (Lj ee (Lj eh (Lj ei (Lj ek LP)))) (WP aA l ((KY l K W H pre).s) K ((1:Nat):Int) (Li W 1) (el.i) ba bb dg dh (((KY l K W H pre).f 1).1) (((KY l K W H pre).f 1).2) ab ai aj _ (gt.but hR (by rintro i (h|h|h) <;> first|exact hab0 _ h|exact hab1 _ h|exact hab2 _ h|exact hab3 _ h|exact hab4 _ h|exact hab5 _ h|exact hab6 _ h|exact hab7 _ h)) (hO2.but hR (ovO (by rintro i (h|h|h) <;> first|exact hab0 _ h|exact hab1 _ h|exact hab2 _ h|exact hab3 _ h|exact hab4 _ h|exact hab5 _ h|exact hab6 _ h|exact hab7 _ h))) (by first|exact hab0|exact hab1|exact hab2|exact hab3|exact hab4|exact hab5|exact hab6|exact hab7) (by first|exact hab0|exact hab1|exact hab2|exact hab3|exact hab4|exact hab5|exact hab6|exact hab7) (by first|exact hab0|exact hab1|exact hab2|exact hab3|exact hab4|exact hab5|exact hab6|exact hab7) hwp hwl (by omega) hP_.1 hP_.2.1 hP_.2.2 dn dp gj) (fun e_ w_ h_=>by obtain⟨x0_,x1_,x2_,he_,hk_,⟨b0_,g0_⟩,⟨b1_,g1_⟩,⟨b2_,g2_⟩,a0_1_,a0_2_,a1_2_⟩:=h_;exact⟨_,he_,⟨x0_,x1_,x2_⟩,rfl,hk_,⟨⟨b0_,(KP.refl aa _).trans hR g0_⟩,⟨b1_,(KP.refl aa _).trans hR g1_⟩,⟨b2_,(KP.refl aa _).trans hR g2_⟩,a0_1_,a0_2_,a1_2_⟩,fun b hb=>by rcases hb with hb|hb|hb <;> first|exact(g0_ b hb).elim (fun z=>.inl (Or.inl z)) .inr|exact(g1_ b hb).elim (fun z=>.inl (Or.inr (Or.inl z))) .inr|exact(g2_ b hb).elim (fun z=>.inl (Or.inr (Or.inr z))) .inr⟩))
     refine KV ?_ ?_
     ·refine Ll.one rfl rfl rfl rfl fun g_ p_ F_ w_ hR hout hD=>?_
      have en:F_ 39 = .tuple #[.agg (OZ (Qg l K (Li W 1) (el.i) ⟨(((KY l K W H pre).f 1).1),(((KY l K W H pre).f 1).2),((KY l K W H pre).s)⟩)).toArray,iv ((Md l K (Li W 1) (el.i) ⟨(((KY l K W H pre).f 1).1),(((KY l K W H pre).f 1).2),((KY l K W H pre).s)⟩).2.1)]:=(hD.get 0 rfl rfl rfl).2 (by decide)
      exact(KN rfl en ⟨rfl,KM.refl _ _⟩)
     refine KV ?_ ?_
     ·refine Ll.one rfl rfl rfl rfl fun g_ p_ F_ w_ hR hout hD=>?_
      have bl:F_ 30 = .tuple #[.agg (OZ (Qg l K (Li W 1) (el.i) ⟨(((KY l K W H pre).f 1).1),(((KY l K W H pre).f 1).2),((KY l K W H pre).s)⟩)).toArray,iv ((Md l K (Li W 1) (el.i) ⟨(((KY l K W H pre).f 1).1),(((KY l K W H pre).f 1).2),((KY l K W H pre).s)⟩).2.1)]:=(hD.get 0 rfl rfl rfl).2 (by decide)
      exact(LI rfl bl rfl ⟨rfl,KM.refl _ _⟩)
     refine KV ?_ ?_
     ·refine Ll.one rfl rfl rfl rfl fun g_ p_ F_ w_ hR hout hD=>?_
      have bl:F_ 30 = .tuple #[.agg (OZ (Qg l K (Li W 1) (el.i) ⟨(((KY l K W H pre).f 1).1),(((KY l K W H pre).f 1).2),((KY l K W H pre).s)⟩)).toArray,iv ((Md l K (Li W 1) (el.i) ⟨(((KY l K W H pre).f 1).1),(((KY l K W H pre).f 1).2),((KY l K W H pre).s)⟩).2.1)]:=(hD.get 0 rfl rfl rfl).2 (by decide)
      exact(LI rfl bl rfl ⟨rfl,KM.refl _ _⟩)
     refine KV ?_ ?_
     ·refine Ll.alloc rfl rfl rfl rfl fun F_ w_ hR=>?_
      exact Pw (n:=21) (vs:=(Ob 0 0 0 0 0 (fun _=>(0:Int)))) rfl (by kernel_rfl) ⟨_,rfl,Nat.le_refl _,heap_alloc_new _ _,(KM.refl _ _).alloc _⟩
     refine KV ?_ ?_
     ·refine Ll.store rfl rfl rfl rfl fun g_ p_ F_ w_ hR hout hD hO_ hZ_ hQ_=>?_
      have cy:F_ 14=pt p_ 0:=(hD.get 0 rfl rfl rfl).1 rfl
      have eo:F_ 40 = .agg (OZ (Qg l K (Li W 1) (el.i) ⟨(((KY l K W H pre).f 1).1),(((KY l K W H pre).f 1).2),((KY l K W H pre).s)⟩)).toArray:=(hD.get 1 rfl rfl rfl).2 (by decide)
      exact P8 (us:=(OZ (Qg l K (Li W 1) (el.i) ⟨(((KY l K W H pre).f 1).1),(((KY l K W H pre).f 1).2),((KY l K W H pre).s)⟩))) LD rfl cy eo hZ_ rfl (KX rfl (KX rfl (KX rfl (KX rfl (KX rfl (KX rfl (KX rfl (KX rfl (KX rfl (KX rfl (KX rfl (KX rfl (KX rfl (KX rfl (KX rfl (KX rfl (KX rfl (KX rfl (KX rfl (KX rfl (KX rfl MC))))))))))))))))))))) fun w2_ b_ k_=>⟨rfl,k_,b_⟩
     refine KV ?_ ?_
     ·refine Ll.one rfl rfl rfl rfl fun g_ p_ F_ w_ hR hout hD=>?_
      have ep:F_ 41=iv ((Md l K (Li W 1) (el.i) ⟨(((KY l K W H pre).f 1).1),(((KY l K W H pre).f 1).2),((KY l K W H pre).s)⟩).2.1):=(hD.get 0 rfl rfl rfl).2 (by decide)
      exact(KT rfl ep ⟨rfl,KM.refl _ _⟩)
     exact Nl
    intro wb lV Ce lW fy aX Cf wc wd gG we lX lY fA
    obtain⟨eA,eB,eC⟩:=wb
    have lZ:=bh.all aX (fun i h x=>(x.elim (fun y=>((cF.symm) i h y)) (fun y=>(y.elim (fun y=>((fb.symm) i h y)) (fun y=>((ff.symm) i h y))))))
    have l3:=bi.all aX (fun x=>(x.elim (fun y=>((cG.symm) p1 rfl y)) (fun y=>(y.elim (fun y=>((fc.symm) p1 rfl y)) (fun y=>((fg.symm) p1 rfl y))))))
    have l4:=aT.all aX (fun x=>(x.elim (fun y=>((bJ.symm) ao rfl y)) (fun y=>(y.elim (fun y=>((dI.symm) ao rfl y)) (fun y=>((dN.symm) ao rfl y))))))
    have l5:=aC.all aX (fun x=>(x.elim (fun y=>((cH.symm) ac rfl y)) (fun y=>(y.elim (fun y=>((fd.symm) ac rfl y)) (fun y=>((fh.symm) ac rfl y))))))
    have l6:=aD.all aX (fun x=>(x.elim (fun y=>((cI.symm) ae rfl y)) (fun y=>(y.elim (fun y=>((fe.symm) ae rfl y)) (fun y=>((fi.symm) ae rfl y))))))
    have l7:=aE.all aX (fun x=>(x.elim (fun y=>((cJ.symm) ap rfl y)) (fun y=>(y.elim (fun y=>((cP.symm) ap rfl y)) (fun y=>((cR.symm) ap rfl y))))))
    have l8:=aU.all aX (fun x=>(x.elim (fun y=>((bK.symm) ar rfl y)) (fun y=>(y.elim (fun y=>((dJ.symm) ar rfl y)) (fun y=>((dO.symm) ar rfl y))))))
    have wg:=aG.all aX (fun i h x=>(x.elim (fun y=>((dl.symm) i h y)) (fun y=>(y.elim (fun y=>(dv i h y)) (fun y=>(dw i h y))))))
    have wh:=aH.all aX (fun i h x=>(x.elim (fun y=>((dm.symm) i h y)) (fun y=>(y.elim (fun y=>(dD i h y)) (fun y=>(dE i h y))))))
    have wi:=aK.all aX (fun i h x=>(x.elim (fun y=>((dq.symm) i h y)) (fun y=>(y.elim (fun y=>((dK.symm) i h y)) (fun y=>((dP.symm) i h y))))))
    have wj:=aL.all aX (fun i h x=>(x.elim (fun y=>((dr.symm) i h y)) (fun y=>(y.elim (fun y=>((dL.symm) i h y)) (fun y=>((dQ.symm) i h y))))))
    have l9:=aV.all aX (fun x=>(x.elim (fun y=>((bL.symm) aq rfl y)) (fun y=>(y.elim (fun y=>((dM.symm) aq rfl y)) (fun y=>((dR.symm) aq rfl y))))))
    have ma:=au.all aX (fun i h x=>(x.elim (fun y=>((bM.symm) i h y)) (fun y=>(y.elim (fun y=>((cr.symm) i h y)) (fun y=>((ct.symm) i h y))))))
    have wk:=aF.all aX (fun i h x=>(x.elim (fun y=>((cK.symm) i h y)) (fun y=>(y.elim (fun y=>((cQ.symm) i h y)) (fun y=>((cS.symm) i h y))))))
    have mb:=bj.trans aX (fun i hi x=>(x.elim (fun y=>((KP.ok (S:=fun i=>(Le ac) i\/((Le ae) i\/((Le ap) i\/(ab i\/(af i\/(ah i\/(ai i\/(aj i\/(ak i\/(am i\/(an i))))))))))) (KP.refl aa ab) (fun _ x=>Or.inr (Or.inr (Or.inr (Or.inl x))))) i hi y)) (fun y=>(y.elim (fun y=>((KP.ok (S:=fun i=>(Le ac) i\/((Le ae) i\/((Le ap) i\/(ab i\/(af i\/(ah i\/(ai i\/(aj i\/(ak i\/(am i\/(an i))))))))))) (KP.refl aa ai) (fun _ x=>Or.inr (Or.inr (Or.inr (Or.inr (Or.inr (Or.inr (Or.inl x)))))))) i hi y)) (fun y=>((KP.ok (S:=fun i=>(Le ac) i\/((Le ae) i\/((Le ap) i\/(ab i\/(af i\/(ah i\/(ai i\/(aj i\/(ak i\/(am i\/(an i))))))))))) (KP.refl aa aj) (fun _ x=>Or.inr (Or.inr (Or.inr (Or.inr (Or.inr (Or.inr (Or.inr (Or.inl x))))))))) i hi y))))))
    obtain⟨⟨gH,eD⟩,⟨gI,eE⟩,⟨gJ,eF⟩,gK,gL,gM⟩:=wc
    replace gH:Pn fy eA aA l ((RB l K (Li W 1) (el.i) ⟨(((KY l K W H pre).f 1).1),(((KY l K W H pre).f 1).2),((KY l K W H pre).s)⟩).s):=gH
    replace gI:O9 fy eB ba dg ((RB l K (Li W 1) (el.i) ⟨(((KY l K W H pre).f 1).1),(((KY l K W H pre).f 1).2),((KY l K W H pre).s)⟩).a):=gI
    replace gJ:O9 fy eC bb dh ((RB l K (Li W 1) (el.i) ⟨(((KY l K W H pre).f 1).1),(((KY l K W H pre).f 1).2),((KY l K W H pre).s)⟩).b):=gJ
    replace eD:KP aa ab eA:=eD
    replace eE:KP aa ai eB:=eE
    replace eF:KP aa aj eC:=eF
    replace gK:KJ eA eB:=gK
    replace gL:KJ eA eC:=gL
    replace gM:KJ eB eC:=gM
    obtain⟨wm,wn,wo,ws,wt,mc,wu,wy⟩:=RC eD cF bh cG bi bJ aT cH aC cI aD cJ aE bK aU dl aG
    obtain⟨wz,wA,wB,wC,wD,me⟩:=WL eD dm aH dq aK dr aL bL aV bM au cK aF
    obtain⟨wE,wF,wG,wH,wI,mf,wJ,wK⟩:=RC eE fb bh fc bi dI aT fd aC fe aD cP aE dJ aU (dv.symm) aG
    obtain⟨wL,wM,wN,wO,wP,mg⟩:=WL eE (dD.symm) aH dK aK dL aL dM aV cr au cQ aF
    obtain⟨wQ,wR,wS,wT,wU,mh,wV,wW⟩:=RC eF ff bh fg bi dN aT fh aC fi aD cR aE dO aU (dw.symm) aG
    obtain⟨wX,wY,wZ,w3,w4,mi⟩:=WL eF (dE.symm) aH dP aK dQ aL dR aV ct au cS aF
    replace gG:Mu fy lV 71 (OZ (Qg l K (Li W 1) (el.i) ⟨(((KY l K W H pre).f 1).1),(((KY l K W H pre).f 1).2),((KY l K W H pre).s)⟩)):=gG
    obtain⟨w7,xa,mj⟩:=t3 fA 6 gn 7 go 9 gp
    have xb:lW 14=pt lV 0:=(fA 14).trans (lX 12 rfl)
    have ml:lW 15=iv ((Md l K (Li W 1) (el.i) ⟨(((KY l K W H pre).f 1).1),(((KY l K W H pre).f 1).2),((KY l K W H pre).s)⟩).2.1):=(fA 15).trans (lY 14 (by decide) (by decide))
    clear fA lY lX we wd
    refine KE (KH (KH (KF (KS rfl rfl rfl ml (KG (.bool (decide (((Md l K (Li W 1) (el.i) ⟨(((KY l K W H pre).f 1).1),(((KY l K W H pre).f 1).2),((KY l K W H pre).s)⟩).2.1)≠0))) rfl rfl (L9 rfl rfl rfl rfl rr) (KL ?_))))))
    have xc:=K4 (.bool (decide (((Md l K (Li W 1) (el.i) ⟨(((KY l K W H pre).f 1).1),(((KY l K W H pre).f 1).2),((KY l K W H pre).s)⟩).2.1)≠0)))
    refine KE ?_
    refine K5 xc (fun eG=>?_) (fun eG=>?_)
    ·replace eG:=of_decide_eq_true eG
     refine KH ?_
     have hX:=YL (l:=l) (k:=K) hpv hN (show (Md l K (Li W 1) el.i ((KY l K W H pre).at 1)).2.1≠0 from by assumption)
     refine KF (KS rfl rfl rfl ml (L3 rfl rfl rfl w7 rfl l5 (by rfl) (by kernel_rfl) fun Cg xd bY=>?_))
     have xe:=lZ.all bY fJ.symm
     have xf:=l3.all bY (fK.symm p1 rfl)
     have xg:=l4.all bY (fL.symm ao rfl)
     have xh:=l6.all bY (bg ae rfl)
     have xi:=l8.all bY (eR ar rfl)
     have xj:=l9.all bY (eU aq rfl)
     have xk:=ma.all bY cA
     have xl:=mb.trans bY (KP.ok (S:=fun i=>(Le ac) i\/((Le ae) i\/((Le ap) i\/(ab i\/(af i\/(ah i\/(ai i\/(aj i\/(ak i\/(am i\/(an i))))))))))) (KP.refl aa (Le ac)) (fun _ x=>Or.inl x))
     refine L3 rfl rfl rfl xa rfl xh (by rfl) (by kernel_rfl) fun Ci xm bZ=>?_
     have xn:=xe.all bZ fM.symm
     have xo:=xf.all bZ (fN.symm p1 rfl)
     have xp:=xg.all bZ (fO.symm ao rfl)
     have xq:=xd.all bZ (bg.symm ac rfl)
     have xr:=xi.all bZ (eS ar rfl)
     have xt:=xj.all bZ (eV aq rfl)
     have xu:=xk.all bZ cB
     have mm:=xl.trans bZ (KP.ok (S:=fun i=>(Le ac) i\/((Le ae) i\/((Le ap) i\/(ab i\/(af i\/(ah i\/(ai i\/(aj i\/(ak i\/(am i\/(an i))))))))))) (KP.refl aa (Le ae)) (fun _ x=>Or.inr (Or.inl x)))
     refine KL ?_
     refine KE (La (Ln (NT ?_)))
     exact⟨LM.keeps (LM.or aC.cells.cb (LM.or aD.cells.cb (LM.or aE.cells.cb (LM.or be.cells.cb (LM.or (aG.cb bQ.lt) (LM.or (aH.cb bR.lt) (LM.or (aI.cb bS.lt) (LM.or (aJ.cb bT.lt) (LM.or (aK.cb bU.lt) (LM.or (aL.cb bV.lt) aF.cells.cb)))))))))) mm,⟨az.trans mm (fun i hi x=>(x.elim (fun y=>((KP.ok (S:=fun _=>False) bA K3) i hi y)) (fun y=>(y.elim (fun y=>((KP.ok (S:=fun _=>False) bB K3) i hi y)) (fun y=>(y.elim (fun y=>((KP.ok (S:=fun _=>False) cz K3) i hi y)) (fun y=>(y.elim (fun y=>((KP.ok (S:=fun _=>False) bm K3) i hi y)) (fun y=>(y.elim (fun y=>((KP.ok (S:=fun _=>False) bn K3) i hi y)) (fun y=>(y.elim (fun y=>((KP.ok (S:=fun _=>False) bo K3) i hi y)) (fun y=>(y.elim (fun y=>((KP.ok (S:=fun _=>False) bp K3) i hi y)) (fun y=>(y.elim (fun y=>((KP.ok (S:=fun _=>False) bq K3) i hi y)) (fun y=>(y.elim (fun y=>((KP.ok (S:=fun _=>False) bt K3) i hi y)) (fun y=>(y.elim (fun y=>((KP.ok (S:=fun _=>False) bu K3) i hi y)) (fun y=>((KP.ok (S:=fun _=>False) bv K3) i hi y)))))))))))))))))))))),xn,xo,xp,xq,(by rw[hX];exact xm),xr,xt,xu,(by rw[hX];assumption)⟩⟩
    ·replace eG:=of_decide_eq_false eG
     refine Lf (KE ?_)
     have hce:(Md l K (Li W 1) el.i ((KY l K W H pre).at 1)).2.1=0:=by first|assumption|(apply Decidable.byContradiction;assumption)
     have hX:=az6 (l:=l) (k:=K) hpv hN hce
     have hol:=YO (l:=l) (k:=K) pre
     refine KF (KG V rfl rfl (MB rfl mj Tryz.underlying32 l7 rfl rr) (KG (.agg (OZ (Qg l K (Li W 1) (el.i) ⟨(((KY l K W H pre).f 1).1),(((KY l K W H pre).f 1).2),((KY l K W H pre).s)⟩)).toArray) rfl rfl (KU LD rfl xb gG rr) (SA (r:=Ux) (xs:=[.tmp 46]) (vs:=[.agg (OZ (Qg l K (Li W 1) (el.i) ⟨(((KY l K W H pre).f 1).1),(((KY l K W H pre).f 1).2),((KY l K W H pre).s)⟩)).toArray]) (l:=[Qg l K (Li W 1) (el.i) ⟨(((KY l K W H pre).f 1).1),(((KY l K W H pre).f 1).2),((KY l K W H pre).s)⟩]) rfl rfl rfl rfl rfl (Lj rfl LP) rfl (by first|decide|exact Nat.le_of_ble_eq_true rfl) (by first|decide|exact Nat.le_of_ble_eq_true rfl) fun Cj Ck Cl xv Cm gN=>?_)))
     obtain⟨mn,mo,mp,mq,mr,mu,mv,mw,mz,mA,mB,mC,mD,mE⟩:=OW gN lZ l3 l4 l5 l6 l7 gH l8 wg wh gI gJ wi wj
     obtain⟨mF,mG,xw⟩:=Nx gN l9 ma wk
     have mH:=mb.tr gN
     refine RZ (r:=Ux) rfl rfl rfl rfl rfl rfl xw xv.roa (by first|omega|(simp;done)|(simp;omega)) fun xx Cn xy mI gO aO=>?_
     obtain⟨xz,xA,xB,xC,xD,mJ,xE,xF⟩:=RC gO cX mn cY mo cZ mp c5 mq c6 mr c7 mu (me.symm) mv c9 mw
     obtain⟨xG,xH,xI,xJ,xK,xL,xM,xN⟩:=RC gO (cM.symm) mz (cO.symm) mA (mg.symm) mB (mi.symm) mC (cU.symm) mD (cW.symm) mE da mF bN mG
     have xO:=mn.all aO cX.symm
     have xP:=mo.all aO (cY.symm p1 rfl)
     have xQ:=mp.all aO (cZ.symm ao rfl)
     have xR:=mq.all aO (c5.symm ac rfl)
     have xS:=mr.all aO (c6.symm ae rfl)
     have xT:=mu.all aO (c7.symm ap rfl)
     have xU:=mv.all aO me
     have xV:=mw.all aO (c9.symm ar rfl)
     have xW:=mz.all aO cM
     have xX:=mA.all aO cO
     have xY:=mB.all aO mg
     have xZ:=mC.all aO mi
     have ya:=mD.all aO cU
     have yb:=mE.all aO cW
     have yc:=mF.all aO (da.symm aq rfl)
     have yd:=mG.all aO bN.symm
     have ye:=mH.trans aO (KP.ok (S:=fun i=>(Le ac) i\/((Le ae) i\/((Le ap) i\/(ab i\/(af i\/(ah i\/(ai i\/(aj i\/(ak i\/(am i\/(an i))))))))))) (KP.refl aa an) (fun _ x=>Or.inr (Or.inr (Or.inr (Or.inr (Or.inr (Or.inr (Or.inr (Or.inr (Or.inr (Or.inr x)))))))))))
     refine L3 rfl rfl rfl mj rfl xT mI.oneC (by kernel_rfl) fun Co yf aP=>?_
     have yg:=xO.all aP fV.symm
     have yh:=xP.all aP (fW.symm p1 rfl)
     have yi:=xQ.all aP (fX.symm ao rfl)
     have yj:=xR.all aP (fY.symm ac rfl)
     have yk:=xS.all aP (fZ.symm ae rfl)
     have yl:=xU.all aP mc
     have ym:=xV.all aP (eT ar rfl)
     have mK:=xW.all aP cL
     have mL:=xX.all aP cN
     have mM:=xY.all aP mf
     have mN:=xZ.all aP mh
     have mO:=ya.all aP cT
     have mP:=yb.all aP cV
     have yn:=yc.all aP (eW aq rfl)
     have yo:=yd.all aP cC
     have yp:=mI.all aP mJ
     have gP:=ye.trans aP (KP.ok (S:=fun i=>(Le ac) i\/((Le ae) i\/((Le ap) i\/(ab i\/(af i\/(ah i\/(ai i\/(aj i\/(ak i\/(am i\/(an i))))))))))) (KP.refl aa (Le ap)) (fun _ x=>Or.inr (Or.inr (Or.inl x))))
     refine KL ?_
     refine LA ?_
     exact⟨LM.keeps (LM.or aC.cells.cb (LM.or aD.cells.cb (LM.or aE.cells.cb (LM.or be.cells.cb (LM.or (aG.cb bQ.lt) (LM.or (aH.cb bR.lt) (LM.or (aI.cb bS.lt) (LM.or (aJ.cb bT.lt) (LM.or (aK.cb bU.lt) (LM.or (aL.cb bV.lt) aF.cells.cb)))))))))) gP,gP.mono (fun i hi x=>(x.elim (fun y=>fun e=>cA.symm i y (by rw[au.1];exact e)) (fun y=>(y.elim (fun y=>fun e=>cB.symm i y (by rw[au.1];exact e)) (fun y=>(y.elim (fun y=>fun e=>cC.symm i y (by rw[au.1];exact e)) (fun y=>(y.elim (fun y=>fun e=>bM i y (by rw[au.1];exact e)) (fun y=>(y.elim (fun y=>fun e=>co i y (by rw[au.1];exact e)) (fun y=>(y.elim (fun y=>fun e=>cq i y (by rw[au.1];exact e)) (fun y=>(y.elim (fun y=>fun e=>cr i y (by rw[au.1];exact e)) (fun y=>(y.elim (fun y=>fun e=>ct i y (by rw[au.1];exact e)) (fun y=>(y.elim (fun y=>fun e=>cu i y (by rw[au.1];exact e)) (fun y=>(y.elim (fun y=>fun e=>cv i y (by rw[au.1];exact e)) (fun y=>(fun e=>bN i y (by rw[au.1];exact e))))))))))))))))))))))),⟨xx,eA,af,ah,eB,eC,ak,am,xy,(hX.2.2.2.2),az.trans gP (fun i hi x=>(x.elim (fun y=>((KP.ok (S:=fun _=>False) bA K3) i hi y)) (fun y=>(y.elim (fun y=>((KP.ok (S:=fun _=>False) bB K3) i hi y)) (fun y=>(y.elim (fun y=>((KP.ok (S:=fun _=>False) cz K3) i hi y)) (fun y=>(y.elim (fun y=>((KP.ok (S:=fun _=>False) bm K3) i hi y)) (fun y=>(y.elim (fun y=>((KP.ok (S:=fun _=>False) bn K3) i hi y)) (fun y=>(y.elim (fun y=>((KP.ok (S:=fun _=>False) bo K3) i hi y)) (fun y=>(y.elim (fun y=>((KP.ok (S:=fun _=>False) bp K3) i hi y)) (fun y=>(y.elim (fun y=>((KP.ok (S:=fun _=>False) bq K3) i hi y)) (fun y=>(y.elim (fun y=>((KP.ok (S:=fun _=>False) bt K3) i hi y)) (fun y=>(y.elim (fun y=>((KP.ok (S:=fun _=>False) bu K3) i hi y)) (fun y=>((KP.ok (S:=fun _=>False) bv K3) i hi y)))))))))))))))))))))),yg,yh,yi,yj,yk,yf,(by rw[hX.1];exact yl),ym,(by first|(rw[hX.2.2.1];exact mK)|(rw[hX.2.2.2.1 0 (by decide)];exact mK)),(by first|(rw[hX.2.2.1];exact mL)|(rw[hX.2.2.2.1 0 (by decide)];exact mL)),(by first|(rw[hX.2.2.1];exact mM)|(rw[hX.2.2.2.1 1 (by decide)];exact mM)),(by first|(rw[hX.2.2.1];exact mN)|(rw[hX.2.2.2.1 1 (by decide)];exact mN)),(by first|(rw[hX.2.2.1];exact mO)|(rw[hX.2.2.2.1 2 (by decide)];exact mO)),(by first|(rw[hX.2.2.1];exact mP)|(rw[hX.2.2.2.1 2 (by decide)];exact mP)),yn,yo,(by rw[hX.2.1];exact yp),bm.trans az ((KP.refl aa ab).trans bj eD),bn.trans az (KP.refl aa af),bo.trans az (KP.refl aa ah),bp.trans az ((KP.refl aa ai).trans bj eE),bq.trans az ((KP.refl aa aj).trans bj eF),bt.trans az (KP.refl aa ak),bu.trans az (KP.refl aa am),bv.trans az (KP.trans (KP.refl aa an) mH gO),wm,wn,wo,ws,wt,mc,wu,wy,wz,gK,gL,wA,wB,wC,wD,xE.symm,eX,eY,dt,eZ,e6,cL,du,gi,wK.symm,wW.symm,dy,dz,dA,co,xG.symm,e7,e8,dB,e9,fa,cN,dC,wL.symm,wX.symm,dF,dG,dH,cq,xH.symm,wE,wF,wG,wH,wI,mf,wJ,gM,wM,wN,wO,wP,xI.symm,wQ,wR,wS,wT,wU,mh,wV,wY,wZ,w3,w4,xJ.symm,fj,fk,dS,fm,fo,cT,dT,gl,dU,cu,xK.symm,fp,fq,dV,ft,fu,cV,dW,dX,cv,xL.symm,xz,xA,xB,xC,xD,mJ,xF,xM,xN⟩⟩
   ·skip
    have mQ:Mu aa aw 65 [iv ((2:Nat):Int),iv (pX (Li W 2) el.i),iv (pY (Li W 2) el.i)]:=by have h_:=bz;rw[hpv] at h_;exact h_
    have hwp:=Sb (W:=W) (p:=2) hsd.1
    have hwl:=Oz (W:=W) (p:=2) hsd.2.1
    have hwh:=Oz (W:=H) (p:=2) hsd.2.2.2.2.1
    have hwn:Li W 2*Li H 2<=16*16:=Nat.mul_le_mul hwl hwh
    rw[hpv] at hei
    refine QE (γ:=(Nat->Prop)×(Nat->Prop)×(Nat->Prop)) [(9,8),(10,8),(11,8),(13,8),(14,8),(13,12),(14,12)] [some 31,some 32,some 33,some 34,some 35,some 36,some 37,some 38,some 39,some 30,some 40,some 41,some 14,none,some 15] ⟨fun w_=>Pn w_ ab aA l ((KY l K W H pre).s)/\O9 w_ ak bc di (((KY l K W H pre).f 2).1)/\O9 w_ am bd dj (((KY l K W H pre).f 2).2),fun i=>ab i\/(ak i\/(am i)),fun g_ w_=>(Pn w_ (g_.1) aA l ((RB l K (Li W 2) (el.i) ⟨(((KY l K W H pre).f 2).1),(((KY l K W H pre).f 2).2),((KY l K W H pre).s)⟩).s)/\KP aa ab (g_.1))/\(O9 w_ (g_.2.1) bc di ((RB l K (Li W 2) (el.i) ⟨(((KY l K W H pre).f 2).1),(((KY l K W H pre).f 2).2),((KY l K W H pre).s)⟩).a)/\KP aa ak (g_.2.1))/\(O9 w_ (g_.2.2) bd dj ((RB l K (Li W 2) (el.i) ⟨(((KY l K W H pre).f 2).1),(((KY l K W H pre).f 2).2),((KY l K W H pre).s)⟩).b)/\KP aa am (g_.2.2))/\KJ (g_.1) (g_.2.1)/\KJ (g_.1) (g_.2.2)/\KJ (g_.2.1) (g_.2.2),fun g_=>fun i=>(g_.1) i\/((g_.2.1) i\/((g_.2.2) i)),fun p_ w_=>Mu w_ p_ 71 (Ob 0 0 0 0 0 (fun _=>(0:Int))),fun g_ p_ w_=>Mu w_ p_ 71 (OZ (Qg l K (Li W 2) (el.i) ⟨(((KY l K W H pre).f 2).1),(((KY l K W H pre).f 2).2),((KY l K W H pre).s)⟩))⟩ (fun i=>ab i\/(ak i\/(am i))) (fun p_=>aa.heap.size<=p_) [fun g_=>pt aA 0,fun g_=>pt ao 0,fun g_=>iv K,fun g_=>pt aw 0,fun g_=>iv ((2:Nat):Int),fun g_=>pt aq 4,fun g_=>.agg #[bc,bd],fun g_=>.agg #[iv ((2:Nat):Int),iv (pX (Li W 2) el.i),iv (pY (Li W 2) el.i)],fun g_=>.tuple #[.agg (OZ (Qg l K (Li W 2) (el.i) ⟨(((KY l K W H pre).f 2).1),(((KY l K W H pre).f 2).2),((KY l K W H pre).s)⟩)).toArray,iv ((Md l K (Li W 2) (el.i) ⟨(((KY l K W H pre).f 2).1),(((KY l K W H pre).f 2).2),((KY l K W H pre).s)⟩).2.1)],fun g_=>.tuple #[.agg (OZ (Qg l K (Li W 2) (el.i) ⟨(((KY l K W H pre).f 2).1),(((KY l K W H pre).f 2).2),((KY l K W H pre).s)⟩)).toArray,iv ((Md l K (Li W 2) (el.i) ⟨(((KY l K W H pre).f 2).1),(((KY l K W H pre).f 2).2),((KY l K W H pre).s)⟩).2.1)],fun g_=>.agg (OZ (Qg l K (Li W 2) (el.i) ⟨(((KY l K W H pre).f 2).1),(((KY l K W H pre).f 2).2),((KY l K W H pre).s)⟩)).toArray,fun g_=>iv ((Md l K (Li W 2) (el.i) ⟨(((KY l K W H pre).f 2).1),(((KY l K W H pre).f 2).2),((KY l K W H pre).s)⟩).2.1),fun _=>undef,fun _=>undef,fun g_=>iv ((Md l K (Li W 2) (el.i) ⟨(((KY l K W H pre).f 2).1),(((KY l K W H pre).f 2).2),((KY l K W H pre).s)⟩).2.1)] 8 13 (some 12) (L8,L8,L8) 0 (by kernel_rfl) (by kernel_rfl) (by kernel_rfl) (by kernel_rfl) ⟨.inr (.inr fun _ _=>rfl),⟨.inr (.inr fun _ _=>rfl),⟨.inr (.inr fun _ _=>rfl),⟨.inr (.inr fun _ _=>rfl),⟨.inr (.inr fun _ _=>rfl),⟨.inr (.inr fun _ _=>rfl),⟨.inr (.inr fun _ _=>rfl),⟨.inr (.inr fun _ _=>rfl),⟨.inr (.inl rfl),⟨.inl rfl,⟨.inl rfl,⟨.inl rfl,⟨.inr (.inr fun _ _=>rfl),⟨.inl rfl,⟨.inl rfl,trivial⟩⟩⟩⟩⟩⟩⟩⟩⟩⟩⟩⟩⟩⟩⟩ ⟨⟨be,aK,aL⟩,fun w w1 S1 h k a=>by obtain⟨h0_,h1_,h2_⟩:=h;exact⟨h0_.all k (fun i z=>a i (Or.inl z)),h1_.all k (fun i z=>a i (Or.inr (Or.inl z))),h2_.all k (fun i z=>a i (Or.inr (Or.inr z)))⟩,fun w h i z=>by obtain⟨h0_,h1_,h2_⟩:=h;rcases z with z|z|z <;> first|exact h0_.live i z|exact h1_.live i z|exact h2_.live i z,fun g w w1 S1 h k a=>by obtain⟨⟨b0_,g0_⟩,⟨b1_,g1_⟩,⟨b2_,g2_⟩,a0_1_,a0_2_,a1_2_⟩:=h;exact⟨⟨b0_.all k (fun i z=>a i (Or.inl z)),g0_⟩,⟨b1_.all k (fun i z=>a i (Or.inr (Or.inl z))),g1_⟩,⟨b2_.all k (fun i z=>a i (Or.inr (Or.inr z))),g2_⟩,a0_1_,a0_2_,a1_2_⟩,fun g w h i z=>by obtain⟨⟨b0_,g0_⟩,⟨b1_,g1_⟩,⟨b2_,g2_⟩,a0_1_,a0_2_,a1_2_⟩:=h;rcases z with z|z|z <;> first|exact b0_.live i z|exact b1_.live i z|exact b2_.live i z,fun _ _ _ _ h k z=>h.all k z,fun _ _ h=>h.lt,fun _ _ _ _ _ h k z=>h.all k z,fun _ z=>z,fun _ h=>.inr h,fun p h z=>by rcases z with z|z|z <;> first|exact absurd h (Nat.not_le.2 (be.live p z))|exact absurd h (Nat.not_le.2 (aK.live p z))|exact absurd h (Nat.not_le.2 (aL.live p z))⟩ (fun _ _ _ h=>h) (fun e=>by cases e) ?_ ?_
    ·refine KV ?_ ?_
     ·refine Ll.one rfl rfl rfl rfl fun g_ p_ F_ w_ hR hout hD=>?_
      exact(MB rfl ((hout 10 rfl (by decide)).trans gq) Tryz.underlying54 (aU.all hR (fun x=>(x.elim (fun y=>((bK.symm) ar rfl y)) (fun y=>(y.elim (fun y=>((dT.symm) ar rfl y)) (fun y=>((dW.symm) ar rfl y))))))) rfl ⟨rfl,KM.refl _ _⟩)
     refine KV ?_ ?_
     ·refine Ll.one rfl rfl rfl rfl fun g_ p_ F_ w_ hR hout hD=>?_
      exact(KQ (n:=1) rfl ((hout 4 rfl (by decide)).trans gm) Tryz.underlying25 rfl (by kernel_rfl) (by decide) rfl ⟨rfl,KM.refl _ _⟩)
     refine KV ?_ ?_
     ·refine Ll.one rfl rfl rfl rfl fun g_ p_ F_ w_ hR hout hD=>?_
      have dZ:F_ 32=pt ao 0:=(hD.get 0 rfl rfl rfl).2 (by decide)
      exact(KR rfl dZ Tryz.underlying3 (aT.all hR (fun x=>(x.elim (fun y=>((bJ.symm) ao rfl y)) (fun y=>(y.elim (fun y=>((dS.symm) ao rfl y)) (fun y=>((dV.symm) ao rfl y))))))) rfl rfl ⟨rfl,KM.refl _ _⟩)
     refine KV ?_ ?_
     ·refine Ll.one rfl rfl rfl rfl fun g_ p_ F_ w_ hR hout hD=>?_
      exact(KQ (n:=1) rfl ((hout 13 rfl (by decide)).trans db) Tryz.underlying65 rfl (by kernel_rfl) (by decide) rfl ⟨rfl,KM.refl _ _⟩)
     refine KV ?_ ?_
     ·refine Ll.one rfl rfl rfl rfl fun g_ p_ F_ w_ hR hout hD=>?_
      have d8:F_ 34=pt aw 0:=(hD.get 0 rfl rfl rfl).2 (by decide)
      exact(KR rfl d8 Tryz.underlying3 (mQ.all hR (fun x=>(x.elim (fun y=>(dc aw rfl y)) (fun y=>(y.elim (fun y=>(kP aw rfl y)) (fun y=>(kQ aw rfl y))))))) rfl rfl ⟨rfl,KM.refl _ _⟩)
     refine KV ?_ ?_
     ·refine Ll.one rfl rfl rfl rfl fun g_ p_ F_ w_ hR hout hD=>?_
      have d9:F_ 35=iv ((2:Nat):Int):=(hD.get 0 rfl rfl rfl).2 (by decide)
      exact(LQ 2 (s:=2) rfl ((hout 11 rfl (by decide)).trans gr) d9 (by omega) Tryz.underlying59 (by omega) (by kernel_rfl) (by omega) ⟨rfl,KM.refl _ _⟩)
     refine KV ?_ ?_
     ·refine Ll.one rfl rfl rfl rfl fun g_ p_ F_ w_ hR hout hD=>?_
      have eb:F_ 36=pt aq 4:=(hD.get 0 rfl rfl rfl).2 (by decide)
      exact(O5 (n:=2) VD rfl eb (aV.all hR (fun x=>(x.elim (fun y=>((bL.symm) aq rfl y)) (fun y=>(y.elim (fun y=>((dU.symm) aq rfl y)) (fun y=>((dX.symm) aq rfl y))))))) (Nat.le_of_ble_eq_true rfl) rfl ⟨rfl,KM.refl _ _⟩)
     refine KV ?_ ?_
     ·refine Ll.one rfl rfl rfl rfl fun g_ p_ F_ w_ hR hout hD=>?_
      exact(KU PY rfl ((hout 13 rfl (by decide)).trans db) (mQ.all hR (fun x=>(x.elim (fun y=>(dc aw rfl y)) (fun y=>(y.elim (fun y=>(kP aw rfl y)) (fun y=>(kQ aw rfl y))))))) ⟨rfl,KM.refl _ _⟩)
     refine KV ?_ ?_
     ·refine Ll.call rfl rfl rfl rfl fun g_ p_ F_ w_ hR hout hD hP_=>?_
      have ee:F_ 31=pt aA 0:=(hD.get 0 rfl rfl rfl).2 (by decide)
      have eh:F_ 33=iv K:=(hD.get 1 rfl rfl rfl).2 (by decide)
      have ei:F_ 37 = .agg #[bc,bd]:=(hD.get 2 rfl rfl rfl).2 (by decide)
      have ek:F_ 38 = .agg #[iv ((2:Nat):Int),iv (pX (Li W 2) el.i),iv (pY (Li W 2) el.i)]:=(hD.get 3 rfl rfl rfl).2 (by decide)
      exact(LE rfl rfl rfl (fun _ _=>by kernel_rfl) (K2 _) (Lj ee (Lj eh (Lj ei (Lj ek LP)))) (WP aA l ((KY l K W H pre).s) K ((2:Nat):Int) (Li W 2) (el.i) bc bd di dj (((KY l K W H pre).f 2).1) (((KY l K W H pre).f 2).2) ab ak am _ (gt.but hR (by rintro i (h|h|h) <;> first|exact hab0 _ h|exact hab1 _ h|exact hab2 _ h|exact hab3 _ h|exact hab4 _ h|exact hab5 _ h|exact hab6 _ h|exact hab7 _ h)) (hO2.but hR (ovO (by rintro i (h|h|h) <;> first|exact hab0 _ h|exact hab1 _ h|exact hab2 _ h|exact hab3 _ h|exact hab4 _ h|exact hab5 _ h|exact hab6 _ h|exact hab7 _ h))) (by first|exact hab0|exact hab1|exact hab2|exact hab3|exact hab4|exact hab5|exact hab6|exact hab7) (by first|exact hab0|exact hab1|exact hab2|exact hab3|exact hab4|exact hab5|exact hab6|exact hab7) (by first|exact hab0|exact hab1|exact hab2|exact hab3|exact hab4|exact hab5|exact hab6|exact hab7) hwp hwl (by omega) hP_.1 hP_.2.1 hP_.2.2 dq dr gl) (fun e_ w_ h_=>by obtain⟨x0_,x1_,x2_,he_,hk_,⟨b0_,g0_⟩,⟨b1_,g1_⟩,⟨b2_,g2_⟩,a0_1_,a0_2_,a1_2_⟩:=h_;exact⟨_,he_,⟨x0_,x1_,x2_⟩,rfl,hk_,⟨⟨b0_,(KP.refl aa _).trans hR g0_⟩,⟨b1_,(KP.refl aa _).trans hR g1_⟩,⟨b2_,(KP.refl aa _).trans hR g2_⟩,a0_1_,a0_2_,a1_2_⟩,fun b hb=>by rcases hb with hb|hb|hb <;> first|exact(g0_ b hb).elim (fun z=>.inl (Or.inl z)) .inr|exact(g1_ b hb).elim (fun z=>.inl (Or.inr (Or.inl z))) .inr|exact(g2_ b hb).elim (fun z=>.inl (Or.inr (Or.inr z))) .inr⟩))
     refine KV ?_ ?_
     ·refine Ll.one rfl rfl rfl rfl fun g_ p_ F_ w_ hR hout hD=>?_
      have en:F_ 39 = .tuple #[.agg (OZ (Qg l K (Li W 2) (el.i) ⟨(((KY l K W H pre).f 2).1),(((KY l K W H pre).f 2).2),((KY l K W H pre).s)⟩)).toArray,iv ((Md l K (Li W 2) (el.i) ⟨(((KY l K W H pre).f 2).1),(((KY l K W H pre).f 2).2),((KY l K W H pre).s)⟩).2.1)]:=(hD.get 0 rfl rfl rfl).2 (by decide)
      exact(KN rfl en ⟨rfl,KM.refl _ _⟩)
     refine KV ?_ ?_
     ·refine Ll.one rfl rfl rfl rfl fun g_ p_ F_ w_ hR hout hD=>?_
      have bl:F_ 30 = .tuple #[.agg (OZ (Qg l K (Li W 2) (el.i) ⟨(((KY l K W H pre).f 2).1),(((KY l K W H pre).f 2).2),((KY l K W H pre).s)⟩)).toArray,iv ((Md l K (Li W 2) (el.i) ⟨(((KY l K W H pre).f 2).1),(((KY l K W H pre).f 2).2),((KY l K W H pre).s)⟩).2.1)]:=(hD.get 0 rfl rfl rfl).2 (by decide)
      exact(LI rfl bl rfl ⟨rfl,KM.refl _ _⟩)
     refine KV ?_ ?_
     ·refine Ll.one rfl rfl rfl rfl fun g_ p_ F_ w_ hR hout hD=>?_
      have bl:F_ 30 = .tuple #[.agg (OZ (Qg l K (Li W 2) (el.i) ⟨(((KY l K W H pre).f 2).1),(((KY l K W H pre).f 2).2),((KY l K W H pre).s)⟩)).toArray,iv ((Md l K (Li W 2) (el.i) ⟨(((KY l K W H pre).f 2).1),(((KY l K W H pre).f 2).2),((KY l K W H pre).s)⟩).2.1)]:=(hD.get 0 rfl rfl rfl).2 (by decide)
      exact(LI rfl bl rfl ⟨rfl,KM.refl _ _⟩)
     refine KV ?_ ?_
     ·refine Ll.alloc rfl rfl rfl rfl fun F_ w_ hR=>?_
      exact Pw (n:=21) (vs:=(Ob 0 0 0 0 0 (fun _=>(0:Int)))) rfl (by kernel_rfl) ⟨_,rfl,Nat.le_refl _,heap_alloc_new _ _,(KM.refl _ _).alloc _⟩
     refine KV ?_ ?_
     ·refine Ll.store rfl rfl rfl rfl fun g_ p_ F_ w_ hR hout hD hO_ hZ_ hQ_=>?_
      have cy:F_ 14=pt p_ 0:=(hD.get 0 rfl rfl rfl).1 rfl
      have eo:F_ 40 = .agg (OZ (Qg l K (Li W 2) (el.i) ⟨(((KY l K W H pre).f 2).1),(((KY l K W H pre).f 2).2),((KY l K W H pre).s)⟩)).toArray:=(hD.get 1 rfl rfl rfl).2 (by decide)
      exact P8 (us:=(OZ (Qg l K (Li W 2) (el.i) ⟨(((KY l K W H pre).f 2).1),(((KY l K W H pre).f 2).2),((KY l K W H pre).s)⟩))) LD rfl cy eo hZ_ rfl (KX rfl (KX rfl (KX rfl (KX rfl (KX rfl (KX rfl (KX rfl (KX rfl (KX rfl (KX rfl (KX rfl (KX rfl (KX rfl (KX rfl (KX rfl (KX rfl (KX rfl (KX rfl (KX rfl (KX rfl (KX rfl MC))))))))))))))))))))) fun w2_ b_ k_=>⟨rfl,k_,b_⟩
     refine KV ?_ ?_
     ·refine Ll.one rfl rfl rfl rfl fun g_ p_ F_ w_ hR hout hD=>?_
      have ep:F_ 41=iv ((Md l K (Li W 2) (el.i) ⟨(((KY l K W H pre).f 2).1),(((KY l K W H pre).f 2).2),((KY l K W H pre).s)⟩).2.1):=(hD.get 0 rfl rfl rfl).2 (by decide)
      exact(KT rfl ep ⟨rfl,KM.refl _ _⟩)
     exact Nl
    intro yq mR Cp mS fB aY Cq yr ys gQ yt mT mU fC
    obtain⟨eH,eI,eJ⟩:=yq
    have mV:=bh.all aY (fun i h x=>(x.elim (fun y=>((cF.symm) i h y)) (fun y=>(y.elim (fun y=>((fj.symm) i h y)) (fun y=>((fp.symm) i h y))))))
    have mW:=bi.all aY (fun x=>(x.elim (fun y=>((cG.symm) p1 rfl y)) (fun y=>(y.elim (fun y=>((fk.symm) p1 rfl y)) (fun y=>((fq.symm) p1 rfl y))))))
    have mX:=aT.all aY (fun x=>(x.elim (fun y=>((bJ.symm) ao rfl y)) (fun y=>(y.elim (fun y=>((dS.symm) ao rfl y)) (fun y=>((dV.symm) ao rfl y))))))
    have mY:=aC.all aY (fun x=>(x.elim (fun y=>((cH.symm) ac rfl y)) (fun y=>(y.elim (fun y=>((fm.symm) ac rfl y)) (fun y=>((ft.symm) ac rfl y))))))
    have mZ:=aD.all aY (fun x=>(x.elim (fun y=>((cI.symm) ae rfl y)) (fun y=>(y.elim (fun y=>((fo.symm) ae rfl y)) (fun y=>((fu.symm) ae rfl y))))))
    have m2:=aE.all aY (fun x=>(x.elim (fun y=>((cJ.symm) ap rfl y)) (fun y=>(y.elim (fun y=>((cT.symm) ap rfl y)) (fun y=>((cV.symm) ap rfl y))))))
    have m3:=aU.all aY (fun x=>(x.elim (fun y=>((bK.symm) ar rfl y)) (fun y=>(y.elim (fun y=>((dT.symm) ar rfl y)) (fun y=>((dW.symm) ar rfl y))))))
    have yu:=aG.all aY (fun i h x=>(x.elim (fun y=>((dl.symm) i h y)) (fun y=>(y.elim (fun y=>(dy i h y)) (fun y=>(dz i h y))))))
    have yv:=aH.all aY (fun i h x=>(x.elim (fun y=>((dm.symm) i h y)) (fun y=>(y.elim (fun y=>(dF i h y)) (fun y=>(dG i h y))))))
    have yw:=aI.all aY (fun i h x=>(x.elim (fun y=>((dn.symm) i h y)) (fun y=>(y.elim (fun y=>(dK i h y)) (fun y=>(dL i h y))))))
    have yx:=aJ.all aY (fun i h x=>(x.elim (fun y=>((dp.symm) i h y)) (fun y=>(y.elim (fun y=>(dP i h y)) (fun y=>(dQ i h y))))))
    have m4:=aV.all aY (fun x=>(x.elim (fun y=>((bL.symm) aq rfl y)) (fun y=>(y.elim (fun y=>((dU.symm) aq rfl y)) (fun y=>((dX.symm) aq rfl y))))))
    have m5:=au.all aY (fun i h x=>(x.elim (fun y=>((bM.symm) i h y)) (fun y=>(y.elim (fun y=>((cu.symm) i h y)) (fun y=>((cv.symm) i h y))))))
    have yz:=aF.all aY (fun i h x=>(x.elim (fun y=>((cK.symm) i h y)) (fun y=>(y.elim (fun y=>((cU.symm) i h y)) (fun y=>((cW.symm) i h y))))))
    have m6:=bj.trans aY (fun i hi x=>(x.elim (fun y=>((KP.ok (S:=fun i=>(Le ac) i\/((Le ae) i\/((Le ap) i\/(ab i\/(af i\/(ah i\/(ai i\/(aj i\/(ak i\/(am i\/(an i))))))))))) (KP.refl aa ab) (fun _ x=>Or.inr (Or.inr (Or.inr (Or.inl x))))) i hi y)) (fun y=>(y.elim (fun y=>((KP.ok (S:=fun i=>(Le ac) i\/((Le ae) i\/((Le ap) i\/(ab i\/(af i\/(ah i\/(ai i\/(aj i\/(ak i\/(am i\/(an i))))))))))) (KP.refl aa ak) (fun _ x=>Or.inr (Or.inr (Or.inr (Or.inr (Or.inr (Or.inr (Or.inr (Or.inr (Or.inl x)))))))))) i hi y)) (fun y=>((KP.ok (S:=fun i=>(Le ac) i\/((Le ae) i\/((Le ap) i\/(ab i\/(af i\/(ah i\/(ai i\/(aj i\/(ak i\/(am i\/(an i))))))))))) (KP.refl aa am) (fun _ x=>Or.inr (Or.inr (Or.inr (Or.inr (Or.inr (Or.inr (Or.inr (Or.inr (Or.inr (Or.inl x))))))))))) i hi y))))))
    obtain⟨⟨gR,eK⟩,⟨gS,eL⟩,⟨gT,eM⟩,gU,gV,gW⟩:=yr
    replace gR:Pn fB eH aA l ((RB l K (Li W 2) (el.i) ⟨(((KY l K W H pre).f 2).1),(((KY l K W H pre).f 2).2),((KY l K W H pre).s)⟩).s):=gR
    replace gS:O9 fB eI bc di ((RB l K (Li W 2) (el.i) ⟨(((KY l K W H pre).f 2).1),(((KY l K W H pre).f 2).2),((KY l K W H pre).s)⟩).a):=gS
    replace gT:O9 fB eJ bd dj ((RB l K (Li W 2) (el.i) ⟨(((KY l K W H pre).f 2).1),(((KY l K W H pre).f 2).2),((KY l K W H pre).s)⟩).b):=gT
    replace eK:KP aa ab eH:=eK
    replace eL:KP aa ak eI:=eL
    replace eM:KP aa am eJ:=eM
    replace gU:KJ eH eI:=gU
    replace gV:KJ eH eJ:=gV
    replace gW:KJ eI eJ:=gW
    obtain⟨yA,yB,yC,yD,yE,m7,yF,yG⟩:=RC eK cF bh cG bi bJ aT cH aC cI aD cJ aE bK aU dl aG
    obtain⟨yH,yI,yJ,yK,yL,m8⟩:=WL eK dm aH dn aI dp aJ bL aV bM au cK aF
    obtain⟨yM,yN,yO,yP,yQ,m9,yR,yT⟩:=RC eL fj bh fk bi dS aT fm aC fo aD cT aE dT aU (dy.symm) aG
    obtain⟨yU,yV,yW,yX,yY,nb⟩:=WL eL (dF.symm) aH (dK.symm) aI (dP.symm) aJ dU aV cu au cU aF
    obtain⟨yZ,y5,y6,y7,y8,nc,y9,za⟩:=RC eM fp bh fq bi dV aT ft aC fu aD cV aE dW aU (dz.symm) aG
    obtain⟨zb,zc,zd,ze,zf,nd⟩:=WL eM (dG.symm) aH (dL.symm) aI (dQ.symm) aJ dX aV cv au cW aF
    replace gQ:Mu fB mR 71 (OZ (Qg l K (Li W 2) (el.i) ⟨(((KY l K W H pre).f 2).1),(((KY l K W H pre).f 2).2),((KY l K W H pre).s)⟩)):=gQ
    obtain⟨zg,zh,nf⟩:=t3 fC 6 gn 7 go 9 gp
    have zi:mS 14=pt mR 0:=(fC 14).trans (mT 12 rfl)
    have nh:mS 15=iv ((Md l K (Li W 2) (el.i) ⟨(((KY l K W H pre).f 2).1),(((KY l K W H pre).f 2).2),((KY l K W H pre).s)⟩).2.1):=(fC 15).trans (mU 14 (by decide) (by decide))
    clear fC mU mT yt ys
    refine KE (KH (KH (KF (KS rfl rfl rfl nh (KG (.bool (decide (((Md l K (Li W 2) (el.i) ⟨(((KY l K W H pre).f 2).1),(((KY l K W H pre).f 2).2),((KY l K W H pre).s)⟩).2.1)≠0))) rfl rfl (L9 rfl rfl rfl rfl rr) (KL ?_))))))
    have zj:=K4 (.bool (decide (((Md l K (Li W 2) (el.i) ⟨(((KY l K W H pre).f 2).1),(((KY l K W H pre).f 2).2),((KY l K W H pre).s)⟩).2.1)≠0)))
    refine KE ?_
    refine K5 zj (fun eN=>?_) (fun eN=>?_)
    ·replace eN:=of_decide_eq_true eN
     refine KH ?_
     have hX:=YL (l:=l) (k:=K) hpv hN (show (Md l K (Li W 2) el.i ((KY l K W H pre).at 2)).2.1≠0 from by assumption)
     refine KF (KS rfl rfl rfl nh (L3 rfl rfl rfl zg rfl mY (by rfl) (by kernel_rfl) fun Cs zk b7=>?_))
     have zl:=mV.all b7 fJ.symm
     have zm:=mW.all b7 (fK.symm p1 rfl)
     have zn:=mX.all b7 (fL.symm ao rfl)
     have zo:=mZ.all b7 (bg ae rfl)
     have zp:=m3.all b7 (eR ar rfl)
     have zq:=m4.all b7 (eU aq rfl)
     have zr:=m5.all b7 cA
     have zt:=m6.trans b7 (KP.ok (S:=fun i=>(Le ac) i\/((Le ae) i\/((Le ap) i\/(ab i\/(af i\/(ah i\/(ai i\/(aj i\/(ak i\/(am i\/(an i))))))))))) (KP.refl aa (Le ac)) (fun _ x=>Or.inl x))
     refine L3 rfl rfl rfl zh rfl zo (by rfl) (by kernel_rfl) fun Ct zu b8=>?_
     have zv:=zl.all b8 fM.symm
     have zw:=zm.all b8 (fN.symm p1 rfl)
     have zx:=zn.all b8 (fO.symm ao rfl)
     have zy:=zk.all b8 (bg.symm ac rfl)
     have zz:=zp.all b8 (eS ar rfl)
     have zA:=zq.all b8 (eV aq rfl)
     have zB:=zr.all b8 cB
     have ni:=zt.trans b8 (KP.ok (S:=fun i=>(Le ac) i\/((Le ae) i\/((Le ap) i\/(ab i\/(af i\/(ah i\/(ai i\/(aj i\/(ak i\/(am i\/(an i))))))))))) (KP.refl aa (Le ae)) (fun _ x=>Or.inr (Or.inl x)))
     refine KL ?_
     refine KE (La (Ln (NT ?_)))
     exact⟨LM.keeps (LM.or aC.cells.cb (LM.or aD.cells.cb (LM.or aE.cells.cb (LM.or be.cells.cb (LM.or (aG.cb bQ.lt) (LM.or (aH.cb bR.lt) (LM.or (aI.cb bS.lt) (LM.or (aJ.cb bT.lt) (LM.or (aK.cb bU.lt) (LM.or (aL.cb bV.lt) aF.cells.cb)))))))))) ni,⟨az.trans ni (fun i hi x=>(x.elim (fun y=>((KP.ok (S:=fun _=>False) bA K3) i hi y)) (fun y=>(y.elim (fun y=>((KP.ok (S:=fun _=>False) bB K3) i hi y)) (fun y=>(y.elim (fun y=>((KP.ok (S:=fun _=>False) cz K3) i hi y)) (fun y=>(y.elim (fun y=>((KP.ok (S:=fun _=>False) bm K3) i hi y)) (fun y=>(y.elim (fun y=>((KP.ok (S:=fun _=>False) bn K3) i hi y)) (fun y=>(y.elim (fun y=>((KP.ok (S:=fun _=>False) bo K3) i hi y)) (fun y=>(y.elim (fun y=>((KP.ok (S:=fun _=>False) bp K3) i hi y)) (fun y=>(y.elim (fun y=>((KP.ok (S:=fun _=>False) bq K3) i hi y)) (fun y=>(y.elim (fun y=>((KP.ok (S:=fun _=>False) bt K3) i hi y)) (fun y=>(y.elim (fun y=>((KP.ok (S:=fun _=>False) bu K3) i hi y)) (fun y=>((KP.ok (S:=fun _=>False) bv K3) i hi y)))))))))))))))))))))),zv,zw,zx,zy,(by rw[hX];exact zu),zz,zA,zB,(by rw[hX];assumption)⟩⟩
    ·replace eN:=of_decide_eq_false eN
     refine Lf (KE ?_)
     have hce:(Md l K (Li W 2) el.i ((KY l K W H pre).at 2)).2.1=0:=by first|assumption|(apply Decidable.byContradiction;assumption)
     have hX:=az6 (l:=l) (k:=K) hpv hN hce
     have hol:=YO (l:=l) (k:=K) pre
     refine KF (KG V rfl rfl (MB rfl nf Tryz.underlying32 m2 rfl rr) (KG (.agg (OZ (Qg l K (Li W 2) (el.i) ⟨(((KY l K W H pre).f 2).1),(((KY l K W H pre).f 2).2),((KY l K W H pre).s)⟩)).toArray) rfl rfl (KU LD rfl zi gQ rr) (SA (r:=Ux) (xs:=[.tmp 46]) (vs:=[.agg (OZ (Qg l K (Li W 2) (el.i) ⟨(((KY l K W H pre).f 2).1),(((KY l K W H pre).f 2).2),((KY l K W H pre).s)⟩)).toArray]) (l:=[Qg l K (Li W 2) (el.i) ⟨(((KY l K W H pre).f 2).1),(((KY l K W H pre).f 2).2),((KY l K W H pre).s)⟩]) rfl rfl rfl rfl rfl (Lj rfl LP) rfl (by first|decide|exact Nat.le_of_ble_eq_true rfl) (by first|decide|exact Nat.le_of_ble_eq_true rfl) fun Cu Cv Cw zC Cx gZ=>?_)))
     obtain⟨nj,nk,nl,np,nr,nt,nu,nv,nw,nz,nA,nB,nC,nD⟩:=OW gZ mV mW mX mY mZ m2 gR m3 yu yv yw yx gS gT
     obtain⟨nE,nF,zD⟩:=Nx gZ m4 m5 yz
     have nG:=m6.tr gZ
     refine RZ (r:=Ux) rfl rfl rfl rfl rfl rfl zD zC.roa (by first|omega|(simp;done)|(simp;omega)) fun zE Cy zF nH hP aQ=>?_
     obtain⟨zG,zH,zI,zJ,zK,nI,zM,zN⟩:=RC hP cX nj cY nk cZ nl c5 np c6 nr c7 nt (m8.symm) nu c9 nv
     obtain⟨zO,zP,zQ,zR,zT,zU,zV,zW⟩:=RC hP (cM.symm) nw (cO.symm) nz (cQ.symm) nA (cS.symm) nB (nb.symm) nC (nd.symm) nD da nE bN nF
     have zX:=nj.all aQ cX.symm
     have zY:=nk.all aQ (cY.symm p1 rfl)
     have zZ:=nl.all aQ (cZ.symm ao rfl)
     have z1:=np.all aQ (c5.symm ac rfl)
     have z2:=nr.all aQ (c6.symm ae rfl)
     have z3:=nt.all aQ (c7.symm ap rfl)
     have z4:=nu.all aQ m8
     have z5:=nv.all aQ (c9.symm ar rfl)
     have z6:=nw.all aQ cM
     have z7:=nz.all aQ cO
     have z8:=nA.all aQ cQ
     have z9:=nB.all aQ cS
     have Aa:=nC.all aQ nb
     have Ab:=nD.all aQ nd
     have Ac:=nE.all aQ (da.symm aq rfl)
     have Ad:=nF.all aQ bN.symm
     have Ae:=nG.trans aQ (KP.ok (S:=fun i=>(Le ac) i\/((Le ae) i\/((Le ap) i\/(ab i\/(af i\/(ah i\/(ai i\/(aj i\/(ak i\/(am i\/(an i))))))))))) (KP.refl aa an) (fun _ x=>Or.inr (Or.inr (Or.inr (Or.inr (Or.inr (Or.inr (Or.inr (Or.inr (Or.inr (Or.inr x)))))))))))
     refine L3 rfl rfl rfl nf rfl z3 nH.oneC (by kernel_rfl) fun Cz Af aR=>?_
     have Ag:=zX.all aR fV.symm
     have Ah:=zY.all aR (fW.symm p1 rfl)
     have Ai:=zZ.all aR (fX.symm ao rfl)
     have Aj:=z1.all aR (fY.symm ac rfl)
     have Ak:=z2.all aR (fZ.symm ae rfl)
     have Al:=z4.all aR m7
     have Am:=z5.all aR (eT ar rfl)
     have nJ:=z6.all aR cL
     have nK:=z7.all aR cN
     have nL:=z8.all aR cP
     have nM:=z9.all aR cR
     have nN:=Aa.all aR m9
     have nO:=Ab.all aR nc
     have An:=Ac.all aR (eW aq rfl)
     have Ao:=Ad.all aR cC
     have Ap:=nH.all aR nI
     have hQ:=Ae.trans aR (KP.ok (S:=fun i=>(Le ac) i\/((Le ae) i\/((Le ap) i\/(ab i\/(af i\/(ah i\/(ai i\/(aj i\/(ak i\/(am i\/(an i))))))))))) (KP.refl aa (Le ap)) (fun _ x=>Or.inr (Or.inr (Or.inl x))))
     refine KL ?_
     refine LA ?_
     exact⟨LM.keeps (LM.or aC.cells.cb (LM.or aD.cells.cb (LM.or aE.cells.cb (LM.or be.cells.cb (LM.or (aG.cb bQ.lt) (LM.or (aH.cb bR.lt) (LM.or (aI.cb bS.lt) (LM.or (aJ.cb bT.lt) (LM.or (aK.cb bU.lt) (LM.or (aL.cb bV.lt) aF.cells.cb)))))))))) hQ,hQ.mono (fun i hi x=>(x.elim (fun y=>fun e=>cA.symm i y (by rw[au.1];exact e)) (fun y=>(y.elim (fun y=>fun e=>cB.symm i y (by rw[au.1];exact e)) (fun y=>(y.elim (fun y=>fun e=>cC.symm i y (by rw[au.1];exact e)) (fun y=>(y.elim (fun y=>fun e=>bM i y (by rw[au.1];exact e)) (fun y=>(y.elim (fun y=>fun e=>co i y (by rw[au.1];exact e)) (fun y=>(y.elim (fun y=>fun e=>cq i y (by rw[au.1];exact e)) (fun y=>(y.elim (fun y=>fun e=>cr i y (by rw[au.1];exact e)) (fun y=>(y.elim (fun y=>fun e=>ct i y (by rw[au.1];exact e)) (fun y=>(y.elim (fun y=>fun e=>cu i y (by rw[au.1];exact e)) (fun y=>(y.elim (fun y=>fun e=>cv i y (by rw[au.1];exact e)) (fun y=>(fun e=>bN i y (by rw[au.1];exact e))))))))))))))))))))))),⟨zE,eH,af,ah,ai,aj,eI,eJ,zF,(hX.2.2.2.2),az.trans hQ (fun i hi x=>(x.elim (fun y=>((KP.ok (S:=fun _=>False) bA K3) i hi y)) (fun y=>(y.elim (fun y=>((KP.ok (S:=fun _=>False) bB K3) i hi y)) (fun y=>(y.elim (fun y=>((KP.ok (S:=fun _=>False) cz K3) i hi y)) (fun y=>(y.elim (fun y=>((KP.ok (S:=fun _=>False) bm K3) i hi y)) (fun y=>(y.elim (fun y=>((KP.ok (S:=fun _=>False) bn K3) i hi y)) (fun y=>(y.elim (fun y=>((KP.ok (S:=fun _=>False) bo K3) i hi y)) (fun y=>(y.elim (fun y=>((KP.ok (S:=fun _=>False) bp K3) i hi y)) (fun y=>(y.elim (fun y=>((KP.ok (S:=fun _=>False) bq K3) i hi y)) (fun y=>(y.elim (fun y=>((KP.ok (S:=fun _=>False) bt K3) i hi y)) (fun y=>(y.elim (fun y=>((KP.ok (S:=fun _=>False) bu K3) i hi y)) (fun y=>((KP.ok (S:=fun _=>False) bv K3) i hi y)))))))))))))))))))))),Ag,Ah,Ai,Aj,Ak,Af,(by rw[hX.1];exact Al),Am,(by first|(rw[hX.2.2.1];exact nJ)|(rw[hX.2.2.2.1 0 (by decide)];exact nJ)),(by first|(rw[hX.2.2.1];exact nK)|(rw[hX.2.2.2.1 0 (by decide)];exact nK)),(by first|(rw[hX.2.2.1];exact nL)|(rw[hX.2.2.2.1 1 (by decide)];exact nL)),(by first|(rw[hX.2.2.1];exact nM)|(rw[hX.2.2.2.1 1 (by decide)];exact nM)),(by first|(rw[hX.2.2.1];exact nN)|(rw[hX.2.2.2.1 2 (by decide)];exact nN)),(by first|(rw[hX.2.2.1];exact nO)|(rw[hX.2.2.2.1 2 (by decide)];exact nO)),An,Ao,(by rw[hX.2.1];exact Ap),bm.trans az ((KP.refl aa ab).trans bj eK),bn.trans az (KP.refl aa af),bo.trans az (KP.refl aa ah),bp.trans az (KP.refl aa ai),bq.trans az (KP.refl aa aj),bt.trans az ((KP.refl aa ak).trans bj eL),bu.trans az ((KP.refl aa am).trans bj eM),bv.trans az (KP.trans (KP.refl aa an) nG hP),yA,yB,yC,yD,yE,m7,yF,yG,yH,yI,yJ,gU,gV,yK,yL,zM.symm,eX,eY,dt,eZ,e6,cL,du,gi,dv,dw,yT.symm,za.symm,dA,co,zO.symm,e7,e8,dB,e9,fa,cN,dC,dD,dE,yU.symm,zb.symm,dH,cq,zP.symm,fb,fc,dI,fd,fe,cP,dJ,gj,yV.symm,zc.symm,dM,cr,zQ.symm,ff,fg,dN,fh,fi,cR,dO,yW.symm,zd.symm,dR,ct,zR.symm,yM,yN,yO,yP,yQ,m9,yR,gW,yX,yY,zT.symm,yZ,y5,y6,y7,y8,nc,y9,ze,zf,zU.symm,zG,zH,zI,zJ,zK,nI,zN,zV,zW⟩⟩
  ·rintro bf xs_ Aq hZ hS_ ⟨V,ab,af,ah,ai,aj,ak,am,an,hN,Ar,CA,CB,CC,As,At,Au,Av,Aw,CD,CE,CF,CG,CH,CI,CJ,CK,nP,CL,CM,CN,CO,CP,CQ,CR,Ay,CS,CT,CU,CV,CW,CX,CY,CZ,C0,C1,C2,C3,C4,C5,C6,C7,C8,C9,Da,Db,Dc,Dd,De,Df,Dg,Dh,Di,Dj,Dk,Dl,Dm,Dn,Do,Dp,Dq,Dr,Ds,Dt,Du,Dv,Dw,Dx,Dy,Dz,DA,DB,DC,DD,DE,DF,DG,DH,DI,DJ,DK,DL,DM,DN,DO,DP,DQ,DR,DS,DT,DU,DV,DW,DX,DY,DZ,D0,D1,D2,D3,D4,D5,D6,D7,D8,D9,Ea,Eb,Ec,Ed,Ee,Ef,Eg,Eh,Ei,Ej,Ek,El,Em,En,Az,AA,Eo,Ep,Er,Es⟩ fD
   subst hS_
   have fD:UH Aq bf:=fD
   have nQ:KP w0 L8 (Le bf):=LS (Nat.le_trans dk.size hZ)
   have fE:=UH.far hZ (LR f9.lt)
   have fF:=UH.far hZ (LR ga.lt)
   have AB:=UH.apart fD nP.cells
   have nR:Oi (bf::Oa (gb 53))=Oi [bf]:=congrArg (fun z=>Oi (bf::Oa z)) kb
   refine LA (KE (KH (KH (KF (KG (pt aA 0) rfl rfl (MB rfl ke Tryz.underlying54 Aw rfl rr) (LV rfl rfl rfl rfl rfl (fun _ _=>by kernel_rfl) (Lj rfl LP) (aCj aA l ((KY l K W H (M9 W H 3)).s) ab _  Av ) fun Et nT=>?_))))))
   obtain⟨nU,nV,AC,nW,nX⟩:=OR nT As At Au nP fD
   have nY:=Ar.tr nT
   refine KG (.bool (decide ((Pe l ((KY l K W H (M9 W H 3)).s))≠0))) rfl rfl (L9 rfl rfl rfl rfl rr) (KL ?_)
   have AD:=K4 (.bool (decide ((Pe l ((KY l K W H (M9 W H 3)).s))≠0)))
   refine KE ?_
   refine K5 AD (fun eO=>?_) (fun eO=>?_)
   ·replace eO:=of_decide_eq_true eO
    refine KH ?_
    have hR:=(XN hm hN).1 (by assumption)
    refine KF (L3 rfl rfl rfl cD rfl nU (by rfl) (by kernel_rfl) fun Eu AE ia=>?_)
    have AF:=nV.all ia (bg ae rfl)
    have AG:=nX.all ia (fE bf rfl)
    refine L3 rfl rfl rfl cE rfl AF (by rfl) (by kernel_rfl) fun AH AJ ib=>?_
    have AK:=AE.all ib (bg.symm ac rfl)
    have AL:=AG.all ib (fF bf rfl)
    refine KL ?_
    refine KE (La (Ln ?_))
    have ie:=Q3 AH bf
    have AM:=AK.all ie (fE.symm ac rfl)
    have AN:=AJ.all ie (fF.symm ae rfl)
    exact Rk (ms:=[bf]) nR AL.opens rfl (Oo Tryz.underlying32 rfl rfl cD AM) (Oo Tryz.underlying33 rfl rfl cE AN) ⟨(.slice none 0 0),L8,(by first|(rw[hR,NS hmn];rfl)|(rw[hR];rfl)|(rw[N6 hm hpf hne];rfl)|rw[hR,NS hmn]|rw[hR]|rw[N6 hm hpf hne]),(((nY.trans ia (KP.ok (S:=fun _=>False) bA K3)).trans ib (KP.ok (S:=fun _=>False) bB K3)).trans ie (KP.ok (S:=fun _=>False) nQ K3)),⟨(by first|(rw[hR];exact(QR.nil Ux _))|(rw[N6 hm hpf hne];exact(QR.nil Ux _))),(KP.refl _ _)⟩⟩
   ·replace eO:=of_decide_eq_false eO
    refine Lf (KE (KH ?_))
    have hR:=(XN hm hN).2 (by first|assumption|(apply Decidable.byContradiction;assumption))
    refine KF (KG V rfl rfl (MB rfl kd Tryz.underlying32 AC rfl rr) (L3 rfl rfl rfl cD rfl nU nW.oneC (by kernel_rfl) fun Ev AO fG=>?_))
    have AP:=nV.all fG (bg ae rfl)
    have AQ:=nW.all fG Az
    have AR:=nX.all fG (fE bf rfl)
    refine L3 rfl rfl rfl cE rfl AP (by rfl) (by kernel_rfl) fun AU AV fH=>?_
    have AW:=AO.all fH (bg.symm ac rfl)
    have AX:=AQ.all fH AA
    have AY:=AR.all fH (fF bf rfl)
    refine KL ?_
    refine KE (La ?_)
    have fI:=Q3 AU bf
    have AZ:=AW.all fI (fE.symm ac rfl)
    have Ba:=AV.all fI (fF.symm ae rfl)
    have nZ:=AX.all fI AB.symm
    exact Rk (ms:=[bf]) nR AY.opens rfl (Oo Tryz.underlying32 rfl rfl cD AZ) (Oo Tryz.underlying33 rfl rfl cE Ba) ⟨V,an,(by first|(rw[hR,NS hmn];rfl)|(rw[hR];rfl)|(rw[N6 hm hpf hne];rfl)|rw[hR,NS hmn]|rw[hR]|rw[N6 hm hpf hne]),(((nY.trans fG (KP.ok (S:=fun _=>False) bA K3)).trans fH (KP.ok (S:=fun _=>False) bB K3)).trans fI (KP.ok (S:=fun _=>False) nQ K3)),⟨(by first|(rw[hR];exact nZ)|(rw[N6 hm hpf hne];exact nZ)),Ay⟩⟩
  ·rintro cw pre n5 ig hpf ⟨Bb,Ew,Ex,Ey,Bc,Bd,Ez,EA,EB,hne⟩ ii
   have ii:UH n5 cw:=ii
   have Be:KP w0 L8 (Le cw):=LS (Nat.le_trans dk.size ig)
   have Bf:=UH.far ig (LR f9.lt)
   have Bg:=UH.far ig (LR ga.lt)
   have Bh:Oi (cw::Oa (gb 53))=Oi [cw]:=congrArg (fun z=>Oi (cw::Oa z)) kb
   refine NT (Ln ?_)
   have ij:=Q3 n5 cw
   have Bi:=Bc.all ij (Bf.symm ac rfl)
   have Bj:=Bd.all ij (Bg.symm ae rfl)
   exact Rk (ms:=[cw]) Bh ii.opens rfl (Oo Tryz.underlying32 rfl rfl cD Bi) (Oo Tryz.underlying33 rfl rfl cE Bj) ⟨(.slice none 0 0),L8,(by first|(rw[hR,NS hmn];rfl)|(rw[hR];rfl)|(rw[N6 hm hpf hne];rfl)|rw[hR,NS hmn]|rw[hR]|rw[N6 hm hpf hne]),(Bb.trans ij (KP.ok (S:=fun _=>False) Be K3)),⟨(by first|(rw[hR];exact(QR.nil Ux _))|(rw[N6 hm hpf hne];exact(QR.nil Ux _))),(KP.refl _ _)⟩⟩
end Go.Proofs.YtknjpdcpmpfklaaGreatDoor
set_option maxRecDepth 100000
namespace Go.Proofs.YtknjpdcpmpfklaaGreatDoor
open Go.RowKit
def ayF(k:Int)(c:Ch):Prop:=0<=c.m/\c.m<=NR k/\Nb c.px c.py/\Nb c.nx c.ny
theorem aBV:Nb 0 0:=by decide
theorem aCs{l:List Nat}{gx gy:Int}{s:Option Nat}:Nb (RA l gx gy s) (Rv l gx gy s):=by
 by_cases h:SO l gx gy s
 ·rw[(Yn h).1,(Yn h).2.1];exact h.2
 ·rw[(ZD h).1,(ZD h).2.1];exact aBV
theorem ZG{has:Bool}{l:List Nat}{gx gy:Int}{s:Option Nat}:Nb (stV has l gx gy s).1 (stV has l gx gy s).2.1:=by
 cases has with
 | true=>rw[UJ rfl];exact aCs
 | false=>rw[SM rfl];exact aBV
theorem azD{l:List Nat}{k ax ay bx yy:Int}{st:Option Nat}(hk:0<=NR k)(h:(Sk l k ax ay bx yy st).2.1=0):ayF k (Sk l k ax ay bx yy st).1:=by
 have hw:=Ur l (NR k) hk st
 revert h
 unfold Sk
 generalize Lo (Lx l (NR k)) st=m at hw ⊢
 unfold rd1
 split
 ·intro h;cases h
 ·unfold Yh
  split
  ·unfold Vo
   split
   ·unfold Yu
    split
    ·intro _;exact⟨hw.1,hw.2,ZG,ZG⟩
    ·intro h;exact absurd h (by assumption)
   ·intro h;exact absurd h (by assumption)
  ·intro h;exact absurd h (by assumption)
theorem azy{l:List Nat}{k:Int}{w:Nat}(hk:0<=NR k):∀ (m i:Nat) (t:YX) (o:List Ch),(∀ c∈o,ayF k c)->∀ c∈(TE l k w m i t o).1,ayF k c:=by
 intro m
 induction m with
 | zero=>intro i t o h;exact h
 | succ m ih =>
  intro i t o h
  by_cases hc:(Md l k w i t).2.1=0
  ·rw[Vv hc]
   refine ih _ _ _ fun c hcm=>?_
   rcases List.mem_append.1 hcm with z|z
   ·exact h c z
   ·rw[List.mem_singleton.1 z];exact azD hk hc
  ·rw[WG hc];intro c z;cases z
theorem aAJ{l:List Nat}{k W H:Int}(hk:0<=NR k):∀ p,∀ c∈(Oe l k W H p).1,ayF k c:=by
 intro p
 induction p with
 | zero=>intro c z;cases z
 | succ p ih =>
  by_cases hc:(Oe l k W H p).2.1=0
  ·rw[Vt hc];exact azy hk _ _ _ _ ih
  ·rw[UI hc];exact ih
theorem azo{l:List Nat}{k W H:Int}(hk:0<=NR k):∀ c∈(Qp l k W H).1,ayF k c:=by
 unfold Qp
 split
 ·split
  ·exact aAJ hk 3
  ·intro c z;cases z
 ·intro c z;cases z
theorem az9{K Q D F:Int}(h:Oj K Q D F):0<=NR K:=by
 have h1:=h.1;have h2:=h.2.1
 unfold NR;split;omega;split;omega;split;omega;omega
theorem aBe{α:Type}{L:List α}{d:α}{i:Nat}(h:i<L.length):L.getD i d∈L:=by
 rw[List.getD_eq_getElem?_getD,List.getElem?_eq_getElem h];exact List.getElem_mem h
theorem aBH{W H R B K:Int}{F g h:FD}{c:Ch}{p i:Nat}(hF:QO F)(hW:F.W=W)(hH:F.H=H)(hn:¬ ((K≠0/\¬ MQ W H R B g)\/(K=2/\¬ MQ W H R B h)))(hK:0<=K/\K<=2)(hc:ayF K c)(hp:p<3)(hi:i<Li W p*Li H p) :
  Tx F g h (p:Int) (4*pX (Li W p) i) (4*pY (Li W p) i) c=0:=by
 obtain⟨m0,m1,v1,v2⟩:=hc
 have pos:∀ {f:FD},QO f->f.W=W->f.H=H->MW f (p:Int) (4*pX (Li W p) i) (4*pY (Li W p) i):=fun {f} ho e1 e2=>by
  subst e1;subst e2
  refine ZX ho hp hi ?_
  rcases Nat.eq_zero_or_pos (Li f.W p) with z|z
  ·rw[z,Nat.zero_mul] at hi;omega
  ·exact z
 have hpF:=pos hF hW hH
 have fitg:K≠0->MW g (p:Int) (4*pX (Li W p) i) (4*pY (Li W p) i):=fun hk=>by
  have hf:MQ W H R B g:=Decidable.byContradiction fun z=>hn (Or.inl ⟨hk,z⟩)
  exact pos hf.2.1 hf.2.2.1.symm hf.2.2.2.symm
 have fith:K=2->MW h (p:Int) (4*pX (Li W p) i) (4*pY (Li W p) i):=fun hk=>by
  have hf:MQ W H R B h:=Decidable.byContradiction fun z=>hn (Or.inr ⟨hk,z⟩)
  exact pos hf.2.1 hf.2.2.1.symm hf.2.2.2.symm
 have hm:NR K=3/\K=0\/NR K=4/\K=1\/NR K=6/\K=2:=by
  unfold NR
  rcases (show K=0\/K=1\/K=2 by omega) with rfl|rfl|rfl <;> decide
 have e1:K≠0->OU g (p:Int) (4*pX (Li W p) i) (4*pY (Li W p) i) c.px c.py=0:=fun hk=>(if_pos (fitg hk)).trans (O6 v1)
 have e2:K=2->OU h (p:Int) (4*pX (Li W p) i) (4*pY (Li W p) i) c.nx c.ny=0:=fun hk=>(if_pos (fith hk)).trans (O6 v2)
 by_cases h3:c.m<4
 ·rw[(azp ⟨m0,h3⟩).2]
  exact(if_pos hpF).trans (if_pos ⟨m0,by omega⟩)
 ·by_cases h4:c.m=4
  ·rw[(UE h4).2];exact e1 (by omega)
  ·by_cases h5:c.m=5
   ·rw[(UP h5).2];exact e2 (by omega)
   ·have h6:c.m=6:=by omega
    exact(ZA h6 (e1 (by omega)) (e2 (by omega))).2
def VL{W H:Int}(g h:FD)(q:Int)(L:List Ch)(F:FD)(x:RU W H):FD:=aAM g h q (x.p:Int) (Li W x.p) x.i (L.getD x.m chZ) F
def Mc(g h:FD)(q W H:Int)(L:List Ch)(pre:List (RU W H)):FD:=pre.foldl (VL g h q L) (LG W H 0)
theorem UD{g h:FD}{q W H:Int}{L:List Ch}(pre:List (RU W H))(x:RU W H):Mc g h q W H L (pre ++ [x])=aAM g h q (x.p:Int) (Li W x.p) x.i (L.getD x.m chZ) (Mc g h q W H L pre):=by
 unfold Mc;rw[List.foldl_append];rfl
theorem aDu{g h:FD}{q W H:Int}{L:List Ch}(hW:NK W)(hH:NK H):∀ (pre:List (RU W H)),QO (Mc g h q W H L pre)/\(Mc g h q W H L pre).W=W/\(Mc g h q W H L pre).H=H:=by
 have key:∀ (pre:List (RU W H)) (F:FD),(QO F/\F.W=W/\F.H=H)->QO (pre.foldl (VL g h q L) F)/\(pre.foldl (VL g h q L) F).W=W/\(pre.foldl (VL g h q L) F).H=H:=by
  intro pre
  induction pre with
  | nil=>intro F h;exact h
  | cons x r ih =>
   intro F hF
   rw[List.foldl_cons]
   refine ih _ ?_
   unfold VL aAM
   have hsd:=RX F (x.p:Int) (4*pX (Li W x.p) x.i) (4*pY (Li W x.p) x.i) (buB (Xe F g h (x.p:Int) (4*pX (Li W x.p) x.i) (4*pY (Li W x.p) x.i) (L.getD x.m chZ)) (L.getD x.m chZ).b q) 16
   rw[Nz hF.1] at hsd
   exact⟨aB6 hF.1 _ _ _ _ 16,hsd.1.trans hF.2.1,hsd.2.1.trans hF.2.2⟩
 intro pre
 exact key pre _ ⟨YN 0 (Px hW) (Px hH),by rw[Q2 0 (Px hW) (Px hH)],by rw[Q2 0 (Px hW) (Px hH)]⟩
theorem azt{g h:FD}{q W H:Int}{L:List Ch}{p:Nat}(hp:p<3)(F:FD):∀ n,n<=Li W p*Li H p->(UC W H p n).foldl (VL g h q L) F=azw g h q p (Li W p) L (N9 W H p) F n:=by
 intro n
 induction n with
 | zero=>intro _;rfl
 | succ n ih =>
  intro hn
  rw[RN hp (by omega),List.foldl_append,List.foldl_cons,List.foldl_nil,ih (by omega)]
  rfl
theorem Nf{g h:FD}{q W H:Int}{L:List Ch}:∀ p,p<=3->Mc g h q W H L (M9 W H p)=aBu g h q W H L p:=by
 intro p
 induction p with
 | zero=>intro _;rfl
 | succ p ih =>
  intro hp
  have e:Mc g h q W H L (M9 W H (p+1))=(UC W H p (Li W p*Li H p)).foldl (VL g h q L) (Mc g h q W H L (M9 W H p)):=by
   unfold Mc;rw[M9,List.foldl_append]
  rw[e,ih (by omega),azt (by omega) _ _ (Nat.le_refl _)]
  rfl
end Go.Proofs.YtknjpdcpmpfklaaGreatDoor
