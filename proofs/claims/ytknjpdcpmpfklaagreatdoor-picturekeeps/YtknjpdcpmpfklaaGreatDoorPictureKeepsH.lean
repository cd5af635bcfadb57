/- What PictureKeeps reaches of my texts, part 8. -/
import Derived.Test.YtknjpdcpmpfklaaGreatDoorPictureKeepsG
set_option maxRecDepth 100000
set_option maxHeartbeats 4000000
set_option maxRecDepth 100000
namespace Go.Proofs.YtknjpdcpmpfklaaGreatDoor
open Go.RowKit
instance {w w':World} {D:Nat}:Cr w w' (UH w D) (UH w' D):=⟨fun h k=>h.all k id⟩
theorem SA(W H R B K Q D F:Int)(v:Value)(l:List Nat)(T_b:Nat->Prop)(w0:World)(hA:NP w0)(hO:Oo w0)(hl:l.length<=1001)(h_b:L9 w0 T_b v (l)) :
  Calls Tryz.prog 10 #[.agg #[.int .i64 (W),.int .i64 (H),.int .i64 (R),.int .i64 (B)],.agg #[.int .i64 (K),.int .i64 (Q),.int .i64 (D),.int .i64 (F)],v] w0 fun e w'=>∃ (v1:Value) (T1:Nat->Prop),e = .returned (.tuple #[v1,.int .i64 ((Oz l W H R B K Q D F).2)])/\KP (fun _=>False) w0 w'/\(QX Uq w' T1 v1 ((Oz l W H R B K Q D F).1)/\KS w0 Ma T1):=by
 refine X5 (args:=[.agg #[iv W,iv H,iv R,iv B],.agg #[iv K,iv Q,iv D,iv F],v]) 53 Tryz.func10 rfl rfl (Nat.le_of_ble_eq_true rfl) ?_
 have g_b:=KS.refl w0 T_b
 refine KK (KI (Lx (vs:=[iv W,iv H,iv R,iv B]) rfl rfl rfl rfl fun p1 w2 B4 g5 k3=>?_))
 have B8:=h_b.all k3 KM.none
 refine Lx (vs:=[iv K,iv Q,iv D,iv F]) rfl rfl rfl rfl fun ao Bt ik cy io=>?_
 obtain⟨ip,iq⟩:=NL io B8 B4
 have ir:=((KP.refl (fun _=>False) w0).tr k3).tr io
 refine Ow (v:=.slice none 0 0) rfl rfl rfl (by kernel_rfl) rfl fun ac Bu iu iw iy=>?_
 have bA:=KS.new ir iw
 obtain⟨fJ,fK,fL⟩:=Tn iw ip iq ik
 obtain⟨iz,iA,iB⟩:=ND iy ip iq ik
 have iC:=ir.tr iy
 refine Ow (v:=iv 0) rfl rfl rfl (by kernel_rfl) rfl fun ae Bv oc iD iE=>?_
 have bB:=KS.new iC iD
 obtain⟨fM,fN,fO,bg⟩:=VK iD iz iA iB iu
 obtain⟨od,iF,iG,oe⟩:=OW iE iz iA iB iu
 refine KO ?_
 have og:=La (.agg #[iv W,iv H,iv R,iv B])
 have oh:=La (.agg #[iv K,iv Q,iv D,iv F])
 have iH:=La (v)
 have iI:=La (undef)
 have eP:=La (pt p1 0)
 have iJ:=La (pt ao 0)
 have fP:=La (pt ac 0)
 have fQ:=La (pt ae 0)
 refine KH (KK (KK (KI (KJ (.agg #[iv W,iv H,iv R,iv B]) rfl rfl (KU Mw rfl eP iF rr) (KJ (.agg #[iv K,iv Q,iv D,iv F]) rfl rfl (KU Qa rfl iJ iG rr) (LY rfl rfl rfl rfl rfl (fun _ _=>by kernel_rfl) (Lm rfl (Lm rfl LS)) (XI W H R B K Q D F  _   ) fun Bw iK=>?_))))))
 obtain⟨iL,iM,iN,fR,fS⟩:=OJ iK od iF iG oe oc
 have fT:=(iC.tr iE).tr iK
 refine KJ (iv (Q4 W H R B K Q D F)) rfl rfl (KX rfl rfl rr) (KO ?_)
 have fU:=La (iv (Q4 W H R B K Q D F))
 refine KH (KK (KI (KW rfl rfl rfl fU (KJ (.bool (decide ((Q4 W H R B K Q D F)≠0))) rfl rfl (Mc rfl rfl rfl rfl rr) (KO ?_)))))
 have iO:=La (.bool (decide ((Q4 W H R B K Q D F)≠0)))
 refine KH ?_
 refine Lc iO (fun dd=>?_) (fun dd=>?_)
 ·replace dd:=of_decide_eq_true dd
  refine KK ?_
  have hmn:=Zu (W:=W) (H:=H) (R:=R) (B:=B) (K:=K) (Q:=Q) (D:=D) (F:=F) (by assumption)
  have hR:=aBi (l:=l) hmn
  refine KI (KW rfl rfl rfl fU (L6 rfl rfl rfl fP rfl fR (by rfl) (by kernel_rfl) fun Bx oi iP=>?_))
  have oj:=fS.all iP (bg ae rfl)
  refine L6 rfl rfl rfl fQ rfl oj (by rfl) (by kernel_rfl) fun Bz ol iQ=>?_
  have om:=oi.all iQ (bg.symm ac rfl)
  refine KO ?_
  refine KH (Ld (Lq ?_))
  exact Rv (ms:=[]) (Eq.trans iI (rfl:undef=Oi [])) trivial rfl (Ov Tryz.underlying32 rfl rfl fP om) (Ov Tryz.underlying33 rfl rfl fQ ol) ⟨(.slice none 0 0),Ma,(by first|(rw[hR,NU hmn];rfl)|(rw[hR];rfl)|(rw[N7 hm hpf hne];rfl)|rw[hR,NU hmn]|rw[hR]|rw[N7 hm hpf hne]),((fT.trans iP (KS.ok (S:=fun _=>False) bA K6)).trans iQ (KS.ok (S:=fun _=>False) bB K6)),⟨(by first|(rw[hR];exact(QX.nil Uq _))|(rw[N7 hm hpf hne];exact(QX.nil Uq _))),(KS.refl _ _)⟩⟩
 ·replace dd:=of_decide_eq_false dd
  refine Li (KH (KK ?_))
  have hm:PH W H R B K Q D F:=Zo (by first|assumption|(apply Decidable.byContradiction;assumption))
  have hsq:=hm.1
  have hsd:=RV hm.1
  refine KI (Ow (v:=.slice none 0 0) rfl rfl rfl (by kernel_rfl) rfl fun ap iR iS iT iU=>?_)
  have cz:=KS.new fT iT
  obtain⟨fV,fW,fX,fY,fZ⟩:=ayR iT iL iM iN fR fS
  obtain⟨f5,iV,iW,iX,iY⟩:=OJ iU iL iM iN fR fS
  have iZ:=fT.tr iU
  refine KO ?_
  have oo:=La (pt ap 0)
  refine KH (KK (KI (KW rfl rfl rfl iH (Ly (R:=fun v_ w_=>∃ (aA:Nat) (eQ:Nat->Prop),pt aA 0=v_/\KP (fun _=>False) iR w_/\(Ps w_ eQ aA l (some 0)/\KS iR Ma eQ)) rfl rfl (LE rfl rfl rfl (fun _ _=>by kernel_rfl) (K4 _) (Lm rfl LS) (aDq v l T_b _ (by omega) f5 ) (fun e_ w_ h_=>by obtain⟨v148_,T151_,he_,hr_⟩:=h_;exact⟨_,he_,v148_,T151_,rfl,hr_⟩)) ?_))))
  rintro _ BA ⟨aA,eQ,rfl,ja,⟨jb,jc⟩⟩
  obtain⟨jd,je,jf,jg,jh,ji⟩:=Qz ja f5 iV iW iX iY iS
  have jj:=iZ.tr ja
  obtain⟨oq,ot,ou,ov,ow,ox⟩:=Vk jc f5 iV iW iX iY iS
  refine Ow (v:=.pointer none) rfl rfl rfl (by kernel_rfl) rfl fun ar BB oy jk jl=>?_
  obtain⟨oz,oA,oB,eR,eS,eT,jm⟩:=aDK jk jd je jf jg jh ji jb
  obtain⟨oC,oD,oE,oF,oG,oH,oI⟩:=SO jl jd je jf jg jh ji jb
  refine L6 rfl rfl rfl rfl rfl oy (by rfl) (by kernel_rfl) fun b9 cd bO=>?_
  have ce:=oC.all bO oz.symm
  have bP:=oD.all bO (oA.symm p1 rfl)
  have cf:=oE.all bO (oB.symm ao rfl)
  have cg:=oF.all bO (eR.symm ac rfl)
  have ci:=oG.all bO (eS.symm ae rfl)
  have cj:=oH.all bO (eT.symm ap rfl)
  have cm:=oI.all bO jm.symm
  have cn:=(jj.tr jl).trans bO (KS.ok (S:=fun _=>False) (KS.new jj jk) K6)
  refine KO ?_
  have oJ:=La (pt ar 0)
  refine KH (KK (KI (KJ (.agg #[iv W,iv H,iv R,iv B]) rfl rfl (KU Mw rfl eP bP rr) (Ly (R:=fun v_ w_=>∃ (a8:Value) (bC:Nat->Prop) (a9:Value) (bD:Nat->Prop) (ba:Value) (bE:Nat->Prop) (bb:Value) (bF:Nat->Prop) (bc:Value) (bG:Nat->Prop) (bd:Value) (bH:Nat->Prop),.agg #[a8,a9,ba,bb,bc,bd]=v_/\KP (fun _=>False) b9 w_/\(PJ w_ bC a8 (some (Qy ((Lk W 0:Nat):Int) ((Lk H 0:Nat):Int)))/\KS b9 Ma bC)/\(PJ w_ bD a9 (some (Qy ((Lk W 0:Nat):Int) ((Lk H 0:Nat):Int)))/\KS b9 Ma bD)/\(PJ w_ bE ba (some (Qy ((Lk W 1:Nat):Int) ((Lk H 1:Nat):Int)))/\KS b9 Ma bE)/\(PJ w_ bF bb (some (Qy ((Lk W 1:Nat):Int) ((Lk H 1:Nat):Int)))/\KS b9 Ma bF)/\(PJ w_ bG bc (some (Qy ((Lk W 2:Nat):Int) ((Lk H 2:Nat):Int)))/\KS b9 Ma bG)/\(PJ w_ bH bd (some (Qy ((Lk W 2:Nat):Int) ((Lk H 2:Nat):Int)))/\KS b9 Ma bH)/\KM bC bD/\KM bC bE/\KM bC bF/\KM bC bG/\KM bC bH/\KM bD bE/\KM bD bF/\KM bD bG/\KM bD bH/\KM bE bF/\KM bE bG/\KM bE bH/\KM bF bG/\KM bF bH/\KM bG bH) rfl rfl (LE rfl rfl rfl (fun _ _=>by kernel_rfl) (K4 _) (Lm rfl LS) (az1 W H R B  _ (by assumption)  ) (fun e_ w_ h_=>by obtain⟨v216_,T224_,v217_,T225_,v218_,T226_,v219_,T227_,v220_,T228_,v221_,T229_,he_,hr_⟩:=h_;exact⟨_,he_,v216_,T224_,v217_,T225_,v218_,T226_,v219_,T227_,v220_,T228_,v221_,T229_,rfl,hr_⟩)) ?_))))
  rintro _ BC ⟨a8,bC,a9,bD,ba,bE,bb,bF,bc,bG,bd,bH,rfl,jn,⟨jo,jp⟩,⟨jq,jr⟩,⟨js,jt⟩,⟨ju,jv⟩,⟨jw,jx⟩,⟨jy,jz⟩,oK,oL,oM,oN,oO,oP,oQ,oR,oS,oT,oU,oV,oW,oX,oY⟩
  obtain⟨jA,jB,jC,jD,jE,jF,jG,jH⟩:=Xj jn ce bP cf cg ci cj cm cd
  have jI:=cn.tr jn
  obtain⟨oZ,o2,o3,o4,o5,o6,o7,o8⟩:=W9 jp ce bP cf cg ci cj cm cd
  obtain⟨o9,pa,pb,pc,pd,pe,pf,pg⟩:=W9 jr ce bP cf cg ci cj cm cd
  obtain⟨pi,pj,pk,pm,po,pp,pq,pu⟩:=W9 jt ce bP cf cg ci cj cm cd
  obtain⟨pz,pA,pB,pC,pD,pE,pF,pG⟩:=W9 jv ce bP cf cg ci cj cm cd
  obtain⟨pH,pI,pJ,pK,pL,pM,pN,pO⟩:=W9 jx ce bP cf cg ci cj cm cd
  obtain⟨pP,pQ,pR,pS,pT,pU,pV,pW⟩:=W9 jz ce bP cf cg ci cj cm cd
  refine LI (n:=6) (vs:=[.pointer none,.pointer none,.pointer none,.pointer none,.pointer none,.pointer none]) rfl rfl rfl (by kernel_rfl) fun aq BD pZ jJ jK=>?_
  obtain⟨qa,qb,qc,eU,eV,eW,jL,qd,jM,jN,jO,jP,jQ,jR⟩:=QD jJ jA jB jC jD jE jF jG jH jo jq js ju jw jy
  obtain⟨qe,qf,qg,qh,qi,qj,qk,ql,jS,jT,jU,jV,jW,jX⟩:=OB jK jA jB jC jD jE jF jG jH jo jq js ju jw jy
  refine Ll (us:=[a8,a9,ba,bb,bc,bd]) Tb rfl rfl rfl rfl rfl pZ rfl (K2 jS.one (K2 jT.one (K2 jU.one (K2 jV.one (K2 jW.one (K2 jX.one MI)))))) fun jY qm aS=>?_
  have qn:=qe.all aS qa.symm
  have jZ:=qf.all aS (qb.symm p1 rfl)
  have qo:=qg.all aS (qc.symm ao rfl)
  have j0:=qh.all aS (eU.symm ac rfl)
  have j1:=qi.all aS (eV.symm ae rfl)
  have j2:=qj.all aS (eW.symm ap rfl)
  have j3:=qk.all aS jL.symm
  have qp:=ql.all aS (qd.symm ar rfl)
  have qq:=jS.all aS jM.symm
  have qr:=jT.all aS jN.symm
  have qs:=jU.all aS jO.symm
  have qt:=jV.all aS jP.symm
  have qu:=jW.all aS jQ.symm
  have qv:=jX.all aS jR.symm
  refine KO ?_
  have qw:=La (pt aq 0)
  refine KH (KK (KK ?_))
  obtain⟨de,j4⟩:=TJ qq
  obtain⟨df,j5⟩:=TJ qr
  obtain⟨dg,j6⟩:=TJ qs
  obtain⟨dh,j7⟩:=TJ qt
  obtain⟨di,j8⟩:=TJ qu
  obtain⟨dj,j9⟩:=TJ qv
  refine KI (KJ (.agg #[iv W,iv H,iv R,iv B]) rfl rfl (KU Mw rfl eP jZ rr) (Ly (R:=fun v_ w_=>∃ (bI:Nat) (aZ:Nat->Prop),.func (.func 60) #[] #[pt bI 0]=v_/\KP (fun _=>False) jY w_/\(Wb w_ aZ bI W H R B/\KS jY Ma aZ)) rfl rfl (LE rfl rfl rfl (fun _ _=>by kernel_rfl) (K4 _) (Lm rfl LS) (We W H R B  _   ) (fun e_ w_ h_=>by obtain⟨v400_,T403_,he_,hr_⟩:=h_;exact⟨_,he_,v400_,T403_,rfl,hr_⟩)) ?_))
  rintro _ BE ⟨bI,aZ,rfl,f6,⟨f7,qx⟩⟩
  obtain⟨qy,qz,qA,f8,f9,qB,qC,qD,bQ,bR,bS,bT,bU,bV⟩:=OB f6 qn jZ qo j0 j1 j2 j3 qp j4 j5 j6 j7 j8 j9
  have qE:=qm.all f6 id
  have dk:=((jI.tr jK).trans aS (KS.ok (S:=fun _=>False) (KS.new jI jJ) K6)).tr f6
  obtain⟨cA,cB,cC,qF,qG,qH,qI,qJ,qK,qL⟩:=aDn qx j0 j1 j2 j3 j4 j5 j6 j7 j8 j9
  refine RK fun ga gb=>?_
  obtain⟨qM,qN,qO,ka,qP,qQ,cD,cE,qR,qS,kb,kd,qT⟩:=t13 gb 0 og 1 oh 2 iH 53 iI 3 eP 4 iJ 6 fP 7 fQ 8 fU 20 iO 9 oo 10 oJ 11 qw
  have ke:ga 27 = .func (.func 60) #[] #[pt bI 0]:=(gb 27).trans rfl
  clear gb
  refine KH (Lo ?_)
  refine V8 (α:=R4 W H) (encs:=fun el=>[iv ((el.m:Nat):Int),.agg #[iv ((el.p:Nat):Int),iv (pX (Lk W el.p) el.i),iv (pY (Lk W el.p) el.i)]]) (U:=fun i=>i≠bI) (S:=fun xs=>xs=Nc W H 3) (Sp:=fun xs=>xs <+: Nc W H 3) (M:=1000) ke (fun _ _=>by kernel_rfl) (Zh W H R B bI _ hm.1 f7.2) (fun i hi=>Nat.ne_of_gt (Nat.lt_of_lt_of_le f7.2.lt hi)) [28,29] rfl (fun _=>rfl) rfl (fun pre ww=>∃ (V:Value),∃ (ab:Nat->Prop),∃ (af:Nat->Prop),∃ (ah:Nat->Prop),∃ (ai:Nat->Prop),∃ (aj:Nat->Prop),∃ (ak:Nat->Prop),∃ (am:Nat->Prop),∃ (an:Nat->Prop),((K5 l K W H pre).e=0)/\KP (fun _=>False) w0 ww/\L9 ww T_b v l/\My ww p1 23 [iv W,iv H,iv R,iv B]/\My ww ao 25 [iv K,iv Q,iv D,iv F]/\PM ww ac 32 (.slice none 0 0)/\PM ww ae 33 (iv 0)/\PM ww ap 32 V/\Ps ww ab aA l ((K5 l K W H pre).s)/\PM ww ar 54 (pt aA 0)/\Pe ww af a8 de (((K5 l K W H pre).f 0).1)/\Pe ww ah a9 df (((K5 l K W H pre).f 0).2)/\Pe ww ai ba dg (((K5 l K W H pre).f 1).1)/\Pe ww aj bb dh (((K5 l K W H pre).f 1).2)/\Pe ww ak bc di (((K5 l K W H pre).f 2).1)/\Pe ww am bd dj (((K5 l K W H pre).f 2).2)/\My ww aq 59 [a8,a9,ba,bb,bc,bd]/\Wb ww aZ bI W H R B/\QX Uq ww an V ((K5 l K W H pre).o)/\KS w0 Ma ab/\KS w0 Ma af/\KS w0 Ma ah/\KS w0 Ma ai/\KS w0 Ma aj/\KS w0 Ma ak/\KS w0 Ma am/\KS w0 Ma an/\KM ab T_b/\KM ab (Lh p1)/\KM ab (Lh ao)/\KM ab (Lh ac)/\KM ab (Lh ae)/\KM ab (Lh ap)/\KM ab (Lh ar)/\KM ab af/\KM ab ah/\KM ab ai/\KM ab aj/\KM ab ak/\KM ab am/\KM ab (Lh aq)/\KM ab aZ/\KM ab an/\KM af T_b/\KM af (Lh p1)/\KM af (Lh ao)/\KM af (Lh ac)/\KM af (Lh ae)/\KM af (Lh ap)/\KM af (Lh ar)/\KM af ah/\KM af ai/\KM af aj/\KM af ak/\KM af am/\KM af (Lh aq)/\KM af aZ/\KM af an/\KM ah T_b/\KM ah (Lh p1)/\KM ah (Lh ao)/\KM ah (Lh ac)/\KM ah (Lh ae)/\KM ah (Lh ap)/\KM ah (Lh ar)/\KM ah ai/\KM ah aj/\KM ah ak/\KM ah am/\KM ah (Lh aq)/\KM ah aZ/\KM ah an/\KM ai T_b/\KM ai (Lh p1)/\KM ai (Lh ao)/\KM ai (Lh ac)/\KM ai (Lh ae)/\KM ai (Lh ap)/\KM ai (Lh ar)/\KM ai aj/\KM ai ak/\KM ai am/\KM ai (Lh aq)/\KM ai aZ/\KM ai an/\KM aj T_b/\KM aj (Lh p1)/\KM aj (Lh ao)/\KM aj (Lh ac)/\KM aj (Lh ae)/\KM aj (Lh ap)/\KM aj (Lh ar)/\KM aj ak/\KM aj am/\KM aj (Lh aq)/\KM aj aZ/\KM aj an/\KM ak T_b/\KM ak (Lh p1)/\KM ak (Lh ao)/\KM ak (Lh ac)/\KM ak (Lh ae)/\KM ak (Lh ap)/\KM ak (Lh ar)/\KM ak am/\KM ak (Lh aq)/\KM ak aZ/\KM ak an/\KM am T_b/\KM am (Lh p1)/\KM am (Lh ao)/\KM am (Lh ac)/\KM am (Lh ae)/\KM am (Lh ap)/\KM am (Lh ar)/\KM am (Lh aq)/\KM am aZ/\KM am an/\KM an T_b/\KM an (Lh p1)/\KM an (Lh ao)/\KM an (Lh ac)/\KM an (Lh ae)/\KM an (Lh ap)/\KM an (Lh ar)/\KM an (Lh aq)/\KM an aZ) (fun pre ww=>KP (fun _=>False) w0 ww/\L9 ww T_b v l/\My ww p1 23 [iv W,iv H,iv R,iv B]/\My ww ao 25 [iv K,iv Q,iv D,iv F]/\PM ww ac 32 (.slice none 0 0)/\PM ww ae 33 (iv ((K5 l K W H pre).e))/\PM ww ar 54 (pt aA 0)/\My ww aq 59 [a8,a9,ba,bb,bc,bd]/\Wb ww aZ bI W H R B/\((K5 l K W H pre).e≠0)) ?_ ?_ ⟨(.slice none 0 0),eQ,bC,bD,bE,bF,bG,bH,Ma,rfl,dk,qy,qz,qA,f8,f9,qB,qC,qD,bQ,bR,bS,bT,bU,bV,qE,f7,(QX.nil Uq _),(KS.new iZ jc),(KS.new cn jp),(KS.new cn jr),(KS.new cn jt),(KS.new cn jv),(KS.new cn jx),(KS.new cn jz),(KS.refl _ _),oq,ot,ou,ov,ow,ox,jm.symm,o7.symm,pf.symm,pq.symm,pF.symm,pN.symm,pV.symm,jL.symm,qF.symm,KM.none,oZ,o2,o3,o4,o5,o6,o8,oK,oL,oM,oN,oO,jM.symm,qG.symm,KM.none,o9,pa,pb,pc,pd,pe,pg,oP,oQ,oR,oS,jN.symm,qH.symm,KM.none,pi,pj,pk,pm,po,pp,pu,oT,oU,oV,jO.symm,qI.symm,KM.none,pz,pA,pB,pC,pD,pE,pG,oW,oX,jP.symm,qJ.symm,KM.none,pH,pI,pJ,pK,pL,pM,pO,oY,jQ.symm,qK.symm,KM.none,pP,pQ,pR,pS,pT,pU,pW,jR.symm,qL.symm,KM.none,KM.none.symm,KM.none.symm,KM.none.symm,KM.none.symm,KM.none.symm,KM.none.symm,KM.none.symm,KM.none.symm,KM.none.symm⟩ (fun el FF WW=>∃ (pa0_:Nat),FF 0 = .agg #[iv W,iv H,iv R,iv B]/\FF 1 = .agg #[iv K,iv Q,iv D,iv F]/\FF 2=v/\FF 3=pt p1 0/\FF 4=pt ao 0/\FF 6=pt ac 0/\FF 7=pt ae 0/\FF 8=iv (Q4 W H R B K Q D F)/\FF 9=pt ap 0/\FF 10=pt ar 0/\FF 11=pt aq 0/\FF 13=pt pa0_ 0/\FF 20 = .bool (decide ((Q4 W H R B K Q D F)≠0))/\FF 27 = .func (.func 60) #[] #[pt bI 0]/\FF 29 = .agg #[iv ((el.p:Nat):Int),iv (pX (Lk W el.p) el.i),iv (pY (Lk W el.p) el.i)]/\FF 53=undef/\My WW pa0_ 65 [iv ((el.p:Nat):Int),iv (pX (Lk W el.p) el.i),iv (pY (Lk W el.p) el.i)]/\KM (Lh pa0_) T_b/\KM (Lh pa0_) (Lh p1)/\KM (Lh pa0_) (Lh ao)/\KM (Lh pa0_) (Lh ac)/\KM (Lh pa0_) (Lh ae)/\KM (Lh pa0_) (Lh ap)/\KM (Lh pa0_) (Lh ar)/\KM (Lh pa0_) (Lh aq)/\KM (Lh pa0_) aZ) ?_ ?_ ?_ ?_ ?_
  ·rintro pre A_ B_ row_ ⟨V,ab,af,ah,ai,aj,ak,am,an,i0_,K_,B0_,B1_,B2_,B3_,B4_,B5_,B6_,B7_,B8_,B9_,B10_,B11_,B12_,B13_,B14_,B15_,B16_,g0_,g1_,g2_,g3_,g4_,g5_,g6_,g7_,a0_,a1_,a2_,a3_,a4_,a5_,a6_,a7_,a8_,a9_,a10_,a11_,a12_,a13_,a14_,a15_,a16_,a17_,a18_,a19_,a20_,a21_,a22_,a23_,a24_,a25_,a26_,a27_,a28_,a29_,a30_,a31_,a32_,a33_,a34_,a35_,a36_,a37_,a38_,a39_,a40_,a41_,a42_,a43_,a44_,a45_,a46_,a47_,a48_,a49_,a50_,a51_,a52_,a53_,a54_,a55_,a56_,a57_,a58_,a59_,a60_,a61_,a62_,a63_,a64_,a65_,a66_,a67_,a68_,a69_,a70_,a71_,a72_,a73_,a74_,a75_,a76_,a77_,a78_,a79_,a80_,a81_,a82_,a83_,a84_,a85_,a86_,a87_,a88_,a89_,a90_,a91_,a92_,a93_,a94_,a95_,a96_,a97_,a98_,a99_⟩ hg_ hr_
   exact⟨V,ab,af,ah,ai,aj,ak,am,an,i0_,K_.row hg_ hr_ dk.size,B0_.row hg_ hr_,B1_.row hg_ hr_,B2_.row hg_ hr_,B3_.row hg_ hr_,B4_.row hg_ hr_,B5_.row hg_ hr_,B6_.row hg_ hr_,B7_.row hg_ hr_,B8_.row hg_ hr_ bQ.lt,B9_.row hg_ hr_ bR.lt,B10_.row hg_ hr_ bS.lt,B11_.row hg_ hr_ bT.lt,B12_.row hg_ hr_ bU.lt,B13_.row hg_ hr_ bV.lt,B14_.row hg_ hr_,B15_.row hg_ hr_,B16_.row hg_ hr_,g0_,g1_,g2_,g3_,g4_,g5_,g6_,g7_,a0_,a1_,a2_,a3_,a4_,a5_,a6_,a7_,a8_,a9_,a10_,a11_,a12_,a13_,a14_,a15_,a16_,a17_,a18_,a19_,a20_,a21_,a22_,a23_,a24_,a25_,a26_,a27_,a28_,a29_,a30_,a31_,a32_,a33_,a34_,a35_,a36_,a37_,a38_,a39_,a40_,a41_,a42_,a43_,a44_,a45_,a46_,a47_,a48_,a49_,a50_,a51_,a52_,a53_,a54_,a55_,a56_,a57_,a58_,a59_,a60_,a61_,a62_,a63_,a64_,a65_,a66_,a67_,a68_,a69_,a70_,a71_,a72_,a73_,a74_,a75_,a76_,a77_,a78_,a79_,a80_,a81_,a82_,a83_,a84_,a85_,a86_,a87_,a88_,a89_,a90_,a91_,a92_,a93_,a94_,a95_,a96_,a97_,a98_,a99_⟩
  ·rintro pre A_ B_ row_ ⟨K_,B0_,B1_,B2_,B3_,B4_,B5_,B6_,B7_,i0_⟩ hg_ hr_
   exact⟨K_.row hg_ hr_ dk.size,B0_.row hg_ hr_,B1_.row hg_ hr_,B2_.row hg_ hr_,B3_.row hg_ hr_,B4_.row hg_ hr_,B5_.row hg_ hr_,B6_.row hg_ hr_,B7_.row hg_ hr_,i0_⟩
  ·rintro el FF _ A_ B_ row_ ⟨p0_,s0_,s1_,s2_,s3_,s4_,s5_,s6_,s7_,s8_,s9_,s10_,s11_,s12_,s13_,s14_,s15_,B0_,a0_,a1_,a2_,a3_,a4_,a5_,a6_,a7_,a8_⟩ hg_ hr_
   exact⟨p0_,s0_,s1_,s2_,s3_,s4_,s5_,s6_,s7_,s8_,s9_,s10_,s11_,s12_,s13_,s14_,s15_,B0_.row hg_ hr_,a0_,a1_,a2_,a3_,a4_,a5_,a6_,a7_,a8_⟩
  ·rintro l_ pre el W_ ⟨V,ab,af,ah,ai,aj,ak,am,an,hN,qU,kf,kg,ki,kj,kn,ko,kp,kq,kr,ks,kt,ku,kv,kw,kx,ky,kz,qV,qW,qX,qY,qZ,q7,q8,q9,ra,rb,rc,re,rf,rg,rh,ri,rj,rk,rl,rm,rn,rp,rq,rt,ru,rv,rx,ry,rz,rA,rB,rC,rD,rE,rF,rG,rH,rI,rJ,rK,rL,rM,rN,rO,rP,rQ,rR,rS,rT,rU,rV,rW,rX,rY,rZ,r7,r8,r9,sb,sc,sd,se,sf,sg,si,sj,sk,sl,sm,sn,so,sp,sq,ss,su,sv,sw,sx,sy,sz,sA,sB,sC,sD,sE,sF,sG,sH,sI,sJ,sK,sL,sM,sN,sO,sP,sQ,sR,sS,sT,sU,sV,sW,sX,sY,sZ,ta,tb⟩
   refine KI (LI (n:=3) (vs:=[iv 0,iv 0,iv 0]) rfl rfl rfl (by kernel_rfl) fun kA BF tc gc gd=>?_)
   obtain⟨kB,kC,kD,kE,kF,kG,td,kH,te,tf,tg,th,ti,tj⟩:=QD gc kf kg ki kj kn ko kp kq kr ks kt ku kv kw
   obtain⟨kI,kJ,tk⟩:=Tn gc kx ky kz
   obtain⟨tl,tm,tn,tp,tq,tt,tu,tv,tw,tx,tz,tA,tB,tC⟩:=OB gd kf kg ki kj kn ko kp kq kr ks kt ku kv kw
   obtain⟨tD,tE,tF⟩:=ND gd kx ky kz
   refine Ll (us:=[iv ((el.p:Nat):Int),iv (pX (Lk W el.p) el.i),iv (pY (Lk W el.p) el.i)]) P7 rfl rfl rfl rfl rfl tc rfl (K2 rfl (K2 rfl (K2 rfl MI))) fun BG tG aB=>?_
   have tH:=tl.all aB kB.symm
   have tI:=tm.all aB (kC.symm p1 rfl)
   have tJ:=tn.all aB (kD.symm ao rfl)
   have tK:=tp.all aB (kE.symm ac rfl)
   have tL:=tq.all aB (kF.symm ae rfl)
   have tM:=tt.all aB (kG.symm ap rfl)
   have tN:=tu.all aB td.symm
   have tO:=tv.all aB (kH.symm ar rfl)
   have tP:=tw.all aB te.symm
   have tQ:=tx.all aB tf.symm
   have tS:=tz.all aB tg.symm
   have tT:=tA.all aB th.symm
   have tU:=tB.all aB ti.symm
   have tV:=tC.all aB tj.symm
   have tW:=tD.all aB (kI.symm aq rfl)
   have tX:=tE.all aB kJ.symm
   have tY:=tF.all aB tk.symm
   have ge:=((KP.refl (fun _=>False) W_).trans gd (fun _ _ x=>x.elim)).trans aB (KS.ok (S:=fun _=>False) (KS.new (KP.refl (fun _=>False) W_) gc) K6)
   refine KO ?_
   have tZ:=La (undef)
   have ua:=La (.agg #[iv ((el.p:Nat):Int),iv (pX (Lk W el.p) el.i),iv (pY (Lk W el.p) el.i)])
   have ub:=La (pt kA 0)
   exact⟨OP.keeps OP.no ge _,ge.mono (fun _ _ x=>x.elim),⟨V,ab,af,ah,ai,aj,ak,am,an,hN,qU.trans ge (fun _ _ x=>x.elim),tH,tI,tJ,tK,tL,tM,tN,tO,tP,tQ,tS,tT,tU,tV,tW,tX,tY,qV,qW,qX,qY,qZ,q7,q8,q9,ra,rb,rc,re,rf,rg,rh,ri,rj,rk,rl,rm,rn,rp,rq,rt,ru,rv,rx,ry,rz,rA,rB,rC,rD,rE,rF,rG,rH,rI,rJ,rK,rL,rM,rN,rO,rP,rQ,rR,rS,rT,rU,rV,rW,rX,rY,rZ,r7,r8,r9,sb,sc,sd,se,sf,sg,si,sj,sk,sl,sm,sn,so,sp,sq,ss,su,sv,sw,sx,sy,sz,sA,sB,sC,sD,sE,sF,sG,sH,sI,sJ,sK,sL,sM,sN,sO,sP,sQ,sR,sS,sT,sU,sV,sW,sX,sY,sZ,ta,tb⟩,⟨kA,qM,qN,qO,qP,qQ,cD,cE,qR,kb,kd,qT,ub,qS,ke,ua,tZ,tG,kB,kC,kD,kE,kF,kG,kH,kI,kJ⟩⟩
  ·rintro l_ pre el BH aa ⟨V,ab,af,ah,ai,aj,ak,am,an,hN,az,bh,bi,aT,aC,aD,aE,be,aU,aG,aH,aI,aJ,aK,aL,aV,au,aF,bm,bn,bo,bp,bq,bt,bu,bv,cF,cG,bJ,cH,cI,cJ,bK,dl,dm,dn,dp,dq,dr,bL,bM,cK,eX,eY,dt,eZ,e6,cL,du,gh,dv,dw,dy,dz,dA,co,cM,e7,e8,dB,e9,fa,cN,dC,dD,dE,dF,dG,dH,cq,cO,fb,fc,dI,fd,fe,cP,dJ,gi,dK,dL,dM,cr,cQ,ff,fg,dN,fh,fi,cR,dO,dP,dQ,dR,ct,cS,fj,fk,dS,fm,fo,cT,dT,gj,dU,cu,cU,fp,fq,dV,ft,fu,cV,dW,dX,cv,cW,cX,cY,cZ,c5,c6,c7,c9,da,bN⟩ ⟨aw,BI,BJ,BK,BL,gl,gm,gn,BM,go,gp,gq,db,BN,BO,BP,BQ,bz,BR,BS,BT,BU,BV,BW,BX,BZ,Ca⟩ hlen_
   have bj:=KP.refl (fun i=>(Lh ac) i\/((Lh ae) i\/((Lh ap) i\/(ab i\/(af i\/(ah i\/(ai i\/(aj i\/(ak i\/(am i\/(an i))))))))))) aa
   have dc:KM (Lh aw) ab:=(aBR bz be (by decide))
   have kK:KM (Lh aw) af:=(Sc bz aG (by decide))
   have kL:KM (Lh aw) ah:=(Sc bz aH (by decide))
   have kM:KM (Lh aw) ai:=(Sc bz aI (by decide))
   have kN:KM (Lh aw) aj:=(Sc bz aJ (by decide))
   have kO:KM (Lh aw) ak:=(Sc bz aK (by decide))
   have kP:KM (Lh aw) am:=(Sc bz aL (by decide))
   have gr:=hA.all az
   have hO2:=hO.all az
   have hab0:=R3 bm hA
   have hab1:=R3 bn hA
   have hab2:=R3 bo hA
   have hab3:=R3 bp hA
   have hab4:=R3 bq hA
   have hab5:=R3 bt hA
   have hab6:=R3 bu hA
   have hab7:=R3 bv hA
   have hei:=el.hi
   refine Lo (KK ?_)
   rcases (show el.p=0\/el.p=1\/el.p=2 from (by have:=el.hp;omega)) with hpv|hpv|hpv
   ·skip
    have kQ:My aa aw 65 [iv ((0:Nat):Int),iv (pX (Lk W 0) el.i),iv (pY (Lk W 0) el.i)]:=by have h_:=bz;rw[hpv] at h_;exact h_
    have hwp:=RJ (W:=W) (p:=0) hsd.1
    have hwl:=OC (W:=W) (p:=0) hsd.2.1
    have hwh:=OC (W:=H) (p:=0) hsd.2.2.2.2.1
    have hwn:Lk W 0*Lk H 0<=16*16:=Nat.mul_le_mul hwl hwh
    rw[hpv] at hei
    refine QN (γ:=(Nat->Prop)×(Nat->Prop)×(Nat->Prop)) [(9,8),(10,8),(11,8),(13,8),(14,8),(13,12),(14,12)] [some 31,some 32,some 33,some 34,some 35,some 36,some 37,some 38,some 39,some 30,some 40,some 41,some 14,none,some 15] ⟨fun w_=>Ps w_ ab aA l ((K5 l K W H pre).s)/\Pe w_ af a8 de (((K5 l K W H pre).f 0).1)/\Pe w_ ah a9 df (((K5 l K W H pre).f 0).2),fun i=>ab i\/(af i\/(ah i)),fun g_ w_=>(Ps w_ (g_.1) aA l ((RH l K (Lk W 0) (el.i) ⟨(((K5 l K W H pre).f 0).1),(((K5 l K W H pre).f 0).2),((K5 l K W H pre).s)⟩).s)/\KS aa ab (g_.1))/\(Pe w_ (g_.2.1) a8 de ((RH l K (Lk W 0) (el.i) ⟨(((K5 l K W H pre).f 0).1),(((K5 l K W H pre).f 0).2),((K5 l K W H pre).s)⟩).a)/\KS aa af (g_.2.1))/\(Pe w_ (g_.2.2) a9 df ((RH l K (Lk W 0) (el.i) ⟨(((K5 l K W H pre).f 0).1),(((K5 l K W H pre).f 0).2),((K5 l K W H pre).s)⟩).b)/\KS aa ah (g_.2.2))/\KM (g_.1) (g_.2.1)/\KM (g_.1) (g_.2.2)/\KM (g_.2.1) (g_.2.2),fun g_=>fun i=>(g_.1) i\/((g_.2.1) i\/((g_.2.2) i)),fun p_ w_=>My w_ p_ 71 (Oh 0 0 0 0 0 (fun _=>(0:Int))),fun g_ p_ w_=>My w_ p_ 71 (O1 (Qj l K (Lk W 0) (el.i) ⟨(((K5 l K W H pre).f 0).1),(((K5 l K W H pre).f 0).2),((K5 l K W H pre).s)⟩))⟩ (fun i=>ab i\/(af i\/(ah i))) (fun p_=>aa.heap.size<=p_) [fun g_=>pt aA 0,fun g_=>pt ao 0,fun g_=>iv K,fun g_=>pt aw 0,fun g_=>iv ((0:Nat):Int),fun g_=>pt aq 0,fun g_=>.agg #[a8,a9],fun g_=>.agg #[iv ((0:Nat):Int),iv (pX (Lk W 0) el.i),iv (pY (Lk W 0) el.i)],fun g_=>.tuple #[.agg (O1 (Qj l K (Lk W 0) (el.i) ⟨(((K5 l K W H pre).f 0).1),(((K5 l K W H pre).f 0).2),((K5 l K W H pre).s)⟩)).toArray,iv ((Mf l K (Lk W 0) (el.i) ⟨(((K5 l K W H pre).f 0).1),(((K5 l K W H pre).f 0).2),((K5 l K W H pre).s)⟩).2.1)],fun g_=>.tuple #[.agg (O1 (Qj l K (Lk W 0) (el.i) ⟨(((K5 l K W H pre).f 0).1),(((K5 l K W H pre).f 0).2),((K5 l K W H pre).s)⟩)).toArray,iv ((Mf l K (Lk W 0) (el.i) ⟨(((K5 l K W H pre).f 0).1),(((K5 l K W H pre).f 0).2),((K5 l K W H pre).s)⟩).2.1)],fun g_=>.agg (O1 (Qj l K (Lk W 0) (el.i) ⟨(((K5 l K W H pre).f 0).1),(((K5 l K W H pre).f 0).2),((K5 l K W H pre).s)⟩)).toArray,fun g_=>iv ((Mf l K (Lk W 0) (el.i) ⟨(((K5 l K W H pre).f 0).1),(((K5 l K W H pre).f 0).2),((K5 l K W H pre).s)⟩).2.1),fun _=>undef,fun _=>undef,fun g_=>iv ((Mf l K (Lk W 0) (el.i) ⟨(((K5 l K W H pre).f 0).1),(((K5 l K W H pre).f 0).2),((K5 l K W H pre).s)⟩).2.1)] 8 13 (some 12) (Ma,Ma,Ma) 0 (by kernel_rfl) (by kernel_rfl) (by kernel_rfl) (by kernel_rfl) ⟨.inr (.inr fun _ _=>rfl),⟨.inr (.inr fun _ _=>rfl),⟨.inr (.inr fun _ _=>rfl),⟨.inr (.inr fun _ _=>rfl),⟨.inr (.inr fun _ _=>rfl),⟨.inr (.inr fun _ _=>rfl),⟨.inr (.inr fun _ _=>rfl),⟨.inr (.inr fun _ _=>rfl),⟨.inr (.inl rfl),⟨.inl rfl,⟨.inl rfl,⟨.inl rfl,⟨.inr (.inr fun _ _=>rfl),⟨.inl rfl,⟨.inl rfl,trivial⟩⟩⟩⟩⟩⟩⟩⟩⟩⟩⟩⟩⟩⟩⟩ ⟨⟨be,aG,aH⟩,fun w w1 S1 h k a=>by obtain⟨h0_,h1_,h2_⟩:=h;exact⟨h0_.all k (fun i z=>a i (Or.inl z)),h1_.all k (fun i z=>a i (Or.inr (Or.inl z))),h2_.all k (fun i z=>a i (Or.inr (Or.inr z)))⟩,fun w h i z=>by obtain⟨h0_,h1_,h2_⟩:=h;rcases z with z|z|z <;> first|exact h0_.live i z|exact h1_.live i z|exact h2_.live i z,fun g w w1 S1 h k a=>by obtain⟨⟨b0_,g0_⟩,⟨b1_,g1_⟩,⟨b2_,g2_⟩,a0_1_,a0_2_,a1_2_⟩:=h;exact⟨⟨b0_.all k (fun i z=>a i (Or.inl z)),g0_⟩,⟨b1_.all k (fun i z=>a i (Or.inr (Or.inl z))),g1_⟩,⟨b2_.all k (fun i z=>a i (Or.inr (Or.inr z))),g2_⟩,a0_1_,a0_2_,a1_2_⟩,fun g w h i z=>by obtain⟨⟨b0_,g0_⟩,⟨b1_,g1_⟩,⟨b2_,g2_⟩,a0_1_,a0_2_,a1_2_⟩:=h;rcases z with z|z|z <;> first|exact b0_.live i z|exact b1_.live i z|exact b2_.live i z,fun _ _ _ _ h k z=>h.all k z,fun _ _ h=>h.lt,fun _ _ _ _ _ h k z=>h.all k z,fun _ z=>z,fun _ h=>.inr h,fun p h z=>by rcases z with z|z|z <;> first|exact absurd h (Nat.not_le.2 (be.live p z))|exact absurd h (Nat.not_le.2 (aG.live p z))|exact absurd h (Nat.not_le.2 (aH.live p z))⟩ (fun _ _ _ h=>h) (fun e=>by cases e) ?_ ?_
    ·refine KY ?_ ?_
     ·refine Ln.one rfl rfl rfl rfl fun g_ p_ F_ w_ hR hout hD=>?_
      exact(MF rfl ((hout 10 rfl (by decide)).trans gp) Tryz.underlying54 (aU.all hR (fun x=>(x.elim (fun y=>((bK.symm) ar rfl y)) (fun y=>(y.elim (fun y=>((du.symm) ar rfl y)) (fun y=>((dC.symm) ar rfl y))))))) rfl ⟨rfl,KP.refl _ _⟩)
     refine KY ?_ ?_
     ·refine Ln.one rfl rfl rfl rfl fun g_ p_ F_ w_ hR hout hD=>?_
      exact(KT (n:=1) rfl ((hout 4 rfl (by decide)).trans gl) Tryz.underlying25 rfl (by kernel_rfl) (by decide) rfl ⟨rfl,KP.refl _ _⟩)
     refine KY ?_ ?_
     ·refine Ln.one rfl rfl rfl rfl fun g_ p_ F_ w_ hR hout hD=>?_
      have dZ:F_ 32=pt ao 0:=(hD.get 0 rfl rfl rfl).2 (by decide)
      exact(KV rfl dZ Tryz.underlying3 (aT.all hR (fun x=>(x.elim (fun y=>((bJ.symm) ao rfl y)) (fun y=>(y.elim (fun y=>((dt.symm) ao rfl y)) (fun y=>((dB.symm) ao rfl y))))))) rfl rfl ⟨rfl,KP.refl _ _⟩)
     refine KY ?_ ?_
     ·refine Ln.one rfl rfl rfl rfl fun g_ p_ F_ w_ hR hout hD=>?_
      exact(KT (n:=1) rfl ((hout 13 rfl (by decide)).trans db) Tryz.underlying65 rfl (by kernel_rfl) (by decide) rfl ⟨rfl,KP.refl _ _⟩)
     refine KY ?_ ?_
     ·refine Ln.one rfl rfl rfl rfl fun g_ p_ F_ w_ hR hout hD=>?_
      have d8:F_ 34=pt aw 0:=(hD.get 0 rfl rfl rfl).2 (by decide)
      exact(KV rfl d8 Tryz.underlying3 (kQ.all hR (fun x=>(x.elim (fun y=>(dc aw rfl y)) (fun y=>(y.elim (fun y=>(kK aw rfl y)) (fun y=>(kL aw rfl y))))))) rfl rfl ⟨rfl,KP.refl _ _⟩)
     refine KY ?_ ?_
     ·refine Ln.one rfl rfl rfl rfl fun g_ p_ F_ w_ hR hout hD=>?_
      have d9:F_ 35=iv ((0:Nat):Int):=(hD.get 0 rfl rfl rfl).2 (by decide)
      exact(LU 0 (s:=2) rfl ((hout 11 rfl (by decide)).trans gq) d9 (by omega) Tryz.underlying59 (by omega) (by kernel_rfl) (by omega) ⟨rfl,KP.refl _ _⟩)
     refine KY ?_ ?_
     ·refine Ln.one rfl rfl rfl rfl fun g_ p_ F_ w_ hR hout hD=>?_
      have eb:F_ 36=pt aq 0:=(hD.get 0 rfl rfl rfl).2 (by decide)
      exact(O8 (n:=2) VP rfl eb (aV.all hR (fun x=>(x.elim (fun y=>((bL.symm) aq rfl y)) (fun y=>(y.elim (fun y=>((dA.symm) aq rfl y)) (fun y=>((dH.symm) aq rfl y))))))) (Nat.le_of_ble_eq_true rfl) rfl ⟨rfl,KP.refl _ _⟩)
     refine KY ?_ ?_
     ·refine Ln.one rfl rfl rfl rfl fun g_ p_ F_ w_ hR hout hD=>?_
      exact(KU P7 rfl ((hout 13 rfl (by decide)).trans db) (kQ.all hR (fun x=>(x.elim (fun y=>(dc aw rfl y)) (fun y=>(y.elim (fun y=>(kK aw rfl y)) (fun y=>(kL aw rfl y))))))) ⟨rfl,KP.refl _ _⟩)
     refine KY ?_ ?_
     ·refine Ln.call rfl rfl rfl rfl fun g_ p_ F_ w_ hR hout hD hP_=>?_
      have ee:F_ 31=pt aA 0:=(hD.get 0 rfl rfl rfl).2 (by decide)
      have eh:F_ 33=iv K:=(hD.get 1 rfl rfl rfl).2 (by decide)
      have ei:F_ 37 = .agg #[a8,a9]:=(hD.get 2 rfl rfl rfl).2 (by decide)
      have ek:F_ 38 = .agg #[iv ((0:Nat):Int),iv (pX (Lk W 0) el.i),iv (pY (Lk W 0) el.i)]:=(hD.get 3 rfl rfl rfl).2 (by decide)
      exact(LE rfl rfl rfl (fun _ _=>by kernel_rfl) (K4 _) (Lm ee (Lm eh (Lm ei (Lm ek LS)))) (W6 aA l ((K5 l K W H pre).s) K ((0:Nat):Int) (Lk W 0) (el.i) a8 a9 de df (((K5 l K W H pre).f 0).1) (((K5 l K W H pre).f 0).2) ab af ah _ (gr.but hR (by rintro i (h|h|h) <;> first|exact hab0 _ h|exact hab1 _ h|exact hab2 _ h|exact hab3 _ h|exact hab4 _ h|exact hab5 _ h|exact hab6 _ h|exact hab7 _ h)) (hO2.but hR (ovO (by rintro i (h|h|h) <;> first|exact hab0 _ h|exact hab1 _ h|exact hab2 _ h|exact hab3 _ h|exact hab4 _ h|exact hab5 _ h|exact hab6 _ h|exact hab7 _ h))) (by first|exact hab0|exact hab1|exact hab2|exact hab3|exact hab4|exact hab5|exact hab6|exact hab7) (by first|exact hab0|exact hab1|exact hab2|exact hab3|exact hab4|exact hab5|exact hab6|exact hab7) (by first|exact hab0|exact hab1|exact hab2|exact hab3|exact hab4|exact hab5|exact hab6|exact hab7) hwp hwl (by omega) hP_.1 hP_.2.1 hP_.2.2 dl dm gh) (fun e_ w_ h_=>by obtain⟨x0_,x1_,x2_,he_,hk_,⟨b0_,g0_⟩,⟨b1_,g1_⟩,⟨b2_,g2_⟩,a0_1_,a0_2_,a1_2_⟩:=h_;exact⟨_,he_,⟨x0_,x1_,x2_⟩,rfl,hk_,⟨⟨b0_,(KS.refl aa _).trans hR g0_⟩,⟨b1_,(KS.refl aa _).trans hR g1_⟩,⟨b2_,(KS.refl aa _).trans hR g2_⟩,a0_1_,a0_2_,a1_2_⟩,fun b hb=>by rcases hb with hb|hb|hb <;> first|exact(g0_ b hb).elim (fun z=>.inl (Or.inl z)) .inr|exact(g1_ b hb).elim (fun z=>.inl (Or.inr (Or.inl z))) .inr|exact(g2_ b hb).elim (fun z=>.inl (Or.inr (Or.inr z))) .inr⟩))
     refine KY ?_ ?_
     ·refine Ln.one rfl rfl rfl rfl fun g_ p_ F_ w_ hR hout hD=>?_
      have en:F_ 39 = .tuple #[.agg (O1 (Qj l K (Lk W 0) (el.i) ⟨(((K5 l K W H pre).f 0).1),(((K5 l K W H pre).f 0).2),((K5 l K W H pre).s)⟩)).toArray,iv ((Mf l K (Lk W 0) (el.i) ⟨(((K5 l K W H pre).f 0).1),(((K5 l K W H pre).f 0).2),((K5 l K W H pre).s)⟩).2.1)]:=(hD.get 0 rfl rfl rfl).2 (by decide)
      exact(KQ rfl en ⟨rfl,KP.refl _ _⟩)
     refine KY ?_ ?_
     ·refine Ln.one rfl rfl rfl rfl fun g_ p_ F_ w_ hR hout hD=>?_
      have bl:F_ 30 = .tuple #[.agg (O1 (Qj l K (Lk W 0) (el.i) ⟨(((K5 l K W H pre).f 0).1),(((K5 l K W H pre).f 0).2),((K5 l K W H pre).s)⟩)).toArray,iv ((Mf l K (Lk W 0) (el.i) ⟨(((K5 l K W H pre).f 0).1),(((K5 l K W H pre).f 0).2),((K5 l K W H pre).s)⟩).2.1)]:=(hD.get 0 rfl rfl rfl).2 (by decide)
      exact(LM rfl bl rfl ⟨rfl,KP.refl _ _⟩)
     refine KY ?_ ?_
     ·refine Ln.one rfl rfl rfl rfl fun g_ p_ F_ w_ hR hout hD=>?_
      have bl:F_ 30 = .tuple #[.agg (O1 (Qj l K (Lk W 0) (el.i) ⟨(((K5 l K W H pre).f 0).1),(((K5 l K W H pre).f 0).2),((K5 l K W H pre).s)⟩)).toArray,iv ((Mf l K (Lk W 0) (el.i) ⟨(((K5 l K W H pre).f 0).1),(((K5 l K W H pre).f 0).2),((K5 l K W H pre).s)⟩).2.1)]:=(hD.get 0 rfl rfl rfl).2 (by decide)
      exact(LM rfl bl rfl ⟨rfl,KP.refl _ _⟩)
     refine KY ?_ ?_
     ·refine Ln.alloc rfl rfl rfl rfl fun F_ w_ hR=>?_
      exact Py (n:=21) (vs:=(Oh 0 0 0 0 0 (fun _=>(0:Int)))) rfl (by kernel_rfl) ⟨_,rfl,Nat.le_refl _,heap_alloc_new _ _,(KP.refl _ _).alloc _⟩
     refine KY ?_ ?_
     ·refine Ln.store rfl rfl rfl rfl fun g_ p_ F_ w_ hR hout hD hO_ hZ_ hQ_=>?_
      have cy:F_ 14=pt p_ 0:=(hD.get 0 rfl rfl rfl).1 rfl
      have eo:F_ 40 = .agg (O1 (Qj l K (Lk W 0) (el.i) ⟨(((K5 l K W H pre).f 0).1),(((K5 l K W H pre).f 0).2),((K5 l K W H pre).s)⟩)).toArray:=(hD.get 1 rfl rfl rfl).2 (by decide)
      exact Qn (us:=(O1 (Qj l K (Lk W 0) (el.i) ⟨(((K5 l K W H pre).f 0).1),(((K5 l K W H pre).f 0).2),((K5 l K W H pre).s)⟩))) LH rfl cy eo hZ_ rfl (K2 rfl (K2 rfl (K2 rfl (K2 rfl (K2 rfl (K2 rfl (K2 rfl (K2 rfl (K2 rfl (K2 rfl (K2 rfl (K2 rfl (K2 rfl (K2 rfl (K2 rfl (K2 rfl (K2 rfl (K2 rfl (K2 rfl (K2 rfl (K2 rfl MI))))))))))))))))))))) fun w2_ b_ k_=>⟨rfl,k_,b_⟩
     refine KY ?_ ?_
     ·refine Ln.one rfl rfl rfl rfl fun g_ p_ F_ w_ hR hout hD=>?_
      have ep:F_ 41=iv ((Mf l K (Lk W 0) (el.i) ⟨(((K5 l K W H pre).f 0).1),(((K5 l K W H pre).f 0).2),((K5 l K W H pre).s)⟩).2.1):=(hD.get 0 rfl rfl rfl).2 (by decide)
      exact(KX rfl ep ⟨rfl,KP.refl _ _⟩)
     exact Nr
    intro uc kR Cb kS fw aW Cc ud ue gt uf kT kU fx
    obtain⟨er,et,eu⟩:=uc
    have kV:=bh.all aW (fun i h x=>(x.elim (fun y=>((cF.symm) i h y)) (fun y=>(y.elim (fun y=>((eX.symm) i h y)) (fun y=>((e7.symm) i h y))))))
    have kW:=bi.all aW (fun x=>(x.elim (fun y=>((cG.symm) p1 rfl y)) (fun y=>(y.elim (fun y=>((eY.symm) p1 rfl y)) (fun y=>((e8.symm) p1 rfl y))))))
    have kX:=aT.all aW (fun x=>(x.elim (fun y=>((bJ.symm) ao rfl y)) (fun y=>(y.elim (fun y=>((dt.symm) ao rfl y)) (fun y=>((dB.symm) ao rfl y))))))
    have kY:=aC.all aW (fun x=>(x.elim (fun y=>((cH.symm) ac rfl y)) (fun y=>(y.elim (fun y=>((eZ.symm) ac rfl y)) (fun y=>((e9.symm) ac rfl y))))))
    have kZ:=aD.all aW (fun x=>(x.elim (fun y=>((cI.symm) ae rfl y)) (fun y=>(y.elim (fun y=>((e6.symm) ae rfl y)) (fun y=>((fa.symm) ae rfl y))))))
    have k8:=aE.all aW (fun x=>(x.elim (fun y=>((cJ.symm) ap rfl y)) (fun y=>(y.elim (fun y=>((cL.symm) ap rfl y)) (fun y=>((cN.symm) ap rfl y))))))
    have la:=aU.all aW (fun x=>(x.elim (fun y=>((bK.symm) ar rfl y)) (fun y=>(y.elim (fun y=>((du.symm) ar rfl y)) (fun y=>((dC.symm) ar rfl y))))))
    have ug:=aI.all aW (fun i h x=>(x.elim (fun y=>((dn.symm) i h y)) (fun y=>(y.elim (fun y=>((dv.symm) i h y)) (fun y=>((dD.symm) i h y))))))
    have uh:=aJ.all aW (fun i h x=>(x.elim (fun y=>((dp.symm) i h y)) (fun y=>(y.elim (fun y=>((dw.symm) i h y)) (fun y=>((dE.symm) i h y))))))
    have ui:=aK.all aW (fun i h x=>(x.elim (fun y=>((dq.symm) i h y)) (fun y=>(y.elim (fun y=>((dy.symm) i h y)) (fun y=>((dF.symm) i h y))))))
    have uj:=aL.all aW (fun i h x=>(x.elim (fun y=>((dr.symm) i h y)) (fun y=>(y.elim (fun y=>((dz.symm) i h y)) (fun y=>((dG.symm) i h y))))))
    have lc:=aV.all aW (fun x=>(x.elim (fun y=>((bL.symm) aq rfl y)) (fun y=>(y.elim (fun y=>((dA.symm) aq rfl y)) (fun y=>((dH.symm) aq rfl y))))))
    have ld:=au.all aW (fun i h x=>(x.elim (fun y=>((bM.symm) i h y)) (fun y=>(y.elim (fun y=>((co.symm) i h y)) (fun y=>((cq.symm) i h y))))))
    have uk:=aF.all aW (fun i h x=>(x.elim (fun y=>((cK.symm) i h y)) (fun y=>(y.elim (fun y=>((cM.symm) i h y)) (fun y=>((cO.symm) i h y))))))
    have le:=bj.trans aW (fun i hi x=>(x.elim (fun y=>((KS.ok (S:=fun i=>(Lh ac) i\/((Lh ae) i\/((Lh ap) i\/(ab i\/(af i\/(ah i\/(ai i\/(aj i\/(ak i\/(am i\/(an i))))))))))) (KS.refl aa ab) (fun _ x=>Or.inr (Or.inr (Or.inr (Or.inl x))))) i hi y)) (fun y=>(y.elim (fun y=>((KS.ok (S:=fun i=>(Lh ac) i\/((Lh ae) i\/((Lh ap) i\/(ab i\/(af i\/(ah i\/(ai i\/(aj i\/(ak i\/(am i\/(an i))))))))))) (KS.refl aa af) (fun _ x=>Or.inr (Or.inr (Or.inr (Or.inr (Or.inl x)))))) i hi y)) (fun y=>((KS.ok (S:=fun i=>(Lh ac) i\/((Lh ae) i\/((Lh ap) i\/(ab i\/(af i\/(ah i\/(ai i\/(aj i\/(ak i\/(am i\/(an i))))))))))) (KS.refl aa ah) (fun _ x=>Or.inr (Or.inr (Or.inr (Or.inr (Or.inr (Or.inl x))))))) i hi y))))))
    obtain⟨⟨gu,ew⟩,⟨gv,ex⟩,⟨gw,ey⟩,gz,gA,gB⟩:=ud
    replace gu:Ps fw er aA l ((RH l K (Lk W 0) (el.i) ⟨(((K5 l K W H pre).f 0).1),(((K5 l K W H pre).f 0).2),((K5 l K W H pre).s)⟩).s):=gu
    replace gv:Pe fw et a8 de ((RH l K (Lk W 0) (el.i) ⟨(((K5 l K W H pre).f 0).1),(((K5 l K W H pre).f 0).2),((K5 l K W H pre).s)⟩).a):=gv
    replace gw:Pe fw eu a9 df ((RH l K (Lk W 0) (el.i) ⟨(((K5 l K W H pre).f 0).1),(((K5 l K W H pre).f 0).2),((K5 l K W H pre).s)⟩).b):=gw
    replace ew:KS aa ab er:=ew
    replace ex:KS aa af et:=ex
    replace ey:KS aa ah eu:=ey
    replace gz:KM er et:=gz
    replace gA:KM er eu:=gA
    replace gB:KM et eu:=gB
    obtain⟨ul,um,un,uo,uq,lf,ur,ut⟩:=RF ew cF bh cG bi bJ aT cH aC cI aD cJ aE bK aU dn aI
    obtain⟨uu,uv,uw,ux,uy,lg⟩:=Xe ew dp aJ dq aK dr aL bL aV bM au cK aF
    obtain⟨uz,uA,uB,uC,uD,lh,uE,uF⟩:=RF ex eX bh eY bi dt aT eZ aC e6 aD cL aE du aU dv aI
    obtain⟨uG,uH,uI,uJ,uK,lj⟩:=Xe ex dw aJ dy aK dz aL dA aV co au cM aF
    obtain⟨uL,uM,uN,uO,uP,lk,uQ,uR⟩:=RF ey e7 bh e8 bi dB aT e9 aC fa aD cN aE dC aU dD aI
    obtain⟨uS,uT,uU,uV,uW,ll⟩:=Xe ey dE aJ dF aK dG aL dH aV cq au cO aF
    replace gt:My fw kR 71 (O1 (Qj l K (Lk W 0) (el.i) ⟨(((K5 l K W H pre).f 0).1),(((K5 l K W H pre).f 0).2),((K5 l K W H pre).s)⟩)):=gt
    obtain⟨uX,uY,lm⟩:=t3 fx 6 gm 7 gn 9 go
    have uZ:kS 14=pt kR 0:=(fx 14).trans (kT 12 rfl)
    have lp:kS 15=iv ((Mf l K (Lk W 0) (el.i) ⟨(((K5 l K W H pre).f 0).1),(((K5 l K W H pre).f 0).2),((K5 l K W H pre).s)⟩).2.1):=(fx 15).trans (kU 14 (by decide) (by decide))
    clear fx kU kT uf ue
    refine KH (KK (KK (KI (KW rfl rfl rfl lp (KJ (.bool (decide (((Mf l K (Lk W 0) (el.i) ⟨(((K5 l K W H pre).f 0).1),(((K5 l K W H pre).f 0).2),((K5 l K W H pre).s)⟩).2.1)≠0))) rfl rfl (Mc rfl rfl rfl rfl rr) (KO ?_))))))
    have u0:=La (.bool (decide (((Mf l K (Lk W 0) (el.i) ⟨(((K5 l K W H pre).f 0).1),(((K5 l K W H pre).f 0).2),((K5 l K W H pre).s)⟩).2.1)≠0)))
    refine KH ?_
    refine Lc u0 (fun ez=>?_) (fun ez=>?_)
    ·replace ez:=of_decide_eq_true ez
     refine KK ?_
     have hX:=YC (l:=l) (k:=K) hpv hN (show (Mf l K (Lk W 0) el.i ((K5 l K W H pre).at 0)).2.1≠0 from by assumption)
     refine KI (KW rfl rfl rfl lp (L6 rfl rfl rfl uX rfl kY (by rfl) (by kernel_rfl) fun Cd u5 bW=>?_))
     have u6:=kV.all bW fJ.symm
     have u7:=kW.all bW (fK.symm p1 rfl)
     have u9:=kX.all bW (fL.symm ao rfl)
     have va:=kZ.all bW (bg ae rfl)
     have vb:=la.all bW (eR ar rfl)
     have vc:=lc.all bW (eU aq rfl)
     have vd:=ld.all bW cA
     have ve:=le.trans bW (KS.ok (S:=fun i=>(Lh ac) i\/((Lh ae) i\/((Lh ap) i\/(ab i\/(af i\/(ah i\/(ai i\/(aj i\/(ak i\/(am i\/(an i))))))))))) (KS.refl aa (Lh ac)) (fun _ x=>Or.inl x))
     refine L6 rfl rfl rfl uY rfl va (by rfl) (by kernel_rfl) fun Ce vf bX=>?_
     have vg:=u6.all bX fM.symm
     have vh:=u7.all bX (fN.symm p1 rfl)
     have vi:=u9.all bX (fO.symm ao rfl)
     have vj:=u5.all bX (bg.symm ac rfl)
     have vk:=vb.all bX (eS ar rfl)
     have vl:=vc.all bX (eV aq rfl)
     have vm:=vd.all bX cB
     have lq:=ve.trans bX (KS.ok (S:=fun i=>(Lh ac) i\/((Lh ae) i\/((Lh ap) i\/(ab i\/(af i\/(ah i\/(ai i\/(aj i\/(ak i\/(am i\/(an i))))))))))) (KS.refl aa (Lh ae)) (fun _ x=>Or.inr (Or.inl x)))
     refine KO ?_
     refine KH (Ld (Lq (NV ?_)))
     exact⟨LQ.keeps (LQ.or aC.cells.cb (LQ.or aD.cells.cb (LQ.or aE.cells.cb (LQ.or be.cells.cb (LQ.or (aG.cb bQ.lt) (LQ.or (aH.cb bR.lt) (LQ.or (aI.cb bS.lt) (LQ.or (aJ.cb bT.lt) (LQ.or (aK.cb bU.lt) (LQ.or (aL.cb bV.lt) aF.cells.cb)))))))))) lq,⟨az.trans lq (fun i hi x=>(x.elim (fun y=>((KS.ok (S:=fun _=>False) bA K6) i hi y)) (fun y=>(y.elim (fun y=>((KS.ok (S:=fun _=>False) bB K6) i hi y)) (fun y=>(y.elim (fun y=>((KS.ok (S:=fun _=>False) cz K6) i hi y)) (fun y=>(y.elim (fun y=>((KS.ok (S:=fun _=>False) bm K6) i hi y)) (fun y=>(y.elim (fun y=>((KS.ok (S:=fun _=>False) bn K6) i hi y)) (fun y=>(y.elim (fun y=>((KS.ok (S:=fun _=>False) bo K6) i hi y)) (fun y=>(y.elim (fun y=>((KS.ok (S:=fun _=>False) bp K6) i hi y)) (fun y=>(y.elim (fun y=>((KS.ok (S:=fun _=>False) bq K6) i hi y)) (fun y=>(y.elim (fun y=>((KS.ok (S:=fun _=>False) bt K6) i hi y)) (fun y=>(y.elim (fun y=>((KS.ok (S:=fun _=>False) bu K6) i hi y)) (fun y=>((KS.ok (S:=fun _=>False) bv K6) i hi y)))))))))))))))))))))),vg,vh,vi,vj,(by rw[hX];exact vf),vk,vl,vm,(by rw[hX];assumption)⟩⟩
    ·replace ez:=of_decide_eq_false ez
     refine Li (KH ?_)
     have hce:(Mf l K (Lk W 0) el.i ((K5 l K W H pre).at 0)).2.1=0:=by first|assumption|(apply Decidable.byContradiction;assumption)
     have hX:=aAK (l:=l) (k:=K) hpv hN hce
     have hol:=YF (l:=l) (k:=K) pre
     refine KI (KJ V rfl rfl (MF rfl lm Tryz.underlying32 k8 rfl rr) (KJ (.agg (O1 (Qj l K (Lk W 0) (el.i) ⟨(((K5 l K W H pre).f 0).1),(((K5 l K W H pre).f 0).2),((K5 l K W H pre).s)⟩)).toArray) rfl rfl (KU LH rfl uZ gt rr) (SF (r:=Uq) (xs:=[.tmp 46]) (vs:=[.agg (O1 (Qj l K (Lk W 0) (el.i) ⟨(((K5 l K W H pre).f 0).1),(((K5 l K W H pre).f 0).2),((K5 l K W H pre).s)⟩)).toArray]) (l:=[Qj l K (Lk W 0) (el.i) ⟨(((K5 l K W H pre).f 0).1),(((K5 l K W H pre).f 0).2),((K5 l K W H pre).s)⟩]) rfl rfl rfl rfl rfl (Lm rfl LS) rfl (by first|decide|exact Nat.le_of_ble_eq_true rfl) (by first|decide|exact Nat.le_of_ble_eq_true rfl) fun Cf Cg Ci vn Cj gC=>?_)))
     obtain⟨lr,lu,lv,lw,lx,ly,lz,lA,lB,lC,lD,lE,lF,lG⟩:=OB gC kV kW kX kY kZ k8 gu la gv gw ug uh ui uj
     obtain⟨lH,lJ,vo⟩:=ND gC lc ld uk
     have lK:=le.tr gC
     refine RW (r:=Uq) rfl rfl rfl rfl rfl rfl vo vn.roa (by first|omega|(simp;done)|(simp;omega)) fun vp Ck vq lL gD aM=>?_
     obtain⟨vr,vt,vu,vv,vw,lM,vx,vy⟩:=RF gD cX lr cY lu cZ lv c5 lw c6 lx c7 ly (lg.symm) lz c9 lA
     obtain⟨vz,vA,vB,vC,vD,vE,vF,vG⟩:=RF gD (lj.symm) lB (ll.symm) lC (cQ.symm) lD (cS.symm) lE (cU.symm) lF (cW.symm) lG da lH bN lJ
     have vH:=lr.all aM cX.symm
     have vJ:=lu.all aM (cY.symm p1 rfl)
     have vK:=lv.all aM (cZ.symm ao rfl)
     have vL:=lw.all aM (c5.symm ac rfl)
     have vM:=lx.all aM (c6.symm ae rfl)
     have vN:=ly.all aM (c7.symm ap rfl)
     have vO:=lz.all aM lg
     have vP:=lA.all aM (c9.symm ar rfl)
     have vQ:=lB.all aM lj
     have vR:=lC.all aM ll
     have vS:=lD.all aM cQ
     have vT:=lE.all aM cS
     have vU:=lF.all aM cU
     have vV:=lG.all aM cW
     have vW:=lH.all aM (da.symm aq rfl)
     have vX:=lJ.all aM bN.symm
     have vY:=lK.trans aM (KS.ok (S:=fun i=>(Lh ac) i\/((Lh ae) i\/((Lh ap) i\/(ab i\/(af i\/(ah i\/(ai i\/(aj i\/(ak i\/(am i\/(an i))))))))))) (KS.refl aa an) (fun _ x=>Or.inr (Or.inr (Or.inr (Or.inr (Or.inr (Or.inr (Or.inr (Or.inr (Or.inr (Or.inr x)))))))))))
     refine L6 rfl rfl rfl lm rfl vN lL.oneC (by kernel_rfl) fun Cl vZ aN=>?_
     have v7:=vH.all aN fV.symm
     have v9:=vJ.all aN (fW.symm p1 rfl)
     have wa:=vK.all aN (fX.symm ao rfl)
     have wb:=vL.all aN (fY.symm ac rfl)
     have wc:=vM.all aN (fZ.symm ae rfl)
     have wd:=vO.all aN lf
     have we:=vP.all aN (eT ar rfl)
     have lN:=vQ.all aN lh
     have lO:=vR.all aN lk
     have lP:=vS.all aN cP
     have lQ:=vT.all aN cR
     have lR:=vU.all aN cT
     have lS:=vV.all aN cV
     have wg:=vW.all aN (eW aq rfl)
     have wh:=vX.all aN cC
     have wi:=lL.all aN lM
     have gE:=vY.trans aN (KS.ok (S:=fun i=>(Lh ac) i\/((Lh ae) i\/((Lh ap) i\/(ab i\/(af i\/(ah i\/(ai i\/(aj i\/(ak i\/(am i\/(an i))))))))))) (KS.refl aa (Lh ap)) (fun _ x=>Or.inr (Or.inr (Or.inl x))))
     refine KO ?_
     refine LD ?_
     exact⟨LQ.keeps (LQ.or aC.cells.cb (LQ.or aD.cells.cb (LQ.or aE.cells.cb (LQ.or be.cells.cb (LQ.or (aG.cb bQ.lt) (LQ.or (aH.cb bR.lt) (LQ.or (aI.cb bS.lt) (LQ.or (aJ.cb bT.lt) (LQ.or (aK.cb bU.lt) (LQ.or (aL.cb bV.lt) aF.cells.cb)))))))))) gE,gE.mono (fun i hi x=>(x.elim (fun y=>fun e=>cA.symm i y (by rw[au.1];exact e)) (fun y=>(y.elim (fun y=>fun e=>cB.symm i y (by rw[au.1];exact e)) (fun y=>(y.elim (fun y=>fun e=>cC.symm i y (by rw[au.1];exact e)) (fun y=>(y.elim (fun y=>fun e=>bM i y (by rw[au.1];exact e)) (fun y=>(y.elim (fun y=>fun e=>co i y (by rw[au.1];exact e)) (fun y=>(y.elim (fun y=>fun e=>cq i y (by rw[au.1];exact e)) (fun y=>(y.elim (fun y=>fun e=>cr i y (by rw[au.1];exact e)) (fun y=>(y.elim (fun y=>fun e=>ct i y (by rw[au.1];exact e)) (fun y=>(y.elim (fun y=>fun e=>cu i y (by rw[au.1];exact e)) (fun y=>(y.elim (fun y=>fun e=>cv i y (by rw[au.1];exact e)) (fun y=>(fun e=>bN i y (by rw[au.1];exact e))))))))))))))))))))))),⟨vp,er,et,eu,ai,aj,ak,am,vq,(hX.2.2.2.2),az.trans gE (fun i hi x=>(x.elim (fun y=>((KS.ok (S:=fun _=>False) bA K6) i hi y)) (fun y=>(y.elim (fun y=>((KS.ok (S:=fun _=>False) bB K6) i hi y)) (fun y=>(y.elim (fun y=>((KS.ok (S:=fun _=>False) cz K6) i hi y)) (fun y=>(y.elim (fun y=>((KS.ok (S:=fun _=>False) bm K6) i hi y)) (fun y=>(y.elim (fun y=>((KS.ok (S:=fun _=>False) bn K6) i hi y)) (fun y=>(y.elim (fun y=>((KS.ok (S:=fun _=>False) bo K6) i hi y)) (fun y=>(y.elim (fun y=>((KS.ok (S:=fun _=>False) bp K6) i hi y)) (fun y=>(y.elim (fun y=>((KS.ok (S:=fun _=>False) bq K6) i hi y)) (fun y=>(y.elim (fun y=>((KS.ok (S:=fun _=>False) bt K6) i hi y)) (fun y=>(y.elim (fun y=>((KS.ok (S:=fun _=>False) bu K6) i hi y)) (fun y=>((KS.ok (S:=fun _=>False) bv K6) i hi y)))))))))))))))))))))),v7,v9,wa,wb,wc,vZ,(by rw[hX.1];exact wd),we,(by first|(rw[hX.2.2.1];exact lN)|(rw[hX.2.2.2.1 0 (by decide)];exact lN)),(by first|(rw[hX.2.2.1];exact lO)|(rw[hX.2.2.2.1 0 (by decide)];exact lO)),(by first|(rw[hX.2.2.1];exact lP)|(rw[hX.2.2.2.1 1 (by decide)];exact lP)),(by first|(rw[hX.2.2.1];exact lQ)|(rw[hX.2.2.2.1 1 (by decide)];exact lQ)),(by first|(rw[hX.2.2.1];exact lR)|(rw[hX.2.2.2.1 2 (by decide)];exact lR)),(by first|(rw[hX.2.2.1];exact lS)|(rw[hX.2.2.2.1 2 (by decide)];exact lS)),wg,wh,(by rw[hX.2.1];exact wi),bm.trans az ((KS.refl aa ab).trans bj ew),bn.trans az ((KS.refl aa af).trans bj ex),bo.trans az ((KS.refl aa ah).trans bj ey),bp.trans az (KS.refl aa ai),bq.trans az (KS.refl aa aj),bt.trans az (KS.refl aa ak),bu.trans az (KS.refl aa am),bv.trans az (KS.trans (KS.refl aa an) lK gD),ul,um,un,uo,uq,lf,ur,gz,gA,ut,uu,uv,uw,ux,uy,vx.symm,uz,uA,uB,uC,uD,lh,uE,gB,uF,uG,uH,uI,uJ,uK,vz.symm,uL,uM,uN,uO,uP,lk,uQ,uR,uS,uT,uU,uV,uW,vA.symm,fb,fc,dI,fd,fe,cP,dJ,gi,dK,dL,dM,cr,vB.symm,ff,fg,dN,fh,fi,cR,dO,dP,dQ,dR,ct,vC.symm,fj,fk,dS,fm,fo,cT,dT,gj,dU,cu,vD.symm,fp,fq,dV,ft,fu,cV,dW,dX,cv,vE.symm,vr,vt,vu,vv,vw,lM,vy,vF,vG⟩⟩
   ·skip
    have lT:My aa aw 65 [iv ((1:Nat):Int),iv (pX (Lk W 1) el.i),iv (pY (Lk W 1) el.i)]:=by have h_:=bz;rw[hpv] at h_;exact h_
    have hwp:=RJ (W:=W) (p:=1) hsd.1
    have hwl:=OC (W:=W) (p:=1) hsd.2.1
    have hwh:=OC (W:=H) (p:=1) hsd.2.2.2.2.1
    have hwn:Lk W 1*Lk H 1<=16*16:=Nat.mul_le_mul hwl hwh
    rw[hpv] at hei
    refine QN (γ:=(Nat->Prop)×(Nat->Prop)×(Nat->Prop)) [(9,8),(10,8),(11,8),(13,8),(14,8),(13,12),(14,12)] [some 31,some 32,some 33,some 34,some 35,some 36,some 37,some 38,some 39,some 30,some 40,some 41,some 14,none,some 15] ⟨fun w_=>Ps w_ ab aA l ((K5 l K W H pre).s)/\Pe w_ ai ba dg (((K5 l K W H pre).f 1).1)/\Pe w_ aj bb dh (((K5 l K W H pre).f 1).2),fun i=>ab i\/(ai i\/(aj i)),fun g_ w_=>(Ps w_ (g_.1) aA l ((RH l K (Lk W 1) (el.i) ⟨(((K5 l K W H pre).f 1).1),(((K5 l K W H pre).f 1).2),((K5 l K W H pre).s)⟩).s)/\KS aa ab (g_.1))/\(Pe w_ (g_.2.1) ba dg ((RH l K (Lk W 1) (el.i) ⟨(((K5 l K W H pre).f 1).1),(((K5 l K W H pre).f 1).2),((K5 l K W H pre).s)⟩).a)/\KS aa ai (g_.2.1))/\(Pe w_ (g_.2.2) bb dh ((RH l K (Lk W 1) (el.i) ⟨(((K5 l K W H pre).f 1).1),(((K5 l K W H pre).f 1).2),((K5 l K W H pre).s)⟩).b)/\KS aa aj (g_.2.2))/\KM (g_.1) (g_.2.1)/\KM (g_.1) (g_.2.2)/\KM (g_.2.1) (g_.2.2),fun g_=>fun i=>(g_.1) i\/((g_.2.1) i\/((g_.2.2) i)),fun p_ w_=>My w_ p_ 71 (Oh 0 0 0 0 0 (fun _=>(0:Int))),fun g_ p_ w_=>My w_ p_ 71 (O1 (Qj l K (Lk W 1) (el.i) ⟨(((K5 l K W H pre).f 1).1),(((K5 l K W H pre).f 1).2),((K5 l K W H pre).s)⟩))⟩ (fun i=>ab i\/(ai i\/(aj i))) (fun p_=>aa.heap.size<=p_) [fun g_=>pt aA 0,fun g_=>pt ao 0,fun g_=>iv K,fun g_=>pt aw 0,fun g_=>iv ((1:Nat):Int),fun g_=>pt aq 2,fun g_=>.agg #[ba,bb],fun g_=>.agg #[iv ((1:Nat):Int),iv (pX (Lk W 1) el.i),iv (pY (Lk W 1) el.i)],fun g_=>.tuple #[.agg (O1 (Qj l K (Lk W 1) (el.i) ⟨(((K5 l K W H pre).f 1).1),(((K5 l K W H pre).f 1).2),((K5 l K W H pre).s)⟩)).toArray,iv ((Mf l K (Lk W 1) (el.i) ⟨(((K5 l K W H pre).f 1).1),(((K5 l K W H pre).f 1).2),((K5 l K W H pre).s)⟩).2.1)],fun g_=>.tuple #[.agg (O1 (Qj l K (Lk W 1) (el.i) ⟨(((K5 l K W H pre).f 1).1),(((K5 l K W H pre).f 1).2),((K5 l K W H pre).s)⟩)).toArray,iv ((Mf l K (Lk W 1) (el.i) ⟨(((K5 l K W H pre).f 1).1),(((K5 l K W H pre).f 1).2),((K5 l K W H pre).s)⟩).2.1)],fun g_=>.agg (O1 (Qj l K (Lk W 1) (el.i) ⟨(((K5 l K W H pre).f 1).1),(((K5 l K W H pre).f 1).2),((K5 l K W H pre).s)⟩)).toArray,fun g_=>iv ((Mf l K (Lk W 1) (el.i) ⟨(((K5 l K W H pre).f 1).1),(((K5 l K W H pre).f 1).2),((K5 l K W H pre).s)⟩).2.1),fun _=>undef,fun _=>undef,fun g_=>iv ((Mf l K (Lk W 1) (el.i) ⟨(((K5 l K W H pre).f 1).1),(((K5 l K W H pre).f 1).2),((K5 l K W H pre).s)⟩).2.1)] 8 13 (some 12) (Ma,Ma,Ma) 0 (by kernel_rfl) (by kernel_rfl) (by kernel_rfl) (by kernel_rfl) ⟨.inr (.inr fun _ _=>rfl),⟨.inr (.inr fun _ _=>rfl),⟨.inr (.inr fun _ _=>rfl),⟨.inr (.inr fun _ _=>rfl),⟨.inr (.inr fun _ _=>rfl),⟨.inr (.inr fun _ _=>rfl),⟨.inr (.inr fun _ _=>rfl),⟨.inr (.inr fun _ _=>rfl),⟨.inr (.inl rfl),⟨.inl rfl,⟨.inl rfl,⟨.inl rfl,⟨.inr (.inr fun _ _=>rfl),⟨.inl rfl,⟨.inl rfl,trivial⟩⟩⟩⟩⟩⟩⟩⟩⟩⟩⟩⟩⟩⟩⟩ ⟨⟨be,aI,aJ⟩,fun w w1 S1 h k a=>by obtain⟨h0_,h1_,h2_⟩:=h;exact⟨h0_.all k (fun i z=>a i (Or.inl z)),h1_.all k (fun i z=>a i (Or.inr (Or.inl z))),h2_.all k (fun i z=>a i (Or.inr (Or.inr z)))⟩,fun w h i z=>by obtain⟨h0_,h1_,h2_⟩:=h;rcases z with z|z|z <;> first|exact h0_.live i z|exact h1_.live i z|exact h2_.live i z,fun g w w1 S1 h k a=>by obtain⟨⟨b0_,g0_⟩,⟨b1_,g1_⟩,⟨b2_,g2_⟩,a0_1_,a0_2_,a1_2_⟩:=h;exact⟨⟨b0_.all k (fun i z=>a i (Or.inl z)),g0_⟩,⟨b1_.all k (fun i z=>a i (Or.inr (Or.inl z))),g1_⟩,⟨b2_.all k (fun i z=>a i (Or.inr (Or.inr z))),g2_⟩,a0_1_,a0_2_,a1_2_⟩,fun g w h i z=>by obtain⟨⟨b0_,g0_⟩,⟨b1_,g1_⟩,⟨b2_,g2_⟩,a0_1_,a0_2_,a1_2_⟩:=h;rcases z with z|z|z <;> first|exact b0_.live i z|exact b1_.live i z|exact b2_.live i z,fun _ _ _ _ h k z=>h.all k z,fun _ _ h=>h.lt,fun _ _ _ _ _ h k z=>h.all k z,fun _ z=>z,fun _ h=>.inr h,fun p h z=>by rcases z with z|z|z <;> first|exact absurd h (Nat.not_le.2 (be.live p z))|exact absurd h (Nat.not_le.2 (aI.live p z))|exact absurd h (Nat.not_le.2 (aJ.live p z))⟩ (fun _ _ _ h=>h) (fun e=>by cases e) ?_ ?_
    ·refine KY ?_ ?_
     ·refine Ln.one rfl rfl rfl rfl fun g_ p_ F_ w_ hR hout hD=>?_
      exact(MF rfl ((hout 10 rfl (by decide)).trans gp) Tryz.underlying54 (aU.all hR (fun x=>(x.elim (fun y=>((bK.symm) ar rfl y)) (fun y=>(y.elim (fun y=>((dJ.symm) ar rfl y)) (fun y=>((dO.symm) ar rfl y))))))) rfl ⟨rfl,KP.refl _ _⟩)
     refine KY ?_ ?_
     ·refine Ln.one rfl rfl rfl rfl fun g_ p_ F_ w_ hR hout hD=>?_
      exact(KT (n:=1) rfl ((hout 4 rfl (by decide)).trans gl) Tryz.underlying25 rfl (by kernel_rfl) (by decide) rfl ⟨rfl,KP.refl _ _⟩)
     refine KY ?_ ?_
     ·refine Ln.one rfl rfl rfl rfl fun g_ p_ F_ w_ hR hout hD=>?_
      have dZ:F_ 32=pt ao 0:=(hD.get 0 rfl rfl rfl).2 (by decide)
      exact(KV rfl dZ Tryz.underlying3 (aT.all hR (fun x=>(x.elim (fun y=>((bJ.symm) ao rfl y)) (fun y=>(y.elim (fun y=>((dI.symm) ao rfl y)) (fun y=>((dN.symm) ao rfl y))))))) rfl rfl ⟨rfl,KP.refl _ _⟩)
     refine KY ?_ ?_
     ·refine Ln.one rfl rfl rfl rfl fun g_ p_ F_ w_ hR hout hD=>?_
      exact(KT (n:=1) rfl ((hout 13 rfl (by decide)).trans db) Tryz.underlying65 rfl (by kernel_rfl) (by decide) rfl ⟨rfl,KP.refl _ _⟩)
     refine KY ?_ ?_
     ·refine Ln.one rfl rfl rfl rfl fun g_ p_ F_ w_ hR hout hD=>?_
      have d8:F_ 34=pt aw 0:=(hD.get 0 rfl rfl rfl).2 (by decide)
      exact(KV rfl d8 Tryz.underlying3 (lT.all hR (fun x=>(x.elim (fun y=>(dc aw rfl y)) (fun y=>(y.elim (fun y=>(kM aw rfl y)) (fun y=>(kN aw rfl y))))))) rfl rfl ⟨rfl,KP.refl _ _⟩)
     refine KY ?_ ?_
     ·refine Ln.one rfl rfl rfl rfl fun g_ p_ F_ w_ hR hout hD=>?_
      have d9:F_ 35=iv ((1:Nat):Int):=(hD.get 0 rfl rfl rfl).2 (by decide)
      exact(LU 1 (s:=2) rfl ((hout 11 rfl (by decide)).trans gq) d9 (by omega) Tryz.underlying59 (by omega) (by kernel_rfl) (by omega) ⟨rfl,KP.refl _ _⟩)
     refine KY ?_ ?_
     ·refine Ln.one rfl rfl rfl rfl fun g_ p_ F_ w_ hR hout hD=>?_
      have eb:F_ 36=pt aq 2:=(hD.get 0 rfl rfl rfl).2 (by decide)
      exact(O8 (n:=2) VP rfl eb (aV.all hR (fun x=>(x.elim (fun y=>((bL.symm) aq rfl y)) (fun y=>(y.elim (fun y=>((dM.symm) aq rfl y)) (fun y=>((dR.symm) aq rfl y))))))) (Nat.le_of_ble_eq_true rfl) rfl ⟨rfl,KP.refl _ _⟩)
     refine KY ?_ ?_
     ·refine Ln.one rfl rfl rfl rfl fun g_ p_ F_ w_ hR hout hD=>?_
      exact(KU P7 rfl ((hout 13 rfl (by decide)).trans db) (lT.all hR (fun x=>(x.elim (fun y=>(dc aw rfl y)) (fun y=>(y.elim (fun y=>(kM aw rfl y)) (fun y=>(kN aw rfl y))))))) ⟨rfl,KP.refl _ _⟩)
     refine KY ?_ ?_
     ·refine Ln.call rfl rfl rfl rfl fun g_ p_ F_ w_ hR hout hD hP_=>?_
      have ee:F_ 31=pt aA 0:=(hD.get 0 rfl rfl rfl).2 (by decide)
      have eh:F_ 33=iv K:=(hD.get 1 rfl rfl rfl).2 (by decide)
      have ei:F_ 37 = .agg #[ba,bb]:=(hD.get 2 rfl rfl rfl).2 (by decide)
      have ek:F_ 38 = .agg #[iv ((1:Nat):Int),iv (pX (Lk W 1) el.i),iv (pY (Lk W 1) el.i)]:=(hD.get 3 rfl rfl rfl).2 (by decide)
      exact(LE rfl rfl rfl (fun _ _=>by kernel_rfl) (K4 _) (Lm ee (Lm eh (Lm ei (Lm ek LS)))) (W6 aA l ((K5 l K W H pre).s) K ((1:Nat):Int) (Lk W 1) (el.i) ba bb dg dh (((K5 l K W H pre).f 1).1) (((K5 l K W H pre).f 1).2) ab ai aj _ (gr.but hR (by rintro i (h|h|h) <;> first|exact hab0 _ h|exact hab1 _ h|exact hab2 _ h|exact hab3 _ h|exact hab4 _ h|exact hab5 _ h|exact hab6 _ h|exact hab7 _ h)) (hO2.but hR (ovO (by rintro i (h|h|h) <;> first|exact hab0 _ h|exact hab1 _ h|exact hab2 _ h|exact hab3 _ h|exact hab4 _ h|exact hab5 _ h|exact hab6 _ h|exact hab7 _ h))) (by first|exact hab0|exact hab1|exact hab2|exact hab3|exact hab4|exact hab5|exact hab6|exact hab7) (by first|exact hab0|exact hab1|exact hab2|exact hab3|exact hab4|exact hab5|exact hab6|exact hab7) (by first|exact hab0|exact hab1|exact hab2|exact hab3|exact hab4|exact hab5|exact hab6|exact hab7) hwp hwl (by omega) hP_.1 hP_.2.1 hP_.2.2 dn dp gi) (fun e_ w_ h_=>by obtain⟨x0_,x1_,x2_,he_,hk_,⟨b0_,g0_⟩,⟨b1_,g1_⟩,⟨b2_,g2_⟩,a0_1_,a0_2_,a1_2_⟩:=h_;exact⟨_,he_,⟨x0_,x1_,x2_⟩,rfl,hk_,⟨⟨b0_,(KS.refl aa _).trans hR g0_⟩,⟨b1_,(KS.refl aa _).trans hR g1_⟩,⟨b2_,(KS.refl aa _).trans hR g2_⟩,a0_1_,a0_2_,a1_2_⟩,fun b hb=>by rcases hb with hb|hb|hb <;> first|exact(g0_ b hb).elim (fun z=>.inl (Or.inl z)) .inr|exact(g1_ b hb).elim (fun z=>.inl (Or.inr (Or.inl z))) .inr|exact(g2_ b hb).elim (fun z=>.inl (Or.inr (Or.inr z))) .inr⟩))
     refine KY ?_ ?_
     ·refine Ln.one rfl rfl rfl rfl fun g_ p_ F_ w_ hR hout hD=>?_
      have en:F_ 39 = .tuple #[.agg (O1 (Qj l K (Lk W 1) (el.i) ⟨(((K5 l K W H pre).f 1).1),(((K5 l K W H pre).f 1).2),((K5 l K W H pre).s)⟩)).toArray,iv ((Mf l K (Lk W 1) (el.i) ⟨(((K5 l K W H pre).f 1).1),(((K5 l K W H pre).f 1).2),((K5 l K W H pre).s)⟩).2.1)]:=(hD.get 0 rfl rfl rfl).2 (by decide)
      exact(KQ rfl en ⟨rfl,KP.refl _ _⟩)
     refine KY ?_ ?_
     ·refine Ln.one rfl rfl rfl rfl fun g_ p_ F_ w_ hR hout hD=>?_
      have bl:F_ 30 = .tuple #[.agg (O1 (Qj l K (Lk W 1) (el.i) ⟨(((K5 l K W H pre).f 1).1),(((K5 l K W H pre).f 1).2),((K5 l K W H pre).s)⟩)).toArray,iv ((Mf l K (Lk W 1) (el.i) ⟨(((K5 l K W H pre).f 1).1),(((K5 l K W H pre).f 1).2),((K5 l K W H pre).s)⟩).2.1)]:=(hD.get 0 rfl rfl rfl).2 (by decide)
      exact(LM rfl bl rfl ⟨rfl,KP.refl _ _⟩)
     refine KY ?_ ?_
     ·refine Ln.one rfl rfl rfl rfl fun g_ p_ F_ w_ hR hout hD=>?_
      have bl:F_ 30 = .tuple #[.agg (O1 (Qj l K (Lk W 1) (el.i) ⟨(((K5 l K W H pre).f 1).1),(((K5 l K W H pre).f 1).2),((K5 l K W H pre).s)⟩)).toArray,iv ((Mf l K (Lk W 1) (el.i) ⟨(((K5 l K W H pre).f 1).1),(((K5 l K W H pre).f 1).2),((K5 l K W H pre).s)⟩).2.1)]:=(hD.get 0 rfl rfl rfl).2 (by decide)
      exact(LM rfl bl rfl ⟨rfl,KP.refl _ _⟩)
     refine KY ?_ ?_
     ·refine Ln.alloc rfl rfl rfl rfl fun F_ w_ hR=>?_
      exact Py (n:=21) (vs:=(Oh 0 0 0 0 0 (fun _=>(0:Int)))) rfl (by kernel_rfl) ⟨_,rfl,Nat.le_refl _,heap_alloc_new _ _,(KP.refl _ _).alloc _⟩
     refine KY ?_ ?_
     ·refine Ln.store rfl rfl rfl rfl fun g_ p_ F_ w_ hR hout hD hO_ hZ_ hQ_=>?_
      have cy:F_ 14=pt p_ 0:=(hD.get 0 rfl rfl rfl).1 rfl
      have eo:F_ 40 = .agg (O1 (Qj l K (Lk W 1) (el.i) ⟨(((K5 l K W H pre).f 1).1),(((K5 l K W H pre).f 1).2),((K5 l K W H pre).s)⟩)).toArray:=(hD.get 1 rfl rfl rfl).2 (by decide)
      exact Qn (us:=(O1 (Qj l K (Lk W 1) (el.i) ⟨(((K5 l K W H pre).f 1).1),(((K5 l K W H pre).f 1).2),((K5 l K W H pre).s)⟩))) LH rfl cy eo hZ_ rfl (K2 rfl (K2 rfl (K2 rfl (K2 rfl (K2 rfl (K2 rfl (K2 rfl (K2 rfl (K2 rfl (K2 rfl (K2 rfl (K2 rfl (K2 rfl (K2 rfl (K2 rfl (K2 rfl (K2 rfl (K2 rfl (K2 rfl (K2 rfl (K2 rfl MI))))))))))))))))))))) fun w2_ b_ k_=>⟨rfl,k_,b_⟩
     refine KY ?_ ?_
     ·refine Ln.one rfl rfl rfl rfl fun g_ p_ F_ w_ hR hout hD=>?_
      have ep:F_ 41=iv ((Mf l K (Lk W 1) (el.i) ⟨(((K5 l K W H pre).f 1).1),(((K5 l K W H pre).f 1).2),((K5 l K W H pre).s)⟩).2.1):=(hD.get 0 rfl rfl rfl).2 (by decide)
      exact(KX rfl ep ⟨rfl,KP.refl _ _⟩)
     exact Nr
    intro wj lU Cm lV fy aX Cn wk wm gF wn lW lX fA
    obtain⟨eA,eB,eC⟩:=wj
    have lY:=bh.all aX (fun i h x=>(x.elim (fun y=>((cF.symm) i h y)) (fun y=>(y.elim (fun y=>((fb.symm) i h y)) (fun y=>((ff.symm) i h y))))))
    have lZ:=bi.all aX (fun x=>(x.elim (fun y=>((cG.symm) p1 rfl y)) (fun y=>(y.elim (fun y=>((fc.symm) p1 rfl y)) (fun y=>((fg.symm) p1 rfl y))))))
    have l3:=aT.all aX (fun x=>(x.elim (fun y=>((bJ.symm) ao rfl y)) (fun y=>(y.elim (fun y=>((dI.symm) ao rfl y)) (fun y=>((dN.symm) ao rfl y))))))
    have l4:=aC.all aX (fun x=>(x.elim (fun y=>((cH.symm) ac rfl y)) (fun y=>(y.elim (fun y=>((fd.symm) ac rfl y)) (fun y=>((fh.symm) ac rfl y))))))
    have l5:=aD.all aX (fun x=>(x.elim (fun y=>((cI.symm) ae rfl y)) (fun y=>(y.elim (fun y=>((fe.symm) ae rfl y)) (fun y=>((fi.symm) ae rfl y))))))
    have l6:=aE.all aX (fun x=>(x.elim (fun y=>((cJ.symm) ap rfl y)) (fun y=>(y.elim (fun y=>((cP.symm) ap rfl y)) (fun y=>((cR.symm) ap rfl y))))))
    have l7:=aU.all aX (fun x=>(x.elim (fun y=>((bK.symm) ar rfl y)) (fun y=>(y.elim (fun y=>((dJ.symm) ar rfl y)) (fun y=>((dO.symm) ar rfl y))))))
    have wo:=aG.all aX (fun i h x=>(x.elim (fun y=>((dl.symm) i h y)) (fun y=>(y.elim (fun y=>(dv i h y)) (fun y=>(dw i h y))))))
    have ws:=aH.all aX (fun i h x=>(x.elim (fun y=>((dm.symm) i h y)) (fun y=>(y.elim (fun y=>(dD i h y)) (fun y=>(dE i h y))))))
    have wt:=aK.all aX (fun i h x=>(x.elim (fun y=>((dq.symm) i h y)) (fun y=>(y.elim (fun y=>((dK.symm) i h y)) (fun y=>((dP.symm) i h y))))))
    have wu:=aL.all aX (fun i h x=>(x.elim (fun y=>((dr.symm) i h y)) (fun y=>(y.elim (fun y=>((dL.symm) i h y)) (fun y=>((dQ.symm) i h y))))))
    have l8:=aV.all aX (fun x=>(x.elim (fun y=>((bL.symm) aq rfl y)) (fun y=>(y.elim (fun y=>((dM.symm) aq rfl y)) (fun y=>((dR.symm) aq rfl y))))))
    have l9:=au.all aX (fun i h x=>(x.elim (fun y=>((bM.symm) i h y)) (fun y=>(y.elim (fun y=>((cr.symm) i h y)) (fun y=>((ct.symm) i h y))))))
    have wy:=aF.all aX (fun i h x=>(x.elim (fun y=>((cK.symm) i h y)) (fun y=>(y.elim (fun y=>((cQ.symm) i h y)) (fun y=>((cS.symm) i h y))))))
    have ma:=bj.trans aX (fun i hi x=>(x.elim (fun y=>((KS.ok (S:=fun i=>(Lh ac) i\/((Lh ae) i\/((Lh ap) i\/(ab i\/(af i\/(ah i\/(ai i\/(aj i\/(ak i\/(am i\/(an i))))))))))) (KS.refl aa ab) (fun _ x=>Or.inr (Or.inr (Or.inr (Or.inl x))))) i hi y)) (fun y=>(y.elim (fun y=>((KS.ok (S:=fun i=>(Lh ac) i\/((Lh ae) i\/((Lh ap) i\/(ab i\/(af i\/(ah i\/(ai i\/(aj i\/(ak i\/(am i\/(an i))))))))))) (KS.refl aa ai) (fun _ x=>Or.inr (Or.inr (Or.inr (Or.inr (Or.inr (Or.inr (Or.inl x)))))))) i hi y)) (fun y=>((KS.ok (S:=fun i=>(Lh ac) i\/((Lh ae) i\/((Lh ap) i\/(ab i\/(af i\/(ah i\/(ai i\/(aj i\/(ak i\/(am i\/(an i))))))))))) (KS.refl aa aj) (fun _ x=>Or.inr (Or.inr (Or.inr (Or.inr (Or.inr (Or.inr (Or.inr (Or.inl x))))))))) i hi y))))))
    obtain⟨⟨gG,eD⟩,⟨gH,eE⟩,⟨gI,eF⟩,gJ,gK,gL⟩:=wk
    replace gG:Ps fy eA aA l ((RH l K (Lk W 1) (el.i) ⟨(((K5 l K W H pre).f 1).1),(((K5 l K W H pre).f 1).2),((K5 l K W H pre).s)⟩).s):=gG
    replace gH:Pe fy eB ba dg ((RH l K (Lk W 1) (el.i) ⟨(((K5 l K W H pre).f 1).1),(((K5 l K W H pre).f 1).2),((K5 l K W H pre).s)⟩).a):=gH
    replace gI:Pe fy eC bb dh ((RH l K (Lk W 1) (el.i) ⟨(((K5 l K W H pre).f 1).1),(((K5 l K W H pre).f 1).2),((K5 l K W H pre).s)⟩).b):=gI
    replace eD:KS aa ab eA:=eD
    replace eE:KS aa ai eB:=eE
    replace eF:KS aa aj eC:=eF
    replace gJ:KM eA eB:=gJ
    replace gK:KM eA eC:=gK
    replace gL:KM eB eC:=gL
    obtain⟨wz,wA,wB,wC,wD,mb,wE,wF⟩:=RF eD cF bh cG bi bJ aT cH aC cI aD cJ aE bK aU dl aG
    obtain⟨wG,wH,wI,wJ,wK,mc⟩:=Xe eD dm aH dq aK dr aL bL aV bM au cK aF
    obtain⟨wL,wM,wN,wO,wP,me,wQ,wR⟩:=RF eE fb bh fc bi dI aT fd aC fe aD cP aE dJ aU (dv.symm) aG
    obtain⟨wS,wT,wU,wV,wW,mf⟩:=Xe eE (dD.symm) aH dK aK dL aL dM aV cr au cQ aF
    obtain⟨wX,wY,wZ,w3,w4,mg,w7,xa⟩:=RF eF ff bh fg bi dN aT fh aC fi aD cR aE dO aU (dw.symm) aG
    obtain⟨xb,xc,xd,xe,xf,mh⟩:=Xe eF (dE.symm) aH dP aK dQ aL dR aV ct au cS aF
    replace gF:My fy lU 71 (O1 (Qj l K (Lk W 1) (el.i) ⟨(((K5 l K W H pre).f 1).1),(((K5 l K W H pre).f 1).2),((K5 l K W H pre).s)⟩)):=gF
    obtain⟨xg,xh,mi⟩:=t3 fA 6 gm 7 gn 9 go
    have xi:lV 14=pt lU 0:=(fA 14).trans (lW 12 rfl)
    have mj:lV 15=iv ((Mf l K (Lk W 1) (el.i) ⟨(((K5 l K W H pre).f 1).1),(((K5 l K W H pre).f 1).2),((K5 l K W H pre).s)⟩).2.1):=(fA 15).trans (lX 14 (by decide) (by decide))
    clear fA lX lW wn wm
    refine KH (KK (KK (KI (KW rfl rfl rfl mj (KJ (.bool (decide (((Mf l K (Lk W 1) (el.i) ⟨(((K5 l K W H pre).f 1).1),(((K5 l K W H pre).f 1).2),((K5 l K W H pre).s)⟩).2.1)≠0))) rfl rfl (Mc rfl rfl rfl rfl rr) (KO ?_))))))
    have xj:=La (.bool (decide (((Mf l K (Lk W 1) (el.i) ⟨(((K5 l K W H pre).f 1).1),(((K5 l K W H pre).f 1).2),((K5 l K W H pre).s)⟩).2.1)≠0)))
    refine KH ?_
    refine Lc xj (fun eG=>?_) (fun eG=>?_)
    ·replace eG:=of_decide_eq_true eG
     refine KK ?_
     have hX:=YC (l:=l) (k:=K) hpv hN (show (Mf l K (Lk W 1) el.i ((K5 l K W H pre).at 1)).2.1≠0 from by assumption)
     refine KI (KW rfl rfl rfl mj (L6 rfl rfl rfl xg rfl l4 (by rfl) (by kernel_rfl) fun Co xk bY=>?_))
     have xl:=lY.all bY fJ.symm
     have xm:=lZ.all bY (fK.symm p1 rfl)
     have xn:=l3.all bY (fL.symm ao rfl)
     have xo:=l5.all bY (bg ae rfl)
     have xp:=l7.all bY (eR ar rfl)
     have xq:=l8.all bY (eU aq rfl)
     have xr:=l9.all bY cA
     have xt:=ma.trans bY (KS.ok (S:=fun i=>(Lh ac) i\/((Lh ae) i\/((Lh ap) i\/(ab i\/(af i\/(ah i\/(ai i\/(aj i\/(ak i\/(am i\/(an i))))))))))) (KS.refl aa (Lh ac)) (fun _ x=>Or.inl x))
     refine L6 rfl rfl rfl xh rfl xo (by rfl) (by kernel_rfl) fun Cp xu bZ=>?_
     have xv:=xl.all bZ fM.symm
     have xw:=xm.all bZ (fN.symm p1 rfl)
     have xx:=xn.all bZ (fO.symm ao rfl)
     have xy:=xk.all bZ (bg.symm ac rfl)
     have xz:=xp.all bZ (eS ar rfl)
     have xA:=xq.all bZ (eV aq rfl)
     have xB:=xr.all bZ cB
     have ml:=xt.trans bZ (KS.ok (S:=fun i=>(Lh ac) i\/((Lh ae) i\/((Lh ap) i\/(ab i\/(af i\/(ah i\/(ai i\/(aj i\/(ak i\/(am i\/(an i))))))))))) (KS.refl aa (Lh ae)) (fun _ x=>Or.inr (Or.inl x)))
     refine KO ?_
     refine KH (Ld (Lq (NV ?_)))
     exact⟨LQ.keeps (LQ.or aC.cells.cb (LQ.or aD.cells.cb (LQ.or aE.cells.cb (LQ.or be.cells.cb (LQ.or (aG.cb bQ.lt) (LQ.or (aH.cb bR.lt) (LQ.or (aI.cb bS.lt) (LQ.or (aJ.cb bT.lt) (LQ.or (aK.cb bU.lt) (LQ.or (aL.cb bV.lt) aF.cells.cb)))))))))) ml,⟨az.trans ml (fun i hi x=>(x.elim (fun y=>((KS.ok (S:=fun _=>False) bA K6) i hi y)) (fun y=>(y.elim (fun y=>((KS.ok (S:=fun _=>False) bB K6) i hi y)) (fun y=>(y.elim (fun y=>((KS.ok (S:=fun _=>False) cz K6) i hi y)) (fun y=>(y.elim (fun y=>((KS.ok (S:=fun _=>False) bm K6) i hi y)) (fun y=>(y.elim (fun y=>((KS.ok (S:=fun _=>False) bn K6) i hi y)) (fun y=>(y.elim (fun y=>((KS.ok (S:=fun _=>False) bo K6) i hi y)) (fun y=>(y.elim (fun y=>((KS.ok (S:=fun _=>False) bp K6) i hi y)) (fun y=>(y.elim (fun y=>((KS.ok (S:=fun _=>False) bq K6) i hi y)) (fun y=>(y.elim (fun y=>((KS.ok (S:=fun _=>False) bt K6) i hi y)) (fun y=>(y.elim (fun y=>((KS.ok (S:=fun _=>False) bu K6) i hi y)) (fun y=>((KS.ok (S:=fun _=>False) bv K6) i hi y)))))))))))))))))))))),xv,xw,xx,xy,(by rw[hX];exact xu),xz,xA,xB,(by rw[hX];assumption)⟩⟩
    ·replace eG:=of_decide_eq_false eG
     refine Li (KH ?_)
     have hce:(Mf l K (Lk W 1) el.i ((K5 l K W H pre).at 1)).2.1=0:=by first|assumption|(apply Decidable.byContradiction;assumption)
     have hX:=aAK (l:=l) (k:=K) hpv hN hce
     have hol:=YF (l:=l) (k:=K) pre
     refine KI (KJ V rfl rfl (MF rfl mi Tryz.underlying32 l6 rfl rr) (KJ (.agg (O1 (Qj l K (Lk W 1) (el.i) ⟨(((K5 l K W H pre).f 1).1),(((K5 l K W H pre).f 1).2),((K5 l K W H pre).s)⟩)).toArray) rfl rfl (KU LH rfl xi gF rr) (SF (r:=Uq) (xs:=[.tmp 46]) (vs:=[.agg (O1 (Qj l K (Lk W 1) (el.i) ⟨(((K5 l K W H pre).f 1).1),(((K5 l K W H pre).f 1).2),((K5 l K W H pre).s)⟩)).toArray]) (l:=[Qj l K (Lk W 1) (el.i) ⟨(((K5 l K W H pre).f 1).1),(((K5 l K W H pre).f 1).2),((K5 l K W H pre).s)⟩]) rfl rfl rfl rfl rfl (Lm rfl LS) rfl (by first|decide|exact Nat.le_of_ble_eq_true rfl) (by first|decide|exact Nat.le_of_ble_eq_true rfl) fun Cq Cs Ct xC Cu gM=>?_)))
     obtain⟨mm,mn,mo,mp,mq,mr,mu,mv,mw,mz,mA,mB,mC,mD⟩:=OB gM lY lZ l3 l4 l5 l6 gG l7 wo ws gH gI wt wu
     obtain⟨mE,mF,xD⟩:=ND gM l8 l9 wy
     have mG:=ma.tr gM
     refine RW (r:=Uq) rfl rfl rfl rfl rfl rfl xD xC.roa (by first|omega|(simp;done)|(simp;omega)) fun xE Cv xF mH gN aO=>?_
     obtain⟨xG,xH,xI,xJ,xK,mI,xL,xM⟩:=RF gN cX mm cY mn cZ mo c5 mp c6 mq c7 mr (mc.symm) mu c9 mv
     obtain⟨xN,xO,xP,xQ,xR,xS,xT,xU⟩:=RF gN (cM.symm) mw (cO.symm) mz (mf.symm) mA (mh.symm) mB (cU.symm) mC (cW.symm) mD da mE bN mF
     have xV:=mm.all aO cX.symm
     have xW:=mn.all aO (cY.symm p1 rfl)
     have xX:=mo.all aO (cZ.symm ao rfl)
     have xY:=mp.all aO (c5.symm ac rfl)
     have xZ:=mq.all aO (c6.symm ae rfl)
     have ya:=mr.all aO (c7.symm ap rfl)
     have yb:=mu.all aO mc
     have yc:=mv.all aO (c9.symm ar rfl)
     have yd:=mw.all aO cM
     have ye:=mz.all aO cO
     have yf:=mA.all aO mf
     have yg:=mB.all aO mh
     have yh:=mC.all aO cU
     have yi:=mD.all aO cW
     have yj:=mE.all aO (da.symm aq rfl)
     have yk:=mF.all aO bN.symm
     have yl:=mG.trans aO (KS.ok (S:=fun i=>(Lh ac) i\/((Lh ae) i\/((Lh ap) i\/(ab i\/(af i\/(ah i\/(ai i\/(aj i\/(ak i\/(am i\/(an i))))))))))) (KS.refl aa an) (fun _ x=>Or.inr (Or.inr (Or.inr (Or.inr (Or.inr (Or.inr (Or.inr (Or.inr (Or.inr (Or.inr x)))))))))))
     refine L6 rfl rfl rfl mi rfl ya mH.oneC (by kernel_rfl) fun Cw ym aP=>?_
     have yn:=xV.all aP fV.symm
     have yo:=xW.all aP (fW.symm p1 rfl)
     have yp:=xX.all aP (fX.symm ao rfl)
     have yq:=xY.all aP (fY.symm ac rfl)
     have yr:=xZ.all aP (fZ.symm ae rfl)
     have ys:=yb.all aP mb
     have yt:=yc.all aP (eT ar rfl)
     have mJ:=yd.all aP cL
     have mK:=ye.all aP cN
     have mL:=yf.all aP me
     have mM:=yg.all aP mg
     have mN:=yh.all aP cT
     have mO:=yi.all aP cV
     have yu:=yj.all aP (eW aq rfl)
     have yv:=yk.all aP cC
     have yw:=mH.all aP mI
     have gO:=yl.trans aP (KS.ok (S:=fun i=>(Lh ac) i\/((Lh ae) i\/((Lh ap) i\/(ab i\/(af i\/(ah i\/(ai i\/(aj i\/(ak i\/(am i\/(an i))))))))))) (KS.refl aa (Lh ap)) (fun _ x=>Or.inr (Or.inr (Or.inl x))))
     refine KO ?_
     refine LD ?_
     exact⟨LQ.keeps (LQ.or aC.cells.cb (LQ.or aD.cells.cb (LQ.or aE.cells.cb (LQ.or be.cells.cb (LQ.or (aG.cb bQ.lt) (LQ.or (aH.cb bR.lt) (LQ.or (aI.cb bS.lt) (LQ.or (aJ.cb bT.lt) (LQ.or (aK.cb bU.lt) (LQ.or (aL.cb bV.lt) aF.cells.cb)))))))))) gO,gO.mono (fun i hi x=>(x.elim (fun y=>fun e=>cA.symm i y (by rw[au.1];exact e)) (fun y=>(y.elim (fun y=>fun e=>cB.symm i y (by rw[au.1];exact e)) (fun y=>(y.elim (fun y=>fun e=>cC.symm i y (by rw[au.1];exact e)) (fun y=>(y.elim (fun y=>fun e=>bM i y (by rw[au.1];exact e)) (fun y=>(y.elim (fun y=>fun e=>co i y (by rw[au.1];exact e)) (fun y=>(y.elim (fun y=>fun e=>cq i y (by rw[au.1];exact e)) (fun y=>(y.elim (fun y=>fun e=>cr i y (by rw[au.1];exact e)) (fun y=>(y.elim (fun y=>fun e=>ct i y (by rw[au.1];exact e)) (fun y=>(y.elim (fun y=>fun e=>cu i y (by rw[au.1];exact e)) (fun y=>(y.elim (fun y=>fun e=>cv i y (by rw[au.1];exact e)) (fun y=>(fun e=>bN i y (by rw[au.1];exact e))))))))))))))))))))))),⟨xE,eA,af,ah,eB,eC,ak,am,xF,(hX.2.2.2.2),az.trans gO (fun i hi x=>(x.elim (fun y=>((KS.ok (S:=fun _=>False) bA K6) i hi y)) (fun y=>(y.elim (fun y=>((KS.ok (S:=fun _=>False) bB K6) i hi y)) (fun y=>(y.elim (fun y=>((KS.ok (S:=fun _=>False) cz K6) i hi y)) (fun y=>(y.elim (fun y=>((KS.ok (S:=fun _=>False) bm K6) i hi y)) (fun y=>(y.elim (fun y=>((KS.ok (S:=fun _=>False) bn K6) i hi y)) (fun y=>(y.elim (fun y=>((KS.ok (S:=fun _=>False) bo K6) i hi y)) (fun y=>(y.elim (fun y=>((KS.ok (S:=fun _=>False) bp K6) i hi y)) (fun y=>(y.elim (fun y=>((KS.ok (S:=fun _=>False) bq K6) i hi y)) (fun y=>(y.elim (fun y=>((KS.ok (S:=fun _=>False) bt K6) i hi y)) (fun y=>(y.elim (fun y=>((KS.ok (S:=fun _=>False) bu K6) i hi y)) (fun y=>((KS.ok (S:=fun _=>False) bv K6) i hi y)))))))))))))))))))))),yn,yo,yp,yq,yr,ym,(by rw[hX.1];exact ys),yt,(by first|(rw[hX.2.2.1];exact mJ)|(rw[hX.2.2.2.1 0 (by decide)];exact mJ)),(by first|(rw[hX.2.2.1];exact mK)|(rw[hX.2.2.2.1 0 (by decide)];exact mK)),(by first|(rw[hX.2.2.1];exact mL)|(rw[hX.2.2.2.1 1 (by decide)];exact mL)),(by first|(rw[hX.2.2.1];exact mM)|(rw[hX.2.2.2.1 1 (by decide)];exact mM)),(by first|(rw[hX.2.2.1];exact mN)|(rw[hX.2.2.2.1 2 (by decide)];exact mN)),(by first|(rw[hX.2.2.1];exact mO)|(rw[hX.2.2.2.1 2 (by decide)];exact mO)),yu,yv,(by rw[hX.2.1];exact yw),bm.trans az ((KS.refl aa ab).trans bj eD),bn.trans az (KS.refl aa af),bo.trans az (KS.refl aa ah),bp.trans az ((KS.refl aa ai).trans bj eE),bq.trans az ((KS.refl aa aj).trans bj eF),bt.trans az (KS.refl aa ak),bu.trans az (KS.refl aa am),bv.trans az (KS.trans (KS.refl aa an) mG gN),wz,wA,wB,wC,wD,mb,wE,wF,wG,gJ,gK,wH,wI,wJ,wK,xL.symm,eX,eY,dt,eZ,e6,cL,du,gh,wR.symm,xa.symm,dy,dz,dA,co,xN.symm,e7,e8,dB,e9,fa,cN,dC,wS.symm,xb.symm,dF,dG,dH,cq,xO.symm,wL,wM,wN,wO,wP,me,wQ,gL,wT,wU,wV,wW,xP.symm,wX,wY,wZ,w3,w4,mg,w7,xc,xd,xe,xf,xQ.symm,fj,fk,dS,fm,fo,cT,dT,gj,dU,cu,xR.symm,fp,fq,dV,ft,fu,cV,dW,dX,cv,xS.symm,xG,xH,xI,xJ,xK,mI,xM,xT,xU⟩⟩
   ·skip
    have mP:My aa aw 65 [iv ((2:Nat):Int),iv (pX (Lk W 2) el.i),iv (pY (Lk W 2) el.i)]:=by have h_:=bz;rw[hpv] at h_;exact h_
    have hwp:=RJ (W:=W) (p:=2) hsd.1
    have hwl:=OC (W:=W) (p:=2) hsd.2.1
    have hwh:=OC (W:=H) (p:=2) hsd.2.2.2.2.1
    have hwn:Lk W 2*Lk H 2<=16*16:=Nat.mul_le_mul hwl hwh
    rw[hpv] at hei
    refine QN (γ:=(Nat->Prop)×(Nat->Prop)×(Nat->Prop)) [(9,8),(10,8),(11,8),(13,8),(14,8),(13,12),(14,12)] [some 31,some 32,some 33,some 34,some 35,some 36,some 37,some 38,some 39,some 30,some 40,some 41,some 14,none,some 15] ⟨fun w_=>Ps w_ ab aA l ((K5 l K W H pre).s)/\Pe w_ ak bc di (((K5 l K W H pre).f 2).1)/\Pe w_ am bd dj (((K5 l K W H pre).f 2).2),fun i=>ab i\/(ak i\/(am i)),fun g_ w_=>(Ps w_ (g_.1) aA l ((RH l K (Lk W 2) (el.i) ⟨(((K5 l K W H pre).f 2).1),(((K5 l K W H pre).f 2).2),((K5 l K W H pre).s)⟩).s)/\KS aa ab (g_.1))/\(Pe w_ (g_.2.1) bc di ((RH l K (Lk W 2) (el.i) ⟨(((K5 l K W H pre).f 2).1),(((K5 l K W H pre).f 2).2),((K5 l K W H pre).s)⟩).a)/\KS aa ak (g_.2.1))/\(Pe w_ (g_.2.2) bd dj ((RH l K (Lk W 2) (el.i) ⟨(((K5 l K W H pre).f 2).1),(((K5 l K W H pre).f 2).2),((K5 l K W H pre).s)⟩).b)/\KS aa am (g_.2.2))/\KM (g_.1) (g_.2.1)/\KM (g_.1) (g_.2.2)/\KM (g_.2.1) (g_.2.2),fun g_=>fun i=>(g_.1) i\/((g_.2.1) i\/((g_.2.2) i)),fun p_ w_=>My w_ p_ 71 (Oh 0 0 0 0 0 (fun _=>(0:Int))),fun g_ p_ w_=>My w_ p_ 71 (O1 (Qj l K (Lk W 2) (el.i) ⟨(((K5 l K W H pre).f 2).1),(((K5 l K W H pre).f 2).2),((K5 l K W H pre).s)⟩))⟩ (fun i=>ab i\/(ak i\/(am i))) (fun p_=>aa.heap.size<=p_) [fun g_=>pt aA 0,fun g_=>pt ao 0,fun g_=>iv K,fun g_=>pt aw 0,fun g_=>iv ((2:Nat):Int),fun g_=>pt aq 4,fun g_=>.agg #[bc,bd],fun g_=>.agg #[iv ((2:Nat):Int),iv (pX (Lk W 2) el.i),iv (pY (Lk W 2) el.i)],fun g_=>.tuple #[.agg (O1 (Qj l K (Lk W 2) (el.i) ⟨(((K5 l K W H pre).f 2).1),(((K5 l K W H pre).f 2).2),((K5 l K W H pre).s)⟩)).toArray,iv ((Mf l K (Lk W 2) (el.i) ⟨(((K5 l K W H pre).f 2).1),(((K5 l K W H pre).f 2).2),((K5 l K W H pre).s)⟩).2.1)],fun g_=>.tuple #[.agg (O1 (Qj l K (Lk W 2) (el.i) ⟨(((K5 l K W H pre).f 2).1),(((K5 l K W H pre).f 2).2),((K5 l K W H pre).s)⟩)).toArray,iv ((Mf l K (Lk W 2) (el.i) ⟨(((K5 l K W H pre).f 2).1),(((K5 l K W H pre).f 2).2),((K5 l K W H pre).s)⟩).2.1)],fun g_=>.agg (O1 (Qj l K (Lk W 2) (el.i) ⟨(((K5 l K W H pre).f 2).1),(((K5 l K W H pre).f 2).2),((K5 l K W H pre).s)⟩)).toArray,fun g_=>iv ((Mf l K (Lk W 2) (el.i) ⟨(((K5 l K W H pre).f 2).1),(((K5 l K W H pre).f 2).2),((K5 l K W H pre).s)⟩).2.1),fun _=>undef,fun _=>undef,fun g_=>iv ((Mf l K (Lk W 2) (el.i) ⟨(((K5 l K W H pre).f 2).1),(((K5 l K W H pre).f 2).2),((K5 l K W H pre).s)⟩).2.1)] 8 13 (some 12) (Ma,Ma,Ma) 0 (by kernel_rfl) (by kernel_rfl) (by kernel_rfl) (by kernel_rfl) ⟨.inr (.inr fun _ _=>rfl),⟨.inr (.inr fun _ _=>rfl),⟨.inr (.inr fun _ _=>rfl),⟨.inr (.inr fun _ _=>rfl),⟨.inr (.inr fun _ _=>rfl),⟨.inr (.inr fun _ _=>rfl),⟨.inr (.inr fun _ _=>rfl),⟨.inr (.inr fun _ _=>rfl),⟨.inr (.inl rfl),⟨.inl rfl,⟨.inl rfl,⟨.inl rfl,⟨.inr (.inr fun _ _=>rfl),⟨.inl rfl,⟨.inl rfl,trivial⟩⟩⟩⟩⟩⟩⟩⟩⟩⟩⟩⟩⟩⟩⟩ ⟨⟨be,aK,aL⟩,fun w w1 S1 h k a=>by obtain⟨h0_,h1_,h2_⟩:=h;exact⟨h0_.all k (fun i z=>a i (Or.inl z)),h1_.all k (fun i z=>a i (Or.inr (Or.inl z))),h2_.all k (fun i z=>a i (Or.inr (Or.inr z)))⟩,fun w h i z=>by obtain⟨h0_,h1_,h2_⟩:=h;rcases z with z|z|z <;> first|exact h0_.live i z|exact h1_.live i z|exact h2_.live i z,fun g w w1 S1 h k a=>by obtain⟨⟨b0_,g0_⟩,⟨b1_,g1_⟩,⟨b2_,g2_⟩,a0_1_,a0_2_,a1_2_⟩:=h;exact⟨⟨b0_.all k (fun i z=>a i (Or.inl z)),g0_⟩,⟨b1_.all k (fun i z=>a i (Or.inr (Or.inl z))),g1_⟩,⟨b2_.all k (fun i z=>a i (Or.inr (Or.inr z))),g2_⟩,a0_1_,a0_2_,a1_2_⟩,fun g w h i z=>by obtain⟨⟨b0_,g0_⟩,⟨b1_,g1_⟩,⟨b2_,g2_⟩,a0_1_,a0_2_,a1_2_⟩:=h;rcases z with z|z|z <;> first|exact b0_.live i z|exact b1_.live i z|exact b2_.live i z,fun _ _ _ _ h k z=>h.all k z,fun _ _ h=>h.lt,fun _ _ _ _ _ h k z=>h.all k z,fun _ z=>z,fun _ h=>.inr h,fun p h z=>by rcases z with z|z|z <;> first|exact absurd h (Nat.not_le.2 (be.live p z))|exact absurd h (Nat.not_le.2 (aK.live p z))|exact absurd h (Nat.not_le.2 (aL.live p z))⟩ (fun _ _ _ h=>h) (fun e=>by cases e) ?_ ?_
    ·refine KY ?_ ?_
     ·refine Ln.one rfl rfl rfl rfl fun g_ p_ F_ w_ hR hout hD=>?_
      exact(MF rfl ((hout 10 rfl (by decide)).trans gp) Tryz.underlying54 (aU.all hR (fun x=>(x.elim (fun y=>((bK.symm) ar rfl y)) (fun y=>(y.elim (fun y=>((dT.symm) ar rfl y)) (fun y=>((dW.symm) ar rfl y))))))) rfl ⟨rfl,KP.refl _ _⟩)
     refine KY ?_ ?_
     ·refine Ln.one rfl rfl rfl rfl fun g_ p_ F_ w_ hR hout hD=>?_
      exact(KT (n:=1) rfl ((hout 4 rfl (by decide)).trans gl) Tryz.underlying25 rfl (by kernel_rfl) (by decide) rfl ⟨rfl,KP.refl _ _⟩)
     refine KY ?_ ?_
     ·refine Ln.one rfl rfl rfl rfl fun g_ p_ F_ w_ hR hout hD=>?_
      have dZ:F_ 32=pt ao 0:=(hD.get 0 rfl rfl rfl).2 (by decide)
      exact(KV rfl dZ Tryz.underlying3 (aT.all hR (fun x=>(x.elim (fun y=>((bJ.symm) ao rfl y)) (fun y=>(y.elim (fun y=>((dS.symm) ao rfl y)) (fun y=>((dV.symm) ao rfl y))))))) rfl rfl ⟨rfl,KP.refl _ _⟩)
     refine KY ?_ ?_
     ·refine Ln.one rfl rfl rfl rfl fun g_ p_ F_ w_ hR hout hD=>?_
      exact(KT (n:=1) rfl ((hout 13 rfl (by decide)).trans db) Tryz.underlying65 rfl (by kernel_rfl) (by decide) rfl ⟨rfl,KP.refl _ _⟩)
     refine KY ?_ ?_
     ·refine Ln.one rfl rfl rfl rfl fun g_ p_ F_ w_ hR hout hD=>?_
      have d8:F_ 34=pt aw 0:=(hD.get 0 rfl rfl rfl).2 (by decide)
      exact(KV rfl d8 Tryz.underlying3 (mP.all hR (fun x=>(x.elim (fun y=>(dc aw rfl y)) (fun y=>(y.elim (fun y=>(kO aw rfl y)) (fun y=>(kP aw rfl y))))))) rfl rfl ⟨rfl,KP.refl _ _⟩)
     refine KY ?_ ?_
     ·refine Ln.one rfl rfl rfl rfl fun g_ p_ F_ w_ hR hout hD=>?_
      have d9:F_ 35=iv ((2:Nat):Int):=(hD.get 0 rfl rfl rfl).2 (by decide)
      exact(LU 2 (s:=2) rfl ((hout 11 rfl (by decide)).trans gq) d9 (by omega) Tryz.underlying59 (by omega) (by kernel_rfl) (by omega) ⟨rfl,KP.refl _ _⟩)
     refine KY ?_ ?_
     ·refine Ln.one rfl rfl rfl rfl fun g_ p_ F_ w_ hR hout hD=>?_
      have eb:F_ 36=pt aq 4:=(hD.get 0 rfl rfl rfl).2 (by decide)
      exact(O8 (n:=2) VP rfl eb (aV.all hR (fun x=>(x.elim (fun y=>((bL.symm) aq rfl y)) (fun y=>(y.elim (fun y=>((dU.symm) aq rfl y)) (fun y=>((dX.symm) aq rfl y))))))) (Nat.le_of_ble_eq_true rfl) rfl ⟨rfl,KP.refl _ _⟩)
     refine KY ?_ ?_
     ·refine Ln.one rfl rfl rfl rfl fun g_ p_ F_ w_ hR hout hD=>?_
      exact(KU P7 rfl ((hout 13 rfl (by decide)).trans db) (mP.all hR (fun x=>(x.elim (fun y=>(dc aw rfl y)) (fun y=>(y.elim (fun y=>(kO aw rfl y)) (fun y=>(kP aw rfl y))))))) ⟨rfl,KP.refl _ _⟩)
     refine KY ?_ ?_
     ·refine Ln.call rfl rfl rfl rfl fun g_ p_ F_ w_ hR hout hD hP_=>?_
      have ee:F_ 31=pt aA 0:=(hD.get 0 rfl rfl rfl).2 (by decide)
      have eh:F_ 33=iv K:=(hD.get 1 rfl rfl rfl).2 (by decide)
      have ei:F_ 37 = .agg #[bc,bd]:=(hD.get 2 rfl rfl rfl).2 (by decide)
      have ek:F_ 38 = .agg #[iv ((2:Nat):Int),iv (pX (Lk W 2) el.i),iv (pY (Lk W 2) el.i)]:=(hD.get 3 rfl rfl rfl).2 (by decide)
      exact(LE rfl rfl rfl (fun _ _=>by kernel_rfl) (K4 _) (Lm ee (Lm eh (Lm ei (Lm ek LS)))) (W6 aA l ((K5 l K W H pre).s) K ((2:Nat):Int) (Lk W 2) (el.i) bc bd di dj (((K5 l K W H pre).f 2).1) (((K5 l K W H pre).f 2).2) ab ak am _ (gr.but hR (by rintro i (h|h|h) <;> first|exact hab0 _ h|exact hab1 _ h|exact hab2 _ h|exact hab3 _ h|exact hab4 _ h|exact hab5 _ h|exact hab6 _ h|exact hab7 _ h)) (hO2.but hR (ovO (by rintro i (h|h|h) <;> first|exact hab0 _ h|exact hab1 _ h|exact hab2 _ h|exact hab3 _ h|exact hab4 _ h|exact hab5 _ h|exact hab6 _ h|exact hab7 _ h))) (by first|exact hab0|exact hab1|exact hab2|exact hab3|exact hab4|exact hab5|exact hab6|exact hab7) (by first|exact hab0|exact hab1|exact hab2|exact hab3|exact hab4|exact hab5|exact hab6|exact hab7) (by first|exact hab0|exact hab1|exact hab2|exact hab3|exact hab4|exact hab5|exact hab6|exact hab7) hwp hwl (by omega) hP_.1 hP_.2.1 hP_.2.2 dq dr gj) (fun e_ w_ h_=>by obtain⟨x0_,x1_,x2_,he_,hk_,⟨b0_,g0_⟩,⟨b1_,g1_⟩,⟨b2_,g2_⟩,a0_1_,a0_2_,a1_2_⟩:=h_;exact⟨_,he_,⟨x0_,x1_,x2_⟩,rfl,hk_,⟨⟨b0_,(KS.refl aa _).trans hR g0_⟩,⟨b1_,(KS.refl aa _).trans hR g1_⟩,⟨b2_,(KS.refl aa _).trans hR g2_⟩,a0_1_,a0_2_,a1_2_⟩,fun b hb=>by rcases hb with hb|hb|hb <;> first|exact(g0_ b hb).elim (fun z=>.inl (Or.inl z)) .inr|exact(g1_ b hb).elim (fun z=>.inl (Or.inr (Or.inl z))) .inr|exact(g2_ b hb).elim (fun z=>.inl (Or.inr (Or.inr z))) .inr⟩))
     refine KY ?_ ?_
     ·refine Ln.one rfl rfl rfl rfl fun g_ p_ F_ w_ hR hout hD=>?_
      have en:F_ 39 = .tuple #[.agg (O1 (Qj l K (Lk W 2) (el.i) ⟨(((K5 l K W H pre).f 2).1),(((K5 l K W H pre).f 2).2),((K5 l K W H pre).s)⟩)).toArray,iv ((Mf l K (Lk W 2) (el.i) ⟨(((K5 l K W H pre).f 2).1),(((K5 l K W H pre).f 2).2),((K5 l K W H pre).s)⟩).2.1)]:=(hD.get 0 rfl rfl rfl).2 (by decide)
      exact(KQ rfl en ⟨rfl,KP.refl _ _⟩)
     refine KY ?_ ?_
     ·refine Ln.one rfl rfl rfl rfl fun g_ p_ F_ w_ hR hout hD=>?_
      have bl:F_ 30 = .tuple #[.agg (O1 (Qj l K (Lk W 2) (el.i) ⟨(((K5 l K W H pre).f 2).1),(((K5 l K W H pre).f 2).2),((K5 l K W H pre).s)⟩)).toArray,iv ((Mf l K (Lk W 2) (el.i) ⟨(((K5 l K W H pre).f 2).1),(((K5 l K W H pre).f 2).2),((K5 l K W H pre).s)⟩).2.1)]:=(hD.get 0 rfl rfl rfl).2 (by decide)
      exact(LM rfl bl rfl ⟨rfl,KP.refl _ _⟩)
     refine KY ?_ ?_
     ·refine Ln.one rfl rfl rfl rfl fun g_ p_ F_ w_ hR hout hD=>?_
      have bl:F_ 30 = .tuple #[.agg (O1 (Qj l K (Lk W 2) (el.i) ⟨(((K5 l K W H pre).f 2).1),(((K5 l K W H pre).f 2).2),((K5 l K W H pre).s)⟩)).toArray,iv ((Mf l K (Lk W 2) (el.i) ⟨(((K5 l K W H pre).f 2).1),(((K5 l K W H pre).f 2).2),((K5 l K W H pre).s)⟩).2.1)]:=(hD.get 0 rfl rfl rfl).2 (by decide)
      exact(LM rfl bl rfl ⟨rfl,KP.refl _ _⟩)
     refine KY ?_ ?_
     ·refine Ln.alloc rfl rfl rfl rfl fun F_ w_ hR=>?_
      exact Py (n:=21) (vs:=(Oh 0 0 0 0 0 (fun _=>(0:Int)))) rfl (by kernel_rfl) ⟨_,rfl,Nat.le_refl _,heap_alloc_new _ _,(KP.refl _ _).alloc _⟩
     refine KY ?_ ?_
     ·refine Ln.store rfl rfl rfl rfl fun g_ p_ F_ w_ hR hout hD hO_ hZ_ hQ_=>?_
      have cy:F_ 14=pt p_ 0:=(hD.get 0 rfl rfl rfl).1 rfl
      have eo:F_ 40 = .agg (O1 (Qj l K (Lk W 2) (el.i) ⟨(((K5 l K W H pre).f 2).1),(((K5 l K W H pre).f 2).2),((K5 l K W H pre).s)⟩)).toArray:=(hD.get 1 rfl rfl rfl).2 (by decide)
      exact Qn (us:=(O1 (Qj l K (Lk W 2) (el.i) ⟨(((K5 l K W H pre).f 2).1),(((K5 l K W H pre).f 2).2),((K5 l K W H pre).s)⟩))) LH rfl cy eo hZ_ rfl (K2 rfl (K2 rfl (K2 rfl (K2 rfl (K2 rfl (K2 rfl (K2 rfl (K2 rfl (K2 rfl (K2 rfl (K2 rfl (K2 rfl (K2 rfl (K2 rfl (K2 rfl (K2 rfl (K2 rfl (K2 rfl (K2 rfl (K2 rfl (K2 rfl MI))))))))))))))))))))) fun w2_ b_ k_=>⟨rfl,k_,b_⟩
     refine KY ?_ ?_
     ·refine Ln.one rfl rfl rfl rfl fun g_ p_ F_ w_ hR hout hD=>?_
      have ep:F_ 41=iv ((Mf l K (Lk W 2) (el.i) ⟨(((K5 l K W H pre).f 2).1),(((K5 l K W H pre).f 2).2),((K5 l K W H pre).s)⟩).2.1):=(hD.get 0 rfl rfl rfl).2 (by decide)
      exact(KX rfl ep ⟨rfl,KP.refl _ _⟩)
     exact Nr
    intro yx mQ Cx mR fB aY Cy yz yA gP yB mS mT fC
    obtain⟨eH,eI,eJ⟩:=yx
    have mU:=bh.all aY (fun i h x=>(x.elim (fun y=>((cF.symm) i h y)) (fun y=>(y.elim (fun y=>((fj.symm) i h y)) (fun y=>((fp.symm) i h y))))))
    have mV:=bi.all aY (fun x=>(x.elim (fun y=>((cG.symm) p1 rfl y)) (fun y=>(y.elim (fun y=>((fk.symm) p1 rfl y)) (fun y=>((fq.symm) p1 rfl y))))))
    have mW:=aT.all aY (fun x=>(x.elim (fun y=>((bJ.symm) ao rfl y)) (fun y=>(y.elim (fun y=>((dS.symm) ao rfl y)) (fun y=>((dV.symm) ao rfl y))))))
    have mX:=aC.all aY (fun x=>(x.elim (fun y=>((cH.symm) ac rfl y)) (fun y=>(y.elim (fun y=>((fm.symm) ac rfl y)) (fun y=>((ft.symm) ac rfl y))))))
    have mY:=aD.all aY (fun x=>(x.elim (fun y=>((cI.symm) ae rfl y)) (fun y=>(y.elim (fun y=>((fo.symm) ae rfl y)) (fun y=>((fu.symm) ae rfl y))))))
    have mZ:=aE.all aY (fun x=>(x.elim (fun y=>((cJ.symm) ap rfl y)) (fun y=>(y.elim (fun y=>((cT.symm) ap rfl y)) (fun y=>((cV.symm) ap rfl y))))))
    have m2:=aU.all aY (fun x=>(x.elim (fun y=>((bK.symm) ar rfl y)) (fun y=>(y.elim (fun y=>((dT.symm) ar rfl y)) (fun y=>((dW.symm) ar rfl y))))))
    have yC:=aG.all aY (fun i h x=>(x.elim (fun y=>((dl.symm) i h y)) (fun y=>(y.elim (fun y=>(dy i h y)) (fun y=>(dz i h y))))))
    have yD:=aH.all aY (fun i h x=>(x.elim (fun y=>((dm.symm) i h y)) (fun y=>(y.elim (fun y=>(dF i h y)) (fun y=>(dG i h y))))))
    have yE:=aI.all aY (fun i h x=>(x.elim (fun y=>((dn.symm) i h y)) (fun y=>(y.elim (fun y=>(dK i h y)) (fun y=>(dL i h y))))))
    have yF:=aJ.all aY (fun i h x=>(x.elim (fun y=>((dp.symm) i h y)) (fun y=>(y.elim (fun y=>(dP i h y)) (fun y=>(dQ i h y))))))
    have m3:=aV.all aY (fun x=>(x.elim (fun y=>((bL.symm) aq rfl y)) (fun y=>(y.elim (fun y=>((dU.symm) aq rfl y)) (fun y=>((dX.symm) aq rfl y))))))
    have m4:=au.all aY (fun i h x=>(x.elim (fun y=>((bM.symm) i h y)) (fun y=>(y.elim (fun y=>((cu.symm) i h y)) (fun y=>((cv.symm) i h y))))))
    have yG:=aF.all aY (fun i h x=>(x.elim (fun y=>((cK.symm) i h y)) (fun y=>(y.elim (fun y=>((cU.symm) i h y)) (fun y=>((cW.symm) i h y))))))
    have m7:=bj.trans aY (fun i hi x=>(x.elim (fun y=>((KS.ok (S:=fun i=>(Lh ac) i\/((Lh ae) i\/((Lh ap) i\/(ab i\/(af i\/(ah i\/(ai i\/(aj i\/(ak i\/(am i\/(an i))))))))))) (KS.refl aa ab) (fun _ x=>Or.inr (Or.inr (Or.inr (Or.inl x))))) i hi y)) (fun y=>(y.elim (fun y=>((KS.ok (S:=fun i=>(Lh ac) i\/((Lh ae) i\/((Lh ap) i\/(ab i\/(af i\/(ah i\/(ai i\/(aj i\/(ak i\/(am i\/(an i))))))))))) (KS.refl aa ak) (fun _ x=>Or.inr (Or.inr (Or.inr (Or.inr (Or.inr (Or.inr (Or.inr (Or.inr (Or.inl x)))))))))) i hi y)) (fun y=>((KS.ok (S:=fun i=>(Lh ac) i\/((Lh ae) i\/((Lh ap) i\/(ab i\/(af i\/(ah i\/(ai i\/(aj i\/(ak i\/(am i\/(an i))))))))))) (KS.refl aa am) (fun _ x=>Or.inr (Or.inr (Or.inr (Or.inr (Or.inr (Or.inr (Or.inr (Or.inr (Or.inr (Or.inl x))))))))))) i hi y))))))
    obtain⟨⟨gQ,eK⟩,⟨gR,eL⟩,⟨gS,eM⟩,gT,gU,gV⟩:=yz
    replace gQ:Ps fB eH aA l ((RH l K (Lk W 2) (el.i) ⟨(((K5 l K W H pre).f 2).1),(((K5 l K W H pre).f 2).2),((K5 l K W H pre).s)⟩).s):=gQ
    replace gR:Pe fB eI bc di ((RH l K (Lk W 2) (el.i) ⟨(((K5 l K W H pre).f 2).1),(((K5 l K W H pre).f 2).2),((K5 l K W H pre).s)⟩).a):=gR
    replace gS:Pe fB eJ bd dj ((RH l K (Lk W 2) (el.i) ⟨(((K5 l K W H pre).f 2).1),(((K5 l K W H pre).f 2).2),((K5 l K W H pre).s)⟩).b):=gS
    replace eK:KS aa ab eH:=eK
    replace eL:KS aa ak eI:=eL
    replace eM:KS aa am eJ:=eM
    replace gT:KM eH eI:=gT
    replace gU:KM eH eJ:=gU
    replace gV:KM eI eJ:=gV
    obtain⟨yH,yI,yJ,yK,yL,m8,yM,yN⟩:=RF eK cF bh cG bi bJ aT cH aC cI aD cJ aE bK aU dl aG
    obtain⟨yO,yP,yQ,yR,yT,m9⟩:=Xe eK dm aH dn aI dp aJ bL aV bM au cK aF
    obtain⟨yU,yV,yW,yX,yY,nb,yZ,y5⟩:=RF eL fj bh fk bi dS aT fm aC fo aD cT aE dT aU (dy.symm) aG
    obtain⟨y6,y7,y8,y9,za,nc⟩:=Xe eL (dF.symm) aH (dK.symm) aI (dP.symm) aJ dU aV cu au cU aF
    obtain⟨zb,zc,zd,ze,zf,nd,zg,zh⟩:=RF eM fp bh fq bi dV aT ft aC fu aD cV aE dW aU (dz.symm) aG
    obtain⟨zi,zj,zk,zl,zm,nf⟩:=Xe eM (dG.symm) aH (dL.symm) aI (dQ.symm) aJ dX aV cv au cW aF
    replace gP:My fB mQ 71 (O1 (Qj l K (Lk W 2) (el.i) ⟨(((K5 l K W H pre).f 2).1),(((K5 l K W H pre).f 2).2),((K5 l K W H pre).s)⟩)):=gP
    obtain⟨zn,zo,nh⟩:=t3 fC 6 gm 7 gn 9 go
    have zp:mR 14=pt mQ 0:=(fC 14).trans (mS 12 rfl)
    have ni:mR 15=iv ((Mf l K (Lk W 2) (el.i) ⟨(((K5 l K W H pre).f 2).1),(((K5 l K W H pre).f 2).2),((K5 l K W H pre).s)⟩).2.1):=(fC 15).trans (mT 14 (by decide) (by decide))
    clear fC mT mS yB yA
    refine KH (KK (KK (KI (KW rfl rfl rfl ni (KJ (.bool (decide (((Mf l K (Lk W 2) (el.i) ⟨(((K5 l K W H pre).f 2).1),(((K5 l K W H pre).f 2).2),((K5 l K W H pre).s)⟩).2.1)≠0))) rfl rfl (Mc rfl rfl rfl rfl rr) (KO ?_))))))
    have zq:=La (.bool (decide (((Mf l K (Lk W 2) (el.i) ⟨(((K5 l K W H pre).f 2).1),(((K5 l K W H pre).f 2).2),((K5 l K W H pre).s)⟩).2.1)≠0)))
    refine KH ?_
    refine Lc zq (fun eN=>?_) (fun eN=>?_)
    ·replace eN:=of_decide_eq_true eN
     refine KK ?_
     have hX:=YC (l:=l) (k:=K) hpv hN (show (Mf l K (Lk W 2) el.i ((K5 l K W H pre).at 2)).2.1≠0 from by assumption)
     refine KI (KW rfl rfl rfl ni (L6 rfl rfl rfl zn rfl mX (by rfl) (by kernel_rfl) fun Cz zr b7=>?_))
     have zt:=mU.all b7 fJ.symm
     have zu:=mV.all b7 (fK.symm p1 rfl)
     have zv:=mW.all b7 (fL.symm ao rfl)
     have zw:=mY.all b7 (bg ae rfl)
     have zx:=m2.all b7 (eR ar rfl)
     have zy:=m3.all b7 (eU aq rfl)
     have zz:=m4.all b7 cA
     have zA:=m7.trans b7 (KS.ok (S:=fun i=>(Lh ac) i\/((Lh ae) i\/((Lh ap) i\/(ab i\/(af i\/(ah i\/(ai i\/(aj i\/(ak i\/(am i\/(an i))))))))))) (KS.refl aa (Lh ac)) (fun _ x=>Or.inl x))
     refine L6 rfl rfl rfl zo rfl zw (by rfl) (by kernel_rfl) fun CA zB b8=>?_
     have zC:=zt.all b8 fM.symm
     have zD:=zu.all b8 (fN.symm p1 rfl)
     have zE:=zv.all b8 (fO.symm ao rfl)
     have zF:=zr.all b8 (bg.symm ac rfl)
     have zG:=zx.all b8 (eS ar rfl)
     have zH:=zy.all b8 (eV aq rfl)
     have zI:=zz.all b8 cB
     have nj:=zA.trans b8 (KS.ok (S:=fun i=>(Lh ac) i\/((Lh ae) i\/((Lh ap) i\/(ab i\/(af i\/(ah i\/(ai i\/(aj i\/(ak i\/(am i\/(an i))))))))))) (KS.refl aa (Lh ae)) (fun _ x=>Or.inr (Or.inl x)))
     refine KO ?_
     refine KH (Ld (Lq (NV ?_)))
     exact⟨LQ.keeps (LQ.or aC.cells.cb (LQ.or aD.cells.cb (LQ.or aE.cells.cb (LQ.or be.cells.cb (LQ.or (aG.cb bQ.lt) (LQ.or (aH.cb bR.lt) (LQ.or (aI.cb bS.lt) (LQ.or (aJ.cb bT.lt) (LQ.or (aK.cb bU.lt) (LQ.or (aL.cb bV.lt) aF.cells.cb)))))))))) nj,⟨az.trans nj (fun i hi x=>(x.elim (fun y=>((KS.ok (S:=fun _=>False) bA K6) i hi y)) (fun y=>(y.elim (fun y=>((KS.ok (S:=fun _=>False) bB K6) i hi y)) (fun y=>(y.elim (fun y=>((KS.ok (S:=fun _=>False) cz K6) i hi y)) (fun y=>(y.elim (fun y=>((KS.ok (S:=fun _=>False) bm K6) i hi y)) (fun y=>(y.elim (fun y=>((KS.ok (S:=fun _=>False) bn K6) i hi y)) (fun y=>(y.elim (fun y=>((KS.ok (S:=fun _=>False) bo K6) i hi y)) (fun y=>(y.elim (fun y=>((KS.ok (S:=fun _=>False) bp K6) i hi y)) (fun y=>(y.elim (fun y=>((KS.ok (S:=fun _=>False) bq K6) i hi y)) (fun y=>(y.elim (fun y=>((KS.ok (S:=fun _=>False) bt K6) i hi y)) (fun y=>(y.elim (fun y=>((KS.ok (S:=fun _=>False) bu K6) i hi y)) (fun y=>((KS.ok (S:=fun _=>False) bv K6) i hi y)))))))))))))))))))))),zC,zD,zE,zF,(by rw[hX];exact zB),zG,zH,zI,(by rw[hX];assumption)⟩⟩
    ·replace eN:=of_decide_eq_false eN
     refine Li (KH ?_)
     have hce:(Mf l K (Lk W 2) el.i ((K5 l K W H pre).at 2)).2.1=0:=by first|assumption|(apply Decidable.byContradiction;assumption)
     have hX:=aAK (l:=l) (k:=K) hpv hN hce
     have hol:=YF (l:=l) (k:=K) pre
     refine KI (KJ V rfl rfl (MF rfl nh Tryz.underlying32 mZ rfl rr) (KJ (.agg (O1 (Qj l K (Lk W 2) (el.i) ⟨(((K5 l K W H pre).f 2).1),(((K5 l K W H pre).f 2).2),((K5 l K W H pre).s)⟩)).toArray) rfl rfl (KU LH rfl zp gP rr) (SF (r:=Uq) (xs:=[.tmp 46]) (vs:=[.agg (O1 (Qj l K (Lk W 2) (el.i) ⟨(((K5 l K W H pre).f 2).1),(((K5 l K W H pre).f 2).2),((K5 l K W H pre).s)⟩)).toArray]) (l:=[Qj l K (Lk W 2) (el.i) ⟨(((K5 l K W H pre).f 2).1),(((K5 l K W H pre).f 2).2),((K5 l K W H pre).s)⟩]) rfl rfl rfl rfl rfl (Lm rfl LS) rfl (by first|decide|exact Nat.le_of_ble_eq_true rfl) (by first|decide|exact Nat.le_of_ble_eq_true rfl) fun CB CC CD zJ CE gW=>?_)))
     obtain⟨nk,nl,np,nr,nt,nu,nv,nw,nz,nA,nB,nC,nD,nE⟩:=OB gW mU mV mW mX mY mZ gQ m2 yC yD yE yF gR gS
     obtain⟨nF,nG,zK⟩:=ND gW m3 m4 yG
     have nH:=m7.tr gW
     refine RW (r:=Uq) rfl rfl rfl rfl rfl rfl zK zJ.roa (by first|omega|(simp;done)|(simp;omega)) fun zM CF zN nI gZ aQ=>?_
     obtain⟨zO,zP,zQ,zR,zT,nJ,zU,zV⟩:=RF gZ cX nk cY nl cZ np c5 nr c6 nt c7 nu (m9.symm) nv c9 nw
     obtain⟨zW,zX,zY,zZ,z1,z2,z3,z4⟩:=RF gZ (cM.symm) nz (cO.symm) nA (cQ.symm) nB (cS.symm) nC (nc.symm) nD (nf.symm) nE da nF bN nG
     have z5:=nk.all aQ cX.symm
     have z6:=nl.all aQ (cY.symm p1 rfl)
     have z7:=np.all aQ (cZ.symm ao rfl)
     have z8:=nr.all aQ (c5.symm ac rfl)
     have z9:=nt.all aQ (c6.symm ae rfl)
     have Aa:=nu.all aQ (c7.symm ap rfl)
     have Ab:=nv.all aQ m9
     have Ac:=nw.all aQ (c9.symm ar rfl)
     have Ad:=nz.all aQ cM
     have Ae:=nA.all aQ cO
     have Af:=nB.all aQ cQ
     have Ag:=nC.all aQ cS
     have Ah:=nD.all aQ nc
     have Ai:=nE.all aQ nf
     have Aj:=nF.all aQ (da.symm aq rfl)
     have Ak:=nG.all aQ bN.symm
     have Al:=nH.trans aQ (KS.ok (S:=fun i=>(Lh ac) i\/((Lh ae) i\/((Lh ap) i\/(ab i\/(af i\/(ah i\/(ai i\/(aj i\/(ak i\/(am i\/(an i))))))))))) (KS.refl aa an) (fun _ x=>Or.inr (Or.inr (Or.inr (Or.inr (Or.inr (Or.inr (Or.inr (Or.inr (Or.inr (Or.inr x)))))))))))
     refine L6 rfl rfl rfl nh rfl Aa nI.oneC (by kernel_rfl) fun CG Am aR=>?_
     have An:=z5.all aR fV.symm
     have Ao:=z6.all aR (fW.symm p1 rfl)
     have Ap:=z7.all aR (fX.symm ao rfl)
     have Aq:=z8.all aR (fY.symm ac rfl)
     have Ar:=z9.all aR (fZ.symm ae rfl)
     have As:=Ab.all aR m8
     have At:=Ac.all aR (eT ar rfl)
     have nK:=Ad.all aR cL
     have nL:=Ae.all aR cN
     have nM:=Af.all aR cP
     have nN:=Ag.all aR cR
     have nO:=Ah.all aR nb
     have nP:=Ai.all aR nd
     have Au:=Aj.all aR (eW aq rfl)
     have Av:=Ak.all aR cC
     have Aw:=nI.all aR nJ
     have hP:=Al.trans aR (KS.ok (S:=fun i=>(Lh ac) i\/((Lh ae) i\/((Lh ap) i\/(ab i\/(af i\/(ah i\/(ai i\/(aj i\/(ak i\/(am i\/(an i))))))))))) (KS.refl aa (Lh ap)) (fun _ x=>Or.inr (Or.inr (Or.inl x))))
     refine KO ?_
     refine LD ?_
     exact⟨LQ.keeps (LQ.or aC.cells.cb (LQ.or aD.cells.cb (LQ.or aE.cells.cb (LQ.or be.cells.cb (LQ.or (aG.cb bQ.lt) (LQ.or (aH.cb bR.lt) (LQ.or (aI.cb bS.lt) (LQ.or (aJ.cb bT.lt) (LQ.or (aK.cb bU.lt) (LQ.or (aL.cb bV.lt) aF.cells.cb)))))))))) hP,hP.mono (fun i hi x=>(x.elim (fun y=>fun e=>cA.symm i y (by rw[au.1];exact e)) (fun y=>(y.elim (fun y=>fun e=>cB.symm i y (by rw[au.1];exact e)) (fun y=>(y.elim (fun y=>fun e=>cC.symm i y (by rw[au.1];exact e)) (fun y=>(y.elim (fun y=>fun e=>bM i y (by rw[au.1];exact e)) (fun y=>(y.elim (fun y=>fun e=>co i y (by rw[au.1];exact e)) (fun y=>(y.elim (fun y=>fun e=>cq i y (by rw[au.1];exact e)) (fun y=>(y.elim (fun y=>fun e=>cr i y (by rw[au.1];exact e)) (fun y=>(y.elim (fun y=>fun e=>ct i y (by rw[au.1];exact e)) (fun y=>(y.elim (fun y=>fun e=>cu i y (by rw[au.1];exact e)) (fun y=>(y.elim (fun y=>fun e=>cv i y (by rw[au.1];exact e)) (fun y=>(fun e=>bN i y (by rw[au.1];exact e))))))))))))))))))))))),⟨zM,eH,af,ah,ai,aj,eI,eJ,zN,(hX.2.2.2.2),az.trans hP (fun i hi x=>(x.elim (fun y=>((KS.ok (S:=fun _=>False) bA K6) i hi y)) (fun y=>(y.elim (fun y=>((KS.ok (S:=fun _=>False) bB K6) i hi y)) (fun y=>(y.elim (fun y=>((KS.ok (S:=fun _=>False) cz K6) i hi y)) (fun y=>(y.elim (fun y=>((KS.ok (S:=fun _=>False) bm K6) i hi y)) (fun y=>(y.elim (fun y=>((KS.ok (S:=fun _=>False) bn K6) i hi y)) (fun y=>(y.elim (fun y=>((KS.ok (S:=fun _=>False) bo K6) i hi y)) (fun y=>(y.elim (fun y=>((KS.ok (S:=fun _=>False) bp K6) i hi y)) (fun y=>(y.elim (fun y=>((KS.ok (S:=fun _=>False) bq K6) i hi y)) (fun y=>(y.elim (fun y=>((KS.ok (S:=fun _=>False) bt K6) i hi y)) (fun y=>(y.elim (fun y=>((KS.ok (S:=fun _=>False) bu K6) i hi y)) (fun y=>((KS.ok (S:=fun _=>False) bv K6) i hi y)))))))))))))))))))))),An,Ao,Ap,Aq,Ar,Am,(by rw[hX.1];exact As),At,(by first|(rw[hX.2.2.1];exact nK)|(rw[hX.2.2.2.1 0 (by decide)];exact nK)),(by first|(rw[hX.2.2.1];exact nL)|(rw[hX.2.2.2.1 0 (by decide)];exact nL)),(by first|(rw[hX.2.2.1];exact nM)|(rw[hX.2.2.2.1 1 (by decide)];exact nM)),(by first|(rw[hX.2.2.1];exact nN)|(rw[hX.2.2.2.1 1 (by decide)];exact nN)),(by first|(rw[hX.2.2.1];exact nO)|(rw[hX.2.2.2.1 2 (by decide)];exact nO)),(by first|(rw[hX.2.2.1];exact nP)|(rw[hX.2.2.2.1 2 (by decide)];exact nP)),Au,Av,(by rw[hX.2.1];exact Aw),bm.trans az ((KS.refl aa ab).trans bj eK),bn.trans az (KS.refl aa af),bo.trans az (KS.refl aa ah),bp.trans az (KS.refl aa ai),bq.trans az (KS.refl aa aj),bt.trans az ((KS.refl aa ak).trans bj eL),bu.trans az ((KS.refl aa am).trans bj eM),bv.trans az (KS.trans (KS.refl aa an) nH gZ),yH,yI,yJ,yK,yL,m8,yM,yN,yO,yP,yQ,gT,gU,yR,yT,zU.symm,eX,eY,dt,eZ,e6,cL,du,gh,dv,dw,y5.symm,zh.symm,dA,co,zW.symm,e7,e8,dB,e9,fa,cN,dC,dD,dE,y6.symm,zi.symm,dH,cq,zX.symm,fb,fc,dI,fd,fe,cP,dJ,gi,y7.symm,zj.symm,dM,cr,zY.symm,ff,fg,dN,fh,fi,cR,dO,y8.symm,zk.symm,dR,ct,zZ.symm,yU,yV,yW,yX,yY,nb,yZ,gV,y9,za,z1.symm,zb,zc,zd,ze,zf,nd,zg,zl,zm,z2.symm,zO,zP,zQ,zR,zT,nJ,zV,z3,z4⟩⟩
  ·rintro bf xs_ Ay hQ hS_ ⟨V,ab,af,ah,ai,aj,ak,am,an,hN,Az,CH,CI,CJ,AA,AB,AC,AD,AE,CK,CL,CM,CN,CO,CP,CQ,CR,nQ,CS,CT,CU,CV,CW,CX,CY,AF,CZ,C0,C1,C2,C3,C4,C5,C6,C7,C8,C9,Da,Db,Dc,Dd,De,Df,Dg,Dh,Di,Dj,Dk,Dl,Dm,Dn,Do,Dp,Dq,Dr,Ds,Dt,Du,Dv,Dw,Dx,Dy,Dz,DA,DB,DC,DD,DE,DF,DG,DH,DI,DJ,DK,DL,DM,DN,DO,DP,DQ,DR,DS,DT,DU,DV,DW,DX,DY,DZ,D0,D1,D2,D3,D4,D5,D6,D7,D8,D9,Ea,Eb,Ec,Ed,Ee,Ef,Eg,Eh,Ei,Ej,Ek,El,Em,En,Eo,Ep,Er,Es,Et,Eu,Ev,AG,AH,Ew,Ex,Ey,Ez⟩ fD
   subst hS_
   have fD:UH Ay bf:=fD
   have nR:KS w0 Ma (Lh bf):=LV (Nat.le_trans dk.size hQ)
   have fE:=UH.far hQ (LO f8.lt)
   have fF:=UH.far hQ (LO f9.lt)
   have AJ:=UH.apart fD nQ.cells
   have nT:Oi (bf::Og (ga 53))=Oi [bf]:=congrArg (fun z=>Oi (bf::Og z)) ka
   refine LD (KH (KK (KK (KI (KJ (pt aA 0) rfl rfl (MF rfl kd Tryz.underlying54 AE rfl rr) (LY rfl rfl rfl rfl rfl (fun _ _=>by kernel_rfl) (Lm rfl LS) (aB8 aA l ((K5 l K W H (Nc W H 3)).s) ab _  AD ) fun EA nU=>?_))))))
   obtain⟨nV,nW,AK,nX,nY⟩:=OJ nU AA AB AC nQ fD
   have nZ:=Az.tr nU
   refine KJ (.bool (decide ((Pg l ((K5 l K W H (Nc W H 3)).s))≠0))) rfl rfl (Mc rfl rfl rfl rfl rr) (KO ?_)
   have AL:=La (.bool (decide ((Pg l ((K5 l K W H (Nc W H 3)).s))≠0)))
   refine KH ?_
   refine Lc AL (fun eO=>?_) (fun eO=>?_)
   ·replace eO:=of_decide_eq_true eO
    refine KK ?_
    have hR:=(XC hm hN).1 (by assumption)
    refine KI (L6 rfl rfl rfl cD rfl nV (by rfl) (by kernel_rfl) fun EB AM hZ=>?_)
    have AN:=nW.all hZ (bg ae rfl)
    have AO:=nY.all hZ (fE bf rfl)
    refine L6 rfl rfl rfl cE rfl AN (by rfl) (by kernel_rfl) fun AP AQ ia=>?_
    have AR:=AM.all ia (bg.symm ac rfl)
    have AU:=AO.all ia (fF bf rfl)
    refine KO ?_
    refine KH (Ld (Lq ?_))
    have ib:=Q2 AP bf
    have AV:=AR.all ib (fE.symm ac rfl)
    have AW:=AQ.all ib (fF.symm ae rfl)
    exact Rv (ms:=[bf]) nT AU.opens rfl (Ov Tryz.underlying32 rfl rfl cD AV) (Ov Tryz.underlying33 rfl rfl cE AW) ⟨(.slice none 0 0),Ma,(by first|(rw[hR,NU hmn];rfl)|(rw[hR];rfl)|(rw[N7 hm hpf hne];rfl)|rw[hR,NU hmn]|rw[hR]|rw[N7 hm hpf hne]),(((nZ.trans hZ (KS.ok (S:=fun _=>False) bA K6)).trans ia (KS.ok (S:=fun _=>False) bB K6)).trans ib (KS.ok (S:=fun _=>False) nR K6)),⟨(by first|(rw[hR];exact(QX.nil Uq _))|(rw[N7 hm hpf hne];exact(QX.nil Uq _))),(KS.refl _ _)⟩⟩
   ·replace eO:=of_decide_eq_false eO
    refine Li (KH (KK ?_))
    have hR:=(XC hm hN).2 (by first|assumption|(apply Decidable.byContradiction;assumption))
    refine KI (KJ V rfl rfl (MF rfl kb Tryz.underlying32 AK rfl rr) (L6 rfl rfl rfl cD rfl nV nX.oneC (by kernel_rfl) fun EC AX fG=>?_))
    have AY:=nW.all fG (bg ae rfl)
    have AZ:=nX.all fG AG
    have Ba:=nY.all fG (fE bf rfl)
    refine L6 rfl rfl rfl cE rfl AY (by rfl) (by kernel_rfl) fun Bb Bc fH=>?_
    have Bd:=AX.all fH (bg.symm ac rfl)
    have Be:=AZ.all fH AH
    have Bf:=Ba.all fH (fF bf rfl)
    refine KO ?_
    refine KH (Ld ?_)
    have fI:=Q2 Bb bf
    have Bg:=Bd.all fI (fE.symm ac rfl)
    have Bh:=Bc.all fI (fF.symm ae rfl)
    have n7:=Be.all fI AJ.symm
    exact Rv (ms:=[bf]) nT Bf.opens rfl (Ov Tryz.underlying32 rfl rfl cD Bg) (Ov Tryz.underlying33 rfl rfl cE Bh) ⟨V,an,(by first|(rw[hR,NU hmn];rfl)|(rw[hR];rfl)|(rw[N7 hm hpf hne];rfl)|rw[hR,NU hmn]|rw[hR]|rw[N7 hm hpf hne]),(((nZ.trans fG (KS.ok (S:=fun _=>False) bA K6)).trans fH (KS.ok (S:=fun _=>False) bB K6)).trans fI (KS.ok (S:=fun _=>False) nR K6)),⟨(by first|(rw[hR];exact n7)|(rw[N7 hm hpf hne];exact n7)),AF⟩⟩
  ·rintro cw pre n8 ie hpf ⟨Bi,ED,EE,EF,Bj,Bk,EG,EH,EI,hne⟩ ig
   have ig:UH n8 cw:=ig
   have Bl:KS w0 Ma (Lh cw):=LV (Nat.le_trans dk.size ie)
   have Bm:=UH.far ie (LO f8.lt)
   have Bn:=UH.far ie (LO f9.lt)
   have Bo:Oi (cw::Og (ga 53))=Oi [cw]:=congrArg (fun z=>Oi (cw::Og z)) ka
   refine NV (Lq ?_)
   have ii:=Q2 n8 cw
   have Bp:=Bj.all ii (Bm.symm ac rfl)
   have Bq:=Bk.all ii (Bn.symm ae rfl)
   exact Rv (ms:=[cw]) Bo ig.opens rfl (Ov Tryz.underlying32 rfl rfl cD Bp) (Ov Tryz.underlying33 rfl rfl cE Bq) ⟨(.slice none 0 0),Ma,(by first|(rw[hR,NU hmn];rfl)|(rw[hR];rfl)|(rw[N7 hm hpf hne];rfl)|rw[hR,NU hmn]|rw[hR]|rw[N7 hm hpf hne]),(Bi.trans ii (KS.ok (S:=fun _=>False) Bl K6)),⟨(by first|(rw[hR];exact(QX.nil Uq _))|(rw[N7 hm hpf hne];exact(QX.nil Uq _))),(KS.refl _ _)⟩⟩
end Go.Proofs.YtknjpdcpmpfklaaGreatDoor
set_option maxRecDepth 100000
namespace Go.Proofs.YtknjpdcpmpfklaaGreatDoor
open Go.RowKit
def ayL(k:Int)(c:Ch):Prop:=0<=c.m/\c.m<=NX k/\Ni c.px c.py/\Ni c.nx c.ny
theorem aBX:Ni 0 0:=by decide
theorem aCl{l:List Nat}{gx gy:Int}{s:Option Nat}:Ni (Rz l gx gy s) (RC l gx gy s):=by
 by_cases h:SC l gx gy s
 ·rw[(YP h).1,(YP h).2.1];exact h.2
 ·rw[(ZA h).1,(ZA h).2.1];exact aBX
theorem ZI{has:Bool}{l:List Nat}{gx gy:Int}{s:Option Nat}:Ni (stV has l gx gy s).1 (stV has l gx gy s).2.1:=by
 cases has with
 | true=>rw[UD rfl];exact aCl
 | false=>rw[SD rfl];exact aBX
theorem azz{l:List Nat}{k ax ay bx yy:Int}{st:Option Nat}(hk:0<=NX k)(h:(Sk l k ax ay bx yy st).2.1=0):ayL k (Sk l k ax ay bx yy st).1:=by
 have hw:=Uv l (NX k) hk st
 revert h
 unfold Sk
 generalize Lr (LB l (NX k)) st=m at hw ⊢
 unfold rd1
 split
 ·intro h;cases h
 ·unfold Ym
  split
  ·unfold Vo
   split
   ·unfold Yr
    split
    ·intro _;exact⟨hw.1,hw.2,ZI,ZI⟩
    ·intro h;exact absurd h (by assumption)
   ·intro h;exact absurd h (by assumption)
  ·intro h;exact absurd h (by assumption)
theorem azx{l:List Nat}{k:Int}{w:Nat}(hk:0<=NX k):∀ (m i:Nat) (t:YR) (o:List Ch),(∀ c∈o,ayL k c)->∀ c∈(TA l k w m i t o).1,ayL k c:=by
 intro m
 induction m with
 | zero=>intro i t o h;exact h
 | succ m ih =>
  intro i t o h
  by_cases hc:(Mf l k w i t).2.1=0
  ·rw[VS hc]
   refine ih _ _ _ fun c hcm=>?_
   rcases List.mem_append.1 hcm with z|z
   ·exact h c z
   ·rw[List.mem_singleton.1 z];exact azz hk hc
  ·rw[WR hc];intro c z;cases z
theorem azp{l:List Nat}{k W H:Int}(hk:0<=NX k):∀ p,∀ c∈(Ou l k W H p).1,ayL k c:=by
 intro p
 induction p with
 | zero=>intro c z;cases z
 | succ p ih =>
  by_cases hc:(Ou l k W H p).2.1=0
  ·rw[U6 hc];exact azx hk _ _ _ _ ih
  ·rw[UC hc];exact ih
theorem aAw{l:List Nat}{k W H:Int}(hk:0<=NX k):∀ c∈(PZ l k W H).1,ayL k c:=by
 unfold PZ
 split
 ·split
  ·exact azp hk 3
  ·intro c z;cases z
 ·intro c z;cases z
theorem azo{K Q D F:Int}(h:Od K Q D F):0<=NX K:=by
 have h1:=h.1;have h2:=h.2.1
 unfold NX;split;omega;split;omega;split;omega;omega
theorem aA5{α:Type}{L:List α}{d:α}{i:Nat}(h:i<L.length):L.getD i d∈L:=by
 rw[List.getD_eq_getElem?_getD,List.getElem?_eq_getElem h];exact List.getElem_mem h
theorem aBs{W H R B K:Int}{F g h:FD}{c:Ch}{p i:Nat}(hF:QB F)(hW:F.W=W)(hH:F.H=H)(hn:¬ ((K≠0/\¬ MU W H R B g)\/(K=2/\¬ MU W H R B h)))(hK:0<=K/\K<=2)(hc:ayL K c)(hp:p<3)(hi:i<Lk W p*Lk H p) :
  Tu F g h (p:Int) (4*pX (Lk W p) i) (4*pY (Lk W p) i) c=0:=by
 obtain⟨m0,m1,v1,v2⟩:=hc
 have pos:∀ {f:FD},QB f->f.W=W->f.H=H->MX f (p:Int) (4*pX (Lk W p) i) (4*pY (Lk W p) i):=fun {f} ho e1 e2=>by
  subst e1;subst e2
  refine ZY ho hp hi ?_
  rcases Nat.eq_zero_or_pos (Lk f.W p) with z|z
  ·rw[z,Nat.zero_mul] at hi;omega
  ·exact z
 have hpF:=pos hF hW hH
 have fitg:K≠0->MX g (p:Int) (4*pX (Lk W p) i) (4*pY (Lk W p) i):=fun hk=>by
  have hf:MU W H R B g:=Decidable.byContradiction fun z=>hn (Or.inl ⟨hk,z⟩)
  exact pos hf.2.1 hf.2.2.1.symm hf.2.2.2.symm
 have fith:K=2->MX h (p:Int) (4*pX (Lk W p) i) (4*pY (Lk W p) i):=fun hk=>by
  have hf:MU W H R B h:=Decidable.byContradiction fun z=>hn (Or.inr ⟨hk,z⟩)
  exact pos hf.2.1 hf.2.2.1.symm hf.2.2.2.symm
 have hm:NX K=3/\K=0\/NX K=4/\K=1\/NX K=6/\K=2:=by
  unfold NX
  rcases (show K=0\/K=1\/K=2 by omega) with rfl|rfl|rfl <;> decide
 have e1:K≠0->OX g (p:Int) (4*pX (Lk W p) i) (4*pY (Lk W p) i) c.px c.py=0:=fun hk=>(if_pos (fitg hk)).trans (O2 v1)
 have e2:K=2->OX h (p:Int) (4*pX (Lk W p) i) (4*pY (Lk W p) i) c.nx c.ny=0:=fun hk=>(if_pos (fith hk)).trans (O2 v2)
 by_cases h3:c.m<4
 ·rw[(aAs ⟨m0,h3⟩).2]
  exact(if_pos hpF).trans (if_pos ⟨m0,by omega⟩)
 ·by_cases h4:c.m=4
  ·rw[(UN h4).2];exact e1 (by omega)
  ·by_cases h5:c.m=5
   ·rw[(UB h5).2];exact e2 (by omega)
   ·have h6:c.m=6:=by omega
    exact(ZH h6 (e1 (by omega)) (e2 (by omega))).2
def VM{W H:Int}(g h:FD)(q:Int)(L:List Ch)(F:FD)(x:R4 W H):FD:=aAz g h q (x.p:Int) (Lk W x.p) x.i (L.getD x.m chZ) F
def Me(g h:FD)(q W H:Int)(L:List Ch)(pre:List (R4 W H)):FD:=pre.foldl (VM g h q L) (LJ W H 0)
theorem UI{g h:FD}{q W H:Int}{L:List Ch}(pre:List (R4 W H))(x:R4 W H):Me g h q W H L (pre ++ [x])=aAz g h q (x.p:Int) (Lk W x.p) x.i (L.getD x.m chZ) (Me g h q W H L pre):=by
 unfold Me;rw[List.foldl_append];rfl
theorem aDj{g h:FD}{q W H:Int}{L:List Ch}(hW:Nv W)(hH:Nv H):∀ (pre:List (R4 W H)),QB (Me g h q W H L pre)/\(Me g h q W H L pre).W=W/\(Me g h q W H L pre).H=H:=by
 have key:∀ (pre:List (R4 W H)) (F:FD),(QB F/\F.W=W/\F.H=H)->QB (pre.foldl (VM g h q L) F)/\(pre.foldl (VM g h q L) F).W=W/\(pre.foldl (VM g h q L) F).H=H:=by
  intro pre
  induction pre with
  | nil=>intro F h;exact h
  | cons x r ih =>
   intro F hF
   rw[List.foldl_cons]
   refine ih _ ?_
   unfold VM aAz
   have hsd:=Q5 F (x.p:Int) (4*pX (Lk W x.p) x.i) (4*pY (Lk W x.p) x.i) (buB (V9 F g h (x.p:Int) (4*pX (Lk W x.p) x.i) (4*pY (Lk W x.p) x.i) (L.getD x.m chZ)) (L.getD x.m chZ).b q) 16
   rw[Ng hF.1] at hsd
   exact⟨azn hF.1 _ _ _ _ 16,hsd.1.trans hF.2.1,hsd.2.1.trans hF.2.2⟩
 intro pre
 exact key pre _ ⟨Xd 0 (NI hW) (NI hH),by rw[Pu 0 (NI hW) (NI hH)],by rw[Pu 0 (NI hW) (NI hH)]⟩
theorem aAo{g h:FD}{q W H:Int}{L:List Ch}{p:Nat}(hp:p<3)(F:FD):∀ n,n<=Lk W p*Lk H p->(UA W H p n).foldl (VM g h q L) F=Uj g h q p (Lk W p) L (N6 W H p) F n:=by
 intro n
 induction n with
 | zero=>intro _;rfl
 | succ n ih =>
  intro hn
  rw[RX hp (by omega),List.foldl_append,List.foldl_cons,List.foldl_nil,ih (by omega)]
  rfl
theorem Nj{g h:FD}{q W H:Int}{L:List Ch}:∀ p,p<=3->Me g h q W H L (Nc W H p)=Xl g h q W H L p:=by
 intro p
 induction p with
 | zero=>intro _;rfl
 | succ p ih =>
  intro hp
  have e:Me g h q W H L (Nc W H (p+1))=(UA W H p (Lk W p*Lk H p)).foldl (VM g h q L) (Me g h q W H L (Nc W H p)):=by
   unfold Me;rw[Nc,List.foldl_append]
  rw[e,ih (by omega),aAo (by omega) _ _ (Nat.le_refl _)]
  rfl
end Go.Proofs.YtknjpdcpmpfklaaGreatDoor
