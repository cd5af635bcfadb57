/- What PictureEnds reaches of my texts, part 8. -/
import Derived.Test.YtknjpdcpmpfklaaGreatDoorPictureEndsG
set_option maxRecDepth 100000
set_option maxHeartbeats 4000000
set_option maxRecDepth 100000
namespace Go.Proofs.YtknjpdcpmpfklaaGreatDoor
open Go.RowKit
instance {w w':World} {D:Nat}:Cr w w' (U5 w D) (U5 w' D):=⟨fun h k=>h.all k id⟩
theorem Pi(W H R B K Q D F:Int)(v:Value)(l:List Nat)(T_b:Nat->Prop)(w0:World)(hA:NO w0)(hO:Of w0)(hl:l.length<=1001)(h_b:Mh w0 T_b v (l)) :
  Calls Tryz.prog 10 #[.agg #[.int .i64 (W),.int .i64 (H),.int .i64 (R),.int .i64 (B)],.agg #[.int .i64 (K),.int .i64 (Q),.int .i64 (D),.int .i64 (F)],v] w0 fun e w'=>∃ (v1:Value) (T1:Nat->Prop),e = .returned (.tuple #[v1,.int .i64 ((ME l W H R B K Q D F).2)])/\KO (fun _=>False) w0 w'/\(QX TL w' T1 v1 ((ME l W H R B K Q D F).1)/\KP w0 LX T1):=by
 refine X2 (args:=[.agg #[iv W,iv H,iv R,iv B],.agg #[iv K,iv Q,iv D,iv F],v]) 53 Tryz.func10 rfl rfl (Nat.le_of_ble_eq_true rfl) ?_
 have g_b:=KP.refl w0 T_b
 refine KJ (KH (Lz (vs:=[iv W,iv H,iv R,iv B]) rfl rfl rfl rfl fun p1 w2 B4 g5 k3=>?_))
 have B8:=h_b.all k3 KK.none
 refine Lz (vs:=[iv K,iv Q,iv D,iv F]) rfl rfl rfl rfl fun ao Bt iq cy ir=>?_
 obtain⟨iu,iw⟩:=NA ir B8 B4
 have iy:=((KO.refl (fun _=>False) w0).tr k3).tr ir
 refine Ou (v:=.slice none 0 0) rfl rfl rfl (by kernel_rfl) rfl fun ac Bu iz iA iB=>?_
 have bA:=KP.new iy iA
 obtain⟨fL,fM,fN⟩:=TD iA iu iw iq
 obtain⟨iC,iD,iE⟩:=Nu iB iu iw iq
 have iF:=iy.tr iB
 refine Ou (v:=iv 0) rfl rfl rfl (by kernel_rfl) rfl fun ae Bv od iG iH=>?_
 have bB:=KP.new iF iG
 obtain⟨fO,fP,fQ,bg⟩:=Wj iG iC iD iE iz
 obtain⟨oe,iI,iJ,og⟩:=OV iH iC iD iE iz
 refine KM ?_
 have oh:=K4 (.agg #[iv W,iv H,iv R,iv B])
 have oi:=K4 (.agg #[iv K,iv Q,iv D,iv F])
 have iK:=K4 (v)
 have iL:=K4 (undef)
 have eP:=K4 (pt p1 0)
 have iM:=K4 (pt ao 0)
 have fR:=K4 (pt ac 0)
 have fS:=K4 (pt ae 0)
 refine KG (KJ (KJ (KH (KI (.agg #[iv W,iv H,iv R,iv B]) rfl rfl (KZ My rfl eP iI rr) (KI (.agg #[iv K,iv Q,iv D,iv F]) rfl rfl (KZ Pj rfl iM iJ rr) (LW rfl rfl rfl rfl rfl (fun _ _=>by kernel_rfl) (Lk rfl (Lk rfl LR)) (Yt W H R B K Q D F  _   ) fun Bw iN=>?_))))))
 obtain⟨iO,iP,iQ,fT,fU⟩:=OU iN oe iI iJ og od
 have fV:=(iF.tr iH).tr iN
 refine KI (iv (Rd W H R B K Q D F)) rfl rfl (KS rfl rfl rr) (KM ?_)
 have fW:=K4 (iv (Rd W H R B K Q D F))
 refine KG (KJ (KH (KR rfl rfl rfl fW (KI (.bool (decide ((Rd W H R B K Q D F)≠0))) rfl rfl (Mb rfl rfl rfl rfl rr) (KM ?_)))))
 have iR:=K4 (.bool (decide ((Rd W H R B K Q D F)≠0)))
 refine KG ?_
 refine K6 iR (fun dd=>?_) (fun dd=>?_)
 ·replace dd:=of_decide_eq_true dd
  refine KJ ?_
  have hmn:=ZZ (W:=W) (H:=H) (R:=R) (B:=B) (K:=K) (Q:=Q) (D:=D) (F:=F) (by assumption)
  have hR:=Xs (l:=l) hmn
  refine KH (KR rfl rfl rfl fW (L5 rfl rfl rfl fR rfl fT (by rfl) (by kernel_rfl) fun Bx oj iS=>?_))
  have ol:=fU.all iS (bg ae rfl)
  refine L5 rfl rfl rfl fS rfl ol (by rfl) (by kernel_rfl) fun Bz om iT=>?_
  have oo:=oj.all iT (bg.symm ac rfl)
  refine KM ?_
  refine KG (Lb (Lq ?_))
  exact Rj (ms:=[]) (Eq.trans iL (rfl:undef=Oi [])) trivial rfl (Ox Tryz.underlying32 rfl rfl fR oo) (Ox Tryz.underlying33 rfl rfl fS om) ⟨(.slice none 0 0),LX,(by first|(rw[hR,NR hmn];rfl)|(rw[hR];rfl)|(rw[N2 hm hpf hne];rfl)|rw[hR,NR hmn]|rw[hR]|rw[N2 hm hpf hne]),((fV.trans iS (KP.ok (S:=fun _=>False) bA K3)).trans iT (KP.ok (S:=fun _=>False) bB K3)),⟨(by first|(rw[hR];exact(QX.nil TL _))|(rw[N2 hm hpf hne];exact(QX.nil TL _))),(KP.refl _ _)⟩⟩
 ·replace dd:=of_decide_eq_false dd
  refine Lg (KG (KJ ?_))
  have hm:Qy W H R B K Q D F:=ayH (by first|assumption|(apply Decidable.byContradiction;assumption))
  have hsq:=hm.1
  have hsd:=Q4 hm.1
  refine KH (Ou (v:=.slice none 0 0) rfl rfl rfl (by kernel_rfl) rfl fun ap iU iV iW iX=>?_)
  have cz:=KP.new fV iW
  obtain⟨fX,fY,fZ,f6,f7⟩:=azc iW iO iP iQ fT fU
  obtain⟨f8,iY,iZ,ja,jb⟩:=OU iX iO iP iQ fT fU
  have jc:=fV.tr iX
  refine KM ?_
  have oq:=K4 (pt ap 0)
  refine KG (KJ (KH (KR rfl rfl rfl iK (LB (R:=fun v_ w_=>∃ (aA:Nat) (eQ:Nat->Prop),pt aA 0=v_/\KO (fun _=>False) iU w_/\(Pr w_ eQ aA l (some 0)/\KP iU LX eQ)) rfl rfl (LH rfl rfl rfl (fun _ _=>by kernel_rfl) (K5 _) (Lk rfl LR) (aEd v l T_b _ (by omega) f8 ) (fun e_ w_ h_=>by obtain⟨v148_,T151_,he_,hr_⟩:=h_;exact⟨_,he_,v148_,T151_,rfl,hr_⟩)) ?_))))
  rintro _ BA ⟨aA,eQ,rfl,jd,⟨je,jf⟩⟩
  obtain⟨jg,jh,ji,jj,jk,jl⟩:=QB jd f8 iY iZ ja jb iV
  have jm:=jc.tr jd
  obtain⟨ot,ou,ov,ow,ox,oy⟩:=Vr jf f8 iY iZ ja jb iV
  refine Ou (v:=.pointer none) rfl rfl rfl (by kernel_rfl) rfl fun ar BB oz jn jo=>?_
  obtain⟨oA,oB,oC,eR,eS,eT,jp⟩:=aEA jn jg jh ji jj jk jl je
  obtain⟨oD,oE,oF,oG,oH,oI,oJ⟩:=Tz jo jg jh ji jj jk jl je
  refine L5 rfl rfl rfl rfl rfl oz (by rfl) (by kernel_rfl) fun b9 cd bO=>?_
  have ce:=oD.all bO oA.symm
  have bP:=oE.all bO (oB.symm p1 rfl)
  have cf:=oF.all bO (oC.symm ao rfl)
  have cg:=oG.all bO (eR.symm ac rfl)
  have ci:=oH.all bO (eS.symm ae rfl)
  have cj:=oI.all bO (eT.symm ap rfl)
  have cm:=oJ.all bO jp.symm
  have cn:=(jm.tr jo).trans bO (KP.ok (S:=fun _=>False) (KP.new jm jn) K3)
  refine KM ?_
  have oK:=K4 (pt ar 0)
  refine KG (KJ (KH (KI (.agg #[iv W,iv H,iv R,iv B]) rfl rfl (KZ My rfl eP bP rr) (LB (R:=fun v_ w_=>∃ (a8:Value) (bC:Nat->Prop) (a9:Value) (bD:Nat->Prop) (ba:Value) (bE:Nat->Prop) (bb:Value) (bF:Nat->Prop) (bc:Value) (bG:Nat->Prop) (bd:Value) (bH:Nat->Prop),.agg #[a8,a9,ba,bb,bc,bd]=v_/\KO (fun _=>False) b9 w_/\(PG w_ bC a8 (some (Qz ((Lh W 0:Nat):Int) ((Lh H 0:Nat):Int)))/\KP b9 LX bC)/\(PG w_ bD a9 (some (Qz ((Lh W 0:Nat):Int) ((Lh H 0:Nat):Int)))/\KP b9 LX bD)/\(PG w_ bE ba (some (Qz ((Lh W 1:Nat):Int) ((Lh H 1:Nat):Int)))/\KP b9 LX bE)/\(PG w_ bF bb (some (Qz ((Lh W 1:Nat):Int) ((Lh H 1:Nat):Int)))/\KP b9 LX bF)/\(PG w_ bG bc (some (Qz ((Lh W 2:Nat):Int) ((Lh H 2:Nat):Int)))/\KP b9 LX bG)/\(PG w_ bH bd (some (Qz ((Lh W 2:Nat):Int) ((Lh H 2:Nat):Int)))/\KP b9 LX bH)/\KK bC bD/\KK bC bE/\KK bC bF/\KK bC bG/\KK bC bH/\KK bD bE/\KK bD bF/\KK bD bG/\KK bD bH/\KK bE bF/\KK bE bG/\KK bE bH/\KK bF bG/\KK bF bH/\KK bG bH) rfl rfl (LH rfl rfl rfl (fun _ _=>by kernel_rfl) (K5 _) (Lk rfl LR) (azI W H R B  _ (by assumption)  ) (fun e_ w_ h_=>by obtain⟨v216_,T224_,v217_,T225_,v218_,T226_,v219_,T227_,v220_,T228_,v221_,T229_,he_,hr_⟩:=h_;exact⟨_,he_,v216_,T224_,v217_,T225_,v218_,T226_,v219_,T227_,v220_,T228_,v221_,T229_,rfl,hr_⟩)) ?_))))
  rintro _ BC ⟨a8,bC,a9,bD,ba,bE,bb,bF,bc,bG,bd,bH,rfl,jq,⟨jr,js⟩,⟨jt,ju⟩,⟨jv,jw⟩,⟨jx,jy⟩,⟨jz,jA⟩,⟨jB,jC⟩,oL,oM,oN,oO,oP,oQ,oR,oS,oT,oU,oV,oW,oX,oY,oZ⟩
  obtain⟨jD,jE,jF,jG,jH,jI,jJ,jK⟩:=YR jq ce bP cf cg ci cj cm cd
  have jL:=cn.tr jq
  obtain⟨o2,o3,o4,o5,o6,o7,o8,o9⟩:=XJ js ce bP cf cg ci cj cm cd
  obtain⟨pa,pb,pc,pd,pe,pf,pg,pi⟩:=XJ ju ce bP cf cg ci cj cm cd
  obtain⟨pj,pk,pm,po,pp,pq,pu,pz⟩:=XJ jw ce bP cf cg ci cj cm cd
  obtain⟨pA,pB,pC,pD,pE,pF,pG,pH⟩:=XJ jy ce bP cf cg ci cj cm cd
  obtain⟨pI,pJ,pK,pL,pM,pN,pO,pP⟩:=XJ jA ce bP cf cg ci cj cm cd
  obtain⟨pQ,pR,pS,pT,pU,pV,pW,pZ⟩:=XJ jC ce bP cf cg ci cj cm cd
  refine LF (n:=6) (vs:=[.pointer none,.pointer none,.pointer none,.pointer none,.pointer none,.pointer none]) rfl rfl rfl (by kernel_rfl) fun aq BD qa jM jN=>?_
  obtain⟨qb,qc,qd,eU,eV,eW,jO,qe,jP,jQ,jR,jS,jT,jU⟩:=RT jM jD jE jF jG jH jI jJ jK jr jt jv jx jz jB
  obtain⟨qf,qg,qh,qi,qj,qk,ql,qm,jV,jW,jX,jY,jZ,j0⟩:=Ph jN jD jE jF jG jH jI jJ jK jr jt jv jx jz jB
  refine Lj (us:=[a8,a9,ba,bb,bc,bd]) TF rfl rfl rfl rfl rfl qa rfl (KX jV.one (KX jW.one (KX jX.one (KX jY.one (KX jZ.one (KX j0.one MG)))))) fun j1 qn aS=>?_
  have qo:=qf.all aS qb.symm
  have j2:=qg.all aS (qc.symm p1 rfl)
  have qp:=qh.all aS (qd.symm ao rfl)
  have j3:=qi.all aS (eU.symm ac rfl)
  have j4:=qj.all aS (eV.symm ae rfl)
  have j5:=qk.all aS (eW.symm ap rfl)
  have j6:=ql.all aS jO.symm
  have qq:=qm.all aS (qe.symm ar rfl)
  have qr:=jV.all aS jP.symm
  have qs:=jW.all aS jQ.symm
  have qt:=jX.all aS jR.symm
  have qu:=jY.all aS jS.symm
  have qv:=jZ.all aS jT.symm
  have qw:=j0.all aS jU.symm
  refine KM ?_
  have qx:=K4 (pt aq 0)
  refine KG (KJ (KJ ?_))
  obtain⟨de,j7⟩:=TN qr
  obtain⟨df,j8⟩:=TN qs
  obtain⟨dg,j9⟩:=TN qt
  obtain⟨dh,ka⟩:=TN qu
  obtain⟨di,kb⟩:=TN qv
  obtain⟨dj,kd⟩:=TN qw
  refine KH (KI (.agg #[iv W,iv H,iv R,iv B]) rfl rfl (KZ My rfl eP j2 rr) (LB (R:=fun v_ w_=>∃ (bI:Nat) (aZ:Nat->Prop),.func (.func 60) #[] #[pt bI 0]=v_/\KO (fun _=>False) j1 w_/\(Wz w_ aZ bI W H R B/\KP j1 LX aZ)) rfl rfl (LH rfl rfl rfl (fun _ _=>by kernel_rfl) (K5 _) (Lk rfl LR) (WI W H R B  _   ) (fun e_ w_ h_=>by obtain⟨v400_,T403_,he_,hr_⟩:=h_;exact⟨_,he_,v400_,T403_,rfl,hr_⟩)) ?_))
  rintro _ BE ⟨bI,aZ,rfl,f9,⟨ga,qy⟩⟩
  obtain⟨qz,qA,qB,gb,gc,qC,qD,qE,bQ,bR,bS,bT,bU,bV⟩:=Ph f9 qo j2 qp j3 j4 j5 j6 qq j7 j8 j9 ka kb kd
  have qF:=qn.all f9 id
  have dk:=((jL.tr jN).trans aS (KP.ok (S:=fun _=>False) (KP.new jL jM) K3)).tr f9
  obtain⟨cA,cB,cC,qG,qH,qI,qJ,qK,qL,qM⟩:=aEt qy j3 j4 j5 j6 j7 j8 j9 ka kb kd
  refine R4 fun gd ge=>?_
  obtain⟨qN,qO,qP,ke,qQ,qR,cD,cE,qS,qT,kf,kg,qU⟩:=t13 ge 0 oh 1 oi 2 iK 53 iL 3 eP 4 iM 6 fR 7 fS 8 fW 20 iR 9 oq 10 oK 11 qx
  have ki:gd 27 = .func (.func 60) #[] #[pt bI 0]:=(ge 27).trans rfl
  clear ge
  refine KG (Lm ?_)
  refine Ww (α:=Sd W H) (encs:=fun el=>[iv ((el.m:Nat):Int),.agg #[iv ((el.p:Nat):Int),iv (pX (Lh W el.p) el.i),iv (pY (Lh W el.p) el.i)]]) (U:=fun i=>i≠bI) (S:=fun xs=>xs=M8 W H 3) (Sp:=fun xs=>xs <+: M8 W H 3) (M:=1000) ki (fun _ _=>by kernel_rfl) (Z0 W H R B bI _ hm.1 ga.2) (fun i hi=>Nat.ne_of_gt (Nat.lt_of_lt_of_le ga.2.lt hi)) [28,29] rfl (fun _=>rfl) rfl (fun pre ww=>∃ (V:Value),∃ (ab:Nat->Prop),∃ (af:Nat->Prop),∃ (ah:Nat->Prop),∃ (ai:Nat->Prop),∃ (aj:Nat->Prop),∃ (ak:Nat->Prop),∃ (am:Nat->Prop),∃ (an:Nat->Prop),((K2 l K W H pre).e=0)/\KO (fun _=>False) w0 ww/\Mh ww T_b v l/\Mz ww p1 23 [iv W,iv H,iv R,iv B]/\Mz ww ao 25 [iv K,iv Q,iv D,iv F]/\PO ww ac 32 (.slice none 0 0)/\PO ww ae 33 (iv 0)/\PO ww ap 32 V/\Pr ww ab aA l ((K2 l K W H pre).s)/\PO ww ar 54 (pt aA 0)/\Pf ww af a8 de (((K2 l K W H pre).f 0).1)/\Pf ww ah a9 df (((K2 l K W H pre).f 0).2)/\Pf ww ai ba dg (((K2 l K W H pre).f 1).1)/\Pf ww aj bb dh (((K2 l K W H pre).f 1).2)/\Pf ww ak bc di (((K2 l K W H pre).f 2).1)/\Pf ww am bd dj (((K2 l K W H pre).f 2).2)/\Mz ww aq 59 [a8,a9,ba,bb,bc,bd]/\Wz ww aZ bI W H R B/\QX TL ww an V ((K2 l K W H pre).o)/\KP w0 LX ab/\KP w0 LX af/\KP w0 LX ah/\KP w0 LX ai/\KP w0 LX aj/\KP w0 LX ak/\KP w0 LX am/\KP w0 LX an/\KK ab T_b/\KK ab (Lf p1)/\KK ab (Lf ao)/\KK ab (Lf ac)/\KK ab (Lf ae)/\KK ab (Lf ap)/\KK ab (Lf ar)/\KK ab af/\KK ab ah/\KK ab ai/\KK ab aj/\KK ab ak/\KK ab am/\KK ab (Lf aq)/\KK ab aZ/\KK ab an/\KK af T_b/\KK af (Lf p1)/\KK af (Lf ao)/\KK af (Lf ac)/\KK af (Lf ae)/\KK af (Lf ap)/\KK af (Lf ar)/\KK af ah/\KK af ai/\KK af aj/\KK af ak/\KK af am/\KK af (Lf aq)/\KK af aZ/\KK af an/\KK ah T_b/\KK ah (Lf p1)/\KK ah (Lf ao)/\KK ah (Lf ac)/\KK ah (Lf ae)/\KK ah (Lf ap)/\KK ah (Lf ar)/\KK ah ai/\KK ah aj/\KK ah ak/\KK ah am/\KK ah (Lf aq)/\KK ah aZ/\KK ah an/\KK ai T_b/\KK ai (Lf p1)/\KK ai (Lf ao)/\KK ai (Lf ac)/\KK ai (Lf ae)/\KK ai (Lf ap)/\KK ai (Lf ar)/\KK ai aj/\KK ai ak/\KK ai am/\KK ai (Lf aq)/\KK ai aZ/\KK ai an/\KK aj T_b/\KK aj (Lf p1)/\KK aj (Lf ao)/\KK aj (Lf ac)/\KK aj (Lf ae)/\KK aj (Lf ap)/\KK aj (Lf ar)/\KK aj ak/\KK aj am/\KK aj (Lf aq)/\KK aj aZ/\KK aj an/\KK ak T_b/\KK ak (Lf p1)/\KK ak (Lf ao)/\KK ak (Lf ac)/\KK ak (Lf ae)/\KK ak (Lf ap)/\KK ak (Lf ar)/\KK ak am/\KK ak (Lf aq)/\KK ak aZ/\KK ak an/\KK am T_b/\KK am (Lf p1)/\KK am (Lf ao)/\KK am (Lf ac)/\KK am (Lf ae)/\KK am (Lf ap)/\KK am (Lf ar)/\KK am (Lf aq)/\KK am aZ/\KK am an/\KK an T_b/\KK an (Lf p1)/\KK an (Lf ao)/\KK an (Lf ac)/\KK an (Lf ae)/\KK an (Lf ap)/\KK an (Lf ar)/\KK an (Lf aq)/\KK an aZ) (fun pre ww=>KO (fun _=>False) w0 ww/\Mh ww T_b v l/\Mz ww p1 23 [iv W,iv H,iv R,iv B]/\Mz ww ao 25 [iv K,iv Q,iv D,iv F]/\PO ww ac 32 (.slice none 0 0)/\PO ww ae 33 (iv ((K2 l K W H pre).e))/\PO ww ar 54 (pt aA 0)/\Mz ww aq 59 [a8,a9,ba,bb,bc,bd]/\Wz ww aZ bI W H R B/\((K2 l K W H pre).e≠0)) ?_ ?_ ⟨(.slice none 0 0),eQ,bC,bD,bE,bF,bG,bH,LX,rfl,dk,qz,qA,qB,gb,gc,qC,qD,qE,bQ,bR,bS,bT,bU,bV,qF,ga,(QX.nil TL _),(KP.new jc jf),(KP.new cn js),(KP.new cn ju),(KP.new cn jw),(KP.new cn jy),(KP.new cn jA),(KP.new cn jC),(KP.refl _ _),ot,ou,ov,ow,ox,oy,jp.symm,o8.symm,pg.symm,pu.symm,pG.symm,pO.symm,pW.symm,jO.symm,qG.symm,KK.none,o2,o3,o4,o5,o6,o7,o9,oL,oM,oN,oO,oP,jP.symm,qH.symm,KK.none,pa,pb,pc,pd,pe,pf,pi,oQ,oR,oS,oT,jQ.symm,qI.symm,KK.none,pj,pk,pm,po,pp,pq,pz,oU,oV,oW,jR.symm,qJ.symm,KK.none,pA,pB,pC,pD,pE,pF,pH,oX,oY,jS.symm,qK.symm,KK.none,pI,pJ,pK,pL,pM,pN,pP,oZ,jT.symm,qL.symm,KK.none,pQ,pR,pS,pT,pU,pV,pZ,jU.symm,qM.symm,KK.none,KK.none.symm,KK.none.symm,KK.none.symm,KK.none.symm,KK.none.symm,KK.none.symm,KK.none.symm,KK.none.symm,KK.none.symm⟩ (fun el FF WW=>∃ (pa0_:Nat),FF 0 = .agg #[iv W,iv H,iv R,iv B]/\FF 1 = .agg #[iv K,iv Q,iv D,iv F]/\FF 2=v/\FF 3=pt p1 0/\FF 4=pt ao 0/\FF 6=pt ac 0/\FF 7=pt ae 0/\FF 8=iv (Rd W H R B K Q D F)/\FF 9=pt ap 0/\FF 10=pt ar 0/\FF 11=pt aq 0/\FF 13=pt pa0_ 0/\FF 20 = .bool (decide ((Rd W H R B K Q D F)≠0))/\FF 27 = .func (.func 60) #[] #[pt bI 0]/\FF 29 = .agg #[iv ((el.p:Nat):Int),iv (pX (Lh W el.p) el.i),iv (pY (Lh W el.p) el.i)]/\FF 53=undef/\Mz WW pa0_ 65 [iv ((el.p:Nat):Int),iv (pX (Lh W el.p) el.i),iv (pY (Lh W el.p) el.i)]/\KK (Lf pa0_) T_b/\KK (Lf pa0_) (Lf p1)/\KK (Lf pa0_) (Lf ao)/\KK (Lf pa0_) (Lf ac)/\KK (Lf pa0_) (Lf ae)/\KK (Lf pa0_) (Lf ap)/\KK (Lf pa0_) (Lf ar)/\KK (Lf pa0_) (Lf aq)/\KK (Lf pa0_) aZ) ?_ ?_ ?_ ?_ ?_
  ·rintro pre A_ B_ row_ ⟨V,ab,af,ah,ai,aj,ak,am,an,i0_,K_,B0_,B1_,B2_,B3_,B4_,B5_,B6_,B7_,B8_,B9_,B10_,B11_,B12_,B13_,B14_,B15_,B16_,g0_,g1_,g2_,g3_,g4_,g5_,g6_,g7_,a0_,a1_,a2_,a3_,a4_,a5_,a6_,a7_,a8_,a9_,a10_,a11_,a12_,a13_,a14_,a15_,a16_,a17_,a18_,a19_,a20_,a21_,a22_,a23_,a24_,a25_,a26_,a27_,a28_,a29_,a30_,a31_,a32_,a33_,a34_,a35_,a36_,a37_,a38_,a39_,a40_,a41_,a42_,a43_,a44_,a45_,a46_,a47_,a48_,a49_,a50_,a51_,a52_,a53_,a54_,a55_,a56_,a57_,a58_,a59_,a60_,a61_,a62_,a63_,a64_,a65_,a66_,a67_,a68_,a69_,a70_,a71_,a72_,a73_,a74_,a75_,a76_,a77_,a78_,a79_,a80_,a81_,a82_,a83_,a84_,a85_,a86_,a87_,a88_,a89_,a90_,a91_,a92_,a93_,a94_,a95_,a96_,a97_,a98_,a99_⟩ hg_ hr_
   exact⟨V,ab,af,ah,ai,aj,ak,am,an,i0_,K_.row hg_ hr_ dk.size,B0_.row hg_ hr_,B1_.row hg_ hr_,B2_.row hg_ hr_,B3_.row hg_ hr_,B4_.row hg_ hr_,B5_.row hg_ hr_,B6_.row hg_ hr_,B7_.row hg_ hr_,B8_.row hg_ hr_ bQ.lt,B9_.row hg_ hr_ bR.lt,B10_.row hg_ hr_ bS.lt,B11_.row hg_ hr_ bT.lt,B12_.row hg_ hr_ bU.lt,B13_.row hg_ hr_ bV.lt,B14_.row hg_ hr_,B15_.row hg_ hr_,B16_.row hg_ hr_,g0_,g1_,g2_,g3_,g4_,g5_,g6_,g7_,a0_,a1_,a2_,a3_,a4_,a5_,a6_,a7_,a8_,a9_,a10_,a11_,a12_,a13_,a14_,a15_,a16_,a17_,a18_,a19_,a20_,a21_,a22_,a23_,a24_,a25_,a26_,a27_,a28_,a29_,a30_,a31_,a32_,a33_,a34_,a35_,a36_,a37_,a38_,a39_,a40_,a41_,a42_,a43_,a44_,a45_,a46_,a47_,a48_,a49_,a50_,a51_,a52_,a53_,a54_,a55_,a56_,a57_,a58_,a59_,a60_,a61_,a62_,a63_,a64_,a65_,a66_,a67_,a68_,a69_,a70_,a71_,a72_,a73_,a74_,a75_,a76_,a77_,a78_,a79_,a80_,a81_,a82_,a83_,a84_,a85_,a86_,a87_,a88_,a89_,a90_,a91_,a92_,a93_,a94_,a95_,a96_,a97_,a98_,a99_⟩
  ·rintro pre A_ B_ row_ ⟨K_,B0_,B1_,B2_,B3_,B4_,B5_,B6_,B7_,i0_⟩ hg_ hr_
   exact⟨K_.row hg_ hr_ dk.size,B0_.row hg_ hr_,B1_.row hg_ hr_,B2_.row hg_ hr_,B3_.row hg_ hr_,B4_.row hg_ hr_,B5_.row hg_ hr_,B6_.row hg_ hr_,B7_.row hg_ hr_,i0_⟩
  ·rintro el FF _ A_ B_ row_ ⟨p0_,s0_,s1_,s2_,s3_,s4_,s5_,s6_,s7_,s8_,s9_,s10_,s11_,s12_,s13_,s14_,s15_,B0_,a0_,a1_,a2_,a3_,a4_,a5_,a6_,a7_,a8_⟩ hg_ hr_
   exact⟨p0_,s0_,s1_,s2_,s3_,s4_,s5_,s6_,s7_,s8_,s9_,s10_,s11_,s12_,s13_,s14_,s15_,B0_.row hg_ hr_,a0_,a1_,a2_,a3_,a4_,a5_,a6_,a7_,a8_⟩
  ·rintro l_ pre el W_ ⟨V,ab,af,ah,ai,aj,ak,am,an,hN,qV,kj,kn,ko,kp,kq,kr,ks,kt,ku,kv,kw,kx,ky,kz,kA,kB,kC,qW,qX,qY,qZ,q5,q6,q7,q8,q9,ra,rb,rc,re,rf,rg,rh,ri,rj,rk,rl,rm,rn,rp,rq,rt,ru,rv,rx,ry,rz,rA,rB,rC,rD,rE,rF,rG,rH,rI,rJ,rK,rL,rM,rN,rO,rP,rQ,rR,rS,rT,rU,rV,rW,rX,rY,rZ,r4,r5,r6,r7,r8,r9,sb,sc,sd,se,sf,sg,si,sj,sk,sl,sm,sn,so,sp,sq,ss,su,sv,sw,sx,sy,sz,sA,sB,sC,sD,sE,sF,sG,sH,sI,sJ,sK,sL,sM,sN,sO,sP,sQ,sR,sS,sT,sU,sV,sW,sX⟩
   refine KH (LF (n:=3) (vs:=[iv 0,iv 0,iv 0]) rfl rfl rfl (by kernel_rfl) fun kD BF sY gh gi=>?_)
   obtain⟨kE,kF,kG,kH,kI,kJ,sZ,kK,ta,tb,tc,td,tf,tg⟩:=RT gh kj kn ko kp kq kr ks kt ku kv kw kx ky kz
   obtain⟨kL,kM,th⟩:=TD gh kA kB kC
   obtain⟨ti,tj,tk,tl,tm,tn,tp,tq,tu,tv,tw,tx,tz,tA⟩:=Ph gi kj kn ko kp kq kr ks kt ku kv kw kx ky kz
   obtain⟨tB,tC,tD⟩:=Nu gi kA kB kC
   refine Lj (us:=[iv ((el.p:Nat):Int),iv (pX (Lh W el.p) el.i),iv (pY (Lh W el.p) el.i)]) P4 rfl rfl rfl rfl rfl sY rfl (KX rfl (KX rfl (KX rfl MG))) fun BG tE aB=>?_
   have tF:=ti.all aB kE.symm
   have tG:=tj.all aB (kF.symm p1 rfl)
   have tH:=tk.all aB (kG.symm ao rfl)
   have tI:=tl.all aB (kH.symm ac rfl)
   have tJ:=tm.all aB (kI.symm ae rfl)
   have tK:=tn.all aB (kJ.symm ap rfl)
   have tL:=tp.all aB sZ.symm
   have tM:=tq.all aB (kK.symm ar rfl)
   have tN:=tu.all aB ta.symm
   have tO:=tv.all aB tb.symm
   have tP:=tw.all aB tc.symm
   have tQ:=tx.all aB td.symm
   have tS:=tz.all aB tf.symm
   have tT:=tA.all aB tg.symm
   have tU:=tB.all aB (kL.symm aq rfl)
   have tV:=tC.all aB kM.symm
   have tW:=tD.all aB th.symm
   have gj:=((KO.refl (fun _=>False) W_).trans gi (fun _ _ x=>x.elim)).trans aB (KP.ok (S:=fun _=>False) (KP.new (KO.refl (fun _=>False) W_) gh) K3)
   refine KM ?_
   have tX:=K4 (undef)
   have tY:=K4 (.agg #[iv ((el.p:Nat):Int),iv (pX (Lh W el.p) el.i),iv (pY (Lh W el.p) el.i)])
   have tZ:=K4 (pt kD 0)
   exact⟨OP.keeps OP.no gj _,gj.mono (fun _ _ x=>x.elim),⟨V,ab,af,ah,ai,aj,ak,am,an,hN,qV.trans gj (fun _ _ x=>x.elim),tF,tG,tH,tI,tJ,tK,tL,tM,tN,tO,tP,tQ,tS,tT,tU,tV,tW,qW,qX,qY,qZ,q5,q6,q7,q8,q9,ra,rb,rc,re,rf,rg,rh,ri,rj,rk,rl,rm,rn,rp,rq,rt,ru,rv,rx,ry,rz,rA,rB,rC,rD,rE,rF,rG,rH,rI,rJ,rK,rL,rM,rN,rO,rP,rQ,rR,rS,rT,rU,rV,rW,rX,rY,rZ,r4,r5,r6,r7,r8,r9,sb,sc,sd,se,sf,sg,si,sj,sk,sl,sm,sn,so,sp,sq,ss,su,sv,sw,sx,sy,sz,sA,sB,sC,sD,sE,sF,sG,sH,sI,sJ,sK,sL,sM,sN,sO,sP,sQ,sR,sS,sT,sU,sV,sW,sX⟩,⟨kD,qN,qO,qP,qQ,qR,cD,cE,qS,kf,kg,qU,tZ,qT,ki,tY,tX,tE,kE,kF,kG,kH,kI,kJ,kK,kL,kM⟩⟩
  ·rintro l_ pre el BH aa ⟨V,ab,af,ah,ai,aj,ak,am,an,hN,az,bh,bi,aT,aC,aD,aE,be,aU,aG,aH,aI,aJ,aK,aL,aV,au,aF,bm,bn,bo,bp,bq,bt,bu,bv,cF,cG,bJ,cH,cI,cJ,bK,dl,dm,dn,dp,dq,dr,bL,bM,cK,eX,eY,dt,eZ,e6,cL,du,gl,dv,dw,dy,dz,dA,co,cM,e7,e8,dB,e9,fa,cN,dC,dD,dE,dF,dG,dH,cq,cO,fb,fc,dI,fd,fe,cP,dJ,gm,dK,dL,dM,cr,cQ,ff,fg,dN,fh,fk,cR,dO,dP,dQ,dR,ct,cS,fm,fo,dS,fp,fq,cT,dT,gn,dU,cu,cU,ft,fu,dV,fw,fx,cV,dW,dX,cv,cW,cX,cY,cZ,c5,c6,c7,c9,da,bN⟩ ⟨aw,BI,BJ,BK,BL,go,gp,gq,BM,gr,gt,gu,db,BN,BO,BP,BQ,bz,BR,BS,BT,BU,BV,BW,BX,BZ,Ca⟩ hlen_
   have bj:=KO.refl (fun i=>(Lf ac) i\/((Lf ae) i\/((Lf ap) i\/(ab i\/(af i\/(ah i\/(ai i\/(aj i\/(ak i\/(am i\/(an i))))))))))) aa
   have dc:KK (Lf aw) ab:=(aBZ bz be (by decide))
   have kN:KK (Lf aw) af:=(Ss bz aG (by decide))
   have kO:KK (Lf aw) ah:=(Ss bz aH (by decide))
   have kP:KK (Lf aw) ai:=(Ss bz aI (by decide))
   have kQ:KK (Lf aw) aj:=(Ss bz aJ (by decide))
   have kR:KK (Lf aw) ak:=(Ss bz aK (by decide))
   have kS:KK (Lf aw) am:=(Ss bz aL (by decide))
   have gv:=hA.all az
   have hO2:=hO.all az
   have hab0:=RU bm hA
   have hab1:=RU bn hA
   have hab2:=RU bo hA
   have hab3:=RU bp hA
   have hab4:=RU bq hA
   have hab5:=RU bt hA
   have hab6:=RU bu hA
   have hab7:=RU bv hA
   have hei:=el.hi
   refine Lm (KJ ?_)
   rcases (show el.p=0\/el.p=1\/el.p=2 from (by have:=el.hp;omega)) with hpv|hpv|hpv
   ·skip
    have kT:Mz aa aw 65 [iv ((0:Nat):Int),iv (pX (Lh W 0) el.i),iv (pY (Lh W 0) el.i)]:=by have h_:=bz;rw[hpv] at h_;exact h_
    have hwp:=Sg (W:=W) (p:=0) hsd.1
    have hwl:=OB (W:=W) (p:=0) hsd.2.1
    have hwh:=OB (W:=H) (p:=0) hsd.2.2.2.2.1
    have hwn:Lh W 0*Lh H 0<=16*16:=Nat.mul_le_mul hwl hwh
    rw[hpv] at hei
    refine QQ (γ:=(Nat->Prop)×(Nat->Prop)×(Nat->Prop)) [(9,8),(10,8),(11,8),(13,8),(14,8),(13,12),(14,12)] [some 31,some 32,some 33,some 34,some 35,some 36,some 37,some 38,some 39,some 30,some 40,some 41,some 14,none,some 15] ⟨fun w_=>Pr w_ ab aA l ((K2 l K W H pre).s)/\Pf w_ af a8 de (((K2 l K W H pre).f 0).1)/\Pf w_ ah a9 df (((K2 l K W H pre).f 0).2),fun i=>ab i\/(af i\/(ah i)),fun g_ w_=>(Pr w_ (g_.1) aA l ((RQ l K (Lh W 0) (el.i) ⟨(((K2 l K W H pre).f 0).1),(((K2 l K W H pre).f 0).2),((K2 l K W H pre).s)⟩).s)/\KP aa ab (g_.1))/\(Pf w_ (g_.2.1) a8 de ((RQ l K (Lh W 0) (el.i) ⟨(((K2 l K W H pre).f 0).1),(((K2 l K W H pre).f 0).2),((K2 l K W H pre).s)⟩).a)/\KP aa af (g_.2.1))/\(Pf w_ (g_.2.2) a9 df ((RQ l K (Lh W 0) (el.i) ⟨(((K2 l K W H pre).f 0).1),(((K2 l K W H pre).f 0).2),((K2 l K W H pre).s)⟩).b)/\KP aa ah (g_.2.2))/\KK (g_.1) (g_.2.1)/\KK (g_.1) (g_.2.2)/\KK (g_.2.1) (g_.2.2),fun g_=>fun i=>(g_.1) i\/((g_.2.1) i\/((g_.2.2) i)),fun p_ w_=>Mz w_ p_ 71 (Oe 0 0 0 0 0 (fun _=>(0:Int))),fun g_ p_ w_=>Mz w_ p_ 71 (O1 (Qr l K (Lh W 0) (el.i) ⟨(((K2 l K W H pre).f 0).1),(((K2 l K W H pre).f 0).2),((K2 l K W H pre).s)⟩))⟩ (fun i=>ab i\/(af i\/(ah i))) (fun p_=>aa.heap.size<=p_) [fun g_=>pt aA 0,fun g_=>pt ao 0,fun g_=>iv K,fun g_=>pt aw 0,fun g_=>iv ((0:Nat):Int),fun g_=>pt aq 0,fun g_=>.agg #[a8,a9],fun g_=>.agg #[iv ((0:Nat):Int),iv (pX (Lh W 0) el.i),iv (pY (Lh W 0) el.i)],fun g_=>.tuple #[.agg (O1 (Qr l K (Lh W 0) (el.i) ⟨(((K2 l K W H pre).f 0).1),(((K2 l K W H pre).f 0).2),((K2 l K W H pre).s)⟩)).toArray,iv ((Ma l K (Lh W 0) (el.i) ⟨(((K2 l K W H pre).f 0).1),(((K2 l K W H pre).f 0).2),((K2 l K W H pre).s)⟩).2.1)],fun g_=>.tuple #[.agg (O1 (Qr l K (Lh W 0) (el.i) ⟨(((K2 l K W H pre).f 0).1),(((K2 l K W H pre).f 0).2),((K2 l K W H pre).s)⟩)).toArray,iv ((Ma l K (Lh W 0) (el.i) ⟨(((K2 l K W H pre).f 0).1),(((K2 l K W H pre).f 0).2),((K2 l K W H pre).s)⟩).2.1)],fun g_=>.agg (O1 (Qr l K (Lh W 0) (el.i) ⟨(((K2 l K W H pre).f 0).1),(((K2 l K W H pre).f 0).2),((K2 l K W H pre).s)⟩)).toArray,fun g_=>iv ((Ma l K (Lh W 0) (el.i) ⟨(((K2 l K W H pre).f 0).1),(((K2 l K W H pre).f 0).2),((K2 l K W H pre).s)⟩).2.1),fun _=>undef,fun _=>undef,fun g_=>iv ((Ma l K (Lh W 0) (el.i) ⟨(((K2 l K W H pre).f 0).1),(((K2 l K W H pre).f 0).2),((K2 l K W H pre).s)⟩).2.1)] 8 13 (some 12) (LX,LX,LX) 0 (by kernel_rfl) (by kernel_rfl) (by kernel_rfl) (by kernel_rfl) ⟨.inr (.inr fun _ _=>rfl),⟨.inr (.inr fun _ _=>rfl),⟨.inr (.inr fun _ _=>rfl),⟨.inr (.inr fun _ _=>rfl),⟨.inr (.inr fun _ _=>rfl),⟨.inr (.inr fun _ _=>rfl),⟨.inr (.inr fun _ _=>rfl),⟨.inr (.inr fun _ _=>rfl),⟨.inr (.inl rfl),⟨.inl rfl,⟨.inl rfl,⟨.inl rfl,⟨.inr (.inr fun _ _=>rfl),⟨.inl rfl,⟨.inl rfl,trivial⟩⟩⟩⟩⟩⟩⟩⟩⟩⟩⟩⟩⟩⟩⟩ ⟨⟨be,aG,aH⟩,fun w w1 S1 h k a=>by obtain⟨h0_,h1_,h2_⟩:=h;exact⟨h0_.all k (fun i z=>a i (Or.inl z)),h1_.all k (fun i z=>a i (Or.inr (Or.inl z))),h2_.all k (fun i z=>a i (Or.inr (Or.inr z)))⟩,fun w h i z=>by obtain⟨h0_,h1_,h2_⟩:=h;rcases z with z|z|z <;> first|exact h0_.live i z|exact h1_.live i z|exact h2_.live i z,fun g w w1 S1 h k a=>by obtain⟨⟨b0_,g0_⟩,⟨b1_,g1_⟩,⟨b2_,g2_⟩,a0_1_,a0_2_,a1_2_⟩:=h;exact⟨⟨b0_.all k (fun i z=>a i (Or.inl z)),g0_⟩,⟨b1_.all k (fun i z=>a i (Or.inr (Or.inl z))),g1_⟩,⟨b2_.all k (fun i z=>a i (Or.inr (Or.inr z))),g2_⟩,a0_1_,a0_2_,a1_2_⟩,fun g w h i z=>by obtain⟨⟨b0_,g0_⟩,⟨b1_,g1_⟩,⟨b2_,g2_⟩,a0_1_,a0_2_,a1_2_⟩:=h;rcases z with z|z|z <;> first|exact b0_.live i z|exact b1_.live i z|exact b2_.live i z,fun _ _ _ _ h k z=>h.all k z,fun _ _ h=>h.lt,fun _ _ _ _ _ h k z=>h.all k z,fun _ z=>z,fun _ h=>.inr h,fun p h z=>by rcases z with z|z|z <;> first|exact absurd h (Nat.not_le.2 (be.live p z))|exact absurd h (Nat.not_le.2 (aG.live p z))|exact absurd h (Nat.not_le.2 (aH.live p z))⟩ (fun _ _ _ h=>h) (fun e=>by cases e) ?_ ?_
    ·refine KV ?_ ?_
     ·refine Ln.one rfl rfl rfl rfl fun g_ p_ F_ w_ hR hout hD=>?_
      exact(MC rfl ((hout 10 rfl (by decide)).trans gt) Tryz.underlying54 (aU.all hR (fun x=>(x.elim (fun y=>((bK.symm) ar rfl y)) (fun y=>(y.elim (fun y=>((du.symm) ar rfl y)) (fun y=>((dC.symm) ar rfl y))))))) rfl ⟨rfl,KO.refl _ _⟩)
     refine KV ?_ ?_
     ·refine Ln.one rfl rfl rfl rfl fun g_ p_ F_ w_ hR hout hD=>?_
      exact(KU (n:=1) rfl ((hout 4 rfl (by decide)).trans go) Tryz.underlying25 rfl (by kernel_rfl) (by decide) rfl ⟨rfl,KO.refl _ _⟩)
     refine KV ?_ ?_
     ·refine Ln.one rfl rfl rfl rfl fun g_ p_ F_ w_ hR hout hD=>?_
      have dZ:F_ 32=pt ao 0:=(hD.get 0 rfl rfl rfl).2 (by decide)
      exact(KY rfl dZ Tryz.underlying3 (aT.all hR (fun x=>(x.elim (fun y=>((bJ.symm) ao rfl y)) (fun y=>(y.elim (fun y=>((dt.symm) ao rfl y)) (fun y=>((dB.symm) ao rfl y))))))) rfl rfl ⟨rfl,KO.refl _ _⟩)
     refine KV ?_ ?_
     ·refine Ln.one rfl rfl rfl rfl fun g_ p_ F_ w_ hR hout hD=>?_
      exact(KU (n:=1) rfl ((hout 13 rfl (by decide)).trans db) Tryz.underlying65 rfl (by kernel_rfl) (by decide) rfl ⟨rfl,KO.refl _ _⟩)
     refine KV ?_ ?_
     ·refine Ln.one rfl rfl rfl rfl fun g_ p_ F_ w_ hR hout hD=>?_
      have d8:F_ 34=pt aw 0:=(hD.get 0 rfl rfl rfl).2 (by decide)
      exact(KY rfl d8 Tryz.underlying3 (kT.all hR (fun x=>(x.elim (fun y=>(dc aw rfl y)) (fun y=>(y.elim (fun y=>(kN aw rfl y)) (fun y=>(kO aw rfl y))))))) rfl rfl ⟨rfl,KO.refl _ _⟩)
     refine KV ?_ ?_
     ·refine Ln.one rfl rfl rfl rfl fun g_ p_ F_ w_ hR hout hD=>?_
      have d9:F_ 35=iv ((0:Nat):Int):=(hD.get 0 rfl rfl rfl).2 (by decide)
      exact(LV 0 (s:=2) rfl ((hout 11 rfl (by decide)).trans gu) d9 (by omega) Tryz.underlying59 (by omega) (by kernel_rfl) (by omega) ⟨rfl,KO.refl _ _⟩)
     refine KV ?_ ?_
     ·refine Ln.one rfl rfl rfl rfl fun g_ p_ F_ w_ hR hout hD=>?_
      have eb:F_ 36=pt aq 0:=(hD.get 0 rfl rfl rfl).2 (by decide)
      exact(O4 (n:=2) Vg rfl eb (aV.all hR (fun x=>(x.elim (fun y=>((bL.symm) aq rfl y)) (fun y=>(y.elim (fun y=>((dA.symm) aq rfl y)) (fun y=>((dH.symm) aq rfl y))))))) (Nat.le_of_ble_eq_true rfl) rfl ⟨rfl,KO.refl _ _⟩)
     refine KV ?_ ?_
     ·refine Ln.one rfl rfl rfl rfl fun g_ p_ F_ w_ hR hout hD=>?_
      exact(KZ P4 rfl ((hout 13 rfl (by decide)).trans db) (kT.all hR (fun x=>(x.elim (fun y=>(dc aw rfl y)) (fun y=>(y.elim (fun y=>(kN aw rfl y)) (fun y=>(kO aw rfl y))))))) ⟨rfl,KO.refl _ _⟩)
     refine KV ?_ ?_
     ·refine Ln.call rfl rfl rfl rfl fun g_ p_ F_ w_ hR hout hD hP_=>?_
      have ee:F_ 31=pt aA 0:=(hD.get 0 rfl rfl rfl).2 (by decide)
      have eh:F_ 33=iv K:=(hD.get 1 rfl rfl rfl).2 (by decide)
      have ei:F_ 37 = .agg #[a8,a9]:=(hD.get 2 rfl rfl rfl).2 (by decide)
      have ek:F_ 38 = .agg #[iv ((0:Nat):Int),iv (pX (Lh W 0) el.i),iv (pY (Lh W 0) el.i)]:=(hD.get 3 rfl rfl rfl).2 (by decide)
      exact(LH rfl rfl rfl (fun _ _=>by kernel_rfl) (K5 _) (Lk ee (Lk eh (Lk ei (Lk ek LR)))) (XB aA l ((K2 l K W H pre).s) K ((0:Nat):Int) (Lh W 0) (el.i) a8 a9 de df (((K2 l K W H pre).f 0).1) (((K2 l K W H pre).f 0).2) ab af ah _ (gv.but hR (by rintro i (h|h|h) <;> first|exact hab0 _ h|exact hab1 _ h|exact hab2 _ h|exact hab3 _ h|exact hab4 _ h|exact hab5 _ h|exact hab6 _ h|exact hab7 _ h)) (hO2.but hR (ovO (by rintro i (h|h|h) <;> first|exact hab0 _ h|exact hab1 _ h|exact hab2 _ h|exact hab3 _ h|exact hab4 _ h|exact hab5 _ h|exact hab6 _ h|exact hab7 _ h))) (by first|exact hab0|exact hab1|exact hab2|exact hab3|exact hab4|exact hab5|exact hab6|exact hab7) (by first|exact hab0|exact hab1|exact hab2|exact hab3|exact hab4|exact hab5|exact hab6|exact hab7) (by first|exact hab0|exact hab1|exact hab2|exact hab3|exact hab4|exact hab5|exact hab6|exact hab7) hwp hwl (by omega) hP_.1 hP_.2.1 hP_.2.2 dl dm gl) (fun e_ w_ h_=>by obtain⟨x0_,x1_,x2_,he_,hk_,⟨b0_,g0_⟩,⟨b1_,g1_⟩,⟨b2_,g2_⟩,a0_1_,a0_2_,a1_2_⟩:=h_;exact⟨_,he_,⟨x0_,x1_,x2_⟩,rfl,hk_,⟨⟨b0_,(KP.refl aa _).trans hR g0_⟩,⟨b1_,(KP.refl aa _).trans hR g1_⟩,⟨b2_,(KP.refl aa _).trans hR g2_⟩,a0_1_,a0_2_,a1_2_⟩,fun b hb=>by rcases hb with hb|hb|hb <;> first|exact(g0_ b hb).elim (fun z=>.inl (Or.inl z)) .inr|exact(g1_ b hb).elim (fun z=>.inl (Or.inr (Or.inl z))) .inr|exact(g2_ b hb).elim (fun z=>.inl (Or.inr (Or.inr z))) .inr⟩))
     refine KV ?_ ?_
     ·refine Ln.one rfl rfl rfl rfl fun g_ p_ F_ w_ hR hout hD=>?_
      have en:F_ 39 = .tuple #[.agg (O1 (Qr l K (Lh W 0) (el.i) ⟨(((K2 l K W H pre).f 0).1),(((K2 l K W H pre).f 0).2),((K2 l K W H pre).s)⟩)).toArray,iv ((Ma l K (Lh W 0) (el.i) ⟨(((K2 l K W H pre).f 0).1),(((K2 l K W H pre).f 0).2),((K2 l K W H pre).s)⟩).2.1)]:=(hD.get 0 rfl rfl rfl).2 (by decide)
      exact(KQ rfl en ⟨rfl,KO.refl _ _⟩)
     refine KV ?_ ?_
     ·refine Ln.one rfl rfl rfl rfl fun g_ p_ F_ w_ hR hout hD=>?_
      have bl:F_ 30 = .tuple #[.agg (O1 (Qr l K (Lh W 0) (el.i) ⟨(((K2 l K W H pre).f 0).1),(((K2 l K W H pre).f 0).2),((K2 l K W H pre).s)⟩)).toArray,iv ((Ma l K (Lh W 0) (el.i) ⟨(((K2 l K W H pre).f 0).1),(((K2 l K W H pre).f 0).2),((K2 l K W H pre).s)⟩).2.1)]:=(hD.get 0 rfl rfl rfl).2 (by decide)
      exact(LL rfl bl rfl ⟨rfl,KO.refl _ _⟩)
     refine KV ?_ ?_
     ·refine Ln.one rfl rfl rfl rfl fun g_ p_ F_ w_ hR hout hD=>?_
      have bl:F_ 30 = .tuple #[.agg (O1 (Qr l K (Lh W 0) (el.i) ⟨(((K2 l K W H pre).f 0).1),(((K2 l K W H pre).f 0).2),((K2 l K W H pre).s)⟩)).toArray,iv ((Ma l K (Lh W 0) (el.i) ⟨(((K2 l K W H pre).f 0).1),(((K2 l K W H pre).f 0).2),((K2 l K W H pre).s)⟩).2.1)]:=(hD.get 0 rfl rfl rfl).2 (by decide)
      exact(LL rfl bl rfl ⟨rfl,KO.refl _ _⟩)
     refine KV ?_ ?_
     ·refine Ln.alloc rfl rfl rfl rfl fun F_ w_ hR=>?_
      exact PE (n:=21) (vs:=(Oe 0 0 0 0 0 (fun _=>(0:Int)))) rfl (by kernel_rfl) ⟨_,rfl,Nat.le_refl _,heap_alloc_new _ _,(KO.refl _ _).alloc _⟩
     refine KV ?_ ?_
     ·refine Ln.store rfl rfl rfl rfl fun g_ p_ F_ w_ hR hout hD hO_ hZ_ hQ_=>?_
      have cy:F_ 14=pt p_ 0:=(hD.get 0 rfl rfl rfl).1 rfl
      have eo:F_ 40 = .agg (O1 (Qr l K (Lh W 0) (el.i) ⟨(((K2 l K W H pre).f 0).1),(((K2 l K W H pre).f 0).2),((K2 l K W H pre).s)⟩)).toArray:=(hD.get 1 rfl rfl rfl).2 (by decide)
      exact Qk (us:=(O1 (Qr l K (Lh W 0) (el.i) ⟨(((K2 l K W H pre).f 0).1),(((K2 l K W H pre).f 0).2),((K2 l K W H pre).s)⟩))) LE rfl cy eo hZ_ rfl (KX rfl (KX rfl (KX rfl (KX rfl (KX rfl (KX rfl (KX rfl (KX rfl (KX rfl (KX rfl (KX rfl (KX rfl (KX rfl (KX rfl (KX rfl (KX rfl (KX rfl (KX rfl (KX rfl (KX rfl (KX rfl MG))))))))))))))))))))) fun w2_ b_ k_=>⟨rfl,k_,b_⟩
     refine KV ?_ ?_
     ·refine Ln.one rfl rfl rfl rfl fun g_ p_ F_ w_ hR hout hD=>?_
      have ep:F_ 41=iv ((Ma l K (Lh W 0) (el.i) ⟨(((K2 l K W H pre).f 0).1),(((K2 l K W H pre).f 0).2),((K2 l K W H pre).s)⟩).2.1):=(hD.get 0 rfl rfl rfl).2 (by decide)
      exact(KS rfl ep ⟨rfl,KO.refl _ _⟩)
     exact Nk
    intro ua kV Cb kW fy aW Cc ub uc gw ud kX kY fA
    obtain⟨er,et,eu⟩:=ua
    have kZ:=bh.all aW (fun i h x=>(x.elim (fun y=>((cF.symm) i h y)) (fun y=>(y.elim (fun y=>((eX.symm) i h y)) (fun y=>((e7.symm) i h y))))))
    have k8:=bi.all aW (fun x=>(x.elim (fun y=>((cG.symm) p1 rfl y)) (fun y=>(y.elim (fun y=>((eY.symm) p1 rfl y)) (fun y=>((e8.symm) p1 rfl y))))))
    have la:=aT.all aW (fun x=>(x.elim (fun y=>((bJ.symm) ao rfl y)) (fun y=>(y.elim (fun y=>((dt.symm) ao rfl y)) (fun y=>((dB.symm) ao rfl y))))))
    have lc:=aC.all aW (fun x=>(x.elim (fun y=>((cH.symm) ac rfl y)) (fun y=>(y.elim (fun y=>((eZ.symm) ac rfl y)) (fun y=>((e9.symm) ac rfl y))))))
    have ld:=aD.all aW (fun x=>(x.elim (fun y=>((cI.symm) ae rfl y)) (fun y=>(y.elim (fun y=>((e6.symm) ae rfl y)) (fun y=>((fa.symm) ae rfl y))))))
    have le:=aE.all aW (fun x=>(x.elim (fun y=>((cJ.symm) ap rfl y)) (fun y=>(y.elim (fun y=>((cL.symm) ap rfl y)) (fun y=>((cN.symm) ap rfl y))))))
    have lf:=aU.all aW (fun x=>(x.elim (fun y=>((bK.symm) ar rfl y)) (fun y=>(y.elim (fun y=>((du.symm) ar rfl y)) (fun y=>((dC.symm) ar rfl y))))))
    have ue:=aI.all aW (fun i h x=>(x.elim (fun y=>((dn.symm) i h y)) (fun y=>(y.elim (fun y=>((dv.symm) i h y)) (fun y=>((dD.symm) i h y))))))
    have uf:=aJ.all aW (fun i h x=>(x.elim (fun y=>((dp.symm) i h y)) (fun y=>(y.elim (fun y=>((dw.symm) i h y)) (fun y=>((dE.symm) i h y))))))
    have ug:=aK.all aW (fun i h x=>(x.elim (fun y=>((dq.symm) i h y)) (fun y=>(y.elim (fun y=>((dy.symm) i h y)) (fun y=>((dF.symm) i h y))))))
    have uh:=aL.all aW (fun i h x=>(x.elim (fun y=>((dr.symm) i h y)) (fun y=>(y.elim (fun y=>((dz.symm) i h y)) (fun y=>((dG.symm) i h y))))))
    have lg:=aV.all aW (fun x=>(x.elim (fun y=>((bL.symm) aq rfl y)) (fun y=>(y.elim (fun y=>((dA.symm) aq rfl y)) (fun y=>((dH.symm) aq rfl y))))))
    have lh:=au.all aW (fun i h x=>(x.elim (fun y=>((bM.symm) i h y)) (fun y=>(y.elim (fun y=>((co.symm) i h y)) (fun y=>((cq.symm) i h y))))))
    have ui:=aF.all aW (fun i h x=>(x.elim (fun y=>((cK.symm) i h y)) (fun y=>(y.elim (fun y=>((cM.symm) i h y)) (fun y=>((cO.symm) i h y))))))
    have lj:=bj.trans aW (fun i hi x=>(x.elim (fun y=>((KP.ok (S:=fun i=>(Lf ac) i\/((Lf ae) i\/((Lf ap) i\/(ab i\/(af i\/(ah i\/(ai i\/(aj i\/(ak i\/(am i\/(an i))))))))))) (KP.refl aa ab) (fun _ x=>Or.inr (Or.inr (Or.inr (Or.inl x))))) i hi y)) (fun y=>(y.elim (fun y=>((KP.ok (S:=fun i=>(Lf ac) i\/((Lf ae) i\/((Lf ap) i\/(ab i\/(af i\/(ah i\/(ai i\/(aj i\/(ak i\/(am i\/(an i))))))))))) (KP.refl aa af) (fun _ x=>Or.inr (Or.inr (Or.inr (Or.inr (Or.inl x)))))) i hi y)) (fun y=>((KP.ok (S:=fun i=>(Lf ac) i\/((Lf ae) i\/((Lf ap) i\/(ab i\/(af i\/(ah i\/(ai i\/(aj i\/(ak i\/(am i\/(an i))))))))))) (KP.refl aa ah) (fun _ x=>Or.inr (Or.inr (Or.inr (Or.inr (Or.inr (Or.inl x))))))) i hi y))))))
    obtain⟨⟨gz,ew⟩,⟨gA,ex⟩,⟨gB,ey⟩,gC,gD,gE⟩:=ub
    replace gz:Pr fy er aA l ((RQ l K (Lh W 0) (el.i) ⟨(((K2 l K W H pre).f 0).1),(((K2 l K W H pre).f 0).2),((K2 l K W H pre).s)⟩).s):=gz
    replace gA:Pf fy et a8 de ((RQ l K (Lh W 0) (el.i) ⟨(((K2 l K W H pre).f 0).1),(((K2 l K W H pre).f 0).2),((K2 l K W H pre).s)⟩).a):=gA
    replace gB:Pf fy eu a9 df ((RQ l K (Lh W 0) (el.i) ⟨(((K2 l K W H pre).f 0).1),(((K2 l K W H pre).f 0).2),((K2 l K W H pre).s)⟩).b):=gB
    replace ew:KP aa ab er:=ew
    replace ex:KP aa af et:=ex
    replace ey:KP aa ah eu:=ey
    replace gC:KK er et:=gC
    replace gD:KK er eu:=gD
    replace gE:KK et eu:=gE
    obtain⟨uj,uk,ul,um,un,lk,uo,uq⟩:=RS ew cF bh cG bi bJ aT cH aC cI aD cJ aE bK aU dn aI
    obtain⟨ur,ut,uu,uv,uw,ll⟩:=Xq ew dp aJ dq aK dr aL bL aV bM au cK aF
    obtain⟨ux,uy,uz,uA,uB,lm,uC,uD⟩:=RS ex eX bh eY bi dt aT eZ aC e6 aD cL aE du aU dv aI
    obtain⟨uE,uF,uG,uH,uI,ln⟩:=Xq ex dw aJ dy aK dz aL dA aV co au cM aF
    obtain⟨uJ,uK,uL,uM,uN,lp,uO,uP⟩:=RS ey e7 bh e8 bi dB aT e9 aC fa aD cN aE dC aU dD aI
    obtain⟨uQ,uR,uS,uT,uU,lq⟩:=Xq ey dE aJ dF aK dG aL dH aV cq au cO aF
    replace gw:Mz fy kV 71 (O1 (Qr l K (Lh W 0) (el.i) ⟨(((K2 l K W H pre).f 0).1),(((K2 l K W H pre).f 0).2),((K2 l K W H pre).s)⟩)):=gw
    obtain⟨uV,uW,lr⟩:=t3 fA 6 gp 7 gq 9 gr
    have uX:kW 14=pt kV 0:=(fA 14).trans (kX 12 rfl)
    have lv:kW 15=iv ((Ma l K (Lh W 0) (el.i) ⟨(((K2 l K W H pre).f 0).1),(((K2 l K W H pre).f 0).2),((K2 l K W H pre).s)⟩).2.1):=(fA 15).trans (kY 14 (by decide) (by decide))
    clear fA kY kX ud uc
    refine KG (KJ (KJ (KH (KR rfl rfl rfl lv (KI (.bool (decide (((Ma l K (Lh W 0) (el.i) ⟨(((K2 l K W H pre).f 0).1),(((K2 l K W H pre).f 0).2),((K2 l K W H pre).s)⟩).2.1)≠0))) rfl rfl (Mb rfl rfl rfl rfl rr) (KM ?_))))))
    have uY:=K4 (.bool (decide (((Ma l K (Lh W 0) (el.i) ⟨(((K2 l K W H pre).f 0).1),(((K2 l K W H pre).f 0).2),((K2 l K W H pre).s)⟩).2.1)≠0)))
    refine KG ?_
    refine K6 uY (fun ez=>?_) (fun ez=>?_)
    ·replace ez:=of_decide_eq_true ez
     refine KJ ?_
     have hX:=Zn (l:=l) (k:=K) hpv hN (show (Ma l K (Lh W 0) el.i ((K2 l K W H pre).at 0)).2.1≠0 from by assumption)
     refine KH (KR rfl rfl rfl lv (L5 rfl rfl rfl uV rfl lc (by rfl) (by kernel_rfl) fun Cd uZ bW=>?_))
     have u0:=kZ.all bW fL.symm
     have u5:=k8.all bW (fM.symm p1 rfl)
     have u6:=la.all bW (fN.symm ao rfl)
     have u7:=ld.all bW (bg ae rfl)
     have u9:=lf.all bW (eR ar rfl)
     have va:=lg.all bW (eU aq rfl)
     have vb:=lh.all bW cA
     have vc:=lj.trans bW (KP.ok (S:=fun i=>(Lf ac) i\/((Lf ae) i\/((Lf ap) i\/(ab i\/(af i\/(ah i\/(ai i\/(aj i\/(ak i\/(am i\/(an i))))))))))) (KP.refl aa (Lf ac)) (fun _ x=>Or.inl x))
     refine L5 rfl rfl rfl uW rfl u7 (by rfl) (by kernel_rfl) fun Ce vd bX=>?_
     have ve:=u0.all bX fO.symm
     have vf:=u5.all bX (fP.symm p1 rfl)
     have vg:=u6.all bX (fQ.symm ao rfl)
     have vh:=uZ.all bX (bg.symm ac rfl)
     have vi:=u9.all bX (eS ar rfl)
     have vj:=va.all bX (eV aq rfl)
     have vk:=vb.all bX cB
     have lw:=vc.trans bX (KP.ok (S:=fun i=>(Lf ac) i\/((Lf ae) i\/((Lf ap) i\/(ab i\/(af i\/(ah i\/(ai i\/(aj i\/(ak i\/(am i\/(an i))))))))))) (KP.refl aa (Lf ae)) (fun _ x=>Or.inr (Or.inl x)))
     refine KM ?_
     refine KG (Lb (Lq (NT ?_)))
     exact⟨LQ.keeps (LQ.or aC.cells.cb (LQ.or aD.cells.cb (LQ.or aE.cells.cb (LQ.or be.cells.cb (LQ.or (aG.cb bQ.lt) (LQ.or (aH.cb bR.lt) (LQ.or (aI.cb bS.lt) (LQ.or (aJ.cb bT.lt) (LQ.or (aK.cb bU.lt) (LQ.or (aL.cb bV.lt) aF.cells.cb)))))))))) lw,⟨az.trans lw (fun i hi x=>(x.elim (fun y=>((KP.ok (S:=fun _=>False) bA K3) i hi y)) (fun y=>(y.elim (fun y=>((KP.ok (S:=fun _=>False) bB K3) i hi y)) (fun y=>(y.elim (fun y=>((KP.ok (S:=fun _=>False) cz K3) i hi y)) (fun y=>(y.elim (fun y=>((KP.ok (S:=fun _=>False) bm K3) i hi y)) (fun y=>(y.elim (fun y=>((KP.ok (S:=fun _=>False) bn K3) i hi y)) (fun y=>(y.elim (fun y=>((KP.ok (S:=fun _=>False) bo K3) i hi y)) (fun y=>(y.elim (fun y=>((KP.ok (S:=fun _=>False) bp K3) i hi y)) (fun y=>(y.elim (fun y=>((KP.ok (S:=fun _=>False) bq K3) i hi y)) (fun y=>(y.elim (fun y=>((KP.ok (S:=fun _=>False) bt K3) i hi y)) (fun y=>(y.elim (fun y=>((KP.ok (S:=fun _=>False) bu K3) i hi y)) (fun y=>((KP.ok (S:=fun _=>False) bv K3) i hi y)))))))))))))))))))))),ve,vf,vg,vh,(by rw[hX];exact vd),vi,vj,vk,(by rw[hX];assumption)⟩⟩
    ·replace ez:=of_decide_eq_false ez
     refine Lg (KG ?_)
     have hce:(Ma l K (Lh W 0) el.i ((K2 l K W H pre).at 0)).2.1=0:=by first|assumption|(apply Decidable.byContradiction;assumption)
     have hX:=aBk (l:=l) (k:=K) hpv hN hce
     have hol:=YT (l:=l) (k:=K) pre
     refine KH (KI V rfl rfl (MC rfl lr Tryz.underlying32 le rfl rr) (KI (.agg (O1 (Qr l K (Lh W 0) (el.i) ⟨(((K2 l K W H pre).f 0).1),(((K2 l K W H pre).f 0).2),((K2 l K W H pre).s)⟩)).toArray) rfl rfl (KZ LE rfl uX gw rr) (SZ (r:=TL) (xs:=[.tmp 46]) (vs:=[.agg (O1 (Qr l K (Lh W 0) (el.i) ⟨(((K2 l K W H pre).f 0).1),(((K2 l K W H pre).f 0).2),((K2 l K W H pre).s)⟩)).toArray]) (l:=[Qr l K (Lh W 0) (el.i) ⟨(((K2 l K W H pre).f 0).1),(((K2 l K W H pre).f 0).2),((K2 l K W H pre).s)⟩]) rfl rfl rfl rfl rfl (Lk rfl LR) rfl (by first|decide|exact Nat.le_of_ble_eq_true rfl) (by first|decide|exact Nat.le_of_ble_eq_true rfl) fun Cf Cg Ci vl Cj gF=>?_)))
     obtain⟨lx,ly,lz,lA,lB,lC,lD,lE,lF,lG,lH,lJ,lK,lL⟩:=Ph gF kZ k8 la lc ld le gz lf gA gB ue uf ug uh
     obtain⟨lM,lN,vm⟩:=Nu gF lg lh ui
     have lO:=lj.tr gF
     refine Sl (r:=TL) rfl rfl rfl rfl rfl rfl vm vl.roa (by first|omega|(simp;done)|(simp;omega)) fun vn Ck vo lP gG aM=>?_
     obtain⟨vp,vq,vr,vt,vu,lQ,vv,vw⟩:=RS gG cX lx cY ly cZ lz c5 lA c6 lB c7 lC (ll.symm) lD c9 lE
     obtain⟨vx,vy,vz,vA,vB,vC,vD,vE⟩:=RS gG (ln.symm) lF (lq.symm) lG (cQ.symm) lH (cS.symm) lJ (cU.symm) lK (cW.symm) lL da lM bN lN
     have vF:=lx.all aM cX.symm
     have vG:=ly.all aM (cY.symm p1 rfl)
     have vH:=lz.all aM (cZ.symm ao rfl)
     have vJ:=lA.all aM (c5.symm ac rfl)
     have vK:=lB.all aM (c6.symm ae rfl)
     have vL:=lC.all aM (c7.symm ap rfl)
     have vM:=lD.all aM ll
     have vN:=lE.all aM (c9.symm ar rfl)
     have vO:=lF.all aM ln
     have vP:=lG.all aM lq
     have vQ:=lH.all aM cQ
     have vR:=lJ.all aM cS
     have vS:=lK.all aM cU
     have vT:=lL.all aM cW
     have vU:=lM.all aM (da.symm aq rfl)
     have vV:=lN.all aM bN.symm
     have vW:=lO.trans aM (KP.ok (S:=fun i=>(Lf ac) i\/((Lf ae) i\/((Lf ap) i\/(ab i\/(af i\/(ah i\/(ai i\/(aj i\/(ak i\/(am i\/(an i))))))))))) (KP.refl aa an) (fun _ x=>Or.inr (Or.inr (Or.inr (Or.inr (Or.inr (Or.inr (Or.inr (Or.inr (Or.inr (Or.inr x)))))))))))
     refine L5 rfl rfl rfl lr rfl vL lP.oneC (by kernel_rfl) fun Cl vX aN=>?_
     have vY:=vF.all aN fX.symm
     have vZ:=vG.all aN (fY.symm p1 rfl)
     have v7:=vH.all aN (fZ.symm ao rfl)
     have v9:=vJ.all aN (f6.symm ac rfl)
     have wa:=vK.all aN (f7.symm ae rfl)
     have wb:=vM.all aN lk
     have wc:=vN.all aN (eT ar rfl)
     have lR:=vO.all aN lm
     have lS:=vP.all aN lp
     have lT:=vQ.all aN cP
     have lU:=vR.all aN cR
     have lV:=vS.all aN cT
     have lW:=vT.all aN cV
     have wd:=vU.all aN (eW aq rfl)
     have we:=vV.all aN cC
     have wg:=lP.all aN lQ
     have gH:=vW.trans aN (KP.ok (S:=fun i=>(Lf ac) i\/((Lf ae) i\/((Lf ap) i\/(ab i\/(af i\/(ah i\/(ai i\/(aj i\/(ak i\/(am i\/(an i))))))))))) (KP.refl aa (Lf ap)) (fun _ x=>Or.inr (Or.inr (Or.inl x))))
     refine KM ?_
     refine LC ?_
     exact⟨LQ.keeps (LQ.or aC.cells.cb (LQ.or aD.cells.cb (LQ.or aE.cells.cb (LQ.or be.cells.cb (LQ.or (aG.cb bQ.lt) (LQ.or (aH.cb bR.lt) (LQ.or (aI.cb bS.lt) (LQ.or (aJ.cb bT.lt) (LQ.or (aK.cb bU.lt) (LQ.or (aL.cb bV.lt) aF.cells.cb)))))))))) gH,gH.mono (fun i hi x=>(x.elim (fun y=>fun e=>cA.symm i y (by rw[au.1];exact e)) (fun y=>(y.elim (fun y=>fun e=>cB.symm i y (by rw[au.1];exact e)) (fun y=>(y.elim (fun y=>fun e=>cC.symm i y (by rw[au.1];exact e)) (fun y=>(y.elim (fun y=>fun e=>bM i y (by rw[au.1];exact e)) (fun y=>(y.elim (fun y=>fun e=>co i y (by rw[au.1];exact e)) (fun y=>(y.elim (fun y=>fun e=>cq i y (by rw[au.1];exact e)) (fun y=>(y.elim (fun y=>fun e=>cr i y (by rw[au.1];exact e)) (fun y=>(y.elim (fun y=>fun e=>ct i y (by rw[au.1];exact e)) (fun y=>(y.elim (fun y=>fun e=>cu i y (by rw[au.1];exact e)) (fun y=>(y.elim (fun y=>fun e=>cv i y (by rw[au.1];exact e)) (fun y=>(fun e=>bN i y (by rw[au.1];exact e))))))))))))))))))))))),⟨vn,er,et,eu,ai,aj,ak,am,vo,(hX.2.2.2.2),az.trans gH (fun i hi x=>(x.elim (fun y=>((KP.ok (S:=fun _=>False) bA K3) i hi y)) (fun y=>(y.elim (fun y=>((KP.ok (S:=fun _=>False) bB K3) i hi y)) (fun y=>(y.elim (fun y=>((KP.ok (S:=fun _=>False) cz K3) i hi y)) (fun y=>(y.elim (fun y=>((KP.ok (S:=fun _=>False) bm K3) i hi y)) (fun y=>(y.elim (fun y=>((KP.ok (S:=fun _=>False) bn K3) i hi y)) (fun y=>(y.elim (fun y=>((KP.ok (S:=fun _=>False) bo K3) i hi y)) (fun y=>(y.elim (fun y=>((KP.ok (S:=fun _=>False) bp K3) i hi y)) (fun y=>(y.elim (fun y=>((KP.ok (S:=fun _=>False) bq K3) i hi y)) (fun y=>(y.elim (fun y=>((KP.ok (S:=fun _=>False) bt K3) i hi y)) (fun y=>(y.elim (fun y=>((KP.ok (S:=fun _=>False) bu K3) i hi y)) (fun y=>((KP.ok (S:=fun _=>False) bv K3) i hi y)))))))))))))))))))))),vY,vZ,v7,v9,wa,vX,(by rw[hX.1];exact wb),wc,(by first|(rw[hX.2.2.1];exact lR)|(rw[hX.2.2.2.1 0 (by decide)];exact lR)),(by first|(rw[hX.2.2.1];exact lS)|(rw[hX.2.2.2.1 0 (by decide)];exact lS)),(by first|(rw[hX.2.2.1];exact lT)|(rw[hX.2.2.2.1 1 (by decide)];exact lT)),(by first|(rw[hX.2.2.1];exact lU)|(rw[hX.2.2.2.1 1 (by decide)];exact lU)),(by first|(rw[hX.2.2.1];exact lV)|(rw[hX.2.2.2.1 2 (by decide)];exact lV)),(by first|(rw[hX.2.2.1];exact lW)|(rw[hX.2.2.2.1 2 (by decide)];exact lW)),wd,we,(by rw[hX.2.1];exact wg),bm.trans az ((KP.refl aa ab).trans bj ew),bn.trans az ((KP.refl aa af).trans bj ex),bo.trans az ((KP.refl aa ah).trans bj ey),bp.trans az (KP.refl aa ai),bq.trans az (KP.refl aa aj),bt.trans az (KP.refl aa ak),bu.trans az (KP.refl aa am),bv.trans az (KP.trans (KP.refl aa an) lO gG),uj,uk,ul,um,un,lk,uo,gC,gD,uq,ur,ut,uu,uv,uw,vv.symm,ux,uy,uz,uA,uB,lm,uC,gE,uD,uE,uF,uG,uH,uI,vx.symm,uJ,uK,uL,uM,uN,lp,uO,uP,uQ,uR,uS,uT,uU,vy.symm,fb,fc,dI,fd,fe,cP,dJ,gm,dK,dL,dM,cr,vz.symm,ff,fg,dN,fh,fk,cR,dO,dP,dQ,dR,ct,vA.symm,fm,fo,dS,fp,fq,cT,dT,gn,dU,cu,vB.symm,ft,fu,dV,fw,fx,cV,dW,dX,cv,vC.symm,vp,vq,vr,vt,vu,lQ,vw,vD,vE⟩⟩
   ·skip
    have lX:Mz aa aw 65 [iv ((1:Nat):Int),iv (pX (Lh W 1) el.i),iv (pY (Lh W 1) el.i)]:=by have h_:=bz;rw[hpv] at h_;exact h_
    have hwp:=Sg (W:=W) (p:=1) hsd.1
    have hwl:=OB (W:=W) (p:=1) hsd.2.1
    have hwh:=OB (W:=H) (p:=1) hsd.2.2.2.2.1
    have hwn:Lh W 1*Lh H 1<=16*16:=Nat.mul_le_mul hwl hwh
    rw[hpv] at hei
    refine QQ (γ:=(Nat->Prop)×(Nat->Prop)×(Nat->Prop)) [(9,8),(10,8),(11,8),(13,8),(14,8),(13,12),(14,12)] [some 31,some 32,some 33,some 34,some 35,some 36,some 37,some 38,some 39,some 30,some 40,some 41,some 14,none,some 15] ⟨fun w_=>Pr w_ ab aA l ((K2 l K W H pre).s)/\Pf w_ ai ba dg (((K2 l K W H pre).f 1).1)/\Pf w_ aj bb dh (((K2 l K W H pre).f 1).2),fun i=>ab i\/(ai i\/(aj i)),fun g_ w_=>(Pr w_ (g_.1) aA l ((RQ l K (Lh W 1) (el.i) ⟨(((K2 l K W H pre).f 1).1),(((K2 l K W H pre).f 1).2),((K2 l K W H pre).s)⟩).s)/\KP aa ab (g_.1))/\(Pf w_ (g_.2.1) ba dg ((RQ l K (Lh W 1) (el.i) ⟨(((K2 l K W H pre).f 1).1),(((K2 l K W H pre).f 1).2),((K2 l K W H pre).s)⟩).a)/\KP aa ai (g_.2.1))/\(Pf w_ (g_.2.2) bb dh ((RQ l K (Lh W 1) (el.i) ⟨(((K2 l K W H pre).f 1).1),(((K2 l K W H pre).f 1).2),((K2 l K W H pre).s)⟩).b)/\KP aa aj (g_.2.2))/\KK (g_.1) (g_.2.1)/\KK (g_.1) (g_.2.2)/\KK (g_.2.1) (g_.2.2),fun g_=>fun i=>(g_.1) i\/((g_.2.1) i\/((g_.2.2) i)),fun p_ w_=>Mz w_ p_ 71 (Oe 0 0 0 0 0 (fun _=>(0:Int))),fun g_ p_ w_=>Mz w_ p_ 71 (O1 (Qr l K (Lh W 1) (el.i) ⟨(((K2 l K W H pre).f 1).1),(((K2 l K W H pre).f 1).2),((K2 l K W H pre).s)⟩))⟩ (fun i=>ab i\/(ai i\/(aj i))) (fun p_=>aa.heap.size<=p_) [fun g_=>pt aA 0,fun g_=>pt ao 0,fun g_=>iv K,fun g_=>pt aw 0,fun g_=>iv ((1:Nat):Int),fun g_=>pt aq 2,fun g_=>.agg #[ba,bb],fun g_=>.agg #[iv ((1:Nat):Int),iv (pX (Lh W 1) el.i),iv (pY (Lh W 1) el.i)],fun g_=>.tuple #[.agg (O1 (Qr l K (Lh W 1) (el.i) ⟨(((K2 l K W H pre).f 1).1),(((K2 l K W H pre).f 1).2),((K2 l K W H pre).s)⟩)).toArray,iv ((Ma l K (Lh W 1) (el.i) ⟨(((K2 l K W H pre).f 1).1),(((K2 l K W H pre).f 1).2),((K2 l K W H pre).s)⟩).2.1)],fun g_=>.tuple #[.agg (O1 (Qr l K (Lh W 1) (el.i) ⟨(((K2 l K W H pre).f 1).1),(((K2 l K W H pre).f 1).2),((K2 l K W H pre).s)⟩)).toArray,iv ((Ma l K (Lh W 1) (el.i) ⟨(((K2 l K W H pre).f 1).1),(((K2 l K W H pre).f 1).2),((K2 l K W H pre).s)⟩).2.1)],fun g_=>.agg (O1 (Qr l K (Lh W 1) (el.i) ⟨(((K2 l K W H pre).f 1).1),(((K2 l K W H pre).f 1).2),((K2 l K W H pre).s)⟩)).toArray,fun g_=>iv ((Ma l K (Lh W 1) (el.i) ⟨(((K2 l K W H pre).f 1).1),(((K2 l K W H pre).f 1).2),((K2 l K W H pre).s)⟩).2.1),fun _=>undef,fun _=>undef,fun g_=>iv ((Ma l K (Lh W 1) (el.i) ⟨(((K2 l K W H pre).f 1).1),(((K2 l K W H pre).f 1).2),((K2 l K W H pre).s)⟩).2.1)] 8 13 (some 12) (LX,LX,LX) 0 (by kernel_rfl) (by kernel_rfl) (by kernel_rfl) (by kernel_rfl) ⟨.inr (.inr fun _ _=>rfl),⟨.inr (.inr fun _ _=>rfl),⟨.inr (.inr fun _ _=>rfl),⟨.inr (.inr fun _ _=>rfl),⟨.inr (.inr fun _ _=>rfl),⟨.inr (.inr fun _ _=>rfl),⟨.inr (.inr fun _ _=>rfl),⟨.inr (.inr fun _ _=>rfl),⟨.inr (.inl rfl),⟨.inl rfl,⟨.inl rfl,⟨.inl rfl,⟨.inr (.inr fun _ _=>rfl),⟨.inl rfl,⟨.inl rfl,trivial⟩⟩⟩⟩⟩⟩⟩⟩⟩⟩⟩⟩⟩⟩⟩ ⟨⟨be,aI,aJ⟩,fun w w1 S1 h k a=>by obtain⟨h0_,h1_,h2_⟩:=h;exact⟨h0_.all k (fun i z=>a i (Or.inl z)),h1_.all k (fun i z=>a i (Or.inr (Or.inl z))),h2_.all k (fun i z=>a i (Or.inr (Or.inr z)))⟩,fun w h i z=>by obtain⟨h0_,h1_,h2_⟩:=h;rcases z with z|z|z <;> first|exact h0_.live i z|exact h1_.live i z|exact h2_.live i z,fun g w w1 S1 h k a=>by obtain⟨⟨b0_,g0_⟩,⟨b1_,g1_⟩,⟨b2_,g2_⟩,a0_1_,a0_2_,a1_2_⟩:=h;exact⟨⟨b0_.all k (fun i z=>a i (Or.inl z)),g0_⟩,⟨b1_.all k (fun i z=>a i (Or.inr (Or.inl z))),g1_⟩,⟨b2_.all k (fun i z=>a i (Or.inr (Or.inr z))),g2_⟩,a0_1_,a0_2_,a1_2_⟩,fun g w h i z=>by obtain⟨⟨b0_,g0_⟩,⟨b1_,g1_⟩,⟨b2_,g2_⟩,a0_1_,a0_2_,a1_2_⟩:=h;rcases z with z|z|z <;> first|exact b0_.live i z|exact b1_.live i z|exact b2_.live i z,fun _ _ _ _ h k z=>h.all k z,fun _ _ h=>h.lt,fun _ _ _ _ _ h k z=>h.all k z,fun _ z=>z,fun _ h=>.inr h,fun p h z=>by rcases z with z|z|z <;> first|exact absurd h (Nat.not_le.2 (be.live p z))|exact absurd h (Nat.not_le.2 (aI.live p z))|exact absurd h (Nat.not_le.2 (aJ.live p z))⟩ (fun _ _ _ h=>h) (fun e=>by cases e) ?_ ?_
    ·refine KV ?_ ?_
     ·refine Ln.one rfl rfl rfl rfl fun g_ p_ F_ w_ hR hout hD=>?_
      exact(MC rfl ((hout 10 rfl (by decide)).trans gt) Tryz.underlying54 (aU.all hR (fun x=>(x.elim (fun y=>((bK.symm) ar rfl y)) (fun y=>(y.elim (fun y=>((dJ.symm) ar rfl y)) (fun y=>((dO.symm) ar rfl y))))))) rfl ⟨rfl,KO.refl _ _⟩)
     refine KV ?_ ?_
     ·refine Ln.one rfl rfl rfl rfl fun g_ p_ F_ w_ hR hout hD=>?_
      exact(KU (n:=1) rfl ((hout 4 rfl (by decide)).trans go) Tryz.underlying25 rfl (by kernel_rfl) (by decide) rfl ⟨rfl,KO.refl _ _⟩)
     refine KV ?_ ?_
     ·refine Ln.one rfl rfl rfl rfl fun g_ p_ F_ w_ hR hout hD=>?_
      have dZ:F_ 32=pt ao 0:=(hD.get 0 rfl rfl rfl).2 (by decide)
      exact(KY rfl dZ Tryz.underlying3 (aT.all hR (fun x=>(x.elim (fun y=>((bJ.symm) ao rfl y)) (fun y=>(y.elim (fun y=>((dI.symm) ao rfl y)) (fun y=>((dN.symm) ao rfl y))))))) rfl rfl ⟨rfl,KO.refl _ _⟩)
     refine KV ?_ ?_
     ·refine Ln.one rfl rfl rfl rfl fun g_ p_ F_ w_ hR hout hD=>?_
      exact(KU (n:=1) rfl ((hout 13 rfl (by decide)).trans db) Tryz.underlying65 rfl (by kernel_rfl) (by decide) rfl ⟨rfl,KO.refl _ _⟩)
     refine KV ?_ ?_
     ·refine Ln.one rfl rfl rfl rfl fun g_ p_ F_ w_ hR hout hD=>?_
      have d8:F_ 34=pt aw 0:=(hD.get 0 rfl rfl rfl).2 (by decide)
      exact(KY rfl d8 Tryz.underlying3 (lX.all hR (fun x=>(x.elim (fun y=>(dc aw rfl y)) (fun y=>(y.elim (fun y=>(kP aw rfl y)) (fun y=>(kQ aw rfl y))))))) rfl rfl ⟨rfl,KO.refl _ _⟩)
     refine KV ?_ ?_
     ·refine Ln.one rfl rfl rfl rfl fun g_ p_ F_ w_ hR hout hD=>?_
      have d9:F_ 35=iv ((1:Nat):Int):=(hD.get 0 rfl rfl rfl).2 (by decide)
      exact(LV 1 (s:=2) rfl ((hout 11 rfl (by decide)).trans gu) d9 (by omega) Tryz.underlying59 (by omega) (by kernel_rfl) (by omega) ⟨rfl,KO.refl _ _⟩)
     refine KV ?_ ?_
     ·refine Ln.one rfl rfl rfl rfl fun g_ p_ F_ w_ hR hout hD=>?_
      have eb:F_ 36=pt aq 2:=(hD.get 0 rfl rfl rfl).2 (by decide)
      exact(O4 (n:=2) Vg rfl eb (aV.all hR (fun x=>(x.elim (fun y=>((bL.symm) aq rfl y)) (fun y=>(y.elim (fun y=>((dM.symm) aq rfl y)) (fun y=>((dR.symm) aq rfl y))))))) (Nat.le_of_ble_eq_true rfl) rfl ⟨rfl,KO.refl _ _⟩)
     refine KV ?_ ?_
     ·refine Ln.one rfl rfl rfl rfl fun g_ p_ F_ w_ hR hout hD=>?_
      exact(KZ P4 rfl ((hout 13 rfl (by decide)).trans db) (lX.all hR (fun x=>(x.elim (fun y=>(dc aw rfl y)) (fun y=>(y.elim (fun y=>(kP aw rfl y)) (fun y=>(kQ aw rfl y))))))) ⟨rfl,KO.refl _ _⟩)
     refine KV ?_ ?_
     ·refine Ln.call rfl rfl rfl rfl fun g_ p_ F_ w_ hR hout hD hP_=>?_
      have ee:F_ 31=pt aA 0:=(hD.get 0 rfl rfl rfl).2 (by decide)
      have eh:F_ 33=iv K:=(hD.get 1 rfl rfl rfl).2 (by decide)
      have ei:F_ 37 = .agg #[ba,bb]:=(hD.get 2 rfl rfl rfl).2 (by decide)
      have ek:F_ 38 = .agg #[iv ((1:Nat):Int),iv (pX (Lh W 1) el.i),iv (pY (Lh W 1) el.i)]:=(hD.get 3 rfl rfl rfl).2 (by decide)
      exact(LH rfl rfl rfl (fun _ _=>by kernel_rfl) (K5 _) (Lk ee (Lk eh (Lk ei (Lk ek LR)))) (XB aA l ((K2 l K W H pre).s) K ((1:Nat):Int) (Lh W 1) (el.i) ba bb dg dh (((K2 l K W H pre).f 1).1) (((K2 l K W H pre).f 1).2) ab ai aj _ (gv.but hR (by rintro i (h|h|h) <;> first|exact hab0 _ h|exact hab1 _ h|exact hab2 _ h|exact hab3 _ h|exact hab4 _ h|exact hab5 _ h|exact hab6 _ h|exact hab7 _ h)) (hO2.but hR (ovO (by rintro i (h|h|h) <;> first|exact hab0 _ h|exact hab1 _ h|exact hab2 _ h|exact hab3 _ h|exact hab4 _ h|exact hab5 _ h|exact hab6 _ h|exact hab7 _ h))) (by first|exact hab0|exact hab1|exact hab2|exact hab3|exact hab4|exact hab5|exact hab6|exact hab7) (by first|exact hab0|exact hab1|exact hab2|exact hab3|exact hab4|exact hab5|exact hab6|exact hab7) (by first|exact hab0|exact hab1|exact hab2|exact hab3|exact hab4|exact hab5|exact hab6|exact hab7) hwp hwl (by omega) hP_.1 hP_.2.1 hP_.2.2 dn dp gm) (fun e_ w_ h_=>by obtain⟨x0_,x1_,x2_,he_,hk_,⟨b0_,g0_⟩,⟨b1_,g1_⟩,⟨b2_,g2_⟩,a0_1_,a0_2_,a1_2_⟩:=h_;exact⟨_,he_,⟨x0_,x1_,x2_⟩,rfl,hk_,⟨⟨b0_,(KP.refl aa _).trans hR g0_⟩,⟨b1_,(KP.refl aa _).trans hR g1_⟩,⟨b2_,(KP.refl aa _).trans hR g2_⟩,a0_1_,a0_2_,a1_2_⟩,fun b hb=>by rcases hb with hb|hb|hb <;> first|exact(g0_ b hb).elim (fun z=>.inl (Or.inl z)) .inr|exact(g1_ b hb).elim (fun z=>.inl (Or.inr (Or.inl z))) .inr|exact(g2_ b hb).elim (fun z=>.inl (Or.inr (Or.inr z))) .inr⟩))
     refine KV ?_ ?_
     ·refine Ln.one rfl rfl rfl rfl fun g_ p_ F_ w_ hR hout hD=>?_
      have en:F_ 39 = .tuple #[.agg (O1 (Qr l K (Lh W 1) (el.i) ⟨(((K2 l K W H pre).f 1).1),(((K2 l K W H pre).f 1).2),((K2 l K W H pre).s)⟩)).toArray,iv ((Ma l K (Lh W 1) (el.i) ⟨(((K2 l K W H pre).f 1).1),(((K2 l K W H pre).f 1).2),((K2 l K W H pre).s)⟩).2.1)]:=(hD.get 0 rfl rfl rfl).2 (by decide)
      exact(KQ rfl en ⟨rfl,KO.refl _ _⟩)
     refine KV ?_ ?_
     ·refine Ln.one rfl rfl rfl rfl fun g_ p_ F_ w_ hR hout hD=>?_
      have bl:F_ 30 = .tuple #[.agg (O1 (Qr l K (Lh W 1) (el.i) ⟨(((K2 l K W H pre).f 1).1),(((K2 l K W H pre).f 1).2),((K2 l K W H pre).s)⟩)).toArray,iv ((Ma l K (Lh W 1) (el.i) ⟨(((K2 l K W H pre).f 1).1),(((K2 l K W H pre).f 1).2),((K2 l K W H pre).s)⟩).2.1)]:=(hD.get 0 rfl rfl rfl).2 (by decide)
      exact(LL rfl bl rfl ⟨rfl,KO.refl _ _⟩)
     refine KV ?_ ?_
     ·refine Ln.one rfl rfl rfl rfl fun g_ p_ F_ w_ hR hout hD=>?_
      have bl:F_ 30 = .tuple #[.agg (O1 (Qr l K (Lh W 1) (el.i) ⟨(((K2 l K W H pre).f 1).1),(((K2 l K W H pre).f 1).2),((K2 l K W H pre).s)⟩)).toArray,iv ((Ma l K (Lh W 1) (el.i) ⟨(((K2 l K W H pre).f 1).1),(((K2 l K W H pre).f 1).2),((K2 l K W H pre).s)⟩).2.1)]:=(hD.get 0 rfl rfl rfl).2 (by decide)
      exact(LL rfl bl rfl ⟨rfl,KO.refl _ _⟩)
     refine KV ?_ ?_
     ·refine Ln.alloc rfl rfl rfl rfl fun F_ w_ hR=>?_
      exact PE (n:=21) (vs:=(Oe 0 0 0 0 0 (fun _=>(0:Int)))) rfl (by kernel_rfl) ⟨_,rfl,Nat.le_refl _,heap_alloc_new _ _,(KO.refl _ _).alloc _⟩
     refine KV ?_ ?_
     ·refine Ln.store rfl rfl rfl rfl fun g_ p_ F_ w_ hR hout hD hO_ hZ_ hQ_=>?_
      have cy:F_ 14=pt p_ 0:=(hD.get 0 rfl rfl rfl).1 rfl
      have eo:F_ 40 = .agg (O1 (Qr l K (Lh W 1) (el.i) ⟨(((K2 l K W H pre).f 1).1),(((K2 l K W H pre).f 1).2),((K2 l K W H pre).s)⟩)).toArray:=(hD.get 1 rfl rfl rfl).2 (by decide)
      exact Qk (us:=(O1 (Qr l K (Lh W 1) (el.i) ⟨(((K2 l K W H pre).f 1).1),(((K2 l K W H pre).f 1).2),((K2 l K W H pre).s)⟩))) LE rfl cy eo hZ_ rfl (KX rfl (KX rfl (KX rfl (KX rfl (KX rfl (KX rfl (KX rfl (KX rfl (KX rfl (KX rfl (KX rfl (KX rfl (KX rfl (KX rfl (KX rfl (KX rfl (KX rfl (KX rfl (KX rfl (KX rfl (KX rfl MG))))))))))))))))))))) fun w2_ b_ k_=>⟨rfl,k_,b_⟩
     refine KV ?_ ?_
     ·refine Ln.one rfl rfl rfl rfl fun g_ p_ F_ w_ hR hout hD=>?_
      have ep:F_ 41=iv ((Ma l K (Lh W 1) (el.i) ⟨(((K2 l K W H pre).f 1).1),(((K2 l K W H pre).f 1).2),((K2 l K W H pre).s)⟩).2.1):=(hD.get 0 rfl rfl rfl).2 (by decide)
      exact(KS rfl ep ⟨rfl,KO.refl _ _⟩)
     exact Nk
    intro wh lY Cm lZ fB aX Cn wi wj gI wk l0 l1 fC
    obtain⟨eA,eB,eC⟩:=wh
    have l3:=bh.all aX (fun i h x=>(x.elim (fun y=>((cF.symm) i h y)) (fun y=>(y.elim (fun y=>((fb.symm) i h y)) (fun y=>((ff.symm) i h y))))))
    have l4:=bi.all aX (fun x=>(x.elim (fun y=>((cG.symm) p1 rfl y)) (fun y=>(y.elim (fun y=>((fc.symm) p1 rfl y)) (fun y=>((fg.symm) p1 rfl y))))))
    have l5:=aT.all aX (fun x=>(x.elim (fun y=>((bJ.symm) ao rfl y)) (fun y=>(y.elim (fun y=>((dI.symm) ao rfl y)) (fun y=>((dN.symm) ao rfl y))))))
    have l6:=aC.all aX (fun x=>(x.elim (fun y=>((cH.symm) ac rfl y)) (fun y=>(y.elim (fun y=>((fd.symm) ac rfl y)) (fun y=>((fh.symm) ac rfl y))))))
    have l7:=aD.all aX (fun x=>(x.elim (fun y=>((cI.symm) ae rfl y)) (fun y=>(y.elim (fun y=>((fe.symm) ae rfl y)) (fun y=>((fk.symm) ae rfl y))))))
    have l8:=aE.all aX (fun x=>(x.elim (fun y=>((cJ.symm) ap rfl y)) (fun y=>(y.elim (fun y=>((cP.symm) ap rfl y)) (fun y=>((cR.symm) ap rfl y))))))
    have l9:=aU.all aX (fun x=>(x.elim (fun y=>((bK.symm) ar rfl y)) (fun y=>(y.elim (fun y=>((dJ.symm) ar rfl y)) (fun y=>((dO.symm) ar rfl y))))))
    have wm:=aG.all aX (fun i h x=>(x.elim (fun y=>((dl.symm) i h y)) (fun y=>(y.elim (fun y=>(dv i h y)) (fun y=>(dw i h y))))))
    have wn:=aH.all aX (fun i h x=>(x.elim (fun y=>((dm.symm) i h y)) (fun y=>(y.elim (fun y=>(dD i h y)) (fun y=>(dE i h y))))))
    have wo:=aK.all aX (fun i h x=>(x.elim (fun y=>((dq.symm) i h y)) (fun y=>(y.elim (fun y=>((dK.symm) i h y)) (fun y=>((dP.symm) i h y))))))
    have ws:=aL.all aX (fun i h x=>(x.elim (fun y=>((dr.symm) i h y)) (fun y=>(y.elim (fun y=>((dL.symm) i h y)) (fun y=>((dQ.symm) i h y))))))
    have ma:=aV.all aX (fun x=>(x.elim (fun y=>((bL.symm) aq rfl y)) (fun y=>(y.elim (fun y=>((dM.symm) aq rfl y)) (fun y=>((dR.symm) aq rfl y))))))
    have mb:=au.all aX (fun i h x=>(x.elim (fun y=>((bM.symm) i h y)) (fun y=>(y.elim (fun y=>((cr.symm) i h y)) (fun y=>((ct.symm) i h y))))))
    have wt:=aF.all aX (fun i h x=>(x.elim (fun y=>((cK.symm) i h y)) (fun y=>(y.elim (fun y=>((cQ.symm) i h y)) (fun y=>((cS.symm) i h y))))))
    have mc:=bj.trans aX (fun i hi x=>(x.elim (fun y=>((KP.ok (S:=fun i=>(Lf ac) i\/((Lf ae) i\/((Lf ap) i\/(ab i\/(af i\/(ah i\/(ai i\/(aj i\/(ak i\/(am i\/(an i))))))))))) (KP.refl aa ab) (fun _ x=>Or.inr (Or.inr (Or.inr (Or.inl x))))) i hi y)) (fun y=>(y.elim (fun y=>((KP.ok (S:=fun i=>(Lf ac) i\/((Lf ae) i\/((Lf ap) i\/(ab i\/(af i\/(ah i\/(ai i\/(aj i\/(ak i\/(am i\/(an i))))))))))) (KP.refl aa ai) (fun _ x=>Or.inr (Or.inr (Or.inr (Or.inr (Or.inr (Or.inr (Or.inl x)))))))) i hi y)) (fun y=>((KP.ok (S:=fun i=>(Lf ac) i\/((Lf ae) i\/((Lf ap) i\/(ab i\/(af i\/(ah i\/(ai i\/(aj i\/(ak i\/(am i\/(an i))))))))))) (KP.refl aa aj) (fun _ x=>Or.inr (Or.inr (Or.inr (Or.inr (Or.inr (Or.inr (Or.inr (Or.inl x))))))))) i hi y))))))
    obtain⟨⟨gJ,eD⟩,⟨gK,eE⟩,⟨gL,eF⟩,gM,gN,gO⟩:=wi
    replace gJ:Pr fB eA aA l ((RQ l K (Lh W 1) (el.i) ⟨(((K2 l K W H pre).f 1).1),(((K2 l K W H pre).f 1).2),((K2 l K W H pre).s)⟩).s):=gJ
    replace gK:Pf fB eB ba dg ((RQ l K (Lh W 1) (el.i) ⟨(((K2 l K W H pre).f 1).1),(((K2 l K W H pre).f 1).2),((K2 l K W H pre).s)⟩).a):=gK
    replace gL:Pf fB eC bb dh ((RQ l K (Lh W 1) (el.i) ⟨(((K2 l K W H pre).f 1).1),(((K2 l K W H pre).f 1).2),((K2 l K W H pre).s)⟩).b):=gL
    replace eD:KP aa ab eA:=eD
    replace eE:KP aa ai eB:=eE
    replace eF:KP aa aj eC:=eF
    replace gM:KK eA eB:=gM
    replace gN:KK eA eC:=gN
    replace gO:KK eB eC:=gO
    obtain⟨wu,wy,wz,wA,wB,me,wC,wD⟩:=RS eD cF bh cG bi bJ aT cH aC cI aD cJ aE bK aU dl aG
    obtain⟨wE,wF,wG,wH,wI,mf⟩:=Xq eD dm aH dq aK dr aL bL aV bM au cK aF
    obtain⟨wJ,wK,wL,wM,wN,mg,wO,wP⟩:=RS eE fb bh fc bi dI aT fd aC fe aD cP aE dJ aU (dv.symm) aG
    obtain⟨wQ,wR,wS,wT,wU,mh⟩:=Xq eE (dD.symm) aH dK aK dL aL dM aV cr au cQ aF
    obtain⟨wV,wW,wX,wY,wZ,mi,w4,w7⟩:=RS eF ff bh fg bi dN aT fh aC fk aD cR aE dO aU (dw.symm) aG
    obtain⟨xa,xb,xc,xd,xe,mj⟩:=Xq eF (dE.symm) aH dP aK dQ aL dR aV ct au cS aF
    replace gI:Mz fB lY 71 (O1 (Qr l K (Lh W 1) (el.i) ⟨(((K2 l K W H pre).f 1).1),(((K2 l K W H pre).f 1).2),((K2 l K W H pre).s)⟩)):=gI
    obtain⟨xf,xg,ml⟩:=t3 fC 6 gp 7 gq 9 gr
    have xh:lZ 14=pt lY 0:=(fC 14).trans (l0 12 rfl)
    have mm:lZ 15=iv ((Ma l K (Lh W 1) (el.i) ⟨(((K2 l K W H pre).f 1).1),(((K2 l K W H pre).f 1).2),((K2 l K W H pre).s)⟩).2.1):=(fC 15).trans (l1 14 (by decide) (by decide))
    clear fC l1 l0 wk wj
    refine KG (KJ (KJ (KH (KR rfl rfl rfl mm (KI (.bool (decide (((Ma l K (Lh W 1) (el.i) ⟨(((K2 l K W H pre).f 1).1),(((K2 l K W H pre).f 1).2),((K2 l K W H pre).s)⟩).2.1)≠0))) rfl rfl (Mb rfl rfl rfl rfl rr) (KM ?_))))))
    have xi:=K4 (.bool (decide (((Ma l K (Lh W 1) (el.i) ⟨(((K2 l K W H pre).f 1).1),(((K2 l K W H pre).f 1).2),((K2 l K W H pre).s)⟩).2.1)≠0)))
    refine KG ?_
    refine K6 xi (fun eG=>?_) (fun eG=>?_)
    ·replace eG:=of_decide_eq_true eG
     refine KJ ?_
     have hX:=Zn (l:=l) (k:=K) hpv hN (show (Ma l K (Lh W 1) el.i ((K2 l K W H pre).at 1)).2.1≠0 from by assumption)
     refine KH (KR rfl rfl rfl mm (L5 rfl rfl rfl xf rfl l6 (by rfl) (by kernel_rfl) fun Co xj bY=>?_))
     have xk:=l3.all bY fL.symm
     have xl:=l4.all bY (fM.symm p1 rfl)
     have xm:=l5.all bY (fN.symm ao rfl)
     have xn:=l7.all bY (bg ae rfl)
     have xo:=l9.all bY (eR ar rfl)
     have xp:=ma.all bY (eU aq rfl)
     have xq:=mb.all bY cA
     have xr:=mc.trans bY (KP.ok (S:=fun i=>(Lf ac) i\/((Lf ae) i\/((Lf ap) i\/(ab i\/(af i\/(ah i\/(ai i\/(aj i\/(ak i\/(am i\/(an i))))))))))) (KP.refl aa (Lf ac)) (fun _ x=>Or.inl x))
     refine L5 rfl rfl rfl xg rfl xn (by rfl) (by kernel_rfl) fun Cp xt bZ=>?_
     have xu:=xk.all bZ fO.symm
     have xv:=xl.all bZ (fP.symm p1 rfl)
     have xw:=xm.all bZ (fQ.symm ao rfl)
     have xx:=xj.all bZ (bg.symm ac rfl)
     have xy:=xo.all bZ (eS ar rfl)
     have xz:=xp.all bZ (eV aq rfl)
     have xA:=xq.all bZ cB
     have mn:=xr.trans bZ (KP.ok (S:=fun i=>(Lf ac) i\/((Lf ae) i\/((Lf ap) i\/(ab i\/(af i\/(ah i\/(ai i\/(aj i\/(ak i\/(am i\/(an i))))))))))) (KP.refl aa (Lf ae)) (fun _ x=>Or.inr (Or.inl x)))
     refine KM ?_
     refine KG (Lb (Lq (NT ?_)))
     exact⟨LQ.keeps (LQ.or aC.cells.cb (LQ.or aD.cells.cb (LQ.or aE.cells.cb (LQ.or be.cells.cb (LQ.or (aG.cb bQ.lt) (LQ.or (aH.cb bR.lt) (LQ.or (aI.cb bS.lt) (LQ.or (aJ.cb bT.lt) (LQ.or (aK.cb bU.lt) (LQ.or (aL.cb bV.lt) aF.cells.cb)))))))))) mn,⟨az.trans mn (fun i hi x=>(x.elim (fun y=>((KP.ok (S:=fun _=>False) bA K3) i hi y)) (fun y=>(y.elim (fun y=>((KP.ok (S:=fun _=>False) bB K3) i hi y)) (fun y=>(y.elim (fun y=>((KP.ok (S:=fun _=>False) cz K3) i hi y)) (fun y=>(y.elim (fun y=>((KP.ok (S:=fun _=>False) bm K3) i hi y)) (fun y=>(y.elim (fun y=>((KP.ok (S:=fun _=>False) bn K3) i hi y)) (fun y=>(y.elim (fun y=>((KP.ok (S:=fun _=>False) bo K3) i hi y)) (fun y=>(y.elim (fun y=>((KP.ok (S:=fun _=>False) bp K3) i hi y)) (fun y=>(y.elim (fun y=>((KP.ok (S:=fun _=>False) bq K3) i hi y)) (fun y=>(y.elim (fun y=>((KP.ok (S:=fun _=>False) bt K3) i hi y)) (fun y=>(y.elim (fun y=>((KP.ok (S:=fun _=>False) bu K3) i hi y)) (fun y=>((KP.ok (S:=fun _=>False) bv K3) i hi y)))))))))))))))))))))),xu,xv,xw,xx,(by rw[hX];exact xt),xy,xz,xA,(by rw[hX];assumption)⟩⟩
    ·replace eG:=of_decide_eq_false eG
     refine Lg (KG ?_)
     have hce:(Ma l K (Lh W 1) el.i ((K2 l K W H pre).at 1)).2.1=0:=by first|assumption|(apply Decidable.byContradiction;assumption)
     have hX:=aBk (l:=l) (k:=K) hpv hN hce
     have hol:=YT (l:=l) (k:=K) pre
     refine KH (KI V rfl rfl (MC rfl ml Tryz.underlying32 l8 rfl rr) (KI (.agg (O1 (Qr l K (Lh W 1) (el.i) ⟨(((K2 l K W H pre).f 1).1),(((K2 l K W H pre).f 1).2),((K2 l K W H pre).s)⟩)).toArray) rfl rfl (KZ LE rfl xh gI rr) (SZ (r:=TL) (xs:=[.tmp 46]) (vs:=[.agg (O1 (Qr l K (Lh W 1) (el.i) ⟨(((K2 l K W H pre).f 1).1),(((K2 l K W H pre).f 1).2),((K2 l K W H pre).s)⟩)).toArray]) (l:=[Qr l K (Lh W 1) (el.i) ⟨(((K2 l K W H pre).f 1).1),(((K2 l K W H pre).f 1).2),((K2 l K W H pre).s)⟩]) rfl rfl rfl rfl rfl (Lk rfl LR) rfl (by first|decide|exact Nat.le_of_ble_eq_true rfl) (by first|decide|exact Nat.le_of_ble_eq_true rfl) fun Cq Cs Ct xB Cu gP=>?_)))
     obtain⟨mo,mp,mq,mr,mu,mv,mw,mz,mA,mB,mC,mD,mE,mF⟩:=Ph gP l3 l4 l5 l6 l7 l8 gJ l9 wm wn gK gL wo ws
     obtain⟨mG,mH,xC⟩:=Nu gP ma mb wt
     have mI:=mc.tr gP
     refine Sl (r:=TL) rfl rfl rfl rfl rfl rfl xC xB.roa (by first|omega|(simp;done)|(simp;omega)) fun xD Cv xE mJ gQ aO=>?_
     obtain⟨xF,xG,xH,xI,xJ,mK,xK,xL⟩:=RS gQ cX mo cY mp cZ mq c5 mr c6 mu c7 mv (mf.symm) mw c9 mz
     obtain⟨xM,xN,xO,xP,xQ,xR,xS,xT⟩:=RS gQ (cM.symm) mA (cO.symm) mB (mh.symm) mC (mj.symm) mD (cU.symm) mE (cW.symm) mF da mG bN mH
     have xU:=mo.all aO cX.symm
     have xV:=mp.all aO (cY.symm p1 rfl)
     have xW:=mq.all aO (cZ.symm ao rfl)
     have xX:=mr.all aO (c5.symm ac rfl)
     have xY:=mu.all aO (c6.symm ae rfl)
     have xZ:=mv.all aO (c7.symm ap rfl)
     have ya:=mw.all aO mf
     have yb:=mz.all aO (c9.symm ar rfl)
     have yc:=mA.all aO cM
     have yd:=mB.all aO cO
     have ye:=mC.all aO mh
     have yf:=mD.all aO mj
     have yg:=mE.all aO cU
     have yh:=mF.all aO cW
     have yi:=mG.all aO (da.symm aq rfl)
     have yj:=mH.all aO bN.symm
     have yk:=mI.trans aO (KP.ok (S:=fun i=>(Lf ac) i\/((Lf ae) i\/((Lf ap) i\/(ab i\/(af i\/(ah i\/(ai i\/(aj i\/(ak i\/(am i\/(an i))))))))))) (KP.refl aa an) (fun _ x=>Or.inr (Or.inr (Or.inr (Or.inr (Or.inr (Or.inr (Or.inr (Or.inr (Or.inr (Or.inr x)))))))))))
     refine L5 rfl rfl rfl ml rfl xZ mJ.oneC (by kernel_rfl) fun Cw yl aP=>?_
     have ym:=xU.all aP fX.symm
     have yn:=xV.all aP (fY.symm p1 rfl)
     have yo:=xW.all aP (fZ.symm ao rfl)
     have yp:=xX.all aP (f6.symm ac rfl)
     have yq:=xY.all aP (f7.symm ae rfl)
     have yr:=ya.all aP me
     have ys:=yb.all aP (eT ar rfl)
     have mL:=yc.all aP cL
     have mM:=yd.all aP cN
     have mN:=ye.all aP mg
     have mO:=yf.all aP mi
     have mP:=yg.all aP cT
     have mQ:=yh.all aP cV
     have yt:=yi.all aP (eW aq rfl)
     have yu:=yj.all aP cC
     have yv:=mJ.all aP mK
     have gR:=yk.trans aP (KP.ok (S:=fun i=>(Lf ac) i\/((Lf ae) i\/((Lf ap) i\/(ab i\/(af i\/(ah i\/(ai i\/(aj i\/(ak i\/(am i\/(an i))))))))))) (KP.refl aa (Lf ap)) (fun _ x=>Or.inr (Or.inr (Or.inl x))))
     refine KM ?_
     refine LC ?_
     exact⟨LQ.keeps (LQ.or aC.cells.cb (LQ.or aD.cells.cb (LQ.or aE.cells.cb (LQ.or be.cells.cb (LQ.or (aG.cb bQ.lt) (LQ.or (aH.cb bR.lt) (LQ.or (aI.cb bS.lt) (LQ.or (aJ.cb bT.lt) (LQ.or (aK.cb bU.lt) (LQ.or (aL.cb bV.lt) aF.cells.cb)))))))))) gR,gR.mono (fun i hi x=>(x.elim (fun y=>fun e=>cA.symm i y (by rw[au.1];exact e)) (fun y=>(y.elim (fun y=>fun e=>cB.symm i y (by rw[au.1];exact e)) (fun y=>(y.elim (fun y=>fun e=>cC.symm i y (by rw[au.1];exact e)) (fun y=>(y.elim (fun y=>fun e=>bM i y (by rw[au.1];exact e)) (fun y=>(y.elim (fun y=>fun e=>co i y (by rw[au.1];exact e)) (fun y=>(y.elim (fun y=>fun e=>cq i y (by rw[au.1];exact e)) (fun y=>(y.elim (fun y=>fun e=>cr i y (by rw[au.1];exact e)) (fun y=>(y.elim (fun y=>fun e=>ct i y (by rw[au.1];exact e)) (fun y=>(y.elim (fun y=>fun e=>cu i y (by rw[au.1];exact e)) (fun y=>(y.elim (fun y=>fun e=>cv i y (by rw[au.1];exact e)) (fun y=>(fun e=>bN i y (by rw[au.1];exact e))))))))))))))))))))))),⟨xD,eA,af,ah,eB,eC,ak,am,xE,(hX.2.2.2.2),az.trans gR (fun i hi x=>(x.elim (fun y=>((KP.ok (S:=fun _=>False) bA K3) i hi y)) (fun y=>(y.elim (fun y=>((KP.ok (S:=fun _=>False) bB K3) i hi y)) (fun y=>(y.elim (fun y=>((KP.ok (S:=fun _=>False) cz K3) i hi y)) (fun y=>(y.elim (fun y=>((KP.ok (S:=fun _=>False) bm K3) i hi y)) (fun y=>(y.elim (fun y=>((KP.ok (S:=fun _=>False) bn K3) i hi y)) (fun y=>(y.elim (fun y=>((KP.ok (S:=fun _=>False) bo K3) i hi y)) (fun y=>(y.elim (fun y=>((KP.ok (S:=fun _=>False) bp K3) i hi y)) (fun y=>(y.elim (fun y=>((KP.ok (S:=fun _=>False) bq K3) i hi y)) (fun y=>(y.elim (fun y=>((KP.ok (S:=fun _=>False) bt K3) i hi y)) (fun y=>(y.elim (fun y=>((KP.ok (S:=fun _=>False) bu K3) i hi y)) (fun y=>((KP.ok (S:=fun _=>False) bv K3) i hi y)))))))))))))))))))))),ym,yn,yo,yp,yq,yl,(by rw[hX.1];exact yr),ys,(by first|(rw[hX.2.2.1];exact mL)|(rw[hX.2.2.2.1 0 (by decide)];exact mL)),(by first|(rw[hX.2.2.1];exact mM)|(rw[hX.2.2.2.1 0 (by decide)];exact mM)),(by first|(rw[hX.2.2.1];exact mN)|(rw[hX.2.2.2.1 1 (by decide)];exact mN)),(by first|(rw[hX.2.2.1];exact mO)|(rw[hX.2.2.2.1 1 (by decide)];exact mO)),(by first|(rw[hX.2.2.1];exact mP)|(rw[hX.2.2.2.1 2 (by decide)];exact mP)),(by first|(rw[hX.2.2.1];exact mQ)|(rw[hX.2.2.2.1 2 (by decide)];exact mQ)),yt,yu,(by rw[hX.2.1];exact yv),bm.trans az ((KP.refl aa ab).trans bj eD),bn.trans az (KP.refl aa af),bo.trans az (KP.refl aa ah),bp.trans az ((KP.refl aa ai).trans bj eE),bq.trans az ((KP.refl aa aj).trans bj eF),bt.trans az (KP.refl aa ak),bu.trans az (KP.refl aa am),bv.trans az (KP.trans (KP.refl aa an) mI gQ),wu,wy,wz,wA,wB,me,wC,wD,wE,gM,gN,wF,wG,wH,wI,xK.symm,eX,eY,dt,eZ,e6,cL,du,gl,wP.symm,w7.symm,dy,dz,dA,co,xM.symm,e7,e8,dB,e9,fa,cN,dC,wQ.symm,xa.symm,dF,dG,dH,cq,xN.symm,wJ,wK,wL,wM,wN,mg,wO,gO,wR,wS,wT,wU,xO.symm,wV,wW,wX,wY,wZ,mi,w4,xb,xc,xd,xe,xP.symm,fm,fo,dS,fp,fq,cT,dT,gn,dU,cu,xQ.symm,ft,fu,dV,fw,fx,cV,dW,dX,cv,xR.symm,xF,xG,xH,xI,xJ,mK,xL,xS,xT⟩⟩
   ·skip
    have mR:Mz aa aw 65 [iv ((2:Nat):Int),iv (pX (Lh W 2) el.i),iv (pY (Lh W 2) el.i)]:=by have h_:=bz;rw[hpv] at h_;exact h_
    have hwp:=Sg (W:=W) (p:=2) hsd.1
    have hwl:=OB (W:=W) (p:=2) hsd.2.1
    have hwh:=OB (W:=H) (p:=2) hsd.2.2.2.2.1
    have hwn:Lh W 2*Lh H 2<=16*16:=Nat.mul_le_mul hwl hwh
    rw[hpv] at hei
    refine QQ (γ:=(Nat->Prop)×(Nat->Prop)×(Nat->Prop)) [(9,8),(10,8),(11,8),(13,8),(14,8),(13,12),(14,12)] [some 31,some 32,some 33,some 34,some 35,some 36,some 37,some 38,some 39,some 30,some 40,some 41,some 14,none,some 15] ⟨fun w_=>Pr w_ ab aA l ((K2 l K W H pre).s)/\Pf w_ ak bc di (((K2 l K W H pre).f 2).1)/\Pf w_ am bd dj (((K2 l K W H pre).f 2).2),fun i=>ab i\/(ak i\/(am i)),fun g_ w_=>(Pr w_ (g_.1) aA l ((RQ l K (Lh W 2) (el.i) ⟨(((K2 l K W H pre).f 2).1),(((K2 l K W H pre).f 2).2),((K2 l K W H pre).s)⟩).s)/\KP aa ab (g_.1))/\(Pf w_ (g_.2.1) bc di ((RQ l K (Lh W 2) (el.i) ⟨(((K2 l K W H pre).f 2).1),(((K2 l K W H pre).f 2).2),((K2 l K W H pre).s)⟩).a)/\KP aa ak (g_.2.1))/\(Pf w_ (g_.2.2) bd dj ((RQ l K (Lh W 2) (el.i) ⟨(((K2 l K W H pre).f 2).1),(((K2 l K W H pre).f 2).2),((K2 l K W H pre).s)⟩).b)/\KP aa am (g_.2.2))/\KK (g_.1) (g_.2.1)/\KK (g_.1) (g_.2.2)/\KK (g_.2.1) (g_.2.2),fun g_=>fun i=>(g_.1) i\/((g_.2.1) i\/((g_.2.2) i)),fun p_ w_=>Mz w_ p_ 71 (Oe 0 0 0 0 0 (fun _=>(0:Int))),fun g_ p_ w_=>Mz w_ p_ 71 (O1 (Qr l K (Lh W 2) (el.i) ⟨(((K2 l K W H pre).f 2).1),(((K2 l K W H pre).f 2).2),((K2 l K W H pre).s)⟩))⟩ (fun i=>ab i\/(ak i\/(am i))) (fun p_=>aa.heap.size<=p_) [fun g_=>pt aA 0,fun g_=>pt ao 0,fun g_=>iv K,fun g_=>pt aw 0,fun g_=>iv ((2:Nat):Int),fun g_=>pt aq 4,fun g_=>.agg #[bc,bd],fun g_=>.agg #[iv ((2:Nat):Int),iv (pX (Lh W 2) el.i),iv (pY (Lh W 2) el.i)],fun g_=>.tuple #[.agg (O1 (Qr l K (Lh W 2) (el.i) ⟨(((K2 l K W H pre).f 2).1),(((K2 l K W H pre).f 2).2),((K2 l K W H pre).s)⟩)).toArray,iv ((Ma l K (Lh W 2) (el.i) ⟨(((K2 l K W H pre).f 2).1),(((K2 l K W H pre).f 2).2),((K2 l K W H pre).s)⟩).2.1)],fun g_=>.tuple #[.agg (O1 (Qr l K (Lh W 2) (el.i) ⟨(((K2 l K W H pre).f 2).1),(((K2 l K W H pre).f 2).2),((K2 l K W H pre).s)⟩)).toArray,iv ((Ma l K (Lh W 2) (el.i) ⟨(((K2 l K W H pre).f 2).1),(((K2 l K W H pre).f 2).2),((K2 l K W H pre).s)⟩).2.1)],fun g_=>.agg (O1 (Qr l K (Lh W 2) (el.i) ⟨(((K2 l K W H pre).f 2).1),(((K2 l K W H pre).f 2).2),((K2 l K W H pre).s)⟩)).toArray,fun g_=>iv ((Ma l K (Lh W 2) (el.i) ⟨(((K2 l K W H pre).f 2).1),(((K2 l K W H pre).f 2).2),((K2 l K W H pre).s)⟩).2.1),fun _=>undef,fun _=>undef,fun g_=>iv ((Ma l K (Lh W 2) (el.i) ⟨(((K2 l K W H pre).f 2).1),(((K2 l K W H pre).f 2).2),((K2 l K W H pre).s)⟩).2.1)] 8 13 (some 12) (LX,LX,LX) 0 (by kernel_rfl) (by kernel_rfl) (by kernel_rfl) (by kernel_rfl) ⟨.inr (.inr fun _ _=>rfl),⟨.inr (.inr fun _ _=>rfl),⟨.inr (.inr fun _ _=>rfl),⟨.inr (.inr fun _ _=>rfl),⟨.inr (.inr fun _ _=>rfl),⟨.inr (.inr fun _ _=>rfl),⟨.inr (.inr fun _ _=>rfl),⟨.inr (.inr fun _ _=>rfl),⟨.inr (.inl rfl),⟨.inl rfl,⟨.inl rfl,⟨.inl rfl,⟨.inr (.inr fun _ _=>rfl),⟨.inl rfl,⟨.inl rfl,trivial⟩⟩⟩⟩⟩⟩⟩⟩⟩⟩⟩⟩⟩⟩⟩ ⟨⟨be,aK,aL⟩,fun w w1 S1 h k a=>by obtain⟨h0_,h1_,h2_⟩:=h;exact⟨h0_.all k (fun i z=>a i (Or.inl z)),h1_.all k (fun i z=>a i (Or.inr (Or.inl z))),h2_.all k (fun i z=>a i (Or.inr (Or.inr z)))⟩,fun w h i z=>by obtain⟨h0_,h1_,h2_⟩:=h;rcases z with z|z|z <;> first|exact h0_.live i z|exact h1_.live i z|exact h2_.live i z,fun g w w1 S1 h k a=>by obtain⟨⟨b0_,g0_⟩,⟨b1_,g1_⟩,⟨b2_,g2_⟩,a0_1_,a0_2_,a1_2_⟩:=h;exact⟨⟨b0_.all k (fun i z=>a i (Or.inl z)),g0_⟩,⟨b1_.all k (fun i z=>a i (Or.inr (Or.inl z))),g1_⟩,⟨b2_.all k (fun i z=>a i (Or.inr (Or.inr z))),g2_⟩,a0_1_,a0_2_,a1_2_⟩,fun g w h i z=>by obtain⟨⟨b0_,g0_⟩,⟨b1_,g1_⟩,⟨b2_,g2_⟩,a0_1_,a0_2_,a1_2_⟩:=h;rcases z with z|z|z <;> first|exact b0_.live i z|exact b1_.live i z|exact b2_.live i z,fun _ _ _ _ h k z=>h.all k z,fun _ _ h=>h.lt,fun _ _ _ _ _ h k z=>h.all k z,fun _ z=>z,fun _ h=>.inr h,fun p h z=>by rcases z with z|z|z <;> first|exact absurd h (Nat.not_le.2 (be.live p z))|exact absurd h (Nat.not_le.2 (aK.live p z))|exact absurd h (Nat.not_le.2 (aL.live p z))⟩ (fun _ _ _ h=>h) (fun e=>by cases e) ?_ ?_
    ·refine KV ?_ ?_
     ·refine Ln.one rfl rfl rfl rfl fun g_ p_ F_ w_ hR hout hD=>?_
      exact(MC rfl ((hout 10 rfl (by decide)).trans gt) Tryz.underlying54 (aU.all hR (fun x=>(x.elim (fun y=>((bK.symm) ar rfl y)) (fun y=>(y.elim (fun y=>((dT.symm) ar rfl y)) (fun y=>((dW.symm) ar rfl y))))))) rfl ⟨rfl,KO.refl _ _⟩)
     refine KV ?_ ?_
     ·refine Ln.one rfl rfl rfl rfl fun g_ p_ F_ w_ hR hout hD=>?_
      exact(KU (n:=1) rfl ((hout 4 rfl (by decide)).trans go) Tryz.underlying25 rfl (by kernel_rfl) (by decide) rfl ⟨rfl,KO.refl _ _⟩)
     refine KV ?_ ?_
     ·refine Ln.one rfl rfl rfl rfl fun g_ p_ F_ w_ hR hout hD=>?_
      have dZ:F_ 32=pt ao 0:=(hD.get 0 rfl rfl rfl).2 (by decide)
      exact(KY rfl dZ Tryz.underlying3 (aT.all hR (fun x=>(x.elim (fun y=>((bJ.symm) ao rfl y)) (fun y=>(y.elim (fun y=>((dS.symm) ao rfl y)) (fun y=>((dV.symm) ao rfl y))))))) rfl rfl ⟨rfl,KO.refl _ _⟩)
     refine KV ?_ ?_
     ·refine Ln.one rfl rfl rfl rfl fun g_ p_ F_ w_ hR hout hD=>?_
      exact(KU (n:=1) rfl ((hout 13 rfl (by decide)).trans db) Tryz.underlying65 rfl (by kernel_rfl) (by decide) rfl ⟨rfl,KO.refl _ _⟩)
     refine KV ?_ ?_
     ·refine Ln.one rfl rfl rfl rfl fun g_ p_ F_ w_ hR hout hD=>?_
      have d8:F_ 34=pt aw 0:=(hD.get 0 rfl rfl rfl).2 (by decide)
      exact(KY rfl d8 Tryz.underlying3 (mR.all hR (fun x=>(x.elim (fun y=>(dc aw rfl y)) (fun y=>(y.elim (fun y=>(kR aw rfl y)) (fun y=>(kS aw rfl y))))))) rfl rfl ⟨rfl,KO.refl _ _⟩)
     refine KV ?_ ?_
     ·refine Ln.one rfl rfl rfl rfl fun g_ p_ F_ w_ hR hout hD=>?_
      have d9:F_ 35=iv ((2:Nat):Int):=(hD.get 0 rfl rfl rfl).2 (by decide)
      exact(LV 2 (s:=2) rfl ((hout 11 rfl (by decide)).trans gu) d9 (by omega) Tryz.underlying59 (by omega) (by kernel_rfl) (by omega) ⟨rfl,KO.refl _ _⟩)
     refine KV ?_ ?_
     ·refine Ln.one rfl rfl rfl rfl fun g_ p_ F_ w_ hR hout hD=>?_
      have eb:F_ 36=pt aq 4:=(hD.get 0 rfl rfl rfl).2 (by decide)
      exact(O4 (n:=2) Vg rfl eb (aV.all hR (fun x=>(x.elim (fun y=>((bL.symm) aq rfl y)) (fun y=>(y.elim (fun y=>((dU.symm) aq rfl y)) (fun y=>((dX.symm) aq rfl y))))))) (Nat.le_of_ble_eq_true rfl) rfl ⟨rfl,KO.refl _ _⟩)
     refine KV ?_ ?_
     ·refine Ln.one rfl rfl rfl rfl fun g_ p_ F_ w_ hR hout hD=>?_
      exact(KZ P4 rfl ((hout 13 rfl (by decide)).trans db) (mR.all hR (fun x=>(x.elim (fun y=>(dc aw rfl y)) (fun y=>(y.elim (fun y=>(kR aw rfl y)) (fun y=>(kS aw rfl y))))))) ⟨rfl,KO.refl _ _⟩)
     refine KV ?_ ?_
     ·refine Ln.call rfl rfl rfl rfl fun g_ p_ F_ w_ hR hout hD hP_=>?_
      have ee:F_ 31=pt aA 0:=(hD.get 0 rfl rfl rfl).2 (by decide)
      have eh:F_ 33=iv K:=(hD.get 1 rfl rfl rfl).2 (by decide)
      have ei:F_ 37 = .agg #[bc,bd]:=(hD.get 2 rfl rfl rfl).2 (by decide)
      have ek:F_ 38 = .agg #[iv ((2:Nat):Int),iv (pX (Lh W 2) el.i),iv (pY (Lh W 2) el.i)]:=(hD.get 3 rfl rfl rfl).2 (by decide)
      exact(LH rfl rfl rfl (fun _ _=>by kernel_rfl) (K5 _) (Lk ee (Lk eh (Lk ei (Lk ek LR)))) (XB aA l ((K2 l K W H pre).s) K ((2:Nat):Int) (Lh W 2) (el.i) bc bd di dj (((K2 l K W H pre).f 2).1) (((K2 l K W H pre).f 2).2) ab ak am _ (gv.but hR (by rintro i (h|h|h) <;> first|exact hab0 _ h|exact hab1 _ h|exact hab2 _ h|exact hab3 _ h|exact hab4 _ h|exact hab5 _ h|exact hab6 _ h|exact hab7 _ h)) (hO2.but hR (ovO (by rintro i (h|h|h) <;> first|exact hab0 _ h|exact hab1 _ h|exact hab2 _ h|exact hab3 _ h|exact hab4 _ h|exact hab5 _ h|exact hab6 _ h|exact hab7 _ h))) (by first|exact hab0|exact hab1|exact hab2|exact hab3|exact hab4|exact hab5|exact hab6|exact hab7) (by first|exact hab0|exact hab1|exact hab2|exact hab3|exact hab4|exact hab5|exact hab6|exact hab7) (by first|exact hab0|exact hab1|exact hab2|exact hab3|exact hab4|exact hab5|exact hab6|exact hab7) hwp hwl (by omega) hP_.1 hP_.2.1 hP_.2.2 dq dr gn) (fun e_ w_ h_=>by obtain⟨x0_,x1_,x2_,he_,hk_,⟨b0_,g0_⟩,⟨b1_,g1_⟩,⟨b2_,g2_⟩,a0_1_,a0_2_,a1_2_⟩:=h_;exact⟨_,he_,⟨x0_,x1_,x2_⟩,rfl,hk_,⟨⟨b0_,(KP.refl aa _).trans hR g0_⟩,⟨b1_,(KP.refl aa _).trans hR g1_⟩,⟨b2_,(KP.refl aa _).trans hR g2_⟩,a0_1_,a0_2_,a1_2_⟩,fun b hb=>by rcases hb with hb|hb|hb <;> first|exact(g0_ b hb).elim (fun z=>.inl (Or.inl z)) .inr|exact(g1_ b hb).elim (fun z=>.inl (Or.inr (Or.inl z))) .inr|exact(g2_ b hb).elim (fun z=>.inl (Or.inr (Or.inr z))) .inr⟩))
     refine KV ?_ ?_
     ·refine Ln.one rfl rfl rfl rfl fun g_ p_ F_ w_ hR hout hD=>?_
      have en:F_ 39 = .tuple #[.agg (O1 (Qr l K (Lh W 2) (el.i) ⟨(((K2 l K W H pre).f 2).1),(((K2 l K W H pre).f 2).2),((K2 l K W H pre).s)⟩)).toArray,iv ((Ma l K (Lh W 2) (el.i) ⟨(((K2 l K W H pre).f 2).1),(((K2 l K W H pre).f 2).2),((K2 l K W H pre).s)⟩).2.1)]:=(hD.get 0 rfl rfl rfl).2 (by decide)
      exact(KQ rfl en ⟨rfl,KO.refl _ _⟩)
     refine KV ?_ ?_
     ·refine Ln.one rfl rfl rfl rfl fun g_ p_ F_ w_ hR hout hD=>?_
      have bl:F_ 30 = .tuple #[.agg (O1 (Qr l K (Lh W 2) (el.i) ⟨(((K2 l K W H pre).f 2).1),(((K2 l K W H pre).f 2).2),((K2 l K W H pre).s)⟩)).toArray,iv ((Ma l K (Lh W 2) (el.i) ⟨(((K2 l K W H pre).f 2).1),(((K2 l K W H pre).f 2).2),((K2 l K W H pre).s)⟩).2.1)]:=(hD.get 0 rfl rfl rfl).2 (by decide)
      exact(LL rfl bl rfl ⟨rfl,KO.refl _ _⟩)
     refine KV ?_ ?_
     ·refine Ln.one rfl rfl rfl rfl fun g_ p_ F_ w_ hR hout hD=>?_
      have bl:F_ 30 = .tuple #[.agg (O1 (Qr l K (Lh W 2) (el.i) ⟨(((K2 l K W H pre).f 2).1),(((K2 l K W H pre).f 2).2),((K2 l K W H pre).s)⟩)).toArray,iv ((Ma l K (Lh W 2) (el.i) ⟨(((K2 l K W H pre).f 2).1),(((K2 l K W H pre).f 2).2),((K2 l K W H pre).s)⟩).2.1)]:=(hD.get 0 rfl rfl rfl).2 (by decide)
      exact(LL rfl bl rfl ⟨rfl,KO.refl _ _⟩)
     refine KV ?_ ?_
     ·refine Ln.alloc rfl rfl rfl rfl fun F_ w_ hR=>?_
      exact PE (n:=21) (vs:=(Oe 0 0 0 0 0 (fun _=>(0:Int)))) rfl (by kernel_rfl) ⟨_,rfl,Nat.le_refl _,heap_alloc_new _ _,(KO.refl _ _).alloc _⟩
     refine KV ?_ ?_
     ·refine Ln.store rfl rfl rfl rfl fun g_ p_ F_ w_ hR hout hD hO_ hZ_ hQ_=>?_
      have cy:F_ 14=pt p_ 0:=(hD.get 0 rfl rfl rfl).1 rfl
      have eo:F_ 40 = .agg (O1 (Qr l K (Lh W 2) (el.i) ⟨(((K2 l K W H pre).f 2).1),(((K2 l K W H pre).f 2).2),((K2 l K W H pre).s)⟩)).toArray:=(hD.get 1 rfl rfl rfl).2 (by decide)
      exact Qk (us:=(O1 (Qr l K (Lh W 2) (el.i) ⟨(((K2 l K W H pre).f 2).1),(((K2 l K W H pre).f 2).2),((K2 l K W H pre).s)⟩))) LE rfl cy eo hZ_ rfl (KX rfl (KX rfl (KX rfl (KX rfl (KX rfl (KX rfl (KX rfl (KX rfl (KX rfl (KX rfl (KX rfl (KX rfl (KX rfl (KX rfl (KX rfl (KX rfl (KX rfl (KX rfl (KX rfl (KX rfl (KX rfl MG))))))))))))))))))))) fun w2_ b_ k_=>⟨rfl,k_,b_⟩
     refine KV ?_ ?_
     ·refine Ln.one rfl rfl rfl rfl fun g_ p_ F_ w_ hR hout hD=>?_
      have ep:F_ 41=iv ((Ma l K (Lh W 2) (el.i) ⟨(((K2 l K W H pre).f 2).1),(((K2 l K W H pre).f 2).2),((K2 l K W H pre).s)⟩).2.1):=(hD.get 0 rfl rfl rfl).2 (by decide)
      exact(KS rfl ep ⟨rfl,KO.refl _ _⟩)
     exact Nk
    intro yw mS Cx mT fD aY Cy yx yz gS yA mU mV fE
    obtain⟨eH,eI,eJ⟩:=yw
    have mW:=bh.all aY (fun i h x=>(x.elim (fun y=>((cF.symm) i h y)) (fun y=>(y.elim (fun y=>((fm.symm) i h y)) (fun y=>((ft.symm) i h y))))))
    have mX:=bi.all aY (fun x=>(x.elim (fun y=>((cG.symm) p1 rfl y)) (fun y=>(y.elim (fun y=>((fo.symm) p1 rfl y)) (fun y=>((fu.symm) p1 rfl y))))))
    have mY:=aT.all aY (fun x=>(x.elim (fun y=>((bJ.symm) ao rfl y)) (fun y=>(y.elim (fun y=>((dS.symm) ao rfl y)) (fun y=>((dV.symm) ao rfl y))))))
    have mZ:=aC.all aY (fun x=>(x.elim (fun y=>((cH.symm) ac rfl y)) (fun y=>(y.elim (fun y=>((fp.symm) ac rfl y)) (fun y=>((fw.symm) ac rfl y))))))
    have m2:=aD.all aY (fun x=>(x.elim (fun y=>((cI.symm) ae rfl y)) (fun y=>(y.elim (fun y=>((fq.symm) ae rfl y)) (fun y=>((fx.symm) ae rfl y))))))
    have m4:=aE.all aY (fun x=>(x.elim (fun y=>((cJ.symm) ap rfl y)) (fun y=>(y.elim (fun y=>((cT.symm) ap rfl y)) (fun y=>((cV.symm) ap rfl y))))))
    have m5:=aU.all aY (fun x=>(x.elim (fun y=>((bK.symm) ar rfl y)) (fun y=>(y.elim (fun y=>((dT.symm) ar rfl y)) (fun y=>((dW.symm) ar rfl y))))))
    have yB:=aG.all aY (fun i h x=>(x.elim (fun y=>((dl.symm) i h y)) (fun y=>(y.elim (fun y=>(dy i h y)) (fun y=>(dz i h y))))))
    have yC:=aH.all aY (fun i h x=>(x.elim (fun y=>((dm.symm) i h y)) (fun y=>(y.elim (fun y=>(dF i h y)) (fun y=>(dG i h y))))))
    have yD:=aI.all aY (fun i h x=>(x.elim (fun y=>((dn.symm) i h y)) (fun y=>(y.elim (fun y=>(dK i h y)) (fun y=>(dL i h y))))))
    have yE:=aJ.all aY (fun i h x=>(x.elim (fun y=>((dp.symm) i h y)) (fun y=>(y.elim (fun y=>(dP i h y)) (fun y=>(dQ i h y))))))
    have m6:=aV.all aY (fun x=>(x.elim (fun y=>((bL.symm) aq rfl y)) (fun y=>(y.elim (fun y=>((dU.symm) aq rfl y)) (fun y=>((dX.symm) aq rfl y))))))
    have m7:=au.all aY (fun i h x=>(x.elim (fun y=>((bM.symm) i h y)) (fun y=>(y.elim (fun y=>((cu.symm) i h y)) (fun y=>((cv.symm) i h y))))))
    have yF:=aF.all aY (fun i h x=>(x.elim (fun y=>((cK.symm) i h y)) (fun y=>(y.elim (fun y=>((cU.symm) i h y)) (fun y=>((cW.symm) i h y))))))
    have m8:=bj.trans aY (fun i hi x=>(x.elim (fun y=>((KP.ok (S:=fun i=>(Lf ac) i\/((Lf ae) i\/((Lf ap) i\/(ab i\/(af i\/(ah i\/(ai i\/(aj i\/(ak i\/(am i\/(an i))))))))))) (KP.refl aa ab) (fun _ x=>Or.inr (Or.inr (Or.inr (Or.inl x))))) i hi y)) (fun y=>(y.elim (fun y=>((KP.ok (S:=fun i=>(Lf ac) i\/((Lf ae) i\/((Lf ap) i\/(ab i\/(af i\/(ah i\/(ai i\/(aj i\/(ak i\/(am i\/(an i))))))))))) (KP.refl aa ak) (fun _ x=>Or.inr (Or.inr (Or.inr (Or.inr (Or.inr (Or.inr (Or.inr (Or.inr (Or.inl x)))))))))) i hi y)) (fun y=>((KP.ok (S:=fun i=>(Lf ac) i\/((Lf ae) i\/((Lf ap) i\/(ab i\/(af i\/(ah i\/(ai i\/(aj i\/(ak i\/(am i\/(an i))))))))))) (KP.refl aa am) (fun _ x=>Or.inr (Or.inr (Or.inr (Or.inr (Or.inr (Or.inr (Or.inr (Or.inr (Or.inr (Or.inl x))))))))))) i hi y))))))
    obtain⟨⟨gT,eK⟩,⟨gU,eL⟩,⟨gV,eM⟩,gW,gZ,hP⟩:=yx
    replace gT:Pr fD eH aA l ((RQ l K (Lh W 2) (el.i) ⟨(((K2 l K W H pre).f 2).1),(((K2 l K W H pre).f 2).2),((K2 l K W H pre).s)⟩).s):=gT
    replace gU:Pf fD eI bc di ((RQ l K (Lh W 2) (el.i) ⟨(((K2 l K W H pre).f 2).1),(((K2 l K W H pre).f 2).2),((K2 l K W H pre).s)⟩).a):=gU
    replace gV:Pf fD eJ bd dj ((RQ l K (Lh W 2) (el.i) ⟨(((K2 l K W H pre).f 2).1),(((K2 l K W H pre).f 2).2),((K2 l K W H pre).s)⟩).b):=gV
    replace eK:KP aa ab eH:=eK
    replace eL:KP aa ak eI:=eL
    replace eM:KP aa am eJ:=eM
    replace gW:KK eH eI:=gW
    replace gZ:KK eH eJ:=gZ
    replace hP:KK eI eJ:=hP
    obtain⟨yG,yH,yI,yJ,yK,m9,yL,yM⟩:=RS eK cF bh cG bi bJ aT cH aC cI aD cJ aE bK aU dl aG
    obtain⟨yN,yO,yP,yQ,yR,nb⟩:=Xq eK dm aH dn aI dp aJ bL aV bM au cK aF
    obtain⟨yT,yU,yV,yW,yX,nc,yY,yZ⟩:=RS eL fm bh fo bi dS aT fp aC fq aD cT aE dT aU (dy.symm) aG
    obtain⟨y5,y6,y7,y8,y9,nd⟩:=Xq eL (dF.symm) aH (dK.symm) aI (dP.symm) aJ dU aV cu au cU aF
    obtain⟨za,zb,zc,zd,ze,nf,zf,zg⟩:=RS eM ft bh fu bi dV aT fw aC fx aD cV aE dW aU (dz.symm) aG
    obtain⟨zh,zi,zj,zk,zl,nh⟩:=Xq eM (dG.symm) aH (dL.symm) aI (dQ.symm) aJ dX aV cv au cW aF
    replace gS:Mz fD mS 71 (O1 (Qr l K (Lh W 2) (el.i) ⟨(((K2 l K W H pre).f 2).1),(((K2 l K W H pre).f 2).2),((K2 l K W H pre).s)⟩)):=gS
    obtain⟨zm,zn,ni⟩:=t3 fE 6 gp 7 gq 9 gr
    have zo:mT 14=pt mS 0:=(fE 14).trans (mU 12 rfl)
    have nj:mT 15=iv ((Ma l K (Lh W 2) (el.i) ⟨(((K2 l K W H pre).f 2).1),(((K2 l K W H pre).f 2).2),((K2 l K W H pre).s)⟩).2.1):=(fE 15).trans (mV 14 (by decide) (by decide))
    clear fE mV mU yA yz
    refine KG (KJ (KJ (KH (KR rfl rfl rfl nj (KI (.bool (decide (((Ma l K (Lh W 2) (el.i) ⟨(((K2 l K W H pre).f 2).1),(((K2 l K W H pre).f 2).2),((K2 l K W H pre).s)⟩).2.1)≠0))) rfl rfl (Mb rfl rfl rfl rfl rr) (KM ?_))))))
    have zp:=K4 (.bool (decide (((Ma l K (Lh W 2) (el.i) ⟨(((K2 l K W H pre).f 2).1),(((K2 l K W H pre).f 2).2),((K2 l K W H pre).s)⟩).2.1)≠0)))
    refine KG ?_
    refine K6 zp (fun eN=>?_) (fun eN=>?_)
    ·replace eN:=of_decide_eq_true eN
     refine KJ ?_
     have hX:=Zn (l:=l) (k:=K) hpv hN (show (Ma l K (Lh W 2) el.i ((K2 l K W H pre).at 2)).2.1≠0 from by assumption)
     refine KH (KR rfl rfl rfl nj (L5 rfl rfl rfl zm rfl mZ (by rfl) (by kernel_rfl) fun Cz zq b7=>?_))
     have zr:=mW.all b7 fL.symm
     have zt:=mX.all b7 (fM.symm p1 rfl)
     have zu:=mY.all b7 (fN.symm ao rfl)
     have zv:=m2.all b7 (bg ae rfl)
     have zw:=m5.all b7 (eR ar rfl)
     have zx:=m6.all b7 (eU aq rfl)
     have zy:=m7.all b7 cA
     have zz:=m8.trans b7 (KP.ok (S:=fun i=>(Lf ac) i\/((Lf ae) i\/((Lf ap) i\/(ab i\/(af i\/(ah i\/(ai i\/(aj i\/(ak i\/(am i\/(an i))))))))))) (KP.refl aa (Lf ac)) (fun _ x=>Or.inl x))
     refine L5 rfl rfl rfl zn rfl zv (by rfl) (by kernel_rfl) fun CA zA b8=>?_
     have zB:=zr.all b8 fO.symm
     have zC:=zt.all b8 (fP.symm p1 rfl)
     have zD:=zu.all b8 (fQ.symm ao rfl)
     have zE:=zq.all b8 (bg.symm ac rfl)
     have zF:=zw.all b8 (eS ar rfl)
     have zG:=zx.all b8 (eV aq rfl)
     have zH:=zy.all b8 cB
     have nk:=zz.trans b8 (KP.ok (S:=fun i=>(Lf ac) i\/((Lf ae) i\/((Lf ap) i\/(ab i\/(af i\/(ah i\/(ai i\/(aj i\/(ak i\/(am i\/(an i))))))))))) (KP.refl aa (Lf ae)) (fun _ x=>Or.inr (Or.inl x)))
     refine KM ?_
     refine KG (Lb (Lq (NT ?_)))
     exact⟨LQ.keeps (LQ.or aC.cells.cb (LQ.or aD.cells.cb (LQ.or aE.cells.cb (LQ.or be.cells.cb (LQ.or (aG.cb bQ.lt) (LQ.or (aH.cb bR.lt) (LQ.or (aI.cb bS.lt) (LQ.or (aJ.cb bT.lt) (LQ.or (aK.cb bU.lt) (LQ.or (aL.cb bV.lt) aF.cells.cb)))))))))) nk,⟨az.trans nk (fun i hi x=>(x.elim (fun y=>((KP.ok (S:=fun _=>False) bA K3) i hi y)) (fun y=>(y.elim (fun y=>((KP.ok (S:=fun _=>False) bB K3) i hi y)) (fun y=>(y.elim (fun y=>((KP.ok (S:=fun _=>False) cz K3) i hi y)) (fun y=>(y.elim (fun y=>((KP.ok (S:=fun _=>False) bm K3) i hi y)) (fun y=>(y.elim (fun y=>((KP.ok (S:=fun _=>False) bn K3) i hi y)) (fun y=>(y.elim (fun y=>((KP.ok (S:=fun _=>False) bo K3) i hi y)) (fun y=>(y.elim (fun y=>((KP.ok (S:=fun _=>False) bp K3) i hi y)) (fun y=>(y.elim (fun y=>((KP.ok (S:=fun _=>False) bq K3) i hi y)) (fun y=>(y.elim (fun y=>((KP.ok (S:=fun _=>False) bt K3) i hi y)) (fun y=>(y.elim (fun y=>((KP.ok (S:=fun _=>False) bu K3) i hi y)) (fun y=>((KP.ok (S:=fun _=>False) bv K3) i hi y)))))))))))))))))))))),zB,zC,zD,zE,(by rw[hX];exact zA),zF,zG,zH,(by rw[hX];assumption)⟩⟩
    ·replace eN:=of_decide_eq_false eN
     refine Lg (KG ?_)
     have hce:(Ma l K (Lh W 2) el.i ((K2 l K W H pre).at 2)).2.1=0:=by first|assumption|(apply Decidable.byContradiction;assumption)
     have hX:=aBk (l:=l) (k:=K) hpv hN hce
     have hol:=YT (l:=l) (k:=K) pre
     refine KH (KI V rfl rfl (MC rfl ni Tryz.underlying32 m4 rfl rr) (KI (.agg (O1 (Qr l K (Lh W 2) (el.i) ⟨(((K2 l K W H pre).f 2).1),(((K2 l K W H pre).f 2).2),((K2 l K W H pre).s)⟩)).toArray) rfl rfl (KZ LE rfl zo gS rr) (SZ (r:=TL) (xs:=[.tmp 46]) (vs:=[.agg (O1 (Qr l K (Lh W 2) (el.i) ⟨(((K2 l K W H pre).f 2).1),(((K2 l K W H pre).f 2).2),((K2 l K W H pre).s)⟩)).toArray]) (l:=[Qr l K (Lh W 2) (el.i) ⟨(((K2 l K W H pre).f 2).1),(((K2 l K W H pre).f 2).2),((K2 l K W H pre).s)⟩]) rfl rfl rfl rfl rfl (Lk rfl LR) rfl (by first|decide|exact Nat.le_of_ble_eq_true rfl) (by first|decide|exact Nat.le_of_ble_eq_true rfl) fun CB CC CD zI CE hQ=>?_)))
     obtain⟨nl,np,nr,nt,nu,nv,nw,nz,nA,nB,nC,nD,nF,nG⟩:=Ph hQ mW mX mY mZ m2 m4 gT m5 yB yC yD yE gU gV
     obtain⟨nH,nI,zJ⟩:=Nu hQ m6 m7 yF
     have nJ:=m8.tr hQ
     refine Sl (r:=TL) rfl rfl rfl rfl rfl rfl zJ zI.roa (by first|omega|(simp;done)|(simp;omega)) fun zK CF zM nK hZ aQ=>?_
     obtain⟨zN,zO,zP,zQ,zR,nL,zT,zU⟩:=RS hZ cX nl cY np cZ nr c5 nt c6 nu c7 nv (nb.symm) nw c9 nz
     obtain⟨zV,zW,zX,zY,zZ,z1,z2,z3⟩:=RS hZ (cM.symm) nA (cO.symm) nB (cQ.symm) nC (cS.symm) nD (nd.symm) nF (nh.symm) nG da nH bN nI
     have z4:=nl.all aQ cX.symm
     have z5:=np.all aQ (cY.symm p1 rfl)
     have z6:=nr.all aQ (cZ.symm ao rfl)
     have z7:=nt.all aQ (c5.symm ac rfl)
     have z8:=nu.all aQ (c6.symm ae rfl)
     have z9:=nv.all aQ (c7.symm ap rfl)
     have Aa:=nw.all aQ nb
     have Ab:=nz.all aQ (c9.symm ar rfl)
     have Ac:=nA.all aQ cM
     have Ad:=nB.all aQ cO
     have Ae:=nC.all aQ cQ
     have Af:=nD.all aQ cS
     have Ag:=nF.all aQ nd
     have Ah:=nG.all aQ nh
     have Ai:=nH.all aQ (da.symm aq rfl)
     have Aj:=nI.all aQ bN.symm
     have Ak:=nJ.trans aQ (KP.ok (S:=fun i=>(Lf ac) i\/((Lf ae) i\/((Lf ap) i\/(ab i\/(af i\/(ah i\/(ai i\/(aj i\/(ak i\/(am i\/(an i))))))))))) (KP.refl aa an) (fun _ x=>Or.inr (Or.inr (Or.inr (Or.inr (Or.inr (Or.inr (Or.inr (Or.inr (Or.inr (Or.inr x)))))))))))
     refine L5 rfl rfl rfl ni rfl z9 nK.oneC (by kernel_rfl) fun CG Al aR=>?_
     have Am:=z4.all aR fX.symm
     have An:=z5.all aR (fY.symm p1 rfl)
     have Ao:=z6.all aR (fZ.symm ao rfl)
     have Ap:=z7.all aR (f6.symm ac rfl)
     have Aq:=z8.all aR (f7.symm ae rfl)
     have Ar:=Aa.all aR m9
     have As:=Ab.all aR (eT ar rfl)
     have nM:=Ac.all aR cL
     have nN:=Ad.all aR cN
     have nO:=Ae.all aR cP
     have nP:=Af.all aR cR
     have nQ:=Ag.all aR nc
     have nR:=Ah.all aR nf
     have At:=Ai.all aR (eW aq rfl)
     have Au:=Aj.all aR cC
     have Av:=nK.all aR nL
     have ia:=Ak.trans aR (KP.ok (S:=fun i=>(Lf ac) i\/((Lf ae) i\/((Lf ap) i\/(ab i\/(af i\/(ah i\/(ai i\/(aj i\/(ak i\/(am i\/(an i))))))))))) (KP.refl aa (Lf ap)) (fun _ x=>Or.inr (Or.inr (Or.inl x))))
     refine KM ?_
     refine LC ?_
     exact⟨LQ.keeps (LQ.or aC.cells.cb (LQ.or aD.cells.cb (LQ.or aE.cells.cb (LQ.or be.cells.cb (LQ.or (aG.cb bQ.lt) (LQ.or (aH.cb bR.lt) (LQ.or (aI.cb bS.lt) (LQ.or (aJ.cb bT.lt) (LQ.or (aK.cb bU.lt) (LQ.or (aL.cb bV.lt) aF.cells.cb)))))))))) ia,ia.mono (fun i hi x=>(x.elim (fun y=>fun e=>cA.symm i y (by rw[au.1];exact e)) (fun y=>(y.elim (fun y=>fun e=>cB.symm i y (by rw[au.1];exact e)) (fun y=>(y.elim (fun y=>fun e=>cC.symm i y (by rw[au.1];exact e)) (fun y=>(y.elim (fun y=>fun e=>bM i y (by rw[au.1];exact e)) (fun y=>(y.elim (fun y=>fun e=>co i y (by rw[au.1];exact e)) (fun y=>(y.elim (fun y=>fun e=>cq i y (by rw[au.1];exact e)) (fun y=>(y.elim (fun y=>fun e=>cr i y (by rw[au.1];exact e)) (fun y=>(y.elim (fun y=>fun e=>ct i y (by rw[au.1];exact e)) (fun y=>(y.elim (fun y=>fun e=>cu i y (by rw[au.1];exact e)) (fun y=>(y.elim (fun y=>fun e=>cv i y (by rw[au.1];exact e)) (fun y=>(fun e=>bN i y (by rw[au.1];exact e))))))))))))))))))))))),⟨zK,eH,af,ah,ai,aj,eI,eJ,zM,(hX.2.2.2.2),az.trans ia (fun i hi x=>(x.elim (fun y=>((KP.ok (S:=fun _=>False) bA K3) i hi y)) (fun y=>(y.elim (fun y=>((KP.ok (S:=fun _=>False) bB K3) i hi y)) (fun y=>(y.elim (fun y=>((KP.ok (S:=fun _=>False) cz K3) i hi y)) (fun y=>(y.elim (fun y=>((KP.ok (S:=fun _=>False) bm K3) i hi y)) (fun y=>(y.elim (fun y=>((KP.ok (S:=fun _=>False) bn K3) i hi y)) (fun y=>(y.elim (fun y=>((KP.ok (S:=fun _=>False) bo K3) i hi y)) (fun y=>(y.elim (fun y=>((KP.ok (S:=fun _=>False) bp K3) i hi y)) (fun y=>(y.elim (fun y=>((KP.ok (S:=fun _=>False) bq K3) i hi y)) (fun y=>(y.elim (fun y=>((KP.ok (S:=fun _=>False) bt K3) i hi y)) (fun y=>(y.elim (fun y=>((KP.ok (S:=fun _=>False) bu K3) i hi y)) (fun y=>((KP.ok (S:=fun _=>False) bv K3) i hi y)))))))))))))))))))))),Am,An,Ao,Ap,Aq,Al,(by rw[hX.1];exact Ar),As,(by first|(rw[hX.2.2.1];exact nM)|(rw[hX.2.2.2.1 0 (by decide)];exact nM)),(by first|(rw[hX.2.2.1];exact nN)|(rw[hX.2.2.2.1 0 (by decide)];exact nN)),(by first|(rw[hX.2.2.1];exact nO)|(rw[hX.2.2.2.1 1 (by decide)];exact nO)),(by first|(rw[hX.2.2.1];exact nP)|(rw[hX.2.2.2.1 1 (by decide)];exact nP)),(by first|(rw[hX.2.2.1];exact nQ)|(rw[hX.2.2.2.1 2 (by decide)];exact nQ)),(by first|(rw[hX.2.2.1];exact nR)|(rw[hX.2.2.2.1 2 (by decide)];exact nR)),At,Au,(by rw[hX.2.1];exact Av),bm.trans az ((KP.refl aa ab).trans bj eK),bn.trans az (KP.refl aa af),bo.trans az (KP.refl aa ah),bp.trans az (KP.refl aa ai),bq.trans az (KP.refl aa aj),bt.trans az ((KP.refl aa ak).trans bj eL),bu.trans az ((KP.refl aa am).trans bj eM),bv.trans az (KP.trans (KP.refl aa an) nJ hZ),yG,yH,yI,yJ,yK,m9,yL,yM,yN,yO,yP,gW,gZ,yQ,yR,zT.symm,eX,eY,dt,eZ,e6,cL,du,gl,dv,dw,yZ.symm,zg.symm,dA,co,zV.symm,e7,e8,dB,e9,fa,cN,dC,dD,dE,y5.symm,zh.symm,dH,cq,zW.symm,fb,fc,dI,fd,fe,cP,dJ,gm,y6.symm,zi.symm,dM,cr,zX.symm,ff,fg,dN,fh,fk,cR,dO,y7.symm,zj.symm,dR,ct,zY.symm,yT,yU,yV,yW,yX,nc,yY,hP,y8,y9,zZ.symm,za,zb,zc,zd,ze,nf,zf,zk,zl,z1.symm,zN,zO,zP,zQ,zR,nL,zU,z2,z3⟩⟩
  ·rintro bf xs_ Aw ib hS_ ⟨V,ab,af,ah,ai,aj,ak,am,an,hN,Ay,CH,CI,CJ,Az,AA,AB,AC,AD,CK,CL,CM,CN,CO,CP,CQ,CR,nU,CS,CT,CU,CV,CW,CX,CY,AE,CZ,C0,C1,C2,C3,C4,C5,C6,C7,C8,C9,Da,Db,Dc,Dd,De,Df,Dg,Dh,Di,Dj,Dk,Dl,Dm,Dn,Do,Dp,Dq,Dr,Ds,Dt,Du,Dv,Dw,Dx,Dy,Dz,DA,DB,DC,DD,DE,DF,DG,DH,DI,DJ,DK,DL,DM,DN,DO,DP,DQ,DR,DS,DT,DU,DV,DW,DX,DY,DZ,D0,D1,D2,D3,D4,D5,D6,D7,D8,D9,Ea,Eb,Ec,Ed,Ee,Ef,Eg,Eh,Ei,Ej,Ek,El,Em,En,Eo,Ep,Er,Et,Eu,Ev,Ew,AF,AG,Ex,Ey,Ez,EA⟩ fF
   subst hS_
   have fF:U5 Aw bf:=fF
   have nV:KP w0 LX (Lf bf):=LS (Nat.le_trans dk.size ib)
   have fG:=U5.far ib (LT gb.lt)
   have fH:=U5.far ib (LT gc.lt)
   have AH:=U5.apart fF nU.cells
   have nW:Oi (bf::Oc (gd 53))=Oi [bf]:=congrArg (fun z=>Oi (bf::Oc z)) ke
   refine LC (KG (KJ (KJ (KH (KI (pt aA 0) rfl rfl (MC rfl kg Tryz.underlying54 AD rfl rr) (LW rfl rfl rfl rfl rfl (fun _ _=>by kernel_rfl) (Lk rfl LR) (aDm aA l ((K2 l K W H (M8 W H 3)).s) ab _  AC ) fun EB nX=>?_))))))
   obtain⟨nY,nZ,AJ,n5,n6⟩:=OU nX Az AA AB nU fF
   have n7:=Ay.tr nX
   refine KI (.bool (decide ((Oa l ((K2 l K W H (M8 W H 3)).s))≠0))) rfl rfl (Mb rfl rfl rfl rfl rr) (KM ?_)
   have AK:=K4 (.bool (decide ((Oa l ((K2 l K W H (M8 W H 3)).s))≠0)))
   refine KG ?_
   refine K6 AK (fun eO=>?_) (fun eO=>?_)
   ·replace eO:=of_decide_eq_true eO
    refine KJ ?_
    have hR:=(Ye hm hN).1 (by assumption)
    refine KH (L5 rfl rfl rfl cD rfl nY (by rfl) (by kernel_rfl) fun EC AL ie=>?_)
    have AM:=nZ.all ie (bg ae rfl)
    have AN:=n6.all ie (fG bf rfl)
    refine L5 rfl rfl rfl cE rfl AM (by rfl) (by kernel_rfl) fun AO AP ig=>?_
    have AQ:=AL.all ig (bg.symm ac rfl)
    have AR:=AN.all ig (fH bf rfl)
    refine KM ?_
    refine KG (Lb (Lq ?_))
    have ii:=Rb AO bf
    have AU:=AQ.all ii (fG.symm ac rfl)
    have AV:=AP.all ii (fH.symm ae rfl)
    exact Rj (ms:=[bf]) nW AR.opens rfl (Ox Tryz.underlying32 rfl rfl cD AU) (Ox Tryz.underlying33 rfl rfl cE AV) ⟨(.slice none 0 0),LX,(by first|(rw[hR,NR hmn];rfl)|(rw[hR];rfl)|(rw[N2 hm hpf hne];rfl)|rw[hR,NR hmn]|rw[hR]|rw[N2 hm hpf hne]),(((n7.trans ie (KP.ok (S:=fun _=>False) bA K3)).trans ig (KP.ok (S:=fun _=>False) bB K3)).trans ii (KP.ok (S:=fun _=>False) nV K3)),⟨(by first|(rw[hR];exact(QX.nil TL _))|(rw[N2 hm hpf hne];exact(QX.nil TL _))),(KP.refl _ _)⟩⟩
   ·replace eO:=of_decide_eq_false eO
    refine Lg (KG (KJ ?_))
    have hR:=(Ye hm hN).2 (by first|assumption|(apply Decidable.byContradiction;assumption))
    refine KH (KI V rfl rfl (MC rfl kf Tryz.underlying32 AJ rfl rr) (L5 rfl rfl rfl cD rfl nY n5.oneC (by kernel_rfl) fun ED AW fI=>?_))
    have AX:=nZ.all fI (bg ae rfl)
    have AY:=n5.all fI AF
    have AZ:=n6.all fI (fG bf rfl)
    refine L5 rfl rfl rfl cE rfl AX (by rfl) (by kernel_rfl) fun Ba Bb fJ=>?_
    have Bc:=AW.all fJ (bg.symm ac rfl)
    have Bd:=AY.all fJ AG
    have Be:=AZ.all fJ (fH bf rfl)
    refine KM ?_
    refine KG (Lb ?_)
    have fK:=Rb Ba bf
    have Bf:=Bc.all fK (fG.symm ac rfl)
    have Bg:=Bb.all fK (fH.symm ae rfl)
    have n8:=Bd.all fK AH.symm
    exact Rj (ms:=[bf]) nW Be.opens rfl (Ox Tryz.underlying32 rfl rfl cD Bf) (Ox Tryz.underlying33 rfl rfl cE Bg) ⟨V,an,(by first|(rw[hR,NR hmn];rfl)|(rw[hR];rfl)|(rw[N2 hm hpf hne];rfl)|rw[hR,NR hmn]|rw[hR]|rw[N2 hm hpf hne]),(((n7.trans fI (KP.ok (S:=fun _=>False) bA K3)).trans fJ (KP.ok (S:=fun _=>False) bB K3)).trans fK (KP.ok (S:=fun _=>False) nV K3)),⟨(by first|(rw[hR];exact n8)|(rw[N2 hm hpf hne];exact n8)),AE⟩⟩
  ·rintro cw pre n9 ij hpf ⟨Bh,EE,EF,EG,Bi,Bj,EH,EI,EJ,hne⟩ ik
   have ik:U5 n9 cw:=ik
   have Bk:KP w0 LX (Lf cw):=LS (Nat.le_trans dk.size ij)
   have Bl:=U5.far ij (LT gb.lt)
   have Bm:=U5.far ij (LT gc.lt)
   have Bn:Oi (cw::Oc (gd 53))=Oi [cw]:=congrArg (fun z=>Oi (cw::Oc z)) ke
   refine NT (Lq ?_)
   have io:=Rb n9 cw
   have Bo:=Bi.all io (Bl.symm ac rfl)
   have Bp:=Bj.all io (Bm.symm ae rfl)
   exact Rj (ms:=[cw]) Bn ik.opens rfl (Ox Tryz.underlying32 rfl rfl cD Bo) (Ox Tryz.underlying33 rfl rfl cE Bp) ⟨(.slice none 0 0),LX,(by first|(rw[hR,NR hmn];rfl)|(rw[hR];rfl)|(rw[N2 hm hpf hne];rfl)|rw[hR,NR hmn]|rw[hR]|rw[N2 hm hpf hne]),(Bh.trans io (KP.ok (S:=fun _=>False) Bk K3)),⟨(by first|(rw[hR];exact(QX.nil TL _))|(rw[N2 hm hpf hne];exact(QX.nil TL _))),(KP.refl _ _)⟩⟩
end Go.Proofs.YtknjpdcpmpfklaaGreatDoor
set_option maxRecDepth 100000
namespace Go.Proofs.YtknjpdcpmpfklaaGreatDoor
open Go.RowKit
def azu(k:Int)(c:Ch):Prop:=0<=c.m/\c.m<=NJ k/\M9 c.px c.py/\M9 c.nx c.ny
theorem aCK:M9 0 0:=by decide
theorem aC9{l:List Nat}{gx gy:Int}{s:Option Nat}:M9 (Rh l gx gy s) (Ri l gx gy s):=by
 by_cases h:RR l gx gy s
 ·rw[(VM h).1,(VM h).2.1];exact h.2
 ·rw[(XQ h).1,(XQ h).2.1];exact aCK
theorem ZD{has:Bool}{l:List Nat}{gx gy:Int}{s:Option Nat}:M9 (ZK has l gx gy s).1 (ZK has l gx gy s).2.1:=by
 cases has with
 | true=>rw[RC rfl];exact aC9
 | false=>rw[SN rfl];exact aCK
theorem aBf{l:List Nat}{k ax ay bx yy:Int}{st:Option Nat}(hk:0<=NJ k)(h:(Re l k ax ay bx yy st).2.1=0):azu k (Re l k ax ay bx yy st).1:=by
 have hw:=UJ l (NJ k) hk st
 revert h
 unfold Re
 generalize Ll (Lw l (NJ k)) st=m at hw ⊢
 unfold rd1
 split
 ·intro h;cases h
 ·unfold XE
  split
  ·unfold UO
   split
   ·unfold Yi
    split
    ·intro _;exact⟨hw.1,hw.2,ZD,ZD⟩
    ·intro h;exact absurd h (by assumption)
   ·intro h;exact absurd h (by assumption)
  ·intro h;exact absurd h (by assumption)
theorem aAV{l:List Nat}{k:Int}{w:Nat}(hk:0<=NJ k):∀ (m i:Nat) (t:XG) (o:List Ch),(∀ c∈o,azu k c)->∀ c∈(Sz l k w m i t o).1,azu k c:=by
 intro m
 induction m with
 | zero=>intro i t o h;exact h
 | succ m ih =>
  intro i t o h
  by_cases hc:(Ma l k w i t).2.1=0
  ·rw[Sf hc]
   refine ih _ _ _ fun c hcm=>?_
   rcases List.mem_append.1 hcm with z|z
   ·exact h c z
   ·rw[List.mem_singleton.1 z];exact aBf hk hc
  ·rw[UT hc];intro c z;cases z
theorem aAh{l:List Nat}{k W H:Int}(hk:0<=NJ k):∀ p,∀ c∈(Nw l k W H p).1,azu k c:=by
 intro p
 induction p with
 | zero=>intro c z;cases z
 | succ p ih =>
  by_cases hc:(Nw l k W H p).2.1=0
  ·rw[Se hc];exact aAV hk _ _ _ _ ih
  ·rw[TG hc];exact ih
theorem aAl{l:List Nat}{k W H:Int}(hk:0<=NJ k):∀ c∈(OT l k W H).1,azu k c:=by
 unfold OT
 split
 ·split
  ·exact aAh hk 3
  ·intro c z;cases z
 ·intro c z;cases z
theorem aAy{K Q D F:Int}(h:On K Q D F):0<=NJ K:=by
 have h1:=h.1;have h2:=h.2.1
 unfold NJ;split;omega;split;omega;split;omega;omega
theorem aCr{α:Type}{L:List α}{d:α}{i:Nat}(h:i<L.length):L.getD i d∈L:=by
 rw[List.getD_eq_getElem?_getD,List.getElem?_eq_getElem h];exact List.getElem_mem h
theorem aCw{W H R B K:Int}{F g h:FD}{c:Ch}{p i:Nat}(hF:QY F)(hW:F.W=W)(hH:F.H=H)(hn:¬ ((K≠0/\¬ M5 W H R B g)\/(K=2/\¬ M5 W H R B h)))(hK:0<=K/\K<=2)(hc:azu K c)(hp:p<3)(hi:i<Lh W p*Lh H p) :
  TJ F g h (p:Int) (4*pX (Lh W p) i) (4*pY (Lh W p) i) c=0:=by
 obtain⟨m0,m1,v1,v2⟩:=hc
 have pos:∀ {f:FD},QY f->f.W=W->f.H=H->MU f (p:Int) (4*pX (Lh W p) i) (4*pY (Lh W p) i):=fun {f} ho e1 e2=>by
  subst e1;subst e2
  refine azd ho hp hi ?_
  rcases Nat.eq_zero_or_pos (Lh f.W p) with z|z
  ·rw[z,Nat.zero_mul] at hi;omega
  ·exact z
 have hpF:=pos hF hW hH
 have fitg:K≠0->MU g (p:Int) (4*pX (Lh W p) i) (4*pY (Lh W p) i):=fun hk=>by
  have hf:M5 W H R B g:=Decidable.byContradiction fun z=>hn (Or.inl ⟨hk,z⟩)
  exact pos hf.2.1 hf.2.2.1.symm hf.2.2.2.symm
 have fith:K=2->MU h (p:Int) (4*pX (Lh W p) i) (4*pY (Lh W p) i):=fun hk=>by
  have hf:M5 W H R B h:=Decidable.byContradiction fun z=>hn (Or.inr ⟨hk,z⟩)
  exact pos hf.2.1 hf.2.2.1.symm hf.2.2.2.symm
 have hm:NJ K=3/\K=0\/NJ K=4/\K=1\/NJ K=6/\K=2:=by
  unfold NJ
  rcases (show K=0\/K=1\/K=2 by omega) with rfl|rfl|rfl <;> decide
 have e1:K≠0->OW g (p:Int) (4*pX (Lh W p) i) (4*pY (Lh W p) i) c.px c.py=0:=fun hk=>(if_pos (fitg hk)).trans (O6 v1)
 have e2:K=2->OW h (p:Int) (4*pX (Lh W p) i) (4*pY (Lh W p) i) c.nx c.ny=0:=fun hk=>(if_pos (fith hk)).trans (O6 v2)
 by_cases h3:c.m<4
 ·rw[(aAE ⟨m0,h3⟩).2]
  exact(if_pos hpF).trans (if_pos ⟨m0,by omega⟩)
 ·by_cases h4:c.m=4
  ·rw[(UX h4).2];exact e1 (by omega)
  ·by_cases h5:c.m=5
   ·rw[(U6 h5).2];exact e2 (by omega)
   ·have h6:c.m=6:=by omega
    exact(Z1 h6 (e1 (by omega)) (e2 (by omega))).2
def Vf{W H:Int}(g h:FD)(q:Int)(L:List Ch)(F:FD)(x:Sd W H):FD:=aA2 g h q (x.p:Int) (Lh W x.p) x.i (L.getD x.m chZ) F
def Md(g h:FD)(q W H:Int)(L:List Ch)(pre:List (Sd W H)):FD:=pre.foldl (Vf g h q L) (LG W H 0)
theorem U3{g h:FD}{q W H:Int}{L:List Ch}(pre:List (Sd W H))(x:Sd W H):Md g h q W H L (pre ++ [x])=aA2 g h q (x.p:Int) (Lh W x.p) x.i (L.getD x.m chZ) (Md g h q W H L pre):=by
 unfold Md;rw[List.foldl_append];rfl
theorem aD4{g h:FD}{q W H:Int}{L:List Ch}(hW:NN W)(hH:NN H):∀ (pre:List (Sd W H)),QY (Md g h q W H L pre)/\(Md g h q W H L pre).W=W/\(Md g h q W H L pre).H=H:=by
 have key:∀ (pre:List (Sd W H)) (F:FD),(QY F/\F.W=W/\F.H=H)->QY (pre.foldl (Vf g h q L) F)/\(pre.foldl (Vf g h q L) F).W=W/\(pre.foldl (Vf g h q L) F).H=H:=by
  intro pre
  induction pre with
  | nil=>intro F h;exact h
  | cons x r ih =>
   intro F hF
   rw[List.foldl_cons]
   refine ih _ ?_
   unfold Vf aA2
   have hsd:=R3 F (x.p:Int) (4*pX (Lh W x.p) x.i) (4*pY (Lh W x.p) x.i) (buB (Xd F g h (x.p:Int) (4*pX (Lh W x.p) x.i) (4*pY (Lh W x.p) x.i) (L.getD x.m chZ)) (L.getD x.m chZ).b q) 16
   rw[NB hF.1] at hsd
   exact⟨aDs hF.1 _ _ _ _ 16,hsd.1.trans hF.2.1,hsd.2.1.trans hF.2.2⟩
 intro pre
 exact key pre _ ⟨Y3 0 (PC hW) (PC hH),by rw[Q2 0 (PC hW) (PC hH)],by rw[Q2 0 (PC hW) (PC hH)]⟩
theorem aAv{g h:FD}{q W H:Int}{L:List Ch}{p:Nat}(hp:p<3)(F:FD):∀ n,n<=Lh W p*Lh H p->(UY W H p n).foldl (Vf g h q L) F=aBr g h q p (Lh W p) L (N4 W H p) F n:=by
 intro n
 induction n with
 | zero=>intro _;rfl
 | succ n ih =>
  intro hn
  rw[Sq hp (by omega),List.foldl_append,List.foldl_cons,List.foldl_nil,ih (by omega)]
  rfl
theorem Nc{g h:FD}{q W H:Int}{L:List Ch}:∀ p,p<=3->Md g h q W H L (M8 W H p)=aBM g h q W H L p:=by
 intro p
 induction p with
 | zero=>intro _;rfl
 | succ p ih =>
  intro hp
  have e:Md g h q W H L (M8 W H (p+1))=(UY W H p (Lh W p*Lh H p)).foldl (Vf g h q L) (Md g h q W H L (M8 W H p)):=by
   unfold Md;rw[M8,List.foldl_append]
  rw[e,ih (by omega),aAv (by omega) _ _ (Nat.le_refl _)]
  rfl
end Go.Proofs.YtknjpdcpmpfklaaGreatDoor
