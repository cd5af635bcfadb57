/- What PictureNeeds reaches of my texts, part 9. -/
import Derived.Test.YtknjpdcpmpfklaaGreatDoorPictureNeedsH
set_option maxRecDepth 100000
set_option maxHeartbeats 4000000
set_option maxRecDepth 100000
namespace Go.Proofs.YtknjpdcpmpfklaaGreatDoor
open Go.RowKit
theorem aBB{l:List Nat}{W H K:Int}(h:(Qp l K W H).2=0):(Qp l K W H).1.length=N9 W H 3:=by
 have hz:(Oe l K W H 3).2.1=0:=by
  apply Decidable.byContradiction;intro hn
  rw[Xu (Nat.le_refl 3) hn] at h;exact hn h
 unfold Qp at h ⊢
 rw[if_pos hz] at h ⊢
 split at h
 ·rename_i hd;rw[if_pos hd];exact azM 3 hz
 ·cases h
theorem ayD{W H:Int}(h1:NK W)(h2:NK H):R7 W H=0:=Tv (Px h1) (Px h2)
theorem QX(W H R B K Q D F:Int)(v:Value)(l:List Nat)(g:FD)(g0 g1 g2:Value)(h:FD)(h0 h1 h2:Value)(T_b:Nat->Prop)(T_g0:Nat->Prop)(T_g1:Nat->Prop)(T_g2:Nat->Prop)(T_h0:Nat->Prop)(T_h1:Nat->Prop)(T_h2:Nat->Prop)(w0:World)(hA:NM w0)(hO:Of w0)(hs:NU w0)(hw:Qr w0)(hl:l.length<=1001)(h_b:L7 w0 T_b v (l))(h_g0:L7 w0 T_g0 g0 ((g).p0))(h_g1:L7 w0 T_g1 g1 ((g).p1))(h_g2:L7 w0 T_g2 g2 ((g).p2))(h_h0:L7 w0 T_h0 h0 ((h).p0))(h_h1:L7 w0 T_h1 h1 ((h).p1))(h_h2:L7 w0 T_h2 h2 ((h).p2)) :
  Calls Tryz.prog 12 #[.agg #[.int .i64 (W),.int .i64 (H),.int .i64 (R),.int .i64 (B)],.agg #[.int .i64 (K),.int .i64 (Q),.int .i64 (D),.int .i64 (F)],v,.agg #[.int .i64 ((g).W),.int .i64 ((g).H),g0,g1,g2],.agg #[.int .i64 ((h).W),.int .i64 ((h).H),h0,h1,h2]] w0 fun e w'=>∃ (v1:Value) (T1:Nat->Prop) (v2:Value) (T2:Nat->Prop) (v3:Value) (T3:Nat->Prop),e = .returned (.tuple #[.agg #[.int .i64 ((MF l W H R B K Q D F g h).W),.int .i64 ((MF l W H R B K Q D F g h).H),v1,v2,v3],.int .i64 (MH l W H R B K Q D F g h)])/\KM (fun _=>False) w0 w'/\(L1 w' T1 v1 ((MF l W H R B K Q D F g h).p0)/\KP w0 L8 T1)/\(L1 w' T2 v2 ((MF l W H R B K Q D F g h).p1)/\KP w0 L8 T2)/\(L1 w' T3 v3 ((MF l W H R B K Q D F g h).p2)/\KP w0 L8 T3)/\KJ T1 T2/\KJ T1 T3/\KJ T2 T3:=by
 refine XL (args:=[.agg #[iv W,iv H,iv R,iv B],.agg #[iv K,iv Q,iv D,iv F],v,.agg #[iv (g.W),iv (g.H),g0,g1,g2],.agg #[iv (h.W),iv (h.H),h0,h1,h2]]) 92 Tryz.func12 rfl rfl (Nat.le_of_ble_eq_true rfl) ?_
 have g_b:=KP.refl w0 T_b
 have g_g0:=KP.refl w0 T_g0
 have g_g1:=KP.refl w0 T_g1
 have g_g2:=KP.refl w0 T_g2
 have g_h0:=KP.refl w0 T_h0
 have g_h1:=KP.refl w0 T_h1
 have g_h2:=KP.refl w0 T_h2
 refine KH (KF (Lt (vs:=[iv W,iv H,iv R,iv B]) rfl rfl rfl rfl fun p1 w2 B4 g5 k3=>?_))
 obtain⟨gN,gO,gP,gQ,gR,gS,gT⟩:=Sl k3 h_b h_g0 h_g1 h_g2 h_h0 h_h1 h_h2
 refine Lt (vs:=[iv K,iv Q,iv D,iv F]) rfl rfl rfl rfl fun ak r6 gU r7 df=>?_
 obtain⟨gV,gW,gZ,hP,hQ,hZ,ia,ib⟩:=Xz df gN gO gP gQ gR gS gT B4
 refine Lt (vs:=[iv (g.W),iv (g.H),g0,g1,g2]) rfl rfl rfl rfl fun ap r8 ie r9 dg=>?_
 obtain⟨ig,ii,ij,ik,io,ip,iq,ir,iu⟩:=YM dg gV gW gZ hP hQ hZ ia ib gU
 refine Lt (vs:=[iv (h.W),iv (h.H),h0,h1,h2]) rfl rfl rfl rfl fun aq sb iw dh di=>?_
 obtain⟨iy,iz,iA,iB,iC,iD,iE,iF,iG,iH⟩:=RG di ig ii ij ik io ip iq ir iu ie
 have dj:=((((KM.refl (fun _=>False) w0).tr k3).tr df).tr dg).tr di
 refine LF (n:=5) (vs:=[iv 0,iv 0,.slice none 0 0,.slice none 0 0,.slice none 0 0]) rfl rfl rfl (by kernel_rfl) fun ai sc dk iI dl=>?_
 have bj:=KP.new dj iI
 obtain⟨iJ,iK,iL,iM,iN,iO,iP,iQ,iR,iS,iT⟩:=N5 dl iy iz iA iB iC iD iE iF iG iH iw
 have dm:=dj.tr dl
 refine Ox (v:=iv 0) rfl rfl rfl (by kernel_rfl) rfl fun aj sd iU dn dp=>?_
 have bl:=KP.new dm dn
 have aB:=KJ.new dn (LR dk.lt)
 obtain⟨iV,iW,iX,iY,iZ,ja,jb,dq,dr,jc,jd,je⟩:=azx dp iJ iK iL iM iN iO iP iQ iR iS iT dk
 refine KL ?_
 have jf:=K4 (.agg #[iv W,iv H,iv R,iv B])
 have jg:=K4 (.agg #[iv K,iv Q,iv D,iv F])
 have dt:=K4 (v)
 have jh:=K4 (.agg #[iv (g.W),iv (g.H),g0,g1,g2])
 have ji:=K4 (.agg #[iv (h.W),iv (h.H),h0,h1,h2])
 have bm:=K4 (undef)
 have aC:=K4 (pt p1 0)
 have aV:=K4 (pt ak 0)
 have bY:=K4 (pt ap 0)
 have bZ:=K4 (pt aq 0)
 have aD:=K4 (pt ai 0)
 have aE:=K4 (pt aj 0)
 refine KE (KH (KH (KF (KG (.agg #[iv W,iv H,iv R,iv B]) rfl rfl (KU Mv rfl aC dq rr) (KG (.agg #[iv K,iv Q,iv D,iv F]) rfl rfl (KU Pj rfl aV dr rr) (LV rfl rfl rfl rfl rfl (fun _ _=>by kernel_rfl) (Lj rfl (Lj rfl LP)) (X8 W H R B K Q D F  _   ) fun du dv=>?_))))))
 obtain⟨jj,b7,b8,b9,cd,ce,cf,cg,ci,cj,cm,cn,co⟩:=Xx dv iV iW iX iY iZ ja jb dq dr jc jd je iU
 have cq:=(dm.tr dp).tr dv
 refine KG (iv (QW W H R B K Q D F)) rfl rfl (KT rfl rfl rr) (KL ?_)
 have cr:=K4 (iv (QW W H R B K Q D F))
 refine KE (KH (KF (KS rfl rfl rfl cr (KG (.bool (decide ((QW W H R B K Q D F)≠0))) rfl rfl (L9 rfl rfl rfl rfl rr) (KL ?_)))))
 have dw:=K4 (.bool (decide ((QW W H R B K Q D F)≠0)))
 refine KE ?_
 refine K5 dw (fun aW=>?_) (fun aW=>?_)
 ·replace aW:=of_decide_eq_true aW
  refine KH ?_
  have hmn:=Za (W:=W) (H:=H) (R:=R) (B:=B) (K:=K) (Q:=Q) (D:=D) (F:=F) (by assumption)
  have hE:=X5 (l:=l) (g:=g) (h:=h) hmn
  have hFr:=UB (l:=l) (W:=W) (H:=H) (R:=R) (B:=B) (K:=K) (Q:=Q) (D:=D) (F:=F) (g:=g) (h:=h) (by rw[hE];decide)
  refine KF (KG (.agg #[iv 0,iv 0,.slice none 0 0,.slice none 0 0,.slice none 0 0]) rfl rfl (LW (l':=[]) (cells:=#[iv 0,iv 0,.slice none 0 0,.slice none 0 0,.slice none 0 0]) rfl QZ (by kernel_rfl) rfl rr) (KS rfl rfl rfl cr (Lh (us:=[iv 0,iv 0,.slice none 0 0,.slice none 0 0,.slice none 0 0]) KZ rfl rfl rfl aD rfl cn rfl (KX rfl (KX rfl (KX rfl (KX rfl (KX rfl MC))))) fun se jk dy=>?_)))
  have jl:=co.all dy (aB aj rfl)
  refine L3 rfl rfl rfl aE rfl jl (by rfl) (by kernel_rfl) fun sf jm dz=>?_
  have jn:=jk.all dz (aB.symm ai rfl)
  refine KL ?_
  refine KE (La (Ln ?_))
  exact Rk (ms:=[]) (Eq.trans bm (rfl:undef=Oi [])) trivial rfl (MJ (vs:=[iv 0,iv 0,.slice none 0 0,.slice none 0 0,.slice none 0 0]) KZ rfl aD jn) (Oo Tryz.underlying33 rfl rfl aE jm) ⟨(.slice none 0 0),L8,(.slice none 0 0),L8,(.slice none 0 0),L8,(by first|exact hfalse.elim|(rw[hE,hFr,NS hmn];rfl)|rw[hE,hFr,NS hmn]|(rw[hE,hFr,← Nf 3 (Nat.le_refl 3)];rfl)|rw[hE,hFr,← Nf 3 (Nat.le_refl 3)]|(rw[hE,hFr];rfl)|rw[hE,hFr]),((cq.trans dy (KP.ok (S:=fun _=>False) bj K3)).trans dz (KP.ok (S:=fun _=>False) bl K3)),⟨(by first|exact hfalse.elim|(rw[hFr,← Nf 3 (Nat.le_refl 3)];exact(L1.nil _))|(rw[hFr];exact(L1.nil _))),(KP.refl _ _)⟩,⟨(by first|exact hfalse.elim|(rw[hFr,← Nf 3 (Nat.le_refl 3)];exact(L1.nil _))|(rw[hFr];exact(L1.nil _))),(KP.refl _ _)⟩,⟨(by first|exact hfalse.elim|(rw[hFr,← Nf 3 (Nat.le_refl 3)];exact(L1.nil _))|(rw[hFr];exact(L1.nil _))),(KP.refl _ _)⟩,KJ.none,KJ.none,KJ.none⟩
 ·replace aW:=of_decide_eq_false aW
  refine Lf (KE (KH (KH ?_)))
  have hm:QJ W H R B K Q D F:=Y9 (by first|assumption|(apply Decidable.byContradiction;assumption))
  have hsq:=hm.1
  have hsd:=R5 hm.1
  have hhd:=hm.2
  by_cases dA:¬ ((K≠0/\¬ MQ W H R B g)\/(K=2/\¬ MQ W H R B h))
  ·skip
   refine KF (KG (.agg #[iv W,iv H,iv R,iv B]) rfl rfl (KU Mv rfl aC cg rr) (KG (pt ak 0) rfl rfl (KQ (n:=1) rfl aV Tryz.underlying25 rfl (by kernel_rfl) (by decide) rfl rr) (KG (iv K) rfl rfl (KR rfl rfl Tryz.underlying3 ci rfl rfl rr) (KG (.agg #[iv (g.W),iv (g.H),g0,g1,g2]) rfl rfl (KU KZ rfl bY cj rr) (KG (.agg #[iv (h.W),iv (h.H),h0,h1,h2]) rfl rfl (KU KZ rfl bZ cm rr) (Lw (R:=fun v_ w_=>v_ = .bool true/\KM (fun _=>False) du w_) rfl rfl (LE rfl rfl rfl (fun _ _=>by kernel_rfl) (K2 _) (Lj rfl (Lj rfl (Lj rfl (Lj rfl LP)))) (aAu W H R B K g g0 g1 g2 h h0 h1 h2 T_g0 T_g1 T_g2 T_h0 T_h1 T_h2 _  b7 b8 b9 cd ce cf ) (fun e_ w_ h_=>⟨_,h_.1,(congrArg Value.bool (decide_eq_true dA)),h_.2⟩)) ?_))))))
   rintro _ dB ⟨rfl,dC⟩
   obtain⟨dD,jo,jp,jq,jr,js,jt,dE,dF,ju,jv,jw,jx⟩:=Xx dC jj b7 b8 b9 cd ce cf cg ci cj cm cn co
   have ct:=cq.tr dC
   refine KG (.bool false) rfl rfl (LT rfl rfl rfl rr) (KL ?_)
   have dG:=K4 (.bool false)
   refine KE ?_
   refine K5 (t:=false) dG (fun e=>by cases e) (fun _=>?_)
   refine Lf (KE (KH ?_))
   have hn:¬ ((K≠0/\¬ MQ W H R B g)\/(K=2/\¬ MQ W H R B h)):=by first|assumption|(apply Decidable.byContradiction;assumption)
   have hEc:=(SZ (l:=l) (g:=g) (h:=h) hm hn).trans (congrArg Prod.snd (Pz hm).symm)
   refine KF (KG (.agg #[iv W,iv H,iv R,iv B]) rfl rfl (KU Mv rfl aC dE rr) (KG (.agg #[iv K,iv Q,iv D,iv F]) rfl rfl (KU Pj rfl aV dF rr) (KS rfl rfl rfl dt (Lw (R:=fun v_ w_=>∃ (ao:Value) (av:Nat->Prop),.tuple #[ao,iv ((Ov l W H R B K Q D F).2)]=v_/\KM (fun _=>False) dB w_/\(QR Ux w_ av ao ((Ov l W H R B K Q D F).1)/\KP dB L8 av)) rfl rfl (LE rfl rfl rfl (fun _ _=>by kernel_rfl) (K2 _) (Lj rfl (Lj rfl (Lj rfl LP))) (SR W H R B K Q D F v l T_b _ (hA.all ct) (hO.all ct) (by first|omega|(simp;omega)) dD ) (fun e_ w_ h_=>by obtain⟨v292_,T295_,he_,hr_⟩:=h_;exact⟨_,he_,v292_,T295_,rfl,hr_⟩)) ?_))))
   rintro _ sg ⟨ao,av,rfl,dH,⟨dI,si⟩⟩
   obtain⟨dJ,dK,dL,dM,dN,dO,dP,dQ,dR,dS,dT,dU,dV⟩:=Xx dH dD jo jp jq jr js jt dE dF ju jv jw jx
   have dW:=ct.tr dH
   refine KG (.tuple #[ao,iv ((Ov l W H R B K Q D F).2)]) rfl rfl (KN rfl rfl rr) (KG ao rfl rfl (LI rfl rfl rfl rr) (KG (iv ((Ov l W H R B K Q D F).2)) rfl rfl (LI rfl rfl rfl rr) (Ox (v:=.slice none 0 0) rfl rfl rfl (by kernel_rfl) rfl fun ar sj jy dX dY=>?_)))
   obtain⟨jz,jA,jB,jC,jD,jE,jF,jG,jH,jI,jJ,jK,jL,jM⟩:=RM dX dJ dK dL dM dN dO dP dQ dR dS dT dU dV dI
   obtain⟨jN,jO,jP,jQ,jR,jS,jT,jU,jV,jW,jX,jY,jZ,dZ⟩:=OW dY dJ dK dL dM dN dO dP dQ dR dS dT dU dV dI
   refine L3 rfl rfl rfl rfl rfl jy dZ.oneC (by kernel_rfl) fun aX bn am=>?_
   have bo:=jN.all am jz.symm
   have bp:=jO.all am jA.symm
   have bq:=jP.all am jB.symm
   have bt:=jQ.all am jC.symm
   have bu:=jR.all am jD.symm
   have bv:=jS.all am jE.symm
   have bz:=jT.all am jF.symm
   have aK:=jU.all am (jG.symm p1 rfl)
   have bA:=jV.all am (jH.symm ak rfl)
   have bB:=jW.all am (jI.symm ap rfl)
   have bC:=jX.all am (jJ.symm aq rfl)
   have aY:=jY.all am (jK.symm ai rfl)
   have aZ:=jZ.all am (jL.symm aj rfl)
   have j0:=dZ.all am jM.symm
   have a8:=(dW.tr dY).trans am (KP.ok (S:=fun _=>False) (KP.new dW dX) K3)
   refine KG (iv ((Ov l W H R B K Q D F).2)) rfl rfl (KT rfl rfl rr) (KL ?_)
   have j1:=K4 (pt ar 0)
   have d8:=K4 (iv ((Ov l W H R B K Q D F).2))
   refine KE (KH (KH (KF (KS rfl rfl rfl d8 (KG (.bool (decide (((Ov l W H R B K Q D F).2)≠0))) rfl rfl (L9 rfl rfl rfl rfl rr) (KL ?_))))))
   have d9:=K4 (.bool (decide (((Ov l W H R B K Q D F).2)≠0)))
   refine KE ?_
   refine K5 d9 (fun a9=>?_) (fun a9=>?_)
   ·replace a9:=of_decide_eq_true a9
    refine KH ?_
    have hE:=hEc
    have hFr:=UB (l:=l) (W:=W) (H:=H) (R:=R) (B:=B) (K:=K) (Q:=Q) (D:=D) (F:=F) (g:=g) (h:=h) (by rw[hE];assumption)
    refine KF (KG (.agg #[iv 0,iv 0,.slice none 0 0,.slice none 0 0,.slice none 0 0]) rfl rfl (LW (l':=[]) (cells:=#[iv 0,iv 0,.slice none 0 0,.slice none 0 0,.slice none 0 0]) rfl QZ (by kernel_rfl) rfl rr) (KS rfl rfl rfl d8 (Lh (us:=[iv 0,iv 0,.slice none 0 0,.slice none 0 0,.slice none 0 0]) KZ rfl rfl rfl aD rfl aY rfl (KX rfl (KX rfl (KX rfl (KX rfl (KX rfl MC))))) fun sk j2 eb=>?_)))
    have j3:=aZ.all eb (aB aj rfl)
    refine L3 rfl rfl rfl aE rfl j3 (by rfl) (by kernel_rfl) fun sl j4 ee=>?_
    have j5:=j2.all ee (aB.symm ai rfl)
    refine KL ?_
    refine KE (La (Ln ?_))
    exact Rk (ms:=[]) (Eq.trans bm (rfl:undef=Oi [])) trivial rfl (MJ (vs:=[iv 0,iv 0,.slice none 0 0,.slice none 0 0,.slice none 0 0]) KZ rfl aD j5) (Oo Tryz.underlying33 rfl rfl aE j4) ⟨(.slice none 0 0),L8,(.slice none 0 0),L8,(.slice none 0 0),L8,(by first|exact hfalse.elim|(rw[hE,hFr,NS hmn];rfl)|rw[hE,hFr,NS hmn]|(rw[hE,hFr,← Nf 3 (Nat.le_refl 3)];rfl)|rw[hE,hFr,← Nf 3 (Nat.le_refl 3)]|(rw[hE,hFr];rfl)|rw[hE,hFr]),((a8.trans eb (KP.ok (S:=fun _=>False) bj K3)).trans ee (KP.ok (S:=fun _=>False) bl K3)),⟨(by first|exact hfalse.elim|(rw[hFr,← Nf 3 (Nat.le_refl 3)];exact(L1.nil _))|(rw[hFr];exact(L1.nil _))),(KP.refl _ _)⟩,⟨(by first|exact hfalse.elim|(rw[hFr,← Nf 3 (Nat.le_refl 3)];exact(L1.nil _))|(rw[hFr];exact(L1.nil _))),(KP.refl _ _)⟩,⟨(by first|exact hfalse.elim|(rw[hFr,← Nf 3 (Nat.le_refl 3)];exact(L1.nil _))|(rw[hFr];exact(L1.nil _))),(KP.refl _ _)⟩,KJ.none,KJ.none,KJ.none⟩
   ·replace a9:=of_decide_eq_false a9
    refine Lf (KE (KH ?_))
    have hE:MH l W H R B K Q D F g h=0:=hEc.trans (by first|assumption|(apply Decidable.byContradiction;assumption))
    have hFr:=azF hE
    have hc0:(Qp l K W H).2=0:=by have h_:=hEc.symm.trans hE;rw[Pz hm] at h_;exact h_
    have hlo0:=aBB hc0
    have hmay:=azo (l:=l) (W:=W) (H:=H) (az9 hm.2)
    obtain⟨L,hL⟩:∃ L,L=(Qp l K W H).1:=⟨_,rfl⟩
    rw[← hL] at hlo0 hFr hmay
    have hnw:=ayD hm.1.1 hm.1.2.1
    have bD:QR Ux aX av ao L:=(by rw[hL,← congrArg Prod.fst (Pz (l:=l) hm)];exact j0)
    refine KF (KG (pt p1 0) rfl rfl (KQ (n:=1) rfl aC Tryz.underlying23 rfl (by kernel_rfl) (by decide) rfl rr) (KG (iv W) rfl rfl (KR rfl rfl Tryz.underlying3 aK rfl rfl rr) (KG (pt p1 1) rfl rfl (KQ (n:=1) rfl aC Tryz.underlying23 rfl (by kernel_rfl) (by decide) rfl rr) (KG (iv H) rfl rfl (KR rfl rfl Tryz.underlying3 aK rfl rfl rr) (Lw (R:=fun v_ w_=>∃ (aF:Value) (aL:Nat->Prop) (aG:Value) (aM:Nat->Prop) (aH:Value) (aN:Nat->Prop),.tuple #[.agg #[iv ((LG W H 0).W),iv ((LG W H 0).H),aF,aG,aH],iv (R7 W H)]=v_/\KM (fun _=>False) aX w_/\(L1 w_ aL aF ((LG W H 0).p0)/\KP aX L8 aL)/\(L1 w_ aM aG ((LG W H 0).p1)/\KP aX L8 aM)/\(L1 w_ aN aH ((LG W H 0).p2)/\KP aX L8 aN)/\KJ aL aM/\KJ aL aN/\KJ aM aN) rfl rfl (LE rfl rfl rfl (fun _ _=>by kernel_rfl) (K2 _) (Lj rfl (Lj rfl (Lj rfl LP))) (aAP W H 0  _ (by decide)  ) (fun e_ w_ h_=>by obtain⟨v463_,T468_,v464_,T469_,v465_,T470_,he_,hr_⟩:=h_;exact⟨_,he_,v463_,T468_,v464_,T469_,v465_,T470_,rfl,hr_⟩)) ?_)))))
    rintro _ sm ⟨aF,aL,aG,aM,aH,aN,rfl,cu,⟨eh,cv⟩,⟨ei,cw⟩,⟨ek,cy⟩,j6,j7,j8⟩
    obtain⟨en,eo,ep,er,et,eu,ew,ex,ey,ez,eA,eB,eC,eD⟩:=OW cu bo bp bq bt bu bv bz aK bA bB bC aY aZ bD
    have eE:=bn.all cu id
    have eF:=a8.tr cu
    obtain⟨j9,ka,kb,kd,ke,kf,kg,ki,kj,kn,ko,kp,kq,kr⟩:=RM cv bo bp bq bt bu bv bz aK bA bB bC aY aZ bD
    have ks:=KJ.new cv (LR bn.lt)
    obtain⟨kt,ku,kv,kw,kx,ky,kz,kA,kB,kC,kD,kE,kF,kG⟩:=RM cw bo bp bq bt bu bv bz aK bA bB bC aY aZ bD
    have kH:=KJ.new cw (LR bn.lt)
    obtain⟨kI,kJ,kK,kL,kM,kN,kO,kP,kQ,kR,kS,kT,kU,kV⟩:=RM cy bo bp bq bt bu bv bz aK bA bB bC aY aZ bD
    have kW:=KJ.new cy (LR bn.lt)
    refine KG (.tuple #[.agg #[iv ((LG W H 0).W),iv ((LG W H 0).H),aF,aG,aH],iv (R7 W H)]) rfl rfl (KN rfl rfl rr) (KG (.agg #[iv ((LG W H 0).W),iv ((LG W H 0).H),aF,aG,aH]) rfl rfl (LI rfl rfl rfl rr) (KG (iv (R7 W H)) rfl rfl (LI rfl rfl rfl rr) (LF (n:=5) (vs:=[iv 0,iv 0,.slice none 0 0,.slice none 0 0,.slice none 0 0]) rfl rfl rfl (by kernel_rfl) fun au sn kX cz cA=>?_)))
    have eG:=KP.new eF cz
    obtain⟨eH,eI,eJ,eK,eL,eM,eN,eO,eP,eQ,eR,eS,eT,eU⟩:=RM cz en eo ep er et eu ew ex ey ez eA eB eC eD
    obtain⟨eV,eW,eX,eY⟩:=V2 cz eE eh ei ek
    obtain⟨kY,kZ,k8,la,lc,ld,le,lf,lg,lh,lj,lk,ll,lm⟩:=OW cA en eo ep er et eu ew ex ey ez eA eB eC eD
    obtain⟨ln,eZ,e6,e7⟩:=OS cA eE eh ei ek
    refine Lh (us:=[iv ((LG W H 0).W),iv ((LG W H 0).H),aF,aG,aH]) KZ rfl rfl rfl rfl rfl kX rfl (KX rfl (KX rfl (KX eZ.one (KX e6.one (KX e7.one MC))))) fun e8 e9 ah=>?_
    have lp:=kY.all ah eH.symm
    have lq:=kZ.all ah eI.symm
    have lr:=k8.all ah eJ.symm
    have lu:=la.all ah eK.symm
    have lv:=lc.all ah eL.symm
    have lw:=ld.all ah eM.symm
    have lx:=le.all ah eN.symm
    have fa:=lf.all ah (eO.symm p1 rfl)
    have ly:=lg.all ah (eP.symm ak rfl)
    have lz:=lh.all ah (eQ.symm ap rfl)
    have lA:=lj.all ah (eR.symm aq rfl)
    have lB:=lk.all ah (eS.symm ai rfl)
    have lC:=ll.all ah (eT.symm aj rfl)
    have lD:=lm.all ah eU.symm
    have lE:=ln.all ah (eV.symm ar rfl)
    have fb:=eZ.all ah eW.symm
    have fc:=e6.all ah eX.symm
    have fd:=e7.all ah eY.symm
    refine KG (iv (R7 W H)) rfl rfl (KT rfl rfl rr) (KL ?_)
    have lF:=K4 (pt au 0)
    have fe:=K4 (iv (R7 W H))
    refine KE (KH (KH (KF (KS rfl rfl rfl fe (KG (.bool (decide ((R7 W H)≠0))) rfl rfl (L9 rfl rfl rfl rfl rr) (KL ?_))))))
    have ff:=K4 (.bool (decide ((R7 W H)≠0)))
    refine KE ?_
    refine K5 ff (fun ba=>?_) (fun ba=>?_)
    ·replace ba:=of_decide_eq_true ba
     refine KH ?_
     exfalso;omega
    ·replace ba:=of_decide_eq_false ba
     refine Lf (KE (KH (KH (KF (KG (.agg #[iv W,iv H,iv R,iv B]) rfl rfl (KU Mv rfl aC fa rr) (Lw (R:=fun v_ w_=>∃ (aw:Nat) (az:Nat->Prop),.func (.func 60) #[] #[pt aw 0]=v_/\KM (fun _=>False) e8 w_/\(Wg w_ az aw W H R B/\KP e8 L8 az)) rfl rfl (LE rfl rfl rfl (fun _ _=>by kernel_rfl) (K2 _) (Lj rfl LP) (V5 W H R B  _   ) (fun e_ w_ h_=>by obtain⟨v653_,T656_,he_,hr_⟩:=h_;exact⟨_,he_,v653_,T656_,rfl,hr_⟩)) ?_))))))
     rintro _ so ⟨aw,az,rfl,cB,⟨cC,lG⟩⟩
     obtain⟨lH,lJ,lK,lL,lM,lN,lO,lP,lQ,lR,lS,cD,cE,lT⟩:=OW cB lp lq lr lu lv lw lx fa ly lz lA lB lC lD
     obtain⟨lU,lV,lW,lX,lY⟩:=OR cB lE fb fc fd e9
     have bb:=((eF.tr cA).trans ah (KP.ok (S:=fun _=>False) eG K3)).tr cB
     obtain⟨lZ,l3,l4,fg⟩:=V2 lG fb fc fd e9
     refine RV fun cF cG=>?_
     obtain⟨l5,l6,l7,l8,l9,fh,ma,mb,mc,me,bE,bF,mf,mg,mh,mi,mj,fi,ml,mm⟩:=t20 cG 0 jf 1 jg 2 dt 3 jh 4 ji 92 bm 5 aC 6 aV 8 bY 9 bZ 10 aD 11 aE 12 cr 24 dw 33 dG 13 j1 43 d9 15 lF 14 fe 55 ff
     have fj:cF 59 = .func (.func 60) #[] #[pt aw 0]:=(cG 59).trans rfl
     clear cG
     refine KE (Lk ?_)
     refine We (α:=RU W H) (encs:=fun el=>[iv ((el.m:Nat):Int),.agg #[iv ((el.p:Nat):Int),iv (pX (Li W el.p) el.i),iv (pY (Li W el.p) el.i)]]) (U:=fun i=>i≠aw) (S:=fun xs=>xs=M9 W H 3) (Sp:=fun xs=>xs <+: M9 W H 3) (M:=1000) fj (fun _ _=>by kernel_rfl) (Ze W H R B aw _ hm.1 cC.2) (fun i hi=>Nat.ne_of_gt (Nat.lt_of_lt_of_le cC.2.lt hi)) [60,61] rfl (fun _=>rfl) rfl (fun pre ww=>∃ (ha:Value),∃ (hb:Value),∃ (hc:Value),∃ (aa:Nat->Prop),∃ (ab:Nat->Prop),∃ (ac:Nat->Prop),KM (fun _=>False) w0 ww/\L7 ww T_b v l/\L7 ww T_g0 g0 (g.p0)/\L7 ww T_g1 g1 (g.p1)/\L7 ww T_g2 g2 (g.p2)/\L7 ww T_h0 h0 (h.p0)/\L7 ww T_h1 h1 (h.p1)/\L7 ww T_h2 h2 (h.p2)/\Mu ww p1 23 [iv W,iv H,iv R,iv B]/\Mu ww ak 25 [iv K,iv Q,iv D,iv F]/\Mu ww ap 29 [iv (g.W),iv (g.H),g0,g1,g2]/\Mu ww aq 29 [iv (h.W),iv (h.H),h0,h1,h2]/\Mu ww ai 29 [iv 0,iv 0,.slice none 0 0,.slice none 0 0,.slice none 0 0]/\PH ww aj 33 (iv 0)/\QR Ux ww av ao L/\PH ww ar 32 ao/\Mu ww au 29 [iv ((Mc g h Q W H L pre).W),iv ((Mc g h Q W H L pre).H),ha,hb,hc]/\Wg ww az aw W H R B/\L1 ww aa ha ((Mc g h Q W H L pre).p0)/\L1 ww ab hb ((Mc g h Q W H L pre).p1)/\L1 ww ac hc ((Mc g h Q W H L pre).p2)/\KP w0 L8 aa/\KP w0 L8 ab/\KP w0 L8 ac/\KJ aa T_b/\KJ aa T_g0/\KJ aa T_g1/\KJ aa T_g2/\KJ aa T_h0/\KJ aa T_h1/\KJ aa T_h2/\KJ aa (Le p1)/\KJ aa (Le ak)/\KJ aa (Le ap)/\KJ aa (Le aq)/\KJ aa (Le ai)/\KJ aa (Le aj)/\KJ aa av/\KJ aa (Le ar)/\KJ aa (Le au)/\KJ aa az/\KJ aa ab/\KJ aa ac/\KJ ab T_b/\KJ ab T_g0/\KJ ab T_g1/\KJ ab T_g2/\KJ ab T_h0/\KJ ab T_h1/\KJ ab T_h2/\KJ ab (Le p1)/\KJ ab (Le ak)/\KJ ab (Le ap)/\KJ ab (Le aq)/\KJ ab (Le ai)/\KJ ab (Le aj)/\KJ ab av/\KJ ab (Le ar)/\KJ ab (Le au)/\KJ ab az/\KJ ab ac/\KJ ac T_b/\KJ ac T_g0/\KJ ac T_g1/\KJ ac T_g2/\KJ ac T_h0/\KJ ac T_h1/\KJ ac T_h2/\KJ ac (Le p1)/\KJ ac (Le ak)/\KJ ac (Le ap)/\KJ ac (Le aq)/\KJ ac (Le ai)/\KJ ac (Le aj)/\KJ ac av/\KJ ac (Le ar)/\KJ ac (Le au)/\KJ ac az) (fun pre ww=>KM (fun _=>False) w0 ww/\L7 ww T_b v l/\L7 ww T_g0 g0 (g.p0)/\L7 ww T_g1 g1 (g.p1)/\L7 ww T_g2 g2 (g.p2)/\L7 ww T_h0 h0 (h.p0)/\L7 ww T_h1 h1 (h.p1)/\L7 ww T_h2 h2 (h.p2)/\Mu ww p1 23 [iv W,iv H,iv R,iv B]/\Mu ww ak 25 [iv K,iv Q,iv D,iv F]/\Mu ww ap 29 [iv (g.W),iv (g.H),g0,g1,g2]/\Mu ww aq 29 [iv (h.W),iv (h.H),h0,h1,h2]/\Mu ww ai 29 [iv 0,iv 0,.slice none 0 0,.slice none 0 0,.slice none 0 0]/\PH ww aj 33 (iv 0)/\QR Ux ww av ao L/\PH ww ar 32 ao/\Wg ww az aw W H R B/\False) ?_ ?_ ⟨aF,aG,aH,aL,aM,aN,bb,lH,lJ,lK,lL,lM,lN,lO,lP,lQ,lR,lS,cD,cE,lT,lU,lY,cC,lV,lW,lX,(KP.new a8 cv),(KP.new a8 cw),(KP.new a8 cy),j9,ka,kb,kd,ke,kf,kg,ki,kj,kn,ko,kp,kq,kr,ks,eW.symm,lZ.symm,j6,j7,kt,ku,kv,kw,kx,ky,kz,kA,kB,kC,kD,kE,kF,kG,kH,eX.symm,l3.symm,j8,kI,kJ,kK,kL,kM,kN,kO,kP,kQ,kR,kS,kT,kU,kV,kW,eY.symm,l4.symm⟩ (fun el FF WW=>∃ (pa0_:Nat),FF 0 = .agg #[iv W,iv H,iv R,iv B]/\FF 1 = .agg #[iv K,iv Q,iv D,iv F]/\FF 2=v/\FF 3 = .agg #[iv (g.W),iv (g.H),g0,g1,g2]/\FF 4 = .agg #[iv (h.W),iv (h.H),h0,h1,h2]/\FF 5=pt p1 0/\FF 6=pt ak 0/\FF 8=pt ap 0/\FF 9=pt aq 0/\FF 10=pt ai 0/\FF 11=pt aj 0/\FF 12=iv (QW W H R B K Q D F)/\FF 13=pt ar 0/\FF 14=iv (R7 W H)/\FF 15=pt au 0/\FF 16=iv ((el.m:Nat):Int)/\FF 17=pt pa0_ 0/\FF 24 = .bool (decide ((QW W H R B K Q D F)≠0))/\FF 33 = .bool false/\FF 43 = .bool (decide (((Ov l W H R B K Q D F).2)≠0))/\FF 55 = .bool (decide ((R7 W H)≠0))/\FF 59 = .func (.func 60) #[] #[pt aw 0]/\FF 60=iv ((el.m:Nat):Int)/\FF 61 = .agg #[iv ((el.p:Nat):Int),iv (pX (Li W el.p) el.i),iv (pY (Li W el.p) el.i)]/\FF 92=undef/\Mu WW pa0_ 65 [iv ((el.p:Nat):Int),iv (pX (Li W el.p) el.i),iv (pY (Li W el.p) el.i)]/\KJ (Le pa0_) T_b/\KJ (Le pa0_) T_g0/\KJ (Le pa0_) T_g1/\KJ (Le pa0_) T_g2/\KJ (Le pa0_) T_h0/\KJ (Le pa0_) T_h1/\KJ (Le pa0_) T_h2/\KJ (Le pa0_) (Le p1)/\KJ (Le pa0_) (Le ak)/\KJ (Le pa0_) (Le ap)/\KJ (Le pa0_) (Le aq)/\KJ (Le pa0_) (Le ai)/\KJ (Le pa0_) (Le aj)/\KJ (Le pa0_) av/\KJ (Le pa0_) (Le ar)/\KJ (Le pa0_) (Le au)/\KJ (Le pa0_) az) ?_ ?_ ?_ ?_ ?_
     ·rintro pre A_ B_ row_ ⟨ha,hb,hc,aa,ab,ac,K_,B0_,B1_,B2_,B3_,B4_,B5_,B6_,B7_,B8_,B9_,B10_,B11_,B12_,B13_,B14_,B15_,B16_,B17_,B18_,B19_,g0_,g1_,g2_,a0_,a1_,a2_,a3_,a4_,a5_,a6_,a7_,a8_,a9_,a10_,a11_,a12_,a13_,a14_,a15_,a16_,a17_,a18_,a19_,a20_,a21_,a22_,a23_,a24_,a25_,a26_,a27_,a28_,a29_,a30_,a31_,a32_,a33_,a34_,a35_,a36_,a37_,a38_,a39_,a40_,a41_,a42_,a43_,a44_,a45_,a46_,a47_,a48_,a49_,a50_,a51_,a52_,a53_⟩ hg_ hr_
      exact⟨ha,hb,hc,aa,ab,ac,K_.row hg_ hr_ bb.size,B0_.row hg_ hr_,B1_.row hg_ hr_,B2_.row hg_ hr_,B3_.row hg_ hr_,B4_.row hg_ hr_,B5_.row hg_ hr_,B6_.row hg_ hr_,B7_.row hg_ hr_,B8_.row hg_ hr_,B9_.row hg_ hr_,B10_.row hg_ hr_,B11_.row hg_ hr_,B12_.row hg_ hr_,B13_.row hg_ hr_,B14_.row hg_ hr_,B15_.row hg_ hr_,B16_.row hg_ hr_,B17_.row hg_ hr_,B18_.row hg_ hr_,B19_.row hg_ hr_,g0_,g1_,g2_,a0_,a1_,a2_,a3_,a4_,a5_,a6_,a7_,a8_,a9_,a10_,a11_,a12_,a13_,a14_,a15_,a16_,a17_,a18_,a19_,a20_,a21_,a22_,a23_,a24_,a25_,a26_,a27_,a28_,a29_,a30_,a31_,a32_,a33_,a34_,a35_,a36_,a37_,a38_,a39_,a40_,a41_,a42_,a43_,a44_,a45_,a46_,a47_,a48_,a49_,a50_,a51_,a52_,a53_⟩
     ·rintro pre A_ B_ row_ ⟨K_,B0_,B1_,B2_,B3_,B4_,B5_,B6_,B7_,B8_,B9_,B10_,B11_,B12_,B13_,B14_,B15_,i0_⟩ hg_ hr_
      exact⟨K_.row hg_ hr_ bb.size,B0_.row hg_ hr_,B1_.row hg_ hr_,B2_.row hg_ hr_,B3_.row hg_ hr_,B4_.row hg_ hr_,B5_.row hg_ hr_,B6_.row hg_ hr_,B7_.row hg_ hr_,B8_.row hg_ hr_,B9_.row hg_ hr_,B10_.row hg_ hr_,B11_.row hg_ hr_,B12_.row hg_ hr_,B13_.row hg_ hr_,B14_.row hg_ hr_,B15_.row hg_ hr_,i0_⟩
     ·rintro el FF _ A_ B_ row_ ⟨p0_,s0_,s1_,s2_,s3_,s4_,s5_,s6_,s7_,s8_,s9_,s10_,s11_,s12_,s13_,s14_,s15_,s16_,s17_,s18_,s19_,s20_,s21_,s22_,s23_,s24_,B0_,a0_,a1_,a2_,a3_,a4_,a5_,a6_,a7_,a8_,a9_,a10_,a11_,a12_,a13_,a14_,a15_,a16_⟩ hg_ hr_
      exact⟨p0_,s0_,s1_,s2_,s3_,s4_,s5_,s6_,s7_,s8_,s9_,s10_,s11_,s12_,s13_,s14_,s15_,s16_,s17_,s18_,s19_,s20_,s21_,s22_,s23_,s24_,B0_.row hg_ hr_,a0_,a1_,a2_,a3_,a4_,a5_,a6_,a7_,a8_,a9_,a10_,a11_,a12_,a13_,a14_,a15_,a16_⟩
     ·rintro l_ pre el W_ ⟨ha,hb,hc,aa,ab,ac,mn,fk,fm,fo,fp,fq,ft,fu,fw,fx,fy,fA,fB,fC,fD,fE,fF,fG,fH,fI,fJ,mo,mp,mq,mr,mu,mv,mw,mz,mA,mB,mC,mD,mE,mF,mG,mH,mI,mJ,mK,mL,mM,mN,mO,mP,mQ,mR,mS,mT,mU,mV,mW,mX,mY,mZ,m2,m3,m4,m5,m6,m7,m8,m9,nb,nc,nd,nf,nh,ni,nj,nk,nl,np,nr,nt,nu,nv,nw⟩
      refine KH (KF (KG (iv ((el.m:Nat):Int)) rfl rfl (KT rfl rfl rr) (KL ?_)))
      have nz:=K4 (undef)
      have nA:=K4 (iv ((el.m:Nat):Int))
      have fK:=K4 (.agg #[iv ((el.p:Nat):Int),iv (pX (Li W el.p) el.i),iv (pY (Li W el.p) el.i)])
      have nB:=K4 (iv ((el.m:Nat):Int))
      refine KE (KF (LF (n:=3) (vs:=[iv 0,iv 0,iv 0]) rfl rfl rfl (by kernel_rfl) fun fL sp nC cH cI=>?_))
      obtain⟨fM,fN,fO,fP,fQ,fR,fS,fT,fU,fV,fW,fX,fY,fZ⟩:=RM cH fk fm fo fp fq ft fu fw fx fy fA fB fC fD
      obtain⟨f5,f6,f8,nD,nE,nF⟩:=Vk cH fE fF fG fH fI fJ
      obtain⟨nG,nH,nI,nJ,nK,nL,nM,nN,nO,nP,nQ,nR,nT,nU⟩:=OW cI fk fm fo fp fq ft fu fw fx fy fA fB fC fD
      obtain⟨nV,nW,nX,nY,nZ,n5⟩:=Qt cI fE fF fG fH fI fJ
      refine Lh (us:=[iv ((el.p:Nat):Int),iv (pX (Li W el.p) el.i),iv (pY (Li W el.p) el.i)]) PY rfl rfl rfl rfl fK nC rfl (KX rfl (KX rfl (KX rfl MC))) fun sq n6 ae=>?_
      have n7:=nG.all ae fM.symm
      have n8:=nH.all ae fN.symm
      have n9:=nI.all ae fO.symm
      have oa:=nJ.all ae fP.symm
      have oc:=nK.all ae fQ.symm
      have od:=nL.all ae fR.symm
      have oe:=nM.all ae fS.symm
      have og:=nN.all ae (fT.symm p1 rfl)
      have oh:=nO.all ae (fU.symm ak rfl)
      have oi:=nP.all ae (fV.symm ap rfl)
      have oj:=nQ.all ae (fW.symm aq rfl)
      have ol:=nR.all ae (fX.symm ai rfl)
      have om:=nT.all ae (fY.symm aj rfl)
      have oo:=nU.all ae fZ.symm
      have oq:=nV.all ae (f5.symm ar rfl)
      have ot:=nW.all ae (f6.symm au rfl)
      have ou:=nX.all ae f8.symm
      have ov:=nY.all ae nD.symm
      have ow:=nZ.all ae nE.symm
      have ox:=n5.all ae nF.symm
      have cJ:=((KM.refl (fun _=>False) W_).trans cI (fun _ _ x=>x.elim)).trans ae (KP.ok (S:=fun _=>False) (KP.new (KM.refl (fun _=>False) W_) cH) K3)
      refine KL ?_
      have oy:=K4 (pt fL 0)
      exact⟨OP.keeps OP.no cJ _,cJ.mono (fun _ _ x=>x.elim),⟨ha,hb,hc,aa,ab,ac,mn.trans cJ (fun _ _ x=>x.elim),n7,n8,n9,oa,oc,od,oe,og,oh,oi,oj,ol,om,oo,oq,ot,ou,ov,ow,ox,mo,mp,mq,mr,mu,mv,mw,mz,mA,mB,mC,mD,mE,mF,mG,mH,mI,mJ,mK,mL,mM,mN,mO,mP,mQ,mR,mS,mT,mU,mV,mW,mX,mY,mZ,m2,m3,m4,m5,m6,m7,m8,m9,nb,nc,nd,nf,nh,ni,nj,nk,nl,np,nr,nt,nu,nv,nw⟩,⟨fL,l5,l6,l7,l8,l9,ma,mb,mc,me,bE,bF,mf,mi,ml,fi,nB,oy,mg,mh,mj,mm,fj,nA,fK,nz,n6,fM,fN,fO,fP,fQ,fR,fS,fT,fU,fV,fW,fX,fY,fZ,f5,f6,f8⟩⟩
     ·rintro l_ pre el ss cK ⟨ha,hb,hc,aa,ab,ac,aI,oz,f9,ga,gb,gc,gd,ge,oA,gh,gi,gj,oB,oC,cL,gl,cM,bc,cN,cO,cP,oD,oE,oF,su,sv,sw,sx,sy,sz,sA,sB,sC,sD,sE,sF,sG,sH,sI,sJ,oG,sK,sL,sM,sN,sO,sP,sQ,sR,sS,sT,sU,sV,sW,sX,sY,sZ,ta,tb,oH,tc,td,te,tf,tg,th,ti,tj,tk,tl,tm,tn,tp,tq,tt,tu,tv,oI⟩ ⟨cQ,tw,tx,tz,tA,tB,tC,oJ,oK,oL,tD,tE,tF,oM,tG,gm,oN,gn,tH,tI,tJ,tK,tL,tM,tN,tO,go,tP,tQ,tS,tT,tU,tV,tW,tX,tY,tZ,ua,ub,uc,ud,ue,uf,ug⟩ hlen_
      have oO:=hA.all aI
      have hs2:=hs.all aI
      have hw2:=hw.all aI
      have hei:=el.hi
      have hwp:=Sb (W:=W) (p:=el.p) hsd.1
      have hwl:=Oz (W:=W) (p:=el.p) hsd.2.1
      have hwh:=Oz (W:=H) (p:=el.p) hsd.2.2.2.2.1
      have hwn:Li W el.p*Li H el.p<=16*16:=Nat.mul_le_mul hwl hwh
      have hxy:=aAp (i:=el.i) hwp hwl (by omega)
      have hml:el.m<L.length:=by rw[hlo0];exact aCg el.hp el.hi
      have hfo:=aDu (g:=g) (h:=h) (q:=Q) (L:=L) hm.1.1 hm.1.2.1 pre
      have hcp:=aBH (W:=W) (H:=H) (R:=R) (B:=B) (K:=K) (g:=g) (h:=h) hfo.1 hfo.2.1 hfo.2.2 hn ⟨hhd.1,hhd.2.1⟩ (hmay _ (aBe (d:=chZ) hml)) el.hp el.hi
      have hmd:=aza (q:=Q) hcp
      have hme:=hmd.1.trans (WV ⟨hhd.2.2.1,hhd.2.2.2.1⟩)
      have hdec:aAM g h Q (el.p:Int) (Li W el.p) el.i (L.getD el.m chZ) (Mc g h Q W H L pre)=Qn (Mc g h Q W H L pre) (el.p:Int) (4*pX (Li W el.p) el.i) (4*pY (Li W el.p) el.i) (VT (Mc g h Q W H L pre) g h (el.p:Int) (pX (Li W el.p) el.i) (pY (Li W el.p) el.i) (L.getD el.m chZ) Q):=by rw[hmd.2];rfl
      refine Lk (KH ?_)
      refine QE (γ:=Unit) [(11,10),(12,10),(13,10),(15,10),(16,10),(15,14),(16,14)] [some 63,some 64,some 65,some 66,some 67,some 68,some 69,some 70,some 71,some 72,some 73,some 62,some 74,some 75,some 18,none,some 19] ⟨fun w_=>True,fun _=>False,fun g_ w_=>True,fun g_=>fun _=>False,fun p_ w_=>NI w_ p_ 69 (fun _=>0),fun g_ p_ w_=>NI w_ p_ 69 (VT (Mc g h Q W H L pre) g h ((el.p:Nat):Int) (pX (Li W el.p) el.i) (pY (Li W el.p) el.i) (L.getD (el.m) ⟨0,0,0,0,0,fun _=>0⟩) Q)⟩ (fun _=>False) (fun p_=>cK.heap.size<=p_) [fun g_=>.agg #[iv ((Mc g h Q W H L pre).W),iv ((Mc g h Q W H L pre).H),ha,hb,hc],fun g_=>.agg #[iv (g.W),iv (g.H),g0,g1,g2],fun g_=>.agg #[iv (h.W),iv (h.H),h0,h1,h2],fun g_=>.agg #[iv ((el.p:Nat):Int),iv (pX (Li W el.p) el.i),iv (pY (Li W el.p) el.i)],fun g_=>ao,fun g_=>iv ((el.m:Nat):Int),fun g_=>Ns ao ((el.m)*21),fun g_=>.agg (OZ (L.getD (el.m) ⟨0,0,0,0,0,fun _=>0⟩)).toArray,fun g_=>pt ak 1,fun g_=>iv Q,fun g_=>.tuple #[LH (VT (Mc g h Q W H L pre) g h ((el.p:Nat):Int) (pX (Li W el.p) el.i) (pY (Li W el.p) el.i) (L.getD (el.m) ⟨0,0,0,0,0,fun _=>0⟩) Q),iv (ZF (Mc g h Q W H L pre) g h ((el.p:Nat):Int) (pX (Li W el.p) el.i) (pY (Li W el.p) el.i) (L.getD (el.m) ⟨0,0,0,0,0,fun _=>0⟩) Q)],fun g_=>.tuple #[LH (VT (Mc g h Q W H L pre) g h ((el.p:Nat):Int) (pX (Li W el.p) el.i) (pY (Li W el.p) el.i) (L.getD (el.m) ⟨0,0,0,0,0,fun _=>0⟩) Q),iv (ZF (Mc g h Q W H L pre) g h ((el.p:Nat):Int) (pX (Li W el.p) el.i) (pY (Li W el.p) el.i) (L.getD (el.m) ⟨0,0,0,0,0,fun _=>0⟩) Q)],fun g_=>LH (VT (Mc g h Q W H L pre) g h ((el.p:Nat):Int) (pX (Li W el.p) el.i) (pY (Li W el.p) el.i) (L.getD (el.m) ⟨0,0,0,0,0,fun _=>0⟩) Q),fun g_=>iv (ZF (Mc g h Q W H L pre) g h ((el.p:Nat):Int) (pX (Li W el.p) el.i) (pY (Li W el.p) el.i) (L.getD (el.m) ⟨0,0,0,0,0,fun _=>0⟩) Q),fun _=>undef,fun _=>undef,fun g_=>iv (ZF (Mc g h Q W H L pre) g h ((el.p:Nat):Int) (pX (Li W el.p) el.i) (pY (Li W el.p) el.i) (L.getD (el.m) ⟨0,0,0,0,0,fun _=>0⟩) Q)] 10 15 (some 14) () 0 (by kernel_rfl) (by kernel_rfl) (by kernel_rfl) (by kernel_rfl) ⟨.inr (.inr fun _ _=>rfl),⟨.inr (.inr fun _ _=>rfl),⟨.inr (.inr fun _ _=>rfl),⟨.inr (.inr fun _ _=>rfl),⟨.inr (.inr fun _ _=>rfl),⟨.inr (.inr fun _ _=>rfl),⟨.inr (.inr fun _ _=>rfl),⟨.inr (.inr fun _ _=>rfl),⟨.inr (.inr fun _ _=>rfl),⟨.inr (.inr fun _ _=>rfl),⟨.inr (.inl rfl),⟨.inl rfl,⟨.inl rfl,⟨.inl rfl,⟨.inr (.inr fun _ _=>rfl),⟨.inl rfl,⟨.inl rfl,trivial⟩⟩⟩⟩⟩⟩⟩⟩⟩⟩⟩⟩⟩⟩⟩⟩⟩ ⟨trivial,fun _ _ _ _ _ _=>trivial,fun _ _ _ z=>z.elim,fun _ _ _ _ _ _ _=>trivial,fun _ _ _ _ z=>z.elim,fun _ _ _ _ h k z=>h.all k z,fun _ _ h=>h.lt,fun _ _ _ _ _ h k z=>h.all k z,fun _ z=>z,fun _ h=>.inr h,fun _ _ z=>z⟩ (fun _ _ _ h=>h) (fun e=>by cases e) ?_ ?_
      ·refine KV ?_ ?_
       ·refine Ll.one rfl rfl rfl rfl fun g_ p_ F_ w_ hR hout hD=>?_
        exact(KU KZ rfl ((hout 15 rfl (by decide)).trans gm) (cM.all hR id) ⟨rfl,KM.refl _ _⟩)
       refine KV ?_ ?_
       ·refine Ll.one rfl rfl rfl rfl fun g_ p_ F_ w_ hR hout hD=>?_
        exact(KU KZ rfl ((hout 8 rfl (by decide)).trans oK) (gi.all hR id) ⟨rfl,KM.refl _ _⟩)
       refine KV ?_ ?_
       ·refine Ll.one rfl rfl rfl rfl fun g_ p_ F_ w_ hR hout hD=>?_
        exact(KU KZ rfl ((hout 9 rfl (by decide)).trans oL) (gj.all hR id) ⟨rfl,KM.refl _ _⟩)
       refine KV ?_ ?_
       ·refine Ll.one rfl rfl rfl rfl fun g_ p_ F_ w_ hR hout hD=>?_
        exact(KU PY rfl ((hout 17 rfl (by decide)).trans gn) (go.all hR id) ⟨rfl,KM.refl _ _⟩)
       refine KV ?_ ?_
       ·refine Ll.one rfl rfl rfl rfl fun g_ p_ F_ w_ hR hout hD=>?_
        exact(MB rfl ((hout 13 rfl (by decide)).trans oM) Tryz.underlying32 (gl.all hR id) rfl ⟨rfl,KM.refl _ _⟩)
       refine KV ?_ ?_
       ·refine Ll.one rfl rfl rfl rfl fun g_ p_ F_ w_ hR hout hD=>?_
        exact(KN rfl ((hout 16 rfl (by decide)).trans oN) ⟨rfl,KM.refl _ _⟩)
       refine KV ?_ ?_
       ·refine Ll.one rfl rfl rfl rfl fun g_ p_ F_ w_ hR hout hD=>?_
        have oP:F_ 67=ao:=(hD.get 0 rfl rfl rfl).2 (by decide)
        have oQ:F_ 68=iv ((el.m:Nat):Int):=(hD.get 1 rfl rfl rfl).2 (by decide)
        exact(aCn (r:=Ux) (el.m) rfl oP oQ (by omega) (cL.all hR KJ.none).roa hml ⟨rfl,KM.refl _ _⟩)
       refine KV ?_ ?_
       ·refine Ll.one rfl rfl rfl rfl fun g_ p_ F_ w_ hR hout hD=>?_
        have oR:F_ 69=Ns ao ((el.m)*21):=(hD.get 0 rfl rfl rfl).2 (by decide)
        exact(aA0 (r:=Ux) (n:=21) (el.m) 0 LD rfl oR (cL.all hR KJ.none).roa hml (by decide) rfl ⟨rfl,KM.refl _ _⟩)
       refine KV ?_ ?_
       ·refine Ll.one rfl rfl rfl rfl fun g_ p_ F_ w_ hR hout hD=>?_
        exact(KQ (n:=1) rfl ((hout 6 rfl (by decide)).trans oJ) Tryz.underlying25 rfl (by kernel_rfl) (by decide) rfl ⟨rfl,KM.refl _ _⟩)
       refine KV ?_ ?_
       ·refine Ll.one rfl rfl rfl rfl fun g_ p_ F_ w_ hR hout hD=>?_
        have oS:F_ 71=pt ak 1:=(hD.get 0 rfl rfl rfl).2 (by decide)
        exact(KR rfl oS Tryz.underlying3 (gh.all hR id) rfl rfl ⟨rfl,KM.refl _ _⟩)
       refine KV ?_ ?_
       ·refine Ll.call rfl rfl rfl rfl fun g_ p_ F_ w_ hR hout hD hP_=>?_
        have oT:F_ 63 = .agg #[iv ((Mc g h Q W H L pre).W),iv ((Mc g h Q W H L pre).H),ha,hb,hc]:=(hD.get 0 rfl rfl rfl).2 (by decide)
        have oU:F_ 64 = .agg #[iv (g.W),iv (g.H),g0,g1,g2]:=(hD.get 1 rfl rfl rfl).2 (by decide)
        have oV:F_ 65 = .agg #[iv (h.W),iv (h.H),h0,h1,h2]:=(hD.get 2 rfl rfl rfl).2 (by decide)
        have oW:F_ 66 = .agg #[iv ((el.p:Nat):Int),iv (pX (Li W el.p) el.i),iv (pY (Li W el.p) el.i)]:=(hD.get 3 rfl rfl rfl).2 (by decide)
        have oX:F_ 70 = .agg (OZ (L.getD (el.m) ⟨0,0,0,0,0,fun _=>0⟩)).toArray:=(hD.get 4 rfl rfl rfl).2 (by decide)
        have oY:F_ 72=iv Q:=(hD.get 5 rfl rfl rfl).2 (by decide)
        exact(LE rfl rfl rfl (fun _ _=>by kernel_rfl) (K2 _) (Lj oT (Lj oU (Lj oV (Lj oW (Lj oX (Lj oY LP)))))) (aBz ((el.p:Nat):Int) (pX (Li W el.p) el.i) (pY (Li W el.p) el.i) Q (L.getD (el.m) ⟨0,0,0,0,0,fun _=>0⟩) (Mc g h Q W H L pre) ha hb hc g g0 g1 g2 h h0 h1 h2 aa ab ac T_g0 T_g1 T_g2 T_h0 T_h1 T_h2 _ (oO.all hR) (hs2.all hR) (hw2.all hR) ⟨hxy.1,hxy.2.1⟩ ⟨hxy.2.2.1,hxy.2.2.2⟩ (cN.all hR KJ.none).byt (cO.all hR KJ.none).byt (cP.all hR KJ.none).byt (f9.all hR KJ.none) (ga.all hR KJ.none) (gb.all hR KJ.none) (gc.all hR KJ.none) (gd.all hR KJ.none) (ge.all hR KJ.none) ) (fun e_ w_ h_=>⟨_,h_.1,(),rfl,h_.2,trivial,fun b hb=>hb.elim⟩))
       refine KV ?_ ?_
       ·refine Ll.one rfl rfl rfl rfl fun g_ p_ F_ w_ hR hout hD=>?_
        have oZ:F_ 73 = .tuple #[LH (VT (Mc g h Q W H L pre) g h ((el.p:Nat):Int) (pX (Li W el.p) el.i) (pY (Li W el.p) el.i) (L.getD (el.m) ⟨0,0,0,0,0,fun _=>0⟩) Q),iv (ZF (Mc g h Q W H L pre) g h ((el.p:Nat):Int) (pX (Li W el.p) el.i) (pY (Li W el.p) el.i) (L.getD (el.m) ⟨0,0,0,0,0,fun _=>0⟩) Q)]:=(hD.get 0 rfl rfl rfl).2 (by decide)
        exact(KN rfl oZ ⟨rfl,KM.refl _ _⟩)
       refine KV ?_ ?_
       ·refine Ll.one rfl rfl rfl rfl fun g_ p_ F_ w_ hR hout hD=>?_
        have cR:F_ 62 = .tuple #[LH (VT (Mc g h Q W H L pre) g h ((el.p:Nat):Int) (pX (Li W el.p) el.i) (pY (Li W el.p) el.i) (L.getD (el.m) ⟨0,0,0,0,0,fun _=>0⟩) Q),iv (ZF (Mc g h Q W H L pre) g h ((el.p:Nat):Int) (pX (Li W el.p) el.i) (pY (Li W el.p) el.i) (L.getD (el.m) ⟨0,0,0,0,0,fun _=>0⟩) Q)]:=(hD.get 0 rfl rfl rfl).2 (by decide)
        exact(LI rfl cR rfl ⟨rfl,KM.refl _ _⟩)
       refine KV ?_ ?_
       ·refine Ll.one rfl rfl rfl rfl fun g_ p_ F_ w_ hR hout hD=>?_
        have cR:F_ 62 = .tuple #[LH (VT (Mc g h Q W H L pre) g h ((el.p:Nat):Int) (pX (Li W el.p) el.i) (pY (Li W el.p) el.i) (L.getD (el.m) ⟨0,0,0,0,0,fun _=>0⟩) Q),iv (ZF (Mc g h Q W H L pre) g h ((el.p:Nat):Int) (pX (Li W el.p) el.i) (pY (Li W el.p) el.i) (L.getD (el.m) ⟨0,0,0,0,0,fun _=>0⟩) Q)]:=(hD.get 0 rfl rfl rfl).2 (by decide)
        exact(LI rfl cR rfl ⟨rfl,KM.refl _ _⟩)
       refine KV ?_ ?_
       ·refine Ll.alloc rfl rfl rfl rfl fun F_ w_ hR=>?_
        exact WB rfl KW.2.2 ⟨_,rfl,Nat.le_refl _,NI.new _ _ _,(KM.refl _ _).alloc _⟩
       refine KV ?_ ?_
       ·refine Ll.store rfl rfl rfl rfl fun g_ p_ F_ w_ hR hout hD hO_ hZ_ hQ_=>?_
        have o2:F_ 18=pt p_ 0:=(hD.get 0 rfl rfl rfl).1 rfl
        have dh:F_ 74=LH (VT (Mc g h Q W H L pre) g h ((el.p:Nat):Int) (pX (Li W el.p) el.i) (pY (Li W el.p) el.i) (L.getD (el.m) ⟨0,0,0,0,0,fun _=>0⟩) Q):=(hD.get 1 rfl rfl rfl).2 (by decide)
        exact Y2 KW.2.1 rfl o2 dh hZ_ fun w2_ b_ k_=>⟨rfl,k_,b_⟩
       refine KV ?_ ?_
       ·refine Ll.one rfl rfl rfl rfl fun g_ p_ F_ w_ hR hout hD=>?_
        have o3:F_ 75=iv (ZF (Mc g h Q W H L pre) g h ((el.p:Nat):Int) (pX (Li W el.p) el.i) (pY (Li W el.p) el.i) (L.getD (el.m) ⟨0,0,0,0,0,fun _=>0⟩) Q):=(hD.get 0 rfl rfl rfl).2 (by decide)
        exact(KT rfl o3 ⟨rfl,KM.refl _ _⟩)
       exact Nl
      intro uh gp ui gq bd cS uj uk o4 cT o5 gr gt bG
      obtain⟨bH,bI,bJ,bK,bL,bM,bN,bO,bP,bQ,bR,bS,bT,bU⟩:=OW cS oz f9 ga gb gc gd ge oA gh gi gj oB oC cL
      obtain⟨bV,be,bW,o6,o7,o8,cU⟩:=Sl cS gl cM bc cN cO cP go
      have bX:=(KM.refl (fun i=>(Le au) i\/(aa i\/(ab i\/(ac i)))) cK).tr cS
      replace cT:NI bd gp 69 (VT (Mc g h Q W H L pre) g h ((el.p:Nat):Int) (pX (Li W el.p) el.i) (pY (Li W el.p) el.i) (L.getD (el.m) ⟨0,0,0,0,0,fun _=>0⟩) Q):=cT
      obtain⟨gu,cV⟩:=t2 bG 15 gm 17 gn
      have o9:gq 18=pt gp 0:=(bG 18).trans (gr 14 rfl)
      have pa:gq 19=iv (ZF (Mc g h Q W H L pre) g h ((el.p:Nat):Int) (pX (Li W el.p) el.i) (pY (Li W el.p) el.i) (L.getD (el.m) ⟨0,0,0,0,0,fun _=>0⟩) Q):=(bG 19).trans (gt 16 (by decide) (by decide))
      clear bG gt gr o5 o4
      refine KE (KH (KH (KF (KS rfl rfl rfl pa (KG (.bool (decide ((ZF (Mc g h Q W H L pre) g h ((el.p:Nat):Int) (pX (Li W el.p) el.i) (pY (Li W el.p) el.i) (L.getD (el.m) ⟨0,0,0,0,0,fun _=>0⟩) Q)≠0))) rfl rfl (L9 rfl rfl rfl rfl rr) (KL ?_))))))
      have pb:=K4 (.bool (decide ((ZF (Mc g h Q W H L pre) g h ((el.p:Nat):Int) (pX (Li W el.p) el.i) (pY (Li W el.p) el.i) (L.getD (el.m) ⟨0,0,0,0,0,fun _=>0⟩) Q)≠0)))
      refine KE ?_
      refine K5 pb (fun bf=>?_) (fun bf=>?_)
      ·replace bf:=of_decide_eq_true bf
       refine KH ?_
       exact absurd hme (by assumption)
      ·replace bf:=of_decide_eq_false bf
       refine Lf (KE (KF (KG (.agg #[iv ((Mc g h Q W H L pre).W),iv ((Mc g h Q W H L pre).H),ha,hb,hc]) rfl rfl (KU KZ rfl gu be rr) (KG (pt cQ 0) rfl rfl (KQ (n:=1) rfl cV Tryz.underlying65 rfl (by kernel_rfl) (by decide) rfl rr) (KG (iv ((el.p:Nat):Int)) rfl rfl (KR rfl rfl Tryz.underlying3 cU rfl rfl rr) (KG (pt cQ 1) rfl rfl (KQ (n:=1) rfl cV Tryz.underlying65 rfl (by kernel_rfl) (by decide) rfl rr) (KG (iv (pX (Li W el.p) el.i)) rfl rfl (KR rfl rfl Tryz.underlying3 cU rfl rfl rr) (KG (iv (4*pX (Li W el.p) el.i)) rfl rfl (ND rfl rfl rfl (Ma rfl (by omega)) rr) (KG (pt cQ 2) rfl rfl (KQ (n:=1) rfl cV Tryz.underlying65 rfl (by kernel_rfl) (by decide) rfl rr) (KG (iv (pY (Li W el.p) el.i)) rfl rfl (KR rfl rfl Tryz.underlying3 cU rfl rfl rr) (KG (iv (4*pY (Li W el.p) el.i)) rfl rfl (ND rfl rfl rfl (Ma rfl (by omega)) rr) ?_)))))))))))
       refine KG (LH (VT (Mc g h Q W H L pre) g h ((el.p:Nat):Int) (pX (Li W el.p) el.i) (pY (Li W el.p) el.i) (L.getD (el.m) ⟨0,0,0,0,0,fun _=>0⟩) Q)) rfl rfl (LX KW rfl o9 cT rr) (Lw (R:=fun v_ w_=>∃ (bg:Value) (aO:Nat->Prop) (bh:Value) (aP:Nat->Prop) (bi:Value) (aQ:Nat->Prop),.agg #[iv ((Qn (Mc g h Q W H L pre) ((el.p:Nat):Int) (4*pX (Li W el.p) el.i) (4*pY (Li W el.p) el.i) (VT (Mc g h Q W H L pre) g h ((el.p:Nat):Int) (pX (Li W el.p) el.i) (pY (Li W el.p) el.i) (L.getD (el.m) ⟨0,0,0,0,0,fun _=>0⟩) Q)).W),iv ((Qn (Mc g h Q W H L pre) ((el.p:Nat):Int) (4*pX (Li W el.p) el.i) (4*pY (Li W el.p) el.i) (VT (Mc g h Q W H L pre) g h ((el.p:Nat):Int) (pX (Li W el.p) el.i) (pY (Li W el.p) el.i) (L.getD (el.m) ⟨0,0,0,0,0,fun _=>0⟩) Q)).H),bg,bh,bi]=v_/\KM (fun _=>False) bd w_/\(L1 w_ aO bg ((Qn (Mc g h Q W H L pre) ((el.p:Nat):Int) (4*pX (Li W el.p) el.i) (4*pY (Li W el.p) el.i) (VT (Mc g h Q W H L pre) g h ((el.p:Nat):Int) (pX (Li W el.p) el.i) (pY (Li W el.p) el.i) (L.getD (el.m) ⟨0,0,0,0,0,fun _=>0⟩) Q)).p0)/\KP bd L8 aO)/\(L1 w_ aP bh ((Qn (Mc g h Q W H L pre) ((el.p:Nat):Int) (4*pX (Li W el.p) el.i) (4*pY (Li W el.p) el.i) (VT (Mc g h Q W H L pre) g h ((el.p:Nat):Int) (pX (Li W el.p) el.i) (pY (Li W el.p) el.i) (L.getD (el.m) ⟨0,0,0,0,0,fun _=>0⟩) Q)).p1)/\KP bd L8 aP)/\(L1 w_ aQ bi ((Qn (Mc g h Q W H L pre) ((el.p:Nat):Int) (4*pX (Li W el.p) el.i) (4*pY (Li W el.p) el.i) (VT (Mc g h Q W H L pre) g h ((el.p:Nat):Int) (pX (Li W el.p) el.i) (pY (Li W el.p) el.i) (L.getD (el.m) ⟨0,0,0,0,0,fun _=>0⟩) Q)).p2)/\KP bd L8 aQ)/\KJ aO aP/\KJ aO aQ/\KJ aP aQ) rfl rfl (LE rfl rfl rfl (fun _ _=>by kernel_rfl) (K2 _) (Lj rfl (Lj rfl (Lj rfl (Lj rfl (Lj rfl LP))))) (aB7 ((el.p:Nat):Int) (4*pX (Li W el.p) el.i) (4*pY (Li W el.p) el.i) (VT (Mc g h Q W H L pre) g h ((el.p:Nat):Int) (pX (Li W el.p) el.i) (pY (Li W el.p) el.i) (L.getD (el.m) ⟨0,0,0,0,0,fun _=>0⟩) Q) (Mc g h Q W H L pre) ha hb hc aa ab ac _  o6.byt o7.byt o8.byt ) (fun e_ w_ h_=>by obtain⟨v1172_,T1177_,v1173_,T1178_,v1174_,T1179_,he_,hr_⟩:=h_;exact⟨_,he_,v1172_,T1177_,v1173_,T1178_,v1174_,T1179_,rfl,hr_⟩)) ?_)
       rintro _ um ⟨bg,aO,bh,aP,bi,aQ,rfl,cW,⟨gv,cX⟩,⟨gw,cY⟩,⟨gz,cZ⟩,pc,pd,pe⟩
       obtain⟨pf,pg,pi,pj,pk,pm,po,pp,pq,pu,pz,pA,pB,pC⟩:=OW cW bH bI bJ bK bL bM bN bO bP bQ bR bS bT bU
       obtain⟨pD,pE,pF⟩:=Nx cW bV be bW
       obtain⟨pG,pH,pI,pJ,pK,pL,pM,pN,pO,pP,pQ,pR,pS,pT⟩:=RM cX bH bI bJ bK bL bM bN bO bP bQ bR bS bT bU
       obtain⟨pU,gA,pV⟩:=SW cX bV be bW
       obtain⟨pW,pZ,qa,qb,qc,qd,qe,qf,qg,qh,qi,qj,qk,ql⟩:=RM cY bH bI bJ bK bL bM bN bO bP bQ bR bS bT bU
       obtain⟨qm,gB,qn⟩:=SW cY bV be bW
       obtain⟨qo,qp,qq,qr,qs,qt,qu,qv,qw,qx,qy,qz,qA,qB⟩:=RM cZ bH bI bJ bK bL bM bN bO bP bQ bR bS bT bU
       obtain⟨qC,gC,qD⟩:=SW cZ bV be bW
       refine Lh (us:=[iv ((Qn (Mc g h Q W H L pre) ((el.p:Nat):Int) (4*pX (Li W el.p) el.i) (4*pY (Li W el.p) el.i) (VT (Mc g h Q W H L pre) g h ((el.p:Nat):Int) (pX (Li W el.p) el.i) (pY (Li W el.p) el.i) (L.getD (el.m) ⟨0,0,0,0,0,fun _=>0⟩) Q)).W),iv ((Qn (Mc g h Q W H L pre) ((el.p:Nat):Int) (4*pX (Li W el.p) el.i) (4*pY (Li W el.p) el.i) (VT (Mc g h Q W H L pre) g h ((el.p:Nat):Int) (pX (Li W el.p) el.i) (pY (Li W el.p) el.i) (L.getD (el.m) ⟨0,0,0,0,0,fun _=>0⟩) Q)).H),bg,bh,bi]) KZ rfl rfl rfl gu rfl pE rfl (KX rfl (KX rfl (KX gv.one (KX gw.one (KX gz.one MC))))) fun un qE af=>?_
       have qF:=pf.all af eH.symm
       have qG:=pg.all af eI.symm
       have qH:=pi.all af eJ.symm
       have qI:=pj.all af eK.symm
       have qJ:=pk.all af eL.symm
       have qK:=pm.all af eM.symm
       have qL:=po.all af eN.symm
       have qM:=pp.all af (eO.symm p1 rfl)
       have qN:=pq.all af (eP.symm ak rfl)
       have qO:=pu.all af (eQ.symm ap rfl)
       have qP:=pz.all af (eR.symm aq rfl)
       have qQ:=pA.all af (eS.symm ai rfl)
       have qR:=pB.all af (eT.symm aj rfl)
       have qS:=pC.all af eU.symm
       have qT:=pD.all af (eV.symm ar rfl)
       have qU:=pF.all af fg
       have qV:=gv.all af gA
       have qW:=gw.all af gB
       have qX:=gz.all af gC
       have c5:=(bX.tr cW).trans af (KP.ok (S:=fun i=>(Le au) i\/(aa i\/(ab i\/(ac i)))) (KP.refl cK (Le au)) (fun _ x=>Or.inl x))
       refine KL ?_
       refine LA ?_
       exact⟨LM.keeps (LM.or cM.cells.cb (LM.or cN.cells.cb (LM.or cO.cells.cb cP.cells.cb))) c5,c5.mono (fun i hi x=>(x.elim (fun y=>fun e=>fg.symm i y (by rw[bc.1];exact e)) (fun y=>(y.elim (fun y=>fun e=>oG i y (by rw[bc.1];exact e)) (fun y=>(y.elim (fun y=>fun e=>oH i y (by rw[bc.1];exact e)) (fun y=>(fun e=>oI i y (by rw[bc.1];exact e))))))))),⟨bg,bh,bi,aO,aP,aQ,aI.trans c5 (fun i hi x=>(x.elim (fun y=>((KP.ok (S:=fun _=>False) eG K3) i hi y)) (fun y=>(y.elim (fun y=>((KP.ok (S:=fun _=>False) oD K3) i hi y)) (fun y=>(y.elim (fun y=>((KP.ok (S:=fun _=>False) oE K3) i hi y)) (fun y=>((KP.ok (S:=fun _=>False) oF K3) i hi y)))))))),qF,qG,qH,qI,qJ,qK,qL,qM,qN,qO,qP,qQ,qR,qS,qT,(by rw[UD,hdec];exact qE),qU,(by rw[UD,hdec];exact qV),(by rw[UD,hdec];exact qW),(by rw[UD,hdec];exact qX),((KP.new aI (KP.new bX cX)).weak K3),((KP.new aI (KP.new bX cY)).weak K3),((KP.new aI (KP.new bX cZ)).weak K3),pG,pH,pI,pJ,pK,pL,pM,pN,pO,pP,pQ,pR,pS,pT,pU,gA,pV,pc,pd,pW,pZ,qa,qb,qc,qd,qe,qf,qg,qh,qi,qj,qk,ql,qm,gB,qn,pe,qo,qp,qq,qr,qs,qt,qu,qv,qw,qx,qy,qz,qA,qB,qC,gC,qD⟩⟩
     ·rintro aA xs_ qY c6 hS_ ⟨ha,hb,hc,aa,ab,ac,qZ,uo,uq,ur,ut,uu,uv,uw,ux,uy,uz,uA,q5,q6,uB,uC,q7,uD,c7,c9,da,q8,q9,ra,uE,uF,uG,uH,uI,uJ,uK,uL,uM,uN,uO,rb,rc,uP,uQ,uR,uS,re,rf,uT,uU,uV,uW,uX,uY,uZ,u0,u5,u6,u7,rg,rh,u9,va,vb,vc,ri,vd,ve,vf,vg,vh,vi,vj,vk,vl,vm,vn,rj,rk,vo,vp,vq,vr⟩ aR
      subst hS_
      have aR:UH qY aA:=aR
      have rl:KP w0 L8 (Le aA):=LS (Nat.le_trans bb.size c6)
      have gD:=UH.far c6 (LR cD.lt)
      have gE:=UH.far c6 (LR cE.lt)
      have rm:=UH.apart aR c7.cells
      have rn:=UH.apart aR c9.cells
      have rp:=UH.apart aR da.cells
      have rq:Oi (aA::Oa (cF 92))=Oi [aA]:=congrArg (fun z=>Oi (aA::Oa z)) fh
      refine LA (KE (KH (KF (KG (.agg #[iv ((Mc g h Q W H L (M9 W H 3)).W),iv ((Mc g h Q W H L (M9 W H 3)).H),ha,hb,hc]) rfl rfl (KU KZ rfl fi q7 rr) (Lh (us:=[iv ((Mc g h Q W H L (M9 W H 3)).W),iv ((Mc g h Q W H L (M9 W H 3)).H),ha,hb,hc]) KZ rfl rfl rfl bE rfl q5 rfl (KX rfl (KX rfl (KX c7.one (KX c9.one (KX da.one MC))))) fun vt rt aS=>?_)))))
      have ru:=q6.all aS (aB aj rfl)
      have rv:=c7.all aS rb
      have rx:=c9.all aS rg
      have ry:=da.all aS rj
      have rz:=aR.all aS (gD aA rfl)
      refine L3 rfl rfl rfl bF rfl ru (by rfl) (by kernel_rfl) fun rA rB aT=>?_
      have rC:=rt.all aT (aB.symm ai rfl)
      have rD:=rv.all aT rc
      have rE:=rx.all aT rh
      have rF:=ry.all aT rk
      have rG:=rz.all aT (gE aA rfl)
      refine KL ?_
      refine KE (La ?_)
      have aU:=Q3 rA aA
      have rH:=rC.all aU (gD.symm ai rfl)
      have rI:=rB.all aU (gE.symm aj rfl)
      have gF:=rD.all aU rm.symm
      have gG:=rE.all aU rn.symm
      have gH:=rF.all aU rp.symm
      exact Rk (ms:=[aA]) rq rG.opens rfl (MJ (vs:=[iv ((Mc g h Q W H L (M9 W H 3)).W),iv ((Mc g h Q W H L (M9 W H 3)).H),ha,hb,hc]) KZ rfl bE rH) (Oo Tryz.underlying33 rfl rfl bF rI) ⟨ha,aa,hb,ab,hc,ac,(by first|exact hfalse.elim|(rw[hE,hFr,NS hmn];rfl)|rw[hE,hFr,NS hmn]|(rw[hE,hFr,← Nf 3 (Nat.le_refl 3)];rfl)|rw[hE,hFr,← Nf 3 (Nat.le_refl 3)]|(rw[hE,hFr];rfl)|rw[hE,hFr]),(((qZ.trans aS (KP.ok (S:=fun _=>False) bj K3)).trans aT (KP.ok (S:=fun _=>False) bl K3)).trans aU (KP.ok (S:=fun _=>False) rl K3)),⟨(by first|exact hfalse.elim|(rw[hFr,← Nf 3 (Nat.le_refl 3)];exact gF)|(rw[hFr];exact gF)),q8⟩,⟨(by first|exact hfalse.elim|(rw[hFr,← Nf 3 (Nat.le_refl 3)];exact gG)|(rw[hFr];exact gG)),q9⟩,⟨(by first|exact hfalse.elim|(rw[hFr,← Nf 3 (Nat.le_refl 3)];exact gH)|(rw[hFr];exact gH)),ra⟩,re,rf,ri⟩
     ·rintro aJ pre gI db hpf ⟨rJ,vu,vv,vw,vx,vy,vz,vA,vB,vC,vD,vE,rK,rL,vF,vG,vH,hfalse⟩ dc
      have dc:UH gI aJ:=dc
      have rM:KP w0 L8 (Le aJ):=LS (Nat.le_trans bb.size db)
      have rN:=UH.far db (LR cD.lt)
      have rO:=UH.far db (LR cE.lt)
      have rP:Oi (aJ::Oa (cF 92))=Oi [aJ]:=congrArg (fun z=>Oi (aJ::Oa z)) fh
      refine NT (Ln ?_)
      have dd:=Q3 gI aJ
      have rQ:=rK.all dd (rN.symm ai rfl)
      have rR:=rL.all dd (rO.symm aj rfl)
      exact Rk (ms:=[aJ]) rP dc.opens rfl (MJ (vs:=[iv 0,iv 0,.slice none 0 0,.slice none 0 0,.slice none 0 0]) KZ rfl bE rQ) (Oo Tryz.underlying33 rfl rfl bF rR) ⟨(.slice none 0 0),L8,(.slice none 0 0),L8,(.slice none 0 0),L8,(by first|exact hfalse.elim|(rw[hE,hFr,NS hmn];rfl)|rw[hE,hFr,NS hmn]|(rw[hE,hFr,← Nf 3 (Nat.le_refl 3)];rfl)|rw[hE,hFr,← Nf 3 (Nat.le_refl 3)]|(rw[hE,hFr];rfl)|rw[hE,hFr]),(rJ.trans dd (KP.ok (S:=fun _=>False) rM K3)),⟨(by first|exact hfalse.elim|(rw[hFr,← Nf 3 (Nat.le_refl 3)];exact(L1.nil _))|(rw[hFr];exact(L1.nil _))),(KP.refl _ _)⟩,⟨(by first|exact hfalse.elim|(rw[hFr,← Nf 3 (Nat.le_refl 3)];exact(L1.nil _))|(rw[hFr];exact(L1.nil _))),(KP.refl _ _)⟩,⟨(by first|exact hfalse.elim|(rw[hFr,← Nf 3 (Nat.le_refl 3)];exact(L1.nil _))|(rw[hFr];exact(L1.nil _))),(KP.refl _ _)⟩,KJ.none,KJ.none,KJ.none⟩
  ·skip
   refine KF (KG (.agg #[iv W,iv H,iv R,iv B]) rfl rfl (KU Mv rfl aC cg rr) (KG (pt ak 0) rfl rfl (KQ (n:=1) rfl aV Tryz.underlying25 rfl (by kernel_rfl) (by decide) rfl rr) (KG (iv K) rfl rfl (KR rfl rfl Tryz.underlying3 ci rfl rfl rr) (KG (.agg #[iv (g.W),iv (g.H),g0,g1,g2]) rfl rfl (KU KZ rfl bY cj rr) (KG (.agg #[iv (h.W),iv (h.H),h0,h1,h2]) rfl rfl (KU KZ rfl bZ cm rr) (Lw (R:=fun v_ w_=>v_ = .bool false/\KM (fun _=>False) du w_) rfl rfl (LE rfl rfl rfl (fun _ _=>by kernel_rfl) (K2 _) (Lj rfl (Lj rfl (Lj rfl (Lj rfl LP)))) (aAu W H R B K g g0 g1 g2 h h0 h1 h2 T_g0 T_g1 T_g2 T_h0 T_h1 T_h2 _  b7 b8 b9 cd ce cf ) (fun e_ w_ h_=>⟨_,h_.1,(congrArg Value.bool (decide_eq_false dA)),h_.2⟩)) ?_))))))
   rintro _ vJ ⟨rfl,gJ⟩
   obtain⟨rS,rT⟩:=NL gJ cn co
   refine KG (.bool true) rfl rfl (LT rfl rfl rfl rr) (KL ?_)
   have rU:=K4 (.bool true)
   refine KE ?_
   refine K5 (t:=true) rU (fun _=>?_) (fun e=>by cases e)
   refine KH ?_
   have hE:=S3 (l:=l) (g:=g) (h:=h) hm (by first|assumption|(apply Decidable.byContradiction;assumption))
   have hFr:=UB (l:=l) (W:=W) (H:=H) (R:=R) (B:=B) (K:=K) (Q:=Q) (D:=D) (F:=F) (g:=g) (h:=h) (by rw[hE];decide)
   refine KF (KG (.agg #[iv 0,iv 0,.slice none 0 0,.slice none 0 0,.slice none 0 0]) rfl rfl (LW (l':=[]) (cells:=#[iv 0,iv 0,.slice none 0 0,.slice none 0 0,.slice none 0 0]) rfl QZ (by kernel_rfl) rfl rr) (Lh (us:=[iv 0,iv 0,.slice none 0 0,.slice none 0 0,.slice none 0 0]) KZ rfl rfl rfl aD rfl rS rfl (KX rfl (KX rfl (KX rfl (KX rfl (KX rfl MC))))) fun vK rV gK=>?_))
   have rW:=rT.all gK (aB aj rfl)
   refine L3 rfl rfl rfl aE rfl rW (by rfl) (by kernel_rfl) fun vL rX gL=>?_
   have rY:=rV.all gL (aB.symm ai rfl)
   refine KL ?_
   refine KE (La (Ln ?_))
   exact Rk (ms:=[]) (Eq.trans bm (rfl:undef=Oi [])) trivial rfl (MJ (vs:=[iv 0,iv 0,.slice none 0 0,.slice none 0 0,.slice none 0 0]) KZ rfl aD rY) (Oo Tryz.underlying33 rfl rfl aE rX) ⟨(.slice none 0 0),L8,(.slice none 0 0),L8,(.slice none 0 0),L8,(by first|exact hfalse.elim|(rw[hE,hFr,NS hmn];rfl)|rw[hE,hFr,NS hmn]|(rw[hE,hFr,← Nf 3 (Nat.le_refl 3)];rfl)|rw[hE,hFr,← Nf 3 (Nat.le_refl 3)]|(rw[hE,hFr];rfl)|rw[hE,hFr]),(((cq.tr gJ).trans gK (KP.ok (S:=fun _=>False) bj K3)).trans gL (KP.ok (S:=fun _=>False) bl K3)),⟨(by first|exact hfalse.elim|(rw[hFr,← Nf 3 (Nat.le_refl 3)];exact(L1.nil _))|(rw[hFr];exact(L1.nil _))),(KP.refl _ _)⟩,⟨(by first|exact hfalse.elim|(rw[hFr,← Nf 3 (Nat.le_refl 3)];exact(L1.nil _))|(rw[hFr];exact(L1.nil _))),(KP.refl _ _)⟩,⟨(by first|exact hfalse.elim|(rw[hFr,← Nf 3 (Nat.le_refl 3)];exact(L1.nil _))|(rw[hFr];exact(L1.nil _))),(KP.refl _ _)⟩,KJ.none,KJ.none,KJ.none⟩
end Go.Proofs.YtknjpdcpmpfklaaGreatDoor
set_option maxRecDepth 100000
namespace Go.Proofs.YtknjpdcpmpfklaaGreatDoor
open Go.RowKit
theorem aAx(n:Nat)(w0:World)(hn:n<1099511627776):Calls Tryz.prog 23 #[.int .i64 (n:Int)] w0 fun e w'=>e = .returned (.string (NF (PV n)))/\KM (fun _=>False) w0 w' :=
 (aBG n w0 hn).mono fun _ _ ⟨e,hw⟩=>by subst hw;exact⟨e,KM.refl _ _⟩
theorem Qa(w0:World) :
  Calls Tryz.prog 24 #[] w0 fun e w'=>e = .returned (.agg #[.int .i64 (8),.int .i64 (8),.int .i64 (100),.int .i64 (1000)])/\KM (fun _=>False) w0 w':=by
 refine Lp (args:=[]) 2 Tryz.func24 rfl rfl (Nat.le_of_ble_eq_true rfl) ?_
 have K0:=KM.refl (fun _=>False) w0
 refine KH (KF (LF (n:=4) (vs:=[iv 0,iv 0,iv 0,iv 0]) rfl rfl rfl (by kernel_rfl) fun p1 w2 B4 g5 k3=>?_))
 refine KL ?_
 have ai:=K4 (undef)
 have ab:=K4 (pt p1 0)
 refine KE (KH (KF (KG (.agg #[iv 8,iv 8,iv 100,iv 1000]) rfl rfl (LW (l':=[(0,iv 8),(1,iv 8),(2,iv 100),(3,iv 1000)]) (cells:=#[iv 8,iv 8,iv 100,iv 1000]) rfl (ST rfl (ST rfl (ST rfl (ST rfl QZ)))) (by kernel_rfl) rfl rr) (Lh (us:=[iv 8,iv 8,iv 100,iv 1000]) Mv rfl rfl rfl ab rfl B4 rfl (KX rfl (KX rfl (KX rfl (KX rfl MC)))) fun an aj ak=>?_))))
 refine KL ?_
 refine KE (La ?_)
 exact O2 (vs:=[iv 8,iv 8,iv 100,iv 1000]) Mv ai rfl rfl ab aj ⟨rfl,((K0.tr k3).trans ak (KP.ok (S:=fun _=>False) (KP.new K0 g5) K3))⟩
theorem aAc(i:Nat):List.replicate (2*i) true ++ [true,true]=List.replicate (2*(i+1)) true:=by
 rw[show [true,true]=List.replicate 2 true from rfl,List.replicate_append_replicate];rfl
theorem aDU:R2 (List.replicate (2*6) true++PV (List.replicate (2*6) true).length)=Oy:=by decide +kernel
theorem aCO:Oy.length=2:=by decide +kernel
theorem aDR:(Ov Oy 8 8 100 1000 0 0 0 0).1.length=6/\(Ov Oy 8 8 100 1000 0 0 0 0).2=0/\(Ov (Oy ++ [0]) 8 8 100 1000 0 0 0 0).2=130:=by
 have hm:QJ 8 8 100 1000 0 0 0 0:=by decide
 rw[Pz hm,Pz hm]
 exact⟨azV.2,azV.1,ay3.2⟩
theorem aCc:MQ 8 8 100 1000 (LG 8 8 128):=by decide +kernel
theorem aDr(a:List Bool):NF a++ByteArray.mk #[49,49]=NF (a ++ [true,true]):=by
 rw[show ByteArray.mk #[49,49]=NF [true,true] from rfl];exact Ro _ _
theorem XW(w0:World)(hA:NM w0)(hO:Of w0)(hs:NU w0)(hw:Qr w0) :
  Calls Tryz.prog 8 #[] w0 fun e w'=>e = .returned (.bool true)/\KM (fun _=>False) w0 w':=by
 refine Lp (args:=[]) 101 Tryz.func8 rfl rfl (Nat.le_of_ble_eq_true rfl) ?_
 have h11:(ByteArray.mk #[49,49]).size=2:=rfl
 have h12:(List.replicate (2*6) true).length=12:=rfl
 have h13:(PV 12).length=4:=rfl
 have h14:(List.replicate (2*6) true++PV (List.replicate (2*6) true).length).length=16:=rfl
 have hd:=Lib.hid aCf
 have ho:=Lib.hid ay3
 have hf:=Lib.hid aDA
 have hc:=Lib.hid aDR
 have hpl:=aCO
 refine KH (KF (KG (.bool false) rfl rfl (KT rfl rfl rr) (KL ?_)))
 have s3:=K4 (undef)
 refine KE (KH (KF (KG (.string (NF ([]))) rfl rfl (KT rfl rfl rr) (KL ?_))))
 have s7:=K4 (.string (NF ([])))
 refine KE (KH (KH (KF (KG (iv 0) rfl rfl (KT rfl rfl rr) (KL ?_)))))
 have cN:=K4 (iv 0)
 refine KE (Lk (M1 (fun nn FF ww=>∃ (i:Nat),(i<=6)/\((List.replicate (2*i) true).length=2*i)/\nn=6-i/\FF 101=undef/\FF 1 = .string (NF (List.replicate (2*i) true))/\FF 2=iv ((i:Nat):Int)/\KM (fun _=>False) w0 ww) (6-0) ⟨0,by omega,rfl,rfl,s3,s7,cN,(KM.refl (fun _=>False) w0)⟩ ?_))
 rintro fH fI fJ ⟨i,i17,hrl,hn16,aW,aQ,aX,aY⟩
 refine KH (KH (KF (KS rfl rfl rfl aX (KG (.bool (decide (((i:Nat):Int)<6))) rfl rfl (L2 rfl rfl rfl rfl rr) (KL ?_)))))
 have cO:=K4 (.bool (decide (((i:Nat):Int)<6)))
 refine KE ?_
 refine K5 cO (fun aE=>?_) (fun aE=>?_)
 ·replace aE:=of_decide_eq_true aE
  refine Lf (KE (KH (Lk (KF (KS rfl rfl rfl aQ (KG (.string (NF (List.replicate (2*i) true ++ [true,true]))) rfl rfl (azC rfl rfl rfl (by simp only[Pi];omega) (aDr _) rr) (KG (.string (NF (List.replicate (2*i) true ++ [true,true]))) rfl rfl (KT rfl rfl rr) (KL ?_))))))))
  have cP:=K4 (.string (NF (List.replicate (2*i) true ++ [true,true])))
  refine LA (KE (KF (KS rfl rfl rfl aX (KG (iv ((i+1:Nat):Int)) rfl rfl (LN rfl rfl rfl (L5 (by omega) (by omega)) rr) (KG (iv ((i+1:Nat):Int)) rfl rfl (KT rfl rfl rr) (KL ?_))))))
  have cQ:=K4 (iv ((i+1:Nat):Int))
  exact KE ⟨(6-(i+1)),by omega,i+1,by omega,List.length_replicate,rfl,aW,(cP.trans (by rw[aAc])),cQ,aY⟩
 ·replace aE:=of_decide_eq_false aE
  refine Mf (Lr (Lr ?_))
  have cR:6=i:=by omega
  subst cR
  refine Me (KE (KH (KF (KS rfl rfl rfl aQ (KS rfl rfl rfl aQ (KG (iv (((List.replicate (2*6) true).length:Nat):Int)) rfl rfl (aB8 rfl rfl rfl rr) (LV rfl rfl rfl rfl rfl (fun _ _=>by kernel_rfl) (Lj rfl LP) (aAx ((List.replicate (2*6) true).length)  _ (by omega)  ) fun aZ cS=>?_)))))))
  refine KG (.string (NF ((List.replicate (2*6) true)++(PV ((List.replicate (2*6) true).length))))) rfl rfl (azC rfl rfl rfl (by simp[Pi];omega) (Ro _ _) rr) (Lw (R:=fun v_ w_=>∃ (ae:Value) (am:Nat->Prop),ae=v_/\KM (fun _=>False) aZ w_/\(L7 w_ am ae (R2 ((List.replicate (2*6) true)++(PV ((List.replicate (2*6) true).length))))/\KP aZ L8 am)) rfl rfl (LE rfl rfl rfl (fun _ _=>by kernel_rfl) (K2 _) (Lj rfl LP) (YB ((List.replicate (2*6) true)++(PV ((List.replicate (2*6) true).length)))  _ (by omega)  ) (fun e_ w_ h_=>by obtain⟨v42_,T45_,he_,hr_⟩:=h_;exact⟨_,he_,v42_,T45_,rfl,hr_⟩)) ?_)
  rintro _ cT ⟨ae,am,rfl,cU,⟨cV,fK⟩⟩
  refine KG ae rfl rfl (KT rfl rfl rr) (KL ?_)
  have aM:=K4 (ae)
  refine KE (KH ?_)
  have cW:L7 cT am ae Oy:=(by rw[← aDU];exact cV)
  refine KF (LV rfl rfl rfl rfl rfl (fun _ _=>by kernel_rfl) LP (Qa   _   ) fun aN a8=>?_)
  have a9:=cW.all a8 KJ.none
  have aF:=((aY.tr cS).tr cU).tr a8
  refine KG (.agg #[iv 0,iv 0,iv 0,iv 0]) rfl rfl (LW (l':=[]) (cells:=#[iv 0,iv 0,iv 0,iv 0]) rfl QZ (by kernel_rfl) rfl rr) (KS rfl rfl rfl aM (KG (.agg #[iv 0,iv 0,.slice none 0 0,.slice none 0 0,.slice none 0 0]) rfl rfl (LW (l':=[]) (cells:=#[iv 0,iv 0,.slice none 0 0,.slice none 0 0,.slice none 0 0]) rfl QZ (by kernel_rfl) rfl rr) (KG (.agg #[iv 0,iv 0,.slice none 0 0,.slice none 0 0,.slice none 0 0]) rfl rfl (LW (l':=[]) (cells:=#[iv 0,iv 0,.slice none 0 0,.slice none 0 0,.slice none 0 0]) rfl QZ (by kernel_rfl) rfl rr) (Lw (R:=fun v_ w_=>∃ (ah:Value) (ar:Nat->Prop) (ai:Value) (au:Nat->Prop) (aj:Value) (av:Nat->Prop),.tuple #[.agg #[iv ((MF Oy 8 8 100 1000 0 0 0 0 (FD.mk 0 0 ([]) ([]) ([])) (FD.mk 0 0 ([]) ([]) ([]))).W),iv ((MF Oy 8 8 100 1000 0 0 0 0 (FD.mk 0 0 ([]) ([]) ([])) (FD.mk 0 0 ([]) ([]) ([]))).H),ah,ai,aj],iv (MH Oy 8 8 100 1000 0 0 0 0 (FD.mk 0 0 ([]) ([]) ([])) (FD.mk 0 0 ([]) ([]) ([])))]=v_/\KM (fun _=>False) aN w_/\(L1 w_ ar ah ((MF Oy 8 8 100 1000 0 0 0 0 (FD.mk 0 0 ([]) ([]) ([])) (FD.mk 0 0 ([]) ([]) ([]))).p0)/\KP aN L8 ar)/\(L1 w_ au ai ((MF Oy 8 8 100 1000 0 0 0 0 (FD.mk 0 0 ([]) ([]) ([])) (FD.mk 0 0 ([]) ([]) ([]))).p1)/\KP aN L8 au)/\(L1 w_ av aj ((MF Oy 8 8 100 1000 0 0 0 0 (FD.mk 0 0 ([]) ([]) ([])) (FD.mk 0 0 ([]) ([]) ([]))).p2)/\KP aN L8 av)/\KJ ar au/\KJ ar av/\KJ au av) rfl rfl (LE rfl rfl rfl (fun _ _=>by kernel_rfl) (K2 _) (Lj rfl (Lj rfl (Lj rfl (Lj rfl (Lj rfl LP))))) (QX 8 8 100 1000 0 0 0 0 ae Oy (FD.mk 0 0 ([]) ([]) ([])) (.slice none 0 0) (.slice none 0 0) (.slice none 0 0) (FD.mk 0 0 ([]) ([]) ([])) (.slice none 0 0) (.slice none 0 0) (.slice none 0 0) am L8 L8 L8 L8 L8 L8 _ (hA.all aF) (hO.all aF) (hs.all aF) (hw.all aF) (by omega) a9 (L7.nil _) (L7.nil _) (L7.nil _) (L7.nil _) (L7.nil _) (L7.nil _) ) (fun e_ w_ h_=>by obtain⟨v59_,T64_,v60_,T65_,v61_,T66_,he_,hr_⟩:=h_;exact⟨_,he_,v59_,T64_,v60_,T65_,v61_,T66_,rfl,hr_⟩)) ?_))))
  rintro _ fL ⟨ah,ar,ai,au,aj,av,rfl,ba,⟨bb,fM⟩,⟨bc,bd⟩,⟨be,bf⟩,fN,fO,fP⟩
  have bg:=a9.all ba KJ.none
  have bh:=aF.tr ba
  refine KG (.tuple #[.agg #[iv ((MF Oy 8 8 100 1000 0 0 0 0 (FD.mk 0 0 ([]) ([]) ([])) (FD.mk 0 0 ([]) ([]) ([]))).W),iv ((MF Oy 8 8 100 1000 0 0 0 0 (FD.mk 0 0 ([]) ([]) ([])) (FD.mk 0 0 ([]) ([]) ([]))).H),ah,ai,aj],iv (MH Oy 8 8 100 1000 0 0 0 0 (FD.mk 0 0 ([]) ([]) ([])) (FD.mk 0 0 ([]) ([]) ([])))]) rfl rfl (KN rfl rfl rr) (KG (.agg #[iv ((MF Oy 8 8 100 1000 0 0 0 0 (FD.mk 0 0 ([]) ([]) ([])) (FD.mk 0 0 ([]) ([]) ([]))).W),iv ((MF Oy 8 8 100 1000 0 0 0 0 (FD.mk 0 0 ([]) ([]) ([])) (FD.mk 0 0 ([]) ([]) ([]))).H),ah,ai,aj]) rfl rfl (LI rfl rfl rfl rr) (KG (iv (MH Oy 8 8 100 1000 0 0 0 0 (FD.mk 0 0 ([]) ([]) ([])) (FD.mk 0 0 ([]) ([]) ([])))) rfl rfl (LI rfl rfl rfl rr) (LF (n:=5) (vs:=[iv 0,iv 0,.slice none 0 0,.slice none 0 0,.slice none 0 0]) rfl rfl rfl (by kernel_rfl) fun aG fQ cX bi bj=>?_)))
  obtain⟨cY,cZ,c5,c6⟩:=V2 bi bg bb bc be
  obtain⟨c7,bl,bm,bn⟩:=OS bj bg bb bc be
  refine Lh (us:=[iv ((MF Oy 8 8 100 1000 0 0 0 0 (FD.mk 0 0 ([]) ([]) ([])) (FD.mk 0 0 ([]) ([]) ([]))).W),iv ((MF Oy 8 8 100 1000 0 0 0 0 (FD.mk 0 0 ([]) ([]) ([])) (FD.mk 0 0 ([]) ([]) ([]))).H),ah,ai,aj]) KZ rfl rfl rfl rfl rfl cX rfl (KX rfl (KX rfl (KX bl.one (KX bm.one (KX bn.one MC))))) fun fR c9 aH=>?_
  have da:=c7.all aH cY.symm
  have db:=bl.all aH cZ.symm
  have dc:=bm.all aH c5.symm
  have dd:=bn.all aH c6.symm
  refine KG (iv (MH Oy 8 8 100 1000 0 0 0 0 (FD.mk 0 0 ([]) ([]) ([])) (FD.mk 0 0 ([]) ([]) ([])))) rfl rfl (KT rfl rfl rr) (KL ?_)
  have de:=K4 (pt aG 0)
  have df:=K4 (iv (MH Oy 8 8 100 1000 0 0 0 0 (FD.mk 0 0 ([]) ([]) ([])) (FD.mk 0 0 ([]) ([]) ([]))))
  refine KE (KH (KF (LV rfl rfl rfl rfl rfl (fun _ _=>by kernel_rfl) LP (Qa   _   ) fun bo bp=>?_)))
  obtain⟨bq,dg,dh,di,dj⟩:=OR bp da db dc dd c9
  have aR:=((bh.tr bj).trans aH (KP.ok (S:=fun _=>False) (KP.new bh bi) K3)).tr bp
  refine KG (.agg #[iv 0,iv 0,iv 0,iv 0]) rfl rfl (LW (l':=[]) (cells:=#[iv 0,iv 0,iv 0,iv 0]) rfl QZ (by kernel_rfl) rfl rr) (KS rfl rfl rfl aM (Lw (R:=fun v_ w_=>∃ (ak:Value) (aS:Nat->Prop),.tuple #[ak,iv ((Ov Oy 8 8 100 1000 0 0 0 0).2)]=v_/\KM (fun _=>False) bo w_/\(QR Ux w_ aS ak ((Ov Oy 8 8 100 1000 0 0 0 0).1)/\KP bo L8 aS)) rfl rfl (LE rfl rfl rfl (fun _ _=>by kernel_rfl) (K2 _) (Lj rfl (Lj rfl (Lj rfl LP))) (SR 8 8 100 1000 0 0 0 0 ae Oy am _ (hA.all aR) (hO.all aR) (by first|omega|(simp;omega)) bq ) (fun e_ w_ h_=>by obtain⟨v121_,T124_,he_,hr_⟩:=h_;exact⟨_,he_,v121_,T124_,rfl,hr_⟩)) ?_))
  rintro _ fS ⟨ak,aS,rfl,bt,⟨dk,fT⟩⟩
  obtain⟨dl,dm,dn,dp,dq⟩:=OR bt bq dg dh di dj
  refine KG (.tuple #[ak,iv ((Ov Oy 8 8 100 1000 0 0 0 0).2)]) rfl rfl (KN rfl rfl rr) (KG ak rfl rfl (LI rfl rfl rfl rr) (KG (iv ((Ov Oy 8 8 100 1000 0 0 0 0).2)) rfl rfl (LI rfl rfl rfl rr) (KG ak rfl rfl (KT rfl rfl rr) (KG (iv ((Ov Oy 8 8 100 1000 0 0 0 0).2)) rfl rfl (KT rfl rfl rr) (KL ?_)))))
  have dr:=K4 (ak)
  have dt:=K4 (iv ((Ov Oy 8 8 100 1000 0 0 0 0).2))
  refine KE (KH (KF (LV rfl rfl rfl rfl rfl (fun _ _=>by kernel_rfl) LP (Qa   _   ) fun aO bu=>?_)))
  obtain⟨bv,du,dv,dw,dy,dz⟩:=Qt bu dl dm dn dp dq dk
  have aI:=(aR.tr bt).tr bu
  refine KG (.agg #[iv 1,iv 0,iv 0,iv 0]) rfl rfl (LW (l':=[(0,iv 1)]) (cells:=#[iv 1,iv 0,iv 0,iv 0]) rfl (ST rfl QZ) (by kernel_rfl) rfl rr) (KS rfl rfl rfl aM (KG (.agg #[iv 0,iv 0,.slice none 0 0,.slice none 0 0,.slice none 0 0]) rfl rfl (LW (l':=[]) (cells:=#[iv 0,iv 0,.slice none 0 0,.slice none 0 0,.slice none 0 0]) rfl QZ (by kernel_rfl) rfl rr) (KG (.agg #[iv 0,iv 0,.slice none 0 0,.slice none 0 0,.slice none 0 0]) rfl rfl (LW (l':=[]) (cells:=#[iv 0,iv 0,.slice none 0 0,.slice none 0 0,.slice none 0 0]) rfl QZ (by kernel_rfl) rfl rr) (Lw (R:=fun v_ w_=>∃ (aw:Value) (aJ:Nat->Prop) (az:Value) (aK:Nat->Prop) (aA:Value) (aL:Nat->Prop),.tuple #[.agg #[iv ((MF Oy 8 8 100 1000 1 0 0 0 (FD.mk 0 0 ([]) ([]) ([])) (FD.mk 0 0 ([]) ([]) ([]))).W),iv ((MF Oy 8 8 100 1000 1 0 0 0 (FD.mk 0 0 ([]) ([]) ([])) (FD.mk 0 0 ([]) ([]) ([]))).H),aw,az,aA],iv (MH Oy 8 8 100 1000 1 0 0 0 (FD.mk 0 0 ([]) ([]) ([])) (FD.mk 0 0 ([]) ([]) ([])))]=v_/\KM (fun _=>False) aO w_/\(L1 w_ aJ aw ((MF Oy 8 8 100 1000 1 0 0 0 (FD.mk 0 0 ([]) ([]) ([])) (FD.mk 0 0 ([]) ([]) ([]))).p0)/\KP aO L8 aJ)/\(L1 w_ aK az ((MF Oy 8 8 100 1000 1 0 0 0 (FD.mk 0 0 ([]) ([]) ([])) (FD.mk 0 0 ([]) ([]) ([]))).p1)/\KP aO L8 aK)/\(L1 w_ aL aA ((MF Oy 8 8 100 1000 1 0 0 0 (FD.mk 0 0 ([]) ([]) ([])) (FD.mk 0 0 ([]) ([]) ([]))).p2)/\KP aO L8 aL)/\KJ aJ aK/\KJ aJ aL/\KJ aK aL) rfl rfl (LE rfl rfl rfl (fun _ _=>by kernel_rfl) (K2 _) (Lj rfl (Lj rfl (Lj rfl (Lj rfl (Lj rfl LP))))) (QX 8 8 100 1000 1 0 0 0 ae Oy (FD.mk 0 0 ([]) ([]) ([])) (.slice none 0 0) (.slice none 0 0) (.slice none 0 0) (FD.mk 0 0 ([]) ([]) ([])) (.slice none 0 0) (.slice none 0 0) (.slice none 0 0) am L8 L8 L8 L8 L8 L8 _ (hA.all aI) (hO.all aI) (hs.all aI) (hw.all aI) (by omega) bv (L7.nil _) (L7.nil _) (L7.nil _) (L7.nil _) (L7.nil _) (L7.nil _) ) (fun e_ w_ h_=>by obtain⟨v156_,T161_,v157_,T162_,v158_,T163_,he_,hr_⟩:=h_;exact⟨_,he_,v156_,T161_,v157_,T162_,v158_,T163_,rfl,hr_⟩)) ?_))))
  rintro _ fU ⟨aw,aJ,az,aK,aA,aL,rfl,bz,⟨dA,fV⟩,⟨dB,fW⟩,⟨dC,fX⟩,fY,fZ,f5⟩
  obtain⟨bA,bB,bC,bD,bE,bF⟩:=Qt bz bv du dv dw dy dz
  have bG:=aI.tr bz
  refine KG (.tuple #[.agg #[iv ((MF Oy 8 8 100 1000 1 0 0 0 (FD.mk 0 0 ([]) ([]) ([])) (FD.mk 0 0 ([]) ([]) ([]))).W),iv ((MF Oy 8 8 100 1000 1 0 0 0 (FD.mk 0 0 ([]) ([]) ([])) (FD.mk 0 0 ([]) ([]) ([]))).H),aw,az,aA],iv (MH Oy 8 8 100 1000 1 0 0 0 (FD.mk 0 0 ([]) ([]) ([])) (FD.mk 0 0 ([]) ([]) ([])))]) rfl rfl (KN rfl rfl rr) (KG (.agg #[iv ((MF Oy 8 8 100 1000 1 0 0 0 (FD.mk 0 0 ([]) ([]) ([])) (FD.mk 0 0 ([]) ([]) ([]))).W),iv ((MF Oy 8 8 100 1000 1 0 0 0 (FD.mk 0 0 ([]) ([]) ([])) (FD.mk 0 0 ([]) ([]) ([]))).H),aw,az,aA]) rfl rfl (LI rfl rfl rfl rr) (KG (iv (MH Oy 8 8 100 1000 1 0 0 0 (FD.mk 0 0 ([]) ([]) ([])) (FD.mk 0 0 ([]) ([]) ([])))) rfl rfl (LI rfl rfl rfl rr) (LF (n:=5) (vs:=[iv 0,iv 0,.slice none 0 0,.slice none 0 0,.slice none 0 0]) rfl rfl rfl (by kernel_rfl) fun f6 f8 dD bH bI=>?_)))
  obtain⟨dE,dF,dG,dH,dI,dJ⟩:=Vk bH bA bB bC bD bE bF
  obtain⟨dK,dL,dM,dN,dO,dP,dQ,dR,dS⟩:=YM bI bA bB bC bD bE bF dA dB dC
  refine Lh (us:=[iv ((MF Oy 8 8 100 1000 1 0 0 0 (FD.mk 0 0 ([]) ([]) ([])) (FD.mk 0 0 ([]) ([]) ([]))).W),iv ((MF Oy 8 8 100 1000 1 0 0 0 (FD.mk 0 0 ([]) ([]) ([])) (FD.mk 0 0 ([]) ([]) ([]))).H),aw,az,aA]) KZ rfl rfl rfl rfl rfl dD rfl (KX rfl (KX rfl (KX dQ.one (KX dR.one (KX dS.one MC))))) fun f9 ga an=>?_
  have dT:=dK.all an dE.symm
  have dU:=dL.all an dF.symm
  have dV:=dM.all an dG.symm
  have dW:=dN.all an dH.symm
  have dX:=dO.all an (dI.symm aG rfl)
  have dY:=dP.all an dJ.symm
  refine KG (iv (MH Oy 8 8 100 1000 1 0 0 0 (FD.mk 0 0 ([]) ([]) ([])) (FD.mk 0 0 ([]) ([]) ([])))) rfl rfl (KT rfl rfl rr) (KL ?_)
  have dZ:=K4 (iv (MH Oy 8 8 100 1000 1 0 0 0 (FD.mk 0 0 ([]) ([]) ([])) (FD.mk 0 0 ([]) ([]) ([]))))
  refine KE (KH (KF (LV rfl rfl rfl rfl rfl (fun _ _=>by kernel_rfl) LP (Qa   _   ) fun gb bJ=>?_)))
  obtain⟨d8,bK,bL,bM,bN,bO⟩:=Qt bJ dT dU dV dW dX dY
  have bP:=((bG.tr bI).trans an (KP.ok (S:=fun _=>False) (KP.new bG bH) K3)).tr bJ
  refine KG (.agg #[iv 0,iv 0,iv 0,iv 0]) rfl rfl (LW (l':=[]) (cells:=#[iv 0,iv 0,iv 0,iv 0]) rfl QZ (by kernel_rfl) rfl rr) (Yx rfl rfl rfl fun gc gd ge d9 bQ bR=>?_)
  have bS:=KP.new bP bQ
  obtain⟨bT,bU,bV,bW,bX⟩:=Z4 bQ bK bL bM bN bO
  obtain⟨eb,bY,bZ,b7,b8,b9⟩:=Qt bR d8 bK bL bM bN bO
  have cd:=bP.tr bR
  refine KS rfl rfl rfl aM (U7 rfl rfl rfl rfl rfl rfl d9 eb (by first|omega|(simp;done)|(simp;omega)) fun gh gi gj ee ce aB=>?_)
  obtain⟨eh,ei,ek,en,eo⟩:=aDF ce bT bY bU bZ bV b7 bW b8 bX b9
  have ep:=bY.all aB bT.symm
  have er:=bZ.all aB bU.symm
  have et:=b7.all aB bV.symm
  have eu:=b8.all aB (bW.symm aG rfl)
  have ew:=b9.all aB bX.symm
  refine VG (n:=0) rfl rfl rfl rfl (by omega) (by omega) fun gl gm gn ex go cf=>?_
  obtain⟨ey,ez,eA,eB,eC,eD⟩:=Qt cf ep er et eu ew ee
  refine U7 rfl rfl rfl rfl rfl rfl eD ex.byt (by first|omega|(simp;done)|(simp;omega)) fun eE cg eF eG gp aC=>?_
  have eH:=ey.all aC eh.symm
  have eI:=ez.all aC ei.symm
  have eJ:=eA.all aC ek.symm
  have eK:=eB.all aC (en.symm aG rfl)
  have eL:=eC.all aC eo.symm
  have aT:=((cd.trans aB (KP.ok (S:=fun _=>False) bS K3)).tr cf).trans aC (KP.ok (S:=fun _=>False) (KP.trans bS cd ce) K3)
  refine Lw (R:=fun v_ w_=>∃ (aD:Value) (aU:Nat->Prop),.tuple #[aD,iv ((Ov ((([]:List Nat)++Oy)++([0])) 8 8 100 1000 0 0 0 0).2)]=v_/\KM (fun _=>False) cg w_/\(QR Ux w_ aU aD ((Ov ((([]:List Nat)++Oy)++([0])) 8 8 100 1000 0 0 0 0).1)/\KP cg L8 aU)) rfl rfl (LE rfl rfl rfl (fun _ _=>by kernel_rfl) (K2 _) (Lj rfl (Lj rfl (Lj rfl LP))) (SR 8 8 100 1000 0 0 0 0 eE ((([]:List Nat)++Oy)++([0])) eF _ (hA.all aT) (hO.all aT) (by first|omega|(simp;omega)) eG.byt ) (fun e_ w_ h_=>by obtain⟨v377_,T380_,he_,hr_⟩:=h_;exact⟨_,he_,v377_,T380_,rfl,hr_⟩)) ?_
  rintro _ aP ⟨aD,aU,rfl,ci,⟨gq,gr⟩⟩
  obtain⟨eM,eN,eO,eP,eQ⟩:=OR ci eH eI eJ eK eL
  refine KG (.tuple #[aD,iv ((Ov ((([]:List Nat)++Oy)++([0])) 8 8 100 1000 0 0 0 0).2)]) rfl rfl (KN rfl rfl rr) (KG aD rfl rfl (LI rfl rfl rfl rr) (KG (iv ((Ov ((([]:List Nat)++Oy)++([0])) 8 8 100 1000 0 0 0 0).2)) rfl rfl (LI rfl rfl rfl rr) (KG aD rfl rfl (KT rfl rfl rr) (KG (iv ((Ov ((([]:List Nat)++Oy)++([0])) 8 8 100 1000 0 0 0 0).2)) rfl rfl (KT rfl rfl rr) (KL ?_)))))
  have eR:=K4 (iv ((Ov ((([]:List Nat)++Oy)++([0])) 8 8 100 1000 0 0 0 0).2))
  refine KE (KH (KF (Lw (R:=fun v_ w_=>∃ (aa:Value) (ao:Nat->Prop) (ab:Value) (ap:Nat->Prop) (ac:Value) (aq:Nat->Prop),.tuple #[.agg #[iv ((LG 8 8 128).W),iv ((LG 8 8 128).H),aa,ab,ac],iv (R7 8 8)]=v_/\KM (fun _=>False) aP w_/\(L1 w_ ao aa ((LG 8 8 128).p0)/\KP aP L8 ao)/\(L1 w_ ap ab ((LG 8 8 128).p1)/\KP aP L8 ap)/\(L1 w_ aq ac ((LG 8 8 128).p2)/\KP aP L8 aq)/\KJ ao ap/\KJ ao aq/\KJ ap aq) rfl rfl (LE rfl rfl rfl (fun _ _=>by kernel_rfl) (K2 _) (Lj rfl (Lj rfl (Lj rfl LP))) (aAP 8 8 128  _ (by omega)  ) (fun e_ w_ h_=>by obtain⟨v418_,T423_,v419_,T424_,v420_,T425_,he_,hr_⟩:=h_;exact⟨_,he_,v418_,T423_,v419_,T424_,v420_,T425_,rfl,hr_⟩)) ?_)))
  rintro _ gt ⟨aa,ao,ab,ap,ac,aq,rfl,cj,⟨cm,gu⟩,⟨cn,gv⟩,⟨co,gw⟩,gz,gA,gB⟩
  obtain⟨cq,cr,ct,cu,cv⟩:=OR cj eM eN eO eP eQ
  have cw:=(aT.tr ci).tr cj
  refine KG (.tuple #[.agg #[iv ((LG 8 8 128).W),iv ((LG 8 8 128).H),aa,ab,ac],iv (R7 8 8)]) rfl rfl (KN rfl rfl rr) (KG (.agg #[iv ((LG 8 8 128).W),iv ((LG 8 8 128).H),aa,ab,ac]) rfl rfl (LI rfl rfl rfl rr) (KG (iv (R7 8 8)) rfl rfl (LI rfl rfl rfl rr) (LF (n:=5) (vs:=[iv 0,iv 0,.slice none 0 0,.slice none 0 0,.slice none 0 0]) rfl rfl rfl (by kernel_rfl) fun eS gC eT cy cz=>?_)))
  obtain⟨eU,eV,eW,eX,eY,eZ,e6,e7⟩:=XH cy cq cr ct cu cv cm cn co
  obtain⟨e8,e9,fa,fb,fc,cA,cB,cC⟩:=Xz cz cq cr ct cu cv cm cn co
  refine Lh (us:=[iv ((LG 8 8 128).W),iv ((LG 8 8 128).H),aa,ab,ac]) KZ rfl rfl rfl rfl rfl eT rfl (KX rfl (KX rfl (KX cA.one (KX cB.one (KX cC.one MC))))) fun fd cD af=>?_
  have fe:=e8.all af eU.symm
  have ff:=e9.all af eV.symm
  have fg:=fa.all af eW.symm
  have fh:=fb.all af (eX.symm aG rfl)
  have fi:=fc.all af eY.symm
  have cE:=cA.all af eZ.symm
  have cF:=cB.all af e6.symm
  have cG:=cC.all af e7.symm
  refine KG (iv (R7 8 8)) rfl rfl (KT rfl rfl rr) (KL ?_)
  have cH:=K4 (pt eS 0)
  refine KE (KH (KF (KG (.agg #[iv ((MF Oy 8 8 100 1000 0 0 0 0 (FD.mk 0 0 ([]) ([]) ([])) (FD.mk 0 0 ([]) ([]) ([]))).W),iv ((MF Oy 8 8 100 1000 0 0 0 0 (FD.mk 0 0 ([]) ([]) ([])) (FD.mk 0 0 ([]) ([]) ([]))).H),ah,ai,aj]) rfl rfl (KU KZ rfl de fh rr) (KG (.agg #[iv ((LG 8 8 128).W),iv ((LG 8 8 128).H),aa,ab,ac]) rfl rfl (KU KZ rfl cH cD rr) (Lw (R:=fun v_ w_=>v_ = .bool true/\KM (fun _=>False) fd w_) rfl rfl (LE rfl rfl rfl (fun _ _=>by kernel_rfl) (K2 _) (Lj rfl (Lj rfl LP)) (ZY (MF Oy 8 8 100 1000 0 0 0 0 (FD.mk 0 0 ([]) ([]) ([])) (FD.mk 0 0 ([]) ([]) ([]))) ah ai aj (LG 8 8 128) aa ab ac ar au av ao ap aq _  fe.byt ff.byt fg.byt cE.byt cF.byt cG.byt ) (fun e_ w_ h_=>⟨_,h_.1,congrArg Value.bool hf.out,h_.2⟩)) ?_)))))
  rintro _ gD ⟨rfl,cI⟩
  obtain⟨fj,fk,fm,fo,fp⟩:=OR cI fi cE cF cG cD
  refine KG (.bool true) rfl rfl (KT rfl rfl rr) (KL ?_)
  have fq:=K4 (.bool true)
  refine KE (KH ?_)
  refine Ri [some 71,some 72,some 73,some 15] [Pd.eq (.agg #[iv 8,iv 8,iv 100,iv 1000]),Pd.eq (.agg #[iv ((LG 8 8 128).W),iv ((LG 8 8 128).H),aa,ab,ac]),Pd.eq (.bool true),Pd.eq (.bool true)] (by kernel_rfl) (by kernel_rfl) ?_ ?_
  ·refine KK ?_ ?_
   ·refine Lb.one rfl fun F_ w_ hR hout hD=>?_
    exact(LE rfl rfl rfl (fun _ _=>by kernel_rfl) (K2 _) LP (Qa   _   ) (fun e_ w_ h_=>⟨_,h_.1,rfl,h_.2⟩))
   refine KK ?_ ?_
   ·refine Lb.one rfl fun F_ w_ hR hout hD=>?_
    exact(KU KZ rfl ((hout 12 rfl (by decide)).trans cH) (fp.all hR id) ⟨rfl,KM.refl _ _⟩)
   refine KK ?_ ?_
   ·refine Lb.one rfl fun F_ w_ hR hout hD=>?_
    have bd:F_ 71 = .agg #[iv 8,iv 8,iv 100,iv 1000]:=(hD.get 0 rfl rfl rfl)
    have bf:F_ 72 = .agg #[iv ((LG 8 8 128).W),iv ((LG 8 8 128).H),aa,ab,ac]:=(hD.get 1 rfl rfl rfl)
    exact(LE rfl rfl rfl (fun _ _=>by kernel_rfl) (K2 _) (Lj bd (Lj bf LP)) (Sh 8 8 100 1000 (LG 8 8 128) aa ab ac ao ap aq _  (fk.all hR KJ.none).byt (fm.all hR KJ.none).byt (fo.all hR KJ.none).byt ) (fun e_ w_ h_=>⟨_,h_.1,congrArg Value.bool (decide_eq_true aCc),h_.2⟩))
   refine KK ?_ ?_
   ·refine Lb.one rfl fun F_ w_ hR hout hD=>?_
    have ft:F_ 73 = .bool true:=(hD.get 0 rfl rfl rfl)
    exact(KT rfl ft ⟨rfl,KM.refl _ _⟩)
   exact L0
  intro gE fu gF cJ cK aV
  have fw:=fj.all cJ KJ.none
  obtain⟨fx,fy,fA,fB,fC,fD,fE⟩:=t7 aV 101 aW 5 df 6 dr 7 dt 9 dZ 11 eR 14 fq
  have fF:fu 15 = .bool true:=(aV 15).trans (cK 3 (by decide))
  clear cK aV
  refine KE (KH (KF (KS rfl rfl rfl fy (KG (.bool true) rfl rfl (LZ rfl rfl rfl (decide_eq_true hd.out) rr) (KG (.bool true) rfl rfl (KN rfl rfl rr) (KO (.bool true) 2 true 76 rfl rfl rfl rfl rfl (KN rfl fE rr) (KG (.bool true) rfl rfl (Ld rfl rfl rfl rr) (KG (.bool true) rfl rfl (KN rfl rfl rr) (KO ak 5 true 79 rfl rfl rfl rfl rfl (KN rfl fA rr) (KO (iv ((((Ov Oy 8 8 100 1000 0 0 0 0).1).length:Nat):Int)) 5 true 79 rfl rfl rfl rfl rfl (aBp (r:=Ux) rfl rfl rfl fw.roa rr) (KO (.bool true) 5 true 79 rfl rfl rfl rfl rfl (LZ rfl rfl rfl (decide_eq_true (by rw[hc.out.1];rfl)) rr) ?_)))))))))))
  refine KG (.bool true) rfl rfl (Ld rfl rfl rfl rr) (KG (.bool true) rfl rfl (KN rfl rfl rr) (KO (iv ((Ov Oy 8 8 100 1000 0 0 0 0).2)) 10 true 84 rfl rfl rfl rfl rfl (KN rfl fB rr) (KO (.bool true) 10 true 84 rfl rfl rfl rfl rfl (LZ rfl rfl rfl (decide_eq_true hc.out.2.1) rr) (KG (.bool true) rfl rfl (Ld rfl rfl rfl rr) (KG (.bool true) rfl rfl (KN rfl rfl rr) (KO (iv (MH Oy 8 8 100 1000 1 0 0 0 (FD.mk 0 0 ([]) ([]) ([])) (FD.mk 0 0 ([]) ([]) ([])))) 14 true 88 rfl rfl rfl rfl rfl (KN rfl fC rr) (KO (.bool true) 14 true 88 rfl rfl rfl rfl rfl (LZ rfl rfl rfl (decide_eq_true ho.out.1) rr) (KG (.bool true) rfl rfl (Ld rfl rfl rfl rr) (KG (.bool true) rfl rfl (KN rfl rfl rr) (KO (iv ((Ov ((([]:List Nat)++Oy)++([0])) 8 8 100 1000 0 0 0 0).2)) 18 true 92 rfl rfl rfl rfl rfl (KN rfl fD rr) (KO (.bool true) 18 true 92 rfl rfl rfl rfl rfl (LZ rfl rfl rfl (decide_eq_true hc.out.2.2) rr) ?_)))))))))))
  refine KG (.bool true) rfl rfl (Ld rfl rfl rfl rr) (KG (.bool true) rfl rfl (KN rfl rfl rr) (KG (.bool true) rfl rfl (Ld rfl rfl rfl rr) (KG (.bool true) rfl rfl (KN rfl rfl rr) (KO (.bool true) 24 true 98 rfl rfl rfl rfl rfl (KN rfl fF rr) (KG (.bool true) rfl rfl (Ld rfl rfl rfl rr) (KG (.bool true) rfl rfl (KT rfl rfl rr) (KL ?_)))))))
  have fG:=K4 (.bool true)
  refine KE (La ?_)
  exact Lq (v:=.bool true) fx rfl rfl fG ⟨rfl,((((cw.tr cz).trans af (KP.ok (S:=fun _=>False) (KP.new cw cy) K3)).tr cI).tr cJ)⟩
end Go.Proofs.YtknjpdcpmpfklaaGreatDoor
set_option maxRecDepth 100000
namespace Go.Proofs.YtknjpdcpmpfklaaGreatDoor
open Go.RowKit
def NP(W H:Int):Prop:=(16<W/\W<=64)\/(16<H/\H<=64)
instance (W H:Int):Decidable (NP W H):=by unfold NP;infer_instance
theorem Tj{l:List Nat}{W H R B K Q D F:Int}{g h:FD}(h0:MH l W H R B K Q D F g h=0):(decide (MH l W H R B K Q D F FD.none h=0)==decide (K=0))=true:=by
 rw[beq_iff_eq,decide_eq_decide];exact Oq h0
theorem Tt{l:List Nat}{W H R B K Q D F:Int}{g h:FD}(h0:MH l W H R B K Q D F g h=0):(decide (MH l W H R B K Q D F g FD.none=0)==decide (K≠2))=true:=by
 rw[beq_iff_eq,decide_eq_decide];exact Ow h0
theorem ayY{l:List Nat}{W H R B K Q D F:Int}{g h:FD}(h0:MH l W H R B K Q D F g h≠0):(MF l W H R B K Q D F g h).p0.length=0/\(MF l W H R B K Q D F g h).p1.length=0:=by
 rw[UB h0];exact⟨rfl,rfl⟩
theorem Xc(W H R B K Q D F:Int)(v:Value)(l:List Nat)(g:FD)(g0 g1 g2:Value)(h:FD)(h0 h1 h2:Value)(T_b:Nat->Prop)(T_g0:Nat->Prop)(T_g1:Nat->Prop)(T_g2:Nat->Prop)(T_h0:Nat->Prop)(T_h1:Nat->Prop)(T_h2:Nat->Prop)(w0:World)(hA:NM w0)(hO:Of w0)(hs:NU w0)(hw:Qr w0)(h_b:L7 w0 T_b v (l))(h_g0:L7 w0 T_g0 g0 ((g).p0))(h_g1:L7 w0 T_g1 g1 ((g).p1))(h_g2:L7 w0 T_g2 g2 ((g).p2))(h_h0:L7 w0 T_h0 h0 ((h).p0))(h_h1:L7 w0 T_h1 h1 ((h).p1))(h_h2:L7 w0 T_h2 h2 ((h).p2)) :
  Calls Tryz.prog 7 #[.agg #[.int .i64 (W),.int .i64 (H),.int .i64 (R),.int .i64 (B)],.agg #[.int .i64 (K),.int .i64 (Q),.int .i64 (D),.int .i64 (F)],v,.agg #[.int .i64 ((g).W),.int .i64 ((g).H),g0,g1,g2],.agg #[.int .i64 ((h).W),.int .i64 ((h).H),h0,h1,h2]] w0 fun e w'=>e = .returned (.bool true)/\KM (fun _=>False) w0 w':=by
 refine Lp (args:=[.agg #[iv W,iv H,iv R,iv B],.agg #[iv K,iv Q,iv D,iv F],v,.agg #[iv (g.W),iv (g.H),g0,g1,g2],.agg #[iv (h.W),iv (h.H),h0,h1,h2]]) 107 Tryz.func7 rfl rfl (Nat.le_of_ble_eq_true rfl) ?_
 have g_b:=KP.refl w0 T_b
 have g_g0:=KP.refl w0 T_g0
 have g_g1:=KP.refl w0 T_g1
 have g_g2:=KP.refl w0 T_g2
 have g_h0:=KP.refl w0 T_h0
 have g_h1:=KP.refl w0 T_h1
 have g_h2:=KP.refl w0 T_h2
 refine KH (KF (Lt (vs:=[iv W,iv H,iv R,iv B]) rfl rfl rfl rfl fun p1 w2 B4 g5 k3=>?_))
 obtain⟨d9,eb,ee,eh,ei,ek,en⟩:=Sl k3 h_b h_g0 h_g1 h_g2 h_h0 h_h1 h_h2
 refine Lt (vs:=[iv K,iv Q,iv D,iv F]) rfl rfl rfl rfl fun aC lY eo lZ bQ=>?_
 obtain⟨ep,er,et,eu,ew,ex,ey,ez⟩:=Xz bQ d9 eb ee eh ei ek en B4
 refine Lt (vs:=[iv (g.W),iv (g.H),g0,g1,g2]) rfl rfl rfl rfl fun aY l3 eA l4 bR=>?_
 obtain⟨eB,eC,eD,eE,eF,eG,eH,eI,eJ⟩:=YM bR ep er et eu ew ex ey ez eo
 refine Lt (vs:=[iv (h.W),iv (h.H),h0,h1,h2]) rfl rfl rfl rfl fun bn l5 eK l6 bS=>?_
 obtain⟨eL,eM,eN,eO,eP,eQ,eR,eS,eT,eU⟩:=RG bS eB eC eD eE eF eG eH eI eJ eA
 have aZ:=((((KM.refl (fun _=>False) w0).tr k3).tr bQ).tr bR).tr bS
 refine KG (.bool false) rfl rfl (KT rfl rfl rr) (KL ?_)
 have ae:=K4 (v)
 have ao:=K4 (undef)
 have aa:=K4 (pt p1 0)
 have ap:=K4 (pt aC 0)
 have ah:=K4 (pt aY 0)
 have an:=K4 (pt bn 0)
 refine KE (KH (KF (LV rfl rfl rfl rfl rfl (fun _ _=>by kernel_rfl) LP (XW   _ (hA.all aZ) (hO.all aZ) (hs.all aZ) (hw.all aZ)  ) fun aE bT=>?_)))
 obtain⟨af,ai,aj,ak,aq,ar,au,ab,av,am,aw⟩:=N5 bT eL eM eN eO eP eQ eR eS eT eU eK
 have az:=aZ.tr bT
 refine KG (.bool true) rfl rfl (KT rfl rfl rr) (KL ?_)
 have aA:=K4 (.bool true)
 refine KE (KH (KH ?_))
 refine aB1 (fun FF ww=>FF 51 = .bool (decide (NP W H\/1000<l.length\/M3 g=false\/M3 h=false))/\FF 2=v/\FF 5=pt p1 0/\FF 6=pt aC 0/\FF 8=pt aY 0/\FF 9=pt bn 0/\FF 11 = .bool true/\FF 107=undef/\KM (fun _=>False) w0 ww/\L7 ww T_b v l/\L7 ww T_g0 g0 (g.p0)/\L7 ww T_g1 g1 (g.p1)/\L7 ww T_g2 g2 (g.p2)/\L7 ww T_h0 h0 (h.p0)/\L7 ww T_h1 h1 (h.p1)/\L7 ww T_h2 h2 (h.p2)/\Mu ww p1 23 [iv W,iv H,iv R,iv B]/\Mu ww aC 25 [iv K,iv Q,iv D,iv F]/\Mu ww aY 29 [iv (g.W),iv (g.H),g0,g1,g2]/\Mu ww bn 29 [iv (h.W),iv (h.H),h0,h1,h2]) ?_ ?_
 ·skip
  by_cases aB:16<W
  ·skip
   by_cases aG:W<=64
   ·skip
    refine KF (KG (pt p1 0) rfl rfl (KQ (n:=1) rfl aa Tryz.underlying23 rfl (by kernel_rfl) (by decide) rfl rr) (KG (iv W) rfl rfl (KR rfl rfl Tryz.underlying3 ab rfl rfl rr) (KG (.bool true) rfl rfl (Mp rfl rfl rfl (decide_eq_true aB) rr) (KG (.bool true) rfl rfl (KN rfl rfl rr) (KO (pt p1 0) 3 true 22 rfl rfl rfl rfl rfl (KQ (n:=1) rfl aa Tryz.underlying23 rfl (by kernel_rfl) (by decide) rfl rr) (KO (iv W) 3 true 22 rfl rfl rfl rfl rfl (KR rfl rfl Tryz.underlying3 ab rfl rfl rr) (KO (.bool true) 3 true 22 rfl rfl rfl rfl rfl (Nc rfl rfl rfl (decide_eq_true aG) rr) (KG (.bool true) rfl rfl (Ld rfl rfl rfl rr) (KG (.bool true) rfl rfl (KN rfl rfl rr) (KI 8 false 27 rfl rfl rfl (Or.inl rfl) rfl (KI 8 false 27 rfl rfl rfl (Or.inl rfl) rfl ?_)))))))))))
    refine KI 8 false 27 rfl rfl rfl (Or.inl rfl) rfl (KI 8 false 27 rfl rfl rfl (Or.inl rfl) rfl (KI 12 true 31 rfl rfl rfl (Or.inr rfl) rfl (KI 12 true 31 rfl rfl rfl (Or.inr rfl) rfl (KI 12 true 31 rfl rfl rfl (Or.inr rfl) rfl (KI 8 false 27 rfl rfl rfl (Or.inl rfl) rfl (KG (.bool true) rfl rfl (Ld rfl rfl rfl rr) (KG (.bool true) rfl rfl (KN rfl rfl rr) (KI 18 false 37 rfl rfl rfl (Or.inl rfl) rfl (KI 18 false 37 rfl rfl rfl (Or.inl rfl) rfl (KI 18 false 37 rfl rfl rfl (Or.inl rfl) rfl (KG (.bool true) rfl rfl (Ld rfl rfl rfl rr) ?_)))))))))))
    refine KG (.bool true) rfl rfl (KN rfl rfl rr) (KI 23 false 42 rfl rfl rfl (Or.inl rfl) rfl (KI 23 false 42 rfl rfl rfl (Or.inl rfl) rfl (KI 23 false 42 rfl rfl rfl (Or.inl rfl) rfl (KG (.bool true) rfl rfl (Ld rfl rfl rfl rr) (KG (.bool true) rfl rfl (KN rfl rfl rr) (KI 28 false 47 rfl rfl rfl (Or.inl rfl) rfl (KI 28 false 47 rfl rfl rfl (Or.inl rfl) rfl (KI 28 false 47 rfl rfl rfl (Or.inl rfl) rfl (KG (.bool true) rfl rfl (Ld rfl rfl rfl rr) (KL ?_))))))))))
    have eV:=K4 (.bool true)
    exact⟨eV.trans (congrArg Value.bool (show true=decide (NP W H\/1000<l.length\/M3 g=false\/M3 h=false) from (by rw[Bool.eq_iff_iff,decide_eq_true_iff];unfold NP;first|(simp[*];done)|(simp[*];omega)|(simp_all;done)|(simp_all;omega)))),ae,aa,ap,ah,an,aA,ao,az,af,ai,aj,ak,aq,ar,au,ab,av,am,aw⟩
   ·skip
    by_cases aH:16<H
    ·skip
     by_cases a8:H<=64
     ·skip
      refine KF (KG (pt p1 0) rfl rfl (KQ (n:=1) rfl aa Tryz.underlying23 rfl (by kernel_rfl) (by decide) rfl rr) (KG (iv W) rfl rfl (KR rfl rfl Tryz.underlying3 ab rfl rfl rr) (KG (.bool true) rfl rfl (Mp rfl rfl rfl (decide_eq_true aB) rr) (KG (.bool true) rfl rfl (KN rfl rfl rr) (KO (pt p1 0) 3 true 22 rfl rfl rfl rfl rfl (KQ (n:=1) rfl aa Tryz.underlying23 rfl (by kernel_rfl) (by decide) rfl rr) (KO (iv W) 3 true 22 rfl rfl rfl rfl rfl (KR rfl rfl Tryz.underlying3 ab rfl rfl rr) (KO (.bool false) 3 true 22 rfl rfl rfl rfl rfl (Nc rfl rfl rfl (decide_eq_false aG) rr) (KG (.bool false) rfl rfl (Ld rfl rfl rfl rr) (KG (.bool false) rfl rfl (KN rfl rfl rr) (KO (pt p1 1) 8 false 27 rfl rfl rfl rfl rfl (KQ (n:=1) rfl aa Tryz.underlying23 rfl (by kernel_rfl) (by decide) rfl rr) (KO (iv H) 8 false 27 rfl rfl rfl rfl rfl (KR rfl rfl Tryz.underlying3 ab rfl rfl rr) ?_)))))))))))
      refine KO (.bool true) 8 false 27 rfl rfl rfl rfl rfl (Mp rfl rfl rfl (decide_eq_true aH) rr) (KO (.bool true) 8 false 27 rfl rfl rfl rfl rfl (KN rfl rfl rr) (KO (pt p1 1) 12 true 31 rfl rfl rfl rfl rfl (KQ (n:=1) rfl aa Tryz.underlying23 rfl (by kernel_rfl) (by decide) rfl rr) (KO (iv H) 12 true 31 rfl rfl rfl rfl rfl (KR rfl rfl Tryz.underlying3 ab rfl rfl rr) (KO (.bool true) 12 true 31 rfl rfl rfl rfl rfl (Nc rfl rfl rfl (decide_eq_true a8) rr) (KO (.bool true) 8 false 27 rfl rfl rfl rfl rfl (Ld rfl rfl rfl rr) (KG (.bool true) rfl rfl (K6 rfl rfl rfl rr) (KG (.bool true) rfl rfl (KN rfl rfl rr) (KI 18 false 37 rfl rfl rfl (Or.inl rfl) rfl (KI 18 false 37 rfl rfl rfl (Or.inl rfl) rfl (KI 18 false 37 rfl rfl rfl (Or.inl rfl) rfl (KG (.bool true) rfl rfl (Ld rfl rfl rfl rr) ?_)))))))))))
      refine KG (.bool true) rfl rfl (KN rfl rfl rr) (KI 23 false 42 rfl rfl rfl (Or.inl rfl) rfl (KI 23 false 42 rfl rfl rfl (Or.inl rfl) rfl (KI 23 false 42 rfl rfl rfl (Or.inl rfl) rfl (KG (.bool true) rfl rfl (Ld rfl rfl rfl rr) (KG (.bool true) rfl rfl (KN rfl rfl rr) (KI 28 false 47 rfl rfl rfl (Or.inl rfl) rfl (KI 28 false 47 rfl rfl rfl (Or.inl rfl) rfl (KI 28 false 47 rfl rfl rfl (Or.inl rfl) rfl (KG (.bool true) rfl rfl (Ld rfl rfl rfl rr) (KL ?_))))))))))
      have eW:=K4 (.bool true)
      exact⟨eW.trans (congrArg Value.bool (show true=decide (NP W H\/1000<l.length\/M3 g=false\/M3 h=false) from (by rw[Bool.eq_iff_iff,decide_eq_true_iff];unfold NP;first|(simp[*];done)|(simp[*];omega)|(simp_all;done)|(simp_all;omega)))),ae,aa,ap,ah,an,aA,ao,az,af,ai,aj,ak,aq,ar,au,ab,av,am,aw⟩
     ·skip
      by_cases bo:1000<((l.length:Nat):Int)
      ·skip
       refine KF (KG (pt p1 0) rfl rfl (KQ (n:=1) rfl aa Tryz.underlying23 rfl (by kernel_rfl) (by decide) rfl rr) (KG (iv W) rfl rfl (KR rfl rfl Tryz.underlying3 ab rfl rfl rr) (KG (.bool true) rfl rfl (Mp rfl rfl rfl (decide_eq_true aB) rr) (KG (.bool true) rfl rfl (KN rfl rfl rr) (KO (pt p1 0) 3 true 22 rfl rfl rfl rfl rfl (KQ (n:=1) rfl aa Tryz.underlying23 rfl (by kernel_rfl) (by decide) rfl rr) (KO (iv W) 3 true 22 rfl rfl rfl rfl rfl (KR rfl rfl Tryz.underlying3 ab rfl rfl rr) (KO (.bool false) 3 true 22 rfl rfl rfl rfl rfl (Nc rfl rfl rfl (decide_eq_false aG) rr) (KG (.bool false) rfl rfl (Ld rfl rfl rfl rr) (KG (.bool false) rfl rfl (KN rfl rfl rr) (KO (pt p1 1) 8 false 27 rfl rfl rfl rfl rfl (KQ (n:=1) rfl aa Tryz.underlying23 rfl (by kernel_rfl) (by decide) rfl rr) (KO (iv H) 8 false 27 rfl rfl rfl rfl rfl (KR rfl rfl Tryz.underlying3 ab rfl rfl rr) ?_)))))))))))
       refine KO (.bool true) 8 false 27 rfl rfl rfl rfl rfl (Mp rfl rfl rfl (decide_eq_true aH) rr) (KO (.bool true) 8 false 27 rfl rfl rfl rfl rfl (KN rfl rfl rr) (KO (pt p1 1) 12 true 31 rfl rfl rfl rfl rfl (KQ (n:=1) rfl aa Tryz.underlying23 rfl (by kernel_rfl) (by decide) rfl rr) (KO (iv H) 12 true 31 rfl rfl rfl rfl rfl (KR rfl rfl Tryz.underlying3 ab rfl rfl rr) (KO (.bool false) 12 true 31 rfl rfl rfl rfl rfl (Nc rfl rfl rfl (decide_eq_false a8) rr) (KO (.bool false) 8 false 27 rfl rfl rfl rfl rfl (Ld rfl rfl rfl rr) (KG (.bool false) rfl rfl (K6 rfl rfl rfl rr) (KG (.bool false) rfl rfl (KN rfl rfl rr) (KO v 18 false 37 rfl rfl rfl rfl rfl (KN rfl ae rr) (KO (iv ((l.length:Nat):Int)) 18 false 37 rfl rfl rfl rfl rfl (M0 rfl rfl rfl af rr) (KO (.bool true) 18 false 37 rfl rfl rfl rfl rfl (Mp rfl rfl rfl (decide_eq_true bo) rr) (KG (.bool true) rfl rfl (K6 rfl rfl rfl rr) ?_)))))))))))
       refine KG (.bool true) rfl rfl (KN rfl rfl rr) (KI 23 false 42 rfl rfl rfl (Or.inl rfl) rfl (KI 23 false 42 rfl rfl rfl (Or.inl rfl) rfl (KI 23 false 42 rfl rfl rfl (Or.inl rfl) rfl (KG (.bool true) rfl rfl (Ld rfl rfl rfl rr) (KG (.bool true) rfl rfl (KN rfl rfl rr) (KI 28 false 47 rfl rfl rfl (Or.inl rfl) rfl (KI 28 false 47 rfl rfl rfl (Or.inl rfl) rfl (KI 28 false 47 rfl rfl rfl (Or.inl rfl) rfl (KG (.bool true) rfl rfl (Ld rfl rfl rfl rr) (KL ?_))))))))))
       have eX:=K4 (.bool true)
       exact⟨eX.trans (congrArg Value.bool (show true=decide (NP W H\/1000<l.length\/M3 g=false\/M3 h=false) from (by rw[Bool.eq_iff_iff,decide_eq_true_iff];unfold NP;first|(simp[*];done)|(simp[*];omega)|(simp_all;done)|(simp_all;omega)))),ae,aa,ap,ah,an,aA,ao,az,af,ai,aj,ak,aq,ar,au,ab,av,am,aw⟩
      ·skip
       rcases Bool.eq_false_or_eq_true (M3 g) with bp|bp
       ·skip
        rcases Bool.eq_false_or_eq_true (M3 h) with bI|bI
        ·skip
         refine KF (KG (pt p1 0) rfl rfl (KQ (n:=1) rfl aa Tryz.underlying23 rfl (by kernel_rfl) (by decide) rfl rr) (KG (iv W) rfl rfl (KR rfl rfl Tryz.underlying3 ab rfl rfl rr) (KG (.bool true) rfl rfl (Mp rfl rfl rfl (decide_eq_true aB) rr) (KG (.bool true) rfl rfl (KN rfl rfl rr) (KO (pt p1 0) 3 true 22 rfl rfl rfl rfl rfl (KQ (n:=1) rfl aa Tryz.underlying23 rfl (by kernel_rfl) (by decide) rfl rr) (KO (iv W) 3 true 22 rfl rfl rfl rfl rfl (KR rfl rfl Tryz.underlying3 ab rfl rfl rr) (KO (.bool false) 3 true 22 rfl rfl rfl rfl rfl (Nc rfl rfl rfl (decide_eq_false aG) rr) (KG (.bool false) rfl rfl (Ld rfl rfl rfl rr) (KG (.bool false) rfl rfl (KN rfl rfl rr) (KO (pt p1 1) 8 false 27 rfl rfl rfl rfl rfl (KQ (n:=1) rfl aa Tryz.underlying23 rfl (by kernel_rfl) (by decide) rfl rr) (KO (iv H) 8 false 27 rfl rfl rfl rfl rfl (KR rfl rfl Tryz.underlying3 ab rfl rfl rr) ?_)))))))))))
         refine KO (.bool true) 8 false 27 rfl rfl rfl rfl rfl (Mp rfl rfl rfl (decide_eq_true aH) rr) (KO (.bool true) 8 false 27 rfl rfl rfl rfl rfl (KN rfl rfl rr) (KO (pt p1 1) 12 true 31 rfl rfl rfl rfl rfl (KQ (n:=1) rfl aa Tryz.underlying23 rfl (by kernel_rfl) (by decide) rfl rr) (KO (iv H) 12 true 31 rfl rfl rfl rfl rfl (KR rfl rfl Tryz.underlying3 ab rfl rfl rr) (KO (.bool false) 12 true 31 rfl rfl rfl rfl rfl (Nc rfl rfl rfl (decide_eq_false a8) rr) (KO (.bool false) 8 false 27 rfl rfl rfl rfl rfl (Ld rfl rfl rfl rr) (KG (.bool false) rfl rfl (K6 rfl rfl rfl rr) (KG (.bool false) rfl rfl (KN rfl rfl rr) (KO v 18 false 37 rfl rfl rfl rfl rfl (KN rfl ae rr) (KO (iv ((l.length:Nat):Int)) 18 false 37 rfl rfl rfl rfl rfl (M0 rfl rfl rfl af rr) (KO (.bool false) 18 false 37 rfl rfl rfl rfl rfl (Mp rfl rfl rfl (decide_eq_false bo) rr) (KG (.bool false) rfl rfl (K6 rfl rfl rfl rr) ?_)))))))))))
         refine KG (.bool false) rfl rfl (KN rfl rfl rr) (KO (.agg #[iv (g.W),iv (g.H),g0,g1,g2]) 23 false 42 rfl rfl rfl rfl rfl (KU KZ rfl ah am rr) (Lz (R:=fun v_ w_=>v_ = .bool true/\KM (fun _=>False) aE w_) 23 false 42 rfl rfl rfl rfl rfl (LE rfl rfl rfl (fun _ _=>by kernel_rfl) (K2 _) (Lj rfl LP) (MR g g0 g1 g2 T_g0 T_g1 T_g2 _  ai aj ak ) (fun e_ w_ h_=>⟨_,h_.1,(congrArg Value.bool bp),h_.2⟩)) ?_))
         rintro _ eY ⟨rfl,bU⟩
         obtain⟨eZ,e6,e7,e8,bV,bW,bX,e9,fa,fb,bY⟩:=N5 bU af ai aj ak aq ar au ab av am aw
         refine KO (.bool false) 23 false 42 rfl rfl rfl rfl rfl (LT rfl rfl rfl rr) (KG (.bool false) rfl rfl (K6 rfl rfl rfl rr) (KG (.bool false) rfl rfl (KN rfl rfl rr) (KO (.agg #[iv (h.W),iv (h.H),h0,h1,h2]) 28 false 47 rfl rfl rfl rfl rfl (KU KZ rfl an bY rr) (Lz (R:=fun v_ w_=>v_ = .bool true/\KM (fun _=>False) eY w_) 28 false 47 rfl rfl rfl rfl rfl (LE rfl rfl rfl (fun _ _=>by kernel_rfl) (K2 _) (Lj rfl LP) (MR h h0 h1 h2 T_h0 T_h1 T_h2 _  bV bW bX ) (fun e_ w_ h_=>⟨_,h_.1,(congrArg Value.bool bI),h_.2⟩)) ?_))))
         rintro _ l7 ⟨rfl,bZ⟩
         obtain⟨fc,fd,fe,ff,fg,fh,fi,fj,fk,fm,fo⟩:=N5 bZ eZ e6 e7 e8 bV bW bX e9 fa fb bY
         refine KO (.bool false) 28 false 47 rfl rfl rfl rfl rfl (LT rfl rfl rfl rr) (KG (.bool false) rfl rfl (K6 rfl rfl rfl rr) (KL ?_))
         have fp:=K4 (.bool false)
         exact⟨fp.trans (congrArg Value.bool (show false=decide (NP W H\/1000<l.length\/M3 g=false\/M3 h=false) from (by rw[Bool.eq_iff_iff,decide_eq_true_iff];unfold NP;first|(simp[*];done)|(simp[*];omega)|(simp_all;done)|(simp_all;omega)))),ae,aa,ap,ah,an,aA,ao,((az.tr bU).tr bZ),fc,fd,fe,ff,fg,fh,fi,fj,fk,fm,fo⟩
        ·skip
         refine KF (KG (pt p1 0) rfl rfl (KQ (n:=1) rfl aa Tryz.underlying23 rfl (by kernel_rfl) (by decide) rfl rr) (KG (iv W) rfl rfl (KR rfl rfl Tryz.underlying3 ab rfl rfl rr) (KG (.bool true) rfl rfl (Mp rfl rfl rfl (decide_eq_true aB) rr) (KG (.bool true) rfl rfl (KN rfl rfl rr) (KO (pt p1 0) 3 true 22 rfl rfl rfl rfl rfl (KQ (n:=1) rfl aa Tryz.underlying23 rfl (by kernel_rfl) (by decide) rfl rr) (KO (iv W) 3 true 22 rfl rfl rfl rfl rfl (KR rfl rfl Tryz.underlying3 ab rfl rfl rr) (KO (.bool false) 3 true 22 rfl rfl rfl rfl rfl (Nc rfl rfl rfl (decide_eq_false aG) rr) (KG (.bool false) rfl rfl (Ld rfl rfl rfl rr) (KG (.bool false) rfl rfl (KN rfl rfl rr) (KO (pt p1 1) 8 false 27 rfl rfl rfl rfl rfl (KQ (n:=1) rfl aa Tryz.underlying23 rfl (by kernel_rfl) (by decide) rfl rr) (KO (iv H) 8 false 27 rfl rfl rfl rfl rfl (KR rfl rfl Tryz.underlying3 ab rfl rfl rr) ?_)))))))))))
         refine KO (.bool true) 8 false 27 rfl rfl rfl rfl rfl (Mp rfl rfl rfl (decide_eq_true aH) rr) (KO (.bool true) 8 false 27 rfl rfl rfl rfl rfl (KN rfl rfl rr) (KO (pt p1 1) 12 true 31 rfl rfl rfl rfl rfl (KQ (n:=1) rfl aa Tryz.underlying23 rfl (by kernel_rfl) (by decide) rfl rr) (KO (iv H) 12 true 31 rfl rfl rfl rfl rfl (KR rfl rfl Tryz.underlying3 ab rfl rfl rr) (KO (.bool false) 12 true 31 rfl rfl rfl rfl rfl (Nc rfl rfl rfl (decide_eq_false a8) rr) (KO (.bool false) 8 false 27 rfl rfl rfl rfl rfl (Ld rfl rfl rfl rr) (KG (.bool false) rfl rfl (K6 rfl rfl rfl rr) (KG (.bool false) rfl rfl (KN rfl rfl rr) (KO v 18 false 37 rfl rfl rfl rfl rfl (KN rfl ae rr) (KO (iv ((l.length:Nat):Int)) 18 false 37 rfl rfl rfl rfl rfl (M0 rfl rfl rfl af rr) (KO (.bool false) 18 false 37 rfl rfl rfl rfl rfl (Mp rfl rfl rfl (decide_eq_false bo) rr) (KG (.bool false) rfl rfl (K6 rfl rfl rfl rr) ?_)))))))))))
         refine KG (.bool false) rfl rfl (KN rfl rfl rr) (KO (.agg #[iv (g.W),iv (g.H),g0,g1,g2]) 23 false 42 rfl rfl rfl rfl rfl (KU KZ rfl ah am rr) (Lz (R:=fun v_ w_=>v_ = .bool true/\KM (fun _=>False) aE w_) 23 false 42 rfl rfl rfl rfl rfl (LE rfl rfl rfl (fun _ _=>by kernel_rfl) (K2 _) (Lj rfl LP) (MR g g0 g1 g2 T_g0 T_g1 T_g2 _  ai aj ak ) (fun e_ w_ h_=>⟨_,h_.1,(congrArg Value.bool bp),h_.2⟩)) ?_))
         rintro _ fq ⟨rfl,b7⟩
         obtain⟨ft,fu,fw,fx,b8,b9,cd,fy,fA,fB,ce⟩:=N5 b7 af ai aj ak aq ar au ab av am aw
         refine KO (.bool false) 23 false 42 rfl rfl rfl rfl rfl (LT rfl rfl rfl rr) (KG (.bool false) rfl rfl (K6 rfl rfl rfl rr) (KG (.bool false) rfl rfl (KN rfl rfl rr) (KO (.agg #[iv (h.W),iv (h.H),h0,h1,h2]) 28 false 47 rfl rfl rfl rfl rfl (KU KZ rfl an ce rr) (Lz (R:=fun v_ w_=>v_ = .bool false/\KM (fun _=>False) fq w_) 28 false 47 rfl rfl rfl rfl rfl (LE rfl rfl rfl (fun _ _=>by kernel_rfl) (K2 _) (Lj rfl LP) (MR h h0 h1 h2 T_h0 T_h1 T_h2 _  b8 b9 cd ) (fun e_ w_ h_=>⟨_,h_.1,(congrArg Value.bool bI),h_.2⟩)) ?_))))
         rintro _ l8 ⟨rfl,cf⟩
         obtain⟨fC,fD,fE,fF,fG,fH,fI,fJ,fK,fL,fM⟩:=N5 cf ft fu fw fx b8 b9 cd fy fA fB ce
         refine KO (.bool true) 28 false 47 rfl rfl rfl rfl rfl (LT rfl rfl rfl rr) (KG (.bool true) rfl rfl (K6 rfl rfl rfl rr) (KL ?_))
         have fN:=K4 (.bool true)
         exact⟨fN.trans (congrArg Value.bool (show true=decide (NP W H\/1000<l.length\/M3 g=false\/M3 h=false) from (by rw[Bool.eq_iff_iff,decide_eq_true_iff];unfold NP;first|(simp[*];done)|(simp[*];omega)|(simp_all;done)|(simp_all;omega)))),ae,aa,ap,ah,an,aA,ao,((az.tr b7).tr cf),fC,fD,fE,fF,fG,fH,fI,fJ,fK,fL,fM⟩
       ·skip
        refine KF (KG (pt p1 0) rfl rfl (KQ (n:=1) rfl aa Tryz.underlying23 rfl (by kernel_rfl) (by decide) rfl rr) (KG (iv W) rfl rfl (KR rfl rfl Tryz.underlying3 ab rfl rfl rr) (KG (.bool true) rfl rfl (Mp rfl rfl rfl (decide_eq_true aB) rr) (KG (.bool true) rfl rfl (KN rfl rfl rr) (KO (pt p1 0) 3 true 22 rfl rfl rfl rfl rfl (KQ (n:=1) rfl aa Tryz.underlying23 rfl (by kernel_rfl) (by decide) rfl rr) (KO (iv W) 3 true 22 rfl rfl rfl rfl rfl (KR rfl rfl Tryz.underlying3 ab rfl rfl rr) (KO (.bool false) 3 true 22 rfl rfl rfl rfl rfl (Nc rfl rfl rfl (decide_eq_false aG) rr) (KG (.bool false) rfl rfl (Ld rfl rfl rfl rr) (KG (.bool false) rfl rfl (KN rfl rfl rr) (KO (pt p1 1) 8 false 27 rfl rfl rfl rfl rfl (KQ (n:=1) rfl aa Tryz.underlying23 rfl (by kernel_rfl) (by decide) rfl rr) (KO (iv H) 8 false 27 rfl rfl rfl rfl rfl (KR rfl rfl Tryz.underlying3 ab rfl rfl rr) ?_)))))))))))
        refine KO (.bool true) 8 false 27 rfl rfl rfl rfl rfl (Mp rfl rfl rfl (decide_eq_true aH) rr) (KO (.bool true) 8 false 27 rfl rfl rfl rfl rfl (KN rfl rfl rr) (KO (pt p1 1) 12 true 31 rfl rfl rfl rfl rfl (KQ (n:=1) rfl aa Tryz.underlying23 rfl (by kernel_rfl) (by decide) rfl rr) (KO (iv H) 12 true 31 rfl rfl rfl rfl rfl (KR rfl rfl Tryz.underlying3 ab rfl rfl rr) (KO (.bool false) 12 true 31 rfl rfl rfl rfl rfl (Nc rfl rfl rfl (decide_eq_false a8) rr) (KO (.bool false) 8 false 27 rfl rfl rfl rfl rfl (Ld rfl rfl rfl rr) (KG (.bool false) rfl rfl (K6 rfl rfl rfl rr) (KG (.bool false) rfl rfl (KN rfl rfl rr) (KO v 18 false 37 rfl rfl rfl rfl rfl (KN rfl ae rr) (KO (iv ((l.length:Nat):Int)) 18 false 37 rfl rfl rfl rfl rfl (M0 rfl rfl rfl af rr) (KO (.bool false) 18 false 37 rfl rfl rfl rfl rfl (Mp rfl rfl rfl (decide_eq_false bo) rr) (KG (.bool false) rfl rfl (K6 rfl rfl rfl rr) ?_)))))))))))
        refine KG (.bool false) rfl rfl (KN rfl rfl rr) (KO (.agg #[iv (g.W),iv (g.H),g0,g1,g2]) 23 false 42 rfl rfl rfl rfl rfl (KU KZ rfl ah am rr) (Lz (R:=fun v_ w_=>v_ = .bool false/\KM (fun _=>False) aE w_) 23 false 42 rfl rfl rfl rfl rfl (LE rfl rfl rfl (fun _ _=>by kernel_rfl) (K2 _) (Lj rfl LP) (MR g g0 g1 g2 T_g0 T_g1 T_g2 _  ai aj ak ) (fun e_ w_ h_=>⟨_,h_.1,(congrArg Value.bool bp),h_.2⟩)) ?_))
        rintro _ l9 ⟨rfl,cg⟩
        obtain⟨fO,fP,fQ,fR,fS,fT,fU,fV,fW,fX,fY⟩:=N5 cg af ai aj ak aq ar au ab av am aw
        refine KO (.bool true) 23 false 42 rfl rfl rfl rfl rfl (LT rfl rfl rfl rr) (KG (.bool true) rfl rfl (K6 rfl rfl rfl rr) (KG (.bool true) rfl rfl (KN rfl rfl rr) (KI 28 false 47 rfl rfl rfl (Or.inl rfl) rfl (KI 28 false 47 rfl rfl rfl (Or.inl rfl) rfl (KI 28 false 47 rfl rfl rfl (Or.inl rfl) rfl (KG (.bool true) rfl rfl (Ld rfl rfl rfl rr) (KL ?_)))))))
        have fZ:=K4 (.bool true)
        exact⟨fZ.trans (congrArg Value.bool (show true=decide (NP W H\/1000<l.length\/M3 g=false\/M3 h=false) from (by rw[Bool.eq_iff_iff,decide_eq_true_iff];unfold NP;first|(simp[*];done)|(simp[*];omega)|(simp_all;done)|(simp_all;omega)))),ae,aa,ap,ah,an,aA,ao,(az.tr cg),fO,fP,fQ,fR,fS,fT,fU,fV,fW,fX,fY⟩
    ·skip
     by_cases bq:1000<((l.length:Nat):Int)
     ·skip
      refine KF (KG (pt p1 0) rfl rfl (KQ (n:=1) rfl aa Tryz.underlying23 rfl (by kernel_rfl) (by decide) rfl rr) (KG (iv W) rfl rfl (KR rfl rfl Tryz.underlying3 ab rfl rfl rr) (KG (.bool true) rfl rfl (Mp rfl rfl rfl (decide_eq_true aB) rr) (KG (.bool true) rfl rfl (KN rfl rfl rr) (KO (pt p1 0) 3 true 22 rfl rfl rfl rfl rfl (KQ (n:=1) rfl aa Tryz.underlying23 rfl (by kernel_rfl) (by decide) rfl rr) (KO (iv W) 3 true 22 rfl rfl rfl rfl rfl (KR rfl rfl Tryz.underlying3 ab rfl rfl rr) (KO (.bool false) 3 true 22 rfl rfl rfl rfl rfl (Nc rfl rfl rfl (decide_eq_false aG) rr) (KG (.bool false) rfl rfl (Ld rfl rfl rfl rr) (KG (.bool false) rfl rfl (KN rfl rfl rr) (KO (pt p1 1) 8 false 27 rfl rfl rfl rfl rfl (KQ (n:=1) rfl aa Tryz.underlying23 rfl (by kernel_rfl) (by decide) rfl rr) (KO (iv H) 8 false 27 rfl rfl rfl rfl rfl (KR rfl rfl Tryz.underlying3 ab rfl rfl rr) ?_)))))))))))
      refine KO (.bool false) 8 false 27 rfl rfl rfl rfl rfl (Mp rfl rfl rfl (decide_eq_false aH) rr) (KO (.bool false) 8 false 27 rfl rfl rfl rfl rfl (KN rfl rfl rr) (KI 12 true 31 rfl rfl rfl (Or.inl rfl) rfl (KI 12 true 31 rfl rfl rfl (Or.inl rfl) rfl (KI 12 true 31 rfl rfl rfl (Or.inl rfl) rfl (KO (.bool false) 8 false 27 rfl rfl rfl rfl rfl (K6 rfl rfl rfl rr) (KG (.bool false) rfl rfl (K6 rfl rfl rfl rr) (KG (.bool false) rfl rfl (KN rfl rfl rr) (KO v 18 false 37 rfl rfl rfl rfl rfl (KN rfl ae rr) (KO (iv ((l.length:Nat):Int)) 18 false 37 rfl rfl rfl rfl rfl (M0 rfl rfl rfl af rr) (KO (.bool true) 18 false 37 rfl rfl rfl rfl rfl (Mp rfl rfl rfl (decide_eq_true bq) rr) (KG (.bool true) rfl rfl (K6 rfl rfl rfl rr) ?_)))))))))))
      refine KG (.bool true) rfl rfl (KN rfl rfl rr) (KI 23 false 42 rfl rfl rfl (Or.inl rfl) rfl (KI 23 false 42 rfl rfl rfl (Or.inl rfl) rfl (KI 23 false 42 rfl rfl rfl (Or.inl rfl) rfl (KG (.bool true) rfl rfl (Ld rfl rfl rfl rr) (KG (.bool true) rfl rfl (KN rfl rfl rr) (KI 28 false 47 rfl rfl rfl (Or.inl rfl) rfl (KI 28 false 47 rfl rfl rfl (Or.inl rfl) rfl (KI 28 false 47 rfl rfl rfl (Or.inl rfl) rfl (KG (.bool true) rfl rfl (Ld rfl rfl rfl rr) (KL ?_))))))))))
      have f5:=K4 (.bool true)
      exact⟨f5.trans (congrArg Value.bool (show true=decide (NP W H\/1000<l.length\/M3 g=false\/M3 h=false) from (by rw[Bool.eq_iff_iff,decide_eq_true_iff];unfold NP;first|(simp[*];done)|(simp[*];omega)|(simp_all;done)|(simp_all;omega)))),ae,aa,ap,ah,an,aA,ao,az,af,ai,aj,ak,aq,ar,au,ab,av,am,aw⟩
     ·skip
      rcases Bool.eq_false_or_eq_true (M3 g) with bt|bt
      ·skip
       rcases Bool.eq_false_or_eq_true (M3 h) with bJ|bJ
       ·skip
        refine KF (KG (pt p1 0) rfl rfl (KQ (n:=1) rfl aa Tryz.underlying23 rfl (by kernel_rfl) (by decide) rfl rr) (KG (iv W) rfl rfl (KR rfl rfl Tryz.underlying3 ab rfl rfl rr) (KG (.bool true) rfl rfl (Mp rfl rfl rfl (decide_eq_true aB) rr) (KG (.bool true) rfl rfl (KN rfl rfl rr) (KO (pt p1 0) 3 true 22 rfl rfl rfl rfl rfl (KQ (n:=1) rfl aa Tryz.underlying23 rfl (by kernel_rfl) (by decide) rfl rr) (KO (iv W) 3 true 22 rfl rfl rfl rfl rfl (KR rfl rfl Tryz.underlying3 ab rfl rfl rr) (KO (.bool false) 3 true 22 rfl rfl rfl rfl rfl (Nc rfl rfl rfl (decide_eq_false aG) rr) (KG (.bool false) rfl rfl (Ld rfl rfl rfl rr) (KG (.bool false) rfl rfl (KN rfl rfl rr) (KO (pt p1 1) 8 false 27 rfl rfl rfl rfl rfl (KQ (n:=1) rfl aa Tryz.underlying23 rfl (by kernel_rfl) (by decide) rfl rr) (KO (iv H) 8 false 27 rfl rfl rfl rfl rfl (KR rfl rfl Tryz.underlying3 ab rfl rfl rr) ?_)))))))))))
        refine KO (.bool false) 8 false 27 rfl rfl rfl rfl rfl (Mp rfl rfl rfl (decide_eq_false aH) rr) (KO (.bool false) 8 false 27 rfl rfl rfl rfl rfl (KN rfl rfl rr) (KI 12 true 31 rfl rfl rfl (Or.inl rfl) rfl (KI 12 true 31 rfl rfl rfl (Or.inl rfl) rfl (KI 12 true 31 rfl rfl rfl (Or.inl rfl) rfl (KO (.bool false) 8 false 27 rfl rfl rfl rfl rfl (K6 rfl rfl rfl rr) (KG (.bool false) rfl rfl (K6 rfl rfl rfl rr) (KG (.bool false) rfl rfl (KN rfl rfl rr) (KO v 18 false 37 rfl rfl rfl rfl rfl (KN rfl ae rr) (KO (iv ((l.length:Nat):Int)) 18 false 37 rfl rfl rfl rfl rfl (M0 rfl rfl rfl af rr) (KO (.bool false) 18 false 37 rfl rfl rfl rfl rfl (Mp rfl rfl rfl (decide_eq_false bq) rr) (KG (.bool false) rfl rfl (K6 rfl rfl rfl rr) ?_)))))))))))
        refine KG (.bool false) rfl rfl (KN rfl rfl rr) (KO (.agg #[iv (g.W),iv (g.H),g0,g1,g2]) 23 false 42 rfl rfl rfl rfl rfl (KU KZ rfl ah am rr) (Lz (R:=fun v_ w_=>v_ = .bool true/\KM (fun _=>False) aE w_) 23 false 42 rfl rfl rfl rfl rfl (LE rfl rfl rfl (fun _ _=>by kernel_rfl) (K2 _) (Lj rfl LP) (MR g g0 g1 g2 T_g0 T_g1 T_g2 _  ai aj ak ) (fun e_ w_ h_=>⟨_,h_.1,(congrArg Value.bool bt),h_.2⟩)) ?_))
        rintro _ f6 ⟨rfl,ci⟩
        obtain⟨f8,f9,ga,gb,cj,cm,cn,gc,gd,ge,co⟩:=N5 ci af ai aj ak aq ar au ab av am aw
        refine KO (.bool false) 23 false 42 rfl rfl rfl rfl rfl (LT rfl rfl rfl rr) (KG (.bool false) rfl rfl (K6 rfl rfl rfl rr) (KG (.bool false) rfl rfl (KN rfl rfl rr) (KO (.agg #[iv (h.W),iv (h.H),h0,h1,h2]) 28 false 47 rfl rfl rfl rfl rfl (KU KZ rfl an co rr) (Lz (R:=fun v_ w_=>v_ = .bool true/\KM (fun _=>False) f6 w_) 28 false 47 rfl rfl rfl rfl rfl (LE rfl rfl rfl (fun _ _=>by kernel_rfl) (K2 _) (Lj rfl LP) (MR h h0 h1 h2 T_h0 T_h1 T_h2 _  cj cm cn ) (fun e_ w_ h_=>⟨_,h_.1,(congrArg Value.bool bJ),h_.2⟩)) ?_))))
        rintro _ ma ⟨rfl,cq⟩
        obtain⟨gh,gi,gj,gl,gm,gn,go,gp,gq,gr,gt⟩:=N5 cq f8 f9 ga gb cj cm cn gc gd ge co
        refine KO (.bool false) 28 false 47 rfl rfl rfl rfl rfl (LT rfl rfl rfl rr) (KG (.bool false) rfl rfl (K6 rfl rfl rfl rr) (KL ?_))
        have gu:=K4 (.bool false)
        exact⟨gu.trans (congrArg Value.bool (show false=decide (NP W H\/1000<l.length\/M3 g=false\/M3 h=false) from (by rw[Bool.eq_iff_iff,decide_eq_true_iff];unfold NP;first|(simp[*];done)|(simp[*];omega)|(simp_all;done)|(simp_all;omega)))),ae,aa,ap,ah,an,aA,ao,((az.tr ci).tr cq),gh,gi,gj,gl,gm,gn,go,gp,gq,gr,gt⟩
       ·skip
        refine KF (KG (pt p1 0) rfl rfl (KQ (n:=1) rfl aa Tryz.underlying23 rfl (by kernel_rfl) (by decide) rfl rr) (KG (iv W) rfl rfl (KR rfl rfl Tryz.underlying3 ab rfl rfl rr) (KG (.bool true) rfl rfl (Mp rfl rfl rfl (decide_eq_true aB) rr) (KG (.bool true) rfl rfl (KN rfl rfl rr) (KO (pt p1 0) 3 true 22 rfl rfl rfl rfl rfl (KQ (n:=1) rfl aa Tryz.underlying23 rfl (by kernel_rfl) (by decide) rfl rr) (KO (iv W) 3 true 22 rfl rfl rfl rfl rfl (KR rfl rfl Tryz.underlying3 ab rfl rfl rr) (KO (.bool false) 3 true 22 rfl rfl rfl rfl rfl (Nc rfl rfl rfl (decide_eq_false aG) rr) (KG (.bool false) rfl rfl (Ld rfl rfl rfl rr) (KG (.bool false) rfl rfl (KN rfl rfl rr) (KO (pt p1 1) 8 false 27 rfl rfl rfl rfl rfl (KQ (n:=1) rfl aa Tryz.underlying23 rfl (by kernel_rfl) (by decide) rfl rr) (KO (iv H) 8 false 27 rfl rfl rfl rfl rfl (KR rfl rfl Tryz.underlying3 ab rfl rfl rr) ?_)))))))))))
        refine KO (.bool false) 8 false 27 rfl rfl rfl rfl rfl (Mp rfl rfl rfl (decide_eq_false aH) rr) (KO (.bool false) 8 false 27 rfl rfl rfl rfl rfl (KN rfl rfl rr) (KI 12 true 31 rfl rfl rfl (Or.inl rfl) rfl (KI 12 true 31 rfl rfl rfl (Or.inl rfl) rfl (KI 12 true 31 rfl rfl rfl (Or.inl rfl) rfl (KO (.bool false) 8 false 27 rfl rfl rfl rfl rfl (K6 rfl rfl rfl rr) (KG (.bool false) rfl rfl (K6 rfl rfl rfl rr) (KG (.bool false) rfl rfl (KN rfl rfl rr) (KO v 18 false 37 rfl rfl rfl rfl rfl (KN rfl ae rr) (KO (iv ((l.length:Nat):Int)) 18 false 37 rfl rfl rfl rfl rfl (M0 rfl rfl rfl af rr) (KO (.bool false) 18 false 37 rfl rfl rfl rfl rfl (Mp rfl rfl rfl (decide_eq_false bq) rr) (KG (.bool false) rfl rfl (K6 rfl rfl rfl rr) ?_)))))))))))
        refine KG (.bool false) rfl rfl (KN rfl rfl rr) (KO (.agg #[iv (g.W),iv (g.H),g0,g1,g2]) 23 false 42 rfl rfl rfl rfl rfl (KU KZ rfl ah am rr) (Lz (R:=fun v_ w_=>v_ = .bool true/\KM (fun _=>False) aE w_) 23 false 42 rfl rfl rfl rfl rfl (LE rfl rfl rfl (fun _ _=>by kernel_rfl) (K2 _) (Lj rfl LP) (MR g g0 g1 g2 T_g0 T_g1 T_g2 _  ai aj ak ) (fun e_ w_ h_=>⟨_,h_.1,(congrArg Value.bool bt),h_.2⟩)) ?_))
        rintro _ gv ⟨rfl,cr⟩
        obtain⟨gw,gz,gA,gB,ct,cu,cv,gC,gD,gE,cw⟩:=N5 cr af ai aj ak aq ar au ab av am aw
        refine KO (.bool false) 23 false 42 rfl rfl rfl rfl rfl (LT rfl rfl rfl rr) (KG (.bool false) rfl rfl (K6 rfl rfl rfl rr) (KG (.bool false) rfl rfl (KN rfl rfl rr) (KO (.agg #[iv (h.W),iv (h.H),h0,h1,h2]) 28 false 47 rfl rfl rfl rfl rfl (KU KZ rfl an cw rr) (Lz (R:=fun v_ w_=>v_ = .bool false/\KM (fun _=>False) gv w_) 28 false 47 rfl rfl rfl rfl rfl (LE rfl rfl rfl (fun _ _=>by kernel_rfl) (K2 _) (Lj rfl LP) (MR h h0 h1 h2 T_h0 T_h1 T_h2 _  ct cu cv ) (fun e_ w_ h_=>⟨_,h_.1,(congrArg Value.bool bJ),h_.2⟩)) ?_))))
        rintro _ mb ⟨rfl,cy⟩
        obtain⟨gF,gG,gH,gI,gJ,gK,gL,gM,gN,gO,gP⟩:=N5 cy gw gz gA gB ct cu cv gC gD gE cw
        refine KO (.bool true) 28 false 47 rfl rfl rfl rfl rfl (LT rfl rfl rfl rr) (KG (.bool true) rfl rfl (K6 rfl rfl rfl rr) (KL ?_))
        have gQ:=K4 (.bool true)
        exact⟨gQ.trans (congrArg Value.bool (show true=decide (NP W H\/1000<l.length\/M3 g=false\/M3 h=false) from (by rw[Bool.eq_iff_iff,decide_eq_true_iff];unfold NP;first|(simp[*];done)|(simp[*];omega)|(simp_all;done)|(simp_all;omega)))),ae,aa,ap,ah,an,aA,ao,((az.tr cr).tr cy),gF,gG,gH,gI,gJ,gK,gL,gM,gN,gO,gP⟩
      ·skip
       refine KF (KG (pt p1 0) rfl rfl (KQ (n:=1) rfl aa Tryz.underlying23 rfl (by kernel_rfl) (by decide) rfl rr) (KG (iv W) rfl rfl (KR rfl rfl Tryz.underlying3 ab rfl rfl rr) (KG (.bool true) rfl rfl (Mp rfl rfl rfl (decide_eq_true aB) rr) (KG (.bool true) rfl rfl (KN rfl rfl rr) (KO (pt p1 0) 3 true 22 rfl rfl rfl rfl rfl (KQ (n:=1) rfl aa Tryz.underlying23 rfl (by kernel_rfl) (by decide) rfl rr) (KO (iv W) 3 true 22 rfl rfl rfl rfl rfl (KR rfl rfl Tryz.underlying3 ab rfl rfl rr) (KO (.bool false) 3 true 22 rfl rfl rfl rfl rfl (Nc rfl rfl rfl (decide_eq_false aG) rr) (KG (.bool false) rfl rfl (Ld rfl rfl rfl rr) (KG (.bool false) rfl rfl (KN rfl rfl rr) (KO (pt p1 1) 8 false 27 rfl rfl rfl rfl rfl (KQ (n:=1) rfl aa Tryz.underlying23 rfl (by kernel_rfl) (by decide) rfl rr) (KO (iv H) 8 false 27 rfl rfl rfl rfl rfl (KR rfl rfl Tryz.underlying3 ab rfl rfl rr) ?_)))))))))))
       refine KO (.bool false) 8 false 27 rfl rfl rfl rfl rfl (Mp rfl rfl rfl (decide_eq_false aH) rr) (KO (.bool false) 8 false 27 rfl rfl rfl rfl rfl (KN rfl rfl rr) (KI 12 true 31 rfl rfl rfl (Or.inl rfl) rfl (KI 12 true 31 rfl rfl rfl (Or.inl rfl) rfl (KI 12 true 31 rfl rfl rfl (Or.inl rfl) rfl (KO (.bool false) 8 false 27 rfl rfl rfl rfl rfl (K6 rfl rfl rfl rr) (KG (.bool false) rfl rfl (K6 rfl rfl rfl rr) (KG (.bool false) rfl rfl (KN rfl rfl rr) (KO v 18 false 37 rfl rfl rfl rfl rfl (KN rfl ae rr) (KO (iv ((l.length:Nat):Int)) 18 false 37 rfl rfl rfl rfl rfl (M0 rfl rfl rfl af rr) (KO (.bool false) 18 false 37 rfl rfl rfl rfl rfl (Mp rfl rfl rfl (decide_eq_false bq) rr) (KG (.bool false) rfl rfl (K6 rfl rfl rfl rr) ?_)))))))))))
       refine KG (.bool false) rfl rfl (KN rfl rfl rr) (KO (.agg #[iv (g.W),iv (g.H),g0,g1,g2]) 23 false 42 rfl rfl rfl rfl rfl (KU KZ rfl ah am rr) (Lz (R:=fun v_ w_=>v_ = .bool false/\KM (fun _=>False) aE w_) 23 false 42 rfl rfl rfl rfl rfl (LE rfl rfl rfl (fun _ _=>by kernel_rfl) (K2 _) (Lj rfl LP) (MR g g0 g1 g2 T_g0 T_g1 T_g2 _  ai aj ak ) (fun e_ w_ h_=>⟨_,h_.1,(congrArg Value.bool bt),h_.2⟩)) ?_))
       rintro _ mc ⟨rfl,cz⟩
       obtain⟨gR,gS,gT,gU,gV,gW,gZ,hP,hQ,hZ,ia⟩:=N5 cz af ai aj ak aq ar au ab av am aw
       refine KO (.bool true) 23 false 42 rfl rfl rfl rfl rfl (LT rfl rfl rfl rr) (KG (.bool true) rfl rfl (K6 rfl rfl rfl rr) (KG (.bool true) rfl rfl (KN rfl rfl rr) (KI 28 false 47 rfl rfl rfl (Or.inl rfl) rfl (KI 28 false 47 rfl rfl rfl (Or.inl rfl) rfl (KI 28 false 47 rfl rfl rfl (Or.inl rfl) rfl (KG (.bool true) rfl rfl (Ld rfl rfl rfl rr) (KL ?_)))))))
       have ib:=K4 (.bool true)
       exact⟨ib.trans (congrArg Value.bool (show true=decide (NP W H\/1000<l.length\/M3 g=false\/M3 h=false) from (by rw[Bool.eq_iff_iff,decide_eq_true_iff];unfold NP;first|(simp[*];done)|(simp[*];omega)|(simp_all;done)|(simp_all;omega)))),ae,aa,ap,ah,an,aA,ao,(az.tr cz),gR,gS,gT,gU,gV,gW,gZ,hP,hQ,hZ,ia⟩
  ·skip
   by_cases aI:16<H
   ·skip
    by_cases a9:H<=64
    ·skip
     refine KF (KG (pt p1 0) rfl rfl (KQ (n:=1) rfl aa Tryz.underlying23 rfl (by kernel_rfl) (by decide) rfl rr) (KG (iv W) rfl rfl (KR rfl rfl Tryz.underlying3 ab rfl rfl rr) (KG (.bool false) rfl rfl (Mp rfl rfl rfl (decide_eq_false aB) rr) (KG (.bool false) rfl rfl (KN rfl rfl rr) (KI 3 true 22 rfl rfl rfl (Or.inl rfl) rfl (KI 3 true 22 rfl rfl rfl (Or.inl rfl) rfl (KI 3 true 22 rfl rfl rfl (Or.inl rfl) rfl (KG (.bool false) rfl rfl (K6 rfl rfl rfl rr) (KG (.bool false) rfl rfl (KN rfl rfl rr) (KO (pt p1 1) 8 false 27 rfl rfl rfl rfl rfl (KQ (n:=1) rfl aa Tryz.underlying23 rfl (by kernel_rfl) (by decide) rfl rr) (KO (iv H) 8 false 27 rfl rfl rfl rfl rfl (KR rfl rfl Tryz.underlying3 ab rfl rfl rr) ?_)))))))))))
     refine KO (.bool true) 8 false 27 rfl rfl rfl rfl rfl (Mp rfl rfl rfl (decide_eq_true aI) rr) (KO (.bool true) 8 false 27 rfl rfl rfl rfl rfl (KN rfl rfl rr) (KO (pt p1 1) 12 true 31 rfl rfl rfl rfl rfl (KQ (n:=1) rfl aa Tryz.underlying23 rfl (by kernel_rfl) (by decide) rfl rr) (KO (iv H) 12 true 31 rfl rfl rfl rfl rfl (KR rfl rfl Tryz.underlying3 ab rfl rfl rr) (KO (.bool true) 12 true 31 rfl rfl rfl rfl rfl (Nc rfl rfl rfl (decide_eq_true a9) rr) (KO (.bool true) 8 false 27 rfl rfl rfl rfl rfl (Ld rfl rfl rfl rr) (KG (.bool true) rfl rfl (K6 rfl rfl rfl rr) (KG (.bool true) rfl rfl (KN rfl rfl rr) (KI 18 false 37 rfl rfl rfl (Or.inl rfl) rfl (KI 18 false 37 rfl rfl rfl (Or.inl rfl) rfl (KI 18 false 37 rfl rfl rfl (Or.inl rfl) rfl (KG (.bool true) rfl rfl (Ld rfl rfl rfl rr) ?_)))))))))))
     refine KG (.bool true) rfl rfl (KN rfl rfl rr) (KI 23 false 42 rfl rfl rfl (Or.inl rfl) rfl (KI 23 false 42 rfl rfl rfl (Or.inl rfl) rfl (KI 23 false 42 rfl rfl rfl (Or.inl rfl) rfl (KG (.bool true) rfl rfl (Ld rfl rfl rfl rr) (KG (.bool true) rfl rfl (KN rfl rfl rr) (KI 28 false 47 rfl rfl rfl (Or.inl rfl) rfl (KI 28 false 47 rfl rfl rfl (Or.inl rfl) rfl (KI 28 false 47 rfl rfl rfl (Or.inl rfl) rfl (KG (.bool true) rfl rfl (Ld rfl rfl rfl rr) (KL ?_))))))))))
     have ie:=K4 (.bool true)
     exact⟨ie.trans (congrArg Value.bool (show true=decide (NP W H\/1000<l.length\/M3 g=false\/M3 h=false) from (by rw[Bool.eq_iff_iff,decide_eq_true_iff];unfold NP;first|(simp[*];done)|(simp[*];omega)|(simp_all;done)|(simp_all;omega)))),ae,aa,ap,ah,an,aA,ao,az,af,ai,aj,ak,aq,ar,au,ab,av,am,aw⟩
    ·skip
     by_cases bu:1000<((l.length:Nat):Int)
     ·skip
      refine KF (KG (pt p1 0) rfl rfl (KQ (n:=1) rfl aa Tryz.underlying23 rfl (by kernel_rfl) (by decide) rfl rr) (KG (iv W) rfl rfl (KR rfl rfl Tryz.underlying3 ab rfl rfl rr) (KG (.bool false) rfl rfl (Mp rfl rfl rfl (decide_eq_false aB) rr) (KG (.bool false) rfl rfl (KN rfl rfl rr) (KI 3 true 22 rfl rfl rfl (Or.inl rfl) rfl (KI 3 true 22 rfl rfl rfl (Or.inl rfl) rfl (KI 3 true 22 rfl rfl rfl (Or.inl rfl) rfl (KG (.bool false) rfl rfl (K6 rfl rfl rfl rr) (KG (.bool false) rfl rfl (KN rfl rfl rr) (KO (pt p1 1) 8 false 27 rfl rfl rfl rfl rfl (KQ (n:=1) rfl aa Tryz.underlying23 rfl (by kernel_rfl) (by decide) rfl rr) (KO (iv H) 8 false 27 rfl rfl rfl rfl rfl (KR rfl rfl Tryz.underlying3 ab rfl rfl rr) ?_)))))))))))
      refine KO (.bool true) 8 false 27 rfl rfl rfl rfl rfl (Mp rfl rfl rfl (decide_eq_true aI) rr) (KO (.bool true) 8 false 27 rfl rfl rfl rfl rfl (KN rfl rfl rr) (KO (pt p1 1) 12 true 31 rfl rfl rfl rfl rfl (KQ (n:=1) rfl aa Tryz.underlying23 rfl (by kernel_rfl) (by decide) rfl rr) (KO (iv H) 12 true 31 rfl rfl rfl rfl rfl (KR rfl rfl Tryz.underlying3 ab rfl rfl rr) (KO (.bool false) 12 true 31 rfl rfl rfl rfl rfl (Nc rfl rfl rfl (decide_eq_false a9) rr) (KO (.bool false) 8 false 27 rfl rfl rfl rfl rfl (Ld rfl rfl rfl rr) (KG (.bool false) rfl rfl (K6 rfl rfl rfl rr) (KG (.bool false) rfl rfl (KN rfl rfl rr) (KO v 18 false 37 rfl rfl rfl rfl rfl (KN rfl ae rr) (KO (iv ((l.length:Nat):Int)) 18 false 37 rfl rfl rfl rfl rfl (M0 rfl rfl rfl af rr) (KO (.bool true) 18 false 37 rfl rfl rfl rfl rfl (Mp rfl rfl rfl (decide_eq_true bu) rr) (KG (.bool true) rfl rfl (K6 rfl rfl rfl rr) ?_)))))))))))
      refine KG (.bool true) rfl rfl (KN rfl rfl rr) (KI 23 false 42 rfl rfl rfl (Or.inl rfl) rfl (KI 23 false 42 rfl rfl rfl (Or.inl rfl) rfl (KI 23 false 42 rfl rfl rfl (Or.inl rfl) rfl (KG (.bool true) rfl rfl (Ld rfl rfl rfl rr) (KG (.bool true) rfl rfl (KN rfl rfl rr) (KI 28 false 47 rfl rfl rfl (Or.inl rfl) rfl (KI 28 false 47 rfl rfl rfl (Or.inl rfl) rfl (KI 28 false 47 rfl rfl rfl (Or.inl rfl) rfl (KG (.bool true) rfl rfl (Ld rfl rfl rfl rr) (KL ?_))))))))))
      have ig:=K4 (.bool true)
      exact⟨ig.trans (congrArg Value.bool (show true=decide (NP W H\/1000<l.length\/M3 g=false\/M3 h=false) from (by rw[Bool.eq_iff_iff,decide_eq_true_iff];unfold NP;first|(simp[*];done)|(simp[*];omega)|(simp_all;done)|(simp_all;omega)))),ae,aa,ap,ah,an,aA,ao,az,af,ai,aj,ak,aq,ar,au,ab,av,am,aw⟩
     ·skip
      rcases Bool.eq_false_or_eq_true (M3 g) with bv|bv
      ·skip
       rcases Bool.eq_false_or_eq_true (M3 h) with bK|bK
       ·skip
        refine KF (KG (pt p1 0) rfl rfl (KQ (n:=1) rfl aa Tryz.underlying23 rfl (by kernel_rfl) (by decide) rfl rr) (KG (iv W) rfl rfl (KR rfl rfl Tryz.underlying3 ab rfl rfl rr) (KG (.bool false) rfl rfl (Mp rfl rfl rfl (decide_eq_false aB) rr) (KG (.bool false) rfl rfl (KN rfl rfl rr) (KI 3 true 22 rfl rfl rfl (Or.inl rfl) rfl (KI 3 true 22 rfl rfl rfl (Or.inl rfl) rfl (KI 3 true 22 rfl rfl rfl (Or.inl rfl) rfl (KG (.bool false) rfl rfl (K6 rfl rfl rfl rr) (KG (.bool false) rfl rfl (KN rfl rfl rr) (KO (pt p1 1) 8 false 27 rfl rfl rfl rfl rfl (KQ (n:=1) rfl aa Tryz.underlying23 rfl (by kernel_rfl) (by decide) rfl rr) (KO (iv H) 8 false 27 rfl rfl rfl rfl rfl (KR rfl rfl Tryz.underlying3 ab rfl rfl rr) ?_)))))))))))
        refine KO (.bool true) 8 false 27 rfl rfl rfl rfl rfl (Mp rfl rfl rfl (decide_eq_true aI) rr) (KO (.bool true) 8 false 27 rfl rfl rfl rfl rfl (KN rfl rfl rr) (KO (pt p1 1) 12 true 31 rfl rfl rfl rfl rfl (KQ (n:=1) rfl aa Tryz.underlying23 rfl (by kernel_rfl) (by decide) rfl rr) (KO (iv H) 12 true 31 rfl rfl rfl rfl rfl (KR rfl rfl Tryz.underlying3 ab rfl rfl rr) (KO (.bool false) 12 true 31 rfl rfl rfl rfl rfl (Nc rfl rfl rfl (decide_eq_false a9) rr) (KO (.bool false) 8 false 27 rfl rfl rfl rfl rfl (Ld rfl rfl rfl rr) (KG (.bool false) rfl rfl (K6 rfl rfl rfl rr) (KG (.bool false) rfl rfl (KN rfl rfl rr) (KO v 18 false 37 rfl rfl rfl rfl rfl (KN rfl ae rr) (KO (iv ((l.length:Nat):Int)) 18 false 37 rfl rfl rfl rfl rfl (M0 rfl rfl rfl af rr) (KO (.bool false) 18 false 37 rfl rfl rfl rfl rfl (Mp rfl rfl rfl (decide_eq_false bu) rr) (KG (.bool false) rfl rfl (K6 rfl rfl rfl rr) ?_)))))))))))
        refine KG (.bool false) rfl rfl (KN rfl rfl rr) (KO (.agg #[iv (g.W),iv (g.H),g0,g1,g2]) 23 false 42 rfl rfl rfl rfl rfl (KU KZ rfl ah am rr) (Lz (R:=fun v_ w_=>v_ = .bool true/\KM (fun _=>False) aE w_) 23 false 42 rfl rfl rfl rfl rfl (LE rfl rfl rfl (fun _ _=>by kernel_rfl) (K2 _) (Lj rfl LP) (MR g g0 g1 g2 T_g0 T_g1 T_g2 _  ai aj ak ) (fun e_ w_ h_=>⟨_,h_.1,(congrArg Value.bool bv),h_.2⟩)) ?_))
        rintro _ ii ⟨rfl,cA⟩
        obtain⟨ij,ik,io,ip,cB,cC,cD,iq,ir,iu,cE⟩:=N5 cA af ai aj ak aq ar au ab av am aw
        refine KO (.bool false) 23 false 42 rfl rfl rfl rfl rfl (LT rfl rfl rfl rr) (KG (.bool false) rfl rfl (K6 rfl rfl rfl rr) (KG (.bool false) rfl rfl (KN rfl rfl rr) (KO (.agg #[iv (h.W),iv (h.H),h0,h1,h2]) 28 false 47 rfl rfl rfl rfl rfl (KU KZ rfl an cE rr) (Lz (R:=fun v_ w_=>v_ = .bool true/\KM (fun _=>False) ii w_) 28 false 47 rfl rfl rfl rfl rfl (LE rfl rfl rfl (fun _ _=>by kernel_rfl) (K2 _) (Lj rfl LP) (MR h h0 h1 h2 T_h0 T_h1 T_h2 _  cB cC cD ) (fun e_ w_ h_=>⟨_,h_.1,(congrArg Value.bool bK),h_.2⟩)) ?_))))
        rintro _ me ⟨rfl,cF⟩
        obtain⟨iw,iy,iz,iA,iB,iC,iD,iE,iF,iG,iH⟩:=N5 cF ij ik io ip cB cC cD iq ir iu cE
        refine KO (.bool false) 28 false 47 rfl rfl rfl rfl rfl (LT rfl rfl rfl rr) (KG (.bool false) rfl rfl (K6 rfl rfl rfl rr) (KL ?_))
        have iI:=K4 (.bool false)
        exact⟨iI.trans (congrArg Value.bool (show false=decide (NP W H\/1000<l.length\/M3 g=false\/M3 h=false) from (by rw[Bool.eq_iff_iff,decide_eq_true_iff];unfold NP;first|(simp[*];done)|(simp[*];omega)|(simp_all;done)|(simp_all;omega)))),ae,aa,ap,ah,an,aA,ao,((az.tr cA).tr cF),iw,iy,iz,iA,iB,iC,iD,iE,iF,iG,iH⟩
       ·skip
        refine KF (KG (pt p1 0) rfl rfl (KQ (n:=1) rfl aa Tryz.underlying23 rfl (by kernel_rfl) (by decide) rfl rr) (KG (iv W) rfl rfl (KR rfl rfl Tryz.underlying3 ab rfl rfl rr) (KG (.bool false) rfl rfl (Mp rfl rfl rfl (decide_eq_false aB) rr) (KG (.bool false) rfl rfl (KN rfl rfl rr) (KI 3 true 22 rfl rfl rfl (Or.inl rfl) rfl (KI 3 true 22 rfl rfl rfl (Or.inl rfl) rfl (KI 3 true 22 rfl rfl rfl (Or.inl rfl) rfl (KG (.bool false) rfl rfl (K6 rfl rfl rfl rr) (KG (.bool false) rfl rfl (KN rfl rfl rr) (KO (pt p1 1) 8 false 27 rfl rfl rfl rfl rfl (KQ (n:=1) rfl aa Tryz.underlying23 rfl (by kernel_rfl) (by decide) rfl rr) (KO (iv H) 8 false 27 rfl rfl rfl rfl rfl (KR rfl rfl Tryz.underlying3 ab rfl rfl rr) ?_)))))))))))
        refine KO (.bool true) 8 false 27 rfl rfl rfl rfl rfl (Mp rfl rfl rfl (decide_eq_true aI) rr) (KO (.bool true) 8 false 27 rfl rfl rfl rfl rfl (KN rfl rfl rr) (KO (pt p1 1) 12 true 31 rfl rfl rfl rfl rfl (KQ (n:=1) rfl aa Tryz.underlying23 rfl (by kernel_rfl) (by decide) rfl rr) (KO (iv H) 12 true 31 rfl rfl rfl rfl rfl (KR rfl rfl Tryz.underlying3 ab rfl rfl rr) (KO (.bool false) 12 true 31 rfl rfl rfl rfl rfl (Nc rfl rfl rfl (decide_eq_false a9) rr) (KO (.bool false) 8 false 27 rfl rfl rfl rfl rfl (Ld rfl rfl rfl rr) (KG (.bool false) rfl rfl (K6 rfl rfl rfl rr) (KG (.bool false) rfl rfl (KN rfl rfl rr) (KO v 18 false 37 rfl rfl rfl rfl rfl (KN rfl ae rr) (KO (iv ((l.length:Nat):Int)) 18 false 37 rfl rfl rfl rfl rfl (M0 rfl rfl rfl af rr) (KO (.bool false) 18 false 37 rfl rfl rfl rfl rfl (Mp rfl rfl rfl (decide_eq_false bu) rr) (KG (.bool false) rfl rfl (K6 rfl rfl rfl rr) ?_)))))))))))
        refine KG (.bool false) rfl rfl (KN rfl rfl rr) (KO (.agg #[iv (g.W),iv (g.H),g0,g1,g2]) 23 false 42 rfl rfl rfl rfl rfl (KU KZ rfl ah am rr) (Lz (R:=fun v_ w_=>v_ = .bool true/\KM (fun _=>False) aE w_) 23 false 42 rfl rfl rfl rfl rfl (LE rfl rfl rfl (fun _ _=>by kernel_rfl) (K2 _) (Lj rfl LP) (MR g g0 g1 g2 T_g0 T_g1 T_g2 _  ai aj ak ) (fun e_ w_ h_=>⟨_,h_.1,(congrArg Value.bool bv),h_.2⟩)) ?_))
        rintro _ iJ ⟨rfl,cG⟩
        obtain⟨iK,iL,iM,iN,cH,cI,cJ,iO,iP,iQ,cK⟩:=N5 cG af ai aj ak aq ar au ab av am aw
        refine KO (.bool false) 23 false 42 rfl rfl rfl rfl rfl (LT rfl rfl rfl rr) (KG (.bool false) rfl rfl (K6 rfl rfl rfl rr) (KG (.bool false) rfl rfl (KN rfl rfl rr) (KO (.agg #[iv (h.W),iv (h.H),h0,h1,h2]) 28 false 47 rfl rfl rfl rfl rfl (KU KZ rfl an cK rr) (Lz (R:=fun v_ w_=>v_ = .bool false/\KM (fun _=>False) iJ w_) 28 false 47 rfl rfl rfl rfl rfl (LE rfl rfl rfl (fun _ _=>by kernel_rfl) (K2 _) (Lj rfl LP) (MR h h0 h1 h2 T_h0 T_h1 T_h2 _  cH cI cJ ) (fun e_ w_ h_=>⟨_,h_.1,(congrArg Value.bool bK),h_.2⟩)) ?_))))
        rintro _ mf ⟨rfl,cL⟩
        obtain⟨iR,iS,iT,iU,iV,iW,iX,iY,iZ,ja,jb⟩:=N5 cL iK iL iM iN cH cI cJ iO iP iQ cK
        refine KO (.bool true) 28 false 47 rfl rfl rfl rfl rfl (LT rfl rfl rfl rr) (KG (.bool true) rfl rfl (K6 rfl rfl rfl rr) (KL ?_))
        have jc:=K4 (.bool true)
        exact⟨jc.trans (congrArg Value.bool (show true=decide (NP W H\/1000<l.length\/M3 g=false\/M3 h=false) from (by rw[Bool.eq_iff_iff,decide_eq_true_iff];unfold NP;first|(simp[*];done)|(simp[*];omega)|(simp_all;done)|(simp_all;omega)))),ae,aa,ap,ah,an,aA,ao,((az.tr cG).tr cL),iR,iS,iT,iU,iV,iW,iX,iY,iZ,ja,jb⟩
      ·skip
       refine KF (KG (pt p1 0) rfl rfl (KQ (n:=1) rfl aa Tryz.underlying23 rfl (by kernel_rfl) (by decide) rfl rr) (KG (iv W) rfl rfl (KR rfl rfl Tryz.underlying3 ab rfl rfl rr) (KG (.bool false) rfl rfl (Mp rfl rfl rfl (decide_eq_false aB) rr) (KG (.bool false) rfl rfl (KN rfl rfl rr) (KI 3 true 22 rfl rfl rfl (Or.inl rfl) rfl (KI 3 true 22 rfl rfl rfl (Or.inl rfl) rfl (KI 3 true 22 rfl rfl rfl (Or.inl rfl) rfl (KG (.bool false) rfl rfl (K6 rfl rfl rfl rr) (KG (.bool false) rfl rfl (KN rfl rfl rr) (KO (pt p1 1) 8 false 27 rfl rfl rfl rfl rfl (KQ (n:=1) rfl aa Tryz.underlying23 rfl (by kernel_rfl) (by decide) rfl rr) (KO (iv H) 8 false 27 rfl rfl rfl rfl rfl (KR rfl rfl Tryz.underlying3 ab rfl rfl rr) ?_)))))))))))
       refine KO (.bool true) 8 false 27 rfl rfl rfl rfl rfl (Mp rfl rfl rfl (decide_eq_true aI) rr) (KO (.bool true) 8 false 27 rfl rfl rfl rfl rfl (KN rfl rfl rr) (KO (pt p1 1) 12 true 31 rfl rfl rfl rfl rfl (KQ (n:=1) rfl aa Tryz.underlying23 rfl (by kernel_rfl) (by decide) rfl rr) (KO (iv H) 12 true 31 rfl rfl rfl rfl rfl (KR rfl rfl Tryz.underlying3 ab rfl rfl rr) (KO (.bool false) 12 true 31 rfl rfl rfl rfl rfl (Nc rfl rfl rfl (decide_eq_false a9) rr) (KO (.bool false) 8 false 27 rfl rfl rfl rfl rfl (Ld rfl rfl rfl rr) (KG (.bool false) rfl rfl (K6 rfl rfl rfl rr) (KG (.bool false) rfl rfl (KN rfl rfl rr) (KO v 18 false 37 rfl rfl rfl rfl rfl (KN rfl ae rr) (KO (iv ((l.length:Nat):Int)) 18 false 37 rfl rfl rfl rfl rfl (M0 rfl rfl rfl af rr) (KO (.bool false) 18 false 37 rfl rfl rfl rfl rfl (Mp rfl rfl rfl (decide_eq_false bu) rr) (KG (.bool false) rfl rfl (K6 rfl rfl rfl rr) ?_)))))))))))
       refine KG (.bool false) rfl rfl (KN rfl rfl rr) (KO (.agg #[iv (g.W),iv (g.H),g0,g1,g2]) 23 false 42 rfl rfl rfl rfl rfl (KU KZ rfl ah am rr) (Lz (R:=fun v_ w_=>v_ = .bool false/\KM (fun _=>False) aE w_) 23 false 42 rfl rfl rfl rfl rfl (LE rfl rfl rfl (fun _ _=>by kernel_rfl) (K2 _) (Lj rfl LP) (MR g g0 g1 g2 T_g0 T_g1 T_g2 _  ai aj ak ) (fun e_ w_ h_=>⟨_,h_.1,(congrArg Value.bool bv),h_.2⟩)) ?_))
       rintro _ mg ⟨rfl,cM⟩
       obtain⟨jd,je,jf,jg,jh,ji,jj,jk,jl,jm,jn⟩:=N5 cM af ai aj ak aq ar au ab av am aw
       refine KO (.bool true) 23 false 42 rfl rfl rfl rfl rfl (LT rfl rfl rfl rr) (KG (.bool true) rfl rfl (K6 rfl rfl rfl rr) (KG (.bool true) rfl rfl (KN rfl rfl rr) (KI 28 false 47 rfl rfl rfl (Or.inl rfl) rfl (KI 28 false 47 rfl rfl rfl (Or.inl rfl) rfl (KI 28 false 47 rfl rfl rfl (Or.inl rfl) rfl (KG (.bool true) rfl rfl (Ld rfl rfl rfl rr) (KL ?_)))))))
       have jo:=K4 (.bool true)
       exact⟨jo.trans (congrArg Value.bool (show true=decide (NP W H\/1000<l.length\/M3 g=false\/M3 h=false) from (by rw[Bool.eq_iff_iff,decide_eq_true_iff];unfold NP;first|(simp[*];done)|(simp[*];omega)|(simp_all;done)|(simp_all;omega)))),ae,aa,ap,ah,an,aA,ao,(az.tr cM),jd,je,jf,jg,jh,ji,jj,jk,jl,jm,jn⟩
   ·skip
    by_cases bz:1000<((l.length:Nat):Int)
    ·skip
     refine KF (KG (pt p1 0) rfl rfl (KQ (n:=1) rfl aa Tryz.underlying23 rfl (by kernel_rfl) (by decide) rfl rr) (KG (iv W) rfl rfl (KR rfl rfl Tryz.underlying3 ab rfl rfl rr) (KG (.bool false) rfl rfl (Mp rfl rfl rfl (decide_eq_false aB) rr) (KG (.bool false) rfl rfl (KN rfl rfl rr) (KI 3 true 22 rfl rfl rfl (Or.inl rfl) rfl (KI 3 true 22 rfl rfl rfl (Or.inl rfl) rfl (KI 3 true 22 rfl rfl rfl (Or.inl rfl) rfl (KG (.bool false) rfl rfl (K6 rfl rfl rfl rr) (KG (.bool false) rfl rfl (KN rfl rfl rr) (KO (pt p1 1) 8 false 27 rfl rfl rfl rfl rfl (KQ (n:=1) rfl aa Tryz.underlying23 rfl (by kernel_rfl) (by decide) rfl rr) (KO (iv H) 8 false 27 rfl rfl rfl rfl rfl (KR rfl rfl Tryz.underlying3 ab rfl rfl rr) ?_)))))))))))
     refine KO (.bool false) 8 false 27 rfl rfl rfl rfl rfl (Mp rfl rfl rfl (decide_eq_false aI) rr) (KO (.bool false) 8 false 27 rfl rfl rfl rfl rfl (KN rfl rfl rr) (KI 12 true 31 rfl rfl rfl (Or.inl rfl) rfl (KI 12 true 31 rfl rfl rfl (Or.inl rfl) rfl (KI 12 true 31 rfl rfl rfl (Or.inl rfl) rfl (KO (.bool false) 8 false 27 rfl rfl rfl rfl rfl (K6 rfl rfl rfl rr) (KG (.bool false) rfl rfl (K6 rfl rfl rfl rr) (KG (.bool false) rfl rfl (KN rfl rfl rr) (KO v 18 false 37 rfl rfl rfl rfl rfl (KN rfl ae rr) (KO (iv ((l.length:Nat):Int)) 18 false 37 rfl rfl rfl rfl rfl (M0 rfl rfl rfl af rr) (KO (.bool true) 18 false 37 rfl rfl rfl rfl rfl (Mp rfl rfl rfl (decide_eq_true bz) rr) (KG (.bool true) rfl rfl (K6 rfl rfl rfl rr) ?_)))))))))))
     refine KG (.bool true) rfl rfl (KN rfl rfl rr) (KI 23 false 42 rfl rfl rfl (Or.inl rfl) rfl (KI 23 false 42 rfl rfl rfl (Or.inl rfl) rfl (KI 23 false 42 rfl rfl rfl (Or.inl rfl) rfl (KG (.bool true) rfl rfl (Ld rfl rfl rfl rr) (KG (.bool true) rfl rfl (KN rfl rfl rr) (KI 28 false 47 rfl rfl rfl (Or.inl rfl) rfl (KI 28 false 47 rfl rfl rfl (Or.inl rfl) rfl (KI 28 false 47 rfl rfl rfl (Or.inl rfl) rfl (KG (.bool true) rfl rfl (Ld rfl rfl rfl rr) (KL ?_))))))))))
     have jp:=K4 (.bool true)
     exact⟨jp.trans (congrArg Value.bool (show true=decide (NP W H\/1000<l.length\/M3 g=false\/M3 h=false) from (by rw[Bool.eq_iff_iff,decide_eq_true_iff];unfold NP;first|(simp[*];done)|(simp[*];omega)|(simp_all;done)|(simp_all;omega)))),ae,aa,ap,ah,an,aA,ao,az,af,ai,aj,ak,aq,ar,au,ab,av,am,aw⟩
    ·skip
     rcases Bool.eq_false_or_eq_true (M3 g) with bA|bA
     ·skip
      rcases Bool.eq_false_or_eq_true (M3 h) with bL|bL
      ·skip
       refine KF (KG (pt p1 0) rfl rfl (KQ (n:=1) rfl aa Tryz.underlying23 rfl (by kernel_rfl) (by decide) rfl rr) (KG (iv W) rfl rfl (KR rfl rfl Tryz.underlying3 ab rfl rfl rr) (KG (.bool false) rfl rfl (Mp rfl rfl rfl (decide_eq_false aB) rr) (KG (.bool false) rfl rfl (KN rfl rfl rr) (KI 3 true 22 rfl rfl rfl (Or.inl rfl) rfl (KI 3 true 22 rfl rfl rfl (Or.inl rfl) rfl (KI 3 true 22 rfl rfl rfl (Or.inl rfl) rfl (KG (.bool false) rfl rfl (K6 rfl rfl rfl rr) (KG (.bool false) rfl rfl (KN rfl rfl rr) (KO (pt p1 1) 8 false 27 rfl rfl rfl rfl rfl (KQ (n:=1) rfl aa Tryz.underlying23 rfl (by kernel_rfl) (by decide) rfl rr) (KO (iv H) 8 false 27 rfl rfl rfl rfl rfl (KR rfl rfl Tryz.underlying3 ab rfl rfl rr) ?_)))))))))))
       refine KO (.bool false) 8 false 27 rfl rfl rfl rfl rfl (Mp rfl rfl rfl (decide_eq_false aI) rr) (KO (.bool false) 8 false 27 rfl rfl rfl rfl rfl (KN rfl rfl rr) (KI 12 true 31 rfl rfl rfl (Or.inl rfl) rfl (KI 12 true 31 rfl rfl rfl (Or.inl rfl) rfl (KI 12 true 31 rfl rfl rfl (Or.inl rfl) rfl (KO (.bool false) 8 false 27 rfl rfl rfl rfl rfl (K6 rfl rfl rfl rr) (KG (.bool false) rfl rfl (K6 rfl rfl rfl rr) (KG (.bool false) rfl rfl (KN rfl rfl rr) (KO v 18 false 37 rfl rfl rfl rfl rfl (KN rfl ae rr) (KO (iv ((l.length:Nat):Int)) 18 false 37 rfl rfl rfl rfl rfl (M0 rfl rfl rfl af rr) (KO (.bool false) 18 false 37 rfl rfl rfl rfl rfl (Mp rfl rfl rfl (decide_eq_false bz) rr) (KG (.bool false) rfl rfl (K6 rfl rfl rfl rr) ?_)))))))))))
       refine KG (.bool false) rfl rfl (KN rfl rfl rr) (KO (.agg #[iv (g.W),iv (g.H),g0,g1,g2]) 23 false 42 rfl rfl rfl rfl rfl (KU KZ rfl ah am rr) (Lz (R:=fun v_ w_=>v_ = .bool true/\KM (fun _=>False) aE w_) 23 false 42 rfl rfl rfl rfl rfl (LE rfl rfl rfl (fun _ _=>by kernel_rfl) (K2 _) (Lj rfl LP) (MR g g0 g1 g2 T_g0 T_g1 T_g2 _  ai aj ak ) (fun e_ w_ h_=>⟨_,h_.1,(congrArg Value.bool bA),h_.2⟩)) ?_))
       rintro _ jq ⟨rfl,cN⟩
       obtain⟨jr,js,jt,ju,cO,cP,cQ,jv,jw,jx,cR⟩:=N5 cN af ai aj ak aq ar au ab av am aw
       refine KO (.bool false) 23 false 42 rfl rfl rfl rfl rfl (LT rfl rfl rfl rr) (KG (.bool false) rfl rfl (K6 rfl rfl rfl rr) (KG (.bool false) rfl rfl (KN rfl rfl rr) (KO (.agg #[iv (h.W),iv (h.H),h0,h1,h2]) 28 false 47 rfl rfl rfl rfl rfl (KU KZ rfl an cR rr) (Lz (R:=fun v_ w_=>v_ = .bool true/\KM (fun _=>False) jq w_) 28 false 47 rfl rfl rfl rfl rfl (LE rfl rfl rfl (fun _ _=>by kernel_rfl) (K2 _) (Lj rfl LP) (MR h h0 h1 h2 T_h0 T_h1 T_h2 _  cO cP cQ ) (fun e_ w_ h_=>⟨_,h_.1,(congrArg Value.bool bL),h_.2⟩)) ?_))))
       rintro _ mh ⟨rfl,cS⟩
       obtain⟨jy,jz,jA,jB,jC,jD,jE,jF,jG,jH,jI⟩:=N5 cS jr js jt ju cO cP cQ jv jw jx cR
       refine KO (.bool false) 28 false 47 rfl rfl rfl rfl rfl (LT rfl rfl rfl rr) (KG (.bool false) rfl rfl (K6 rfl rfl rfl rr) (KL ?_))
       have jJ:=K4 (.bool false)
       exact⟨jJ.trans (congrArg Value.bool (show false=decide (NP W H\/1000<l.length\/M3 g=false\/M3 h=false) from (by rw[Bool.eq_iff_iff,decide_eq_true_iff];unfold NP;first|(simp[*];done)|(simp[*];omega)|(simp_all;done)|(simp_all;omega)))),ae,aa,ap,ah,an,aA,ao,((az.tr cN).tr cS),jy,jz,jA,jB,jC,jD,jE,jF,jG,jH,jI⟩
      ·skip
       refine KF (KG (pt p1 0) rfl rfl (KQ (n:=1) rfl aa Tryz.underlying23 rfl (by kernel_rfl) (by decide) rfl rr) (KG (iv W) rfl rfl (KR rfl rfl Tryz.underlying3 ab rfl rfl rr) (KG (.bool false) rfl rfl (Mp rfl rfl rfl (decide_eq_false aB) rr) (KG (.bool false) rfl rfl (KN rfl rfl rr) (KI 3 true 22 rfl rfl rfl (Or.inl rfl) rfl (KI 3 true 22 rfl rfl rfl (Or.inl rfl) rfl (KI 3 true 22 rfl rfl rfl (Or.inl rfl) rfl (KG (.bool false) rfl rfl (K6 rfl rfl rfl rr) (KG (.bool false) rfl rfl (KN rfl rfl rr) (KO (pt p1 1) 8 false 27 rfl rfl rfl rfl rfl (KQ (n:=1) rfl aa Tryz.underlying23 rfl (by kernel_rfl) (by decide) rfl rr) (KO (iv H) 8 false 27 rfl rfl rfl rfl rfl (KR rfl rfl Tryz.underlying3 ab rfl rfl rr) ?_)))))))))))
       refine KO (.bool false) 8 false 27 rfl rfl rfl rfl rfl (Mp rfl rfl rfl (decide_eq_false aI) rr) (KO (.bool false) 8 false 27 rfl rfl rfl rfl rfl (KN rfl rfl rr) (KI 12 true 31 rfl rfl rfl (Or.inl rfl) rfl (KI 12 true 31 rfl rfl rfl (Or.inl rfl) rfl (KI 12 true 31 rfl rfl rfl (Or.inl rfl) rfl (KO (.bool false) 8 false 27 rfl rfl rfl rfl rfl (K6 rfl rfl rfl rr) (KG (.bool false) rfl rfl (K6 rfl rfl rfl rr) (KG (.bool false) rfl rfl (KN rfl rfl rr) (KO v 18 false 37 rfl rfl rfl rfl rfl (KN rfl ae rr) (KO (iv ((l.length:Nat):Int)) 18 false 37 rfl rfl rfl rfl rfl (M0 rfl rfl rfl af rr) (KO (.bool false) 18 false 37 rfl rfl rfl rfl rfl (Mp rfl rfl rfl (decide_eq_false bz) rr) (KG (.bool false) rfl rfl (K6 rfl rfl rfl rr) ?_)))))))))))
       refine KG (.bool false) rfl rfl (KN rfl rfl rr) (KO (.agg #[iv (g.W),iv (g.H),g0,g1,g2]) 23 false 42 rfl rfl rfl rfl rfl (KU KZ rfl ah am rr) (Lz (R:=fun v_ w_=>v_ = .bool true/\KM (fun _=>False) aE w_) 23 false 42 rfl rfl rfl rfl rfl (LE rfl rfl rfl (fun _ _=>by kernel_rfl) (K2 _) (Lj rfl LP) (MR g g0 g1 g2 T_g0 T_g1 T_g2 _  ai aj ak ) (fun e_ w_ h_=>⟨_,h_.1,(congrArg Value.bool bA),h_.2⟩)) ?_))
       rintro _ jK ⟨rfl,cT⟩
       obtain⟨jL,jM,jN,jO,cU,cV,cW,jP,jQ,jR,cX⟩:=N5 cT af ai aj ak aq ar au ab av am aw
       refine KO (.bool false) 23 false 42 rfl rfl rfl rfl rfl (LT rfl rfl rfl rr) (KG (.bool false) rfl rfl (K6 rfl rfl rfl rr) (KG (.bool false) rfl rfl (KN rfl rfl rr) (KO (.agg #[iv (h.W),iv (h.H),h0,h1,h2]) 28 false 47 rfl rfl rfl rfl rfl (KU KZ rfl an cX rr) (Lz (R:=fun v_ w_=>v_ = .bool false/\KM (fun _=>False) jK w_) 28 false 47 rfl rfl rfl rfl rfl (LE rfl rfl rfl (fun _ _=>by kernel_rfl) (K2 _) (Lj rfl LP) (MR h h0 h1 h2 T_h0 T_h1 T_h2 _  cU cV cW ) (fun e_ w_ h_=>⟨_,h_.1,(congrArg Value.bool bL),h_.2⟩)) ?_))))
       rintro _ mi ⟨rfl,cY⟩
       obtain⟨jS,jT,jU,jV,jW,jX,jY,jZ,j0,j1,j2⟩:=N5 cY jL jM jN jO cU cV cW jP jQ jR cX
       refine KO (.bool true) 28 false 47 rfl rfl rfl rfl rfl (LT rfl rfl rfl rr) (KG (.bool true) rfl rfl (K6 rfl rfl rfl rr) (KL ?_))
       have j3:=K4 (.bool true)
       exact⟨j3.trans (congrArg Value.bool (show true=decide (NP W H\/1000<l.length\/M3 g=false\/M3 h=false) from (by rw[Bool.eq_iff_iff,decide_eq_true_iff];unfold NP;first|(simp[*];done)|(simp[*];omega)|(simp_all;done)|(simp_all;omega)))),ae,aa,ap,ah,an,aA,ao,((az.tr cT).tr cY),jS,jT,jU,jV,jW,jX,jY,jZ,j0,j1,j2⟩
     ·skip
      refine KF (KG (pt p1 0) rfl rfl (KQ (n:=1) rfl aa Tryz.underlying23 rfl (by kernel_rfl) (by decide) rfl rr) (KG (iv W) rfl rfl (KR rfl rfl Tryz.underlying3 ab rfl rfl rr) (KG (.bool false) rfl rfl (Mp rfl rfl rfl (decide_eq_false aB) rr) (KG (.bool false) rfl rfl (KN rfl rfl rr) (KI 3 true 22 rfl rfl rfl (Or.inl rfl) rfl (KI 3 true 22 rfl rfl rfl (Or.inl rfl) rfl (KI 3 true 22 rfl rfl rfl (Or.inl rfl) rfl (KG (.bool false) rfl rfl (K6 rfl rfl rfl rr) (KG (.bool false) rfl rfl (KN rfl rfl rr) (KO (pt p1 1) 8 false 27 rfl rfl rfl rfl rfl (KQ (n:=1) rfl aa Tryz.underlying23 rfl (by kernel_rfl) (by decide) rfl rr) (KO (iv H) 8 false 27 rfl rfl rfl rfl rfl (KR rfl rfl Tryz.underlying3 ab rfl rfl rr) ?_)))))))))))
      refine KO (.bool false) 8 false 27 rfl rfl rfl rfl rfl (Mp rfl rfl rfl (decide_eq_false aI) rr) (KO (.bool false) 8 false 27 rfl rfl rfl rfl rfl (KN rfl rfl rr) (KI 12 true 31 rfl rfl rfl (Or.inl rfl) rfl (KI 12 true 31 rfl rfl rfl (Or.inl rfl) rfl (KI 12 true 31 rfl rfl rfl (Or.inl rfl) rfl (KO (.bool false) 8 false 27 rfl rfl rfl rfl rfl (K6 rfl rfl rfl rr) (KG (.bool false) rfl rfl (K6 rfl rfl rfl rr) (KG (.bool false) rfl rfl (KN rfl rfl rr) (KO v 18 false 37 rfl rfl rfl rfl rfl (KN rfl ae rr) (KO (iv ((l.length:Nat):Int)) 18 false 37 rfl rfl rfl rfl rfl (M0 rfl rfl rfl af rr) (KO (.bool false) 18 false 37 rfl rfl rfl rfl rfl (Mp rfl rfl rfl (decide_eq_false bz) rr) (KG (.bool false) rfl rfl (K6 rfl rfl rfl rr) ?_)))))))))))
      refine KG (.bool false) rfl rfl (KN rfl rfl rr) (KO (.agg #[iv (g.W),iv (g.H),g0,g1,g2]) 23 false 42 rfl rfl rfl rfl rfl (KU KZ rfl ah am rr) (Lz (R:=fun v_ w_=>v_ = .bool false/\KM (fun _=>False) aE w_) 23 false 42 rfl rfl rfl rfl rfl (LE rfl rfl rfl (fun _ _=>by kernel_rfl) (K2 _) (Lj rfl LP) (MR g g0 g1 g2 T_g0 T_g1 T_g2 _  ai aj ak ) (fun e_ w_ h_=>⟨_,h_.1,(congrArg Value.bool bA),h_.2⟩)) ?_))
      rintro _ mj ⟨rfl,cZ⟩
      obtain⟨j4,j5,j6,j7,j8,j9,ka,kb,kd,ke,kf⟩:=N5 cZ af ai aj ak aq ar au ab av am aw
      refine KO (.bool true) 23 false 42 rfl rfl rfl rfl rfl (LT rfl rfl rfl rr) (KG (.bool true) rfl rfl (K6 rfl rfl rfl rr) (KG (.bool true) rfl rfl (KN rfl rfl rr) (KI 28 false 47 rfl rfl rfl (Or.inl rfl) rfl (KI 28 false 47 rfl rfl rfl (Or.inl rfl) rfl (KI 28 false 47 rfl rfl rfl (Or.inl rfl) rfl (KG (.bool true) rfl rfl (Ld rfl rfl rfl rr) (KL ?_)))))))
      have kg:=K4 (.bool true)
      exact⟨kg.trans (congrArg Value.bool (show true=decide (NP W H\/1000<l.length\/M3 g=false\/M3 h=false) from (by rw[Bool.eq_iff_iff,decide_eq_true_iff];unfold NP;first|(simp[*];done)|(simp[*];omega)|(simp_all;done)|(simp_all;omega)))),ae,aa,ap,ah,an,aA,ao,(az.tr cZ),j4,j5,j6,j7,j8,j9,ka,kb,kd,ke,kf⟩
 ·rintro ml bB ⟨ki,bM,bN,aF,c5,c6,aM,aN,aO,c7,c9,da,db,dc,dd,de,df,dg,dh,di⟩
  refine KE ?_
  refine K5 ki (fun ba=>?_) (fun ba=>?_)
  ·replace ba:=of_decide_eq_true ba
   refine KH (KF (KS rfl rfl rfl aM (KG (.bool true) rfl rfl (KT rfl rfl rr) (KL ?_))))
   have kj:=K4 (.bool true)
   refine KE (La (Ln ?_))
   exact Lq (v:=.bool true) aN rfl rfl kj ⟨rfl,aO⟩
  ·replace ba:=of_decide_eq_false ba
   refine Lf (KE (KH (KF (KG (.agg #[iv W,iv H,iv R,iv B]) rfl rfl (KU Mv rfl bN df rr) (KG (.agg #[iv K,iv Q,iv D,iv F]) rfl rfl (KU Pj rfl aF dg rr) (KS rfl rfl rfl bM (KG (.agg #[iv (g.W),iv (g.H),g0,g1,g2]) rfl rfl (KU KZ rfl c5 dh rr) (KG (.agg #[iv (h.W),iv (h.H),h0,h1,h2]) rfl rfl (KU KZ rfl c6 di rr) (Lw (R:=fun v_ w_=>∃ (aP:Value) (bb:Nat->Prop) (aL:Value) (bc:Nat->Prop) (aQ:Value) (bd:Nat->Prop),.tuple #[.agg #[iv ((MF l W H R B K Q D F g h).W),iv ((MF l W H R B K Q D F g h).H),aP,aL,aQ],iv (MH l W H R B K Q D F g h)]=v_/\KM (fun _=>False) bB w_/\(L1 w_ bb aP ((MF l W H R B K Q D F g h).p0)/\KP bB L8 bb)/\(L1 w_ bc aL ((MF l W H R B K Q D F g h).p1)/\KP bB L8 bc)/\(L1 w_ bd aQ ((MF l W H R B K Q D F g h).p2)/\KP bB L8 bd)/\KJ bb bc/\KJ bb bd/\KJ bc bd) rfl rfl (LE rfl rfl rfl (fun _ _=>by kernel_rfl) (K2 _) (Lj rfl (Lj rfl (Lj rfl (Lj rfl (Lj rfl LP))))) (QX W H R B K Q D F v l g g0 g1 g2 h h0 h1 h2 T_b T_g0 T_g1 T_g2 T_h0 T_h1 T_h2 _ (hA.all aO) (hO.all aO) (hs.all aO) (hw.all aO) (by omega) c7 c9 da db dc dd de ) (fun e_ w_ h_=>by obtain⟨v643_,T648_,v644_,T649_,v645_,T650_,he_,hr_⟩:=h_;exact⟨_,he_,v643_,T648_,v644_,T649_,v645_,T650_,rfl,hr_⟩)) ?_)))))))))
   rintro _ mm ⟨aP,bb,aL,bc,aQ,bd,rfl,dj,⟨kn,mn⟩,⟨dk,mo⟩,⟨ko,mp⟩,mq,mr,mu⟩
   obtain⟨dl,dm,dn,dp,dq,dr,dt,du,dv,dw,dy⟩:=N5 dj c7 c9 da db dc dd de df dg dh di
   have dz:=aO.tr dj
   refine KG (.tuple #[.agg #[iv ((MF l W H R B K Q D F g h).W),iv ((MF l W H R B K Q D F g h).H),aP,aL,aQ],iv (MH l W H R B K Q D F g h)]) rfl rfl (KN rfl rfl rr) (KG (.agg #[iv ((MF l W H R B K Q D F g h).W),iv ((MF l W H R B K Q D F g h).H),aP,aL,aQ]) rfl rfl (LI rfl rfl rfl rr) (KG (iv (MH l W H R B K Q D F g h)) rfl rfl (LI rfl rfl rfl rr) (LF (n:=5) (vs:=[iv 0,iv 0,.slice none 0 0,.slice none 0 0,.slice none 0 0]) rfl rfl rfl (by kernel_rfl) fun bO mv kp dA dB=>?_)))
   obtain⟨kq,kr,ks,kt,ku,kv,kw,kx,ky,kz,kA,kB⟩:=aDa dA dl dm dn dp dq dr dt du dv dw dy dk
   obtain⟨kC,kD,kE,kF,kG,kH,kI,kJ,kK,kL,kM,kN,dC,kO⟩:=OW dB dl dm dn dp dq dr dt du dv dw dy kn dk ko
   refine Lh (us:=[iv ((MF l W H R B K Q D F g h).W),iv ((MF l W H R B K Q D F g h).H),aP,aL,aQ]) KZ rfl rfl rfl rfl rfl kp rfl (KX rfl (KX rfl (KX kN.one (KX dC.one (KX kO.one MC))))) fun bC kP aD=>?_
   have dD:=kC.all aD kq.symm
   have kQ:=kD.all aD kr.symm
   have kR:=kE.all aD ks.symm
   have kS:=kF.all aD kt.symm
   have kT:=kG.all aD ku.symm
   have kU:=kH.all aD kv.symm
   have kV:=kI.all aD kw.symm
   have dE:=kJ.all aD (kx.symm p1 rfl)
   have dF:=kK.all aD (ky.symm aC rfl)
   have kW:=kL.all aD (kz.symm aY rfl)
   have kX:=kM.all aD (kA.symm bn rfl)
   have kY:=dC.all aD kB.symm
   have aR:=(dz.tr dB).trans aD (KP.ok (S:=fun _=>False) (KP.new dz dA) K3)
   refine KG (iv (MH l W H R B K Q D F g h)) rfl rfl (KT rfl rfl rr) (KL ?_)
   have kZ:=K4 (pt bO 0)
   have k8:=K4 (iv (MH l W H R B K Q D F g h))
   refine KE (KH (KH (KF (KS rfl rfl rfl k8 (KG (.bool (decide ((MH l W H R B K Q D F g h)≠0))) rfl rfl (L9 rfl rfl rfl rfl rr) (KL ?_))))))
   have la:=K4 (.bool (decide ((MH l W H R B K Q D F g h)≠0)))
   refine KE ?_
   refine K5 la (fun be=>?_) (fun be=>?_)
   ·replace be:=of_decide_eq_true be
    refine KH ?_
    have hno:=ayY (l:=l) (W:=W) (H:=H) (R:=R) (B:=B) (K:=K) (Q:=Q) (D:=D) (F:=F) (g:=g) (h:=h) (by assumption)
    refine KF (KS rfl rfl rfl aM (KG (.bool true) rfl rfl (KN rfl rfl rr) (KO (pt bO 2) 1 true 65 rfl rfl rfl rfl rfl (KQ (n:=3) rfl kZ Tryz.underlying29 rfl (by kernel_rfl) (by decide) rfl rr) (KO (pt bO 3) 1 true 65 rfl rfl rfl rfl rfl (LQ 1 (s:=1) rfl rfl rfl (by omega) Tryz.underlying27 (by omega) (by kernel_rfl) (by omega) rr) (KO aL 1 true 65 rfl rfl rfl rfl rfl (KR rfl rfl Tryz.underlying26 kP rfl rfl rr) (KO (iv ((((MF l W H R B K Q D F g h).p1).length:Nat):Int)) 1 true 65 rfl rfl rfl rfl rfl (M0 rfl rfl rfl kY.byt rr) (KO (.bool true) 1 true 65 rfl rfl rfl rfl rfl (LZ rfl rfl rfl (decide_eq_true (by omega)) rr) (KG (.bool true) rfl rfl (Ld rfl rfl rfl rr) (KG (.bool true) rfl rfl (KT rfl rfl rr) (KL ?_))))))))))
    have lc:=K4 (.bool true)
    refine KE (La (Ln ?_))
    exact Lq (v:=.bool true) aN rfl rfl lc ⟨rfl,aR⟩
   ·replace be:=of_decide_eq_false be
    refine Lf (KE (KH ?_))
    have hz:MH l W H R B K Q D F g h=0:=by first|assumption|(apply Decidable.byContradiction;assumption)
    refine KF (KG (.agg #[iv W,iv H,iv R,iv B]) rfl rfl (KU Mv rfl bN dE rr) (KG (.agg #[iv K,iv Q,iv D,iv F]) rfl rfl (KU Pj rfl aF dF rr) (KS rfl rfl rfl bM (KG (.agg #[iv 0,iv 0,.slice none 0 0,.slice none 0 0,.slice none 0 0]) rfl rfl (LW (l':=[]) (cells:=#[iv 0,iv 0,.slice none 0 0,.slice none 0 0,.slice none 0 0]) rfl QZ (by kernel_rfl) rfl rr) (KG (.agg #[iv (h.W),iv (h.H),h0,h1,h2]) rfl rfl (KU KZ rfl c6 kX rr) (Lw (R:=fun v_ w_=>∃ (aS:Value) (bf:Nat->Prop) (aT:Value) (bg:Nat->Prop) (aU:Value) (bh:Nat->Prop),.tuple #[.agg #[iv ((MF l W H R B K Q D F (FD.mk 0 0 ([]) ([]) ([])) h).W),iv ((MF l W H R B K Q D F (FD.mk 0 0 ([]) ([]) ([])) h).H),aS,aT,aU],iv (MH l W H R B K Q D F (FD.mk 0 0 ([]) ([]) ([])) h)]=v_/\KM (fun _=>False) bC w_/\(L1 w_ bf aS ((MF l W H R B K Q D F (FD.mk 0 0 ([]) ([]) ([])) h).p0)/\KP bC L8 bf)/\(L1 w_ bg aT ((MF l W H R B K Q D F (FD.mk 0 0 ([]) ([]) ([])) h).p1)/\KP bC L8 bg)/\(L1 w_ bh aU ((MF l W H R B K Q D F (FD.mk 0 0 ([]) ([]) ([])) h).p2)/\KP bC L8 bh)/\KJ bf bg/\KJ bf bh/\KJ bg bh) rfl rfl (LE rfl rfl rfl (fun _ _=>by kernel_rfl) (K2 _) (Lj rfl (Lj rfl (Lj rfl (Lj rfl (Lj rfl LP))))) (QX W H R B K Q D F v l (FD.mk 0 0 ([]) ([]) ([])) (.slice none 0 0) (.slice none 0 0) (.slice none 0 0) h h0 h1 h2 T_b L8 L8 L8 T_h0 T_h1 T_h2 _ (hA.all aR) (hO.all aR) (hs.all aR) (hw.all aR) (by omega) dD (L7.nil _) (L7.nil _) (L7.nil _) kT kU kV ) (fun e_ w_ h_=>by obtain⟨v788_,T793_,v789_,T794_,v790_,T795_,he_,hr_⟩:=h_;exact⟨_,he_,v788_,T793_,v789_,T794_,v790_,T795_,rfl,hr_⟩)) ?_))))))
    rintro _ mw ⟨aS,bf,aT,bg,aU,bh,rfl,dG,⟨ld,mz⟩,⟨le,mA⟩,⟨lf,mB⟩,mC,mD,mE⟩
    obtain⟨dH,dI,dJ,dK,dL,dM,dN⟩:=Sl dG dD kQ kR kS dE dF kW
    have dO:=aR.tr dG
    refine KG (.tuple #[.agg #[iv ((MF l W H R B K Q D F (FD.mk 0 0 ([]) ([]) ([])) h).W),iv ((MF l W H R B K Q D F (FD.mk 0 0 ([]) ([]) ([])) h).H),aS,aT,aU],iv (MH l W H R B K Q D F (FD.mk 0 0 ([]) ([]) ([])) h)]) rfl rfl (KN rfl rfl rr) (KG (.agg #[iv ((MF l W H R B K Q D F (FD.mk 0 0 ([]) ([]) ([])) h).W),iv ((MF l W H R B K Q D F (FD.mk 0 0 ([]) ([]) ([])) h).H),aS,aT,aU]) rfl rfl (LI rfl rfl rfl rr) (KG (iv (MH l W H R B K Q D F (FD.mk 0 0 ([]) ([]) ([])) h)) rfl rfl (LI rfl rfl rfl rr) (LF (n:=5) (vs:=[iv 0,iv 0,.slice none 0 0,.slice none 0 0,.slice none 0 0]) rfl rfl rfl (by kernel_rfl) fun mF mG lg dP dQ=>?_)))
    obtain⟨lh,lj,lk,ll,lm,ln,lp⟩:=aC5 dP dH dI dJ dK dL dM dN
    obtain⟨lq,lr,lu,lv,lw,lx,ly,lz,lA,lB⟩:=RG dQ dH dI dJ dK dL dM dN ld le lf
    refine Lh (us:=[iv ((MF l W H R B K Q D F (FD.mk 0 0 ([]) ([]) ([])) h).W),iv ((MF l W H R B K Q D F (FD.mk 0 0 ([]) ([]) ([])) h).H),aS,aT,aU]) KZ rfl rfl rfl rfl rfl lg rfl (KX rfl (KX rfl (KX lz.one (KX lA.one (KX lB.one MC))))) fun bD mH aJ=>?_
    have lC:=lq.all aJ lh.symm
    have lD:=lr.all aJ lj.symm
    have lE:=lu.all aJ lk.symm
    have lF:=lv.all aJ ll.symm
    have lG:=lw.all aJ (lm.symm p1 rfl)
    have dR:=lx.all aJ (ln.symm aC rfl)
    have lH:=ly.all aJ (lp.symm aY rfl)
    have bi:=(dO.tr dQ).trans aJ (KP.ok (S:=fun _=>False) (KP.new dO dP) K3)
    refine KG (iv (MH l W H R B K Q D F (FD.mk 0 0 ([]) ([]) ([])) h)) rfl rfl (KT rfl rfl rr) (KL ?_)
    have bE:=K4 (iv (MH l W H R B K Q D F (FD.mk 0 0 ([]) ([]) ([])) h))
    refine KE (KH (KF (KG (.agg #[iv W,iv H,iv R,iv B]) rfl rfl (KU Mv rfl bN lG rr) (KG (.agg #[iv K,iv Q,iv D,iv F]) rfl rfl (KU Pj rfl aF dR rr) (KS rfl rfl rfl bM (KG (.agg #[iv (g.W),iv (g.H),g0,g1,g2]) rfl rfl (KU KZ rfl c5 lH rr) (KG (.agg #[iv 0,iv 0,.slice none 0 0,.slice none 0 0,.slice none 0 0]) rfl rfl (LW (l':=[]) (cells:=#[iv 0,iv 0,.slice none 0 0,.slice none 0 0,.slice none 0 0]) rfl QZ (by kernel_rfl) rfl rr) (Lw (R:=fun v_ w_=>∃ (aV:Value) (bj:Nat->Prop) (aW:Value) (bl:Nat->Prop) (aX:Value) (bm:Nat->Prop),.tuple #[.agg #[iv ((MF l W H R B K Q D F g (FD.mk 0 0 ([]) ([]) ([]))).W),iv ((MF l W H R B K Q D F g (FD.mk 0 0 ([]) ([]) ([]))).H),aV,aW,aX],iv (MH l W H R B K Q D F g (FD.mk 0 0 ([]) ([]) ([])))]=v_/\KM (fun _=>False) bD w_/\(L1 w_ bj aV ((MF l W H R B K Q D F g (FD.mk 0 0 ([]) ([]) ([]))).p0)/\KP bD L8 bj)/\(L1 w_ bl aW ((MF l W H R B K Q D F g (FD.mk 0 0 ([]) ([]) ([]))).p1)/\KP bD L8 bl)/\(L1 w_ bm aX ((MF l W H R B K Q D F g (FD.mk 0 0 ([]) ([]) ([]))).p2)/\KP bD L8 bm)/\KJ bj bl/\KJ bj bm/\KJ bl bm) rfl rfl (LE rfl rfl rfl (fun _ _=>by kernel_rfl) (K2 _) (Lj rfl (Lj rfl (Lj rfl (Lj rfl (Lj rfl LP))))) (QX W H R B K Q D F v l g g0 g1 g2 (FD.mk 0 0 ([]) ([]) ([])) (.slice none 0 0) (.slice none 0 0) (.slice none 0 0) T_b T_g0 T_g1 T_g2 L8 L8 L8 _ (hA.all bi) (hO.all bi) (hs.all bi) (hw.all bi) (by omega) lC lD lE lF (L7.nil _) (L7.nil _) (L7.nil _) ) (fun e_ w_ h_=>by obtain⟨v943_,T948_,v944_,T949_,v945_,T950_,he_,hr_⟩:=h_;exact⟨_,he_,v943_,T948_,v944_,T949_,v945_,T950_,rfl,hr_⟩)) ?_))))))))
    rintro _ mI ⟨aV,bj,aW,bl,aX,bm,rfl,dS,⟨lJ,mJ⟩,⟨lK,mK⟩,⟨lL,mL⟩,mM,mN,mO⟩
    have dT:=dR.all dS id
    have dU:=bi.tr dS
    refine KG (.tuple #[.agg #[iv ((MF l W H R B K Q D F g (FD.mk 0 0 ([]) ([]) ([]))).W),iv ((MF l W H R B K Q D F g (FD.mk 0 0 ([]) ([]) ([]))).H),aV,aW,aX],iv (MH l W H R B K Q D F g (FD.mk 0 0 ([]) ([]) ([])))]) rfl rfl (KN rfl rfl rr) (KG (.agg #[iv ((MF l W H R B K Q D F g (FD.mk 0 0 ([]) ([]) ([]))).W),iv ((MF l W H R B K Q D F g (FD.mk 0 0 ([]) ([]) ([]))).H),aV,aW,aX]) rfl rfl (LI rfl rfl rfl rr) (KG (iv (MH l W H R B K Q D F g (FD.mk 0 0 ([]) ([]) ([])))) rfl rfl (LI rfl rfl rfl rr) (LF (n:=5) (vs:=[iv 0,iv 0,.slice none 0 0,.slice none 0 0,.slice none 0 0]) rfl rfl rfl (by kernel_rfl) fun mP mQ lM dV dW=>?_)))
    have lN:=KJ.new dV (LR dT.lt)
    obtain⟨lO,lP,lQ,lR⟩:=OS dW dT lJ lK lL
    refine Lh (us:=[iv ((MF l W H R B K Q D F g (FD.mk 0 0 ([]) ([]) ([]))).W),iv ((MF l W H R B K Q D F g (FD.mk 0 0 ([]) ([]) ([]))).H),aV,aW,aX]) KZ rfl rfl rfl rfl rfl lM rfl (KX rfl (KX rfl (KX lP.one (KX lQ.one (KX lR.one MC))))) fun mR mS dX=>?_
    have aK:=lO.all dX (lN.symm aC rfl)
    have bF:=(dU.tr dW).trans dX (KP.ok (S:=fun _=>False) (KP.new dU dV) K3)
    refine KG (iv (MH l W H R B K Q D F g (FD.mk 0 0 ([]) ([]) ([])))) rfl rfl (KT rfl rfl rr) (KL ?_)
    have bG:=K4 (iv (MH l W H R B K Q D F g (FD.mk 0 0 ([]) ([]) ([]))))
    refine KE (KH ?_)
    by_cases bH:K=0
    ·skip
     by_cases dY:K≠2
     ·skip
      refine KF (KS rfl rfl rfl aM (KG (.bool true) rfl rfl (KN rfl rfl rr) (KO (iv (MH l W H R B K Q D F (FD.mk 0 0 ([]) ([]) ([])) h)) 1 true 91 rfl rfl rfl rfl rfl (KN rfl bE rr) (KO (.bool (decide ((MH l W H R B K Q D F (FD.mk 0 0 ([]) ([]) ([])) h)=0))) 1 true 91 rfl rfl rfl rfl rfl (LZ rfl rfl rfl rfl rr) (KO (pt aC 0) 1 true 91 rfl rfl rfl rfl rfl (KQ (n:=1) rfl aF Tryz.underlying25 rfl (by kernel_rfl) (by decide) rfl rr) (KO (iv K) 1 true 91 rfl rfl rfl rfl rfl (KR rfl rfl Tryz.underlying3 aK rfl rfl rr) (KO (.bool true) 1 true 91 rfl rfl rfl rfl rfl (LZ rfl rfl rfl (decide_eq_true bH) rr) (KO (.bool true) 1 true 91 rfl rfl rfl rfl rfl (R6 rfl rfl rfl Tryz.underlying4 (by first|exact Tj hz|(rw[beq_iff_eq];first|exact decide_eq_true ((Oq hz).2 (by omega))|exact decide_eq_false (fun z_=>by have:=(Oq hz).1 z_;omega))) rr) (KG (.bool true) rfl rfl (Ld rfl rfl rfl rr) (KG (.bool true) rfl rfl (KN rfl rfl rr) (KO (iv (MH l W H R B K Q D F g (FD.mk 0 0 ([]) ([]) ([])))) 9 true 99 rfl rfl rfl rfl rfl (KN rfl bG rr) ?_)))))))))))
      refine KO (.bool (decide ((MH l W H R B K Q D F g (FD.mk 0 0 ([]) ([]) ([])))=0))) 9 true 99 rfl rfl rfl rfl rfl (LZ rfl rfl rfl rfl rr) (KO (pt aC 0) 9 true 99 rfl rfl rfl rfl rfl (KQ (n:=1) rfl aF Tryz.underlying25 rfl (by kernel_rfl) (by decide) rfl rr) (KO (iv K) 9 true 99 rfl rfl rfl rfl rfl (KR rfl rfl Tryz.underlying3 aK rfl rfl rr) (KO (.bool true) 9 true 99 rfl rfl rfl rfl rfl (L9 rfl rfl rfl (decide_eq_true dY) rr) (KO (.bool true) 9 true 99 rfl rfl rfl rfl rfl (R6 rfl rfl rfl Tryz.underlying4 (by first|exact Tt hz|(rw[beq_iff_eq];first|exact decide_eq_true ((Ow hz).2 (by omega))|exact decide_eq_false (fun z_=>by have:=(Ow hz).1 z_;omega))) rr) (KG (.bool true) rfl rfl (Ld rfl rfl rfl rr) (KG (.bool true) rfl rfl (KT rfl rfl rr) (KL ?_)))))))
      have lS:=K4 (.bool true)
      refine KE (La ?_)
      exact Lq (v:=.bool true) aN rfl rfl lS ⟨rfl,bF⟩
     ·skip
      refine KF (KS rfl rfl rfl aM (KG (.bool true) rfl rfl (KN rfl rfl rr) (KO (iv (MH l W H R B K Q D F (FD.mk 0 0 ([]) ([]) ([])) h)) 1 true 91 rfl rfl rfl rfl rfl (KN rfl bE rr) (KO (.bool (decide ((MH l W H R B K Q D F (FD.mk 0 0 ([]) ([]) ([])) h)=0))) 1 true 91 rfl rfl rfl rfl rfl (LZ rfl rfl rfl rfl rr) (KO (pt aC 0) 1 true 91 rfl rfl rfl rfl rfl (KQ (n:=1) rfl aF Tryz.underlying25 rfl (by kernel_rfl) (by decide) rfl rr) (KO (iv K) 1 true 91 rfl rfl rfl rfl rfl (KR rfl rfl Tryz.underlying3 aK rfl rfl rr) (KO (.bool true) 1 true 91 rfl rfl rfl rfl rfl (LZ rfl rfl rfl (decide_eq_true bH) rr) (KO (.bool true) 1 true 91 rfl rfl rfl rfl rfl (R6 rfl rfl rfl Tryz.underlying4 (by first|exact Tj hz|(rw[beq_iff_eq];first|exact decide_eq_true ((Oq hz).2 (by omega))|exact decide_eq_false (fun z_=>by have:=(Oq hz).1 z_;omega))) rr) (KG (.bool true) rfl rfl (Ld rfl rfl rfl rr) (KG (.bool true) rfl rfl (KN rfl rfl rr) (KO (iv (MH l W H R B K Q D F g (FD.mk 0 0 ([]) ([]) ([])))) 9 true 99 rfl rfl rfl rfl rfl (KN rfl bG rr) ?_)))))))))))
      refine KO (.bool (decide ((MH l W H R B K Q D F g (FD.mk 0 0 ([]) ([]) ([])))=0))) 9 true 99 rfl rfl rfl rfl rfl (LZ rfl rfl rfl rfl rr) (KO (pt aC 0) 9 true 99 rfl rfl rfl rfl rfl (KQ (n:=1) rfl aF Tryz.underlying25 rfl (by kernel_rfl) (by decide) rfl rr) (KO (iv K) 9 true 99 rfl rfl rfl rfl rfl (KR rfl rfl Tryz.underlying3 aK rfl rfl rr) (KO (.bool false) 9 true 99 rfl rfl rfl rfl rfl (L9 rfl rfl rfl (decide_eq_false dY) rr) (KO (.bool true) 9 true 99 rfl rfl rfl rfl rfl (R6 rfl rfl rfl Tryz.underlying4 (by first|exact Tt hz|(rw[beq_iff_eq];first|exact decide_eq_true ((Ow hz).2 (by omega))|exact decide_eq_false (fun z_=>by have:=(Ow hz).1 z_;omega))) rr) (KG (.bool true) rfl rfl (Ld rfl rfl rfl rr) (KG (.bool true) rfl rfl (KT rfl rfl rr) (KL ?_)))))))
      have lT:=K4 (.bool true)
      refine KE (La ?_)
      exact Lq (v:=.bool true) aN rfl rfl lT ⟨rfl,bF⟩
    ·skip
     by_cases dZ:K≠2
     ·skip
      refine KF (KS rfl rfl rfl aM (KG (.bool true) rfl rfl (KN rfl rfl rr) (KO (iv (MH l W H R B K Q D F (FD.mk 0 0 ([]) ([]) ([])) h)) 1 true 91 rfl rfl rfl rfl rfl (KN rfl bE rr) (KO (.bool (decide ((MH l W H R B K Q D F (FD.mk 0 0 ([]) ([]) ([])) h)=0))) 1 true 91 rfl rfl rfl rfl rfl (LZ rfl rfl rfl rfl rr) (KO (pt aC 0) 1 true 91 rfl rfl rfl rfl rfl (KQ (n:=1) rfl aF Tryz.underlying25 rfl (by kernel_rfl) (by decide) rfl rr) (KO (iv K) 1 true 91 rfl rfl rfl rfl rfl (KR rfl rfl Tryz.underlying3 aK rfl rfl rr) (KO (.bool false) 1 true 91 rfl rfl rfl rfl rfl (LZ rfl rfl rfl (decide_eq_false bH) rr) (KO (.bool true) 1 true 91 rfl rfl rfl rfl rfl (R6 rfl rfl rfl Tryz.underlying4 (by first|exact Tj hz|(rw[beq_iff_eq];first|exact decide_eq_true ((Oq hz).2 (by omega))|exact decide_eq_false (fun z_=>by have:=(Oq hz).1 z_;omega))) rr) (KG (.bool true) rfl rfl (Ld rfl rfl rfl rr) (KG (.bool true) rfl rfl (KN rfl rfl rr) (KO (iv (MH l W H R B K Q D F g (FD.mk 0 0 ([]) ([]) ([])))) 9 true 99 rfl rfl rfl rfl rfl (KN rfl bG rr) ?_)))))))))))
      refine KO (.bool (decide ((MH l W H R B K Q D F g (FD.mk 0 0 ([]) ([]) ([])))=0))) 9 true 99 rfl rfl rfl rfl rfl (LZ rfl rfl rfl rfl rr) (KO (pt aC 0) 9 true 99 rfl rfl rfl rfl rfl (KQ (n:=1) rfl aF Tryz.underlying25 rfl (by kernel_rfl) (by decide) rfl rr) (KO (iv K) 9 true 99 rfl rfl rfl rfl rfl (KR rfl rfl Tryz.underlying3 aK rfl rfl rr) (KO (.bool true) 9 true 99 rfl rfl rfl rfl rfl (L9 rfl rfl rfl (decide_eq_true dZ) rr) (KO (.bool true) 9 true 99 rfl rfl rfl rfl rfl (R6 rfl rfl rfl Tryz.underlying4 (by first|exact Tt hz|(rw[beq_iff_eq];first|exact decide_eq_true ((Ow hz).2 (by omega))|exact decide_eq_false (fun z_=>by have:=(Ow hz).1 z_;omega))) rr) (KG (.bool true) rfl rfl (Ld rfl rfl rfl rr) (KG (.bool true) rfl rfl (KT rfl rfl rr) (KL ?_)))))))
      have lU:=K4 (.bool true)
      refine KE (La ?_)
      exact Lq (v:=.bool true) aN rfl rfl lU ⟨rfl,bF⟩
     ·skip
      refine KF (KS rfl rfl rfl aM (KG (.bool true) rfl rfl (KN rfl rfl rr) (KO (iv (MH l W H R B K Q D F (FD.mk 0 0 ([]) ([]) ([])) h)) 1 true 91 rfl rfl rfl rfl rfl (KN rfl bE rr) (KO (.bool (decide ((MH l W H R B K Q D F (FD.mk 0 0 ([]) ([]) ([])) h)=0))) 1 true 91 rfl rfl rfl rfl rfl (LZ rfl rfl rfl rfl rr) (KO (pt aC 0) 1 true 91 rfl rfl rfl rfl rfl (KQ (n:=1) rfl aF Tryz.underlying25 rfl (by kernel_rfl) (by decide) rfl rr) (KO (iv K) 1 true 91 rfl rfl rfl rfl rfl (KR rfl rfl Tryz.underlying3 aK rfl rfl rr) (KO (.bool false) 1 true 91 rfl rfl rfl rfl rfl (LZ rfl rfl rfl (decide_eq_false bH) rr) (KO (.bool true) 1 true 91 rfl rfl rfl rfl rfl (R6 rfl rfl rfl Tryz.underlying4 (by first|exact Tj hz|(rw[beq_iff_eq];first|exact decide_eq_true ((Oq hz).2 (by omega))|exact decide_eq_false (fun z_=>by have:=(Oq hz).1 z_;omega))) rr) (KG (.bool true) rfl rfl (Ld rfl rfl rfl rr) (KG (.bool true) rfl rfl (KN rfl rfl rr) (KO (iv (MH l W H R B K Q D F g (FD.mk 0 0 ([]) ([]) ([])))) 9 true 99 rfl rfl rfl rfl rfl (KN rfl bG rr) ?_)))))))))))
      refine KO (.bool (decide ((MH l W H R B K Q D F g (FD.mk 0 0 ([]) ([]) ([])))=0))) 9 true 99 rfl rfl rfl rfl rfl (LZ rfl rfl rfl rfl rr) (KO (pt aC 0) 9 true 99 rfl rfl rfl rfl rfl (KQ (n:=1) rfl aF Tryz.underlying25 rfl (by kernel_rfl) (by decide) rfl rr) (KO (iv K) 9 true 99 rfl rfl rfl rfl rfl (KR rfl rfl Tryz.underlying3 aK rfl rfl rr) (KO (.bool false) 9 true 99 rfl rfl rfl rfl rfl (L9 rfl rfl rfl (decide_eq_false dZ) rr) (KO (.bool true) 9 true 99 rfl rfl rfl rfl rfl (R6 rfl rfl rfl Tryz.underlying4 (by first|exact Tt hz|(rw[beq_iff_eq];first|exact decide_eq_true ((Ow hz).2 (by omega))|exact decide_eq_false (fun z_=>by have:=(Ow hz).1 z_;omega))) rr) (KG (.bool true) rfl rfl (Ld rfl rfl rfl rr) (KG (.bool true) rfl rfl (KT rfl rfl rr) (KL ?_)))))))
      have lV:=K4 (.bool true)
      refine KE (La ?_)
      exact Lq (v:=.bool true) aN rfl rfl lV ⟨rfl,bF⟩
end Go.Proofs.YtknjpdcpmpfklaaGreatDoor
set_option maxRecDepth 100000
namespace Go.Proofs.YtknjpdcpmpfklaaGreatDoor
open Go.ChangeShapes Go.WideShapes Go.ChangeAt Go.RowKit
section
variable {H:Type} {enc:TypeId×Value->H} {w:World} {base:Nat} {spare:Nat->Bool} {held:Bool}
theorem Mg.of_row{a:Option Addr}{len cap:Nat}{zs:List Int}
  (h:(a=none/\len=0/\cap=0/\zs=[])\/∃ x,a=some x/\len<=cap/\cap<=maxLen/\len<=zs.length/\(∀ i,i<zs.length->w.cell? (x.add i)=some (.int .u8 (zs.getD i 0)))/\∀ n∈zs,(Lit.int .u8 n).wf=true) :
  ∃ l:List Nat,Mg w (.slice a len cap) l:=by
 rcases h with ⟨rfl,rfl,rfl,rfl⟩ | ⟨x,rfl,hlc,hcm,hz,hcell,hwf⟩
 ·exact⟨[],Mg.nil w⟩
 ·have hlen:((zs.take len).map Int.toNat).length=len:=by simp;omega
  refine⟨(zs.take len).map Int.toNat,some x,cap,by rw[hlen],by rw[hlen];exact hlc,hcm,by simp,?_,?_⟩
  ·intro y hy
   obtain⟨z,hz1,rfl⟩:=List.mem_map.1 hy
   have:=bounds_u8 (hwf z (List.mem_of_mem_take hz1))
   omega
  ·intro hpos
   rw[hlen] at hpos
   have hpos':0<zs.length:=by omega
   obtain⟨b,off,rfl,hc⟩:=ints_at hcell hpos'
   refine⟨b,off,rfl,World.block_lt_of_cell? w _ (hc 0 hpos'),fun i hi=>?_⟩
   rw[hlen] at hi
   have hi':i<zs.length:=by omega
   rw[hc i hi']
   have hwi:=bounds_u8 (hwf zs[i] (List.getElem_mem hi'))
   simp[List.getD,hi',hi]
   omega
theorem Rs{fuel:Nat}{v:Value}{x:DataW H×List MemPlace}
  (h:DataW.trod enc Tryz.prog w base spare held fuel 26 [v]=some x):∃ l:List Nat,Mg w v l:=by
 rcases open_ints Tryz.underlying26 Tryz.underlying5 (by kernel_rfl) h with ⟨hcs,_⟩ | ⟨a,len,cap,zs,hcs,_,hl,hm,hz,_,hcell,hwz⟩
 ·simp at hcs
  subst hcs
  exact⟨[],Mg.nil w⟩
 ·simp at hcs
  subst hcs
  exact Mg.of_row (.inr ⟨a,rfl,hl,hm,by have:=hz;split at this <;> omega,hcell,hwz⟩)
end
end Go.Proofs.YtknjpdcpmpfklaaGreatDoor
set_option maxRecDepth 100000
namespace Go.Proofs.YtknjpdcpmpfklaaGreatDoor
open Go.ChangeShapes Go.WideShapes Go.ChangeAt Go.RowKit Go.Deep Go.Joins
section
variable {H:Type} {enc:TypeId×Value->H} {w:World} {base:Nat} {spare:Nat->Bool} {held:Bool}
theorem Tryz.cellsI:Tryz.prog.cellsOf 3=1:=by kernel_rfl
theorem Tryz.cells_sequence:Tryz.prog.cellsOf 23=4:=by kernel_rfl
theorem V3{r:Reach}{b0:Nat}{v:Value}{d:DataW H}{ps:List MemPlace}(hval:Value.okWide Tryz.prog w r b0 23 v)(h:DataW.Trod enc Tryz.prog w base spare held 23 v d ps) :
  ∃ a b c e:Int,v = .agg #[.int .i64 a,.int .i64 b,.int .i64 c,.int .i64 e]:=by
 obtain⟨cs,rfl,hsz⟩:=okWide_struct Tryz.underlying23 hval
 rw[Tryz.cells_sequence] at hsz
 obtain⟨cs⟩:=cs
 obtain⟨fuel,hf⟩:=h
 match cs,hsz with
 | [c0,c1,c2,c3],_ =>
  obtain⟨y0,y1,y2,y3,n,_,_,h0,h1,h2,h3⟩:=trod_struct4 (cs:=[c0,c1,c2,c3]) Tryz.underlying23 hf
  simp only[Tryz.cellsI,List.drop_zero,List.drop_succ_cons,List.take_succ_cons,List.take_zero] at h0 h1 h2 h3
  obtain⟨a,ha,_,_⟩:=DataW.trod_int Tryz.underlying3 h0
  obtain⟨b,hb,_,_⟩:=DataW.trod_int Tryz.underlying3 h1
  obtain⟨c,hc,_,_⟩:=DataW.trod_int Tryz.underlying3 h2
  obtain⟨e,he,_,_⟩:=DataW.trod_int Tryz.underlying3 h3
  simp only[List.cons.injEq,and_true] at ha hb hc he
  subst ha;subst hb;subst hc;subst he
  exact⟨a,b,c,e,rfl⟩
theorem Tryz.cells_head:Tryz.prog.cellsOf 25=4:=by kernel_rfl
theorem ZW{r:Reach}{b0:Nat}{v:Value}{d:DataW H}{ps:List MemPlace}(hval:Value.okWide Tryz.prog w r b0 25 v)(h:DataW.Trod enc Tryz.prog w base spare held 25 v d ps) :
  ∃ a b c e:Int,v = .agg #[.int .i64 a,.int .i64 b,.int .i64 c,.int .i64 e]:=by
 obtain⟨cs,rfl,hsz⟩:=okWide_struct Tryz.underlying25 hval
 rw[Tryz.cells_head] at hsz
 obtain⟨cs⟩:=cs
 obtain⟨fuel,hf⟩:=h
 match cs,hsz with
 | [c0,c1,c2,c3],_ =>
  obtain⟨y0,y1,y2,y3,n,_,_,h0,h1,h2,h3⟩:=trod_struct4 (cs:=[c0,c1,c2,c3]) Tryz.underlying25 hf
  simp only[Tryz.cellsI,List.drop_zero,List.drop_succ_cons,List.take_succ_cons,List.take_zero] at h0 h1 h2 h3
  obtain⟨a,ha,_,_⟩:=DataW.trod_int Tryz.underlying3 h0
  obtain⟨b,hb,_,_⟩:=DataW.trod_int Tryz.underlying3 h1
  obtain⟨c,hc,_,_⟩:=DataW.trod_int Tryz.underlying3 h2
  obtain⟨e,he,_,_⟩:=DataW.trod_int Tryz.underlying3 h3
  simp only[List.cons.injEq,and_true] at ha hb hc he
  subst ha;subst hb;subst hc;subst he
  exact⟨a,b,c,e,rfl⟩
end
end Go.Proofs.YtknjpdcpmpfklaaGreatDoor
set_option maxRecDepth 100000
namespace Go.Proofs.YtknjpdcpmpfklaaGreatDoor
open Go.ChangeShapes Go.WideShapes Go.ChangeAt Go.RowKit Go.Deep
section
variable {H:Type} {enc:TypeId×Value->H} {w:World} {base:Nat} {spare:Nat->Bool} {held:Bool}
theorem Tryz.cellsF:Tryz.prog.cellsOf 29=5:=by kernel_rfl
theorem Tryz.cellsP:Tryz.prog.cellsOf 27=3:=by kernel_rfl
theorem Tryz.cellsS:Tryz.prog.cellsOf 26=1:=by kernel_rfl
theorem U5{r:Reach}{b0:Nat}{v:Value}{d:DataW H}{ps:List MemPlace}(hval:Value.okWide Tryz.prog w r b0 29 v)(h:DataW.Trod enc Tryz.prog w base spare held 29 v d ps) :
  ∃ (f:FD) (a b c:Value),v = .agg #[.int .i64 f.W,.int .i64 f.H,a,b,c]/\Mg w a f.p0/\Mg w b f.p1/\Mg w c f.p2:=by
 obtain⟨cs,rfl,hsz⟩:=okWide_struct Tryz.underlying29 hval
 rw[Tryz.cellsF] at hsz
 obtain⟨cs⟩:=cs
 obtain⟨fuel,hf⟩:=h
 match cs,hsz with
 | [c0,c1,c2,c3,c4],_ =>
  obtain⟨y0,y1,y2,n,_,_,h0,h1,h2⟩:=trod_struct3 (cs:=[c0,c1,c2,c3,c4]) Tryz.underlying29 hf
  simp only[Tryz.cellsI,Tryz.cellsP,List.drop_zero,List.drop_succ_cons,List.take_succ_cons,List.take_zero] at h0 h1 h2
  obtain⟨W,hW,_,_⟩:=DataW.trod_int Tryz.underlying3 h0
  obtain⟨Hh,hH,_,_⟩:=DataW.trod_int Tryz.underlying3 h1
  obtain⟨xs,m,_,_,_,hn,hel⟩:=DataW.trod_array Tryz.underlying27 h2
  have e0:=hel 0 (by omega)
  have e1:=hel 1 (by omega)
  have e2:=hel 2 (by omega)
  simp only[Tryz.cellsS,Nat.mul_one,List.drop_zero,List.drop_succ_cons,List.take_succ_cons,List.take_zero] at e0 e1 e2
  rw[List.getElem?_eq_getElem (by omega)] at e0 e1 e2
  obtain⟨l0,b0⟩:=Rs e0
  obtain⟨l1,b1⟩:=Rs e1
  obtain⟨l2,b2⟩:=Rs e2
  simp only[List.cons.injEq,and_true] at hW hH
  subst hW;subst hH
  exact⟨⟨W,Hh,l0,l1,l2⟩,c2,c3,c4,rfl,b0,b1,b2⟩
end
end Go.Proofs.YtknjpdcpmpfklaaGreatDoor
