/- What PictureStill reaches of my texts, part 10. -/
import Derived.Test.YtknjpdcpmpfklaaGreatDoorPictureStillI
set_option maxRecDepth 100000
set_option maxHeartbeats 4000000
set_option maxRecDepth 100000
namespace Go.Proofs.YtknjpdcpmpfklaaGreatDoor
open Go.RowKit
theorem aEi{l:List Nat}{W H K:Int}(h:(Qm l K W H).2=0):(Qm l K W H).1.length=MY W H 3:=by
 have hz:(Oi l K W H 3).2.1=0:=by
  apply Decidable.byContradiction;intro hn
  rw[Zc (Nat.le_refl 3) hn] at h;exact hn h
 unfold Qm at h ⊢
 rw[if_pos hz] at h ⊢
 split at h
 ·rename_i hd;rw[if_pos hd];exact W7 3 hz
 ·cases h
theorem aAM{W H:Int}(h1:NQ W)(h2:NQ H):SF W H=0:=UG (Qb h1) (Qb h2)
theorem Ti(W H R B K Q D F:Int)(v:Value)(l:List Nat)(g:FD)(g0 g1 g2:Value)(h:FD)(h0 h1 h2:Value)(T_b:Nat->Prop)(T_g0:Nat->Prop)(T_g1:Nat->Prop)(T_g2:Nat->Prop)(T_h0:Nat->Prop)(T_h1:Nat->Prop)(T_h2:Nat->Prop)(w0:World)(hA:Og w0)(hO:OX w0)(hs:Ox w0)(hw:QZ w0)(hl:l.length<=1001)(h_b:Mv w0 T_b v (l))(h_g0:Mv w0 T_g0 g0 ((g).p0))(h_g1:Mv w0 T_g1 g1 ((g).p1))(h_g2:Mv w0 T_g2 g2 ((g).p2))(h_h0:Mv w0 T_h0 h0 ((h).p0))(h_h1:Mv w0 T_h1 h1 ((h).p1))(h_h2:Mv w0 T_h2 h2 ((h).p2)) :
  Calls Tryz.prog 12 #[.agg #[.int .i64 (W),.int .i64 (H),.int .i64 (R),.int .i64 (B)],.agg #[.int .i64 (K),.int .i64 (Q),.int .i64 (D),.int .i64 (F)],v,.agg #[.int .i64 ((g).W),.int .i64 ((g).H),g0,g1,g2],.agg #[.int .i64 ((h).W),.int .i64 ((h).H),h0,h1,h2]] w0 fun e w'=>∃ (v1:Value) (T1:Nat->Prop) (v2:Value) (T2:Nat->Prop) (v3:Value) (T3:Nat->Prop),e = .returned (.tuple #[.agg #[.int .i64 ((MF l W H R B K Q D F g h).W),.int .i64 ((MF l W H R B K Q D F g h).H),v1,v2,v3],.int .i64 (N5 l W H R B K Q D F g h)])/\KR (fun _=>False) w0 w'/\(Md w' T1 v1 ((MF l W H R B K Q D F g h).p0)/\KS w0 Mb T1)/\(Md w' T2 v2 ((MF l W H R B K Q D F g h).p1)/\KS w0 Mb T2)/\(Md w' T3 v3 ((MF l W H R B K Q D F g h).p2)/\KS w0 Mb T3)/\KO T1 T2/\KO T1 T3/\KO T2 T3:=by
 refine Zq (args:=[.agg #[iv W,iv H,iv R,iv B],.agg #[iv K,iv Q,iv D,iv F],v,.agg #[iv (g.W),iv (g.H),g0,g1,g2],.agg #[iv (h.W),iv (h.H),h0,h1,h2]]) 92 Tryz.func12 rfl rfl (Nat.le_of_ble_eq_true rfl) ?_
 have g_b:=KS.refl w0 T_b
 have g_g0:=KS.refl w0 T_g0
 have g_g1:=KS.refl w0 T_g1
 have g_g2:=KS.refl w0 T_g2
 have g_h0:=KS.refl w0 T_h0
 have g_h1:=KS.refl w0 T_h1
 have g_h2:=KS.refl w0 T_h2
 refine KM (KL (LJ (vs:=[iv W,iv H,iv R,iv B]) rfl rfl rfl rfl fun p1 w2 B4 g5 k3=>?_))
 obtain⟨gO,gP,gQ,gR,gS,gT,gU⟩:=Uc k3 h_b h_g0 h_g1 h_g2 h_h0 h_h1 h_h2
 refine LJ (vs:=[iv K,iv Q,iv D,iv F]) rfl rfl rfl rfl fun ak r9 gV sb df=>?_
 obtain⟨gW,gZ,hQ,hZ,ia,ib,ie,ig⟩:=Yf df gO gP gQ gR gS gT gU B4
 refine LJ (vs:=[iv (g.W),iv (g.H),g0,g1,g2]) rfl rfl rfl rfl fun ap sc ii se dg=>?_
 obtain⟨ij,ik,io,ip,iq,ir,iu,iw,iy⟩:=aA9 dg gW gZ hQ hZ ia ib ie ig gV
 refine LJ (vs:=[iv (h.W),iv (h.H),h0,h1,h2]) rfl rfl rfl rfl fun aq sf iz dh di=>?_
 obtain⟨iA,iB,iC,iD,iE,iF,iG,iH,iI,iJ⟩:=Uo di ij ik io ip iq ir iu iw iy ii
 have dj:=((((KR.refl (fun _=>False) w0).tr k3).tr df).tr dg).tr di
 refine LN (n:=5) (vs:=[iv 0,iv 0,.slice none 0 0,.slice none 0 0,.slice none 0 0]) rfl rfl rfl (by kernel_rfl) fun ai sg dk iK dl=>?_
 have bj:=KS.new dj iK
 obtain⟨iL,iM,iN,iO,iP,iQ,iR,iS,iT,iU,iV⟩:=aCY dl iA iB iC iD iE iF iG iH iI iJ iz
 have dm:=dj.tr dl
 refine O7 (v:=iv 0) rfl rfl rfl (by kernel_rfl) rfl fun aj si iW dn dp=>?_
 have bl:=KS.new dm dn
 have aB:=KO.new dn (L8 dk.lt)
 obtain⟨iX,iY,iZ,ja,jb,jc,jd,dq,dr,je,jf,jg⟩:=aCl dp iL iM iN iO iP iQ iR iS iT iU iV dk
 refine KQ ?_
 have jh:=K4 (.agg #[iv W,iv H,iv R,iv B])
 have ji:=K4 (.agg #[iv K,iv Q,iv D,iv F])
 have dt:=K4 (v)
 have jj:=K4 (.agg #[iv (g.W),iv (g.H),g0,g1,g2])
 have jk:=K4 (.agg #[iv (h.W),iv (h.H),h0,h1,h2])
 have bm:=K4 (undef)
 have aC:=K4 (pt p1 0)
 have aV:=K4 (pt ak 0)
 have bY:=K4 (pt ap 0)
 have bZ:=K4 (pt aq 0)
 have aD:=K4 (pt ai 0)
 have aE:=K4 (pt aj 0)
 refine KK (KM (KM (KL (KN (.agg #[iv W,iv H,iv R,iv B]) rr (KX MR rfl aC dq rr) (KN (.agg #[iv K,iv Q,iv D,iv F]) rr (KX Tl rfl aV dr rr) (L9 rfl rfl rfl rfl rfl (fun _ _=>by kernel_rfl) (Lo rfl (Lo rfl L5)) (Zr W H R B K Q D F  _   ) fun du dv=>?_))))))
 obtain⟨jl,b7,b8,b9,cd,ce,cf,cg,ci,cj,cm,cn,co⟩:=ZI dv iX iY iZ ja jb jc jd dq dr je jf jg iW
 have cq:=(dm.tr dp).tr dv
 refine Lb (iv (RM W H R B K Q D F)) LE (KQ ?_)
 have cr:=K4 (iv (RM W H R B K Q D F))
 refine KK (KM (KL (K2 Lw cr (KN (.bool (decide ((RM W H R B K Q D F)≠0))) rr (Mw rfl rfl rfl rfl rr) (KQ ?_)))))
 have dw:=K4 (.bool (decide ((RM W H R B K Q D F)≠0)))
 refine KK ?_
 refine K5 dw (fun aW=>?_) (fun aW=>?_)
 ·replace aW:=of_decide_eq_true aW
  refine KM ?_
  have hmn:=aAl (W:=W) (H:=H) (R:=R) (B:=B) (K:=K) (Q:=Q) (D:=D) (F:=F) (by assumption)
  have hE:=aBZ (l:=l) (g:=g) (h:=h) hmn
  have hFr:=Yv (l:=l) (W:=W) (H:=H) (R:=R) (B:=B) (K:=K) (Q:=Q) (D:=D) (F:=F) (g:=g) (h:=h) (by rw[hE];decide)
  refine KL (KN (.agg #[iv 0,iv 0,.slice none 0 0,.slice none 0 0,.slice none 0 0]) rr (Ma (l':=[]) (cells:=#[iv 0,iv 0,.slice none 0 0,.slice none 0 0,.slice none 0 0]) rfl Rj (by kernel_rfl) rfl rr) (K2 Lw cr (Ll (us:=[iv 0,iv 0,.slice none 0 0,.slice none 0 0,.slice none 0 0]) La rfl rfl rfl aD rfl cn rfl (Yq LE (L4 rfl MX)) fun sj jm dy=>?_)))
  have jn:=co.all dy (aB aj rfl)
  refine Ml rfl rfl rfl aE rfl jn (by rfl) (by kernel_rfl) fun sk jo dz=>?_
  have jp:=jm.all dz (aB.symm ai rfl)
  refine KQ ?_
  refine KK (Le (Lx ?_))
  exact R8 (ms:=[]) (Eq.trans bm (rfl:undef=OZ [])) trivial rfl (M6 (vs:=[iv 0,iv 0,.slice none 0 0,.slice none 0 0,.slice none 0 0]) La rfl aD jp) (O3 Tryz.underlying33 rfl rfl aE jo) ⟨(.slice none 0 0),Mb,(.slice none 0 0),Mb,(.slice none 0 0),Mb,(by first|exact hfalse.elim|(rw[hE,hFr,Oo hmn];rfl)|rw[hE,hFr,Oo hmn]|(rw[hE,hFr,← NN 3 (Nat.le_refl 3)];rfl)|rw[hE,hFr,← NN 3 (Nat.le_refl 3)]|(rw[hE,hFr];rfl)|rw[hE,hFr]),((cq.trans dy (KS.ok (S:=fun _=>False) bj KZ)).trans dz (KS.ok (S:=fun _=>False) bl KZ)),⟨(by first|exact hfalse.elim|(rw[hFr,← NN 3 (Nat.le_refl 3)];exact(Md.nil _))|(rw[hFr];exact(Md.nil _))),(KS.refl _ _)⟩,⟨(by first|exact hfalse.elim|(rw[hFr,← NN 3 (Nat.le_refl 3)];exact(Md.nil _))|(rw[hFr];exact(Md.nil _))),(KS.refl _ _)⟩,⟨(by first|exact hfalse.elim|(rw[hFr,← NN 3 (Nat.le_refl 3)];exact(Md.nil _))|(rw[hFr];exact(Md.nil _))),(KS.refl _ _)⟩,KO.none,KO.none,KO.none⟩
 ·replace aW:=of_decide_eq_false aW
  refine Lf (KK (KM (KM ?_)))
  have hm:RU W H R B K Q D F:=azQ (by first|assumption|(apply Decidable.byContradiction;assumption))
  have hsq:=hm.1
  have hsd:=SJ hm.1
  have hhd:=hm.2
  by_cases dA:¬ ((K≠0/\¬ Nl W H R B g)\/(K=2/\¬ Nl W H R B h))
  ·skip
   refine KL (KN (.agg #[iv W,iv H,iv R,iv B]) rr (KX MR rfl aC cg rr) (KN (pt ak 0) rr (KU (n:=1) rfl aV Tryz.underlying25 rfl (by kernel_rfl) (by decide) rfl rr) (KN (iv K) rr (KY rfl rfl Tryz.underlying3 ci rfl rfl rr) (KN (.agg #[iv (g.W),iv (g.H),g0,g1,g2]) rr (KX La rfl bY cj rr) (KN (.agg #[iv (h.W),iv (h.H),h0,h1,h2]) rr (KX La rfl bZ cm rr) (LH (R:=fun v_ w_=>v_ = .bool true/\KR (fun _=>False) du w_) rfl rfl (LQ rfl rfl rfl (fun _ _=>by kernel_rfl) (K6 _) (Lo rfl (Lo rfl (Lo rfl (Lo rfl L5)))) (aB4 W H R B K g g0 g1 g2 h h0 h1 h2 T_g0 T_g1 T_g2 T_h0 T_h1 T_h2 _  b7 b8 b9 cd ce cf ) (fun e_ w_ h_=>⟨_,h_.1,(congrArg Value.bool (decide_eq_true dA)),h_.2⟩)) ?_))))))
   rintro _ dB ⟨rfl,dC⟩
   obtain⟨dD,jq,jr,js,jt,ju,jv,dE,dF,jw,jx,jy,jz⟩:=ZI dC jl b7 b8 b9 cd ce cf cg ci cj cm cn co
   have ct:=cq.tr dC
   refine KN (.bool false) rr (Mq rfl rfl rfl rr) (KQ ?_)
   have dG:=K4 (.bool false)
   refine KK ?_
   refine K5 (t:=false) dG (fun e=>by cases e) (fun _=>?_)
   refine Lf (KK (KM ?_))
   have hn:¬ ((K≠0/\¬ Nl W H R B g)\/(K=2/\¬ Nl W H R B h)):=by first|assumption|(apply Decidable.byContradiction;assumption)
   have hEc:=(ZW (l:=l) (g:=g) (h:=h) hm hn).trans (congrArg Prod.snd (Ql hm).symm)
   refine KL (KN (.agg #[iv W,iv H,iv R,iv B]) rr (KX MR rfl aC dE rr) (KN (.agg #[iv K,iv Q,iv D,iv F]) rr (KX Tl rfl aV dF rr) (K2 Lw dt (LH (R:=fun v_ w_=>∃ (ao:Value) (av:Nat->Prop),.tuple #[ao,iv ((O2 l W H R B K Q D F).2)]=v_/\KR (fun _=>False) dB w_/\(RP VD w_ av ao ((O2 l W H R B K Q D F).1)/\KS dB Mb av)) rfl rfl (LQ rfl rfl rfl (fun _ _=>by kernel_rfl) (K6 _) (Lo rfl (Lo rfl (Lo rfl L5))) (TW W H R B K Q D F v l T_b _ (hA.all ct) (hO.all ct) (by first|omega|(simp;omega)) dD ) (fun e_ w_ h_=>by obtain⟨v292_,T295_,he_,hr_⟩:=h_;exact⟨_,he_,v292_,T295_,rfl,hr_⟩)) ?_))))
   rintro _ sl ⟨ao,av,rfl,dH,⟨dI,sm⟩⟩
   obtain⟨dJ,dK,dL,dM,dN,dO,dP,dQ,dR,dS,dT,dU,dV⟩:=ZI dH dD jq jr js jt ju jv dE dF jw jx jy jz
   have dW:=ct.tr dH
   refine KN (.tuple #[ao,iv ((O2 l W H R B K Q D F).2)]) rr (KT rfl rfl rr) (KN ao rr (LY rfl rfl rfl rr) (KN (iv ((O2 l W H R B K Q D F).2)) rr (LY rfl rfl rfl rr) (O7 (v:=.slice none 0 0) rfl rfl rfl (by kernel_rfl) rfl fun ar sn jA dX dY=>?_)))
   obtain⟨jB,jC,jD,jE,jF,jG,jH,jI,jJ,jK,jL,jM,jN,jO⟩:=SQ dX dJ dK dL dM dN dO dP dQ dR dS dT dU dV dI
   obtain⟨jP,jQ,jR,jS,jT,jU,jV,jW,jX,jY,jZ,j0,j1,dZ⟩:=PT dY dJ dK dL dM dN dO dP dQ dR dS dT dU dV dI
   refine Ml rfl rfl rfl rfl rfl jA dZ.oneC (by kernel_rfl) fun aX bn am=>?_
   have bo:=jP.all am jB.symm
   have bp:=jQ.all am jC.symm
   have bq:=jR.all am jD.symm
   have bt:=jS.all am jE.symm
   have bu:=jT.all am jF.symm
   have bv:=jU.all am jG.symm
   have bz:=jV.all am jH.symm
   have aK:=jW.all am (jI.symm p1 rfl)
   have bA:=jX.all am (jJ.symm ak rfl)
   have bB:=jY.all am (jK.symm ap rfl)
   have bC:=jZ.all am (jL.symm aq rfl)
   have aY:=j0.all am (jM.symm ai rfl)
   have aZ:=j1.all am (jN.symm aj rfl)
   have j2:=dZ.all am jO.symm
   have a8:=(dW.tr dY).trans am (KS.ok (S:=fun _=>False) (KS.new dW dX) KZ)
   refine Lb (iv ((O2 l W H R B K Q D F).2)) LE (KQ ?_)
   have j3:=K4 (pt ar 0)
   have d8:=K4 (iv ((O2 l W H R B K Q D F).2))
   refine KK (KM (KM (KL (K2 Lw d8 (KN (.bool (decide (((O2 l W H R B K Q D F).2)≠0))) rr (Mw rfl rfl rfl rfl rr) (KQ ?_))))))
   have d9:=K4 (.bool (decide (((O2 l W H R B K Q D F).2)≠0)))
   refine KK ?_
   refine K5 d9 (fun a9=>?_) (fun a9=>?_)
   ·replace a9:=of_decide_eq_true a9
    refine KM ?_
    have hE:=hEc
    have hFr:=Yv (l:=l) (W:=W) (H:=H) (R:=R) (B:=B) (K:=K) (Q:=Q) (D:=D) (F:=F) (g:=g) (h:=h) (by rw[hE];assumption)
    refine KL (KN (.agg #[iv 0,iv 0,.slice none 0 0,.slice none 0 0,.slice none 0 0]) rr (Ma (l':=[]) (cells:=#[iv 0,iv 0,.slice none 0 0,.slice none 0 0,.slice none 0 0]) rfl Rj (by kernel_rfl) rfl rr) (K2 Lw d8 (Ll (us:=[iv 0,iv 0,.slice none 0 0,.slice none 0 0,.slice none 0 0]) La rfl rfl rfl aD rfl aY rfl (Yq LE (L4 rfl MX)) fun so j4 eb=>?_)))
    have j5:=aZ.all eb (aB aj rfl)
    refine Ml rfl rfl rfl aE rfl j5 (by rfl) (by kernel_rfl) fun sp j6 ee=>?_
    have j7:=j4.all ee (aB.symm ai rfl)
    refine KQ ?_
    refine KK (Le (Lx ?_))
    exact R8 (ms:=[]) (Eq.trans bm (rfl:undef=OZ [])) trivial rfl (M6 (vs:=[iv 0,iv 0,.slice none 0 0,.slice none 0 0,.slice none 0 0]) La rfl aD j7) (O3 Tryz.underlying33 rfl rfl aE j6) ⟨(.slice none 0 0),Mb,(.slice none 0 0),Mb,(.slice none 0 0),Mb,(by first|exact hfalse.elim|(rw[hE,hFr,Oo hmn];rfl)|rw[hE,hFr,Oo hmn]|(rw[hE,hFr,← NN 3 (Nat.le_refl 3)];rfl)|rw[hE,hFr,← NN 3 (Nat.le_refl 3)]|(rw[hE,hFr];rfl)|rw[hE,hFr]),((a8.trans eb (KS.ok (S:=fun _=>False) bj KZ)).trans ee (KS.ok (S:=fun _=>False) bl KZ)),⟨(by first|exact hfalse.elim|(rw[hFr,← NN 3 (Nat.le_refl 3)];exact(Md.nil _))|(rw[hFr];exact(Md.nil _))),(KS.refl _ _)⟩,⟨(by first|exact hfalse.elim|(rw[hFr,← NN 3 (Nat.le_refl 3)];exact(Md.nil _))|(rw[hFr];exact(Md.nil _))),(KS.refl _ _)⟩,⟨(by first|exact hfalse.elim|(rw[hFr,← NN 3 (Nat.le_refl 3)];exact(Md.nil _))|(rw[hFr];exact(Md.nil _))),(KS.refl _ _)⟩,KO.none,KO.none,KO.none⟩
   ·replace a9:=of_decide_eq_false a9
    refine Lf (KK (KM ?_))
    have hE:N5 l W H R B K Q D F g h=0:=hEc.trans (by first|assumption|(apply Decidable.byContradiction;assumption))
    have hFr:=Z9 hE
    have hc0:(Qm l K W H).2=0:=by have h_:=hEc.symm.trans hE;rw[Ql hm] at h_;exact h_
    have hlo0:=aEi hc0
    have hmay:=aCU (l:=l) (W:=W) (H:=H) (aBU hm.2)
    obtain⟨L,hL⟩:∃ L,L=(Qm l K W H).1:=⟨_,rfl⟩
    rw[← hL] at hlo0 hFr hmay
    have hnw:=aAM hm.1.1 hm.1.2.1
    have bD:RP VD aX av ao L:=(by rw[hL,← congrArg Prod.fst (Ql (l:=l) hm)];exact j2)
    refine KL (KN (pt p1 0) rr (KU (n:=1) rfl aC Tryz.underlying23 rfl (by kernel_rfl) (by decide) rfl rr) (KN (iv W) rr (KY rfl rfl Tryz.underlying3 aK rfl rfl rr) (KN (pt p1 1) rr (KU (n:=1) rfl aC Tryz.underlying23 rfl (by kernel_rfl) (by decide) rfl rr) (KN (iv H) rr (KY rfl rfl Tryz.underlying3 aK rfl rfl rr) (LH (R:=fun v_ w_=>∃ (aF:Value) (aL:Nat->Prop) (aG:Value) (aM:Nat->Prop) (aH:Value) (aN:Nat->Prop),.tuple #[.agg #[iv ((LR W H 0).W),iv ((LR W H 0).H),aF,aG,aH],iv (SF W H)]=v_/\KR (fun _=>False) aX w_/\(Md w_ aL aF ((LR W H 0).p0)/\KS aX Mb aL)/\(Md w_ aM aG ((LR W H 0).p1)/\KS aX Mb aM)/\(Md w_ aN aH ((LR W H 0).p2)/\KS aX Mb aN)/\KO aL aM/\KO aL aN/\KO aM aN) rfl rfl (LQ rfl rfl rfl (fun _ _=>by kernel_rfl) (K6 _) (Lo rfl (Lo rfl (Lo rfl L5))) (aCe W H 0  _ (by decide)  ) (fun e_ w_ h_=>by obtain⟨v463_,T468_,v464_,T469_,v465_,T470_,he_,hr_⟩:=h_;exact⟨_,he_,v463_,T468_,v464_,T469_,v465_,T470_,rfl,hr_⟩)) ?_)))))
    rintro _ sq ⟨aF,aL,aG,aM,aH,aN,rfl,cu,⟨eh,cv⟩,⟨ei,cw⟩,⟨en,cy⟩,j8,j9,ka⟩
    obtain⟨eo,ep,er,et,eu,ew,ex,ey,ez,eA,eB,eC,eD,eE⟩:=PT cu bo bp bq bt bu bv bz aK bA bB bC aY aZ bD
    have eF:=bn.all cu id
    have eG:=a8.tr cu
    obtain⟨kb,kd,ke,kf,kg,ki,kj,kn,ko,kp,kq,kr,ks,kt⟩:=SQ cv bo bp bq bt bu bv bz aK bA bB bC aY aZ bD
    have ku:=KO.new cv (L8 bn.lt)
    obtain⟨kv,kw,kx,ky,kz,kA,kB,kC,kD,kE,kF,kG,kH,kI⟩:=SQ cw bo bp bq bt bu bv bz aK bA bB bC aY aZ bD
    have kJ:=KO.new cw (L8 bn.lt)
    obtain⟨kK,kL,kM,kN,kO,kP,kQ,kR,kS,kT,kU,kV,kW,kX⟩:=SQ cy bo bp bq bt bu bv bz aK bA bB bC aY aZ bD
    have kY:=KO.new cy (L8 bn.lt)
    refine KN (.tuple #[.agg #[iv ((LR W H 0).W),iv ((LR W H 0).H),aF,aG,aH],iv (SF W H)]) rr (KT rfl rfl rr) (KN (.agg #[iv ((LR W H 0).W),iv ((LR W H 0).H),aF,aG,aH]) rr (LY rfl rfl rfl rr) (KN (iv (SF W H)) rr (LY rfl rfl rfl rr) (LN (n:=5) (vs:=[iv 0,iv 0,.slice none 0 0,.slice none 0 0,.slice none 0 0]) rfl rfl rfl (by kernel_rfl) fun au ss kZ cz cA=>?_)))
    have eH:=KS.new eG cz
    obtain⟨eI,eJ,eK,eL,eM,eN,eO,eP,eQ,eR,eS,eT,eU,eV⟩:=SQ cz eo ep er et eu ew ex ey ez eA eB eC eD eE
    obtain⟨eW,eX,eY,eZ⟩:=WI cz eF eh ei en
    obtain⟨k8,la,lc,ld,le,lf,lg,lh,lj,lk,ll,lm,ln,lp⟩:=PT cA eo ep er et eu ew ex ey ez eA eB eC eD eE
    obtain⟨lq,e6,e7,e8⟩:=Pg cA eF eh ei en
    refine Ll (us:=[iv ((LR W H 0).W),iv ((LR W H 0).H),aF,aG,aH]) La rfl rfl rfl rfl rfl kZ rfl (Qc rr (L4 e6.one (L4 e7.one (L4 e8.one MX)))) fun e9 fa ah=>?_
    have lr:=k8.all ah eI.symm
    have lu:=la.all ah eJ.symm
    have lv:=lc.all ah eK.symm
    have lw:=ld.all ah eL.symm
    have lx:=le.all ah eM.symm
    have ly:=lf.all ah eN.symm
    have lz:=lg.all ah eO.symm
    have fb:=lh.all ah (eP.symm p1 rfl)
    have lA:=lj.all ah (eQ.symm ak rfl)
    have lB:=lk.all ah (eR.symm ap rfl)
    have lC:=ll.all ah (eS.symm aq rfl)
    have lD:=lm.all ah (eT.symm ai rfl)
    have lE:=ln.all ah (eU.symm aj rfl)
    have lF:=lp.all ah eV.symm
    have lG:=lq.all ah (eW.symm ar rfl)
    have fc:=e6.all ah eX.symm
    have fd:=e7.all ah eY.symm
    have fe:=e8.all ah eZ.symm
    refine Lb (iv (SF W H)) LE (KQ ?_)
    have lH:=K4 (pt au 0)
    have ff:=K4 (iv (SF W H))
    refine KK (KM (KM (KL (K2 Lw ff (KN (.bool (decide ((SF W H)≠0))) rr (Mw rfl rfl rfl rfl rr) (KQ ?_))))))
    have fg:=K4 (.bool (decide ((SF W H)≠0)))
    refine KK ?_
    refine K5 fg (fun ba=>?_) (fun ba=>?_)
    ·replace ba:=of_decide_eq_true ba
     refine KM ?_
     exfalso;omega
    ·replace ba:=of_decide_eq_false ba
     refine Lf (KK (KM (KM (KL (KN (.agg #[iv W,iv H,iv R,iv B]) rr (KX MR rfl aC fb rr) (LH (R:=fun v_ w_=>∃ (aw:Nat) (az:Nat->Prop),.func (.func 60) #[] #[pt aw 0]=v_/\KR (fun _=>False) e9 w_/\(XP w_ az aw W H R B/\KS e9 Mb az)) rfl rfl (LQ rfl rfl rfl (fun _ _=>by kernel_rfl) (K6 _) (Lo rfl L5) (Xu W H R B  _   ) (fun e_ w_ h_=>by obtain⟨v653_,T656_,he_,hr_⟩:=h_;exact⟨_,he_,v653_,T656_,rfl,hr_⟩)) ?_))))))
     rintro _ su ⟨aw,az,rfl,cB,⟨cC,lJ⟩⟩
     obtain⟨lK,lL,lM,lN,lO,lP,lQ,lR,lS,lT,lU,cD,cE,lV⟩:=PT cB lr lu lv lw lx ly lz fb lA lB lC lD lE lF
     obtain⟨lW,lX,lY,lZ,l0⟩:=O6 cB lG fc fd fe fa
     have bb:=((eG.tr cA).trans ah (KS.ok (S:=fun _=>False) eH KZ)).tr cB
     obtain⟨l1,l3,l4,fh⟩:=WI lJ fc fd fe fa
     refine PQ fun cF cG=>?_
     obtain⟨l5,l6,l7,l8,l9,fi,ma,mb,mc,me,bE,bF,mf,mg,mh,mi,mj,fj,ml,mm⟩:=t20 cG 0 jh 1 ji 2 dt 3 jj 4 jk 92 bm 5 aC 6 aV 8 bY 9 bZ 10 aD 11 aE 12 cr 24 dw 33 dG 13 j3 43 d9 15 lH 14 ff 55 fg
     have fk:cF 59 = .func (.func 60) #[] #[pt aw 0]:=(cG 59).trans rfl
     clear cG
     refine KK (Lm ?_)
     refine XW (α:=SI W H) (encs:=fun el=>[iv ((el.m:Nat):Int),.agg #[iv ((el.p:Nat):Int),iv (pX (Lk W el.p) el.i),iv (pY (Lk W el.p) el.i)]]) (U:=fun i=>i≠aw) (S:=fun xs=>xs=NH W H 3) (Sp:=fun xs=>xs <+: NH W H 3) (M:=1000) fk (fun _ _=>by kernel_rfl) (aAd W H R B aw _ hm.1 cC.2) (fun i hi=>Nat.ne_of_gt (Nat.lt_of_lt_of_le cC.2.lt hi)) [60,61] rfl (fun _=>rfl) rfl (fun pre ww=>∃ (ha:Value),∃ (hb:Value),∃ (hc:Value),∃ (aa:Nat->Prop),∃ (ab:Nat->Prop),∃ (ac:Nat->Prop),KR (fun _=>False) w0 ww/\Mv ww T_b v l/\Mv ww T_g0 g0 (g.p0)/\Mv ww T_g1 g1 (g.p1)/\Mv ww T_g2 g2 (g.p2)/\Mv ww T_h0 h0 (h.p0)/\Mv ww T_h1 h1 (h.p1)/\Mv ww T_h2 h2 (h.p2)/\MJ ww p1 23 [iv W,iv H,iv R,iv B]/\MJ ww ak 25 [iv K,iv Q,iv D,iv F]/\MJ ww ap 29 [iv (g.W),iv (g.H),g0,g1,g2]/\MJ ww aq 29 [iv (h.W),iv (h.H),h0,h1,h2]/\MJ ww ai 29 [iv 0,iv 0,.slice none 0 0,.slice none 0 0,.slice none 0 0]/\Qx ww aj 33 (iv 0)/\RP VD ww av ao L/\Qx ww ar 32 ao/\MJ ww au 29 [iv ((Mu g h Q W H L pre).W),iv ((Mu g h Q W H L pre).H),ha,hb,hc]/\XP ww az aw W H R B/\Md ww aa ha ((Mu g h Q W H L pre).p0)/\Md ww ab hb ((Mu g h Q W H L pre).p1)/\Md ww ac hc ((Mu g h Q W H L pre).p2)/\KS w0 Mb aa/\KS w0 Mb ab/\KS w0 Mb ac/\KO aa T_b/\KO aa T_g0/\KO aa T_g1/\KO aa T_g2/\KO aa T_h0/\KO aa T_h1/\KO aa T_h2/\KO aa (Lh p1)/\KO aa (Lh ak)/\KO aa (Lh ap)/\KO aa (Lh aq)/\KO aa (Lh ai)/\KO aa (Lh aj)/\KO aa av/\KO aa (Lh ar)/\KO aa (Lh au)/\KO aa az/\KO aa ab/\KO aa ac/\KO ab T_b/\KO ab T_g0/\KO ab T_g1/\KO ab T_g2/\KO ab T_h0/\KO ab T_h1/\KO ab T_h2/\KO ab (Lh p1)/\KO ab (Lh ak)/\KO ab (Lh ap)/\KO ab (Lh aq)/\KO ab (Lh ai)/\KO ab (Lh aj)/\KO ab av/\KO ab (Lh ar)/\KO ab (Lh au)/\KO ab az/\KO ab ac/\KO ac T_b/\KO ac T_g0/\KO ac T_g1/\KO ac T_g2/\KO ac T_h0/\KO ac T_h1/\KO ac T_h2/\KO ac (Lh p1)/\KO ac (Lh ak)/\KO ac (Lh ap)/\KO ac (Lh aq)/\KO ac (Lh ai)/\KO ac (Lh aj)/\KO ac av/\KO ac (Lh ar)/\KO ac (Lh au)/\KO ac az) (fun pre ww=>KR (fun _=>False) w0 ww/\Mv ww T_b v l/\Mv ww T_g0 g0 (g.p0)/\Mv ww T_g1 g1 (g.p1)/\Mv ww T_g2 g2 (g.p2)/\Mv ww T_h0 h0 (h.p0)/\Mv ww T_h1 h1 (h.p1)/\Mv ww T_h2 h2 (h.p2)/\MJ ww p1 23 [iv W,iv H,iv R,iv B]/\MJ ww ak 25 [iv K,iv Q,iv D,iv F]/\MJ ww ap 29 [iv (g.W),iv (g.H),g0,g1,g2]/\MJ ww aq 29 [iv (h.W),iv (h.H),h0,h1,h2]/\MJ ww ai 29 [iv 0,iv 0,.slice none 0 0,.slice none 0 0,.slice none 0 0]/\Qx ww aj 33 (iv 0)/\RP VD ww av ao L/\Qx ww ar 32 ao/\XP ww az aw W H R B/\False) ?_ ?_ ⟨aF,aG,aH,aL,aM,aN,bb,lK,lL,lM,lN,lO,lP,lQ,lR,lS,lT,lU,cD,cE,lV,lW,l0,cC,lX,lY,lZ,(KS.new a8 cv),(KS.new a8 cw),(KS.new a8 cy),kb,kd,ke,kf,kg,ki,kj,kn,ko,kp,kq,kr,ks,kt,ku,eX.symm,l1.symm,j8,j9,kv,kw,kx,ky,kz,kA,kB,kC,kD,kE,kF,kG,kH,kI,kJ,eY.symm,l3.symm,ka,kK,kL,kM,kN,kO,kP,kQ,kR,kS,kT,kU,kV,kW,kX,kY,eZ.symm,l4.symm⟩ (fun el FF WW=>∃ (pa0_:Nat),FF 0 = .agg #[iv W,iv H,iv R,iv B]/\FF 1 = .agg #[iv K,iv Q,iv D,iv F]/\FF 2=v/\FF 3 = .agg #[iv (g.W),iv (g.H),g0,g1,g2]/\FF 4 = .agg #[iv (h.W),iv (h.H),h0,h1,h2]/\FF 5=pt p1 0/\FF 6=pt ak 0/\FF 8=pt ap 0/\FF 9=pt aq 0/\FF 10=pt ai 0/\FF 11=pt aj 0/\FF 12=iv (RM W H R B K Q D F)/\FF 13=pt ar 0/\FF 14=iv (SF W H)/\FF 15=pt au 0/\FF 16=iv ((el.m:Nat):Int)/\FF 17=pt pa0_ 0/\FF 24 = .bool (decide ((RM W H R B K Q D F)≠0))/\FF 33 = .bool false/\FF 43 = .bool (decide (((O2 l W H R B K Q D F).2)≠0))/\FF 55 = .bool (decide ((SF W H)≠0))/\FF 59 = .func (.func 60) #[] #[pt aw 0]/\FF 60=iv ((el.m:Nat):Int)/\FF 61 = .agg #[iv ((el.p:Nat):Int),iv (pX (Lk W el.p) el.i),iv (pY (Lk W el.p) el.i)]/\FF 92=undef/\MJ WW pa0_ 65 [iv ((el.p:Nat):Int),iv (pX (Lk W el.p) el.i),iv (pY (Lk W el.p) el.i)]/\KO (Lh pa0_) T_b/\KO (Lh pa0_) T_g0/\KO (Lh pa0_) T_g1/\KO (Lh pa0_) T_g2/\KO (Lh pa0_) T_h0/\KO (Lh pa0_) T_h1/\KO (Lh pa0_) T_h2/\KO (Lh pa0_) (Lh p1)/\KO (Lh pa0_) (Lh ak)/\KO (Lh pa0_) (Lh ap)/\KO (Lh pa0_) (Lh aq)/\KO (Lh pa0_) (Lh ai)/\KO (Lh pa0_) (Lh aj)/\KO (Lh pa0_) av/\KO (Lh pa0_) (Lh ar)/\KO (Lh pa0_) (Lh au)/\KO (Lh pa0_) az) ?_ ?_ ?_ ?_ ?_
     ·rintro pre A_ B_ row_ ⟨ha,hb,hc,aa,ab,ac,K_,B0_,B1_,B2_,B3_,B4_,B5_,B6_,B7_,B8_,B9_,B10_,B11_,B12_,B13_,B14_,B15_,B16_,B17_,B18_,B19_,g0_,g1_,g2_,a0_,a1_,a2_,a3_,a4_,a5_,a6_,a7_,a8_,a9_,a10_,a11_,a12_,a13_,a14_,a15_,a16_,a17_,a18_,a19_,a20_,a21_,a22_,a23_,a24_,a25_,a26_,a27_,a28_,a29_,a30_,a31_,a32_,a33_,a34_,a35_,a36_,a37_,a38_,a39_,a40_,a41_,a42_,a43_,a44_,a45_,a46_,a47_,a48_,a49_,a50_,a51_,a52_,a53_⟩ hg_ hr_
      exact⟨ha,hb,hc,aa,ab,ac,K_.row hg_ hr_ bb.size,B0_.row hg_ hr_,B1_.row hg_ hr_,B2_.row hg_ hr_,B3_.row hg_ hr_,B4_.row hg_ hr_,B5_.row hg_ hr_,B6_.row hg_ hr_,B7_.row hg_ hr_,B8_.row hg_ hr_,B9_.row hg_ hr_,B10_.row hg_ hr_,B11_.row hg_ hr_,B12_.row hg_ hr_,B13_.row hg_ hr_,B14_.row hg_ hr_,B15_.row hg_ hr_,B16_.row hg_ hr_,B17_.row hg_ hr_,B18_.row hg_ hr_,B19_.row hg_ hr_,g0_,g1_,g2_,a0_,a1_,a2_,a3_,a4_,a5_,a6_,a7_,a8_,a9_,a10_,a11_,a12_,a13_,a14_,a15_,a16_,a17_,a18_,a19_,a20_,a21_,a22_,a23_,a24_,a25_,a26_,a27_,a28_,a29_,a30_,a31_,a32_,a33_,a34_,a35_,a36_,a37_,a38_,a39_,a40_,a41_,a42_,a43_,a44_,a45_,a46_,a47_,a48_,a49_,a50_,a51_,a52_,a53_⟩
     ·rintro pre A_ B_ row_ ⟨K_,B0_,B1_,B2_,B3_,B4_,B5_,B6_,B7_,B8_,B9_,B10_,B11_,B12_,B13_,B14_,B15_,i0_⟩ hg_ hr_
      exact⟨K_.row hg_ hr_ bb.size,B0_.row hg_ hr_,B1_.row hg_ hr_,B2_.row hg_ hr_,B3_.row hg_ hr_,B4_.row hg_ hr_,B5_.row hg_ hr_,B6_.row hg_ hr_,B7_.row hg_ hr_,B8_.row hg_ hr_,B9_.row hg_ hr_,B10_.row hg_ hr_,B11_.row hg_ hr_,B12_.row hg_ hr_,B13_.row hg_ hr_,B14_.row hg_ hr_,B15_.row hg_ hr_,i0_⟩
     ·rintro el FF _ A_ B_ row_ ⟨p0_,s0_,s1_,s2_,s3_,s4_,s5_,s6_,s7_,s8_,s9_,s10_,s11_,s12_,s13_,s14_,s15_,s16_,s17_,s18_,s19_,s20_,s21_,s22_,s23_,s24_,B0_,a0_,a1_,a2_,a3_,a4_,a5_,a6_,a7_,a8_,a9_,a10_,a11_,a12_,a13_,a14_,a15_,a16_⟩ hg_ hr_
      exact⟨p0_,s0_,s1_,s2_,s3_,s4_,s5_,s6_,s7_,s8_,s9_,s10_,s11_,s12_,s13_,s14_,s15_,s16_,s17_,s18_,s19_,s20_,s21_,s22_,s23_,s24_,B0_.row hg_ hr_,a0_,a1_,a2_,a3_,a4_,a5_,a6_,a7_,a8_,a9_,a10_,a11_,a12_,a13_,a14_,a15_,a16_⟩
     ·rintro l_ pre el W_ ⟨ha,hb,hc,aa,ab,ac,mn,fm,fo,fp,fq,ft,fu,fw,fx,fy,fA,fB,fC,fD,fE,fF,fG,fH,fI,fJ,fK,mo,mp,mq,mr,mu,mv,mw,mz,mA,mB,mC,mD,mE,mF,mG,mH,mI,mJ,mK,mL,mM,mN,mO,mP,mQ,mR,mS,mT,mU,mV,mW,mX,mY,mZ,m2,m4,m5,m6,m7,m8,m9,nb,nc,nd,nf,nh,ni,nj,nk,nl,np,nr,nt,nu,nv,nw,nz⟩
      refine KM (KL (Lb (iv ((el.m:Nat):Int)) LE (KQ ?_)))
      have nA:=K4 (undef)
      have nB:=K4 (iv ((el.m:Nat):Int))
      have fL:=K4 (.agg #[iv ((el.p:Nat):Int),iv (pX (Lk W el.p) el.i),iv (pY (Lk W el.p) el.i)])
      have nD:=K4 (iv ((el.m:Nat):Int))
      refine KK (KL (LN (n:=3) (vs:=[iv 0,iv 0,iv 0]) rfl rfl rfl (by kernel_rfl) fun fM sv nE cH cI=>?_))
      obtain⟨fN,fO,fP,fQ,fR,fS,fT,fU,fV,fW,fX,fY,fZ,f5⟩:=SQ cH fm fo fp fq ft fu fw fx fy fA fB fC fD fE
      obtain⟨f7,f8,f9,nF,nG,nH⟩:=WS cH fF fG fH fI fJ fK
      obtain⟨nI,nJ,nK,nL,nM,nN,nO,nP,nQ,nR,nT,nU,nV,nW⟩:=PT cI fm fo fp fq ft fu fw fx fy fA fB fC fD fE
      obtain⟨nX,nY,nZ,n5,n6,n7⟩:=Qh cI fF fG fH fI fJ fK
      refine Ll (us:=[iv ((el.p:Nat):Int),iv (pX (Lk W el.p) el.i),iv (pY (Lk W el.p) el.i)]) QR rfl rfl rfl rfl fL nE rfl (Qc rr (L4 rfl MX)) fun sw n8 ae=>?_
      have n9:=nI.all ae fN.symm
      have oa:=nJ.all ae fO.symm
      have oc:=nK.all ae fP.symm
      have od:=nL.all ae fQ.symm
      have oe:=nM.all ae fR.symm
      have og:=nN.all ae fS.symm
      have oh:=nO.all ae fT.symm
      have oi:=nP.all ae (fU.symm p1 rfl)
      have oj:=nQ.all ae (fV.symm ak rfl)
      have ol:=nR.all ae (fW.symm ap rfl)
      have om:=nT.all ae (fX.symm aq rfl)
      have oo:=nU.all ae (fY.symm ai rfl)
      have oq:=nV.all ae (fZ.symm aj rfl)
      have ot:=nW.all ae f5.symm
      have ou:=nX.all ae (f7.symm ar rfl)
      have ov:=nY.all ae (f8.symm au rfl)
      have ow:=nZ.all ae f9.symm
      have ox:=n5.all ae nF.symm
      have oy:=n6.all ae nG.symm
      have oz:=n7.all ae nH.symm
      have cJ:=((KR.refl (fun _=>False) W_).trans cI (fun _ _ x=>x.elim)).trans ae (KS.ok (S:=fun _=>False) (KS.new (KR.refl (fun _=>False) W_) cH) KZ)
      refine KQ ?_
      have oA:=K4 (pt fM 0)
      exact⟨Pw.keeps Pw.no cJ _,cJ.mono (fun _ _ x=>x.elim),⟨ha,hb,hc,aa,ab,ac,mn.trans cJ (fun _ _ x=>x.elim),n9,oa,oc,od,oe,og,oh,oi,oj,ol,om,oo,oq,ot,ou,ov,ow,ox,oy,oz,mo,mp,mq,mr,mu,mv,mw,mz,mA,mB,mC,mD,mE,mF,mG,mH,mI,mJ,mK,mL,mM,mN,mO,mP,mQ,mR,mS,mT,mU,mV,mW,mX,mY,mZ,m2,m4,m5,m6,m7,m8,m9,nb,nc,nd,nf,nh,ni,nj,nk,nl,np,nr,nt,nu,nv,nw,nz⟩,⟨fM,l5,l6,l7,l8,l9,ma,mb,mc,me,bE,bF,mf,mi,ml,fj,nD,oA,mg,mh,mj,mm,fk,nB,fL,nA,n8,fN,fO,fP,fQ,fR,fS,fT,fU,fV,fW,fX,fY,fZ,f5,f7,f8,f9⟩⟩
     ·rintro l_ pre el sx cK ⟨ha,hb,hc,aa,ab,ac,aI,oB,ga,gb,gc,gd,ge,gh,oC,gi,gj,gl,oD,oE,cL,gm,cM,bc,cN,cO,cP,oF,oG,oH,sy,sz,sA,sB,sC,sD,sE,sF,sG,sH,sI,sJ,sK,sL,sM,sN,oI,sO,sP,sQ,sR,sS,sT,sU,sV,sW,sX,sY,sZ,ta,tb,tc,td,te,tf,oJ,tg,th,ti,tj,tk,tl,tm,tn,tp,tq,tt,tu,tv,tw,tx,tz,tA,oK⟩ ⟨cQ,tB,tC,tD,tE,tF,tG,oL,oM,oN,tH,tI,tJ,oO,tK,gn,oP,go,tL,tM,tN,tO,tP,tQ,tS,tT,gp,tU,tV,tW,tX,tY,tZ,ua,ub,uc,ud,ue,uf,ug,uh,ui,uj,uk⟩ hlen_
      have oQ:=hA.all aI
      have hs2:=hs.all aI
      have hw2:=hw.all aI
      have hei:=el.hi
      have hwp:=S4 (W:=W) (p:=el.p) hsd.1
      have hwl:=Pe (W:=W) (p:=el.p) hsd.2.1
      have hwh:=Pe (W:=H) (p:=el.p) hsd.2.2.2.2.1
      have hwn:Lk W el.p*Lk H el.p<=16*16:=Nat.mul_le_mul hwl hwh
      have hxy:=aBq (i:=el.i) hwp hwl (by omega)
      have hml:el.m<L.length:=by rw[hlo0];exact ay6 el.hp el.hi
      have hfo:=aFB (g:=g) (h:=h) (q:=Q) (L:=L) hm.1.1 hm.1.2.1 pre
      have hcp:=aEu (W:=W) (H:=H) (R:=R) (B:=B) (K:=K) (g:=g) (h:=h) hfo.1 hfo.2.1 hfo.2.2 hn ⟨hhd.1,hhd.2.1⟩ (hmay _ (aEn (d:=W3) hml)) el.hp el.hi
      have hmd:=aCx (q:=Q) hcp
      have hme:=hmd.1.trans (WE ⟨hhd.2.2.1,hhd.2.2.2.1⟩)
      have hdec:aDf g h Q (el.p:Int) (Lk W el.p) el.i (L.getD el.m W3) (Mu g h Q W H L pre)=Qd (Mu g h Q W H L pre) (el.p:Int) (4*pX (Lk W el.p) el.i) (4*pY (Lk W el.p) el.i) (Xe (Mu g h Q W H L pre) g h (el.p:Int) (pX (Lk W el.p) el.i) (pY (Lk W el.p) el.i) (L.getD el.m W3) Q):=by rw[hmd.2];rfl
      refine Lm (KM ?_)
      refine Rr (γ:=Unit) [(11,10),(12,10),(13,10),(15,10),(16,10),(15,14),(16,14)] [some 63,some 64,some 65,some 66,some 67,some 68,some 69,some 70,some 71,some 72,some 73,some 62,some 74,some 75,some 18,none,some 19] ⟨fun w_=>True,fun _=>False,fun g_ w_=>True,fun g_=>fun _=>False,fun p_ w_=>Of w_ p_ 69 (fun _=>0),fun g_ p_ w_=>Of w_ p_ 69 (Xe (Mu g h Q W H L pre) g h ((el.p:Nat):Int) (pX (Lk W el.p) el.i) (pY (Lk W el.p) el.i) (L.getD (el.m) ⟨0,0,0,0,0,fun _=>0⟩) Q)⟩ (fun _=>False) (fun p_=>cK.heap.size<=p_) [fun g_=>.agg #[iv ((Mu g h Q W H L pre).W),iv ((Mu g h Q W H L pre).H),ha,hb,hc],fun g_=>.agg #[iv (g.W),iv (g.H),g0,g1,g2],fun g_=>.agg #[iv (h.W),iv (h.H),h0,h1,h2],fun g_=>.agg #[iv ((el.p:Nat):Int),iv (pX (Lk W el.p) el.i),iv (pY (Lk W el.p) el.i)],fun g_=>ao,fun g_=>iv ((el.m:Nat):Int),fun g_=>NC ao ((el.m)*21),fun g_=>.agg (PN (L.getD (el.m) ⟨0,0,0,0,0,fun _=>0⟩)).toArray,fun g_=>pt ak 1,fun g_=>iv Q,fun g_=>.tuple #[LW (Xe (Mu g h Q W H L pre) g h ((el.p:Nat):Int) (pX (Lk W el.p) el.i) (pY (Lk W el.p) el.i) (L.getD (el.m) ⟨0,0,0,0,0,fun _=>0⟩) Q),iv (mdE (Mu g h Q W H L pre) g h ((el.p:Nat):Int) (pX (Lk W el.p) el.i) (pY (Lk W el.p) el.i) (L.getD (el.m) ⟨0,0,0,0,0,fun _=>0⟩) Q)],fun g_=>.tuple #[LW (Xe (Mu g h Q W H L pre) g h ((el.p:Nat):Int) (pX (Lk W el.p) el.i) (pY (Lk W el.p) el.i) (L.getD (el.m) ⟨0,0,0,0,0,fun _=>0⟩) Q),iv (mdE (Mu g h Q W H L pre) g h ((el.p:Nat):Int) (pX (Lk W el.p) el.i) (pY (Lk W el.p) el.i) (L.getD (el.m) ⟨0,0,0,0,0,fun _=>0⟩) Q)],fun g_=>LW (Xe (Mu g h Q W H L pre) g h ((el.p:Nat):Int) (pX (Lk W el.p) el.i) (pY (Lk W el.p) el.i) (L.getD (el.m) ⟨0,0,0,0,0,fun _=>0⟩) Q),fun g_=>iv (mdE (Mu g h Q W H L pre) g h ((el.p:Nat):Int) (pX (Lk W el.p) el.i) (pY (Lk W el.p) el.i) (L.getD (el.m) ⟨0,0,0,0,0,fun _=>0⟩) Q),fun _=>undef,fun _=>undef,fun g_=>iv (mdE (Mu g h Q W H L pre) g h ((el.p:Nat):Int) (pX (Lk W el.p) el.i) (pY (Lk W el.p) el.i) (L.getD (el.m) ⟨0,0,0,0,0,fun _=>0⟩) Q)] 10 15 (some 14) () 0 (by kernel_rfl) (by kernel_rfl) (by kernel_rfl) (by kernel_rfl) ⟨.inr (.inr fun _ _=>rfl),⟨.inr (.inr fun _ _=>rfl),⟨.inr (.inr fun _ _=>rfl),⟨.inr (.inr fun _ _=>rfl),⟨.inr (.inr fun _ _=>rfl),⟨.inr (.inr fun _ _=>rfl),⟨.inr (.inr fun _ _=>rfl),⟨.inr (.inr fun _ _=>rfl),⟨.inr (.inr fun _ _=>rfl),⟨.inr (.inr fun _ _=>rfl),⟨.inr (.inl rfl),⟨.inl rfl,⟨.inl rfl,⟨.inl rfl,⟨.inr (.inr fun _ _=>rfl),⟨.inl rfl,⟨.inl rfl,trivial⟩⟩⟩⟩⟩⟩⟩⟩⟩⟩⟩⟩⟩⟩⟩⟩⟩ ⟨trivial,fun _ _ _ _ _ _=>trivial,fun _ _ _ z=>z.elim,fun _ _ _ _ _ _ _=>trivial,fun _ _ _ _ z=>z.elim,fun _ _ _ _ h k z=>h.all k z,fun _ _ h=>h.lt,fun _ _ _ _ _ h k z=>h.all k z,fun _ z=>z,fun _ h=>.inr h,fun _ _ z=>z⟩ (fun _ _ _ h=>h) (fun e=>by cases e) ?_ ?_
      ·refine KV ?_ ?_
       ·refine Lr.one rfl rfl rfl rfl fun g_ p_ F_ w_ hR hout hD=>?_
        exact(KX La rfl ((hout 15 rfl (by decide)).trans gn) (cM.all hR id) ⟨rfl,KR.refl _ _⟩)
       refine KV ?_ ?_
       ·refine Lr.one rfl rfl rfl rfl fun g_ p_ F_ w_ hR hout hD=>?_
        exact(KX La rfl ((hout 8 rfl (by decide)).trans oM) (gj.all hR id) ⟨rfl,KR.refl _ _⟩)
       refine KV ?_ ?_
       ·refine Lr.one rfl rfl rfl rfl fun g_ p_ F_ w_ hR hout hD=>?_
        exact(KX La rfl ((hout 9 rfl (by decide)).trans oN) (gl.all hR id) ⟨rfl,KR.refl _ _⟩)
       refine KV ?_ ?_
       ·refine Lr.one rfl rfl rfl rfl fun g_ p_ F_ w_ hR hout hD=>?_
        exact(KX QR rfl ((hout 17 rfl (by decide)).trans go) (gp.all hR id) ⟨rfl,KR.refl _ _⟩)
       refine KV ?_ ?_
       ·refine Lr.one rfl rfl rfl rfl fun g_ p_ F_ w_ hR hout hD=>?_
        exact(M0 rfl ((hout 13 rfl (by decide)).trans oO) Tryz.underlying32 (gm.all hR id) rfl ⟨rfl,KR.refl _ _⟩)
       refine KV ?_ ?_
       ·refine Lr.one rfl rfl rfl rfl fun g_ p_ F_ w_ hR hout hD=>?_
        exact(KT rfl ((hout 16 rfl (by decide)).trans oP) ⟨rfl,KR.refl _ _⟩)
       refine KV ?_ ?_
       ·refine Lr.one rfl rfl rfl rfl fun g_ p_ F_ w_ hR hout hD=>?_
        have oR:F_ 67=ao:=(hD.get 0 rfl rfl rfl).2 (by decide)
        have oS:F_ 68=iv ((el.m:Nat):Int):=(hD.get 1 rfl rfl rfl).2 (by decide)
        exact(aEU (r:=VD) (el.m) rfl oR oS (by omega) (cL.all hR KO.none).roa hml ⟨rfl,KR.refl _ _⟩)
       refine KV ?_ ?_
       ·refine Lr.one rfl rfl rfl rfl fun g_ p_ F_ w_ hR hout hD=>?_
        have oT:F_ 69=NC ao ((el.m)*21):=(hD.get 0 rfl rfl rfl).2 (by decide)
        exact(aDZ (r:=VD) (n:=21) (el.m) 0 LM rfl oT (cL.all hR KO.none).roa hml (by decide) rfl ⟨rfl,KR.refl _ _⟩)
       refine KV ?_ ?_
       ·refine Lr.one rfl rfl rfl rfl fun g_ p_ F_ w_ hR hout hD=>?_
        exact(KU (n:=1) rfl ((hout 6 rfl (by decide)).trans oL) Tryz.underlying25 rfl (by kernel_rfl) (by decide) rfl ⟨rfl,KR.refl _ _⟩)
       refine KV ?_ ?_
       ·refine Lr.one rfl rfl rfl rfl fun g_ p_ F_ w_ hR hout hD=>?_
        have oU:F_ 71=pt ak 1:=(hD.get 0 rfl rfl rfl).2 (by decide)
        exact(KY rfl oU Tryz.underlying3 (gi.all hR id) rfl rfl ⟨rfl,KR.refl _ _⟩)
       refine KV ?_ ?_
       ·refine Lr.call rfl rfl rfl rfl fun g_ p_ F_ w_ hR hout hD hP_=>?_
        have oV:F_ 63 = .agg #[iv ((Mu g h Q W H L pre).W),iv ((Mu g h Q W H L pre).H),ha,hb,hc]:=(hD.get 0 rfl rfl rfl).2 (by decide)
        have oW:F_ 64 = .agg #[iv (g.W),iv (g.H),g0,g1,g2]:=(hD.get 1 rfl rfl rfl).2 (by decide)
        have oX:F_ 65 = .agg #[iv (h.W),iv (h.H),h0,h1,h2]:=(hD.get 2 rfl rfl rfl).2 (by decide)
        have oY:F_ 66 = .agg #[iv ((el.p:Nat):Int),iv (pX (Lk W el.p) el.i),iv (pY (Lk W el.p) el.i)]:=(hD.get 3 rfl rfl rfl).2 (by decide)
        have oZ:F_ 70 = .agg (PN (L.getD (el.m) ⟨0,0,0,0,0,fun _=>0⟩)).toArray:=(hD.get 4 rfl rfl rfl).2 (by decide)
        have o2:F_ 72=iv Q:=(hD.get 5 rfl rfl rfl).2 (by decide)
        exact(LQ rfl rfl rfl (fun _ _=>by kernel_rfl) (K6 _) (Lo oV (Lo oW (Lo oX (Lo oY (Lo oZ (Lo o2 L5)))))) (aDH ((el.p:Nat):Int) (pX (Lk W el.p) el.i) (pY (Lk W el.p) el.i) Q (L.getD (el.m) ⟨0,0,0,0,0,fun _=>0⟩) (Mu g h Q W H L pre) ha hb hc g g0 g1 g2 h h0 h1 h2 aa ab ac T_g0 T_g1 T_g2 T_h0 T_h1 T_h2 _ (oQ.all hR) (hs2.all hR) (hw2.all hR) ⟨hxy.1,hxy.2.1⟩ ⟨hxy.2.2.1,hxy.2.2.2⟩ (cN.all hR KO.none).byt (cO.all hR KO.none).byt (cP.all hR KO.none).byt (ga.all hR KO.none) (gb.all hR KO.none) (gc.all hR KO.none) (gd.all hR KO.none) (ge.all hR KO.none) (gh.all hR KO.none) ) (fun e_ w_ h_=>⟨_,h_.1,(),rfl,h_.2,trivial,fun b hb=>hb.elim⟩))
       refine KV ?_ ?_
       ·refine Lr.one rfl rfl rfl rfl fun g_ p_ F_ w_ hR hout hD=>?_
        have o3:F_ 73 = .tuple #[LW (Xe (Mu g h Q W H L pre) g h ((el.p:Nat):Int) (pX (Lk W el.p) el.i) (pY (Lk W el.p) el.i) (L.getD (el.m) ⟨0,0,0,0,0,fun _=>0⟩) Q),iv (mdE (Mu g h Q W H L pre) g h ((el.p:Nat):Int) (pX (Lk W el.p) el.i) (pY (Lk W el.p) el.i) (L.getD (el.m) ⟨0,0,0,0,0,fun _=>0⟩) Q)]:=(hD.get 0 rfl rfl rfl).2 (by decide)
        exact(KT rfl o3 ⟨rfl,KR.refl _ _⟩)
       refine KV ?_ ?_
       ·refine Lr.one rfl rfl rfl rfl fun g_ p_ F_ w_ hR hout hD=>?_
        have cR:F_ 62 = .tuple #[LW (Xe (Mu g h Q W H L pre) g h ((el.p:Nat):Int) (pX (Lk W el.p) el.i) (pY (Lk W el.p) el.i) (L.getD (el.m) ⟨0,0,0,0,0,fun _=>0⟩) Q),iv (mdE (Mu g h Q W H L pre) g h ((el.p:Nat):Int) (pX (Lk W el.p) el.i) (pY (Lk W el.p) el.i) (L.getD (el.m) ⟨0,0,0,0,0,fun _=>0⟩) Q)]:=(hD.get 0 rfl rfl rfl).2 (by decide)
        exact(LY rfl cR rfl ⟨rfl,KR.refl _ _⟩)
       refine KV ?_ ?_
       ·refine Lr.one rfl rfl rfl rfl fun g_ p_ F_ w_ hR hout hD=>?_
        have cR:F_ 62 = .tuple #[LW (Xe (Mu g h Q W H L pre) g h ((el.p:Nat):Int) (pX (Lk W el.p) el.i) (pY (Lk W el.p) el.i) (L.getD (el.m) ⟨0,0,0,0,0,fun _=>0⟩) Q),iv (mdE (Mu g h Q W H L pre) g h ((el.p:Nat):Int) (pX (Lk W el.p) el.i) (pY (Lk W el.p) el.i) (L.getD (el.m) ⟨0,0,0,0,0,fun _=>0⟩) Q)]:=(hD.get 0 rfl rfl rfl).2 (by decide)
        exact(LY rfl cR rfl ⟨rfl,KR.refl _ _⟩)
       refine KV ?_ ?_
       ·refine Lr.alloc rfl rfl rfl rfl fun F_ w_ hR=>?_
        exact YG rfl KW.2.2 ⟨_,rfl,Nat.le_refl _,Of.new _ _ _,(KR.refl _ _).alloc _⟩
       refine KV ?_ ?_
       ·refine Lr.store rfl rfl rfl rfl fun g_ p_ F_ w_ hR hout hD hO_ hZ_ hQ_=>?_
        have o4:F_ 18=pt p_ 0:=(hD.get 0 rfl rfl rfl).1 rfl
        have dh:F_ 74=LW (Xe (Mu g h Q W H L pre) g h ((el.p:Nat):Int) (pX (Lk W el.p) el.i) (pY (Lk W el.p) el.i) (L.getD (el.m) ⟨0,0,0,0,0,fun _=>0⟩) Q):=(hD.get 1 rfl rfl rfl).2 (by decide)
        exact ayX KW.2.1 rfl o4 dh hZ_ fun w2_ b_ k_=>⟨rfl,k_,b_⟩
       refine KV ?_ ?_
       ·refine Lr.one rfl rfl rfl rfl fun g_ p_ F_ w_ hR hout hD=>?_
        have o5:F_ 75=iv (mdE (Mu g h Q W H L pre) g h ((el.p:Nat):Int) (pX (Lk W el.p) el.i) (pY (Lk W el.p) el.i) (L.getD (el.m) ⟨0,0,0,0,0,fun _=>0⟩) Q):=(hD.get 0 rfl rfl rfl).2 (by decide)
        exact(Pv rfl o5 ⟨rfl,KR.refl _ _⟩)
       exact NT
      intro ul gq um gr bd cS un uo o6 cT o7 gt gu bG
      obtain⟨bH,bI,bJ,bK,bL,bM,bN,bO,bP,bQ,bR,bS,bT,bU⟩:=PT cS oB ga gb gc gd ge gh oC gi gj gl oD oE cL
      obtain⟨bV,be,bW,o8,o9,pa,cU⟩:=Uc cS gm cM bc cN cO cP gp
      have bX:=(KR.refl (fun i=>(Lh au) i\/(aa i\/(ab i\/(ac i)))) cK).tr cS
      replace cT:Of bd gq 69 (Xe (Mu g h Q W H L pre) g h ((el.p:Nat):Int) (pX (Lk W el.p) el.i) (pY (Lk W el.p) el.i) (L.getD (el.m) ⟨0,0,0,0,0,fun _=>0⟩) Q):=cT
      obtain⟨gv,cV⟩:=t2 bG 15 gn 17 go
      have pb:gr 18=pt gq 0:=(bG 18).trans (gt 14 rfl)
      have pc:gr 19=iv (mdE (Mu g h Q W H L pre) g h ((el.p:Nat):Int) (pX (Lk W el.p) el.i) (pY (Lk W el.p) el.i) (L.getD (el.m) ⟨0,0,0,0,0,fun _=>0⟩) Q):=(bG 19).trans (gu 16 (by decide) (by decide))
      clear bG gu gt o7 o6
      refine KK (KM (KM (KL (K2 Lw pc (KN (.bool (decide ((mdE (Mu g h Q W H L pre) g h ((el.p:Nat):Int) (pX (Lk W el.p) el.i) (pY (Lk W el.p) el.i) (L.getD (el.m) ⟨0,0,0,0,0,fun _=>0⟩) Q)≠0))) rr (Mw rfl rfl rfl rfl rr) (KQ ?_))))))
      have pd:=K4 (.bool (decide ((mdE (Mu g h Q W H L pre) g h ((el.p:Nat):Int) (pX (Lk W el.p) el.i) (pY (Lk W el.p) el.i) (L.getD (el.m) ⟨0,0,0,0,0,fun _=>0⟩) Q)≠0)))
      refine KK ?_
      refine K5 pd (fun bf=>?_) (fun bf=>?_)
      ·replace bf:=of_decide_eq_true bf
       refine KM ?_
       exact absurd hme (by assumption)
      ·replace bf:=of_decide_eq_false bf
       refine Lf (KK (KL (KN (.agg #[iv ((Mu g h Q W H L pre).W),iv ((Mu g h Q W H L pre).H),ha,hb,hc]) rr (KX La rfl gv be rr) (KN (pt cQ 0) rr (KU (n:=1) rfl cV Tryz.underlying65 rfl (by kernel_rfl) (by decide) rfl rr) (KN (iv ((el.p:Nat):Int)) rr (KY rfl rfl Tryz.underlying3 cU rfl rfl rr) (KN (pt cQ 1) rr (KU (n:=1) rfl cV Tryz.underlying65 rfl (by kernel_rfl) (by decide) rfl rr) (KN (iv (pX (Lk W el.p) el.i)) rr (KY rfl rfl Tryz.underlying3 cU rfl rfl rr) (KN (iv (4*pX (Lk W el.p) el.i)) rr (Nb rfl rfl rfl (Mn rfl (by omega)) rr) (KN (pt cQ 2) rr (KU (n:=1) rfl cV Tryz.underlying65 rfl (by kernel_rfl) (by decide) rfl rr) (KN (iv (pY (Lk W el.p) el.i)) rr (KY rfl rfl Tryz.underlying3 cU rfl rfl rr) (KN (iv (4*pY (Lk W el.p) el.i)) rr (Nb rfl rfl rfl (Mn rfl (by omega)) rr) ?_)))))))))))
       refine KN (LW (Xe (Mu g h Q W H L pre) g h ((el.p:Nat):Int) (pX (Lk W el.p) el.i) (pY (Lk W el.p) el.i) (L.getD (el.m) ⟨0,0,0,0,0,fun _=>0⟩) Q)) rr (Me KW rfl pb cT rr) (LH (R:=fun v_ w_=>∃ (bg:Value) (aO:Nat->Prop) (bh:Value) (aP:Nat->Prop) (bi:Value) (aQ:Nat->Prop),.agg #[iv ((Qd (Mu g h Q W H L pre) ((el.p:Nat):Int) (4*pX (Lk W el.p) el.i) (4*pY (Lk W el.p) el.i) (Xe (Mu g h Q W H L pre) g h ((el.p:Nat):Int) (pX (Lk W el.p) el.i) (pY (Lk W el.p) el.i) (L.getD (el.m) ⟨0,0,0,0,0,fun _=>0⟩) Q)).W),iv ((Qd (Mu g h Q W H L pre) ((el.p:Nat):Int) (4*pX (Lk W el.p) el.i) (4*pY (Lk W el.p) el.i) (Xe (Mu g h Q W H L pre) g h ((el.p:Nat):Int) (pX (Lk W el.p) el.i) (pY (Lk W el.p) el.i) (L.getD (el.m) ⟨0,0,0,0,0,fun _=>0⟩) Q)).H),bg,bh,bi]=v_/\KR (fun _=>False) bd w_/\(Md w_ aO bg ((Qd (Mu g h Q W H L pre) ((el.p:Nat):Int) (4*pX (Lk W el.p) el.i) (4*pY (Lk W el.p) el.i) (Xe (Mu g h Q W H L pre) g h ((el.p:Nat):Int) (pX (Lk W el.p) el.i) (pY (Lk W el.p) el.i) (L.getD (el.m) ⟨0,0,0,0,0,fun _=>0⟩) Q)).p0)/\KS bd Mb aO)/\(Md w_ aP bh ((Qd (Mu g h Q W H L pre) ((el.p:Nat):Int) (4*pX (Lk W el.p) el.i) (4*pY (Lk W el.p) el.i) (Xe (Mu g h Q W H L pre) g h ((el.p:Nat):Int) (pX (Lk W el.p) el.i) (pY (Lk W el.p) el.i) (L.getD (el.m) ⟨0,0,0,0,0,fun _=>0⟩) Q)).p1)/\KS bd Mb aP)/\(Md w_ aQ bi ((Qd (Mu g h Q W H L pre) ((el.p:Nat):Int) (4*pX (Lk W el.p) el.i) (4*pY (Lk W el.p) el.i) (Xe (Mu g h Q W H L pre) g h ((el.p:Nat):Int) (pX (Lk W el.p) el.i) (pY (Lk W el.p) el.i) (L.getD (el.m) ⟨0,0,0,0,0,fun _=>0⟩) Q)).p2)/\KS bd Mb aQ)/\KO aO aP/\KO aO aQ/\KO aP aQ) rfl rfl (LQ rfl rfl rfl (fun _ _=>by kernel_rfl) (K6 _) (Lo rfl (Lo rfl (Lo rfl (Lo rfl (Lo rfl L5))))) (aE3 ((el.p:Nat):Int) (4*pX (Lk W el.p) el.i) (4*pY (Lk W el.p) el.i) (Xe (Mu g h Q W H L pre) g h ((el.p:Nat):Int) (pX (Lk W el.p) el.i) (pY (Lk W el.p) el.i) (L.getD (el.m) ⟨0,0,0,0,0,fun _=>0⟩) Q) (Mu g h Q W H L pre) ha hb hc aa ab ac _  o8.byt o9.byt pa.byt ) (fun e_ w_ h_=>by obtain⟨v1172_,T1177_,v1173_,T1178_,v1174_,T1179_,he_,hr_⟩:=h_;exact⟨_,he_,v1172_,T1177_,v1173_,T1178_,v1174_,T1179_,rfl,hr_⟩)) ?_)
       rintro _ ur ⟨bg,aO,bh,aP,bi,aQ,rfl,cW,⟨gw,cX⟩,⟨gz,cY⟩,⟨gA,cZ⟩,pe,pf,pg⟩
       obtain⟨pi,pj,pk,pm,po,pp,pq,pu,pz,pA,pB,pC,pD,pE⟩:=PT cW bH bI bJ bK bL bM bN bO bP bQ bR bS bT bU
       obtain⟨pF,pG,pH⟩:=Od cW bV be bW
       obtain⟨pI,pJ,pK,pL,pM,pN,pO,pP,pQ,pR,pS,pT,pU,pV⟩:=SQ cX bH bI bJ bK bL bM bN bO bP bQ bR bS bT bU
       obtain⟨pW,gB,pZ⟩:=Us cX bV be bW
       obtain⟨qa,qb,qc,qd,qe,qf,qg,qh,qi,qj,qk,ql,qm,qn⟩:=SQ cY bH bI bJ bK bL bM bN bO bP bQ bR bS bT bU
       obtain⟨qo,gC,qp⟩:=Us cY bV be bW
       obtain⟨qq,qr,qs,qt,qu,qv,qw,qx,qy,qz,qA,qB,qC,qD⟩:=SQ cZ bH bI bJ bK bL bM bN bO bP bQ bR bS bT bU
       obtain⟨qE,gD,qF⟩:=Us cZ bV be bW
       refine Ll (us:=[iv ((Qd (Mu g h Q W H L pre) ((el.p:Nat):Int) (4*pX (Lk W el.p) el.i) (4*pY (Lk W el.p) el.i) (Xe (Mu g h Q W H L pre) g h ((el.p:Nat):Int) (pX (Lk W el.p) el.i) (pY (Lk W el.p) el.i) (L.getD (el.m) ⟨0,0,0,0,0,fun _=>0⟩) Q)).W),iv ((Qd (Mu g h Q W H L pre) ((el.p:Nat):Int) (4*pX (Lk W el.p) el.i) (4*pY (Lk W el.p) el.i) (Xe (Mu g h Q W H L pre) g h ((el.p:Nat):Int) (pX (Lk W el.p) el.i) (pY (Lk W el.p) el.i) (L.getD (el.m) ⟨0,0,0,0,0,fun _=>0⟩) Q)).H),bg,bh,bi]) La rfl rfl rfl gv rfl pG rfl (Qc rr (L4 gw.one (L4 gz.one (L4 gA.one MX)))) fun ut qG af=>?_
       have qH:=pi.all af eI.symm
       have qI:=pj.all af eJ.symm
       have qJ:=pk.all af eK.symm
       have qK:=pm.all af eL.symm
       have qL:=po.all af eM.symm
       have qM:=pp.all af eN.symm
       have qN:=pq.all af eO.symm
       have qO:=pu.all af (eP.symm p1 rfl)
       have qP:=pz.all af (eQ.symm ak rfl)
       have qQ:=pA.all af (eR.symm ap rfl)
       have qR:=pB.all af (eS.symm aq rfl)
       have qS:=pC.all af (eT.symm ai rfl)
       have qT:=pD.all af (eU.symm aj rfl)
       have qU:=pE.all af eV.symm
       have qV:=pF.all af (eW.symm ar rfl)
       have qW:=pH.all af fh
       have qX:=gw.all af gB
       have qY:=gz.all af gC
       have qZ:=gA.all af gD
       have c5:=(bX.tr cW).trans af (KS.ok (S:=fun i=>(Lh au) i\/(aa i\/(ab i\/(ac i)))) (KS.refl cK (Lh au)) (fun _ x=>Or.inl x))
       refine KQ ?_
       refine Lz ?_
       exact⟨L2.keeps (L2.or cM.cells.cb (L2.or cN.cells.cb (L2.or cO.cells.cb cP.cells.cb))) c5,c5.mono (fun i hi x=>(x.elim (fun y=>fun e=>fh.symm i y (by rw[bc.1];exact e)) (fun y=>(y.elim (fun y=>fun e=>oI i y (by rw[bc.1];exact e)) (fun y=>(y.elim (fun y=>fun e=>oJ i y (by rw[bc.1];exact e)) (fun y=>(fun e=>oK i y (by rw[bc.1];exact e))))))))),⟨bg,bh,bi,aO,aP,aQ,aI.trans c5 (fun i hi x=>(x.elim (fun y=>((KS.ok (S:=fun _=>False) eH KZ) i hi y)) (fun y=>(y.elim (fun y=>((KS.ok (S:=fun _=>False) oF KZ) i hi y)) (fun y=>(y.elim (fun y=>((KS.ok (S:=fun _=>False) oG KZ) i hi y)) (fun y=>((KS.ok (S:=fun _=>False) oH KZ) i hi y)))))))),qH,qI,qJ,qK,qL,qM,qN,qO,qP,qQ,qR,qS,qT,qU,qV,(by rw[VS,hdec];exact qG),qW,(by rw[VS,hdec];exact qX),(by rw[VS,hdec];exact qY),(by rw[VS,hdec];exact qZ),((KS.new aI (KS.new bX cX)).weak KZ),((KS.new aI (KS.new bX cY)).weak KZ),((KS.new aI (KS.new bX cZ)).weak KZ),pI,pJ,pK,pL,pM,pN,pO,pP,pQ,pR,pS,pT,pU,pV,pW,gB,pZ,pe,pf,qa,qb,qc,qd,qe,qf,qg,qh,qi,qj,qk,ql,qm,qn,qo,gC,qp,pg,qq,qr,qs,qt,qu,qv,qw,qx,qy,qz,qA,qB,qC,qD,qE,gD,qF⟩⟩
     ·rintro aA xs_ q6 c6 hS_ ⟨ha,hb,hc,aa,ab,ac,q7,uu,uv,uw,ux,uy,uz,uA,uB,uC,uD,uE,q8,q9,uF,uG,ra,uH,c7,c9,da,rb,rc,re,uI,uJ,uK,uL,uM,uN,uO,uP,uQ,uR,uS,rf,rg,uT,uU,uV,uW,rh,ri,uX,uY,uZ,u0,u5,u6,u7,u9,va,vb,vc,rj,rk,vd,ve,vf,vg,rl,vh,vi,vj,vk,vl,vm,vn,vo,vp,vq,vr,rm,rp,vt,vu,vv,vw⟩ aR
      subst hS_
      have aR:VP q6 aA:=aR
      have rq:KS w0 Mb (Lh aA):=L7 (Nat.le_trans bb.size c6)
      have gE:=VP.far c6 (L8 cD.lt)
      have gF:=VP.far c6 (L8 cE.lt)
      have rt:=VP.apart aR c7.cells
      have ru:=VP.apart aR c9.cells
      have rv:=VP.apart aR da.cells
      have rx:OZ (aA::ON (cF 92))=OZ [aA]:=congrArg (fun z=>OZ (aA::ON z)) fi
      refine Lz (KK (KM (KL (KN (.agg #[iv ((Mu g h Q W H L (NH W H 3)).W),iv ((Mu g h Q W H L (NH W H 3)).H),ha,hb,hc]) rr (KX La rfl fj ra rr) (Ll (us:=[iv ((Mu g h Q W H L (NH W H 3)).W),iv ((Mu g h Q W H L (NH W H 3)).H),ha,hb,hc]) La rfl rfl rfl bE rfl q8 rfl (Qc rr (L4 c7.one (L4 c9.one (L4 da.one MX)))) fun vx ry aS=>?_)))))
      have rz:=q9.all aS (aB aj rfl)
      have rA:=c7.all aS rf
      have rB:=c9.all aS rj
      have rC:=da.all aS rm
      have rD:=aR.all aS (gE aA rfl)
      refine Ml rfl rfl rfl bF rfl rz (by rfl) (by kernel_rfl) fun rE rF aT=>?_
      have rG:=ry.all aT (aB.symm ai rfl)
      have rH:=rA.all aT rg
      have rI:=rB.all aT rk
      have rJ:=rC.all aT rp
      have rK:=rD.all aT (gF aA rfl)
      refine KQ ?_
      refine KK (Le ?_)
      have aU:=RR rE aA
      have rL:=rG.all aU (gE.symm ai rfl)
      have rM:=rF.all aU (gF.symm aj rfl)
      have gG:=rH.all aU rt.symm
      have gH:=rI.all aU ru.symm
      have gI:=rJ.all aU rv.symm
      exact R8 (ms:=[aA]) rx rK.opens rfl (M6 (vs:=[iv ((Mu g h Q W H L (NH W H 3)).W),iv ((Mu g h Q W H L (NH W H 3)).H),ha,hb,hc]) La rfl bE rL) (O3 Tryz.underlying33 rfl rfl bF rM) ⟨ha,aa,hb,ab,hc,ac,(by first|exact hfalse.elim|(rw[hE,hFr,Oo hmn];rfl)|rw[hE,hFr,Oo hmn]|(rw[hE,hFr,← NN 3 (Nat.le_refl 3)];rfl)|rw[hE,hFr,← NN 3 (Nat.le_refl 3)]|(rw[hE,hFr];rfl)|rw[hE,hFr]),(((q7.trans aS (KS.ok (S:=fun _=>False) bj KZ)).trans aT (KS.ok (S:=fun _=>False) bl KZ)).trans aU (KS.ok (S:=fun _=>False) rq KZ)),⟨(by first|exact hfalse.elim|(rw[hFr,← NN 3 (Nat.le_refl 3)];exact gG)|(rw[hFr];exact gG)),rb⟩,⟨(by first|exact hfalse.elim|(rw[hFr,← NN 3 (Nat.le_refl 3)];exact gH)|(rw[hFr];exact gH)),rc⟩,⟨(by first|exact hfalse.elim|(rw[hFr,← NN 3 (Nat.le_refl 3)];exact gI)|(rw[hFr];exact gI)),re⟩,rh,ri,rl⟩
     ·rintro aJ pre gJ db hpf ⟨rN,vy,vz,vA,vB,vC,vD,vE,vF,vG,vH,vJ,rO,rP,vK,vL,vM,hfalse⟩ dc
      have dc:VP gJ aJ:=dc
      have rQ:KS w0 Mb (Lh aJ):=L7 (Nat.le_trans bb.size db)
      have rR:=VP.far db (L8 cD.lt)
      have rS:=VP.far db (L8 cE.lt)
      have rT:OZ (aJ::ON (cF 92))=OZ [aJ]:=congrArg (fun z=>OZ (aJ::ON z)) fi
      refine Ot (Lx ?_)
      have dd:=RR gJ aJ
      have rU:=rO.all dd (rR.symm ai rfl)
      have rV:=rP.all dd (rS.symm aj rfl)
      exact R8 (ms:=[aJ]) rT dc.opens rfl (M6 (vs:=[iv 0,iv 0,.slice none 0 0,.slice none 0 0,.slice none 0 0]) La rfl bE rU) (O3 Tryz.underlying33 rfl rfl bF rV) ⟨(.slice none 0 0),Mb,(.slice none 0 0),Mb,(.slice none 0 0),Mb,(by first|exact hfalse.elim|(rw[hE,hFr,Oo hmn];rfl)|rw[hE,hFr,Oo hmn]|(rw[hE,hFr,← NN 3 (Nat.le_refl 3)];rfl)|rw[hE,hFr,← NN 3 (Nat.le_refl 3)]|(rw[hE,hFr];rfl)|rw[hE,hFr]),(rN.trans dd (KS.ok (S:=fun _=>False) rQ KZ)),⟨(by first|exact hfalse.elim|(rw[hFr,← NN 3 (Nat.le_refl 3)];exact(Md.nil _))|(rw[hFr];exact(Md.nil _))),(KS.refl _ _)⟩,⟨(by first|exact hfalse.elim|(rw[hFr,← NN 3 (Nat.le_refl 3)];exact(Md.nil _))|(rw[hFr];exact(Md.nil _))),(KS.refl _ _)⟩,⟨(by first|exact hfalse.elim|(rw[hFr,← NN 3 (Nat.le_refl 3)];exact(Md.nil _))|(rw[hFr];exact(Md.nil _))),(KS.refl _ _)⟩,KO.none,KO.none,KO.none⟩
  ·skip
   refine KL (KN (.agg #[iv W,iv H,iv R,iv B]) rr (KX MR rfl aC cg rr) (KN (pt ak 0) rr (KU (n:=1) rfl aV Tryz.underlying25 rfl (by kernel_rfl) (by decide) rfl rr) (KN (iv K) rr (KY rfl rfl Tryz.underlying3 ci rfl rfl rr) (KN (.agg #[iv (g.W),iv (g.H),g0,g1,g2]) rr (KX La rfl bY cj rr) (KN (.agg #[iv (h.W),iv (h.H),h0,h1,h2]) rr (KX La rfl bZ cm rr) (LH (R:=fun v_ w_=>v_ = .bool false/\KR (fun _=>False) du w_) rfl rfl (LQ rfl rfl rfl (fun _ _=>by kernel_rfl) (K6 _) (Lo rfl (Lo rfl (Lo rfl (Lo rfl L5)))) (aB4 W H R B K g g0 g1 g2 h h0 h1 h2 T_g0 T_g1 T_g2 T_h0 T_h1 T_h2 _  b7 b8 b9 cd ce cf ) (fun e_ w_ h_=>⟨_,h_.1,(congrArg Value.bool (decide_eq_false dA)),h_.2⟩)) ?_))))))
   rintro _ vN ⟨rfl,gK⟩
   obtain⟨rW,rX⟩:=Oe gK cn co
   refine KN (.bool true) rr (Mq rfl rfl rfl rr) (KQ ?_)
   have rY:=K4 (.bool true)
   refine KK ?_
   refine K5 (t:=true) rY (fun _=>?_) (fun e=>by cases e)
   refine KM ?_
   have hE:=aBw (l:=l) (g:=g) (h:=h) hm (by first|assumption|(apply Decidable.byContradiction;assumption))
   have hFr:=Yv (l:=l) (W:=W) (H:=H) (R:=R) (B:=B) (K:=K) (Q:=Q) (D:=D) (F:=F) (g:=g) (h:=h) (by rw[hE];decide)
   refine KL (KN (.agg #[iv 0,iv 0,.slice none 0 0,.slice none 0 0,.slice none 0 0]) rr (Ma (l':=[]) (cells:=#[iv 0,iv 0,.slice none 0 0,.slice none 0 0,.slice none 0 0]) rfl Rj (by kernel_rfl) rfl rr) (Ll (us:=[iv 0,iv 0,.slice none 0 0,.slice none 0 0,.slice none 0 0]) La rfl rfl rfl aD rfl rW rfl (Yq LE (L4 rfl MX)) fun vO rZ gL=>?_))
   have r4:=rX.all gL (aB aj rfl)
   refine Ml rfl rfl rfl aE rfl r4 (by rfl) (by kernel_rfl) fun vP r5 gM=>?_
   have r6:=rZ.all gM (aB.symm ai rfl)
   refine KQ ?_
   refine KK (Le (Lx ?_))
   exact R8 (ms:=[]) (Eq.trans bm (rfl:undef=OZ [])) trivial rfl (M6 (vs:=[iv 0,iv 0,.slice none 0 0,.slice none 0 0,.slice none 0 0]) La rfl aD r6) (O3 Tryz.underlying33 rfl rfl aE r5) ⟨(.slice none 0 0),Mb,(.slice none 0 0),Mb,(.slice none 0 0),Mb,(by first|exact hfalse.elim|(rw[hE,hFr,Oo hmn];rfl)|rw[hE,hFr,Oo hmn]|(rw[hE,hFr,← NN 3 (Nat.le_refl 3)];rfl)|rw[hE,hFr,← NN 3 (Nat.le_refl 3)]|(rw[hE,hFr];rfl)|rw[hE,hFr]),(((cq.tr gK).trans gL (KS.ok (S:=fun _=>False) bj KZ)).trans gM (KS.ok (S:=fun _=>False) bl KZ)),⟨(by first|exact hfalse.elim|(rw[hFr,← NN 3 (Nat.le_refl 3)];exact(Md.nil _))|(rw[hFr];exact(Md.nil _))),(KS.refl _ _)⟩,⟨(by first|exact hfalse.elim|(rw[hFr,← NN 3 (Nat.le_refl 3)];exact(Md.nil _))|(rw[hFr];exact(Md.nil _))),(KS.refl _ _)⟩,⟨(by first|exact hfalse.elim|(rw[hFr,← NN 3 (Nat.le_refl 3)];exact(Md.nil _))|(rw[hFr];exact(Md.nil _))),(KS.refl _ _)⟩,KO.none,KO.none,KO.none⟩
open Go.RowKit
theorem Wv(n:Nat)(w0:World)(hn:n<1099511627776):Calls Tryz.prog 23 #[.int .i64 (n:Int)] w0 fun e w'=>e = .returned (.string (Mg (Ln n)))/\KR (fun _=>False) w0 w' :=
 (aDt n w0 hn).mono fun _ _ ⟨e,hw⟩=>by subst hw;exact⟨e,KR.refl _ _⟩
theorem Q4(w0:World) :
  Calls Tryz.prog 24 #[] w0 fun e w'=>e = .returned (.agg #[.int .i64 (8),.int .i64 (8),.int .i64 (100),.int .i64 (1000)])/\KR (fun _=>False) w0 w':=by
 refine Ly (args:=[]) 2 Tryz.func24 rfl rfl (Nat.le_of_ble_eq_true rfl) ?_
 have K0:=KR.refl (fun _=>False) w0
 refine KM (KL (LN (n:=4) (vs:=[iv 0,iv 0,iv 0,iv 0]) rfl rfl rfl (by kernel_rfl) fun p1 w2 B4 g5 k3=>?_))
 refine KQ ?_
 have ai:=K4 (undef)
 have ab:=K4 (pt p1 0)
 refine KK (KM (KL (KN (.agg #[iv 8,iv 8,iv 100,iv 1000]) rr (Ma (l':=[(0,iv 8),(1,iv 8),(2,iv 100),(3,iv 1000)]) (cells:=#[iv 8,iv 8,iv 100,iv 1000]) rfl (RW rfl (RW rfl (RW rfl (RW rfl Rj)))) (by kernel_rfl) rfl rr) (Ll (us:=[iv 8,iv 8,iv 100,iv 1000]) MR rfl rfl rfl ab rfl B4 rfl (aEt Lw (L4 rfl MX)) fun an aj ak=>?_))))
 refine KQ ?_
 refine KK (Le ?_)
 exact Po (vs:=[iv 8,iv 8,iv 100,iv 1000]) MR ai rfl rfl ab aj ⟨rfl,((K0.tr k3).trans ak (KS.ok (S:=fun _=>False) (KS.new K0 g5) KZ))⟩
theorem aBP(i:Nat):List.replicate (2*i) true ++ [true,true]=List.replicate (2*(i+1)) true:=by
 rw[show [true,true]=List.replicate 2 true from rfl,List.replicate_append_replicate];rfl
theorem aGA:Mi (List.replicate (2*6) true++Ln (List.replicate (2*6) true).length)=Pa:=by decide +kernel
theorem aEQ:Pa.length=2:=by decide +kernel
theorem aGk:(O2 Pa 8 8 100 1000 0 0 0 0).1.length=6/\(O2 Pa 8 8 100 1000 0 0 0 0).2=0/\(O2 (Pa ++ [0]) 8 8 100 1000 0 0 0 0).2=130:=by
 have hm:RU 8 8 100 1000 0 0 0 0:=by decide
 rw[Ql hm,Ql hm]
 exact⟨aCf.2,aCf.1,aBW.2⟩
theorem aEZ:Nl 8 8 100 1000 (LR 8 8 128):=by decide +kernel
theorem aFU(a:List Bool):Mg a++ByteArray.mk #[49,49]=Mg (a ++ [true,true]):=by
 rw[show ByteArray.mk #[49,49]=Mg [true,true] from rfl];exact Nr _ _
theorem ZL(w0:World)(hA:Og w0)(hO:OX w0)(hs:Ox w0)(hw:QZ w0) :
  Calls Tryz.prog 8 #[] w0 fun e w'=>e = .returned (.bool true)/\KR (fun _=>False) w0 w':=by
 refine Ly (args:=[]) 101 Tryz.func8 rfl rfl (Nat.le_of_ble_eq_true rfl) ?_
 have h11:(ByteArray.mk #[49,49]).size=2:=rfl
 have h12:(List.replicate (2*6) true).length=12:=rfl
 have h13:(Ln 12).length=4:=rfl
 have h14:(List.replicate (2*6) true++Ln (List.replicate (2*6) true).length).length=16:=rfl
 have hd:=Lib.hid aEP
 have ho:=Lib.hid aBW
 have hf:=Lib.hid aFX
 have hc:=Lib.hid aGk
 have hpl:=aEQ
 refine KM (KL (Lb (.bool false) LE (KQ ?_)))
 have s3:=K4 (undef)
 refine KK (KM (KL (Lb (.string (Mg ([]))) LE (KQ ?_))))
 have s7:=K4 (.string (Mg ([])))
 refine KK (KM (KM (KL (Lb (iv 0) LE (KQ ?_)))))
 have cN:=K4 (iv 0)
 refine KK (Lm (M8 (fun nn FF ww=>∃ (i:Nat),(i<=6)/\((List.replicate (2*i) true).length=2*i)/\nn=6-i/\FF 101=undef/\FF 1 = .string (Mg (List.replicate (2*i) true))/\FF 2=iv ((i:Nat):Int)/\KR (fun _=>False) w0 ww) (6-0) ⟨0,by omega,rfl,rfl,s3,s7,cN,(KR.refl (fun _=>False) w0)⟩ ?_))
 rintro fI fJ fK ⟨i,i17,hrl,hn16,aW,aQ,aX,aY⟩
 refine KM (KM (KL (K2 Lw aX (KN (.bool (decide (((i:Nat):Int)<6))) rr (Mc rfl rfl rfl rfl rr) (KQ ?_)))))
 have cO:=K4 (.bool (decide (((i:Nat):Int)<6)))
 refine KK ?_
 refine K5 cO (fun aE=>?_) (fun aE=>?_)
 ·replace aE:=of_decide_eq_true aE
  refine Lf (KK (KM (Lm (KL (K2 Lw aQ (KN (.string (Mg (List.replicate (2*i) true ++ [true,true]))) rr (SG rfl rfl rfl (by simp only[Ng];omega) (aFU _) rr) (Lb (.string (Mg (List.replicate (2*i) true ++ [true,true]))) LE (KQ ?_))))))))
  have cP:=K4 (.string (Mg (List.replicate (2*i) true ++ [true,true])))
  refine Lz (KK (KL (K2 Lw aX (KN (iv ((i+1:Nat):Int)) rr (LS rfl rfl rfl (LX (by omega) (by omega)) rr) (Lb (iv ((i+1:Nat):Int)) LE (KQ ?_))))))
  have cQ:=K4 (iv ((i+1:Nat):Int))
  exact KK ⟨(6-(i+1)),by omega,i+1,by omega,List.length_replicate,rfl,aW,(cP.trans (by rw[aBP])),cQ,aY⟩
 ·replace aE:=of_decide_eq_false aE
  refine Mm (Lp (Lp ?_))
  have cR:6=i:=by omega
  subst cR
  refine Mk (KK (KM (KL (K2 Lw aQ (K2 Lw aQ (KN (iv (((List.replicate (2*6) true).length:Nat):Int)) rr (azb rfl rfl rfl rr) (L9 rfl rfl rfl rfl rfl (fun _ _=>by kernel_rfl) (Lo rfl L5) (Wv ((List.replicate (2*6) true).length)  _ (by omega)  ) fun aZ cS=>?_)))))))
  refine KN (.string (Mg ((List.replicate (2*6) true)++(Ln ((List.replicate (2*6) true).length))))) rr (SG rfl rfl rfl (by simp[Ng];omega) (Nr _ _) rr) (LH (R:=fun v_ w_=>∃ (ae:Value) (am:Nat->Prop),ae=v_/\KR (fun _=>False) aZ w_/\(Mv w_ am ae (Mi ((List.replicate (2*6) true)++(Ln ((List.replicate (2*6) true).length))))/\KS aZ Mb am)) rfl rfl (LQ rfl rfl rfl (fun _ _=>by kernel_rfl) (K6 _) (Lo rfl L5) (TK ((List.replicate (2*6) true)++(Ln ((List.replicate (2*6) true).length)))  _ (by omega)  ) (fun e_ w_ h_=>by obtain⟨v42_,T45_,he_,hr_⟩:=h_;exact⟨_,he_,v42_,T45_,rfl,hr_⟩)) ?_)
  rintro _ cT ⟨ae,am,rfl,cU,⟨cV,fL⟩⟩
  refine Lb ae LE (KQ ?_)
  have aM:=K4 (ae)
  refine KK (KM ?_)
  have cW:Mv cT am ae Pa:=(by rw[← aGA];exact cV)
  refine KL (L9 rfl rfl rfl rfl rfl (fun _ _=>by kernel_rfl) L5 (Q4   _   ) fun aN a8=>?_)
  have a9:=cW.all a8 KO.none
  have aF:=((aY.tr cS).tr cU).tr a8
  refine KN (.agg #[iv 0,iv 0,iv 0,iv 0]) rr (Ma (l':=[]) (cells:=#[iv 0,iv 0,iv 0,iv 0]) rfl Rj (by kernel_rfl) rfl rr) (K2 Lw aM (KN (.agg #[iv 0,iv 0,.slice none 0 0,.slice none 0 0,.slice none 0 0]) rr (Ma (l':=[]) (cells:=#[iv 0,iv 0,.slice none 0 0,.slice none 0 0,.slice none 0 0]) rfl Rj (by kernel_rfl) rfl rr) (KN (.agg #[iv 0,iv 0,.slice none 0 0,.slice none 0 0,.slice none 0 0]) rr (Ma (l':=[]) (cells:=#[iv 0,iv 0,.slice none 0 0,.slice none 0 0,.slice none 0 0]) rfl Rj (by kernel_rfl) rfl rr) (LH (R:=fun v_ w_=>∃ (ah:Value) (ar:Nat->Prop) (ai:Value) (au:Nat->Prop) (aj:Value) (av:Nat->Prop),.tuple #[.agg #[iv ((MF Pa 8 8 100 1000 0 0 0 0 (FD.mk 0 0 ([]) ([]) ([])) (FD.mk 0 0 ([]) ([]) ([]))).W),iv ((MF Pa 8 8 100 1000 0 0 0 0 (FD.mk 0 0 ([]) ([]) ([])) (FD.mk 0 0 ([]) ([]) ([]))).H),ah,ai,aj],iv (N5 Pa 8 8 100 1000 0 0 0 0 (FD.mk 0 0 ([]) ([]) ([])) (FD.mk 0 0 ([]) ([]) ([])))]=v_/\KR (fun _=>False) aN w_/\(Md w_ ar ah ((MF Pa 8 8 100 1000 0 0 0 0 (FD.mk 0 0 ([]) ([]) ([])) (FD.mk 0 0 ([]) ([]) ([]))).p0)/\KS aN Mb ar)/\(Md w_ au ai ((MF Pa 8 8 100 1000 0 0 0 0 (FD.mk 0 0 ([]) ([]) ([])) (FD.mk 0 0 ([]) ([]) ([]))).p1)/\KS aN Mb au)/\(Md w_ av aj ((MF Pa 8 8 100 1000 0 0 0 0 (FD.mk 0 0 ([]) ([]) ([])) (FD.mk 0 0 ([]) ([]) ([]))).p2)/\KS aN Mb av)/\KO ar au/\KO ar av/\KO au av) rfl rfl (LQ rfl rfl rfl (fun _ _=>by kernel_rfl) (K6 _) (Lo rfl (Lo rfl (Lo rfl (Lo rfl (Lo rfl L5))))) (Ti 8 8 100 1000 0 0 0 0 ae Pa (FD.mk 0 0 ([]) ([]) ([])) (.slice none 0 0) (.slice none 0 0) (.slice none 0 0) (FD.mk 0 0 ([]) ([]) ([])) (.slice none 0 0) (.slice none 0 0) (.slice none 0 0) am Mb Mb Mb Mb Mb Mb _ (hA.all aF) (hO.all aF) (hs.all aF) (hw.all aF) (by omega) a9 (Mv.nil _) (Mv.nil _) (Mv.nil _) (Mv.nil _) (Mv.nil _) (Mv.nil _) ) (fun e_ w_ h_=>by obtain⟨v59_,T64_,v60_,T65_,v61_,T66_,he_,hr_⟩:=h_;exact⟨_,he_,v59_,T64_,v60_,T65_,v61_,T66_,rfl,hr_⟩)) ?_))))
  rintro _ fM ⟨ah,ar,ai,au,aj,av,rfl,ba,⟨bb,fN⟩,⟨bc,bd⟩,⟨be,bf⟩,fO,fP,fQ⟩
  have bg:=a9.all ba KO.none
  have bh:=aF.tr ba
  refine KN (.tuple #[.agg #[iv ((MF Pa 8 8 100 1000 0 0 0 0 (FD.mk 0 0 ([]) ([]) ([])) (FD.mk 0 0 ([]) ([]) ([]))).W),iv ((MF Pa 8 8 100 1000 0 0 0 0 (FD.mk 0 0 ([]) ([]) ([])) (FD.mk 0 0 ([]) ([]) ([]))).H),ah,ai,aj],iv (N5 Pa 8 8 100 1000 0 0 0 0 (FD.mk 0 0 ([]) ([]) ([])) (FD.mk 0 0 ([]) ([]) ([])))]) rr (KT rfl rfl rr) (KN (.agg #[iv ((MF Pa 8 8 100 1000 0 0 0 0 (FD.mk 0 0 ([]) ([]) ([])) (FD.mk 0 0 ([]) ([]) ([]))).W),iv ((MF Pa 8 8 100 1000 0 0 0 0 (FD.mk 0 0 ([]) ([]) ([])) (FD.mk 0 0 ([]) ([]) ([]))).H),ah,ai,aj]) rr (LY rfl rfl rfl rr) (KN (iv (N5 Pa 8 8 100 1000 0 0 0 0 (FD.mk 0 0 ([]) ([]) ([])) (FD.mk 0 0 ([]) ([]) ([])))) rr (LY rfl rfl rfl rr) (LN (n:=5) (vs:=[iv 0,iv 0,.slice none 0 0,.slice none 0 0,.slice none 0 0]) rfl rfl rfl (by kernel_rfl) fun aG fR cX bi bj=>?_)))
  obtain⟨cY,cZ,c5,c6⟩:=WI bi bg bb bc be
  obtain⟨c7,bl,bm,bn⟩:=Pg bj bg bb bc be
  refine Ll (us:=[iv ((MF Pa 8 8 100 1000 0 0 0 0 (FD.mk 0 0 ([]) ([]) ([])) (FD.mk 0 0 ([]) ([]) ([]))).W),iv ((MF Pa 8 8 100 1000 0 0 0 0 (FD.mk 0 0 ([]) ([]) ([])) (FD.mk 0 0 ([]) ([]) ([]))).H),ah,ai,aj]) La rfl rfl rfl rfl rfl cX rfl (Qc rr (L4 bl.one (L4 bm.one (L4 bn.one MX)))) fun fS c9 aH=>?_
  have da:=c7.all aH cY.symm
  have db:=bl.all aH cZ.symm
  have dc:=bm.all aH c5.symm
  have dd:=bn.all aH c6.symm
  refine Lb (iv (N5 Pa 8 8 100 1000 0 0 0 0 (FD.mk 0 0 ([]) ([]) ([])) (FD.mk 0 0 ([]) ([]) ([])))) LE (KQ ?_)
  have de:=K4 (pt aG 0)
  have df:=K4 (iv (N5 Pa 8 8 100 1000 0 0 0 0 (FD.mk 0 0 ([]) ([]) ([])) (FD.mk 0 0 ([]) ([]) ([]))))
  refine KK (KM (KL (L9 rfl rfl rfl rfl rfl (fun _ _=>by kernel_rfl) L5 (Q4   _   ) fun bo bp=>?_)))
  obtain⟨bq,dg,dh,di,dj⟩:=O6 bp da db dc dd c9
  have aR:=((bh.tr bj).trans aH (KS.ok (S:=fun _=>False) (KS.new bh bi) KZ)).tr bp
  refine KN (.agg #[iv 0,iv 0,iv 0,iv 0]) rr (Ma (l':=[]) (cells:=#[iv 0,iv 0,iv 0,iv 0]) rfl Rj (by kernel_rfl) rfl rr) (K2 Lw aM (LH (R:=fun v_ w_=>∃ (ak:Value) (aS:Nat->Prop),.tuple #[ak,iv ((O2 Pa 8 8 100 1000 0 0 0 0).2)]=v_/\KR (fun _=>False) bo w_/\(RP VD w_ aS ak ((O2 Pa 8 8 100 1000 0 0 0 0).1)/\KS bo Mb aS)) rfl rfl (LQ rfl rfl rfl (fun _ _=>by kernel_rfl) (K6 _) (Lo rfl (Lo rfl (Lo rfl L5))) (TW 8 8 100 1000 0 0 0 0 ae Pa am _ (hA.all aR) (hO.all aR) (by first|omega|(simp;omega)) bq ) (fun e_ w_ h_=>by obtain⟨v121_,T124_,he_,hr_⟩:=h_;exact⟨_,he_,v121_,T124_,rfl,hr_⟩)) ?_))
  rintro _ fT ⟨ak,aS,rfl,bt,⟨dk,fU⟩⟩
  obtain⟨dl,dm,dn,dp,dq⟩:=O6 bt bq dg dh di dj
  refine KN (.tuple #[ak,iv ((O2 Pa 8 8 100 1000 0 0 0 0).2)]) rr (KT rfl rfl rr) (KN ak rr (LY rfl rfl rfl rr) (KN (iv ((O2 Pa 8 8 100 1000 0 0 0 0).2)) rr (LY rfl rfl rfl rr) (Lb ak LE (Lb (iv ((O2 Pa 8 8 100 1000 0 0 0 0).2)) LE (KQ ?_)))))
  have dr:=K4 (ak)
  have dt:=K4 (iv ((O2 Pa 8 8 100 1000 0 0 0 0).2))
  refine KK (KM (KL (L9 rfl rfl rfl rfl rfl (fun _ _=>by kernel_rfl) L5 (Q4   _   ) fun aO bu=>?_)))
  obtain⟨bv,du,dv,dw,dy,dz⟩:=Qh bu dl dm dn dp dq dk
  have aI:=(aR.tr bt).tr bu
  refine KN (.agg #[iv 1,iv 0,iv 0,iv 0]) rr (Ma (l':=[(0,iv 1)]) (cells:=#[iv 1,iv 0,iv 0,iv 0]) rfl (RW rfl Rj) (by kernel_rfl) rfl rr) (K2 Lw aM (KN (.agg #[iv 0,iv 0,.slice none 0 0,.slice none 0 0,.slice none 0 0]) rr (Ma (l':=[]) (cells:=#[iv 0,iv 0,.slice none 0 0,.slice none 0 0,.slice none 0 0]) rfl Rj (by kernel_rfl) rfl rr) (KN (.agg #[iv 0,iv 0,.slice none 0 0,.slice none 0 0,.slice none 0 0]) rr (Ma (l':=[]) (cells:=#[iv 0,iv 0,.slice none 0 0,.slice none 0 0,.slice none 0 0]) rfl Rj (by kernel_rfl) rfl rr) (LH (R:=fun v_ w_=>∃ (aw:Value) (aJ:Nat->Prop) (az:Value) (aK:Nat->Prop) (aA:Value) (aL:Nat->Prop),.tuple #[.agg #[iv ((MF Pa 8 8 100 1000 1 0 0 0 (FD.mk 0 0 ([]) ([]) ([])) (FD.mk 0 0 ([]) ([]) ([]))).W),iv ((MF Pa 8 8 100 1000 1 0 0 0 (FD.mk 0 0 ([]) ([]) ([])) (FD.mk 0 0 ([]) ([]) ([]))).H),aw,az,aA],iv (N5 Pa 8 8 100 1000 1 0 0 0 (FD.mk 0 0 ([]) ([]) ([])) (FD.mk 0 0 ([]) ([]) ([])))]=v_/\KR (fun _=>False) aO w_/\(Md w_ aJ aw ((MF Pa 8 8 100 1000 1 0 0 0 (FD.mk 0 0 ([]) ([]) ([])) (FD.mk 0 0 ([]) ([]) ([]))).p0)/\KS aO Mb aJ)/\(Md w_ aK az ((MF Pa 8 8 100 1000 1 0 0 0 (FD.mk 0 0 ([]) ([]) ([])) (FD.mk 0 0 ([]) ([]) ([]))).p1)/\KS aO Mb aK)/\(Md w_ aL aA ((MF Pa 8 8 100 1000 1 0 0 0 (FD.mk 0 0 ([]) ([]) ([])) (FD.mk 0 0 ([]) ([]) ([]))).p2)/\KS aO Mb aL)/\KO aJ aK/\KO aJ aL/\KO aK aL) rfl rfl (LQ rfl rfl rfl (fun _ _=>by kernel_rfl) (K6 _) (Lo rfl (Lo rfl (Lo rfl (Lo rfl (Lo rfl L5))))) (Ti 8 8 100 1000 1 0 0 0 ae Pa (FD.mk 0 0 ([]) ([]) ([])) (.slice none 0 0) (.slice none 0 0) (.slice none 0 0) (FD.mk 0 0 ([]) ([]) ([])) (.slice none 0 0) (.slice none 0 0) (.slice none 0 0) am Mb Mb Mb Mb Mb Mb _ (hA.all aI) (hO.all aI) (hs.all aI) (hw.all aI) (by omega) bv (Mv.nil _) (Mv.nil _) (Mv.nil _) (Mv.nil _) (Mv.nil _) (Mv.nil _) ) (fun e_ w_ h_=>by obtain⟨v156_,T161_,v157_,T162_,v158_,T163_,he_,hr_⟩:=h_;exact⟨_,he_,v156_,T161_,v157_,T162_,v158_,T163_,rfl,hr_⟩)) ?_))))
  rintro _ fV ⟨aw,aJ,az,aK,aA,aL,rfl,bz,⟨dA,fW⟩,⟨dB,fX⟩,⟨dC,fY⟩,fZ,f5,f7⟩
  obtain⟨bA,bB,bC,bD,bE,bF⟩:=Qh bz bv du dv dw dy dz
  have bG:=aI.tr bz
  refine KN (.tuple #[.agg #[iv ((MF Pa 8 8 100 1000 1 0 0 0 (FD.mk 0 0 ([]) ([]) ([])) (FD.mk 0 0 ([]) ([]) ([]))).W),iv ((MF Pa 8 8 100 1000 1 0 0 0 (FD.mk 0 0 ([]) ([]) ([])) (FD.mk 0 0 ([]) ([]) ([]))).H),aw,az,aA],iv (N5 Pa 8 8 100 1000 1 0 0 0 (FD.mk 0 0 ([]) ([]) ([])) (FD.mk 0 0 ([]) ([]) ([])))]) rr (KT rfl rfl rr) (KN (.agg #[iv ((MF Pa 8 8 100 1000 1 0 0 0 (FD.mk 0 0 ([]) ([]) ([])) (FD.mk 0 0 ([]) ([]) ([]))).W),iv ((MF Pa 8 8 100 1000 1 0 0 0 (FD.mk 0 0 ([]) ([]) ([])) (FD.mk 0 0 ([]) ([]) ([]))).H),aw,az,aA]) rr (LY rfl rfl rfl rr) (KN (iv (N5 Pa 8 8 100 1000 1 0 0 0 (FD.mk 0 0 ([]) ([]) ([])) (FD.mk 0 0 ([]) ([]) ([])))) rr (LY rfl rfl rfl rr) (LN (n:=5) (vs:=[iv 0,iv 0,.slice none 0 0,.slice none 0 0,.slice none 0 0]) rfl rfl rfl (by kernel_rfl) fun f8 f9 dD bH bI=>?_)))
  obtain⟨dE,dF,dG,dH,dI,dJ⟩:=WS bH bA bB bC bD bE bF
  obtain⟨dK,dL,dM,dN,dO,dP,dQ,dR,dS⟩:=aA9 bI bA bB bC bD bE bF dA dB dC
  refine Ll (us:=[iv ((MF Pa 8 8 100 1000 1 0 0 0 (FD.mk 0 0 ([]) ([]) ([])) (FD.mk 0 0 ([]) ([]) ([]))).W),iv ((MF Pa 8 8 100 1000 1 0 0 0 (FD.mk 0 0 ([]) ([]) ([])) (FD.mk 0 0 ([]) ([]) ([]))).H),aw,az,aA]) La rfl rfl rfl rfl rfl dD rfl (Qc rr (L4 dQ.one (L4 dR.one (L4 dS.one MX)))) fun ga gb an=>?_
  have dT:=dK.all an dE.symm
  have dU:=dL.all an dF.symm
  have dV:=dM.all an dG.symm
  have dW:=dN.all an dH.symm
  have dX:=dO.all an (dI.symm aG rfl)
  have dY:=dP.all an dJ.symm
  refine Lb (iv (N5 Pa 8 8 100 1000 1 0 0 0 (FD.mk 0 0 ([]) ([]) ([])) (FD.mk 0 0 ([]) ([]) ([])))) LE (KQ ?_)
  have dZ:=K4 (iv (N5 Pa 8 8 100 1000 1 0 0 0 (FD.mk 0 0 ([]) ([]) ([])) (FD.mk 0 0 ([]) ([]) ([]))))
  refine KK (KM (KL (L9 rfl rfl rfl rfl rfl (fun _ _=>by kernel_rfl) L5 (Q4   _   ) fun gc bJ=>?_)))
  obtain⟨d8,bK,bL,bM,bN,bO⟩:=Qh bJ dT dU dV dW dX dY
  have bP:=((bG.tr bI).trans an (KS.ok (S:=fun _=>False) (KS.new bG bH) KZ)).tr bJ
  refine KN (.agg #[iv 0,iv 0,iv 0,iv 0]) rr (Ma (l':=[]) (cells:=#[iv 0,iv 0,iv 0,iv 0]) rfl Rj (by kernel_rfl) rfl rr) (ayO rfl rfl rfl fun gd ge gh d9 bQ bR=>?_)
  have bS:=KS.new bP bQ
  obtain⟨bT,bU,bV,bW,bX⟩:=azg bQ bK bL bM bN bO
  obtain⟨eb,bY,bZ,b7,b8,b9⟩:=Qh bR d8 bK bL bM bN bO
  have cd:=bP.tr bR
  refine K2 Lw aM (OR rfl rfl rfl rfl rfl rfl d9 eb (by first|omega|(simp;done)|(simp;omega)) fun gi gj gl ee ce aB=>?_)
  obtain⟨eh,ei,en,eo,ep⟩:=aEV ce bT bY bU bZ bV b7 bW b8 bX b9
  have er:=bY.all aB bT.symm
  have et:=bZ.all aB bU.symm
  have eu:=b7.all aB bV.symm
  have ew:=b8.all aB (bW.symm aG rfl)
  have ex:=b9.all aB bX.symm
  refine O0 (n:=0) rfl rfl rfl rfl (by omega) (by omega) fun gm gn go ey gp cf=>?_
  obtain⟨ez,eA,eB,eC,eD,eE⟩:=Qh cf er et eu ew ex ee
  refine OR rfl rfl rfl rfl rfl rfl eE ey.byt (by first|omega|(simp;done)|(simp;omega)) fun eF cg eG eH gq aC=>?_
  have eI:=ez.all aC eh.symm
  have eJ:=eA.all aC ei.symm
  have eK:=eB.all aC en.symm
  have eL:=eC.all aC (eo.symm aG rfl)
  have eM:=eD.all aC ep.symm
  have aT:=((cd.trans aB (KS.ok (S:=fun _=>False) bS KZ)).tr cf).trans aC (KS.ok (S:=fun _=>False) (KS.trans bS cd ce) KZ)
  refine LH (R:=fun v_ w_=>∃ (aD:Value) (aU:Nat->Prop),.tuple #[aD,iv ((O2 ((([]:List Nat)++Pa)++([0])) 8 8 100 1000 0 0 0 0).2)]=v_/\KR (fun _=>False) cg w_/\(RP VD w_ aU aD ((O2 ((([]:List Nat)++Pa)++([0])) 8 8 100 1000 0 0 0 0).1)/\KS cg Mb aU)) rfl rfl (LQ rfl rfl rfl (fun _ _=>by kernel_rfl) (K6 _) (Lo rfl (Lo rfl (Lo rfl L5))) (TW 8 8 100 1000 0 0 0 0 eF ((([]:List Nat)++Pa)++([0])) eG _ (hA.all aT) (hO.all aT) (by first|omega|(simp;omega)) eH.byt ) (fun e_ w_ h_=>by obtain⟨v377_,T380_,he_,hr_⟩:=h_;exact⟨_,he_,v377_,T380_,rfl,hr_⟩)) ?_
  rintro _ aP ⟨aD,aU,rfl,ci,⟨gr,gt⟩⟩
  obtain⟨eN,eO,eP,eQ,eR⟩:=O6 ci eI eJ eK eL eM
  refine KN (.tuple #[aD,iv ((O2 ((([]:List Nat)++Pa)++([0])) 8 8 100 1000 0 0 0 0).2)]) rr (KT rfl rfl rr) (KN aD rr (LY rfl rfl rfl rr) (KN (iv ((O2 ((([]:List Nat)++Pa)++([0])) 8 8 100 1000 0 0 0 0).2)) rr (LY rfl rfl rfl rr) (Lb aD LE (Lb (iv ((O2 ((([]:List Nat)++Pa)++([0])) 8 8 100 1000 0 0 0 0).2)) LE (KQ ?_)))))
  have eS:=K4 (iv ((O2 ((([]:List Nat)++Pa)++([0])) 8 8 100 1000 0 0 0 0).2))
  refine KK (KM (KL (LH (R:=fun v_ w_=>∃ (aa:Value) (ao:Nat->Prop) (ab:Value) (ap:Nat->Prop) (ac:Value) (aq:Nat->Prop),.tuple #[.agg #[iv ((LR 8 8 128).W),iv ((LR 8 8 128).H),aa,ab,ac],iv (SF 8 8)]=v_/\KR (fun _=>False) aP w_/\(Md w_ ao aa ((LR 8 8 128).p0)/\KS aP Mb ao)/\(Md w_ ap ab ((LR 8 8 128).p1)/\KS aP Mb ap)/\(Md w_ aq ac ((LR 8 8 128).p2)/\KS aP Mb aq)/\KO ao ap/\KO ao aq/\KO ap aq) rfl rfl (LQ rfl rfl rfl (fun _ _=>by kernel_rfl) (K6 _) (Lo rfl (Lo rfl (Lo rfl L5))) (aCe 8 8 128  _ (by omega)  ) (fun e_ w_ h_=>by obtain⟨v418_,T423_,v419_,T424_,v420_,T425_,he_,hr_⟩:=h_;exact⟨_,he_,v418_,T423_,v419_,T424_,v420_,T425_,rfl,hr_⟩)) ?_)))
  rintro _ gu ⟨aa,ao,ab,ap,ac,aq,rfl,cj,⟨cm,gv⟩,⟨cn,gw⟩,⟨co,gz⟩,gA,gB,gC⟩
  obtain⟨cq,cr,ct,cu,cv⟩:=O6 cj eN eO eP eQ eR
  have cw:=(aT.tr ci).tr cj
  refine KN (.tuple #[.agg #[iv ((LR 8 8 128).W),iv ((LR 8 8 128).H),aa,ab,ac],iv (SF 8 8)]) rr (KT rfl rfl rr) (KN (.agg #[iv ((LR 8 8 128).W),iv ((LR 8 8 128).H),aa,ab,ac]) rr (LY rfl rfl rfl rr) (KN (iv (SF 8 8)) rr (LY rfl rfl rfl rr) (LN (n:=5) (vs:=[iv 0,iv 0,.slice none 0 0,.slice none 0 0,.slice none 0 0]) rfl rfl rfl (by kernel_rfl) fun eT gD eU cy cz=>?_)))
  obtain⟨eV,eW,eX,eY,eZ,e6,e7,e8⟩:=Zp cy cq cr ct cu cv cm cn co
  obtain⟨e9,fa,fb,fc,fd,cA,cB,cC⟩:=Yf cz cq cr ct cu cv cm cn co
  refine Ll (us:=[iv ((LR 8 8 128).W),iv ((LR 8 8 128).H),aa,ab,ac]) La rfl rfl rfl rfl rfl eU rfl (Qc rr (L4 cA.one (L4 cB.one (L4 cC.one MX)))) fun fe cD af=>?_
  have ff:=e9.all af eV.symm
  have fg:=fa.all af eW.symm
  have fh:=fb.all af eX.symm
  have fi:=fc.all af (eY.symm aG rfl)
  have fj:=fd.all af eZ.symm
  have cE:=cA.all af e6.symm
  have cF:=cB.all af e7.symm
  have cG:=cC.all af e8.symm
  refine Lb (iv (SF 8 8)) LE (KQ ?_)
  have cH:=K4 (pt eT 0)
  refine KK (KM (KL (KN (.agg #[iv ((MF Pa 8 8 100 1000 0 0 0 0 (FD.mk 0 0 ([]) ([]) ([])) (FD.mk 0 0 ([]) ([]) ([]))).W),iv ((MF Pa 8 8 100 1000 0 0 0 0 (FD.mk 0 0 ([]) ([]) ([])) (FD.mk 0 0 ([]) ([]) ([]))).H),ah,ai,aj]) rr (KX La rfl de fi rr) (KN (.agg #[iv ((LR 8 8 128).W),iv ((LR 8 8 128).H),aa,ab,ac]) rr (KX La rfl cH cD rr) (LH (R:=fun v_ w_=>v_ = .bool true/\KR (fun _=>False) fe w_) rfl rfl (LQ rfl rfl rfl (fun _ _=>by kernel_rfl) (K6 _) (Lo rfl (Lo rfl L5)) (Vh (MF Pa 8 8 100 1000 0 0 0 0 (FD.mk 0 0 ([]) ([]) ([])) (FD.mk 0 0 ([]) ([]) ([]))) ah ai aj (LR 8 8 128) aa ab ac ar au av ao ap aq _  ff.byt fg.byt fh.byt cE.byt cF.byt cG.byt ) (fun e_ w_ h_=>⟨_,h_.1,congrArg Value.bool hf.out,h_.2⟩)) ?_)))))
  rintro _ gE ⟨rfl,cI⟩
  obtain⟨fk,fm,fo,fp,fq⟩:=O6 cI fj cE cF cG cD
  refine Lb (.bool true) LE (KQ ?_)
  have ft:=K4 (.bool true)
  refine KK (KM ?_)
  refine RZ [some 71,some 72,some 73,some 15] [Pd.eq (.agg #[iv 8,iv 8,iv 100,iv 1000]),Pd.eq (.agg #[iv ((LR 8 8 128).W),iv ((LR 8 8 128).H),aa,ab,ac]),Pd.eq (.bool true),Pd.eq (.bool true)] (by kernel_rfl) (by kernel_rfl) ?_ ?_
  ·refine KP ?_ ?_
   ·refine Ld.one rfl fun F_ w_ hR hout hD=>?_
    exact(LQ rfl rfl rfl (fun _ _=>by kernel_rfl) (K6 _) L5 (Q4   _   ) (fun e_ w_ h_=>⟨_,h_.1,rfl,h_.2⟩))
   refine KP ?_ ?_
   ·refine Ld.one rfl fun F_ w_ hR hout hD=>?_
    exact(KX La rfl ((hout 12 rfl (by decide)).trans cH) (fq.all hR id) ⟨rfl,KR.refl _ _⟩)
   refine KP ?_ ?_
   ·refine Ld.one rfl fun F_ w_ hR hout hD=>?_
    have bd:F_ 71 = .agg #[iv 8,iv 8,iv 100,iv 1000]:=(hD.get 0 rfl rfl rfl)
    have bf:F_ 72 = .agg #[iv ((LR 8 8 128).W),iv ((LR 8 8 128).H),aa,ab,ac]:=(hD.get 1 rfl rfl rfl)
    exact(LQ rfl rfl rfl (fun _ _=>by kernel_rfl) (K6 _) (Lo bd (Lo bf L5)) (Tj 8 8 100 1000 (LR 8 8 128) aa ab ac ao ap aq _  (fm.all hR KO.none).byt (fo.all hR KO.none).byt (fp.all hR KO.none).byt ) (fun e_ w_ h_=>⟨_,h_.1,congrArg Value.bool (decide_eq_true aEZ),h_.2⟩))
   refine KP ?_ ?_
   ·refine Ld.one rfl fun F_ w_ hR hout hD=>?_
    have fu:F_ 73 = .bool true:=(hD.get 0 rfl rfl rfl)
    exact(Pv rfl fu ⟨rfl,KR.refl _ _⟩)
   exact Mj
  intro gF fw gG cJ cK aV
  have fx:=fk.all cJ KO.none
  obtain⟨fy,fA,fB,fC,fD,fE,fF⟩:=t7 aV 101 aW 5 df 6 dr 7 dt 9 dZ 11 eS 14 ft
  have fG:fw 15 = .bool true:=(aV 15).trans (cK 3 (by decide))
  clear cK aV
  refine KK (KM (KL (K2 Lw fA (KN (.bool true) rr (MA rfl rfl rfl (decide_eq_true hd.out) rr) (KN (.bool true) rr (KT rfl rfl rr) (Lj (.bool true) 2 true 76 Li (KT rfl fF rr) (KN (.bool true) rr (LB rfl rfl rfl rr) (KN (.bool true) rr (KT rfl rfl rr) (Lj ak 5 true 79 Li (KT rfl fB rr) (Lj (iv ((((O2 Pa 8 8 100 1000 0 0 0 0).1).length:Nat):Int)) 5 true 79 Li (aEq (r:=VD) rfl rfl rfl fx.roa rr) (Lj (.bool true) 5 true 79 Li (MA rfl rfl rfl (decide_eq_true (by rw[hc.out.1];rfl)) rr) ?_)))))))))))
  refine KN (.bool true) rr (LB rfl rfl rfl rr) (KN (.bool true) rr (KT rfl rfl rr) (Lj (iv ((O2 Pa 8 8 100 1000 0 0 0 0).2)) 10 true 84 Li (KT rfl fC rr) (Lj (.bool true) 10 true 84 Li (MA rfl rfl rfl (decide_eq_true hc.out.2.1) rr) (KN (.bool true) rr (LB rfl rfl rfl rr) (KN (.bool true) rr (KT rfl rfl rr) (Lj (iv (N5 Pa 8 8 100 1000 1 0 0 0 (FD.mk 0 0 ([]) ([]) ([])) (FD.mk 0 0 ([]) ([]) ([])))) 14 true 88 Li (KT rfl fD rr) (Lj (.bool true) 14 true 88 Li (MA rfl rfl rfl (decide_eq_true ho.out.1) rr) (KN (.bool true) rr (LB rfl rfl rfl rr) (KN (.bool true) rr (KT rfl rfl rr) (Lj (iv ((O2 ((([]:List Nat)++Pa)++([0])) 8 8 100 1000 0 0 0 0).2)) 18 true 92 Li (KT rfl fE rr) (Lj (.bool true) 18 true 92 Li (MA rfl rfl rfl (decide_eq_true hc.out.2.2) rr) ?_)))))))))))
  refine KN (.bool true) rr (LB rfl rfl rfl rr) (KN (.bool true) rr (KT rfl rfl rr) (KN (.bool true) rr (LB rfl rfl rfl rr) (KN (.bool true) rr (KT rfl rfl rr) (Lj (.bool true) 24 true 98 Li (KT rfl fG rr) (KN (.bool true) rr (LB rfl rfl rfl rr) (Lb (.bool true) LE (KQ ?_)))))))
  have fH:=K4 (.bool true)
  refine KK (Le ?_)
  exact LC (v:=.bool true) fy rfl rfl fH ⟨rfl,((((cw.tr cz).trans af (KS.ok (S:=fun _=>False) (KS.new cw cy) KZ)).tr cI).tr cJ)⟩
open Go.RowKit
def aF6(W H:Int):Prop:=(16<W/\W<=64)\/(16<H/\H<=64)
instance (W H:Int):Decidable (aF6 W H):=by unfold aF6;infer_instance
open Go.RowKit
theorem Zm(a:FD):Q6 a a=true:=by unfold Q6 Wr;simp
open Go.RowKit
def UZ{γ1 γ2:Type}(M:List (Nat×Nat))(c:Nat):Nat->List (γ1×γ2->Value)->Prop
 | _,[]=>True
 | i,f::r=>(M.contains (i,c)=true\/i=c\/∀ g g' h,f (g,h)=f (g',h))/\UZ M c (i+1) r
def Vj{γ1 γ2:Type}(M:List (Nat×Nat))(c:Nat):Nat->List (γ1×γ2->Value)->Prop
 | _,[]=>True
 | i,f::r=>(M.contains (i,c)=true\/i=c\/∀ g h h',f (g,h)=f (g,h'))/\Vj M c (i+1) r
theorem UZ.at{γ1 γ2:Type}{M:List (Nat×Nat)}{c:Nat}:∀ {vs:List (γ1×γ2->Value)} {k:Nat},UZ M c k vs->∀ i,M.contains (k+i,c)=false->k+i≠c->∀ g g' h,Qr vs i (g,h)=Qr vs i (g',h):=by
 intro vs
 induction vs with
 | nil=>intro k _ i _ _ g g' h;rfl
 | cons f r ih =>
  intro k h i hm hc g g'
  cases i with
  | zero =>
   rcases h.1 with e|e|e
   ·rw[Nat.add_zero] at hm;rw[hm] at e;cases e
   ·exact absurd e hc
   ·exact e g g'
  | succ i=>exact ih h.2 i (by rw[show k+1+i=k+(i+1) by omega];exact hm) (by omega) g g'
theorem Vj.at{γ1 γ2:Type}{M:List (Nat×Nat)}{c:Nat}:∀ {vs:List (γ1×γ2->Value)} {k:Nat},Vj M c k vs->∀ i,M.contains (k+i,c)=false->k+i≠c->∀ g h h',Qr vs i (g,h)=Qr vs i (g,h'):=by
 intro vs
 induction vs with
 | nil=>intro k _ i _ _ g h h';rfl
 | cons f r ih =>
  intro k h i hm hc g h1 h2
  cases i with
  | zero =>
   rcases h.1 with e|e|e
   ·rw[Nat.add_zero] at hm;rw[hm] at e;cases e
   ·exact absurd e hc
   ·exact e g h1 h2
  | succ i=>exact ih h.2 i (by rw[show k+1+i=k+(i+1) by omega];exact hm) (by omega) g h1 h2
structure aFv {γ1:Type} (P1:γ1->World->Prop) (T1:γ1->Nat->Prop):Prop where
  s:∀ (g:γ1) (w w':World) (S':Nat->Prop),P1 g w->KR S' w w'->KO (T1 g) S'->P1 g w'
  l:∀ (g:γ1) (w:World),P1 g w->PI w (T1 g)
structure JY {γ1 γ2:Type} (C:Cas γ2) (P1:γ1->World->Prop) (T1:γ1->Nat->Prop) (S okp:Nat->Prop) (vs:List (γ1×γ2->Value)) (c1 c sr:Nat) (al:Option Nat) (M:List (Nat×Nat)) (w0:World) (L:Nat->Bool) (v:Nat->Value) (w:World) (g1:γ1) (g:γ2) (p:Nat):Prop where
  kept:KR S w0 w
  vals:∀ i,L i=true->al≠some i->v i=Qr vs i (g1,g)
  adr:∀ a,al=some a->L a=true->v a=ptX p
  blk:Pq al L=true->okp p
  zero:Pq al L=true->L sr=false->C.Z p w
  full:L sr=true->C.Y g p w
  pre:L c=false->C.Pre w
  post:L c=true->C.Post g w/\KS w0 C.Tp (C.Tq g)
  far:L c=true->Pq al L=true->¬ C.Tq g p
  post1:L c1=true->P1 g1 w/\KS w0 Mb (T1 g1)
  far1:L c1=true->Pq al L=true->¬ T1 g1 p
  clos:∀ j i,(j,i)∈M->L j=true->L i=true
section
variable {γ1 γ2:Type} {P:Program} {N:Nat} {F:Nat->Value} {w:World} {Q:Exit->(Nat->Value)->World->Prop} {S okp:Nat->Prop} {M:List (Nat×Nat)} {D:List (Option Tmp)} {C:Cas γ2} {P1:γ1->World->Prop} {T1:γ1->Nat->Prop} {vs:List (γ1×γ2->Value)} {c1 c sr:Nat} {al:Option Nat}
def Mr(C:Cas γ2)(P1:γ1->World->Prop)(T1:γ1->Nat->Prop)(S okp:Nat->Prop)(vs:List (γ1×γ2->Value))(c1 c sr:Nat)(al:Option Nat)(N:Nat)(P:Program)(D:List (Option Tmp))(F0:Nat->Value)(w0:World)(i:Nat)(o:Oper):Prop :=
 o.guard=none/\∀ (g:γ1×γ2) (p:Nat) (F:Nat->Value) (w:World),KR S w0 w->(∀ t,Nat.blt t N=true->some t∉D->F t=F0 t)->Ol D (SV vs al g p) F w o.after.toList →
  (i≠c1->i≠c->i≠sr->al≠some i->Lg P (ev F) o w (fun v w'=>v=Qr vs i g/\KR Mb w w')) ∧
  (i=c->C.Pre w->P1 g.1 w->Lg P (ev F) o w (fun v w'=>∃ g',v=Qr vs i (g.1,g')/\KR C.Tp w w'/\C.Post g' w'/\KS w C.Tp (C.Tq g'))) ∧
  (i=c1->Lg P (ev F) o w (fun v w'=>∃ g',v=Qr vs i (g',g.2)/\KR Mb w w'/\P1 g' w'/\KS w Mb (T1 g'))) ∧
  (al=some i->Lg P (ev F) o w (fun v w'=>∃ q,v=ptX q/\w.heap.size<=q/\C.Z q w'/\KR Mb w w')) ∧
  (i=sr->okp p->C.Z p w->C.Post g.2 w->Lg P (ev F) o w (fun v w'=>v=Qr vs i g/\KR (Lh p) w w'/\C.Y g.2 p w'))
def Sq(C:Cas γ2)(P1:γ1->World->Prop)(T1:γ1->Nat->Prop)(S okp:Nat->Prop)(vs:List (γ1×γ2->Value))(c1 c sr:Nat)(al:Option Nat)(N:Nat)(P:Program)(D:List (Option Tmp))(F0:Nat->Value)(w0:World):Nat->List Oper->Prop
 | _,[]=>True
 | i,o::r=>Mr C P1 T1 S okp vs c1 c sr al N P D F0 w0 i o/\Sq C P1 T1 S okp vs c1 c sr al N P D F0 w0 (i+1) r
theorem Vu{F0:Nat->Value}{w0:World}{i:Nat}:Sq C P1 T1 S okp vs c1 c sr al N P D F0 w0 i []:=trivial
theorem LO{F0:Nat->Value}{w0:World}{i:Nat}{o:Oper}{r:List Oper}(h:Mr C P1 T1 S okp vs c1 c sr al N P D F0 w0 i o)(k:Sq C P1 T1 S okp vs c1 c sr al N P D F0 w0 (i+1) r):Sq C P1 T1 S okp vs c1 c sr al N P D F0 w0 i (o::r):=⟨h,k⟩
theorem Mr.one{F0:Nat->Value}{w0:World}{i:Nat}{o:Oper}(hg:o.guard=none)(h0:(i==c1)=false)(h1:(i==c)=false)(h2:(i==sr)=false)(h3:(al==some i)=false)
  (h:∀ (g:γ1×γ2) (p:Nat) (F:Nat->Value) (w:World),KR S w0 w->(∀ t,Nat.blt t N=true->some t∉D->F t=F0 t)->Ol D (SV vs al g p) F w o.after.toList->Lg P (ev F) o w (fun v w'=>v=Qr vs i g/\KR Mb w w')):Mr C P1 T1 S okp vs c1 c sr al N P D F0 w0 i o :=
 ⟨hg,fun g p F w a b d=>⟨fun _ _ _ _=>h g p F w a b d,fun e=>absurd e (by simpa using h1),fun e=>absurd e (by simpa using h0),fun e=>absurd e (by simpa using h3),fun e=>absurd e (by simpa using h2)⟩⟩
theorem Mr.call{F0:Nat->Value}{w0:World}{i:Nat}{o:Oper}(hg:o.guard=none)(h0:(i==c1)=false)(h1:(i==c)=true)(h2:(i==sr)=false)(h3:(al==some i)=false)
  (h:∀ (g:γ1×γ2) (p:Nat) (F:Nat->Value) (w:World),KR S w0 w->(∀ t,Nat.blt t N=true->some t∉D->F t=F0 t)->Ol D (SV vs al g p) F w o.after.toList->C.Pre w->P1 g.1 w->Lg P (ev F) o w (fun v w'=>∃ g',v=Qr vs i (g.1,g')/\KR C.Tp w w'/\C.Post g' w'/\KS w C.Tp (C.Tq g'))):Mr C P1 T1 S okp vs c1 c sr al N P D F0 w0 i o :=
 ⟨hg,fun g p F w a b d=>⟨fun _ e=>absurd (by simpa using h1) e,fun _ e e1=>h g p F w a b d e e1,fun e=>absurd e (by simpa using h0),fun e=>absurd e (by simpa using h3),fun e=>absurd e (by simpa using h2)⟩⟩
theorem Mr.alloc{F0:Nat->Value}{w0:World}{i:Nat}{o:Oper}(hg:o.guard=none)(h0:(i==c1)=false)(h1:(i==c)=false)(h2:(i==sr)=false)(h3:(al==some i)=true)
  (h:∀ (F:Nat->Value) (w:World),KR S w0 w->Lg P (ev F) o w (fun v w'=>∃ q,v=ptX q/\w.heap.size<=q/\C.Z q w'/\KR Mb w w')):Mr C P1 T1 S okp vs c1 c sr al N P D F0 w0 i o :=
 ⟨hg,fun g p F w a b d=>⟨fun _ _ _ e=>absurd (by simpa using h3) e,fun e=>absurd e (by simpa using h1),fun e=>absurd e (by simpa using h0),fun _=>h F w a,fun e=>absurd e (by simpa using h2)⟩⟩
theorem Mr.store{F0:Nat->Value}{w0:World}{i:Nat}{o:Oper}(hg:o.guard=none)(h0:(i==c1)=false)(h1:(i==c)=false)(h2:(i==sr)=true)(h3:(al==some i)=false)
  (h:∀ (g:γ1×γ2) (p:Nat) (F:Nat->Value) (w:World),KR S w0 w->(∀ t,Nat.blt t N=true->some t∉D->F t=F0 t)->Ol D (SV vs al g p) F w o.after.toList->okp p->C.Z p w->C.Post g.2 w->Lg P (ev F) o w (fun v w'=>v=Qr vs i g/\KR (Lh p) w w'/\C.Y g.2 p w')):Mr C P1 T1 S okp vs c1 c sr al N P D F0 w0 i o :=
 ⟨hg,fun g p F w a b d=>⟨fun _ _ e=>absurd (by simpa using h2) e,fun e=>absurd e (by simpa using h1),fun e=>absurd e (by simpa using h0),fun e=>absurd e (by simpa using h3),fun _ e=>h g p F w a b d e⟩⟩
theorem Mr.ahead{F0:Nat->Value}{w0:World}{i:Nat}{o:Oper}(hg:o.guard=none)(h0:(i==c1)=true)(h1:(i==c)=false)(h2:(i==sr)=false)(h3:(al==some i)=false)
  (h:∀ (g:γ1×γ2) (p:Nat) (F:Nat->Value) (w:World),KR S w0 w->(∀ t,Nat.blt t N=true->some t∉D->F t=F0 t)->Ol D (SV vs al g p) F w o.after.toList->Lg P (ev F) o w (fun v w'=>∃ g',v=Qr vs i (g',g.2)/\KR Mb w w'/\P1 g' w'/\KS w Mb (T1 g'))):Mr C P1 T1 S okp vs c1 c sr al N P D F0 w0 i o :=
 ⟨hg,fun g p F w a b d=>⟨fun e=>absurd (by simpa using h0) e,fun e=>absurd e (by simpa using h1),fun _=>h g p F w a b d,fun e=>absurd e (by simpa using h3),fun e=>absurd e (by simpa using h2)⟩⟩
theorem Mr.step{os:List Oper}{w0:World}{i:Nat}{o:Oper}{a0:Act}(hmo:Sb os M=true)(hcs:M.contains (sr,c)=true)(hc1:M.contains (c,c1)=true)(hs1:M.contains (sr,c1)=true)(hca:∀ a,al=some a->M.contains (sr,a)=true)(hna:al≠some c)(hn1:al≠some c1)(hns:al≠some sr)(hsc:c≠sr)(hsc1:c1≠sr)(hcc:c≠c1)(hC1:UZ M c1 0 vs)(hC:Vj M c 0 vs)(hp1:aFv P1 T1)(hok:XT C S okp w0)(hnew:∀ a,al=some a->∀ p,w0.heap.size<=p->okp p)(hio:os[i]? = some o)(ha:Fr N F a0)(h:Mr C P1 T1 S okp vs c1 c sr al N P D F w0 i o) :
  XB os P D (fun L v w=>∃ g1 g p,JY C P1 T1 S okp vs c1 c sr al M w0 L v w g1 g p) a0 i o:=by
 rintro L v a w ⟨g1,g,p,hJ⟩ hi hdone hout hhere _
 have hDe:∀ c d,D.getD c none=some d->D[c]? = some (some d):=fun c d hd=>by
  unfold List.getD at hd
  cases hq:D[c]? with
  | none=>rw[hq] at hd;cases hd
  | some y=>rw[hq] at hd;simp at hd;rw[hd]
 have hdeps:Ol D (SV vs al (g1,g) p) (fun t=>a.tmps.getD t undef) w o.after.toList:=by
  refine RS.toF (RS.mk fun e he hb d hd=>?_)
  have hl:=hdone e he hb
  rw[hhere e.on d hl (hDe e.on d hd)]
  exact⟨fun e'=>hJ.adr _ e' hl,fun e'=>hJ.vals _ hl e'⟩
 have hM:∀ k,(i,k)∈M->L k=true:=fun k hk=>by
  have:=List.all_eq_true.1 hmo _ hk
  simp only[hio] at this
  obtain⟨e,he,hb⟩:=List.any_eq_true.1 this
  simp only[Bool.and_eq_true,Bool.or_eq_true,beq_iff_eq] at hb
  have hl:=hdone e he hb.1
  rcases hb.2 with h1|h1
  ·rw[← h1];exact hl
  ·exact hJ.clos _ _ (by simpa using h1) hl
 have hcl:∀ j k,(j,k)∈M->Ro L i j=true->Ro L i k=true:=fun j k hm hj=>by
  have hk:L k=true:=by
   by_cases e:j=i
   ·subst e;exact hM k hm
   ·rw[Ms e] at hj;exact hJ.clos j k hm hj
  unfold Ro;split <;> first|rfl|exact hk
 have hcs':(sr,c)∈M:=by simpa using hcs
 have hc1':(c,c1)∈M:=by simpa using hc1
 have hs1':(sr,c1)∈M:=by simpa using hs1
 have hca':∀ a,al=some a->(sr,a)∈M:=fun a e=>by simpa using hca a e
 have srHas:L sr=true->Pq al L=true:=fun e=>by
  unfold Pq
  cases al with
  | none=>rfl
  | some a=>exact hJ.clos _ _ (hca' a rfl) e
 obtain⟨hg,hS⟩:=h
 obtain⟨q1,q2,q5,q3,q4⟩:=hS (g1,g) p (fun t=>a.tmps.getD t undef) w hJ.kept (fun t hb ht=>by rw[← ha.at' t hb];exact hout t ht) hdeps
 rw[← R6 a] at q1 q2 q3 q4 q5
 unfold Qs
 rw[hg]
 refine⟨fun _=>?_,fun e=>by cases e⟩
 by_cases ea:al=some i
 ·-- the block is made
  refine(q3 ea).mono' fun x w' ⟨q,hx,hq,hz,hk⟩=>⟨g1,g,q,?_⟩
  have nS:L sr=false:=by
   cases e:L sr with
   | false=>rfl
   | true=>have:=hJ.clos _ _ (hca' i ea) e;rw[hi] at this;cases this
  have isr:sr≠i:=fun e=>hns (by rw[e];exact ea)
  have ic:c≠i:=fun e=>hna (by rw[e];exact ea)
  have ic1:c1≠i:=fun e=>hn1 (by rw[e];exact ea)
  refine⟨hJ.kept.trans hk (fun _ _ z=>z.elim),fun j hj hn=>?_,fun a' e' hl=>?_,fun _=>hnew i ea q (Nat.le_trans hJ.kept.size hq),fun _ _=>hz,fun e=>?_,fun e=>?_,fun e=>?_,fun e _=>?_,fun e=>?_,fun e _=>?_,hcl⟩
  ·have hji:j≠i:=fun e=>hn (by rw[e];exact ea)
   rw[Ms hji] at hj;rw[PF hji];exact hJ.vals j hj hn
  ·rw[ea] at e';cases e';rw[QA];exact hx
  ·rw[Ms isr,nS] at e;cases e
  ·rw[Ms ic] at e;exact hok.preS w w' Mb (hJ.pre e) hk KO.none
  ·rw[Ms ic] at e;exact⟨hok.postS g w w' Mb (hJ.post e).1 hk KO.none,(hJ.post e).2⟩
  ·rw[Ms ic] at e
   intro ht
   have:=hok.postL g w (hJ.post e).1 q ht
   omega
  ·rw[Ms ic1] at e;exact⟨hp1.s g1 w w' Mb (hJ.post1 e).1 hk KO.none,(hJ.post1 e).2⟩
  ·rw[Ms ic1] at e
   intro ht
   have:=hp1.l g1 w (hJ.post1 e).1 q ht
   omega
 ·have hH:Pq al (Ro L i)=Pq al L:=aAh ea
  have adr':∀ x a',al=some a'->Ro L i a'=true->VE v i x a'=ptX p:=fun x a' e' hl=>by
   have:a'≠i:=fun e=>ea (by rw[e',e])
   rw[Ms this] at hl;rw[PF this];exact hJ.adr a' e' hl
  by_cases ec:i=c
  ·-- the call
   subst ec
   have nS:L sr=false:=by
    cases e:L sr with
    | false=>rfl
    | true=>have:=hJ.clos _ _ hcs' e;rw[hi] at this;cases this
   have isr:sr≠i:=fun e=>hsc e.symm
   have hpre:=hJ.pre hi
   have hL1:L c1=true:=hM c1 hc1'
   have hpo1:=hJ.post1 hL1
   have ap1:KO (T1 g1) C.Tp:=fun b hb hT=>(hpo1.2 b hb).elim (fun z=>z) (fun z=>absurd (hok.preL w0 hok.pre b hT) (by omega))
   have ic1:c1≠i:=fun e=>hcc e.symm
   refine(q2 rfl hpre hpo1.1).mono' fun x w' ⟨g',hx,hk,hpo,hgr⟩=>⟨g1,g',p,?_⟩
   refine⟨hJ.kept.trans hk (fun b _ z=>hok.inS b z),fun j hj hn=>?_,adr' x,fun e=>?_,fun e _=>?_,fun e=>?_,fun e=>?_,fun _=>⟨hpo,fun b hb=>?_⟩,fun _ e=>?_,fun _=>⟨hp1.s g1 w w' _ hpo1.1 hk ap1,hpo1.2⟩,fun _ e=>?_,hcl⟩
   ·by_cases hji:j=i
    ·subst hji;rw[QA];exact hx
    ·rw[Ms hji] at hj;rw[PF hji,hJ.vals j hj hn]
     refine hC.at j ?_ (by omega) g1 g g'
     rw[Nat.zero_add]
     cases e:M.contains (j,i) with
     | false=>rfl
     | true=>have:=hJ.clos j i (by simpa using e) hj;rw[hi] at this;cases this
   ·rw[hH] at e;exact hJ.blk e
   ·rw[hH] at e;exact hok.zS p w w' _ (hJ.zero e nS) hk (hok.okT p (hJ.blk e))
   ·rw[Ms isr,nS] at e;cases e
   ·rw[VU] at e;cases e
   ·rcases hgr b hb with z|z
    ·exact .inl z
    ·exact .inr (Nat.le_trans hJ.kept.size z)
   ·rw[hH] at e
    intro ht
    have hlt:=hok.zL p w (hJ.zero e nS)
    rcases hgr p ht with z|z
    ·exact hok.okT p (hJ.blk e) z
    ·omega
   ·rw[hH] at e;exact hJ.far1 hL1 e
  ·by_cases es:i=sr
   ·-- the store
    subst es
    have hLc:L c=true:=hM c hcs'
    have hHa:Pq al L=true:=by
     unfold Pq
     cases al with
     | none=>rfl
     | some a=>exact hM a (hca' a rfl)
    have hokp:=hJ.blk hHa
    have hnT:=hJ.far hLc hHa
    have hL1:L c1=true:=hM c1 hs1'
    have hpo1:=hJ.post1 hL1
    have hn1:=hJ.far1 hL1 hHa
    refine(q4 rfl hokp (hJ.zero hHa hi) (hJ.post hLc).1).mono' fun x w' ⟨hx,hk,hy⟩=>⟨g1,g,p,?_⟩
    have ic:c≠i:=fun e=>ec e.symm
    refine⟨hJ.kept.trans hk (fun b hb z=>?_),fun j hj hn=>?_,adr' x,fun _=>hokp,fun _ e=>?_,fun _=>hy,fun e=>?_,fun _=>⟨hok.postS g w w' _ (hJ.post hLc).1 hk (fun b hb z=>hnT (by cases z;exact hb)),(hJ.post hLc).2⟩,fun _ _=>hnT,fun _=>⟨hp1.s g1 w w' _ hpo1.1 hk (fun b hb z=>hn1 (by cases z;exact hb)),hpo1.2⟩,fun _ _=>hn1,hcl⟩
    ·cases z
     rcases hok.okS _ hokp with z|z
     ·exact z
     ·omega
    ·by_cases hji:j=i
     ·subst hji;rw[QA];exact hx
     ·rw[Ms hji] at hj;rw[PF hji];exact hJ.vals j hj hn
    ·rw[VU] at e;cases e
    ·rw[Ms ic,hLc] at e;cases e
   ·by_cases e1:i=c1
    ·-- the call ahead
     subst e1
     have nC:L c=false:=by
      cases e:L c with
      | false=>rfl
      | true=>have:=hJ.clos _ _ hc1' e;rw[hi] at this;cases this
     have nS:L sr=false:=by
      cases e:L sr with
      | false=>rfl
      | true=>have:=hJ.clos _ _ hs1' e;rw[hi] at this;cases this
     have ic:c≠i:=hcc
     have isr:sr≠i:=fun e=>hsc1 e.symm
     refine(q5 rfl).mono' fun x w' ⟨g',hx,hk,hpo,hgr⟩=>⟨g',g,p,?_⟩
     refine⟨hJ.kept.trans hk (fun _ _ z=>z.elim),fun j hj hn=>?_,adr' x,fun e=>?_,fun e _=>?_,fun e=>?_,fun e=>?_,fun e=>?_,fun e _=>?_,fun _=>⟨hpo,fun b hb=>?_⟩,fun _ e=>?_,hcl⟩
     ·by_cases hji:j=i
      ·subst hji;rw[QA];exact hx
      ·rw[Ms hji] at hj;rw[PF hji,hJ.vals j hj hn]
       refine hC1.at j ?_ (by omega) g1 g' g
       rw[Nat.zero_add]
       cases e:M.contains (j,i) with
       | false=>rfl
       | true=>have:=hJ.clos j i (by simpa using e) hj;rw[hi] at this;cases this
     ·rw[hH] at e;exact hJ.blk e
     ·rw[hH] at e;exact hok.zS p w w' _ (hJ.zero e nS) hk (fun z=>z)
     ·rw[Ms isr,nS] at e;cases e
     ·exact hok.preS w w' _ (hJ.pre nC) hk KO.none
     ·rw[Ms ic,nC] at e;cases e
     ·rw[Ms ic,nC] at e;cases e
     ·rcases hgr b hb with z|z
      ·exact .inl z
      ·exact .inr (Nat.le_trans hJ.kept.size z)
     ·rw[hH] at e
      intro ht
      have hlt:=hok.zL p w (hJ.zero e nS)
      rcases hgr p ht with z|z
      ·exact z
      ·omega
    ·-- all others
     refine(q1 e1 ec es ea).mono' fun x w' ⟨hx,hk⟩=>⟨g1,g,p,?_⟩
     have ic:c≠i:=fun e=>ec e.symm
     have ic1:c1≠i:=fun e=>e1 e.symm
     have isr:sr≠i:=fun e=>es e.symm
     refine⟨hJ.kept.trans hk (fun _ _ z=>z.elim),fun j hj hn=>?_,adr' x,fun e=>?_,fun e1 e2=>?_,fun e=>?_,fun e=>?_,fun e=>?_,fun e1 e2=>?_,fun e=>?_,fun e1 e2=>?_,hcl⟩
     ·by_cases hji:j=i
      ·subst hji;rw[QA];exact hx
      ·rw[Ms hji] at hj;rw[PF hji];exact hJ.vals j hj hn
     ·rw[hH] at e;exact hJ.blk e
     ·rw[hH] at e1;rw[Ms isr] at e2;exact hok.zS p w w' _ (hJ.zero e1 e2) hk (fun z=>z)
     ·rw[Ms isr] at e;exact hok.yS g p w w' _ (hJ.full e) hk (fun z=>z)
     ·rw[Ms ic] at e;exact hok.preS w w' _ (hJ.pre e) hk KO.none
     ·rw[Ms ic] at e;exact⟨hok.postS g w w' _ (hJ.post e).1 hk KO.none,(hJ.post e).2⟩
     ·rw[Ms ic] at e1;rw[hH] at e2;exact hJ.far e1 e2
     ·rw[Ms ic1] at e;exact⟨hp1.s g1 w w' _ (hJ.post1 e).1 hk KO.none,(hJ.post1 e).2⟩
     ·rw[Ms ic1] at e1;rw[hH] at e2;exact hJ.far1 e1 e2
theorem Sq.steps{all:List Oper}{w0:World}{a0:Act}(hmo:Sb all M=true)(hcs:M.contains (sr,c)=true)(hc1:M.contains (c,c1)=true)(hs1:M.contains (sr,c1)=true)(hca:∀ a,al=some a->M.contains (sr,a)=true)(hna:al≠some c)(hn1:al≠some c1)(hns:al≠some sr)(hsc:c≠sr)(hsc1:c1≠sr)(hcc:c≠c1)(hC1:UZ M c1 0 vs)(hC:Vj M c 0 vs)(hp1:aFv P1 T1)(hok:XT C S okp w0)(hnew:∀ a,al=some a->∀ p,w0.heap.size<=p->okp p)(ha:Fr N F a0):∀ {os:List Oper} {i:Nat},(∀ k o,os[k]? = some o->all[i+k]? = some o)->Sq C P1 T1 S okp vs c1 c sr al N P D F w0 i os->QU all P D (fun L v w=>∃ g1 g p,JY C P1 T1 S okp vs c1 c sr al M w0 L v w g1 g p) a0 i os:=by
 intro os
 induction os with
 | nil=>intro i _ _;exact trivial
 | cons o r ih =>
  intro i hat h
  exact⟨h.1.step hmo hcs hc1 hs1 hca hna hn1 hns hsc hsc1 hcc hC1 hC hp1 hok hnew (hat 0 o rfl) ha,ih (fun k o' hk=>by have:=hat (k+1) o' hk;rwa [show i+(k+1)=i+1+k by omega] at this) h.2⟩
def azT(M:List (Nat×Nat))(n c1 c sr:Nat)(al:Option Nat):Bool:=M.contains (sr,c) && M.contains (c,c1) && M.contains (sr,c1) && Nat.blt c1 n && Nat.blt c n && Nat.blt sr n && !(c==sr) && !(c1==sr) && !(c==c1) && match al with
 | some a=>M.contains (sr,a) && Nat.blt a n && !(a==c) && !(a==sr) && !(a==c1)
 | none=>true
theorem azI{lo:Option Nat}{id:Nat}{ops:Array Oper}(M:List (Nat×Nat))(D:List (Option Tmp))(C:Cas γ2)(P1:γ1->World->Prop)(T1:γ1->Nat->Prop)(S okp:Nat->Prop)(vs:List (γ1×γ2->Value))(c1 c sr:Nat)(al:Option Nat)(g10:γ1)(g0:γ2)(p0:Nat)(hm:P.follows .mixedOrders=true)(hpl:plain N 0 D ops.toList=true)(hmo:Sb ops.toList M=true)(hb:azT M ops.size c1 c sr al=true)(hC1:UZ M c1 0 vs)(hC:Vj M c 0 vs)(hp1:aFv P1 T1)(hok:XT C S okp w)(hnew:∀ a,al=some a->∀ p,w.heap.size<=p->okp p)(h0:al=none->okp p0/\C.Z p0 w)(hsteps:Sq C P1 T1 S okp vs c1 c sr al N P D F w 0 ops.toList)
  (hend:∀ (g1:γ1) (g:γ2) (p:Nat) (v:Nat->Value) (F':Nat->Value) (w':World),KR S w w'->okp p->C.Post g w'->KS w C.Tp (C.Tq g)->C.Y g p w'->¬ C.Tq g p->(∀ a,al=some a->v a=ptX p)->(∀ i,i<ops.size->al≠some i->v i=Qr vs i (g1,g))->(∀ t,F' t=Q9 v 0 D F t)->Q .normal F' w'):wq lo P N (.region id ops true) Q F w:=by
 unfold azT at hb
 simp only[Bool.and_eq_true,Bool.not_eq_true',Nat.blt_eq,beq_eq_false_iff_ne,ne_eq] at hb
 obtain⟨⟨⟨⟨⟨⟨⟨⟨⟨b1,d1⟩,d2⟩,b0⟩,b2⟩,b3⟩,b4⟩,d3⟩,d4⟩,b5⟩:=hb
 have b6:∀ a,al=some a->M.contains (sr,a)=true/\a<ops.size/\a≠c/\a≠sr/\a≠c1:=by
  intro a e
  subst e
  simp only[Bool.and_eq_true,Bool.not_eq_true',Nat.blt_eq,beq_eq_false_iff_ne,ne_eq] at b5
  exact⟨b5.1.1.1.1,b5.1.1.1.2,b5.1.1.2,b5.1.2,b5.2⟩
 intro a ha
 refine Su D (fun L v w'=>∃ g1 g p,JY C P1 T1 S okp vs c1 c sr al M w L v w' g1 g p) hm (by rw[ha.size];exact hpl)
  ⟨g10,g0,p0,(KR.refl _ w).drew,fun _ e=>(by cases e),fun _ _ e=>(by cases e),fun e=>?_,fun e _=>?_,fun e=>(by cases e),fun _=>hok.preS w _ (fun _=>False) hok.pre (KR.refl _ w).drew (fun _ _ z=>z),fun e=>(by cases e),fun e=>(by cases e),fun e=>(by cases e),fun e=>(by cases e),fun _ _ _ e=>(by cases e)⟩
  (hsteps.steps hmo b1 d1 d2 (fun a e=>(b6 a e).1) (fun e=>(b6 _ e).2.2.1 rfl) (fun e=>(b6 _ e).2.2.2.2 rfl) (fun e=>(b6 _ e).2.2.2.1 rfl) b4 d3 d4 hC1 hC hp1 hok hnew ha (fun k o hk=>by rw[Nat.zero_add];exact hk)) fun L v w' ⟨g1,g,p,hJ⟩ hL=>?_
 ·cases al with
  | some a=>unfold Pq at e;cases e
  | none=>exact(h0 rfl).1
 ·cases al with
  | some a=>unfold Pq at e;cases e
  | none=>exact hok.zS p0 w _ (fun _=>False) (h0 rfl).2 (KR.refl _ w).drew (fun z=>z)
 have hH:Pq al L=true:=by
  unfold Pq
  cases al with
  | none=>rfl
  | some a=>exact hL a (b6 a rfl).2.1
 exact⟨Q9 v 0 D F,Py v D 0 F a ha (OS hpl),hend g1 g p v _ w' hJ.kept (hJ.blk hH) (hJ.post (hL c b2)).1 (hJ.post (hL c b2)).2 (hJ.full (hL sr b3)) (hJ.far (hL c b2) hH) (fun a e=>hJ.adr a e (hL a (b6 a e).2.1)) (fun i hi hn=>hJ.vals i (hL i hi) hn) (fun _=>rfl)⟩
end
open Go.RowKit
abbrev NE:List Bool:=LT 4 ++ [true,true,true]
abbrev ND:List Bool:=LT 6 ++ [true,true,true,true,true]
theorem ayK:NE.length=8:=by decide +kernel
theorem azh:ND.length=10:=by decide +kernel
theorem wb4:(LT 4).length<=10:=by decide +kernel
theorem wb6:(LT 6).length<=10:=by decide +kernel
theorem aGj(a:List Bool):Mg a++ByteArray.mk #[49,49,49]=Mg (a ++ [true,true,true]):=by
 rw[show ByteArray.mk #[49,49,49]=Mg [true,true,true] from rfl];exact Nr _ _
theorem aGs(a:List Bool):Mg a++ByteArray.mk #[49,49,49,49,49]=Mg (a ++ [true,true,true,true,true]):=by
 rw[show ByteArray.mk #[49,49,49,49,49]=Mg [true,true,true,true,true] from rfl];exact Nr _ _
theorem Ze(a c:List Bool)(i:Nat):(LG (a++c) i++a)++c=LG (a++c) (i+1):=List.append_assoc _ _ _
theorem aEc(w h:Nat)(b:List Nat):NQ (LP w h b).W/\NQ (LP w h b).H:=by
 have e1:(LP w h b).W=((sd w:Nat):Int):=rfl
 have e2:(LP w h b).H=((sd h:Nat):Int):=rfl
 rw[e1,e2]
 unfold sd NQ;omega
theorem azP{w h N:Nat}{b:List Nat}(hw:w<2)(hh:h<2)(hN:N=MY (LP w h b).W (LP w h b).H 3):N=sd w*sd h/16+2*(sd w*sd h/64)/\N<=24/\sd w*sd h<=256:=by
 have e1:(LP w h b).W=((sd w:Nat):Int):=rfl
 have e2:(LP w h b).H=((sd h:Nat):Int):=rfl
 rw[hN,e1,e2]
 rcases (show w=0\/w=1 by omega) with rfl|rfl <;> rcases (show h=0\/h=1 by omega) with rfl|rfl <;> decide +kernel
theorem XO{w h N q:Nat}{b:List Nat}{k m:Int}{g:FD}(hw:w<2)(hh:h<2)(hq:q<21)(hN:N=MY (LP w h b).W (LP w h b).H 3)(B:List Bool)(hB:Nz (Nh m) 0 0 0 0=B)(hl:B.length<=10)
  (hkm:(k=1/\m=4)\/(k=2/\m=6/\g=LP w h b)) :
  N5 (Mi (LG B N++Ln (LG B N).length)) (LP w h b).W (LP w h b).H 1 1 k ((q:Nat):Int) 0 0 (LP w h b) g=0 ∧
  Q6 (MF (Mi (LG B N++Ln (LG B N).length)) (LP w h b).W (LP w h b).H 1 1 k ((q:Nat):Int) 0 0 (LP w h b) g) (LP w h b)=true:=by
 have hF:=aFj w h b
 have hBy:=aAJ w h b
 have hsd:=aEc w h b
 have hn:=(azP hw hh hN).2.1
 have hm:RU (LP w h b).W (LP w h b).H 1 1 k ((q:Nat):Int) 0 0:=⟨⟨hsd.1,hsd.2,by decide,by decide,by decide,by decide⟩,by unfold OM;omega⟩
 have hfit:Nl (LP w h b).W (LP w h b).H 1 1 (LP w h b):=⟨hm.1,hF,rfl,rfl⟩
 have hno:¬ ((k≠0/\¬ Nl (LP w h b).W (LP w h b).H 1 1 (LP w h b))\/(k=2/\¬ Nl (LP w h b).W (LP w h b).H 1 1 g)):=by
  rintro (⟨_,z⟩ | ⟨z,z2⟩)
  ·exact z hfit
  ·rcases hkm with ⟨e,_⟩ | ⟨_,_,e⟩
   ·omega
   ·rw[e] at z2;exact z2 hfit
 have hk:chE k (Nh m)=0:=by
  rcases hkm with ⟨rfl,rfl⟩ | ⟨rfl,rfl,_⟩
  ·exact aBd
  ·exact aA7
 subst hB
 have hs:(LG (Nz (Nh m) 0 0 0 0) N).length<=240:=by
  rw[Re]
  exact Nat.le_trans (Nat.mul_le_mul hl hn) (by decide)
 rw[hN] at hs ⊢
 have hc:=ayS (k:=k) (m:=m) (W:=(LP w h b).W) (H:=(LP w h b).H) hk _ rfl (by omega)
 have hE:N5 (Mi (LG (Nz (Nh m) 0 0 0 0) (MY (LP w h b).W (LP w h b).H 3)++Ln (LG (Nz (Nh m) 0 0 0 0) (MY (LP w h b).W (LP w h b).H 3)).length)) (LP w h b).W (LP w h b).H 1 1 k ((q:Nat):Int) 0 0 (LP w h b) g=0:=(ZW hm hno).trans hc.1
 refine⟨hE,?_⟩
 rw[Z9 hE]
 rcases hkm with ⟨rfl,rfl⟩ | ⟨rfl,rfl,rfl⟩
 ·rw[aAB hF hBy hq hc.2.2];exact Zm _
 ·rw[aAI hF hBy hq hc.2.2];exact Zm _
theorem Yk(w h q:Nat)(v:Value)(l:List Nat)(T_b:Nat->Prop)(w0:World)(hA:Og w0)(hO:OX w0)(hs:Ox w0)(hwv:QZ w0)(_hw:w<256)(_hh:h<256)(hq:q<256)(h_b:Mv w0 T_b v (l)) :
  Calls Tryz.prog 6 #[.int .u8 (((w:Nat):Int)),.int .u8 (((h:Nat):Int)),v,.int .u8 (((q:Nat):Int))] w0 fun e w'=>e = .returned (.bool true)/\KR (fun _=>False) w0 w':=by
 refine Ly (args:=[.int .u8 ((w:Nat):Int),.int .u8 ((h:Nat):Int),v,.int .u8 ((q:Nat):Int)]) 118 Tryz.func6 rfl rfl (Nat.le_of_ble_eq_true rfl) ?_
 have K0:=KR.refl (fun _=>False) w0
 obtain⟨N,hN⟩:∃ N,N=MY (LP (w%2) (h%2) l).W (LP (w%2) (h%2) l).H 3:=⟨_,rfl⟩
 have hw2:w%2<2:=Nat.mod_lt _ (by decide)
 have hh2:h%2<2:=Nat.mod_lt _ (by decide)
 have hq2:q%21<21:=Nat.mod_lt _ (by decide)
 have hNN:=azP hw2 hh2 hN
 obtain⟨A,hAA⟩:∃ A,A=sd (w%2)*sd (h%2):=⟨_,rfl⟩
 rw[← hAA] at hNN
 have hWH:(LP (w%2) (h%2) l).W*(LP (w%2) (h%2) l).H=((A:Nat):Int):=by rw[hAA,Int.natCast_mul];rfl
 have h4:=Lib.hid (XO (k:=1) (m:=4) (g:=FD.none) hw2 hh2 hq2 hN NE Z3 (by rw[ayK];decide) (Or.inl rr))
 have h6:=Lib.hid (XO (k:=2) (m:=6) (g:=LP (w%2) (h%2) l) hw2 hh2 hq2 hN ND ZU (by rw[azh];decide) (Or.inr ⟨rfl,rfl,rfl⟩))
 have hl4:(LG NE N).length<=240:=by rw[Re,ayK];omega
 have hl6:(LG ND N).length<=240:=by rw[Re,azh];omega
 have g_b:=KS.refl w0 T_b
 refine KM (KL (Lb (.bool false) LE (KQ ?_)))
 have s3:=K4 (.int .u8 ((w:Nat):Int))
 have s4:=K4 (.int .u8 ((h:Nat):Int))
 have s5:=K4 (v)
 have s6:=K4 (.int .u8 ((q:Nat):Int))
 have s7:=K4 (undef)
 refine KK (KM (KL (L9 rfl rfl rfl rfl rfl (fun _ _=>by kernel_rfl) L5 (ZL   _ (hA.all K0) (hO.all K0) (hs.all K0) (hwv.all K0)  ) fun w8 k9=>?_)))
 have aR:=h_b.all k9 KO.none
 have bv:=K0.tr k9
 refine Lb (.bool true) LE (KQ ?_)
 have bz:=K4 (.bool true)
 refine KK (KM (KM (KL (K2 Lw s5 (KN (iv ((l.length:Nat):Int)) rr (Qv rfl rfl rfl aR rr) (KN (.bool (decide (300<((l.length:Nat):Int)))) rr (RN rfl rfl rfl rfl rr) (KQ ?_)))))))
 have cK:=K4 (.bool (decide (300<((l.length:Nat):Int))))
 refine KK ?_
 refine K5 cK (fun aq=>?_) (fun aq=>?_)
 ·replace aq:=of_decide_eq_true aq
  refine KM (KL (K2 Lw bz (Lb (.bool true) LE (KQ ?_))))
  have cL:=K4 (.bool true)
  refine KK (Le (Lx ?_))
  exact LC (v:=.bool true) s7 rfl rfl cL ⟨rfl,bv⟩
 ·replace aq:=of_decide_eq_false aq
  refine Lf (KK (KM (KL (K2 Lw s3 (KN (.int .u8 (((w%2):Nat):Int)) rr (Rh rfl rfl rfl (by first|decide|omega) (Pn w 2) rr) (K2 Lw s4 (KN (.int .u8 (((h%2):Nat):Int)) rr (Rh rfl rfl rfl (by first|decide|omega) (Pn h 2) rr) (K2 Lw s5 (LH (R:=fun v_ w_=>∃ (aa:Value) (af:Nat->Prop) (ab:Value) (ah:Nat->Prop) (ac:Value) (ai:Nat->Prop),.agg #[iv ((LP (w%2) (h%2) l).W),iv ((LP (w%2) (h%2) l).H),aa,ab,ac]=v_/\KR (fun _=>False) w8 w_/\(Md w_ af aa ((LP (w%2) (h%2) l).p0)/\KS w8 Mb af)/\(Md w_ ah ab ((LP (w%2) (h%2) l).p1)/\KS w8 Mb ah)/\(Md w_ ai ac ((LP (w%2) (h%2) l).p2)/\KS w8 Mb ai)/\KO af ah/\KO af ai/\KO ah ai) rfl rfl (LQ rfl rfl rfl (fun _ _=>by kernel_rfl) (K6 _) (Lo rfl (Lo rfl (Lo rfl L5))) (azi (w%2) (h%2) v l T_b _ (by omega) (by omega) aR ) (fun e_ w_ h_=>by obtain⟨v34_,T39_,v35_,T40_,v36_,T41_,he_,hr_⟩:=h_;exact⟨_,he_,v34_,T39_,v35_,T40_,v36_,T41_,rfl,hr_⟩)) ?_)))))))))
  rintro _ fd ⟨aa,af,ab,ah,ac,ai,rfl,bA,⟨bB,fe⟩,⟨bC,ff⟩,⟨bD,fg⟩,fh,fi,fj⟩
  have bE:=aR.all bA KO.none
  have bF:=bv.tr bA
  refine LN (n:=5) (vs:=[iv 0,iv 0,.slice none 0 0,.slice none 0 0,.slice none 0 0]) rfl rfl rfl (by kernel_rfl) fun aj fk cM bG bH=>?_
  obtain⟨cN,cO,cP,cQ⟩:=WI bG bE bB bC bD
  obtain⟨cR,bI,bJ,bK⟩:=Pg bH bE bB bC bD
  refine Ll (us:=[iv ((LP (w%2) (h%2) l).W),iv ((LP (w%2) (h%2) l).H),aa,ab,ac]) La rfl rfl rfl rfl rfl cM rfl (Qc rr (L4 bI.one (L4 bJ.one (L4 bK.one MX)))) fun fm aH ar=>?_
  have bL:=cR.all ar cN.symm
  have bM:=bI.all ar cO.symm
  have bN:=bJ.all ar cP.symm
  have bO:=bK.all ar cQ.symm
  have bP:=(bF.tr bH).trans ar (KS.ok (S:=fun _=>False) (KS.new bF bG) KZ)
  refine KQ ?_
  have am:=K4 (pt aj 0)
  refine KK (KM (KL (KN (pt aj 0) rr (KU (n:=1) rfl am Tryz.underlying29 rfl (by kernel_rfl) (by decide) rfl rr) (KN (iv ((LP (w%2) (h%2) l).W)) rr (KY rfl rfl Tryz.underlying3 aH rfl rfl rr) (KN (pt aj 1) rr (KU (n:=1) rfl am Tryz.underlying29 rfl (by kernel_rfl) (by decide) rfl rr) (KN (iv ((LP (w%2) (h%2) l).H)) rr (KY rfl rfl Tryz.underlying3 aH rfl rfl rr) (KN (.agg #[iv ((LP (w%2) (h%2) l).W),iv ((LP (w%2) (h%2) l).H),iv 1,iv 1]) rr (Ma (l':=[(0,iv ((LP (w%2) (h%2) l).W)),(1,iv ((LP (w%2) (h%2) l).H)),(2,iv 1),(3,iv 1)]) (cells:=#[iv ((LP (w%2) (h%2) l).W),iv ((LP (w%2) (h%2) l).H),iv 1,iv 1]) rfl (RW rfl (RW rfl (RW rfl (RW rfl Rj)))) (by kernel_rfl) rfl rr) (LN (n:=4) (vs:=[iv 0,iv 0,iv 0,iv 0]) rfl rfl rfl (by kernel_rfl) fun aS fo cS aI bQ=>?_))))))))
  obtain⟨cT,cU,cV,cW,cX⟩:=azg aI bL bM bN bO aH
  obtain⟨cY,cZ,c5,c6,c7⟩:=O6 bQ bL bM bN bO aH
  refine Ll (us:=[iv ((LP (w%2) (h%2) l).W),iv ((LP (w%2) (h%2) l).H),iv 1,iv 1]) MR rfl rfl rfl rfl rfl cS rfl (aEt Lw (L4 rfl MX)) fun fp c9 an=>?_
  have da:=cY.all an cT.symm
  have db:=cZ.all an cU.symm
  have dc:=c5.all an cV.symm
  have dd:=c6.all an cW.symm
  have au:=c7.all an (cX.symm aj rfl)
  refine KQ ?_
  have de:=K4 (pt aS 0)
  refine KK (KM (KL (KN (pt aj 0) rr (KU (n:=1) rfl am Tryz.underlying29 rfl (by kernel_rfl) (by decide) rfl rr) (KN (iv ((LP (w%2) (h%2) l).W)) rr (KY rfl rfl Tryz.underlying3 au rfl rfl rr) (KN (pt aj 1) rr (KU (n:=1) rfl am Tryz.underlying29 rfl (by kernel_rfl) (by decide) rfl rr) (KN (iv ((LP (w%2) (h%2) l).H)) rr (KY rfl rfl Tryz.underlying3 au rfl rfl rr) (KN (iv ((A:Nat):Int)) rr (Nb rfl rfl rfl (LX hWH (by omega)) rr) (KN (iv (((A/16):Nat):Int)) rr (O8 rfl rfl rfl (by first|decide|omega) (LX (Pl A 16) (by omega)) rr) (KN (pt aj 0) rr (KU (n:=1) rfl am Tryz.underlying29 rfl (by kernel_rfl) (by decide) rfl rr) (KN (iv ((LP (w%2) (h%2) l).W)) rr (KY rfl rfl Tryz.underlying3 au rfl rfl rr) (KN (pt aj 1) rr (KU (n:=1) rfl am Tryz.underlying29 rfl (by kernel_rfl) (by decide) rfl rr) ?_)))))))))))
  refine KN (iv ((LP (w%2) (h%2) l).H)) rr (KY rfl rfl Tryz.underlying3 au rfl rfl rr) (KN (iv ((A:Nat):Int)) rr (Nb rfl rfl rfl (LX hWH (by omega)) rr) (KN (iv (((A/64):Nat):Int)) rr (O8 rfl rfl rfl (by first|decide|omega) (LX (Pl A 64) (by omega)) rr) (KN (iv (((2*(A/64)):Nat):Int)) rr (Nb rfl rfl rfl (LX (by omega) (by omega)) rr) (KN (iv ((N:Nat):Int)) rr (LS rfl rfl rfl (LX (by omega) (by omega)) rr) (Lb (iv ((N:Nat):Int)) LE (KQ ?_))))))
  have df:=K4 (iv ((N:Nat):Int))
  refine KK (KM (KL (Lb (.string (Mg ([]))) LE (KQ ?_))))
  have dg:=K4 (.string (Mg ([])))
  refine KK (KM (KL (Lb (.string (Mg ([]))) LE (KQ ?_))))
  have dh:=K4 (.string (Mg ([])))
  refine KK (KM (KM (KL (Lb (iv 0) LE (KQ ?_)))))
  have di:=K4 (iv 0)
  refine KK (Lm (M8 (fun nn FF ww=>∃ (i:Nat),(i<=N)/\nn=N-i/\FF 3 = .int .u8 ((q:Nat):Int)/\FF 9 = .bool true/\FF 10=pt aj 0/\FF 11=pt aS 0/\FF 12=iv ((N:Nat):Int)/\FF 118=undef/\FF 13 = .string (Mg (LG NE i))/\FF 14 = .string (Mg (LG ND i))/\FF 15=iv ((i:Nat):Int)/\KR (fun _=>False) w0 ww/\Mv ww T_b v l/\Md ww af aa ((LP (w%2) (h%2) l).p0)/\Md ww ah ab ((LP (w%2) (h%2) l).p1)/\Md ww ai ac ((LP (w%2) (h%2) l).p2)/\MJ ww aj 29 [iv ((LP (w%2) (h%2) l).W),iv ((LP (w%2) (h%2) l).H),aa,ab,ac]/\MJ ww aS 23 [iv ((LP (w%2) (h%2) l).W),iv ((LP (w%2) (h%2) l).H),iv 1,iv 1]) (N-0) ⟨0,by omega,rfl,s6,bz,am,de,df,s7,dg,dh,di,((bP.tr bQ).trans an (KS.ok (S:=fun _=>False) (KS.new bP aI) KZ)),da,db,dc,dd,au,c9⟩ ?_))
  rintro fq ft ak ⟨i,i163,hn162,aT,bR,aU,aV,bS,bT,aW,bU,bV,ao,dj,aX,aY,aZ,a8,a9⟩
  refine KM (KM (KL (K2 Lw bV (K2 Lw bS (KN (.bool (decide (((i:Nat):Int)<((N:Nat):Int)))) rr (Mc rfl rfl rfl rfl rr) (KQ ?_))))))
  have dk:=K4 (.bool (decide (((i:Nat):Int)<((N:Nat):Int))))
  refine KK ?_
  refine K5 dk (fun av=>?_) (fun av=>?_)
  ·replace av:=of_decide_eq_true av
   refine Lf (KK (KM (Lm (KM ?_))))
   have hri4:(LG NE i).length<=240:=by rw[Re,ayK];omega
   have hri6:(LG ND i).length<=240:=by rw[Re,azh];omega
   have hw4:=wb4
   have hw6:=wb6
   have hc4:(LG NE i++LT 4).length<=250:=by rw[List.length_append];omega
   have hc6:(LG ND i++LT 6).length<=250:=by rw[List.length_append];omega
   have hz3:(ByteArray.mk #[49,49,49]).size=3:=rfl
   have hz5:(ByteArray.mk #[49,49,49,49,49]).size=5:=rfl
   refine KL (K2 Lw aW (L9 rfl rfl rfl rfl rfl (fun _ _=>by kernel_rfl) (Lo rfl L5) (Wd 4  _   ) fun fu bW=>?_))
   obtain⟨dl,dm,dn,dp,dq,dr⟩:=Qh bW dj aX aY aZ a8 a9
   refine KN (.string (Mg ((LG NE i)++(LT 4)))) rr (SG rfl rfl rfl (by simp[Ng];omega) (Nr _ _) rr) (KN (.string (Mg ((LG NE i++LT 4) ++ [true,true,true]))) rr (SG rfl rfl rfl (by simp only[Ng];omega) (aGj _) rr) (Lb (.string (Mg ((LG NE i++LT 4) ++ [true,true,true]))) LE (KQ ?_)))
   have dt:=K4 (.string (Mg ((LG NE i++LT 4) ++ [true,true,true])))
   refine KK (KL (K2 Lw bU (L9 rfl rfl rfl rfl rfl (fun _ _=>by kernel_rfl) (Lo rfl L5) (Wd 6  _   ) fun fw bX=>?_)))
   obtain⟨du,dv,dw,dy,dz,dA⟩:=Qh bX dl dm dn dp dq dr
   refine KN (.string (Mg ((LG ND i)++(LT 6)))) rr (SG rfl rfl rfl (by simp[Ng];omega) (Nr _ _) rr) (KN (.string (Mg ((LG ND i++LT 6) ++ [true,true,true,true,true]))) rr (SG rfl rfl rfl (by simp only[Ng];omega) (aGs _) rr) (Lb (.string (Mg ((LG ND i++LT 6) ++ [true,true,true,true,true]))) LE (KQ ?_)))
   have dB:=K4 (.string (Mg ((LG ND i++LT 6) ++ [true,true,true,true,true])))
   refine Lz (KK (KL (K2 Lw bV (KN (iv ((i+1:Nat):Int)) rr (LS rfl rfl rfl (LX (by omega) (by omega)) rr) (Lb (iv ((i+1:Nat):Int)) LE (KQ ?_))))))
   have dC:=K4 (iv ((i+1:Nat):Int))
   exact KK ⟨(N-(i+1)),by omega,i+1,by omega,rfl,aT,bR,aU,aV,bS,bT,(dt.trans (congrArg (fun z=>Value.string (Mg z)) (Ze _ _ i))),(dB.trans (congrArg (fun z=>Value.string (Mg z)) (Ze _ _ i))),dC,((ao.tr bW).tr bX),du,dv,dw,dy,dz,dA⟩
  ·replace av:=of_decide_eq_false av
   refine Mm (Lp (Lp ?_))
   have dD:N=i:=by omega
   subst dD
   refine Mk (KK (KM ?_))
   have he4:(Ln (LG NE N).length).length<=8:=by rw[Nk];omega
   have he6:(Ln (LG ND N).length).length<=8:=by rw[Nk];omega
   refine azI (γ1:=Value×(Nat->Prop)) (γ2:=Value×(Nat->Prop)×Value×(Nat->Prop)×Value×(Nat->Prop)) [(14,13),(15,13),(16,13),(18,13),(19,13),(18,17),(19,17),(13,10),(14,10),(15,10),(16,10),(18,10),(19,10)] [some 65,some 66,some 67,some 68,some 69,some 70,some 71,some 72,some 73,some 74,some 75,some 76,some 77,some 78,some 64,some 79,some 80,some 16,none,some 17] ⟨fun w_=>True,fun _=>False,fun g_ w_=>(Md w_ (g_.2.1) (g_.1) ((MF (Mi ((LG NE N)++(Ln ((LG NE N).length)))) ((LP (w%2) (h%2) l).W) ((LP (w%2) (h%2) l).H) 1 1 1 (((q%21):Nat):Int) 0 0 (LP (w%2) (h%2) l) (FD.mk 0 0 ([]) ([]) ([]))).p0)/\KS ak Mb (g_.2.1))/\(Md w_ (g_.2.2.2.1) (g_.2.2.1) ((MF (Mi ((LG NE N)++(Ln ((LG NE N).length)))) ((LP (w%2) (h%2) l).W) ((LP (w%2) (h%2) l).H) 1 1 1 (((q%21):Nat):Int) 0 0 (LP (w%2) (h%2) l) (FD.mk 0 0 ([]) ([]) ([]))).p1)/\KS ak Mb (g_.2.2.2.1))/\(Md w_ (g_.2.2.2.2.2) (g_.2.2.2.2.1) ((MF (Mi ((LG NE N)++(Ln ((LG NE N).length)))) ((LP (w%2) (h%2) l).W) ((LP (w%2) (h%2) l).H) 1 1 1 (((q%21):Nat):Int) 0 0 (LP (w%2) (h%2) l) (FD.mk 0 0 ([]) ([]) ([]))).p2)/\KS ak Mb (g_.2.2.2.2.2))/\KO (g_.2.1) (g_.2.2.2.1)/\KO (g_.2.1) (g_.2.2.2.2.2)/\KO (g_.2.2.2.1) (g_.2.2.2.2.2),fun g_=>fun i=>(g_.2.1) i\/((g_.2.2.2.1) i\/((g_.2.2.2.2.2) i)),fun p_ w_=>MJ w_ p_ 29 [iv 0,iv 0,.slice none 0 0,.slice none 0 0,.slice none 0 0],fun g_ p_ w_=>MJ w_ p_ 29 [iv ((MF (Mi ((LG NE N)++(Ln ((LG NE N).length)))) ((LP (w%2) (h%2) l).W) ((LP (w%2) (h%2) l).H) 1 1 1 (((q%21):Nat):Int) 0 0 (LP (w%2) (h%2) l) (FD.mk 0 0 ([]) ([]) ([]))).W),iv ((MF (Mi ((LG NE N)++(Ln ((LG NE N).length)))) ((LP (w%2) (h%2) l).W) ((LP (w%2) (h%2) l).H) 1 1 1 (((q%21):Nat):Int) 0 0 (LP (w%2) (h%2) l) (FD.mk 0 0 ([]) ([]) ([]))).H),g_.1,g_.2.2.1,g_.2.2.2.2.1]⟩ (fun g_ w_=>Mv w_ (g_.2) (g_.1) (Mi ((LG NE N)++(Ln ((LG NE N).length))))) (fun g_=>g_.2) (fun _=>False) (fun p_=>ak.heap.size<=p_) [fun g_=>.agg #[iv ((LP (w%2) (h%2) l).W),iv ((LP (w%2) (h%2) l).H),iv 1,iv 1],fun g_=>.int .u8 ((q:Nat):Int),fun g_=>iv ((q:Nat):Int),fun g_=>iv (((q%21):Nat):Int),fun g_=>.agg #[iv 1,iv (((q%21):Nat):Int),iv 0,iv 0],fun g_=>.string (Mg (LG NE N)),fun g_=>.string (Mg (LG NE N)),fun g_=>iv (((LG NE N).length:Nat):Int),fun g_=>.string (Mg (Ln ((LG NE N).length))),fun g_=>.string (Mg ((LG NE N)++(Ln ((LG NE N).length)))),fun g_=>g_.1.1,fun g_=>.agg #[iv ((LP (w%2) (h%2) l).W),iv ((LP (w%2) (h%2) l).H),aa,ab,ac],fun g_=>.agg #[iv 0,iv 0,.slice none 0 0,.slice none 0 0,.slice none 0 0],fun g_=>.tuple #[.agg #[iv ((MF (Mi ((LG NE N)++(Ln ((LG NE N).length)))) ((LP (w%2) (h%2) l).W) ((LP (w%2) (h%2) l).H) 1 1 1 (((q%21):Nat):Int) 0 0 (LP (w%2) (h%2) l) (FD.mk 0 0 ([]) ([]) ([]))).W),iv ((MF (Mi ((LG NE N)++(Ln ((LG NE N).length)))) ((LP (w%2) (h%2) l).W) ((LP (w%2) (h%2) l).H) 1 1 1 (((q%21):Nat):Int) 0 0 (LP (w%2) (h%2) l) (FD.mk 0 0 ([]) ([]) ([]))).H),g_.2.1,g_.2.2.2.1,g_.2.2.2.2.2.1],iv (N5 (Mi ((LG NE N)++(Ln ((LG NE N).length)))) ((LP (w%2) (h%2) l).W) ((LP (w%2) (h%2) l).H) 1 1 1 (((q%21):Nat):Int) 0 0 (LP (w%2) (h%2) l) (FD.mk 0 0 ([]) ([]) ([])))],fun g_=>.tuple #[.agg #[iv ((MF (Mi ((LG NE N)++(Ln ((LG NE N).length)))) ((LP (w%2) (h%2) l).W) ((LP (w%2) (h%2) l).H) 1 1 1 (((q%21):Nat):Int) 0 0 (LP (w%2) (h%2) l) (FD.mk 0 0 ([]) ([]) ([]))).W),iv ((MF (Mi ((LG NE N)++(Ln ((LG NE N).length)))) ((LP (w%2) (h%2) l).W) ((LP (w%2) (h%2) l).H) 1 1 1 (((q%21):Nat):Int) 0 0 (LP (w%2) (h%2) l) (FD.mk 0 0 ([]) ([]) ([]))).H),g_.2.1,g_.2.2.2.1,g_.2.2.2.2.2.1],iv (N5 (Mi ((LG NE N)++(Ln ((LG NE N).length)))) ((LP (w%2) (h%2) l).W) ((LP (w%2) (h%2) l).H) 1 1 1 (((q%21):Nat):Int) 0 0 (LP (w%2) (h%2) l) (FD.mk 0 0 ([]) ([]) ([])))],fun g_=>.agg #[iv ((MF (Mi ((LG NE N)++(Ln ((LG NE N).length)))) ((LP (w%2) (h%2) l).W) ((LP (w%2) (h%2) l).H) 1 1 1 (((q%21):Nat):Int) 0 0 (LP (w%2) (h%2) l) (FD.mk 0 0 ([]) ([]) ([]))).W),iv ((MF (Mi ((LG NE N)++(Ln ((LG NE N).length)))) ((LP (w%2) (h%2) l).W) ((LP (w%2) (h%2) l).H) 1 1 1 (((q%21):Nat):Int) 0 0 (LP (w%2) (h%2) l) (FD.mk 0 0 ([]) ([]) ([]))).H),g_.2.1,g_.2.2.2.1,g_.2.2.2.2.2.1],fun g_=>iv (N5 (Mi ((LG NE N)++(Ln ((LG NE N).length)))) ((LP (w%2) (h%2) l).W) ((LP (w%2) (h%2) l).H) 1 1 1 (((q%21):Nat):Int) 0 0 (LP (w%2) (h%2) l) (FD.mk 0 0 ([]) ([]) ([]))),fun _=>undef,fun _=>undef,fun g_=>iv (N5 (Mi ((LG NE N)++(Ln ((LG NE N).length)))) ((LP (w%2) (h%2) l).W) ((LP (w%2) (h%2) l).H) 1 1 1 (((q%21):Nat):Int) 0 0 (LP (w%2) (h%2) l) (FD.mk 0 0 ([]) ([]) ([])))] 10 13 18 (some 17) (undef,Mb) (undef,Mb,undef,Mb,undef,Mb) 0 (by kernel_rfl) (by kernel_rfl) (by kernel_rfl) (by kernel_rfl) ⟨.inr (.inr fun _ _ _=>rfl),⟨.inr (.inr fun _ _ _=>rfl),⟨.inr (.inr fun _ _ _=>rfl),⟨.inr (.inr fun _ _ _=>rfl),⟨.inr (.inr fun _ _ _=>rfl),⟨.inr (.inr fun _ _ _=>rfl),⟨.inr (.inr fun _ _ _=>rfl),⟨.inr (.inr fun _ _ _=>rfl),⟨.inr (.inr fun _ _ _=>rfl),⟨.inr (.inr fun _ _ _=>rfl),⟨.inr (.inl rfl),⟨.inr (.inr fun _ _ _=>rfl),⟨.inr (.inr fun _ _ _=>rfl),⟨.inl rfl,⟨.inl rfl,⟨.inl rfl,⟨.inl rfl,⟨.inr (.inr fun _ _ _=>rfl),⟨.inl rfl,⟨.inl rfl,trivial⟩⟩⟩⟩⟩⟩⟩⟩⟩⟩⟩⟩⟩⟩⟩⟩⟩⟩⟩⟩ ⟨.inr (.inr fun _ _ _=>rfl),⟨.inr (.inr fun _ _ _=>rfl),⟨.inr (.inr fun _ _ _=>rfl),⟨.inr (.inr fun _ _ _=>rfl),⟨.inr (.inr fun _ _ _=>rfl),⟨.inr (.inr fun _ _ _=>rfl),⟨.inr (.inr fun _ _ _=>rfl),⟨.inr (.inr fun _ _ _=>rfl),⟨.inr (.inr fun _ _ _=>rfl),⟨.inr (.inr fun _ _ _=>rfl),⟨.inr (.inr fun _ _ _=>rfl),⟨.inr (.inr fun _ _ _=>rfl),⟨.inr (.inr fun _ _ _=>rfl),⟨.inr (.inl rfl),⟨.inl rfl,⟨.inl rfl,⟨.inl rfl,⟨.inr (.inr fun _ _ _=>rfl),⟨.inl rfl,⟨.inl rfl,trivial⟩⟩⟩⟩⟩⟩⟩⟩⟩⟩⟩⟩⟩⟩⟩⟩⟩⟩⟩⟩ ⟨fun _ _ _ _ h k a=>h.all k a,fun _ _ h=>h.live⟩ ⟨trivial,fun _ _ _ _ _ _=>trivial,fun _ _ _ z=>z.elim,fun g w w1 S1 h k a=>by obtain⟨⟨b0_,g0_⟩,⟨b1_,g1_⟩,⟨b2_,g2_⟩,a0_1_,a0_2_,a1_2_⟩:=h;exact⟨⟨b0_.all k (fun i z=>a i (Or.inl z)),g0_⟩,⟨b1_.all k (fun i z=>a i (Or.inr (Or.inl z))),g1_⟩,⟨b2_.all k (fun i z=>a i (Or.inr (Or.inr z))),g2_⟩,a0_1_,a0_2_,a1_2_⟩,fun g w h i z=>by obtain⟨⟨b0_,g0_⟩,⟨b1_,g1_⟩,⟨b2_,g2_⟩,a0_1_,a0_2_,a1_2_⟩:=h;rcases z with z|z|z <;> first|exact b0_.live i z|exact b1_.live i z|exact b2_.live i z,fun _ _ _ _ h k z=>h.all k z,fun _ _ h=>h.lt,fun _ _ _ _ _ h k z=>h.all k z,fun _ z=>z,fun _ h=>.inr h,fun _ _ z=>z⟩ (fun _ _ _ h=>h) (fun e=>by cases e) ?_ ?_
   ·refine LO ?_ ?_
    ·refine Mr.one rfl rfl rfl rfl rfl fun g_ p_ F_ w_ hR hout hD=>?_
     exact(KX MR rfl ((hout 11 rfl (by decide)).trans aV) (a9.all hR id) ⟨rfl,KR.refl _ _⟩)
    refine LO ?_ ?_
    ·refine Mr.one rfl rfl rfl rfl rfl fun g_ p_ F_ w_ hR hout hD=>?_
     exact(KT rfl ((hout 3 rfl (by decide)).trans aT) ⟨rfl,KR.refl _ _⟩)
    refine LO ?_ ?_
    ·refine Mr.one rfl rfl rfl rfl rfl fun g_ p_ F_ w_ hR hout hD=>?_
     have dF:F_ 66 = .int .u8 ((q:Nat):Int):=(hD.get 0 rfl rfl rfl).2 (by decide)
     exact(N1 rfl dF Tryz.underlying5 Tryz.underlying3 (Mn rfl (by omega)) ⟨rfl,KR.refl _ _⟩)
    refine LO ?_ ?_
    ·refine Mr.one rfl rfl rfl rfl rfl fun g_ p_ F_ w_ hR hout hD=>?_
     have dG:F_ 67=iv ((q:Nat):Int):=(hD.get 0 rfl rfl rfl).2 (by decide)
     exact(Rh rfl dG rfl (by first|decide|omega) (Pn q 21) ⟨rfl,KR.refl _ _⟩)
    refine LO ?_ ?_
    ·refine Mr.one rfl rfl rfl rfl rfl fun g_ p_ F_ w_ hR hout hD=>?_
     have dH:F_ 68=iv (((q%21):Nat):Int):=(hD.get 0 rfl rfl rfl).2 (by decide)
     exact(Ma (l':=[(0,iv 1),(1,iv (((q%21):Nat):Int))]) (cells:=#[iv 1,iv (((q%21):Nat):Int),iv 0,iv 0]) rfl (RW rfl (RW dH Rj)) (by kernel_rfl) rfl ⟨rfl,KR.refl _ _⟩)
    refine LO ?_ ?_
    ·refine Mr.one rfl rfl rfl rfl rfl fun g_ p_ F_ w_ hR hout hD=>?_
     exact(KT rfl ((hout 13 rfl (by decide)).trans aW) ⟨rfl,KR.refl _ _⟩)
    refine LO ?_ ?_
    ·refine Mr.one rfl rfl rfl rfl rfl fun g_ p_ F_ w_ hR hout hD=>?_
     exact(KT rfl ((hout 13 rfl (by decide)).trans aW) ⟨rfl,KR.refl _ _⟩)
    refine LO ?_ ?_
    ·refine Mr.one rfl rfl rfl rfl rfl fun g_ p_ F_ w_ hR hout hD=>?_
     have dI:F_ 71 = .string (Mg (LG NE N)):=(hD.get 0 rfl rfl rfl).2 (by decide)
     exact(azb rfl rfl dI ⟨rfl,KR.refl _ _⟩)
    refine LO ?_ ?_
    ·refine Mr.one rfl rfl rfl rfl rfl fun g_ p_ F_ w_ hR hout hD=>?_
     have dJ:F_ 72=iv (((LG NE N).length:Nat):Int):=(hD.get 0 rfl rfl rfl).2 (by decide)
     exact(LQ rfl rfl rfl (fun _ _=>by kernel_rfl) (K6 _) (Lo dJ L5) (Wv ((LG NE N).length)  _ (by omega)  ) (fun e_ w_ h_=>⟨_,h_.1,rfl,h_.2⟩))
    refine LO ?_ ?_
    ·refine Mr.one rfl rfl rfl rfl rfl fun g_ p_ F_ w_ hR hout hD=>?_
     have dK:F_ 70 = .string (Mg (LG NE N)):=(hD.get 0 rfl rfl rfl).2 (by decide)
     have dL:F_ 73 = .string (Mg (Ln ((LG NE N).length))):=(hD.get 1 rfl rfl rfl).2 (by decide)
     exact(SG rfl dK dL (by simp[Ng];omega) (Nr _ _) ⟨rfl,KR.refl _ _⟩)
    refine LO ?_ ?_
    ·refine Mr.ahead rfl rfl rfl rfl rfl fun g_ p_ F_ w_ hR hout hD=>?_
     have dM:F_ 74 = .string (Mg ((LG NE N)++(Ln ((LG NE N).length)))):=(hD.get 0 rfl rfl rfl).2 (by decide)
     exact(LQ rfl rfl rfl (fun _ _=>by kernel_rfl) (K6 _) (Lo dM L5) (TK ((LG NE N)++(Ln ((LG NE N).length)))  _ (by rw[List.length_append,Nk];omega)  ) (fun e_ w_ h_=>by obtain⟨x0_,x1_,he_,hk_,⟨b0_,g0_⟩⟩:=h_;exact⟨_,he_,⟨x0_,x1_⟩,rfl,hk_,b0_,g0_⟩))
    refine LO ?_ ?_
    ·refine Mr.one rfl rfl rfl rfl rfl fun g_ p_ F_ w_ hR hout hD=>?_
     exact(KX La rfl ((hout 10 rfl (by decide)).trans aU) (a8.all hR id) ⟨rfl,KR.refl _ _⟩)
    refine LO ?_ ?_
    ·refine Mr.one rfl rfl rfl rfl rfl fun g_ p_ F_ w_ hR hout hD=>?_
     exact(Ma (l':=[]) (cells:=#[iv 0,iv 0,.slice none 0 0,.slice none 0 0,.slice none 0 0]) rfl Rj (by kernel_rfl) rfl ⟨rfl,KR.refl _ _⟩)
    refine LO ?_ ?_
    ·refine Mr.call rfl rfl rfl rfl rfl fun g_ p_ F_ w_ hR hout hD hP_ hR1_=>?_
     have dN:F_ 65 = .agg #[iv ((LP (w%2) (h%2) l).W),iv ((LP (w%2) (h%2) l).H),iv 1,iv 1]:=(hD.get 0 rfl rfl rfl).2 (by decide)
     have dO:F_ 69 = .agg #[iv 1,iv (((q%21):Nat):Int),iv 0,iv 0]:=(hD.get 1 rfl rfl rfl).2 (by decide)
     have dP:F_ 75=g_.1.1:=(hD.get 2 rfl rfl rfl).2 (by decide)
     have dQ:F_ 76 = .agg #[iv ((LP (w%2) (h%2) l).W),iv ((LP (w%2) (h%2) l).H),aa,ab,ac]:=(hD.get 3 rfl rfl rfl).2 (by decide)
     have dR:F_ 77 = .agg #[iv 0,iv 0,.slice none 0 0,.slice none 0 0,.slice none 0 0]:=(hD.get 4 rfl rfl rfl).2 (by decide)
     exact(LQ rfl rfl rfl (fun _ _=>by kernel_rfl) (K6 _) (Lo dN (Lo dO (Lo dP (Lo dQ (Lo dR L5))))) (Ti ((LP (w%2) (h%2) l).W) ((LP (w%2) (h%2) l).H) 1 1 1 (((q%21):Nat):Int) 0 0 (g_.1.1) (Mi ((LG NE N)++(Ln ((LG NE N).length)))) (LP (w%2) (h%2) l) aa ab ac (FD.mk 0 0 ([]) ([]) ([])) (.slice none 0 0) (.slice none 0 0) (.slice none 0 0) (g_.1.2) af ah ai Mb Mb Mb _ (hA.all (ao.trans hR (fun _ _ x=>x.elim))) (hO.all (ao.trans hR (fun _ _ x=>x.elim))) (hs.all (ao.trans hR (fun _ _ x=>x.elim))) (hwv.all (ao.trans hR (fun _ _ x=>x.elim))) (by rw[N8];unfold Om;rw[List.length_append,Nk];omega) hR1_ (aX.all hR KO.none).byt (aY.all hR KO.none).byt (aZ.all hR KO.none).byt (Mv.nil _) (Mv.nil _) (Mv.nil _) ) (fun e_ w_ h_=>by obtain⟨x0_,x1_,x2_,x3_,x4_,x5_,he_,hk_,⟨b0_,g0_⟩,⟨b1_,g1_⟩,⟨b2_,g2_⟩,a0_1_,a0_2_,a1_2_⟩:=h_;exact⟨_,he_,⟨x0_,x1_,x2_,x3_,x4_,x5_⟩,rfl,hk_,⟨⟨b0_,(KS.refl ak _).trans hR g0_⟩,⟨b1_,(KS.refl ak _).trans hR g1_⟩,⟨b2_,(KS.refl ak _).trans hR g2_⟩,a0_1_,a0_2_,a1_2_⟩,fun b hb=>by rcases hb with hb|hb|hb <;> first|exact(g0_ b hb).elim (fun z=>z.elim) .inr|exact(g1_ b hb).elim (fun z=>z.elim) .inr|exact(g2_ b hb).elim (fun z=>z.elim) .inr⟩))
    refine LO ?_ ?_
    ·refine Mr.one rfl rfl rfl rfl rfl fun g_ p_ F_ w_ hR hout hD=>?_
     have dS:F_ 78 = .tuple #[.agg #[iv ((MF (Mi ((LG NE N)++(Ln ((LG NE N).length)))) ((LP (w%2) (h%2) l).W) ((LP (w%2) (h%2) l).H) 1 1 1 (((q%21):Nat):Int) 0 0 (LP (w%2) (h%2) l) (FD.mk 0 0 ([]) ([]) ([]))).W),iv ((MF (Mi ((LG NE N)++(Ln ((LG NE N).length)))) ((LP (w%2) (h%2) l).W) ((LP (w%2) (h%2) l).H) 1 1 1 (((q%21):Nat):Int) 0 0 (LP (w%2) (h%2) l) (FD.mk 0 0 ([]) ([]) ([]))).H),g_.2.1,g_.2.2.2.1,g_.2.2.2.2.2.1],iv (N5 (Mi ((LG NE N)++(Ln ((LG NE N).length)))) ((LP (w%2) (h%2) l).W) ((LP (w%2) (h%2) l).H) 1 1 1 (((q%21):Nat):Int) 0 0 (LP (w%2) (h%2) l) (FD.mk 0 0 ([]) ([]) ([])))]:=(hD.get 0 rfl rfl rfl).2 (by decide)
     exact(KT rfl dS ⟨rfl,KR.refl _ _⟩)
    refine LO ?_ ?_
    ·refine Mr.one rfl rfl rfl rfl rfl fun g_ p_ F_ w_ hR hout hD=>?_
     have ba:F_ 64 = .tuple #[.agg #[iv ((MF (Mi ((LG NE N)++(Ln ((LG NE N).length)))) ((LP (w%2) (h%2) l).W) ((LP (w%2) (h%2) l).H) 1 1 1 (((q%21):Nat):Int) 0 0 (LP (w%2) (h%2) l) (FD.mk 0 0 ([]) ([]) ([]))).W),iv ((MF (Mi ((LG NE N)++(Ln ((LG NE N).length)))) ((LP (w%2) (h%2) l).W) ((LP (w%2) (h%2) l).H) 1 1 1 (((q%21):Nat):Int) 0 0 (LP (w%2) (h%2) l) (FD.mk 0 0 ([]) ([]) ([]))).H),g_.2.1,g_.2.2.2.1,g_.2.2.2.2.2.1],iv (N5 (Mi ((LG NE N)++(Ln ((LG NE N).length)))) ((LP (w%2) (h%2) l).W) ((LP (w%2) (h%2) l).H) 1 1 1 (((q%21):Nat):Int) 0 0 (LP (w%2) (h%2) l) (FD.mk 0 0 ([]) ([]) ([])))]:=(hD.get 0 rfl rfl rfl).2 (by decide)
     exact(LY rfl ba rfl ⟨rfl,KR.refl _ _⟩)
    refine LO ?_ ?_
    ·refine Mr.one rfl rfl rfl rfl rfl fun g_ p_ F_ w_ hR hout hD=>?_
     have ba:F_ 64 = .tuple #[.agg #[iv ((MF (Mi ((LG NE N)++(Ln ((LG NE N).length)))) ((LP (w%2) (h%2) l).W) ((LP (w%2) (h%2) l).H) 1 1 1 (((q%21):Nat):Int) 0 0 (LP (w%2) (h%2) l) (FD.mk 0 0 ([]) ([]) ([]))).W),iv ((MF (Mi ((LG NE N)++(Ln ((LG NE N).length)))) ((LP (w%2) (h%2) l).W) ((LP (w%2) (h%2) l).H) 1 1 1 (((q%21):Nat):Int) 0 0 (LP (w%2) (h%2) l) (FD.mk 0 0 ([]) ([]) ([]))).H),g_.2.1,g_.2.2.2.1,g_.2.2.2.2.2.1],iv (N5 (Mi ((LG NE N)++(Ln ((LG NE N).length)))) ((LP (w%2) (h%2) l).W) ((LP (w%2) (h%2) l).H) 1 1 1 (((q%21):Nat):Int) 0 0 (LP (w%2) (h%2) l) (FD.mk 0 0 ([]) ([]) ([])))]:=(hD.get 0 rfl rfl rfl).2 (by decide)
     exact(LY rfl ba rfl ⟨rfl,KR.refl _ _⟩)
    refine LO ?_ ?_
    ·refine Mr.alloc rfl rfl rfl rfl rfl fun F_ w_ hR=>?_
     exact OY (n:=5) (vs:=[iv 0,iv 0,.slice none 0 0,.slice none 0 0,.slice none 0 0]) rfl (by kernel_rfl) ⟨_,rfl,Nat.le_refl _,heap_alloc_new _ _,(KR.refl _ _).alloc _⟩
    refine LO ?_ ?_
    ·refine Mr.store rfl rfl rfl rfl rfl fun g_ p_ F_ w_ hR hout hD hO_ hZ_ hQ_=>?_
     have dT:F_ 16=pt p_ 0:=(hD.get 0 rfl rfl rfl).1 rfl
     have dU:F_ 79 = .agg #[iv ((MF (Mi ((LG NE N)++(Ln ((LG NE N).length)))) ((LP (w%2) (h%2) l).W) ((LP (w%2) (h%2) l).H) 1 1 1 (((q%21):Nat):Int) 0 0 (LP (w%2) (h%2) l) (FD.mk 0 0 ([]) ([]) ([]))).W),iv ((MF (Mi ((LG NE N)++(Ln ((LG NE N).length)))) ((LP (w%2) (h%2) l).W) ((LP (w%2) (h%2) l).H) 1 1 1 (((q%21):Nat):Int) 0 0 (LP (w%2) (h%2) l) (FD.mk 0 0 ([]) ([]) ([]))).H),g_.2.1,g_.2.2.2.1,g_.2.2.2.2.2.1]:=(hD.get 1 rfl rfl rfl).2 (by decide)
     exact Pr (us:=[iv ((MF (Mi ((LG NE N)++(Ln ((LG NE N).length)))) ((LP (w%2) (h%2) l).W) ((LP (w%2) (h%2) l).H) 1 1 1 (((q%21):Nat):Int) 0 0 (LP (w%2) (h%2) l) (FD.mk 0 0 ([]) ([]) ([]))).W),iv ((MF (Mi ((LG NE N)++(Ln ((LG NE N).length)))) ((LP (w%2) (h%2) l).W) ((LP (w%2) (h%2) l).H) 1 1 1 (((q%21):Nat):Int) 0 0 (LP (w%2) (h%2) l) (FD.mk 0 0 ([]) ([]) ([]))).H),g_.2.1,g_.2.2.2.1,g_.2.2.2.2.2.1]) La rfl dT dU hZ_ rfl (Qc rr (L4 (hQ_.1.1).one (L4 (hQ_.2.1.1).one (L4 (hQ_.2.2.1.1).one MX)))) fun w2_ b_ k_=>⟨rfl,k_,b_⟩
    refine LO ?_ ?_
    ·refine Mr.one rfl rfl rfl rfl rfl fun g_ p_ F_ w_ hR hout hD=>?_
     have dV:F_ 80=iv (N5 (Mi ((LG NE N)++(Ln ((LG NE N).length)))) ((LP (w%2) (h%2) l).W) ((LP (w%2) (h%2) l).H) 1 1 1 (((q%21):Nat):Int) 0 0 (LP (w%2) (h%2) l) (FD.mk 0 0 ([]) ([]) ([]))):=(hD.get 0 rfl rfl rfl).2 (by decide)
     exact(Pv rfl dV ⟨rfl,KR.refl _ _⟩)
    exact Vu
   intro fx dW bY fy bZ ae b7 fA dX dY bb dZ b8 b9 aJ
   obtain⟨aK,aw,aL,az,aM,aA⟩:=dW
   obtain⟨bc,bd,be,bf,d8⟩:=O6 b7 aX aY aZ a8 a9
   have aB:=ao.tr b7
   obtain⟨⟨bg,cd⟩,⟨bh,ce⟩,⟨bi,cf⟩,cg,ci,cj⟩:=dX
   replace bg:Md ae aw aK ((MF (Mi ((LG NE N)++(Ln ((LG NE N).length)))) ((LP (w%2) (h%2) l).W) ((LP (w%2) (h%2) l).H) 1 1 1 (((q%21):Nat):Int) 0 0 (LP (w%2) (h%2) l) (FD.mk 0 0 ([]) ([]) ([]))).p0):=bg
   replace bh:Md ae az aL ((MF (Mi ((LG NE N)++(Ln ((LG NE N).length)))) ((LP (w%2) (h%2) l).W) ((LP (w%2) (h%2) l).H) 1 1 1 (((q%21):Nat):Int) 0 0 (LP (w%2) (h%2) l) (FD.mk 0 0 ([]) ([]) ([]))).p1):=bh
   replace bi:Md ae aA aM ((MF (Mi ((LG NE N)++(Ln ((LG NE N).length)))) ((LP (w%2) (h%2) l).W) ((LP (w%2) (h%2) l).H) 1 1 1 (((q%21):Nat):Int) 0 0 (LP (w%2) (h%2) l) (FD.mk 0 0 ([]) ([]) ([]))).p2):=bi
   replace cd:KS ak Mb aw:=cd
   replace ce:KS ak Mb az:=ce
   replace cf:KS ak Mb aA:=cf
   replace cg:KO aw az:=cg
   replace ci:KO aw aA:=ci
   replace cj:KO az aA:=cj
   replace bb:MJ ae bY 29 [iv ((MF (Mi ((LG NE N)++(Ln ((LG NE N).length)))) ((LP (w%2) (h%2) l).W) ((LP (w%2) (h%2) l).H) 1 1 1 (((q%21):Nat):Int) 0 0 (LP (w%2) (h%2) l) (FD.mk 0 0 ([]) ([]) ([]))).W),iv ((MF (Mi ((LG NE N)++(Ln ((LG NE N).length)))) ((LP (w%2) (h%2) l).W) ((LP (w%2) (h%2) l).H) 1 1 1 (((q%21):Nat):Int) 0 0 (LP (w%2) (h%2) l) (FD.mk 0 0 ([]) ([]) ([]))).H),aK,aL,aM]:=bb
   obtain⟨d9,eb,bj,ee,eh,cm⟩:=t6 aJ 3 aT 9 bR 10 aU 11 aV 118 bT 14 bU
   have ei:bZ 16=pt bY 0:=(aJ 16).trans (b8 17 rfl)
   have en:bZ 17=iv (N5 (Mi ((LG NE N)++(Ln ((LG NE N).length)))) ((LP (w%2) (h%2) l).W) ((LP (w%2) (h%2) l).H) 1 1 1 (((q%21):Nat):Int) 0 0 (LP (w%2) (h%2) l) (FD.mk 0 0 ([]) ([]) ([]))):=(aJ 17).trans (b9 19 (by decide) (by decide))
   clear aJ b9 b8 dZ dY
   refine KK (KM ?_)
   refine azI (γ1:=Value×(Nat->Prop)) (γ2:=Value×(Nat->Prop)×Value×(Nat->Prop)×Value×(Nat->Prop)) [(14,13),(15,13),(16,13),(18,13),(19,13),(18,17),(19,17),(13,10),(14,10),(15,10),(16,10),(18,10),(19,10)] [some 82,some 83,some 84,some 85,some 86,some 87,some 88,some 89,some 90,some 91,some 92,some 93,some 94,some 95,some 81,some 96,some 97,some 18,none,some 19] ⟨fun w_=>True,fun _=>False,fun g_ w_=>(Md w_ (g_.2.1) (g_.1) ((MF (Mi ((LG ND N)++(Ln ((LG ND N).length)))) ((LP (w%2) (h%2) l).W) ((LP (w%2) (h%2) l).H) 1 1 2 (((q%21):Nat):Int) 0 0 (LP (w%2) (h%2) l) (LP (w%2) (h%2) l)).p0)/\KS ae Mb (g_.2.1))/\(Md w_ (g_.2.2.2.1) (g_.2.2.1) ((MF (Mi ((LG ND N)++(Ln ((LG ND N).length)))) ((LP (w%2) (h%2) l).W) ((LP (w%2) (h%2) l).H) 1 1 2 (((q%21):Nat):Int) 0 0 (LP (w%2) (h%2) l) (LP (w%2) (h%2) l)).p1)/\KS ae Mb (g_.2.2.2.1))/\(Md w_ (g_.2.2.2.2.2) (g_.2.2.2.2.1) ((MF (Mi ((LG ND N)++(Ln ((LG ND N).length)))) ((LP (w%2) (h%2) l).W) ((LP (w%2) (h%2) l).H) 1 1 2 (((q%21):Nat):Int) 0 0 (LP (w%2) (h%2) l) (LP (w%2) (h%2) l)).p2)/\KS ae Mb (g_.2.2.2.2.2))/\KO (g_.2.1) (g_.2.2.2.1)/\KO (g_.2.1) (g_.2.2.2.2.2)/\KO (g_.2.2.2.1) (g_.2.2.2.2.2),fun g_=>fun i=>(g_.2.1) i\/((g_.2.2.2.1) i\/((g_.2.2.2.2.2) i)),fun p_ w_=>MJ w_ p_ 29 [iv 0,iv 0,.slice none 0 0,.slice none 0 0,.slice none 0 0],fun g_ p_ w_=>MJ w_ p_ 29 [iv ((MF (Mi ((LG ND N)++(Ln ((LG ND N).length)))) ((LP (w%2) (h%2) l).W) ((LP (w%2) (h%2) l).H) 1 1 2 (((q%21):Nat):Int) 0 0 (LP (w%2) (h%2) l) (LP (w%2) (h%2) l)).W),iv ((MF (Mi ((LG ND N)++(Ln ((LG ND N).length)))) ((LP (w%2) (h%2) l).W) ((LP (w%2) (h%2) l).H) 1 1 2 (((q%21):Nat):Int) 0 0 (LP (w%2) (h%2) l) (LP (w%2) (h%2) l)).H),g_.1,g_.2.2.1,g_.2.2.2.2.1]⟩ (fun g_ w_=>Mv w_ (g_.2) (g_.1) (Mi ((LG ND N)++(Ln ((LG ND N).length))))) (fun g_=>g_.2) (fun _=>False) (fun p_=>ae.heap.size<=p_) [fun g_=>.agg #[iv ((LP (w%2) (h%2) l).W),iv ((LP (w%2) (h%2) l).H),iv 1,iv 1],fun g_=>.int .u8 ((q:Nat):Int),fun g_=>iv ((q:Nat):Int),fun g_=>iv (((q%21):Nat):Int),fun g_=>.agg #[iv 2,iv (((q%21):Nat):Int),iv 0,iv 0],fun g_=>.string (Mg (LG ND N)),fun g_=>.string (Mg (LG ND N)),fun g_=>iv (((LG ND N).length:Nat):Int),fun g_=>.string (Mg (Ln ((LG ND N).length))),fun g_=>.string (Mg ((LG ND N)++(Ln ((LG ND N).length)))),fun g_=>g_.1.1,fun g_=>.agg #[iv ((LP (w%2) (h%2) l).W),iv ((LP (w%2) (h%2) l).H),aa,ab,ac],fun g_=>.agg #[iv ((LP (w%2) (h%2) l).W),iv ((LP (w%2) (h%2) l).H),aa,ab,ac],fun g_=>.tuple #[.agg #[iv ((MF (Mi ((LG ND N)++(Ln ((LG ND N).length)))) ((LP (w%2) (h%2) l).W) ((LP (w%2) (h%2) l).H) 1 1 2 (((q%21):Nat):Int) 0 0 (LP (w%2) (h%2) l) (LP (w%2) (h%2) l)).W),iv ((MF (Mi ((LG ND N)++(Ln ((LG ND N).length)))) ((LP (w%2) (h%2) l).W) ((LP (w%2) (h%2) l).H) 1 1 2 (((q%21):Nat):Int) 0 0 (LP (w%2) (h%2) l) (LP (w%2) (h%2) l)).H),g_.2.1,g_.2.2.2.1,g_.2.2.2.2.2.1],iv (N5 (Mi ((LG ND N)++(Ln ((LG ND N).length)))) ((LP (w%2) (h%2) l).W) ((LP (w%2) (h%2) l).H) 1 1 2 (((q%21):Nat):Int) 0 0 (LP (w%2) (h%2) l) (LP (w%2) (h%2) l))],fun g_=>.tuple #[.agg #[iv ((MF (Mi ((LG ND N)++(Ln ((LG ND N).length)))) ((LP (w%2) (h%2) l).W) ((LP (w%2) (h%2) l).H) 1 1 2 (((q%21):Nat):Int) 0 0 (LP (w%2) (h%2) l) (LP (w%2) (h%2) l)).W),iv ((MF (Mi ((LG ND N)++(Ln ((LG ND N).length)))) ((LP (w%2) (h%2) l).W) ((LP (w%2) (h%2) l).H) 1 1 2 (((q%21):Nat):Int) 0 0 (LP (w%2) (h%2) l) (LP (w%2) (h%2) l)).H),g_.2.1,g_.2.2.2.1,g_.2.2.2.2.2.1],iv (N5 (Mi ((LG ND N)++(Ln ((LG ND N).length)))) ((LP (w%2) (h%2) l).W) ((LP (w%2) (h%2) l).H) 1 1 2 (((q%21):Nat):Int) 0 0 (LP (w%2) (h%2) l) (LP (w%2) (h%2) l))],fun g_=>.agg #[iv ((MF (Mi ((LG ND N)++(Ln ((LG ND N).length)))) ((LP (w%2) (h%2) l).W) ((LP (w%2) (h%2) l).H) 1 1 2 (((q%21):Nat):Int) 0 0 (LP (w%2) (h%2) l) (LP (w%2) (h%2) l)).W),iv ((MF (Mi ((LG ND N)++(Ln ((LG ND N).length)))) ((LP (w%2) (h%2) l).W) ((LP (w%2) (h%2) l).H) 1 1 2 (((q%21):Nat):Int) 0 0 (LP (w%2) (h%2) l) (LP (w%2) (h%2) l)).H),g_.2.1,g_.2.2.2.1,g_.2.2.2.2.2.1],fun g_=>iv (N5 (Mi ((LG ND N)++(Ln ((LG ND N).length)))) ((LP (w%2) (h%2) l).W) ((LP (w%2) (h%2) l).H) 1 1 2 (((q%21):Nat):Int) 0 0 (LP (w%2) (h%2) l) (LP (w%2) (h%2) l)),fun _=>undef,fun _=>undef,fun g_=>iv (N5 (Mi ((LG ND N)++(Ln ((LG ND N).length)))) ((LP (w%2) (h%2) l).W) ((LP (w%2) (h%2) l).H) 1 1 2 (((q%21):Nat):Int) 0 0 (LP (w%2) (h%2) l) (LP (w%2) (h%2) l))] 10 13 18 (some 17) (undef,Mb) (undef,Mb,undef,Mb,undef,Mb) 0 (by kernel_rfl) (by kernel_rfl) (by kernel_rfl) (by kernel_rfl) ⟨.inr (.inr fun _ _ _=>rfl),⟨.inr (.inr fun _ _ _=>rfl),⟨.inr (.inr fun _ _ _=>rfl),⟨.inr (.inr fun _ _ _=>rfl),⟨.inr (.inr fun _ _ _=>rfl),⟨.inr (.inr fun _ _ _=>rfl),⟨.inr (.inr fun _ _ _=>rfl),⟨.inr (.inr fun _ _ _=>rfl),⟨.inr (.inr fun _ _ _=>rfl),⟨.inr (.inr fun _ _ _=>rfl),⟨.inr (.inl rfl),⟨.inr (.inr fun _ _ _=>rfl),⟨.inr (.inr fun _ _ _=>rfl),⟨.inl rfl,⟨.inl rfl,⟨.inl rfl,⟨.inl rfl,⟨.inr (.inr fun _ _ _=>rfl),⟨.inl rfl,⟨.inl rfl,trivial⟩⟩⟩⟩⟩⟩⟩⟩⟩⟩⟩⟩⟩⟩⟩⟩⟩⟩⟩⟩ ⟨.inr (.inr fun _ _ _=>rfl),⟨.inr (.inr fun _ _ _=>rfl),⟨.inr (.inr fun _ _ _=>rfl),⟨.inr (.inr fun _ _ _=>rfl),⟨.inr (.inr fun _ _ _=>rfl),⟨.inr (.inr fun _ _ _=>rfl),⟨.inr (.inr fun _ _ _=>rfl),⟨.inr (.inr fun _ _ _=>rfl),⟨.inr (.inr fun _ _ _=>rfl),⟨.inr (.inr fun _ _ _=>rfl),⟨.inr (.inr fun _ _ _=>rfl),⟨.inr (.inr fun _ _ _=>rfl),⟨.inr (.inr fun _ _ _=>rfl),⟨.inr (.inl rfl),⟨.inl rfl,⟨.inl rfl,⟨.inl rfl,⟨.inr (.inr fun _ _ _=>rfl),⟨.inl rfl,⟨.inl rfl,trivial⟩⟩⟩⟩⟩⟩⟩⟩⟩⟩⟩⟩⟩⟩⟩⟩⟩⟩⟩⟩ ⟨fun _ _ _ _ h k a=>h.all k a,fun _ _ h=>h.live⟩ ⟨trivial,fun _ _ _ _ _ _=>trivial,fun _ _ _ z=>z.elim,fun g w w1 S1 h k a=>by obtain⟨⟨b0_,g0_⟩,⟨b1_,g1_⟩,⟨b2_,g2_⟩,a0_1_,a0_2_,a1_2_⟩:=h;exact⟨⟨b0_.all k (fun i z=>a i (Or.inl z)),g0_⟩,⟨b1_.all k (fun i z=>a i (Or.inr (Or.inl z))),g1_⟩,⟨b2_.all k (fun i z=>a i (Or.inr (Or.inr z))),g2_⟩,a0_1_,a0_2_,a1_2_⟩,fun g w h i z=>by obtain⟨⟨b0_,g0_⟩,⟨b1_,g1_⟩,⟨b2_,g2_⟩,a0_1_,a0_2_,a1_2_⟩:=h;rcases z with z|z|z <;> first|exact b0_.live i z|exact b1_.live i z|exact b2_.live i z,fun _ _ _ _ h k z=>h.all k z,fun _ _ h=>h.lt,fun _ _ _ _ _ h k z=>h.all k z,fun _ z=>z,fun _ h=>.inr h,fun _ _ z=>z⟩ (fun _ _ _ h=>h) (fun e=>by cases e) ?_ ?_
   ·refine LO ?_ ?_
    ·refine Mr.one rfl rfl rfl rfl rfl fun g_ p_ F_ w_ hR hout hD=>?_
     exact(KX MR rfl ((hout 11 rfl (by decide)).trans ee) (d8.all hR id) ⟨rfl,KR.refl _ _⟩)
    refine LO ?_ ?_
    ·refine Mr.one rfl rfl rfl rfl rfl fun g_ p_ F_ w_ hR hout hD=>?_
     exact(KT rfl ((hout 3 rfl (by decide)).trans d9) ⟨rfl,KR.refl _ _⟩)
    refine LO ?_ ?_
    ·refine Mr.one rfl rfl rfl rfl rfl fun g_ p_ F_ w_ hR hout hD=>?_
     have eo:F_ 83 = .int .u8 ((q:Nat):Int):=(hD.get 0 rfl rfl rfl).2 (by decide)
     exact(N1 rfl eo Tryz.underlying5 Tryz.underlying3 (Mn rfl (by omega)) ⟨rfl,KR.refl _ _⟩)
    refine LO ?_ ?_
    ·refine Mr.one rfl rfl rfl rfl rfl fun g_ p_ F_ w_ hR hout hD=>?_
     have ep:F_ 84=iv ((q:Nat):Int):=(hD.get 0 rfl rfl rfl).2 (by decide)
     exact(Rh rfl ep rfl (by first|decide|omega) (Pn q 21) ⟨rfl,KR.refl _ _⟩)
    refine LO ?_ ?_
    ·refine Mr.one rfl rfl rfl rfl rfl fun g_ p_ F_ w_ hR hout hD=>?_
     have er:F_ 85=iv (((q%21):Nat):Int):=(hD.get 0 rfl rfl rfl).2 (by decide)
     exact(Ma (l':=[(0,iv 2),(1,iv (((q%21):Nat):Int))]) (cells:=#[iv 2,iv (((q%21):Nat):Int),iv 0,iv 0]) rfl (RW rfl (RW er Rj)) (by kernel_rfl) rfl ⟨rfl,KR.refl _ _⟩)
    refine LO ?_ ?_
    ·refine Mr.one rfl rfl rfl rfl rfl fun g_ p_ F_ w_ hR hout hD=>?_
     exact(KT rfl ((hout 14 rfl (by decide)).trans cm) ⟨rfl,KR.refl _ _⟩)
    refine LO ?_ ?_
    ·refine Mr.one rfl rfl rfl rfl rfl fun g_ p_ F_ w_ hR hout hD=>?_
     exact(KT rfl ((hout 14 rfl (by decide)).trans cm) ⟨rfl,KR.refl _ _⟩)
    refine LO ?_ ?_
    ·refine Mr.one rfl rfl rfl rfl rfl fun g_ p_ F_ w_ hR hout hD=>?_
     have et:F_ 88 = .string (Mg (LG ND N)):=(hD.get 0 rfl rfl rfl).2 (by decide)
     exact(azb rfl rfl et ⟨rfl,KR.refl _ _⟩)
    refine LO ?_ ?_
    ·refine Mr.one rfl rfl rfl rfl rfl fun g_ p_ F_ w_ hR hout hD=>?_
     have eu:F_ 89=iv (((LG ND N).length:Nat):Int):=(hD.get 0 rfl rfl rfl).2 (by decide)
     exact(LQ rfl rfl rfl (fun _ _=>by kernel_rfl) (K6 _) (Lo eu L5) (Wv ((LG ND N).length)  _ (by omega)  ) (fun e_ w_ h_=>⟨_,h_.1,rfl,h_.2⟩))
    refine LO ?_ ?_
    ·refine Mr.one rfl rfl rfl rfl rfl fun g_ p_ F_ w_ hR hout hD=>?_
     have ew:F_ 87 = .string (Mg (LG ND N)):=(hD.get 0 rfl rfl rfl).2 (by decide)
     have ex:F_ 90 = .string (Mg (Ln ((LG ND N).length))):=(hD.get 1 rfl rfl rfl).2 (by decide)
     exact(SG rfl ew ex (by simp[Ng];omega) (Nr _ _) ⟨rfl,KR.refl _ _⟩)
    refine LO ?_ ?_
    ·refine Mr.ahead rfl rfl rfl rfl rfl fun g_ p_ F_ w_ hR hout hD=>?_
     have ey:F_ 91 = .string (Mg ((LG ND N)++(Ln ((LG ND N).length)))):=(hD.get 0 rfl rfl rfl).2 (by decide)
     exact(LQ rfl rfl rfl (fun _ _=>by kernel_rfl) (K6 _) (Lo ey L5) (TK ((LG ND N)++(Ln ((LG ND N).length)))  _ (by rw[List.length_append,Nk];omega)  ) (fun e_ w_ h_=>by obtain⟨x0_,x1_,he_,hk_,⟨b0_,g0_⟩⟩:=h_;exact⟨_,he_,⟨x0_,x1_⟩,rfl,hk_,b0_,g0_⟩))
    refine LO ?_ ?_
    ·refine Mr.one rfl rfl rfl rfl rfl fun g_ p_ F_ w_ hR hout hD=>?_
     exact(KX La rfl ((hout 10 rfl (by decide)).trans bj) (bf.all hR id) ⟨rfl,KR.refl _ _⟩)
    refine LO ?_ ?_
    ·refine Mr.one rfl rfl rfl rfl rfl fun g_ p_ F_ w_ hR hout hD=>?_
     exact(KX La rfl ((hout 10 rfl (by decide)).trans bj) (bf.all hR id) ⟨rfl,KR.refl _ _⟩)
    refine LO ?_ ?_
    ·refine Mr.call rfl rfl rfl rfl rfl fun g_ p_ F_ w_ hR hout hD hP_ hR1_=>?_
     have ez:F_ 82 = .agg #[iv ((LP (w%2) (h%2) l).W),iv ((LP (w%2) (h%2) l).H),iv 1,iv 1]:=(hD.get 0 rfl rfl rfl).2 (by decide)
     have eA:F_ 86 = .agg #[iv 2,iv (((q%21):Nat):Int),iv 0,iv 0]:=(hD.get 1 rfl rfl rfl).2 (by decide)
     have aI:F_ 92=g_.1.1:=(hD.get 2 rfl rfl rfl).2 (by decide)
     have eB:F_ 93 = .agg #[iv ((LP (w%2) (h%2) l).W),iv ((LP (w%2) (h%2) l).H),aa,ab,ac]:=(hD.get 3 rfl rfl rfl).2 (by decide)
     have eC:F_ 94 = .agg #[iv ((LP (w%2) (h%2) l).W),iv ((LP (w%2) (h%2) l).H),aa,ab,ac]:=(hD.get 4 rfl rfl rfl).2 (by decide)
     exact(LQ rfl rfl rfl (fun _ _=>by kernel_rfl) (K6 _) (Lo ez (Lo eA (Lo aI (Lo eB (Lo eC L5))))) (Ti ((LP (w%2) (h%2) l).W) ((LP (w%2) (h%2) l).H) 1 1 2 (((q%21):Nat):Int) 0 0 (g_.1.1) (Mi ((LG ND N)++(Ln ((LG ND N).length)))) (LP (w%2) (h%2) l) aa ab ac (LP (w%2) (h%2) l) aa ab ac (g_.1.2) af ah ai af ah ai _ (hA.all (aB.trans hR (fun _ _ x=>x.elim))) (hO.all (aB.trans hR (fun _ _ x=>x.elim))) (hs.all (aB.trans hR (fun _ _ x=>x.elim))) (hwv.all (aB.trans hR (fun _ _ x=>x.elim))) (by rw[N8];unfold Om;rw[List.length_append,Nk];omega) hR1_ (bc.all hR KO.none).byt (bd.all hR KO.none).byt (be.all hR KO.none).byt (bc.all hR KO.none).byt (bd.all hR KO.none).byt (be.all hR KO.none).byt ) (fun e_ w_ h_=>by obtain⟨x0_,x1_,x2_,x3_,x4_,x5_,he_,hk_,⟨b0_,g0_⟩,⟨b1_,g1_⟩,⟨b2_,g2_⟩,a0_1_,a0_2_,a1_2_⟩:=h_;exact⟨_,he_,⟨x0_,x1_,x2_,x3_,x4_,x5_⟩,rfl,hk_,⟨⟨b0_,(KS.refl ae _).trans hR g0_⟩,⟨b1_,(KS.refl ae _).trans hR g1_⟩,⟨b2_,(KS.refl ae _).trans hR g2_⟩,a0_1_,a0_2_,a1_2_⟩,fun b hb=>by rcases hb with hb|hb|hb <;> first|exact(g0_ b hb).elim (fun z=>z.elim) .inr|exact(g1_ b hb).elim (fun z=>z.elim) .inr|exact(g2_ b hb).elim (fun z=>z.elim) .inr⟩))
    refine LO ?_ ?_
    ·refine Mr.one rfl rfl rfl rfl rfl fun g_ p_ F_ w_ hR hout hD=>?_
     have eD:F_ 95 = .tuple #[.agg #[iv ((MF (Mi ((LG ND N)++(Ln ((LG ND N).length)))) ((LP (w%2) (h%2) l).W) ((LP (w%2) (h%2) l).H) 1 1 2 (((q%21):Nat):Int) 0 0 (LP (w%2) (h%2) l) (LP (w%2) (h%2) l)).W),iv ((MF (Mi ((LG ND N)++(Ln ((LG ND N).length)))) ((LP (w%2) (h%2) l).W) ((LP (w%2) (h%2) l).H) 1 1 2 (((q%21):Nat):Int) 0 0 (LP (w%2) (h%2) l) (LP (w%2) (h%2) l)).H),g_.2.1,g_.2.2.2.1,g_.2.2.2.2.2.1],iv (N5 (Mi ((LG ND N)++(Ln ((LG ND N).length)))) ((LP (w%2) (h%2) l).W) ((LP (w%2) (h%2) l).H) 1 1 2 (((q%21):Nat):Int) 0 0 (LP (w%2) (h%2) l) (LP (w%2) (h%2) l))]:=(hD.get 0 rfl rfl rfl).2 (by decide)
     exact(KT rfl eD ⟨rfl,KR.refl _ _⟩)
    refine LO ?_ ?_
    ·refine Mr.one rfl rfl rfl rfl rfl fun g_ p_ F_ w_ hR hout hD=>?_
     have bl:F_ 81 = .tuple #[.agg #[iv ((MF (Mi ((LG ND N)++(Ln ((LG ND N).length)))) ((LP (w%2) (h%2) l).W) ((LP (w%2) (h%2) l).H) 1 1 2 (((q%21):Nat):Int) 0 0 (LP (w%2) (h%2) l) (LP (w%2) (h%2) l)).W),iv ((MF (Mi ((LG ND N)++(Ln ((LG ND N).length)))) ((LP (w%2) (h%2) l).W) ((LP (w%2) (h%2) l).H) 1 1 2 (((q%21):Nat):Int) 0 0 (LP (w%2) (h%2) l) (LP (w%2) (h%2) l)).H),g_.2.1,g_.2.2.2.1,g_.2.2.2.2.2.1],iv (N5 (Mi ((LG ND N)++(Ln ((LG ND N).length)))) ((LP (w%2) (h%2) l).W) ((LP (w%2) (h%2) l).H) 1 1 2 (((q%21):Nat):Int) 0 0 (LP (w%2) (h%2) l) (LP (w%2) (h%2) l))]:=(hD.get 0 rfl rfl rfl).2 (by decide)
     exact(LY rfl bl rfl ⟨rfl,KR.refl _ _⟩)
    refine LO ?_ ?_
    ·refine Mr.one rfl rfl rfl rfl rfl fun g_ p_ F_ w_ hR hout hD=>?_
     have bl:F_ 81 = .tuple #[.agg #[iv ((MF (Mi ((LG ND N)++(Ln ((LG ND N).length)))) ((LP (w%2) (h%2) l).W) ((LP (w%2) (h%2) l).H) 1 1 2 (((q%21):Nat):Int) 0 0 (LP (w%2) (h%2) l) (LP (w%2) (h%2) l)).W),iv ((MF (Mi ((LG ND N)++(Ln ((LG ND N).length)))) ((LP (w%2) (h%2) l).W) ((LP (w%2) (h%2) l).H) 1 1 2 (((q%21):Nat):Int) 0 0 (LP (w%2) (h%2) l) (LP (w%2) (h%2) l)).H),g_.2.1,g_.2.2.2.1,g_.2.2.2.2.2.1],iv (N5 (Mi ((LG ND N)++(Ln ((LG ND N).length)))) ((LP (w%2) (h%2) l).W) ((LP (w%2) (h%2) l).H) 1 1 2 (((q%21):Nat):Int) 0 0 (LP (w%2) (h%2) l) (LP (w%2) (h%2) l))]:=(hD.get 0 rfl rfl rfl).2 (by decide)
     exact(LY rfl bl rfl ⟨rfl,KR.refl _ _⟩)
    refine LO ?_ ?_
    ·refine Mr.alloc rfl rfl rfl rfl rfl fun F_ w_ hR=>?_
     exact OY (n:=5) (vs:=[iv 0,iv 0,.slice none 0 0,.slice none 0 0,.slice none 0 0]) rfl (by kernel_rfl) ⟨_,rfl,Nat.le_refl _,heap_alloc_new _ _,(KR.refl _ _).alloc _⟩
    refine LO ?_ ?_
    ·refine Mr.store rfl rfl rfl rfl rfl fun g_ p_ F_ w_ hR hout hD hO_ hZ_ hQ_=>?_
     have eE:F_ 18=pt p_ 0:=(hD.get 0 rfl rfl rfl).1 rfl
     have eF:F_ 96 = .agg #[iv ((MF (Mi ((LG ND N)++(Ln ((LG ND N).length)))) ((LP (w%2) (h%2) l).W) ((LP (w%2) (h%2) l).H) 1 1 2 (((q%21):Nat):Int) 0 0 (LP (w%2) (h%2) l) (LP (w%2) (h%2) l)).W),iv ((MF (Mi ((LG ND N)++(Ln ((LG ND N).length)))) ((LP (w%2) (h%2) l).W) ((LP (w%2) (h%2) l).H) 1 1 2 (((q%21):Nat):Int) 0 0 (LP (w%2) (h%2) l) (LP (w%2) (h%2) l)).H),g_.2.1,g_.2.2.2.1,g_.2.2.2.2.2.1]:=(hD.get 1 rfl rfl rfl).2 (by decide)
     exact Pr (us:=[iv ((MF (Mi ((LG ND N)++(Ln ((LG ND N).length)))) ((LP (w%2) (h%2) l).W) ((LP (w%2) (h%2) l).H) 1 1 2 (((q%21):Nat):Int) 0 0 (LP (w%2) (h%2) l) (LP (w%2) (h%2) l)).W),iv ((MF (Mi ((LG ND N)++(Ln ((LG ND N).length)))) ((LP (w%2) (h%2) l).W) ((LP (w%2) (h%2) l).H) 1 1 2 (((q%21):Nat):Int) 0 0 (LP (w%2) (h%2) l) (LP (w%2) (h%2) l)).H),g_.2.1,g_.2.2.2.1,g_.2.2.2.2.2.1]) La rfl eE eF hZ_ rfl (Qc rr (L4 (hQ_.1.1).one (L4 (hQ_.2.1.1).one (L4 (hQ_.2.2.1.1).one MX)))) fun w2_ b_ k_=>⟨rfl,k_,b_⟩
    refine LO ?_ ?_
    ·refine Mr.one rfl rfl rfl rfl rfl fun g_ p_ F_ w_ hR hout hD=>?_
     have eG:F_ 97=iv (N5 (Mi ((LG ND N)++(Ln ((LG ND N).length)))) ((LP (w%2) (h%2) l).W) ((LP (w%2) (h%2) l).H) 1 1 2 (((q%21):Nat):Int) 0 0 (LP (w%2) (h%2) l) (LP (w%2) (h%2) l)):=(hD.get 0 rfl rfl rfl).2 (by decide)
     exact(Pv rfl eG ⟨rfl,KR.refl _ _⟩)
    exact Vu
   intro fC eH cn fD co aC cq fE eI eJ bm eK cr ct aN
   obtain⟨aO,aD,aP,aE,aQ,aF⟩:=eH
   obtain⟨cu,cv,cw,cy,eL,eM,eN,eO⟩:=Yf cq bc bd be bf bg bh bi bb
   obtain⟨⟨bn,cz⟩,⟨bo,cA⟩,⟨bp,cB⟩,cC,cD,cE⟩:=eI
   replace bn:Md aC aD aO ((MF (Mi ((LG ND N)++(Ln ((LG ND N).length)))) ((LP (w%2) (h%2) l).W) ((LP (w%2) (h%2) l).H) 1 1 2 (((q%21):Nat):Int) 0 0 (LP (w%2) (h%2) l) (LP (w%2) (h%2) l)).p0):=bn
   replace bo:Md aC aE aP ((MF (Mi ((LG ND N)++(Ln ((LG ND N).length)))) ((LP (w%2) (h%2) l).W) ((LP (w%2) (h%2) l).H) 1 1 2 (((q%21):Nat):Int) 0 0 (LP (w%2) (h%2) l) (LP (w%2) (h%2) l)).p1):=bo
   replace bp:Md aC aF aQ ((MF (Mi ((LG ND N)++(Ln ((LG ND N).length)))) ((LP (w%2) (h%2) l).W) ((LP (w%2) (h%2) l).H) 1 1 2 (((q%21):Nat):Int) 0 0 (LP (w%2) (h%2) l) (LP (w%2) (h%2) l)).p2):=bp
   replace cz:KS ae Mb aD:=cz
   replace cA:KS ae Mb aE:=cA
   replace cB:KS ae Mb aF:=cB
   replace cC:KO aD aE:=cC
   replace cD:KO aD aF:=cD
   replace cE:KO aE aF:=cE
   replace bm:MJ aC cn 29 [iv ((MF (Mi ((LG ND N)++(Ln ((LG ND N).length)))) ((LP (w%2) (h%2) l).W) ((LP (w%2) (h%2) l).H) 1 1 2 (((q%21):Nat):Int) 0 0 (LP (w%2) (h%2) l) (LP (w%2) (h%2) l)).W),iv ((MF (Mi ((LG ND N)++(Ln ((LG ND N).length)))) ((LP (w%2) (h%2) l).W) ((LP (w%2) (h%2) l).H) 1 1 2 (((q%21):Nat):Int) 0 0 (LP (w%2) (h%2) l) (LP (w%2) (h%2) l)).H),aO,aP,aQ]:=bm
   obtain⟨eP,cF,eQ,eR,eS⟩:=t5 aN 9 eb 10 bj 118 eh 16 ei 17 en
   have eT:co 18=pt cn 0:=(aN 18).trans (cr 17 rfl)
   have eU:co 19=iv (N5 (Mi ((LG ND N)++(Ln ((LG ND N).length)))) ((LP (w%2) (h%2) l).W) ((LP (w%2) (h%2) l).H) 1 1 2 (((q%21):Nat):Int) 0 0 (LP (w%2) (h%2) l) (LP (w%2) (h%2) l)):=(aN 19).trans (ct 19 (by decide) (by decide))
   clear aN ct cr eK eJ
   refine KK (KM (KL (KN (.agg #[iv ((MF (Mi ((LG NE N)++(Ln ((LG NE N).length)))) ((LP (w%2) (h%2) l).W) ((LP (w%2) (h%2) l).H) 1 1 1 (((q%21):Nat):Int) 0 0 (LP (w%2) (h%2) l) (FD.mk 0 0 ([]) ([]) ([]))).W),iv ((MF (Mi ((LG NE N)++(Ln ((LG NE N).length)))) ((LP (w%2) (h%2) l).W) ((LP (w%2) (h%2) l).H) 1 1 1 (((q%21):Nat):Int) 0 0 (LP (w%2) (h%2) l) (FD.mk 0 0 ([]) ([]) ([]))).H),aK,aL,aM]) rr (KX La rfl eR eO rr) (KN (.agg #[iv ((LP (w%2) (h%2) l).W),iv ((LP (w%2) (h%2) l).H),aa,ab,ac]) rr (KX La rfl cF cy rr) (LH (R:=fun v_ w_=>v_ = .bool true/\KR (fun _=>False) aC w_) rfl rfl (LQ rfl rfl rfl (fun _ _=>by kernel_rfl) (K6 _) (Lo rfl (Lo rfl L5)) (Vh (MF (Mi ((LG NE N)++(Ln ((LG NE N).length)))) ((LP (w%2) (h%2) l).W) ((LP (w%2) (h%2) l).H) 1 1 1 (((q%21):Nat):Int) 0 0 (LP (w%2) (h%2) l) (FD.mk 0 0 ([]) ([]) ([]))) aK aL aM (LP (w%2) (h%2) l) aa ab ac aw az aA af ah ai _  eL.byt eM.byt eN.byt cu.byt cv.byt cw.byt ) (fun e_ w_ h_=>⟨_,h_.1,congrArg Value.bool h4.out.2,h_.2⟩)) ?_)))))
   rintro _ eV ⟨rfl,cG⟩
   obtain⟨eW,eX,eY,eZ,e6,e7,e8,e9⟩:=Yf cG cu cv cw cy bn bo bp bm
   refine KN (.bool true) rr (KT rfl rfl rr) (Lj (.agg #[iv ((MF (Mi ((LG ND N)++(Ln ((LG ND N).length)))) ((LP (w%2) (h%2) l).W) ((LP (w%2) (h%2) l).H) 1 1 2 (((q%21):Nat):Int) 0 0 (LP (w%2) (h%2) l) (LP (w%2) (h%2) l)).W),iv ((MF (Mi ((LG ND N)++(Ln ((LG ND N).length)))) ((LP (w%2) (h%2) l).W) ((LP (w%2) (h%2) l).H) 1 1 2 (((q%21):Nat):Int) 0 0 (LP (w%2) (h%2) l) (LP (w%2) (h%2) l)).H),aO,aP,aQ]) 3 true 101 Li (KX La rfl eT e9 rr) (Lj (.agg #[iv ((LP (w%2) (h%2) l).W),iv ((LP (w%2) (h%2) l).H),aa,ab,ac]) 3 true 101 Li (KX La rfl cF eZ rr) (LZ (R:=fun v_ w_=>v_ = .bool true/\KR (fun _=>False) eV w_) 3 true 101 rfl rfl rfl rfl rfl (LQ rfl rfl rfl (fun _ _=>by kernel_rfl) (K6 _) (Lo rfl (Lo rfl L5)) (Vh (MF (Mi ((LG ND N)++(Ln ((LG ND N).length)))) ((LP (w%2) (h%2) l).W) ((LP (w%2) (h%2) l).H) 1 1 2 (((q%21):Nat):Int) 0 0 (LP (w%2) (h%2) l) (LP (w%2) (h%2) l)) aO aP aQ (LP (w%2) (h%2) l) aa ab ac aD aE aF af ah ai _  e6.byt e7.byt e8.byt eW.byt eX.byt eY.byt ) (fun e_ w_ h_=>⟨_,h_.1,congrArg Value.bool h6.out.2,h_.2⟩)) ?_)))
   rintro _ fG ⟨rfl,fa⟩
   refine KN (.bool true) rr (LB rfl rfl rfl rr) (Lb (.bool true) LE (KQ ?_))
   have fb:=K4 (.bool true)
   refine KK (KM (KL (K2 Lw eP (KN (.bool true) rr (KT rfl rfl rr) (Lj (iv (N5 (Mi ((LG NE N)++(Ln ((LG NE N).length)))) ((LP (w%2) (h%2) l).W) ((LP (w%2) (h%2) l).H) 1 1 1 (((q%21):Nat):Int) 0 0 (LP (w%2) (h%2) l) (FD.mk 0 0 ([]) ([]) ([])))) 1 true 107 Li (KT rfl eS rr) (Lj (.bool true) 1 true 107 Li (MA rfl rfl rfl (decide_eq_true h4.out.1) rr) (KN (.bool true) rr (LB rfl rfl rfl rr) (KN (.bool true) rr (KT rfl rfl rr) (Lj (iv (N5 (Mi ((LG ND N)++(Ln ((LG ND N).length)))) ((LP (w%2) (h%2) l).W) ((LP (w%2) (h%2) l).H) 1 1 2 (((q%21):Nat):Int) 0 0 (LP (w%2) (h%2) l) (LP (w%2) (h%2) l))) 5 true 111 Li (KT rfl eU rr) (Lj (.bool true) 5 true 111 Li (MA rfl rfl rfl (decide_eq_true h6.out.1) rr) (KN (.bool true) rr (LB rfl rfl rfl rr) ?_)))))))))))
   refine KN (.bool true) rr (KT rfl rfl rr) (Lj (.bool true) 9 true 115 Li (KT rfl fb rr) (KN (.bool true) rr (LB rfl rfl rfl rr) (Lb (.bool true) LE (KQ ?_))))
   have fc:=K4 (.bool true)
   refine KK (Le ?_)
   exact LC (v:=.bool true) eQ rfl rfl fc ⟨rfl,(((aB.tr cq).tr cG).tr fa)⟩
open Go.ChangeShapes Go.WideShapes Go.ChangeAt Go.RowKit
section
variable {H:Type} {enc:TypeId×Value->H} {w:World} {base:Nat} {spare:Nat->Bool} {held:Bool}
theorem MG.of_row{a:Option Addr}{len cap:Nat}{zs:List Int}
  (h:(a=none/\len=0/\cap=0/\zs=[])\/∃ x,a=some x/\len<=cap/\cap<=maxLen/\len<=zs.length/\(∀ i,i<zs.length->w.cell? (x.add i)=some (.int .u8 (zs.getD i 0)))/\∀ n∈zs,(Lit.int .u8 n).wf=true) :
  ∃ l:List Nat,MG w (.slice a len cap) l:=by
 rcases h with ⟨rfl,rfl,rfl,rfl⟩ | ⟨x,rfl,hlc,hcm,hz,hcell,hwf⟩
 ·exact⟨[],MG.nil w⟩
 ·have hlen:((zs.take len).map Int.toNat).length=len:=by simp;omega
  refine⟨(zs.take len).map Int.toNat,some x,cap,by rw[hlen],by rw[hlen];exact hlc,hcm,by simp,?_,?_⟩
  ·intro y hy
   obtain⟨z,hz1,rfl⟩:=List.mem_map.1 hy
   have:=bounds_u8 (hwf z (List.mem_of_mem_take hz1))
   omega
  ·intro hpos
   rw[hlen] at hpos
   have hpos':0<zs.length:=by omega
   obtain⟨b,off,rfl,hc⟩:=ints_at hcell hpos'
   refine⟨b,off,rfl,World.block_lt_of_cell? w _ (hc 0 hpos'),fun i hi=>?_⟩
   rw[hlen] at hi
   have hi':i<zs.length:=by omega
   rw[hc i hi']
   have hwi:=bounds_u8 (hwf zs[i] (List.getElem_mem hi'))
   simp[List.getD,hi',hi]
   omega
theorem ay7{fuel:Nat}{v:Value}{x:DataW H×List MemPlace}
  (h:DataW.trod enc Tryz.prog w base spare held fuel 26 [v]=some x):∃ l:List Nat,MG w v l:=by
 rcases open_ints Tryz.underlying26 Tryz.underlying5 (by kernel_rfl) h with ⟨hcs,_⟩ | ⟨a,len,cap,zs,hcs,_,hl,hm,hz,_,hcell,hwz⟩
 ·simp at hcs
  subst hcs
  exact⟨[],MG.nil w⟩
 ·simp at hcs
  subst hcs
  exact MG.of_row (.inr ⟨a,rfl,hl,hm,by have:=hz;split at this <;> omega,hcell,hwz⟩)
end
open Go.RowKit
theorem ayW{n:Int}(h:(Lit.int .u8 n).wf=true):∃ m:Nat,n=(m:Int)/\m<256:=by
 have:=bounds_u8 h
 exact⟨n.toNat,by omega,by omega⟩
end Go.Proofs.YtknjpdcpmpfklaaGreatDoor
