/- What PictureEnds reaches of my texts, part 9. -/
import Derived.Test.YtknjpdcpmpfklaaGreatDoorPictureEndsH
set_option maxRecDepth 100000
set_option maxHeartbeats 4000000
set_option maxRecDepth 100000
namespace Go.Proofs.YtknjpdcpmpfklaaGreatDoor
open Go.RowKit
theorem aCb{l:List Nat}{W H K:Int}(h:(OT l K W H).2=0):(OT l K W H).1.length=N4 W H 3:=by
 have hz:(Nw l K W H 3).2.1=0:=by
  apply Decidable.byContradiction;intro hn
  rw[Tv (Nat.le_refl 3) hn] at h;exact hn h
 unfold OT at h ⊢
 rw[if_pos hz] at h ⊢
 split at h
 ·rename_i hd;rw[if_pos hd];exact XK 3 hz
 ·cases h
theorem ayV{W H:Int}(h1:NN W)(h2:NN H):Sc W H=0:=Tx (PC h1) (PC h2)
theorem WD(W H R B K Q D F:Int)(v:Value)(l:List Nat)(g:FD)(g0 g1 g2:Value)(h:FD)(h0 h1 h2:Value)(T_b:Nat->Prop)(T_g0:Nat->Prop)(T_g1:Nat->Prop)(T_g2:Nat->Prop)(T_h0:Nat->Prop)(T_h1:Nat->Prop)(T_h2:Nat->Prop)(w0:World)(hA:NO w0)(hO:Of w0)(hs:NU w0)(hw:Qg w0)(hl:l.length<=1001)(h_b:Mh w0 T_b v (l))(h_g0:Mh w0 T_g0 g0 ((g).p0))(h_g1:Mh w0 T_g1 g1 ((g).p1))(h_g2:Mh w0 T_g2 g2 ((g).p2))(h_h0:Mh w0 T_h0 h0 ((h).p0))(h_h1:Mh w0 T_h1 h1 ((h).p1))(h_h2:Mh w0 T_h2 h2 ((h).p2)) :
  Calls Tryz.prog 12 #[.agg #[.int .i64 (W),.int .i64 (H),.int .i64 (R),.int .i64 (B)],.agg #[.int .i64 (K),.int .i64 (Q),.int .i64 (D),.int .i64 (F)],v,.agg #[.int .i64 ((g).W),.int .i64 ((g).H),g0,g1,g2],.agg #[.int .i64 ((h).W),.int .i64 ((h).H),h0,h1,h2]] w0 fun e w'=>∃ (v1:Value) (T1:Nat->Prop) (v2:Value) (T2:Nat->Prop) (v3:Value) (T3:Nat->Prop),e = .returned (.tuple #[.agg #[.int .i64 ((OC l W H R B K Q D F g h).W),.int .i64 ((OC l W H R B K Q D F g h).H),v1,v2,v3],.int .i64 (Qw l W H R B K Q D F g h)])/\KO (fun _=>False) w0 w'/\(L3 w' T1 v1 ((OC l W H R B K Q D F g h).p0)/\KP w0 LX T1)/\(L3 w' T2 v2 ((OC l W H R B K Q D F g h).p1)/\KP w0 LX T2)/\(L3 w' T3 v3 ((OC l W H R B K Q D F g h).p2)/\KP w0 LX T3)/\KK T1 T2/\KK T1 T3/\KK T2 T3:=by
 refine X2 (args:=[.agg #[iv W,iv H,iv R,iv B],.agg #[iv K,iv Q,iv D,iv F],v,.agg #[iv (g.W),iv (g.H),g0,g1,g2],.agg #[iv (h.W),iv (h.H),h0,h1,h2]]) 92 Tryz.func12 rfl rfl (Nat.le_of_ble_eq_true rfl) ?_
 have g_b:=KP.refl w0 T_b
 have g_g0:=KP.refl w0 T_g0
 have g_g1:=KP.refl w0 T_g1
 have g_g2:=KP.refl w0 T_g2
 have g_h0:=KP.refl w0 T_h0
 have g_h1:=KP.refl w0 T_h1
 have g_h2:=KP.refl w0 T_h2
 refine KJ (KH (Lz (vs:=[iv W,iv H,iv R,iv B]) rfl rfl rfl rfl fun p1 w2 B4 g5 k3=>?_))
 obtain⟨gP,gQ,gR,gS,gT,gU,gV⟩:=Tz k3 h_b h_g0 h_g1 h_g2 h_h0 h_h1 h_h2
 refine Lz (vs:=[iv K,iv Q,iv D,iv F]) rfl rfl rfl rfl fun ak r9 gW sb df=>?_
 obtain⟨gZ,hP,hQ,hZ,ia,ib,ie,ig⟩:=YR df gP gQ gR gS gT gU gV B4
 refine Lz (vs:=[iv (g.W),iv (g.H),g0,g1,g2]) rfl rfl rfl rfl fun ap sc ii sd dg=>?_
 obtain⟨ij,ik,io,ip,iq,ir,iu,iw,iy⟩:=ayQ dg gZ hP hQ hZ ia ib ie ig gW
 refine Lz (vs:=[iv (h.W),iv (h.H),h0,h1,h2]) rfl rfl rfl rfl fun aq se iz dh di=>?_
 obtain⟨iA,iB,iC,iD,iE,iF,iG,iH,iI,iJ⟩:=Tw di ij ik io ip iq ir iu iw iy ii
 have dj:=((((KO.refl (fun _=>False) w0).tr k3).tr df).tr dg).tr di
 refine LF (n:=5) (vs:=[iv 0,iv 0,.slice none 0 0,.slice none 0 0,.slice none 0 0]) rfl rfl rfl (by kernel_rfl) fun ai sf dk iK dl=>?_
 have bj:=KP.new dj iK
 obtain⟨iL,iM,iN,iO,iP,iQ,iR,iS,iT,iU,iV⟩:=az3 dl iA iB iC iD iE iF iG iH iI iJ iz
 have dm:=dj.tr dl
 refine Ou (v:=iv 0) rfl rfl rfl (by kernel_rfl) rfl fun aj sg iW dn dp=>?_
 have bl:=KP.new dm dn
 have aB:=KK.new dn (LT dk.lt)
 obtain⟨iX,iY,iZ,ja,jb,jc,jd,dq,dr,je,jf,jg⟩:=aAR dp iL iM iN iO iP iQ iR iS iT iU iV dk
 refine KM ?_
 have jh:=K4 (.agg #[iv W,iv H,iv R,iv B])
 have ji:=K4 (.agg #[iv K,iv Q,iv D,iv F])
 have dt:=K4 (v)
 have jj:=K4 (.agg #[iv (g.W),iv (g.H),g0,g1,g2])
 have jk:=K4 (.agg #[iv (h.W),iv (h.H),h0,h1,h2])
 have bm:=K4 (undef)
 have aC:=K4 (pt p1 0)
 have aV:=K4 (pt ak 0)
 have bY:=K4 (pt ap 0)
 have bZ:=K4 (pt aq 0)
 have aD:=K4 (pt ai 0)
 have aE:=K4 (pt aj 0)
 refine KG (KJ (KJ (KH (KI (.agg #[iv W,iv H,iv R,iv B]) rfl rfl (KZ My rfl aC dq rr) (KI (.agg #[iv K,iv Q,iv D,iv F]) rfl rfl (KZ Pj rfl aV dr rr) (LW rfl rfl rfl rfl rfl (fun _ _=>by kernel_rfl) (Lk rfl (Lk rfl LR)) (Yt W H R B K Q D F  _   ) fun du dv=>?_))))))
 obtain⟨jl,b7,b8,b9,cd,ce,cf,cg,ci,cj,cm,cn,co⟩:=Yf dv iX iY iZ ja jb jc jd dq dr je jf jg iW
 have cq:=(dm.tr dp).tr dv
 refine KI (iv (Rd W H R B K Q D F)) rfl rfl (KS rfl rfl rr) (KM ?_)
 have cr:=K4 (iv (Rd W H R B K Q D F))
 refine KG (KJ (KH (KR rfl rfl rfl cr (KI (.bool (decide ((Rd W H R B K Q D F)≠0))) rfl rfl (Mb rfl rfl rfl rfl rr) (KM ?_)))))
 have dw:=K4 (.bool (decide ((Rd W H R B K Q D F)≠0)))
 refine KG ?_
 refine K6 dw (fun aW=>?_) (fun aW=>?_)
 ·replace aW:=of_decide_eq_true aW
  refine KJ ?_
  have hmn:=ZZ (W:=W) (H:=H) (R:=R) (B:=B) (K:=K) (Q:=Q) (D:=D) (F:=F) (by assumption)
  have hE:=aAz (l:=l) (g:=g) (h:=h) hmn
  have hFr:=WY (l:=l) (W:=W) (H:=H) (R:=R) (B:=B) (K:=K) (Q:=Q) (D:=D) (F:=F) (g:=g) (h:=h) (by rw[hE];decide)
  refine KH (KI (.agg #[iv 0,iv 0,.slice none 0 0,.slice none 0 0,.slice none 0 0]) rfl rfl (LZ (l':=[]) (cells:=#[iv 0,iv 0,.slice none 0 0,.slice none 0 0,.slice none 0 0]) rfl Rv (by kernel_rfl) rfl rr) (KR rfl rfl rfl cr (Lj (us:=[iv 0,iv 0,.slice none 0 0,.slice none 0 0,.slice none 0 0]) Lc rfl rfl rfl aD rfl cn rfl (KX rfl (KX rfl (KX rfl (KX rfl (KX rfl MG))))) fun si jm dy=>?_)))
  have jn:=co.all dy (aB aj rfl)
  refine L5 rfl rfl rfl aE rfl jn (by rfl) (by kernel_rfl) fun sj jo dz=>?_
  have jp:=jm.all dz (aB.symm ai rfl)
  refine KM ?_
  refine KG (Lb (Lq ?_))
  exact Rj (ms:=[]) (Eq.trans bm (rfl:undef=Oi [])) trivial rfl (MK (vs:=[iv 0,iv 0,.slice none 0 0,.slice none 0 0,.slice none 0 0]) Lc rfl aD jp) (Ox Tryz.underlying33 rfl rfl aE jo) ⟨(.slice none 0 0),LX,(.slice none 0 0),LX,(.slice none 0 0),LX,(by first|exact hfalse.elim|(rw[hE,hFr,NR hmn];rfl)|rw[hE,hFr,NR hmn]|(rw[hE,hFr,← Nc 3 (Nat.le_refl 3)];rfl)|rw[hE,hFr,← Nc 3 (Nat.le_refl 3)]|(rw[hE,hFr];rfl)|rw[hE,hFr]),((cq.trans dy (KP.ok (S:=fun _=>False) bj K3)).trans dz (KP.ok (S:=fun _=>False) bl K3)),⟨(by first|exact hfalse.elim|(rw[hFr,← Nc 3 (Nat.le_refl 3)];exact(L3.nil _))|(rw[hFr];exact(L3.nil _))),(KP.refl _ _)⟩,⟨(by first|exact hfalse.elim|(rw[hFr,← Nc 3 (Nat.le_refl 3)];exact(L3.nil _))|(rw[hFr];exact(L3.nil _))),(KP.refl _ _)⟩,⟨(by first|exact hfalse.elim|(rw[hFr,← Nc 3 (Nat.le_refl 3)];exact(L3.nil _))|(rw[hFr];exact(L3.nil _))),(KP.refl _ _)⟩,KK.none,KK.none,KK.none⟩
 ·replace aW:=of_decide_eq_false aW
  refine Lg (KG (KJ (KJ ?_)))
  have hm:Qy W H R B K Q D F:=ayH (by first|assumption|(apply Decidable.byContradiction;assumption))
  have hsq:=hm.1
  have hsd:=Q4 hm.1
  have hhd:=hm.2
  by_cases dA:¬ ((K≠0/\¬ M5 W H R B g)\/(K=2/\¬ M5 W H R B h))
  ·skip
   refine KH (KI (.agg #[iv W,iv H,iv R,iv B]) rfl rfl (KZ My rfl aC cg rr) (KI (pt ak 0) rfl rfl (KU (n:=1) rfl aV Tryz.underlying25 rfl (by kernel_rfl) (by decide) rfl rr) (KI (iv K) rfl rfl (KY rfl rfl Tryz.underlying3 ci rfl rfl rr) (KI (.agg #[iv (g.W),iv (g.H),g0,g1,g2]) rfl rfl (KZ Lc rfl bY cj rr) (KI (.agg #[iv (h.W),iv (h.H),h0,h1,h2]) rfl rfl (KZ Lc rfl bZ cm rr) (LB (R:=fun v_ w_=>v_ = .bool true/\KO (fun _=>False) du w_) rfl rfl (LH rfl rfl rfl (fun _ _=>by kernel_rfl) (K5 _) (Lk rfl (Lk rfl (Lk rfl (Lk rfl LR)))) (aAD W H R B K g g0 g1 g2 h h0 h1 h2 T_g0 T_g1 T_g2 T_h0 T_h1 T_h2 _  b7 b8 b9 cd ce cf ) (fun e_ w_ h_=>⟨_,h_.1,(congrArg Value.bool (decide_eq_true dA)),h_.2⟩)) ?_))))))
   rintro _ dB ⟨rfl,dC⟩
   obtain⟨dD,jq,jr,js,jt,ju,jv,dE,dF,jw,jx,jy,jz⟩:=Yf dC jl b7 b8 b9 cd ce cf cg ci cj cm cn co
   have ct:=cq.tr dC
   refine KI (.bool false) rfl rfl (L9 rfl rfl rfl rr) (KM ?_)
   have dG:=K4 (.bool false)
   refine KG ?_
   refine K6 (t:=false) dG (fun e=>by cases e) (fun _=>?_)
   refine Lg (KG (KJ ?_))
   have hn:¬ ((K≠0/\¬ M5 W H R B g)\/(K=2/\¬ M5 W H R B h)):=by first|assumption|(apply Decidable.byContradiction;assumption)
   have hEc:=(azJ (l:=l) (g:=g) (h:=h) hm hn).trans (congrArg Prod.snd (N8 hm).symm)
   refine KH (KI (.agg #[iv W,iv H,iv R,iv B]) rfl rfl (KZ My rfl aC dE rr) (KI (.agg #[iv K,iv Q,iv D,iv F]) rfl rfl (KZ Pj rfl aV dF rr) (KR rfl rfl rfl dt (LB (R:=fun v_ w_=>∃ (ao:Value) (av:Nat->Prop),.tuple #[ao,iv ((ME l W H R B K Q D F).2)]=v_/\KO (fun _=>False) dB w_/\(QX TL w_ av ao ((ME l W H R B K Q D F).1)/\KP dB LX av)) rfl rfl (LH rfl rfl rfl (fun _ _=>by kernel_rfl) (K5 _) (Lk rfl (Lk rfl (Lk rfl LR))) (Pi W H R B K Q D F v l T_b _ (hA.all ct) (hO.all ct) (by first|omega|(simp;omega)) dD ) (fun e_ w_ h_=>by obtain⟨v292_,T295_,he_,hr_⟩:=h_;exact⟨_,he_,v292_,T295_,rfl,hr_⟩)) ?_))))
   rintro _ sk ⟨ao,av,rfl,dH,⟨dI,sl⟩⟩
   obtain⟨dJ,dK,dL,dM,dN,dO,dP,dQ,dR,dS,dT,dU,dV⟩:=Yf dH dD jq jr js jt ju jv dE dF jw jx jy jz
   have dW:=ct.tr dH
   refine KI (.tuple #[ao,iv ((ME l W H R B K Q D F).2)]) rfl rfl (KQ rfl rfl rr) (KI ao rfl rfl (LL rfl rfl rfl rr) (KI (iv ((ME l W H R B K Q D F).2)) rfl rfl (LL rfl rfl rfl rr) (Ou (v:=.slice none 0 0) rfl rfl rfl (by kernel_rfl) rfl fun ar sm jA dX dY=>?_)))
   obtain⟨jB,jC,jD,jE,jF,jG,jH,jI,jJ,jK,jL,jM,jN,jO⟩:=RT dX dJ dK dL dM dN dO dP dQ dR dS dT dU dV dI
   obtain⟨jP,jQ,jR,jS,jT,jU,jV,jW,jX,jY,jZ,j0,j1,dZ⟩:=Ph dY dJ dK dL dM dN dO dP dQ dR dS dT dU dV dI
   refine L5 rfl rfl rfl rfl rfl jA dZ.oneC (by kernel_rfl) fun aX bn am=>?_
   have bo:=jP.all am jB.symm
   have bp:=jQ.all am jC.symm
   have bq:=jR.all am jD.symm
   have bt:=jS.all am jE.symm
   have bu:=jT.all am jF.symm
   have bv:=jU.all am jG.symm
   have bz:=jV.all am jH.symm
   have aK:=jW.all am (jI.symm p1 rfl)
   have bA:=jX.all am (jJ.symm ak rfl)
   have bB:=jY.all am (jK.symm ap rfl)
   have bC:=jZ.all am (jL.symm aq rfl)
   have aY:=j0.all am (jM.symm ai rfl)
   have aZ:=j1.all am (jN.symm aj rfl)
   have j2:=dZ.all am jO.symm
   have a8:=(dW.tr dY).trans am (KP.ok (S:=fun _=>False) (KP.new dW dX) K3)
   refine KI (iv ((ME l W H R B K Q D F).2)) rfl rfl (KS rfl rfl rr) (KM ?_)
   have j3:=K4 (pt ar 0)
   have d8:=K4 (iv ((ME l W H R B K Q D F).2))
   refine KG (KJ (KJ (KH (KR rfl rfl rfl d8 (KI (.bool (decide (((ME l W H R B K Q D F).2)≠0))) rfl rfl (Mb rfl rfl rfl rfl rr) (KM ?_))))))
   have d9:=K4 (.bool (decide (((ME l W H R B K Q D F).2)≠0)))
   refine KG ?_
   refine K6 d9 (fun a9=>?_) (fun a9=>?_)
   ·replace a9:=of_decide_eq_true a9
    refine KJ ?_
    have hE:=hEc
    have hFr:=WY (l:=l) (W:=W) (H:=H) (R:=R) (B:=B) (K:=K) (Q:=Q) (D:=D) (F:=F) (g:=g) (h:=h) (by rw[hE];assumption)
    refine KH (KI (.agg #[iv 0,iv 0,.slice none 0 0,.slice none 0 0,.slice none 0 0]) rfl rfl (LZ (l':=[]) (cells:=#[iv 0,iv 0,.slice none 0 0,.slice none 0 0,.slice none 0 0]) rfl Rv (by kernel_rfl) rfl rr) (KR rfl rfl rfl d8 (Lj (us:=[iv 0,iv 0,.slice none 0 0,.slice none 0 0,.slice none 0 0]) Lc rfl rfl rfl aD rfl aY rfl (KX rfl (KX rfl (KX rfl (KX rfl (KX rfl MG))))) fun sn j4 eb=>?_)))
    have j5:=aZ.all eb (aB aj rfl)
    refine L5 rfl rfl rfl aE rfl j5 (by rfl) (by kernel_rfl) fun so j6 ee=>?_
    have j7:=j4.all ee (aB.symm ai rfl)
    refine KM ?_
    refine KG (Lb (Lq ?_))
    exact Rj (ms:=[]) (Eq.trans bm (rfl:undef=Oi [])) trivial rfl (MK (vs:=[iv 0,iv 0,.slice none 0 0,.slice none 0 0,.slice none 0 0]) Lc rfl aD j7) (Ox Tryz.underlying33 rfl rfl aE j6) ⟨(.slice none 0 0),LX,(.slice none 0 0),LX,(.slice none 0 0),LX,(by first|exact hfalse.elim|(rw[hE,hFr,NR hmn];rfl)|rw[hE,hFr,NR hmn]|(rw[hE,hFr,← Nc 3 (Nat.le_refl 3)];rfl)|rw[hE,hFr,← Nc 3 (Nat.le_refl 3)]|(rw[hE,hFr];rfl)|rw[hE,hFr]),((a8.trans eb (KP.ok (S:=fun _=>False) bj K3)).trans ee (KP.ok (S:=fun _=>False) bl K3)),⟨(by first|exact hfalse.elim|(rw[hFr,← Nc 3 (Nat.le_refl 3)];exact(L3.nil _))|(rw[hFr];exact(L3.nil _))),(KP.refl _ _)⟩,⟨(by first|exact hfalse.elim|(rw[hFr,← Nc 3 (Nat.le_refl 3)];exact(L3.nil _))|(rw[hFr];exact(L3.nil _))),(KP.refl _ _)⟩,⟨(by first|exact hfalse.elim|(rw[hFr,← Nc 3 (Nat.le_refl 3)];exact(L3.nil _))|(rw[hFr];exact(L3.nil _))),(KP.refl _ _)⟩,KK.none,KK.none,KK.none⟩
   ·replace a9:=of_decide_eq_false a9
    refine Lg (KG (KJ ?_))
    have hE:Qw l W H R B K Q D F g h=0:=hEc.trans (by first|assumption|(apply Decidable.byContradiction;assumption))
    have hFr:=az4 hE
    have hc0:(OT l K W H).2=0:=by have h_:=hEc.symm.trans hE;rw[N8 hm] at h_;exact h_
    have hlo0:=aCb hc0
    have hmay:=aAl (l:=l) (W:=W) (H:=H) (aAy hm.2)
    obtain⟨L,hL⟩:∃ L,L=(OT l K W H).1:=⟨_,rfl⟩
    rw[← hL] at hlo0 hFr hmay
    have hnw:=ayV hm.1.1 hm.1.2.1
    have bD:QX TL aX av ao L:=(by rw[hL,← congrArg Prod.fst (N8 (l:=l) hm)];exact j2)
    refine KH (KI (pt p1 0) rfl rfl (KU (n:=1) rfl aC Tryz.underlying23 rfl (by kernel_rfl) (by decide) rfl rr) (KI (iv W) rfl rfl (KY rfl rfl Tryz.underlying3 aK rfl rfl rr) (KI (pt p1 1) rfl rfl (KU (n:=1) rfl aC Tryz.underlying23 rfl (by kernel_rfl) (by decide) rfl rr) (KI (iv H) rfl rfl (KY rfl rfl Tryz.underlying3 aK rfl rfl rr) (LB (R:=fun v_ w_=>∃ (aF:Value) (aL:Nat->Prop) (aG:Value) (aM:Nat->Prop) (aH:Value) (aN:Nat->Prop),.tuple #[.agg #[iv ((LG W H 0).W),iv ((LG W H 0).H),aF,aG,aH],iv (Sc W H)]=v_/\KO (fun _=>False) aX w_/\(L3 w_ aL aF ((LG W H 0).p0)/\KP aX LX aL)/\(L3 w_ aM aG ((LG W H 0).p1)/\KP aX LX aM)/\(L3 w_ aN aH ((LG W H 0).p2)/\KP aX LX aN)/\KK aL aM/\KK aL aN/\KK aM aN) rfl rfl (LH rfl rfl rfl (fun _ _=>by kernel_rfl) (K5 _) (Lk rfl (Lk rfl (Lk rfl LR))) (aAI W H 0  _ (by decide)  ) (fun e_ w_ h_=>by obtain⟨v463_,T468_,v464_,T469_,v465_,T470_,he_,hr_⟩:=h_;exact⟨_,he_,v463_,T468_,v464_,T469_,v465_,T470_,rfl,hr_⟩)) ?_)))))
    rintro _ sp ⟨aF,aL,aG,aM,aH,aN,rfl,cu,⟨eh,cv⟩,⟨ei,cw⟩,⟨ek,cy⟩,j8,j9,ka⟩
    obtain⟨en,eo,ep,er,et,eu,ew,ex,ey,ez,eA,eB,eC,eD⟩:=Ph cu bo bp bq bt bu bv bz aK bA bB bC aY aZ bD
    have eE:=bn.all cu id
    have eF:=a8.tr cu
    obtain⟨kb,kd,ke,kf,kg,ki,kj,kn,ko,kp,kq,kr,ks,kt⟩:=RT cv bo bp bq bt bu bv bz aK bA bB bC aY aZ bD
    have ku:=KK.new cv (LT bn.lt)
    obtain⟨kv,kw,kx,ky,kz,kA,kB,kC,kD,kE,kF,kG,kH,kI⟩:=RT cw bo bp bq bt bu bv bz aK bA bB bC aY aZ bD
    have kJ:=KK.new cw (LT bn.lt)
    obtain⟨kK,kL,kM,kN,kO,kP,kQ,kR,kS,kT,kV,kW,kX,kY⟩:=RT cy bo bp bq bt bu bv bz aK bA bB bC aY aZ bD
    have kZ:=KK.new cy (LT bn.lt)
    refine KI (.tuple #[.agg #[iv ((LG W H 0).W),iv ((LG W H 0).H),aF,aG,aH],iv (Sc W H)]) rfl rfl (KQ rfl rfl rr) (KI (.agg #[iv ((LG W H 0).W),iv ((LG W H 0).H),aF,aG,aH]) rfl rfl (LL rfl rfl rfl rr) (KI (iv (Sc W H)) rfl rfl (LL rfl rfl rfl rr) (LF (n:=5) (vs:=[iv 0,iv 0,.slice none 0 0,.slice none 0 0,.slice none 0 0]) rfl rfl rfl (by kernel_rfl) fun au sq k8 cz cA=>?_)))
    have eG:=KP.new eF cz
    obtain⟨eH,eI,eJ,eK,eL,eM,eN,eO,eP,eQ,eR,eS,eT,eU⟩:=RT cz en eo ep er et eu ew ex ey ez eA eB eC eD
    obtain⟨eV,eW,eX,eY⟩:=Wj cz eE eh ei ek
    obtain⟨la,lc,ld,le,lf,lg,lh,lj,lk,ll,lm,ln,lp,lq⟩:=Ph cA en eo ep er et eu ew ex ey ez eA eB eC eD
    obtain⟨lr,eZ,e6,e7⟩:=OV cA eE eh ei ek
    refine Lj (us:=[iv ((LG W H 0).W),iv ((LG W H 0).H),aF,aG,aH]) Lc rfl rfl rfl rfl rfl k8 rfl (KX rfl (KX rfl (KX eZ.one (KX e6.one (KX e7.one MG))))) fun e8 e9 ah=>?_
    have lu:=la.all ah eH.symm
    have lv:=lc.all ah eI.symm
    have lw:=ld.all ah eJ.symm
    have lx:=le.all ah eK.symm
    have ly:=lf.all ah eL.symm
    have lz:=lg.all ah eM.symm
    have lA:=lh.all ah eN.symm
    have fa:=lj.all ah (eO.symm p1 rfl)
    have lB:=lk.all ah (eP.symm ak rfl)
    have lC:=ll.all ah (eQ.symm ap rfl)
    have lD:=lm.all ah (eR.symm aq rfl)
    have lE:=ln.all ah (eS.symm ai rfl)
    have lF:=lp.all ah (eT.symm aj rfl)
    have lG:=lq.all ah eU.symm
    have lH:=lr.all ah (eV.symm ar rfl)
    have fb:=eZ.all ah eW.symm
    have fc:=e6.all ah eX.symm
    have fd:=e7.all ah eY.symm
    refine KI (iv (Sc W H)) rfl rfl (KS rfl rfl rr) (KM ?_)
    have lJ:=K4 (pt au 0)
    have fe:=K4 (iv (Sc W H))
    refine KG (KJ (KJ (KH (KR rfl rfl rfl fe (KI (.bool (decide ((Sc W H)≠0))) rfl rfl (Mb rfl rfl rfl rfl rr) (KM ?_))))))
    have ff:=K4 (.bool (decide ((Sc W H)≠0)))
    refine KG ?_
    refine K6 ff (fun ba=>?_) (fun ba=>?_)
    ·replace ba:=of_decide_eq_true ba
     refine KJ ?_
     exfalso;omega
    ·replace ba:=of_decide_eq_false ba
     refine Lg (KG (KJ (KJ (KH (KI (.agg #[iv W,iv H,iv R,iv B]) rfl rfl (KZ My rfl aC fa rr) (LB (R:=fun v_ w_=>∃ (aw:Nat) (az:Nat->Prop),.func (.func 60) #[] #[pt aw 0]=v_/\KO (fun _=>False) e8 w_/\(Wz w_ az aw W H R B/\KP e8 LX az)) rfl rfl (LH rfl rfl rfl (fun _ _=>by kernel_rfl) (K5 _) (Lk rfl LR) (WI W H R B  _   ) (fun e_ w_ h_=>by obtain⟨v653_,T656_,he_,hr_⟩:=h_;exact⟨_,he_,v653_,T656_,rfl,hr_⟩)) ?_))))))
     rintro _ ss ⟨aw,az,rfl,cB,⟨cC,lK⟩⟩
     obtain⟨lL,lM,lN,lO,lP,lQ,lR,lS,lT,lU,lV,cD,cE,lW⟩:=Ph cB lu lv lw lx ly lz lA fa lB lC lD lE lF lG
     obtain⟨lX,lY,lZ,l0,l1⟩:=OU cB lH fb fc fd e9
     have bb:=((eF.tr cA).trans ah (KP.ok (S:=fun _=>False) eG K3)).tr cB
     obtain⟨l3,l4,l5,fg⟩:=Wj lK fb fc fd e9
     refine R4 fun cF cG=>?_
     obtain⟨l6,l7,l8,l9,ma,fh,mb,mc,me,mf,bE,bF,mg,mh,mi,mj,ml,fk,mm,mn⟩:=t20 cG 0 jh 1 ji 2 dt 3 jj 4 jk 92 bm 5 aC 6 aV 8 bY 9 bZ 10 aD 11 aE 12 cr 24 dw 33 dG 13 j3 43 d9 15 lJ 14 fe 55 ff
     have fm:cF 59 = .func (.func 60) #[] #[pt aw 0]:=(cG 59).trans rfl
     clear cG
     refine KG (Lm ?_)
     refine Ww (α:=Sd W H) (encs:=fun el=>[iv ((el.m:Nat):Int),.agg #[iv ((el.p:Nat):Int),iv (pX (Lh W el.p) el.i),iv (pY (Lh W el.p) el.i)]]) (U:=fun i=>i≠aw) (S:=fun xs=>xs=M8 W H 3) (Sp:=fun xs=>xs <+: M8 W H 3) (M:=1000) fm (fun _ _=>by kernel_rfl) (Z0 W H R B aw _ hm.1 cC.2) (fun i hi=>Nat.ne_of_gt (Nat.lt_of_lt_of_le cC.2.lt hi)) [60,61] rfl (fun _=>rfl) rfl (fun pre ww=>∃ (ha:Value),∃ (hb:Value),∃ (hc:Value),∃ (aa:Nat->Prop),∃ (ab:Nat->Prop),∃ (ac:Nat->Prop),KO (fun _=>False) w0 ww/\Mh ww T_b v l/\Mh ww T_g0 g0 (g.p0)/\Mh ww T_g1 g1 (g.p1)/\Mh ww T_g2 g2 (g.p2)/\Mh ww T_h0 h0 (h.p0)/\Mh ww T_h1 h1 (h.p1)/\Mh ww T_h2 h2 (h.p2)/\Mz ww p1 23 [iv W,iv H,iv R,iv B]/\Mz ww ak 25 [iv K,iv Q,iv D,iv F]/\Mz ww ap 29 [iv (g.W),iv (g.H),g0,g1,g2]/\Mz ww aq 29 [iv (h.W),iv (h.H),h0,h1,h2]/\Mz ww ai 29 [iv 0,iv 0,.slice none 0 0,.slice none 0 0,.slice none 0 0]/\PO ww aj 33 (iv 0)/\QX TL ww av ao L/\PO ww ar 32 ao/\Mz ww au 29 [iv ((Md g h Q W H L pre).W),iv ((Md g h Q W H L pre).H),ha,hb,hc]/\Wz ww az aw W H R B/\L3 ww aa ha ((Md g h Q W H L pre).p0)/\L3 ww ab hb ((Md g h Q W H L pre).p1)/\L3 ww ac hc ((Md g h Q W H L pre).p2)/\KP w0 LX aa/\KP w0 LX ab/\KP w0 LX ac/\KK aa T_b/\KK aa T_g0/\KK aa T_g1/\KK aa T_g2/\KK aa T_h0/\KK aa T_h1/\KK aa T_h2/\KK aa (Lf p1)/\KK aa (Lf ak)/\KK aa (Lf ap)/\KK aa (Lf aq)/\KK aa (Lf ai)/\KK aa (Lf aj)/\KK aa av/\KK aa (Lf ar)/\KK aa (Lf au)/\KK aa az/\KK aa ab/\KK aa ac/\KK ab T_b/\KK ab T_g0/\KK ab T_g1/\KK ab T_g2/\KK ab T_h0/\KK ab T_h1/\KK ab T_h2/\KK ab (Lf p1)/\KK ab (Lf ak)/\KK ab (Lf ap)/\KK ab (Lf aq)/\KK ab (Lf ai)/\KK ab (Lf aj)/\KK ab av/\KK ab (Lf ar)/\KK ab (Lf au)/\KK ab az/\KK ab ac/\KK ac T_b/\KK ac T_g0/\KK ac T_g1/\KK ac T_g2/\KK ac T_h0/\KK ac T_h1/\KK ac T_h2/\KK ac (Lf p1)/\KK ac (Lf ak)/\KK ac (Lf ap)/\KK ac (Lf aq)/\KK ac (Lf ai)/\KK ac (Lf aj)/\KK ac av/\KK ac (Lf ar)/\KK ac (Lf au)/\KK ac az) (fun pre ww=>KO (fun _=>False) w0 ww/\Mh ww T_b v l/\Mh ww T_g0 g0 (g.p0)/\Mh ww T_g1 g1 (g.p1)/\Mh ww T_g2 g2 (g.p2)/\Mh ww T_h0 h0 (h.p0)/\Mh ww T_h1 h1 (h.p1)/\Mh ww T_h2 h2 (h.p2)/\Mz ww p1 23 [iv W,iv H,iv R,iv B]/\Mz ww ak 25 [iv K,iv Q,iv D,iv F]/\Mz ww ap 29 [iv (g.W),iv (g.H),g0,g1,g2]/\Mz ww aq 29 [iv (h.W),iv (h.H),h0,h1,h2]/\Mz ww ai 29 [iv 0,iv 0,.slice none 0 0,.slice none 0 0,.slice none 0 0]/\PO ww aj 33 (iv 0)/\QX TL ww av ao L/\PO ww ar 32 ao/\Wz ww az aw W H R B/\False) ?_ ?_ ⟨aF,aG,aH,aL,aM,aN,bb,lL,lM,lN,lO,lP,lQ,lR,lS,lT,lU,lV,cD,cE,lW,lX,l1,cC,lY,lZ,l0,(KP.new a8 cv),(KP.new a8 cw),(KP.new a8 cy),kb,kd,ke,kf,kg,ki,kj,kn,ko,kp,kq,kr,ks,kt,ku,eW.symm,l3.symm,j8,j9,kv,kw,kx,ky,kz,kA,kB,kC,kD,kE,kF,kG,kH,kI,kJ,eX.symm,l4.symm,ka,kK,kL,kM,kN,kO,kP,kQ,kR,kS,kT,kV,kW,kX,kY,kZ,eY.symm,l5.symm⟩ (fun el FF WW=>∃ (pa0_:Nat),FF 0 = .agg #[iv W,iv H,iv R,iv B]/\FF 1 = .agg #[iv K,iv Q,iv D,iv F]/\FF 2=v/\FF 3 = .agg #[iv (g.W),iv (g.H),g0,g1,g2]/\FF 4 = .agg #[iv (h.W),iv (h.H),h0,h1,h2]/\FF 5=pt p1 0/\FF 6=pt ak 0/\FF 8=pt ap 0/\FF 9=pt aq 0/\FF 10=pt ai 0/\FF 11=pt aj 0/\FF 12=iv (Rd W H R B K Q D F)/\FF 13=pt ar 0/\FF 14=iv (Sc W H)/\FF 15=pt au 0/\FF 16=iv ((el.m:Nat):Int)/\FF 17=pt pa0_ 0/\FF 24 = .bool (decide ((Rd W H R B K Q D F)≠0))/\FF 33 = .bool false/\FF 43 = .bool (decide (((ME l W H R B K Q D F).2)≠0))/\FF 55 = .bool (decide ((Sc W H)≠0))/\FF 59 = .func (.func 60) #[] #[pt aw 0]/\FF 60=iv ((el.m:Nat):Int)/\FF 61 = .agg #[iv ((el.p:Nat):Int),iv (pX (Lh W el.p) el.i),iv (pY (Lh W el.p) el.i)]/\FF 92=undef/\Mz WW pa0_ 65 [iv ((el.p:Nat):Int),iv (pX (Lh W el.p) el.i),iv (pY (Lh W el.p) el.i)]/\KK (Lf pa0_) T_b/\KK (Lf pa0_) T_g0/\KK (Lf pa0_) T_g1/\KK (Lf pa0_) T_g2/\KK (Lf pa0_) T_h0/\KK (Lf pa0_) T_h1/\KK (Lf pa0_) T_h2/\KK (Lf pa0_) (Lf p1)/\KK (Lf pa0_) (Lf ak)/\KK (Lf pa0_) (Lf ap)/\KK (Lf pa0_) (Lf aq)/\KK (Lf pa0_) (Lf ai)/\KK (Lf pa0_) (Lf aj)/\KK (Lf pa0_) av/\KK (Lf pa0_) (Lf ar)/\KK (Lf pa0_) (Lf au)/\KK (Lf pa0_) az) ?_ ?_ ?_ ?_ ?_
     ·rintro pre A_ B_ row_ ⟨ha,hb,hc,aa,ab,ac,K_,B0_,B1_,B2_,B3_,B4_,B5_,B6_,B7_,B8_,B9_,B10_,B11_,B12_,B13_,B14_,B15_,B16_,B17_,B18_,B19_,g0_,g1_,g2_,a0_,a1_,a2_,a3_,a4_,a5_,a6_,a7_,a8_,a9_,a10_,a11_,a12_,a13_,a14_,a15_,a16_,a17_,a18_,a19_,a20_,a21_,a22_,a23_,a24_,a25_,a26_,a27_,a28_,a29_,a30_,a31_,a32_,a33_,a34_,a35_,a36_,a37_,a38_,a39_,a40_,a41_,a42_,a43_,a44_,a45_,a46_,a47_,a48_,a49_,a50_,a51_,a52_,a53_⟩ hg_ hr_
      exact⟨ha,hb,hc,aa,ab,ac,K_.row hg_ hr_ bb.size,B0_.row hg_ hr_,B1_.row hg_ hr_,B2_.row hg_ hr_,B3_.row hg_ hr_,B4_.row hg_ hr_,B5_.row hg_ hr_,B6_.row hg_ hr_,B7_.row hg_ hr_,B8_.row hg_ hr_,B9_.row hg_ hr_,B10_.row hg_ hr_,B11_.row hg_ hr_,B12_.row hg_ hr_,B13_.row hg_ hr_,B14_.row hg_ hr_,B15_.row hg_ hr_,B16_.row hg_ hr_,B17_.row hg_ hr_,B18_.row hg_ hr_,B19_.row hg_ hr_,g0_,g1_,g2_,a0_,a1_,a2_,a3_,a4_,a5_,a6_,a7_,a8_,a9_,a10_,a11_,a12_,a13_,a14_,a15_,a16_,a17_,a18_,a19_,a20_,a21_,a22_,a23_,a24_,a25_,a26_,a27_,a28_,a29_,a30_,a31_,a32_,a33_,a34_,a35_,a36_,a37_,a38_,a39_,a40_,a41_,a42_,a43_,a44_,a45_,a46_,a47_,a48_,a49_,a50_,a51_,a52_,a53_⟩
     ·rintro pre A_ B_ row_ ⟨K_,B0_,B1_,B2_,B3_,B4_,B5_,B6_,B7_,B8_,B9_,B10_,B11_,B12_,B13_,B14_,B15_,i0_⟩ hg_ hr_
      exact⟨K_.row hg_ hr_ bb.size,B0_.row hg_ hr_,B1_.row hg_ hr_,B2_.row hg_ hr_,B3_.row hg_ hr_,B4_.row hg_ hr_,B5_.row hg_ hr_,B6_.row hg_ hr_,B7_.row hg_ hr_,B8_.row hg_ hr_,B9_.row hg_ hr_,B10_.row hg_ hr_,B11_.row hg_ hr_,B12_.row hg_ hr_,B13_.row hg_ hr_,B14_.row hg_ hr_,B15_.row hg_ hr_,i0_⟩
     ·rintro el FF _ A_ B_ row_ ⟨p0_,s0_,s1_,s2_,s3_,s4_,s5_,s6_,s7_,s8_,s9_,s10_,s11_,s12_,s13_,s14_,s15_,s16_,s17_,s18_,s19_,s20_,s21_,s22_,s23_,s24_,B0_,a0_,a1_,a2_,a3_,a4_,a5_,a6_,a7_,a8_,a9_,a10_,a11_,a12_,a13_,a14_,a15_,a16_⟩ hg_ hr_
      exact⟨p0_,s0_,s1_,s2_,s3_,s4_,s5_,s6_,s7_,s8_,s9_,s10_,s11_,s12_,s13_,s14_,s15_,s16_,s17_,s18_,s19_,s20_,s21_,s22_,s23_,s24_,B0_.row hg_ hr_,a0_,a1_,a2_,a3_,a4_,a5_,a6_,a7_,a8_,a9_,a10_,a11_,a12_,a13_,a14_,a15_,a16_⟩
     ·rintro l_ pre el W_ ⟨ha,hb,hc,aa,ab,ac,mo,fo,fp,fq,ft,fu,fw,fx,fy,fA,fB,fC,fD,fE,fF,fG,fH,fI,fJ,fK,fL,mp,mq,mr,mu,mv,mw,mz,mA,mB,mC,mD,mE,mF,mG,mH,mI,mJ,mK,mL,mM,mN,mO,mP,mQ,mR,mS,mT,mU,mV,mW,mX,mY,mZ,m2,m4,m5,m6,m7,m8,m9,nb,nc,nd,nf,nh,ni,nj,nk,nl,np,nr,nt,nu,nv,nw,nz,nA⟩
      refine KJ (KH (KI (iv ((el.m:Nat):Int)) rfl rfl (KS rfl rfl rr) (KM ?_)))
      have nB:=K4 (undef)
      have nC:=K4 (iv ((el.m:Nat):Int))
      have fM:=K4 (.agg #[iv ((el.p:Nat):Int),iv (pX (Lh W el.p) el.i),iv (pY (Lh W el.p) el.i)])
      have nD:=K4 (iv ((el.m:Nat):Int))
      refine KG (KH (LF (n:=3) (vs:=[iv 0,iv 0,iv 0]) rfl rfl rfl (by kernel_rfl) fun fN su nF cH cI=>?_))
      obtain⟨fO,fP,fQ,fR,fS,fT,fU,fV,fW,fX,fY,fZ,f6,f7⟩:=RT cH fo fp fq ft fu fw fx fy fA fB fC fD fE fF
      obtain⟨f8,f9,ga,nG,nH,nI⟩:=Vr cH fG fH fI fJ fK fL
      obtain⟨nJ,nK,nL,nM,nN,nO,nP,nQ,nR,nU,nV,nW,nX,nY⟩:=Ph cI fo fp fq ft fu fw fx fy fA fB fC fD fE fF
      obtain⟨nZ,n5,n6,n7,n8,n9⟩:=QB cI fG fH fI fJ fK fL
      refine Lj (us:=[iv ((el.p:Nat):Int),iv (pX (Lh W el.p) el.i),iv (pY (Lh W el.p) el.i)]) P4 rfl rfl rfl rfl fM nF rfl (KX rfl (KX rfl (KX rfl MG))) fun sv oa ae=>?_
      have oc:=nJ.all ae fO.symm
      have od:=nK.all ae fP.symm
      have oe:=nL.all ae fQ.symm
      have og:=nM.all ae fR.symm
      have oh:=nN.all ae fS.symm
      have oi:=nO.all ae fT.symm
      have oj:=nP.all ae fU.symm
      have ol:=nQ.all ae (fV.symm p1 rfl)
      have om:=nR.all ae (fW.symm ak rfl)
      have oo:=nU.all ae (fX.symm ap rfl)
      have oq:=nV.all ae (fY.symm aq rfl)
      have ot:=nW.all ae (fZ.symm ai rfl)
      have ou:=nX.all ae (f6.symm aj rfl)
      have ov:=nY.all ae f7.symm
      have ow:=nZ.all ae (f8.symm ar rfl)
      have ox:=n5.all ae (f9.symm au rfl)
      have oy:=n6.all ae ga.symm
      have oz:=n7.all ae nG.symm
      have oA:=n8.all ae nH.symm
      have oB:=n9.all ae nI.symm
      have cJ:=((KO.refl (fun _=>False) W_).trans cI (fun _ _ x=>x.elim)).trans ae (KP.ok (S:=fun _=>False) (KP.new (KO.refl (fun _=>False) W_) cH) K3)
      refine KM ?_
      have oC:=K4 (pt fN 0)
      exact⟨OP.keeps OP.no cJ _,cJ.mono (fun _ _ x=>x.elim),⟨ha,hb,hc,aa,ab,ac,mo.trans cJ (fun _ _ x=>x.elim),oc,od,oe,og,oh,oi,oj,ol,om,oo,oq,ot,ou,ov,ow,ox,oy,oz,oA,oB,mp,mq,mr,mu,mv,mw,mz,mA,mB,mC,mD,mE,mF,mG,mH,mI,mJ,mK,mL,mM,mN,mO,mP,mQ,mR,mS,mT,mU,mV,mW,mX,mY,mZ,m2,m4,m5,m6,m7,m8,m9,nb,nc,nd,nf,nh,ni,nj,nk,nl,np,nr,nt,nu,nv,nw,nz,nA⟩,⟨fN,l6,l7,l8,l9,ma,mb,mc,me,mf,bE,bF,mg,mj,mm,fk,nD,oC,mh,mi,ml,mn,fm,nC,fM,nB,oa,fO,fP,fQ,fR,fS,fT,fU,fV,fW,fX,fY,fZ,f6,f7,f8,f9,ga⟩⟩
     ·rintro l_ pre el sw cK ⟨ha,hb,hc,aa,ab,ac,aI,oD,gb,gc,gd,ge,gh,gi,oE,gj,gl,gm,oF,oG,cL,gn,cM,bc,cN,cO,cP,oH,oI,oJ,sx,sy,sz,sA,sB,sC,sD,sE,sF,sG,sH,sI,sJ,sK,sL,sM,oK,sN,sO,sP,sQ,sR,sS,sT,sU,sV,sW,sX,sY,sZ,ta,tb,tc,td,tf,oL,tg,th,ti,tj,tk,tl,tm,tn,tp,tq,tu,tv,tw,tx,tz,tA,tB,oM⟩ ⟨cQ,tC,tD,tE,tF,tG,tH,oN,oO,oP,tI,tJ,tK,oQ,tL,go,oR,gp,tM,tN,tO,tP,tQ,tS,tT,tU,gq,tV,tW,tX,tY,tZ,ua,ub,uc,ud,ue,uf,ug,uh,ui,uj,uk,ul⟩ hlen_
      have oS:=hA.all aI
      have hs2:=hs.all aI
      have hw2:=hw.all aI
      have hei:=el.hi
      have hwp:=Sg (W:=W) (p:=el.p) hsd.1
      have hwl:=OB (W:=W) (p:=el.p) hsd.2.1
      have hwh:=OB (W:=H) (p:=el.p) hsd.2.2.2.2.1
      have hwn:Lh W el.p*Lh H el.p<=16*16:=Nat.mul_le_mul hwl hwh
      have hxy:=aBi (i:=el.i) hwp hwl (by omega)
      have hml:el.m<L.length:=by rw[hlo0];exact aDA el.hp el.hi
      have hfo:=aD4 (g:=g) (h:=h) (q:=Q) (L:=L) hm.1.1 hm.1.2.1 pre
      have hcp:=aCw (W:=W) (H:=H) (R:=R) (B:=B) (K:=K) (g:=g) (h:=h) hfo.1 hfo.2.1 hfo.2.2 hn ⟨hhd.1,hhd.2.1⟩ (hmay _ (aCr (d:=chZ) hml)) el.hp el.hi
      have hmd:=azY (q:=Q) hcp
      have hme:=hmd.1.trans (WZ ⟨hhd.2.2.1,hhd.2.2.2.1⟩)
      have hdec:aA2 g h Q (el.p:Int) (Lh W el.p) el.i (L.getD el.m chZ) (Md g h Q W H L pre)=Qi (Md g h Q W H L pre) (el.p:Int) (4*pX (Lh W el.p) el.i) (4*pY (Lh W el.p) el.i) (V8 (Md g h Q W H L pre) g h (el.p:Int) (pX (Lh W el.p) el.i) (pY (Lh W el.p) el.i) (L.getD el.m chZ) Q):=by rw[hmd.2];rfl
      refine Lm (KJ ?_)
      refine QQ (γ:=Unit) [(11,10),(12,10),(13,10),(15,10),(16,10),(15,14),(16,14)] [some 63,some 64,some 65,some 66,some 67,some 68,some 69,some 70,some 71,some 72,some 73,some 62,some 74,some 75,some 18,none,some 19] ⟨fun w_=>True,fun _=>False,fun g_ w_=>True,fun g_=>fun _=>False,fun p_ w_=>NL w_ p_ 69 (fun _=>0),fun g_ p_ w_=>NL w_ p_ 69 (V8 (Md g h Q W H L pre) g h ((el.p:Nat):Int) (pX (Lh W el.p) el.i) (pY (Lh W el.p) el.i) (L.getD (el.m) ⟨0,0,0,0,0,fun _=>0⟩) Q)⟩ (fun _=>False) (fun p_=>cK.heap.size<=p_) [fun g_=>.agg #[iv ((Md g h Q W H L pre).W),iv ((Md g h Q W H L pre).H),ha,hb,hc],fun g_=>.agg #[iv (g.W),iv (g.H),g0,g1,g2],fun g_=>.agg #[iv (h.W),iv (h.H),h0,h1,h2],fun g_=>.agg #[iv ((el.p:Nat):Int),iv (pX (Lh W el.p) el.i),iv (pY (Lh W el.p) el.i)],fun g_=>ao,fun g_=>iv ((el.m:Nat):Int),fun g_=>Nt ao ((el.m)*21),fun g_=>.agg (O1 (L.getD (el.m) ⟨0,0,0,0,0,fun _=>0⟩)).toArray,fun g_=>pt ak 1,fun g_=>iv Q,fun g_=>.tuple #[LJ (V8 (Md g h Q W H L pre) g h ((el.p:Nat):Int) (pX (Lh W el.p) el.i) (pY (Lh W el.p) el.i) (L.getD (el.m) ⟨0,0,0,0,0,fun _=>0⟩) Q),iv (mdE (Md g h Q W H L pre) g h ((el.p:Nat):Int) (pX (Lh W el.p) el.i) (pY (Lh W el.p) el.i) (L.getD (el.m) ⟨0,0,0,0,0,fun _=>0⟩) Q)],fun g_=>.tuple #[LJ (V8 (Md g h Q W H L pre) g h ((el.p:Nat):Int) (pX (Lh W el.p) el.i) (pY (Lh W el.p) el.i) (L.getD (el.m) ⟨0,0,0,0,0,fun _=>0⟩) Q),iv (mdE (Md g h Q W H L pre) g h ((el.p:Nat):Int) (pX (Lh W el.p) el.i) (pY (Lh W el.p) el.i) (L.getD (el.m) ⟨0,0,0,0,0,fun _=>0⟩) Q)],fun g_=>LJ (V8 (Md g h Q W H L pre) g h ((el.p:Nat):Int) (pX (Lh W el.p) el.i) (pY (Lh W el.p) el.i) (L.getD (el.m) ⟨0,0,0,0,0,fun _=>0⟩) Q),fun g_=>iv (mdE (Md g h Q W H L pre) g h ((el.p:Nat):Int) (pX (Lh W el.p) el.i) (pY (Lh W el.p) el.i) (L.getD (el.m) ⟨0,0,0,0,0,fun _=>0⟩) Q),fun _=>undef,fun _=>undef,fun g_=>iv (mdE (Md g h Q W H L pre) g h ((el.p:Nat):Int) (pX (Lh W el.p) el.i) (pY (Lh W el.p) el.i) (L.getD (el.m) ⟨0,0,0,0,0,fun _=>0⟩) Q)] 10 15 (some 14) () 0 (by kernel_rfl) (by kernel_rfl) (by kernel_rfl) (by kernel_rfl) ⟨.inr (.inr fun _ _=>rfl),⟨.inr (.inr fun _ _=>rfl),⟨.inr (.inr fun _ _=>rfl),⟨.inr (.inr fun _ _=>rfl),⟨.inr (.inr fun _ _=>rfl),⟨.inr (.inr fun _ _=>rfl),⟨.inr (.inr fun _ _=>rfl),⟨.inr (.inr fun _ _=>rfl),⟨.inr (.inr fun _ _=>rfl),⟨.inr (.inr fun _ _=>rfl),⟨.inr (.inl rfl),⟨.inl rfl,⟨.inl rfl,⟨.inl rfl,⟨.inr (.inr fun _ _=>rfl),⟨.inl rfl,⟨.inl rfl,trivial⟩⟩⟩⟩⟩⟩⟩⟩⟩⟩⟩⟩⟩⟩⟩⟩⟩ ⟨trivial,fun _ _ _ _ _ _=>trivial,fun _ _ _ z=>z.elim,fun _ _ _ _ _ _ _=>trivial,fun _ _ _ _ z=>z.elim,fun _ _ _ _ h k z=>h.all k z,fun _ _ h=>h.lt,fun _ _ _ _ _ h k z=>h.all k z,fun _ z=>z,fun _ h=>.inr h,fun _ _ z=>z⟩ (fun _ _ _ h=>h) (fun e=>by cases e) ?_ ?_
      ·refine KV ?_ ?_
       ·refine Ln.one rfl rfl rfl rfl fun g_ p_ F_ w_ hR hout hD=>?_
        exact(KZ Lc rfl ((hout 15 rfl (by decide)).trans go) (cM.all hR id) ⟨rfl,KO.refl _ _⟩)
       refine KV ?_ ?_
       ·refine Ln.one rfl rfl rfl rfl fun g_ p_ F_ w_ hR hout hD=>?_
        exact(KZ Lc rfl ((hout 8 rfl (by decide)).trans oO) (gl.all hR id) ⟨rfl,KO.refl _ _⟩)
       refine KV ?_ ?_
       ·refine Ln.one rfl rfl rfl rfl fun g_ p_ F_ w_ hR hout hD=>?_
        exact(KZ Lc rfl ((hout 9 rfl (by decide)).trans oP) (gm.all hR id) ⟨rfl,KO.refl _ _⟩)
       refine KV ?_ ?_
       ·refine Ln.one rfl rfl rfl rfl fun g_ p_ F_ w_ hR hout hD=>?_
        exact(KZ P4 rfl ((hout 17 rfl (by decide)).trans gp) (gq.all hR id) ⟨rfl,KO.refl _ _⟩)
       refine KV ?_ ?_
       ·refine Ln.one rfl rfl rfl rfl fun g_ p_ F_ w_ hR hout hD=>?_
        exact(MC rfl ((hout 13 rfl (by decide)).trans oQ) Tryz.underlying32 (gn.all hR id) rfl ⟨rfl,KO.refl _ _⟩)
       refine KV ?_ ?_
       ·refine Ln.one rfl rfl rfl rfl fun g_ p_ F_ w_ hR hout hD=>?_
        exact(KQ rfl ((hout 16 rfl (by decide)).trans oR) ⟨rfl,KO.refl _ _⟩)
       refine KV ?_ ?_
       ·refine Ln.one rfl rfl rfl rfl fun g_ p_ F_ w_ hR hout hD=>?_
        have oT:F_ 67=ao:=(hD.get 0 rfl rfl rfl).2 (by decide)
        have oU:F_ 68=iv ((el.m:Nat):Int):=(hD.get 1 rfl rfl rfl).2 (by decide)
        exact(aC2 (r:=TL) (el.m) rfl oT oU (by omega) (cL.all hR KK.none).roa hml ⟨rfl,KO.refl _ _⟩)
       refine KV ?_ ?_
       ·refine Ln.one rfl rfl rfl rfl fun g_ p_ F_ w_ hR hout hD=>?_
        have oV:F_ 69=Nt ao ((el.m)*21):=(hD.get 0 rfl rfl rfl).2 (by decide)
        exact(aCy (r:=TL) (n:=21) (el.m) 0 LE rfl oV (cL.all hR KK.none).roa hml (by decide) rfl ⟨rfl,KO.refl _ _⟩)
       refine KV ?_ ?_
       ·refine Ln.one rfl rfl rfl rfl fun g_ p_ F_ w_ hR hout hD=>?_
        exact(KU (n:=1) rfl ((hout 6 rfl (by decide)).trans oN) Tryz.underlying25 rfl (by kernel_rfl) (by decide) rfl ⟨rfl,KO.refl _ _⟩)
       refine KV ?_ ?_
       ·refine Ln.one rfl rfl rfl rfl fun g_ p_ F_ w_ hR hout hD=>?_
        have oW:F_ 71=pt ak 1:=(hD.get 0 rfl rfl rfl).2 (by decide)
        exact(KY rfl oW Tryz.underlying3 (gj.all hR id) rfl rfl ⟨rfl,KO.refl _ _⟩)
       refine KV ?_ ?_
       ·refine Ln.call rfl rfl rfl rfl fun g_ p_ F_ w_ hR hout hD hP_=>?_
        have oX:F_ 63 = .agg #[iv ((Md g h Q W H L pre).W),iv ((Md g h Q W H L pre).H),ha,hb,hc]:=(hD.get 0 rfl rfl rfl).2 (by decide)
        have oY:F_ 64 = .agg #[iv (g.W),iv (g.H),g0,g1,g2]:=(hD.get 1 rfl rfl rfl).2 (by decide)
        have oZ:F_ 65 = .agg #[iv (h.W),iv (h.H),h0,h1,h2]:=(hD.get 2 rfl rfl rfl).2 (by decide)
        have o2:F_ 66 = .agg #[iv ((el.p:Nat):Int),iv (pX (Lh W el.p) el.i),iv (pY (Lh W el.p) el.i)]:=(hD.get 3 rfl rfl rfl).2 (by decide)
        have o3:F_ 70 = .agg (O1 (L.getD (el.m) ⟨0,0,0,0,0,fun _=>0⟩)).toArray:=(hD.get 4 rfl rfl rfl).2 (by decide)
        have o4:F_ 72=iv Q:=(hD.get 5 rfl rfl rfl).2 (by decide)
        exact(LH rfl rfl rfl (fun _ _=>by kernel_rfl) (K5 _) (Lk oX (Lk oY (Lk oZ (Lk o2 (Lk o3 (Lk o4 LR)))))) (aB1 ((el.p:Nat):Int) (pX (Lh W el.p) el.i) (pY (Lh W el.p) el.i) Q (L.getD (el.m) ⟨0,0,0,0,0,fun _=>0⟩) (Md g h Q W H L pre) ha hb hc g g0 g1 g2 h h0 h1 h2 aa ab ac T_g0 T_g1 T_g2 T_h0 T_h1 T_h2 _ (oS.all hR) (hs2.all hR) (hw2.all hR) ⟨hxy.1,hxy.2.1⟩ ⟨hxy.2.2.1,hxy.2.2.2⟩ (cN.all hR KK.none).byt (cO.all hR KK.none).byt (cP.all hR KK.none).byt (gb.all hR KK.none) (gc.all hR KK.none) (gd.all hR KK.none) (ge.all hR KK.none) (gh.all hR KK.none) (gi.all hR KK.none) ) (fun e_ w_ h_=>⟨_,h_.1,(),rfl,h_.2,trivial,fun b hb=>hb.elim⟩))
       refine KV ?_ ?_
       ·refine Ln.one rfl rfl rfl rfl fun g_ p_ F_ w_ hR hout hD=>?_
        have o5:F_ 73 = .tuple #[LJ (V8 (Md g h Q W H L pre) g h ((el.p:Nat):Int) (pX (Lh W el.p) el.i) (pY (Lh W el.p) el.i) (L.getD (el.m) ⟨0,0,0,0,0,fun _=>0⟩) Q),iv (mdE (Md g h Q W H L pre) g h ((el.p:Nat):Int) (pX (Lh W el.p) el.i) (pY (Lh W el.p) el.i) (L.getD (el.m) ⟨0,0,0,0,0,fun _=>0⟩) Q)]:=(hD.get 0 rfl rfl rfl).2 (by decide)
        exact(KQ rfl o5 ⟨rfl,KO.refl _ _⟩)
       refine KV ?_ ?_
       ·refine Ln.one rfl rfl rfl rfl fun g_ p_ F_ w_ hR hout hD=>?_
        have cR:F_ 62 = .tuple #[LJ (V8 (Md g h Q W H L pre) g h ((el.p:Nat):Int) (pX (Lh W el.p) el.i) (pY (Lh W el.p) el.i) (L.getD (el.m) ⟨0,0,0,0,0,fun _=>0⟩) Q),iv (mdE (Md g h Q W H L pre) g h ((el.p:Nat):Int) (pX (Lh W el.p) el.i) (pY (Lh W el.p) el.i) (L.getD (el.m) ⟨0,0,0,0,0,fun _=>0⟩) Q)]:=(hD.get 0 rfl rfl rfl).2 (by decide)
        exact(LL rfl cR rfl ⟨rfl,KO.refl _ _⟩)
       refine KV ?_ ?_
       ·refine Ln.one rfl rfl rfl rfl fun g_ p_ F_ w_ hR hout hD=>?_
        have cR:F_ 62 = .tuple #[LJ (V8 (Md g h Q W H L pre) g h ((el.p:Nat):Int) (pX (Lh W el.p) el.i) (pY (Lh W el.p) el.i) (L.getD (el.m) ⟨0,0,0,0,0,fun _=>0⟩) Q),iv (mdE (Md g h Q W H L pre) g h ((el.p:Nat):Int) (pX (Lh W el.p) el.i) (pY (Lh W el.p) el.i) (L.getD (el.m) ⟨0,0,0,0,0,fun _=>0⟩) Q)]:=(hD.get 0 rfl rfl rfl).2 (by decide)
        exact(LL rfl cR rfl ⟨rfl,KO.refl _ _⟩)
       refine KV ?_ ?_
       ·refine Ln.alloc rfl rfl rfl rfl fun F_ w_ hR=>?_
        exact Xm rfl KW.2.2 ⟨_,rfl,Nat.le_refl _,NL.new _ _ _,(KO.refl _ _).alloc _⟩
       refine KV ?_ ?_
       ·refine Ln.store rfl rfl rfl rfl fun g_ p_ F_ w_ hR hout hD hO_ hZ_ hQ_=>?_
        have o6:F_ 18=pt p_ 0:=(hD.get 0 rfl rfl rfl).1 rfl
        have dh:F_ 74=LJ (V8 (Md g h Q W H L pre) g h ((el.p:Nat):Int) (pX (Lh W el.p) el.i) (pY (Lh W el.p) el.i) (L.getD (el.m) ⟨0,0,0,0,0,fun _=>0⟩) Q):=(hD.get 1 rfl rfl rfl).2 (by decide)
        exact Zo KW.2.1 rfl o6 dh hZ_ fun w2_ b_ k_=>⟨rfl,k_,b_⟩
       refine KV ?_ ?_
       ·refine Ln.one rfl rfl rfl rfl fun g_ p_ F_ w_ hR hout hD=>?_
        have o7:F_ 75=iv (mdE (Md g h Q W H L pre) g h ((el.p:Nat):Int) (pX (Lh W el.p) el.i) (pY (Lh W el.p) el.i) (L.getD (el.m) ⟨0,0,0,0,0,fun _=>0⟩) Q):=(hD.get 0 rfl rfl rfl).2 (by decide)
        exact(KS rfl o7 ⟨rfl,KO.refl _ _⟩)
       exact Nk
      intro um gr un gt bd cS uo uq o8 cT o9 gu gv bG
      obtain⟨bH,bI,bJ,bK,bL,bM,bN,bO,bP,bQ,bR,bS,bT,bU⟩:=Ph cS oD gb gc gd ge gh gi oE gj gl gm oF oG cL
      obtain⟨bV,be,bW,pa,pb,pc,cU⟩:=Tz cS gn cM bc cN cO cP gq
      have bX:=(KO.refl (fun i=>(Lf au) i\/(aa i\/(ab i\/(ac i)))) cK).tr cS
      replace cT:NL bd gr 69 (V8 (Md g h Q W H L pre) g h ((el.p:Nat):Int) (pX (Lh W el.p) el.i) (pY (Lh W el.p) el.i) (L.getD (el.m) ⟨0,0,0,0,0,fun _=>0⟩) Q):=cT
      obtain⟨gw,cV⟩:=t2 bG 15 go 17 gp
      have pd:gt 18=pt gr 0:=(bG 18).trans (gu 14 rfl)
      have pe:gt 19=iv (mdE (Md g h Q W H L pre) g h ((el.p:Nat):Int) (pX (Lh W el.p) el.i) (pY (Lh W el.p) el.i) (L.getD (el.m) ⟨0,0,0,0,0,fun _=>0⟩) Q):=(bG 19).trans (gv 16 (by decide) (by decide))
      clear bG gv gu o9 o8
      refine KG (KJ (KJ (KH (KR rfl rfl rfl pe (KI (.bool (decide ((mdE (Md g h Q W H L pre) g h ((el.p:Nat):Int) (pX (Lh W el.p) el.i) (pY (Lh W el.p) el.i) (L.getD (el.m) ⟨0,0,0,0,0,fun _=>0⟩) Q)≠0))) rfl rfl (Mb rfl rfl rfl rfl rr) (KM ?_))))))
      have pf:=K4 (.bool (decide ((mdE (Md g h Q W H L pre) g h ((el.p:Nat):Int) (pX (Lh W el.p) el.i) (pY (Lh W el.p) el.i) (L.getD (el.m) ⟨0,0,0,0,0,fun _=>0⟩) Q)≠0)))
      refine KG ?_
      refine K6 pf (fun bf=>?_) (fun bf=>?_)
      ·replace bf:=of_decide_eq_true bf
       refine KJ ?_
       exact absurd hme (by assumption)
      ·replace bf:=of_decide_eq_false bf
       refine Lg (KG (KH (KI (.agg #[iv ((Md g h Q W H L pre).W),iv ((Md g h Q W H L pre).H),ha,hb,hc]) rfl rfl (KZ Lc rfl gw be rr) (KI (pt cQ 0) rfl rfl (KU (n:=1) rfl cV Tryz.underlying65 rfl (by kernel_rfl) (by decide) rfl rr) (KI (iv ((el.p:Nat):Int)) rfl rfl (KY rfl rfl Tryz.underlying3 cU rfl rfl rr) (KI (pt cQ 1) rfl rfl (KU (n:=1) rfl cV Tryz.underlying65 rfl (by kernel_rfl) (by decide) rfl rr) (KI (iv (pX (Lh W el.p) el.i)) rfl rfl (KY rfl rfl Tryz.underlying3 cU rfl rfl rr) (KI (iv (4*pX (Lh W el.p) el.i)) rfl rfl (Nj rfl rfl rfl (L2 rfl (by omega)) rr) (KI (pt cQ 2) rfl rfl (KU (n:=1) rfl cV Tryz.underlying65 rfl (by kernel_rfl) (by decide) rfl rr) (KI (iv (pY (Lh W el.p) el.i)) rfl rfl (KY rfl rfl Tryz.underlying3 cU rfl rfl rr) (KI (iv (4*pY (Lh W el.p) el.i)) rfl rfl (Nj rfl rfl rfl (L2 rfl (by omega)) rr) ?_)))))))))))
       refine KI (LJ (V8 (Md g h Q W H L pre) g h ((el.p:Nat):Int) (pX (Lh W el.p) el.i) (pY (Lh W el.p) el.i) (L.getD (el.m) ⟨0,0,0,0,0,fun _=>0⟩) Q)) rfl rfl (LY KW rfl pd cT rr) (LB (R:=fun v_ w_=>∃ (bg:Value) (aO:Nat->Prop) (bh:Value) (aP:Nat->Prop) (bi:Value) (aQ:Nat->Prop),.agg #[iv ((Qi (Md g h Q W H L pre) ((el.p:Nat):Int) (4*pX (Lh W el.p) el.i) (4*pY (Lh W el.p) el.i) (V8 (Md g h Q W H L pre) g h ((el.p:Nat):Int) (pX (Lh W el.p) el.i) (pY (Lh W el.p) el.i) (L.getD (el.m) ⟨0,0,0,0,0,fun _=>0⟩) Q)).W),iv ((Qi (Md g h Q W H L pre) ((el.p:Nat):Int) (4*pX (Lh W el.p) el.i) (4*pY (Lh W el.p) el.i) (V8 (Md g h Q W H L pre) g h ((el.p:Nat):Int) (pX (Lh W el.p) el.i) (pY (Lh W el.p) el.i) (L.getD (el.m) ⟨0,0,0,0,0,fun _=>0⟩) Q)).H),bg,bh,bi]=v_/\KO (fun _=>False) bd w_/\(L3 w_ aO bg ((Qi (Md g h Q W H L pre) ((el.p:Nat):Int) (4*pX (Lh W el.p) el.i) (4*pY (Lh W el.p) el.i) (V8 (Md g h Q W H L pre) g h ((el.p:Nat):Int) (pX (Lh W el.p) el.i) (pY (Lh W el.p) el.i) (L.getD (el.m) ⟨0,0,0,0,0,fun _=>0⟩) Q)).p0)/\KP bd LX aO)/\(L3 w_ aP bh ((Qi (Md g h Q W H L pre) ((el.p:Nat):Int) (4*pX (Lh W el.p) el.i) (4*pY (Lh W el.p) el.i) (V8 (Md g h Q W H L pre) g h ((el.p:Nat):Int) (pX (Lh W el.p) el.i) (pY (Lh W el.p) el.i) (L.getD (el.m) ⟨0,0,0,0,0,fun _=>0⟩) Q)).p1)/\KP bd LX aP)/\(L3 w_ aQ bi ((Qi (Md g h Q W H L pre) ((el.p:Nat):Int) (4*pX (Lh W el.p) el.i) (4*pY (Lh W el.p) el.i) (V8 (Md g h Q W H L pre) g h ((el.p:Nat):Int) (pX (Lh W el.p) el.i) (pY (Lh W el.p) el.i) (L.getD (el.m) ⟨0,0,0,0,0,fun _=>0⟩) Q)).p2)/\KP bd LX aQ)/\KK aO aP/\KK aO aQ/\KK aP aQ) rfl rfl (LH rfl rfl rfl (fun _ _=>by kernel_rfl) (K5 _) (Lk rfl (Lk rfl (Lk rfl (Lk rfl (Lk rfl LR))))) (aDK ((el.p:Nat):Int) (4*pX (Lh W el.p) el.i) (4*pY (Lh W el.p) el.i) (V8 (Md g h Q W H L pre) g h ((el.p:Nat):Int) (pX (Lh W el.p) el.i) (pY (Lh W el.p) el.i) (L.getD (el.m) ⟨0,0,0,0,0,fun _=>0⟩) Q) (Md g h Q W H L pre) ha hb hc aa ab ac _  pa.byt pb.byt pc.byt ) (fun e_ w_ h_=>by obtain⟨v1172_,T1177_,v1173_,T1178_,v1174_,T1179_,he_,hr_⟩:=h_;exact⟨_,he_,v1172_,T1177_,v1173_,T1178_,v1174_,T1179_,rfl,hr_⟩)) ?_)
       rintro _ ut ⟨bg,aO,bh,aP,bi,aQ,rfl,cW,⟨gz,cX⟩,⟨gA,cY⟩,⟨gB,cZ⟩,pg,pi,pj⟩
       obtain⟨pk,pm,po,pp,pq,pu,pz,pA,pB,pC,pD,pE,pF,pG⟩:=Ph cW bH bI bJ bK bL bM bN bO bP bQ bR bS bT bU
       obtain⟨pH,pI,pJ⟩:=Nu cW bV be bW
       obtain⟨pK,pL,pM,pN,pO,pP,pQ,pR,pS,pT,pU,pV,pW,pZ⟩:=RT cX bH bI bJ bK bL bM bN bO bP bQ bR bS bT bU
       obtain⟨qa,gC,qb⟩:=TD cX bV be bW
       obtain⟨qc,qd,qe,qf,qg,qh,qi,qj,qk,ql,qm,qn,qo,qp⟩:=RT cY bH bI bJ bK bL bM bN bO bP bQ bR bS bT bU
       obtain⟨qq,gD,qr⟩:=TD cY bV be bW
       obtain⟨qs,qt,qu,qv,qw,qx,qy,qz,qA,qB,qC,qD,qE,qF⟩:=RT cZ bH bI bJ bK bL bM bN bO bP bQ bR bS bT bU
       obtain⟨qG,gE,qH⟩:=TD cZ bV be bW
       refine Lj (us:=[iv ((Qi (Md g h Q W H L pre) ((el.p:Nat):Int) (4*pX (Lh W el.p) el.i) (4*pY (Lh W el.p) el.i) (V8 (Md g h Q W H L pre) g h ((el.p:Nat):Int) (pX (Lh W el.p) el.i) (pY (Lh W el.p) el.i) (L.getD (el.m) ⟨0,0,0,0,0,fun _=>0⟩) Q)).W),iv ((Qi (Md g h Q W H L pre) ((el.p:Nat):Int) (4*pX (Lh W el.p) el.i) (4*pY (Lh W el.p) el.i) (V8 (Md g h Q W H L pre) g h ((el.p:Nat):Int) (pX (Lh W el.p) el.i) (pY (Lh W el.p) el.i) (L.getD (el.m) ⟨0,0,0,0,0,fun _=>0⟩) Q)).H),bg,bh,bi]) Lc rfl rfl rfl gw rfl pI rfl (KX rfl (KX rfl (KX gz.one (KX gA.one (KX gB.one MG))))) fun uu qI af=>?_
       have qJ:=pk.all af eH.symm
       have qK:=pm.all af eI.symm
       have qL:=po.all af eJ.symm
       have qM:=pp.all af eK.symm
       have qN:=pq.all af eL.symm
       have qO:=pu.all af eM.symm
       have qP:=pz.all af eN.symm
       have qQ:=pA.all af (eO.symm p1 rfl)
       have qR:=pB.all af (eP.symm ak rfl)
       have qS:=pC.all af (eQ.symm ap rfl)
       have qT:=pD.all af (eR.symm aq rfl)
       have qU:=pE.all af (eS.symm ai rfl)
       have qV:=pF.all af (eT.symm aj rfl)
       have qW:=pG.all af eU.symm
       have qX:=pH.all af (eV.symm ar rfl)
       have qY:=pJ.all af fg
       have qZ:=gz.all af gC
       have q5:=gA.all af gD
       have q6:=gB.all af gE
       have c5:=(bX.tr cW).trans af (KP.ok (S:=fun i=>(Lf au) i\/(aa i\/(ab i\/(ac i)))) (KP.refl cK (Lf au)) (fun _ x=>Or.inl x))
       refine KM ?_
       refine LC ?_
       exact⟨LQ.keeps (LQ.or cM.cells.cb (LQ.or cN.cells.cb (LQ.or cO.cells.cb cP.cells.cb))) c5,c5.mono (fun i hi x=>(x.elim (fun y=>fun e=>fg.symm i y (by rw[bc.1];exact e)) (fun y=>(y.elim (fun y=>fun e=>oK i y (by rw[bc.1];exact e)) (fun y=>(y.elim (fun y=>fun e=>oL i y (by rw[bc.1];exact e)) (fun y=>(fun e=>oM i y (by rw[bc.1];exact e))))))))),⟨bg,bh,bi,aO,aP,aQ,aI.trans c5 (fun i hi x=>(x.elim (fun y=>((KP.ok (S:=fun _=>False) eG K3) i hi y)) (fun y=>(y.elim (fun y=>((KP.ok (S:=fun _=>False) oH K3) i hi y)) (fun y=>(y.elim (fun y=>((KP.ok (S:=fun _=>False) oI K3) i hi y)) (fun y=>((KP.ok (S:=fun _=>False) oJ K3) i hi y)))))))),qJ,qK,qL,qM,qN,qO,qP,qQ,qR,qS,qT,qU,qV,qW,qX,(by rw[U3,hdec];exact qI),qY,(by rw[U3,hdec];exact qZ),(by rw[U3,hdec];exact q5),(by rw[U3,hdec];exact q6),((KP.new aI (KP.new bX cX)).weak K3),((KP.new aI (KP.new bX cY)).weak K3),((KP.new aI (KP.new bX cZ)).weak K3),pK,pL,pM,pN,pO,pP,pQ,pR,pS,pT,pU,pV,pW,pZ,qa,gC,qb,pg,pi,qc,qd,qe,qf,qg,qh,qi,qj,qk,ql,qm,qn,qo,qp,qq,gD,qr,pj,qs,qt,qu,qv,qw,qx,qy,qz,qA,qB,qC,qD,qE,qF,qG,gE,qH⟩⟩
     ·rintro aA xs_ q7 c6 hS_ ⟨ha,hb,hc,aa,ab,ac,q8,uv,uw,ux,uy,uz,uA,uB,uC,uD,uE,uF,q9,ra,uG,uH,rb,uI,c7,c9,da,rc,re,rf,uJ,uK,uL,uM,uN,uO,uP,uQ,uR,uS,uT,rg,rh,uU,uV,uW,uX,ri,rj,uY,uZ,u0,u5,u6,u7,u9,va,vb,vc,vd,rk,rl,ve,vf,vg,vh,rm,vi,vj,vk,vl,vm,vn,vo,vp,vq,vr,vt,rn,rp,vu,vv,vw,vx⟩ aR
      subst hS_
      have aR:U5 q7 aA:=aR
      have rq:KP w0 LX (Lf aA):=LS (Nat.le_trans bb.size c6)
      have gF:=U5.far c6 (LT cD.lt)
      have gG:=U5.far c6 (LT cE.lt)
      have rt:=U5.apart aR c7.cells
      have ru:=U5.apart aR c9.cells
      have rv:=U5.apart aR da.cells
      have rx:Oi (aA::Oc (cF 92))=Oi [aA]:=congrArg (fun z=>Oi (aA::Oc z)) fh
      refine LC (KG (KJ (KH (KI (.agg #[iv ((Md g h Q W H L (M8 W H 3)).W),iv ((Md g h Q W H L (M8 W H 3)).H),ha,hb,hc]) rfl rfl (KZ Lc rfl fk rb rr) (Lj (us:=[iv ((Md g h Q W H L (M8 W H 3)).W),iv ((Md g h Q W H L (M8 W H 3)).H),ha,hb,hc]) Lc rfl rfl rfl bE rfl q9 rfl (KX rfl (KX rfl (KX c7.one (KX c9.one (KX da.one MG))))) fun vy ry aS=>?_)))))
      have rz:=ra.all aS (aB aj rfl)
      have rA:=c7.all aS rg
      have rB:=c9.all aS rk
      have rC:=da.all aS rn
      have rD:=aR.all aS (gF aA rfl)
      refine L5 rfl rfl rfl bF rfl rz (by rfl) (by kernel_rfl) fun rE rF aT=>?_
      have rG:=ry.all aT (aB.symm ai rfl)
      have rH:=rA.all aT rh
      have rI:=rB.all aT rl
      have rJ:=rC.all aT rp
      have rK:=rD.all aT (gG aA rfl)
      refine KM ?_
      refine KG (Lb ?_)
      have aU:=Rb rE aA
      have rL:=rG.all aU (gF.symm ai rfl)
      have rM:=rF.all aU (gG.symm aj rfl)
      have gH:=rH.all aU rt.symm
      have gI:=rI.all aU ru.symm
      have gJ:=rJ.all aU rv.symm
      exact Rj (ms:=[aA]) rx rK.opens rfl (MK (vs:=[iv ((Md g h Q W H L (M8 W H 3)).W),iv ((Md g h Q W H L (M8 W H 3)).H),ha,hb,hc]) Lc rfl bE rL) (Ox Tryz.underlying33 rfl rfl bF rM) ⟨ha,aa,hb,ab,hc,ac,(by first|exact hfalse.elim|(rw[hE,hFr,NR hmn];rfl)|rw[hE,hFr,NR hmn]|(rw[hE,hFr,← Nc 3 (Nat.le_refl 3)];rfl)|rw[hE,hFr,← Nc 3 (Nat.le_refl 3)]|(rw[hE,hFr];rfl)|rw[hE,hFr]),(((q8.trans aS (KP.ok (S:=fun _=>False) bj K3)).trans aT (KP.ok (S:=fun _=>False) bl K3)).trans aU (KP.ok (S:=fun _=>False) rq K3)),⟨(by first|exact hfalse.elim|(rw[hFr,← Nc 3 (Nat.le_refl 3)];exact gH)|(rw[hFr];exact gH)),rc⟩,⟨(by first|exact hfalse.elim|(rw[hFr,← Nc 3 (Nat.le_refl 3)];exact gI)|(rw[hFr];exact gI)),re⟩,⟨(by first|exact hfalse.elim|(rw[hFr,← Nc 3 (Nat.le_refl 3)];exact gJ)|(rw[hFr];exact gJ)),rf⟩,ri,rj,rm⟩
     ·rintro aJ pre gK db hpf ⟨rN,vz,vA,vB,vC,vD,vE,vF,vG,vH,vJ,vK,rO,rP,vL,vM,vN,hfalse⟩ dc
      have dc:U5 gK aJ:=dc
      have rQ:KP w0 LX (Lf aJ):=LS (Nat.le_trans bb.size db)
      have rR:=U5.far db (LT cD.lt)
      have rS:=U5.far db (LT cE.lt)
      have rT:Oi (aJ::Oc (cF 92))=Oi [aJ]:=congrArg (fun z=>Oi (aJ::Oc z)) fh
      refine NT (Lq ?_)
      have dd:=Rb gK aJ
      have rU:=rO.all dd (rR.symm ai rfl)
      have rV:=rP.all dd (rS.symm aj rfl)
      exact Rj (ms:=[aJ]) rT dc.opens rfl (MK (vs:=[iv 0,iv 0,.slice none 0 0,.slice none 0 0,.slice none 0 0]) Lc rfl bE rU) (Ox Tryz.underlying33 rfl rfl bF rV) ⟨(.slice none 0 0),LX,(.slice none 0 0),LX,(.slice none 0 0),LX,(by first|exact hfalse.elim|(rw[hE,hFr,NR hmn];rfl)|rw[hE,hFr,NR hmn]|(rw[hE,hFr,← Nc 3 (Nat.le_refl 3)];rfl)|rw[hE,hFr,← Nc 3 (Nat.le_refl 3)]|(rw[hE,hFr];rfl)|rw[hE,hFr]),(rN.trans dd (KP.ok (S:=fun _=>False) rQ K3)),⟨(by first|exact hfalse.elim|(rw[hFr,← Nc 3 (Nat.le_refl 3)];exact(L3.nil _))|(rw[hFr];exact(L3.nil _))),(KP.refl _ _)⟩,⟨(by first|exact hfalse.elim|(rw[hFr,← Nc 3 (Nat.le_refl 3)];exact(L3.nil _))|(rw[hFr];exact(L3.nil _))),(KP.refl _ _)⟩,⟨(by first|exact hfalse.elim|(rw[hFr,← Nc 3 (Nat.le_refl 3)];exact(L3.nil _))|(rw[hFr];exact(L3.nil _))),(KP.refl _ _)⟩,KK.none,KK.none,KK.none⟩
  ·skip
   refine KH (KI (.agg #[iv W,iv H,iv R,iv B]) rfl rfl (KZ My rfl aC cg rr) (KI (pt ak 0) rfl rfl (KU (n:=1) rfl aV Tryz.underlying25 rfl (by kernel_rfl) (by decide) rfl rr) (KI (iv K) rfl rfl (KY rfl rfl Tryz.underlying3 ci rfl rfl rr) (KI (.agg #[iv (g.W),iv (g.H),g0,g1,g2]) rfl rfl (KZ Lc rfl bY cj rr) (KI (.agg #[iv (h.W),iv (h.H),h0,h1,h2]) rfl rfl (KZ Lc rfl bZ cm rr) (LB (R:=fun v_ w_=>v_ = .bool false/\KO (fun _=>False) du w_) rfl rfl (LH rfl rfl rfl (fun _ _=>by kernel_rfl) (K5 _) (Lk rfl (Lk rfl (Lk rfl (Lk rfl LR)))) (aAD W H R B K g g0 g1 g2 h h0 h1 h2 T_g0 T_g1 T_g2 T_h0 T_h1 T_h2 _  b7 b8 b9 cd ce cf ) (fun e_ w_ h_=>⟨_,h_.1,(congrArg Value.bool (decide_eq_false dA)),h_.2⟩)) ?_))))))
   rintro _ vO ⟨rfl,gL⟩
   obtain⟨rW,rX⟩:=NA gL cn co
   refine KI (.bool true) rfl rfl (L9 rfl rfl rfl rr) (KM ?_)
   have rY:=K4 (.bool true)
   refine KG ?_
   refine K6 (t:=true) rY (fun _=>?_) (fun e=>by cases e)
   refine KJ ?_
   have hE:=aA0 (l:=l) (g:=g) (h:=h) hm (by first|assumption|(apply Decidable.byContradiction;assumption))
   have hFr:=WY (l:=l) (W:=W) (H:=H) (R:=R) (B:=B) (K:=K) (Q:=Q) (D:=D) (F:=F) (g:=g) (h:=h) (by rw[hE];decide)
   refine KH (KI (.agg #[iv 0,iv 0,.slice none 0 0,.slice none 0 0,.slice none 0 0]) rfl rfl (LZ (l':=[]) (cells:=#[iv 0,iv 0,.slice none 0 0,.slice none 0 0,.slice none 0 0]) rfl Rv (by kernel_rfl) rfl rr) (Lj (us:=[iv 0,iv 0,.slice none 0 0,.slice none 0 0,.slice none 0 0]) Lc rfl rfl rfl aD rfl rW rfl (KX rfl (KX rfl (KX rfl (KX rfl (KX rfl MG))))) fun vP rZ gM=>?_))
   have r4:=rX.all gM (aB aj rfl)
   refine L5 rfl rfl rfl aE rfl r4 (by rfl) (by kernel_rfl) fun vQ r5 gN=>?_
   have r6:=rZ.all gN (aB.symm ai rfl)
   refine KM ?_
   refine KG (Lb (Lq ?_))
   exact Rj (ms:=[]) (Eq.trans bm (rfl:undef=Oi [])) trivial rfl (MK (vs:=[iv 0,iv 0,.slice none 0 0,.slice none 0 0,.slice none 0 0]) Lc rfl aD r6) (Ox Tryz.underlying33 rfl rfl aE r5) ⟨(.slice none 0 0),LX,(.slice none 0 0),LX,(.slice none 0 0),LX,(by first|exact hfalse.elim|(rw[hE,hFr,NR hmn];rfl)|rw[hE,hFr,NR hmn]|(rw[hE,hFr,← Nc 3 (Nat.le_refl 3)];rfl)|rw[hE,hFr,← Nc 3 (Nat.le_refl 3)]|(rw[hE,hFr];rfl)|rw[hE,hFr]),(((cq.tr gL).trans gM (KP.ok (S:=fun _=>False) bj K3)).trans gN (KP.ok (S:=fun _=>False) bl K3)),⟨(by first|exact hfalse.elim|(rw[hFr,← Nc 3 (Nat.le_refl 3)];exact(L3.nil _))|(rw[hFr];exact(L3.nil _))),(KP.refl _ _)⟩,⟨(by first|exact hfalse.elim|(rw[hFr,← Nc 3 (Nat.le_refl 3)];exact(L3.nil _))|(rw[hFr];exact(L3.nil _))),(KP.refl _ _)⟩,⟨(by first|exact hfalse.elim|(rw[hFr,← Nc 3 (Nat.le_refl 3)];exact(L3.nil _))|(rw[hFr];exact(L3.nil _))),(KP.refl _ _)⟩,KK.none,KK.none,KK.none⟩
end Go.Proofs.YtknjpdcpmpfklaaGreatDoor
set_option maxRecDepth 100000
namespace Go.Proofs.YtknjpdcpmpfklaaGreatDoor
def Uw(P:Value->Prop):Thm:=⟨fun v T _=>T=LX/\P v,fun _ _ _ _ _ h _ _=>h,fun _ _ _ h=>by rw[h.1];exact fun _ z=>z.elim⟩
def Pd.shp(P:Value->Prop):Pd:=⟨fun v _=>P v,fun _ _ _ h _=>h⟩
end Go.Proofs.YtknjpdcpmpfklaaGreatDoor
set_option maxRecDepth 100000
namespace Go.Proofs.YtknjpdcpmpfklaaGreatDoor
open Go.RowKit
theorem aAj(n:Nat)(w0:World)(hn:n<1099511627776):Calls Tryz.prog 23 #[.int .i64 (n:Int)] w0 fun e w'=>e = .returned (.string (NH (PS n)))/\KO (fun _=>False) w0 w' :=
 (aCg n w0 hn).mono fun _ _ ⟨e,hw⟩=>by subst hw;exact⟨e,KO.refl _ _⟩
theorem Qu(w0:World) :
  Calls Tryz.prog 24 #[] w0 fun e w'=>e = .returned (.agg #[.int .i64 (8),.int .i64 (8),.int .i64 (100),.int .i64 (1000)])/\KO (fun _=>False) w0 w':=by
 refine Lr (args:=[]) 2 Tryz.func24 rfl rfl (Nat.le_of_ble_eq_true rfl) ?_
 have K0:=KO.refl (fun _=>False) w0
 refine KJ (KH (LF (n:=4) (vs:=[iv 0,iv 0,iv 0,iv 0]) rfl rfl rfl (by kernel_rfl) fun p1 w2 B4 g5 k3=>?_))
 refine KM ?_
 have ai:=K4 (undef)
 have ab:=K4 (pt p1 0)
 refine KG (KJ (KH (KI (.agg #[iv 8,iv 8,iv 100,iv 1000]) rfl rfl (LZ (l':=[(0,iv 8),(1,iv 8),(2,iv 100),(3,iv 1000)]) (cells:=#[iv 8,iv 8,iv 100,iv 1000]) rfl (S7 rfl (S7 rfl (S7 rfl (S7 rfl Rv)))) (by kernel_rfl) rfl rr) (Lj (us:=[iv 8,iv 8,iv 100,iv 1000]) My rfl rfl rfl ab rfl B4 rfl (KX rfl (KX rfl (KX rfl (KX rfl MG)))) fun an aj ak=>?_))))
 refine KM ?_
 refine KG (Lb ?_)
 exact O2 (vs:=[iv 8,iv 8,iv 100,iv 1000]) My ai rfl rfl ab aj ⟨rfl,((K0.tr k3).trans ak (KP.ok (S:=fun _=>False) (KP.new K0 g5) K3))⟩
theorem aAU(i:Nat):List.replicate (2*i) true ++ [true,true]=List.replicate (2*(i+1)) true:=by
 rw[show [true,true]=List.replicate 2 true from rfl,List.replicate_append_replicate];rfl
theorem aEK:Sa (List.replicate (2*6) true++PS (List.replicate (2*6) true).length)=OA:=by decide +kernel
theorem aDB:OA.length=2:=by decide +kernel
theorem aEz:(ME OA 8 8 100 1000 0 0 0 0).1.length=6/\(ME OA 8 8 100 1000 0 0 0 0).2=0/\(ME (OA ++ [0]) 8 8 100 1000 0 0 0 0).2=130:=by
 have hm:Qy 8 8 100 1000 0 0 0 0:=by decide
 rw[N8 hm,N8 hm]
 exact⟨aAe.2,aAe.1,aAr.2⟩
theorem aC6:M5 8 8 100 1000 (LG 8 8 128):=by decide +kernel
theorem aDS(a:List Bool):NH a++ByteArray.mk #[49,49]=NH (a ++ [true,true]):=by
 rw[show ByteArray.mk #[49,49]=NH [true,true] from rfl];exact RI _ _
theorem Yp(w0:World)(hA:NO w0)(hO:Of w0)(hs:NU w0)(hw:Qg w0) :
  Calls Tryz.prog 8 #[] w0 fun e w'=>e = .returned (.bool true)/\KO (fun _=>False) w0 w':=by
 refine Lr (args:=[]) 101 Tryz.func8 rfl rfl (Nat.le_of_ble_eq_true rfl) ?_
 have h11:(ByteArray.mk #[49,49]).size=2:=rfl
 have h12:(List.replicate (2*6) true).length=12:=rfl
 have h13:(PS 12).length=4:=rfl
 have h14:(List.replicate (2*6) true++PS (List.replicate (2*6) true).length).length=16:=rfl
 have hd:=Lib.hid aCV
 have ho:=Lib.hid aAr
 have hf:=Lib.hid aEn
 have hc:=Lib.hid aEz
 have hpl:=aDB
 refine KJ (KH (KI (.bool false) rfl rfl (KS rfl rfl rr) (KM ?_)))
 have s3:=K4 (undef)
 refine KG (KJ (KH (KI (.string (NH ([]))) rfl rfl (KS rfl rfl rr) (KM ?_))))
 have s7:=K4 (.string (NH ([])))
 refine KG (KJ (KJ (KH (KI (iv 0) rfl rfl (KS rfl rfl rr) (KM ?_)))))
 have cN:=K4 (iv 0)
 refine KG (Lm (MZ (fun nn FF ww=>∃ (i:Nat),(i<=6)/\((List.replicate (2*i) true).length=2*i)/\nn=6-i/\FF 101=undef/\FF 1 = .string (NH (List.replicate (2*i) true))/\FF 2=iv ((i:Nat):Int)/\KO (fun _=>False) w0 ww) (6-0) ⟨0,by omega,rfl,rfl,s3,s7,cN,(KO.refl (fun _=>False) w0)⟩ ?_))
 rintro fJ fK fL ⟨i,i17,hrl,hn16,aW,aQ,aX,aY⟩
 refine KJ (KJ (KH (KR rfl rfl rfl aX (KI (.bool (decide (((i:Nat):Int)<6))) rfl rfl (L4 rfl rfl rfl rfl rr) (KM ?_)))))
 have cO:=K4 (.bool (decide (((i:Nat):Int)<6)))
 refine KG ?_
 refine K6 cO (fun aE=>?_) (fun aE=>?_)
 ·replace aE:=of_decide_eq_true aE
  refine Lg (KG (KJ (Lm (KH (KR rfl rfl rfl aQ (KI (.string (NH (List.replicate (2*i) true ++ [true,true]))) rfl rfl (aAm rfl rfl rfl (by simp only[Pl];omega) (aDS _) rr) (KI (.string (NH (List.replicate (2*i) true ++ [true,true]))) rfl rfl (KS rfl rfl rr) (KM ?_))))))))
  have cP:=K4 (.string (NH (List.replicate (2*i) true ++ [true,true])))
  refine LC (KG (KH (KR rfl rfl rfl aX (KI (iv ((i+1:Nat):Int)) rfl rfl (LP rfl rfl rfl (L6 (by omega) (by omega)) rr) (KI (iv ((i+1:Nat):Int)) rfl rfl (KS rfl rfl rr) (KM ?_))))))
  have cQ:=K4 (iv ((i+1:Nat):Int))
  exact KG ⟨(6-(i+1)),by omega,i+1,by omega,List.length_replicate,rfl,aW,(cP.trans (by rw[aAU])),cQ,aY⟩
 ·replace aE:=of_decide_eq_false aE
  refine Me (Ls (Ls ?_))
  have cR:6=i:=by omega
  subst cR
  refine Mf (KG (KJ (KH (KR rfl rfl rfl aQ (KR rfl rfl rfl aQ (KI (iv (((List.replicate (2*6) true).length:Nat):Int)) rfl rfl (aDo rfl rfl rfl rr) (LW rfl rfl rfl rfl rfl (fun _ _=>by kernel_rfl) (Lk rfl LR) (aAj ((List.replicate (2*6) true).length)  _ (by omega)  ) fun aZ cS=>?_)))))))
  refine KI (.string (NH ((List.replicate (2*6) true)++(PS ((List.replicate (2*6) true).length))))) rfl rfl (aAm rfl rfl rfl (by simp[Pl];omega) (RI _ _) rr) (LB (R:=fun v_ w_=>∃ (ae:Value) (am:Nat->Prop),ae=v_/\KO (fun _=>False) aZ w_/\(Mh w_ am ae (Sa ((List.replicate (2*6) true)++(PS ((List.replicate (2*6) true).length))))/\KP aZ LX am)) rfl rfl (LH rfl rfl rfl (fun _ _=>by kernel_rfl) (K5 _) (Lk rfl LR) (Y2 ((List.replicate (2*6) true)++(PS ((List.replicate (2*6) true).length)))  _ (by omega)  ) (fun e_ w_ h_=>by obtain⟨v42_,T45_,he_,hr_⟩:=h_;exact⟨_,he_,v42_,T45_,rfl,hr_⟩)) ?_)
  rintro _ cT ⟨ae,am,rfl,cU,⟨cV,fM⟩⟩
  refine KI ae rfl rfl (KS rfl rfl rr) (KM ?_)
  have aM:=K4 (ae)
  refine KG (KJ ?_)
  have cW:Mh cT am ae OA:=(by rw[← aEK];exact cV)
  refine KH (LW rfl rfl rfl rfl rfl (fun _ _=>by kernel_rfl) LR (Qu   _   ) fun aN a8=>?_)
  have a9:=cW.all a8 KK.none
  have aF:=((aY.tr cS).tr cU).tr a8
  refine KI (.agg #[iv 0,iv 0,iv 0,iv 0]) rfl rfl (LZ (l':=[]) (cells:=#[iv 0,iv 0,iv 0,iv 0]) rfl Rv (by kernel_rfl) rfl rr) (KR rfl rfl rfl aM (KI (.agg #[iv 0,iv 0,.slice none 0 0,.slice none 0 0,.slice none 0 0]) rfl rfl (LZ (l':=[]) (cells:=#[iv 0,iv 0,.slice none 0 0,.slice none 0 0,.slice none 0 0]) rfl Rv (by kernel_rfl) rfl rr) (KI (.agg #[iv 0,iv 0,.slice none 0 0,.slice none 0 0,.slice none 0 0]) rfl rfl (LZ (l':=[]) (cells:=#[iv 0,iv 0,.slice none 0 0,.slice none 0 0,.slice none 0 0]) rfl Rv (by kernel_rfl) rfl rr) (LB (R:=fun v_ w_=>∃ (ah:Value) (ar:Nat->Prop) (ai:Value) (au:Nat->Prop) (aj:Value) (av:Nat->Prop),.tuple #[.agg #[iv ((OC OA 8 8 100 1000 0 0 0 0 (FD.mk 0 0 ([]) ([]) ([])) (FD.mk 0 0 ([]) ([]) ([]))).W),iv ((OC OA 8 8 100 1000 0 0 0 0 (FD.mk 0 0 ([]) ([]) ([])) (FD.mk 0 0 ([]) ([]) ([]))).H),ah,ai,aj],iv (Qw OA 8 8 100 1000 0 0 0 0 (FD.mk 0 0 ([]) ([]) ([])) (FD.mk 0 0 ([]) ([]) ([])))]=v_/\KO (fun _=>False) aN w_/\(L3 w_ ar ah ((OC OA 8 8 100 1000 0 0 0 0 (FD.mk 0 0 ([]) ([]) ([])) (FD.mk 0 0 ([]) ([]) ([]))).p0)/\KP aN LX ar)/\(L3 w_ au ai ((OC OA 8 8 100 1000 0 0 0 0 (FD.mk 0 0 ([]) ([]) ([])) (FD.mk 0 0 ([]) ([]) ([]))).p1)/\KP aN LX au)/\(L3 w_ av aj ((OC OA 8 8 100 1000 0 0 0 0 (FD.mk 0 0 ([]) ([]) ([])) (FD.mk 0 0 ([]) ([]) ([]))).p2)/\KP aN LX av)/\KK ar au/\KK ar av/\KK au av) rfl rfl (LH rfl rfl rfl (fun _ _=>by kernel_rfl) (K5 _) (Lk rfl (Lk rfl (Lk rfl (Lk rfl (Lk rfl LR))))) (WD 8 8 100 1000 0 0 0 0 ae OA (FD.mk 0 0 ([]) ([]) ([])) (.slice none 0 0) (.slice none 0 0) (.slice none 0 0) (FD.mk 0 0 ([]) ([]) ([])) (.slice none 0 0) (.slice none 0 0) (.slice none 0 0) am LX LX LX LX LX LX _ (hA.all aF) (hO.all aF) (hs.all aF) (hw.all aF) (by omega) a9 (Mh.nil _) (Mh.nil _) (Mh.nil _) (Mh.nil _) (Mh.nil _) (Mh.nil _) ) (fun e_ w_ h_=>by obtain⟨v59_,T64_,v60_,T65_,v61_,T66_,he_,hr_⟩:=h_;exact⟨_,he_,v59_,T64_,v60_,T65_,v61_,T66_,rfl,hr_⟩)) ?_))))
  rintro _ fN ⟨ah,ar,ai,au,aj,av,rfl,ba,⟨bb,fO⟩,⟨bc,bd⟩,⟨be,bf⟩,fP,fQ,fR⟩
  have bg:=a9.all ba KK.none
  have bh:=aF.tr ba
  refine KI (.tuple #[.agg #[iv ((OC OA 8 8 100 1000 0 0 0 0 (FD.mk 0 0 ([]) ([]) ([])) (FD.mk 0 0 ([]) ([]) ([]))).W),iv ((OC OA 8 8 100 1000 0 0 0 0 (FD.mk 0 0 ([]) ([]) ([])) (FD.mk 0 0 ([]) ([]) ([]))).H),ah,ai,aj],iv (Qw OA 8 8 100 1000 0 0 0 0 (FD.mk 0 0 ([]) ([]) ([])) (FD.mk 0 0 ([]) ([]) ([])))]) rfl rfl (KQ rfl rfl rr) (KI (.agg #[iv ((OC OA 8 8 100 1000 0 0 0 0 (FD.mk 0 0 ([]) ([]) ([])) (FD.mk 0 0 ([]) ([]) ([]))).W),iv ((OC OA 8 8 100 1000 0 0 0 0 (FD.mk 0 0 ([]) ([]) ([])) (FD.mk 0 0 ([]) ([]) ([]))).H),ah,ai,aj]) rfl rfl (LL rfl rfl rfl rr) (KI (iv (Qw OA 8 8 100 1000 0 0 0 0 (FD.mk 0 0 ([]) ([]) ([])) (FD.mk 0 0 ([]) ([]) ([])))) rfl rfl (LL rfl rfl rfl rr) (LF (n:=5) (vs:=[iv 0,iv 0,.slice none 0 0,.slice none 0 0,.slice none 0 0]) rfl rfl rfl (by kernel_rfl) fun aG fS cX bi bj=>?_)))
  obtain⟨cY,cZ,c5,c6⟩:=Wj bi bg bb bc be
  obtain⟨c7,bl,bm,bn⟩:=OV bj bg bb bc be
  refine Lj (us:=[iv ((OC OA 8 8 100 1000 0 0 0 0 (FD.mk 0 0 ([]) ([]) ([])) (FD.mk 0 0 ([]) ([]) ([]))).W),iv ((OC OA 8 8 100 1000 0 0 0 0 (FD.mk 0 0 ([]) ([]) ([])) (FD.mk 0 0 ([]) ([]) ([]))).H),ah,ai,aj]) Lc rfl rfl rfl rfl rfl cX rfl (KX rfl (KX rfl (KX bl.one (KX bm.one (KX bn.one MG))))) fun fT c9 aH=>?_
  have da:=c7.all aH cY.symm
  have db:=bl.all aH cZ.symm
  have dc:=bm.all aH c5.symm
  have dd:=bn.all aH c6.symm
  refine KI (iv (Qw OA 8 8 100 1000 0 0 0 0 (FD.mk 0 0 ([]) ([]) ([])) (FD.mk 0 0 ([]) ([]) ([])))) rfl rfl (KS rfl rfl rr) (KM ?_)
  have de:=K4 (pt aG 0)
  have df:=K4 (iv (Qw OA 8 8 100 1000 0 0 0 0 (FD.mk 0 0 ([]) ([]) ([])) (FD.mk 0 0 ([]) ([]) ([]))))
  refine KG (KJ (KH (LW rfl rfl rfl rfl rfl (fun _ _=>by kernel_rfl) LR (Qu   _   ) fun bo bp=>?_)))
  obtain⟨bq,dg,dh,di,dj⟩:=OU bp da db dc dd c9
  have aR:=((bh.tr bj).trans aH (KP.ok (S:=fun _=>False) (KP.new bh bi) K3)).tr bp
  refine KI (.agg #[iv 0,iv 0,iv 0,iv 0]) rfl rfl (LZ (l':=[]) (cells:=#[iv 0,iv 0,iv 0,iv 0]) rfl Rv (by kernel_rfl) rfl rr) (KR rfl rfl rfl aM (LB (R:=fun v_ w_=>∃ (ak:Value) (aS:Nat->Prop),.tuple #[ak,iv ((ME OA 8 8 100 1000 0 0 0 0).2)]=v_/\KO (fun _=>False) bo w_/\(QX TL w_ aS ak ((ME OA 8 8 100 1000 0 0 0 0).1)/\KP bo LX aS)) rfl rfl (LH rfl rfl rfl (fun _ _=>by kernel_rfl) (K5 _) (Lk rfl (Lk rfl (Lk rfl LR))) (Pi 8 8 100 1000 0 0 0 0 ae OA am _ (hA.all aR) (hO.all aR) (by first|omega|(simp;omega)) bq ) (fun e_ w_ h_=>by obtain⟨v121_,T124_,he_,hr_⟩:=h_;exact⟨_,he_,v121_,T124_,rfl,hr_⟩)) ?_))
  rintro _ fU ⟨ak,aS,rfl,bt,⟨dk,fV⟩⟩
  obtain⟨dl,dm,dn,dp,dq⟩:=OU bt bq dg dh di dj
  refine KI (.tuple #[ak,iv ((ME OA 8 8 100 1000 0 0 0 0).2)]) rfl rfl (KQ rfl rfl rr) (KI ak rfl rfl (LL rfl rfl rfl rr) (KI (iv ((ME OA 8 8 100 1000 0 0 0 0).2)) rfl rfl (LL rfl rfl rfl rr) (KI ak rfl rfl (KS rfl rfl rr) (KI (iv ((ME OA 8 8 100 1000 0 0 0 0).2)) rfl rfl (KS rfl rfl rr) (KM ?_)))))
  have dr:=K4 (ak)
  have dt:=K4 (iv ((ME OA 8 8 100 1000 0 0 0 0).2))
  refine KG (KJ (KH (LW rfl rfl rfl rfl rfl (fun _ _=>by kernel_rfl) LR (Qu   _   ) fun aO bu=>?_)))
  obtain⟨bv,du,dv,dw,dy,dz⟩:=QB bu dl dm dn dp dq dk
  have aI:=(aR.tr bt).tr bu
  refine KI (.agg #[iv 1,iv 0,iv 0,iv 0]) rfl rfl (LZ (l':=[(0,iv 1)]) (cells:=#[iv 1,iv 0,iv 0,iv 0]) rfl (S7 rfl Rv) (by kernel_rfl) rfl rr) (KR rfl rfl rfl aM (KI (.agg #[iv 0,iv 0,.slice none 0 0,.slice none 0 0,.slice none 0 0]) rfl rfl (LZ (l':=[]) (cells:=#[iv 0,iv 0,.slice none 0 0,.slice none 0 0,.slice none 0 0]) rfl Rv (by kernel_rfl) rfl rr) (KI (.agg #[iv 0,iv 0,.slice none 0 0,.slice none 0 0,.slice none 0 0]) rfl rfl (LZ (l':=[]) (cells:=#[iv 0,iv 0,.slice none 0 0,.slice none 0 0,.slice none 0 0]) rfl Rv (by kernel_rfl) rfl rr) (LB (R:=fun v_ w_=>∃ (aw:Value) (aJ:Nat->Prop) (az:Value) (aK:Nat->Prop) (aA:Value) (aL:Nat->Prop),.tuple #[.agg #[iv ((OC OA 8 8 100 1000 1 0 0 0 (FD.mk 0 0 ([]) ([]) ([])) (FD.mk 0 0 ([]) ([]) ([]))).W),iv ((OC OA 8 8 100 1000 1 0 0 0 (FD.mk 0 0 ([]) ([]) ([])) (FD.mk 0 0 ([]) ([]) ([]))).H),aw,az,aA],iv (Qw OA 8 8 100 1000 1 0 0 0 (FD.mk 0 0 ([]) ([]) ([])) (FD.mk 0 0 ([]) ([]) ([])))]=v_/\KO (fun _=>False) aO w_/\(L3 w_ aJ aw ((OC OA 8 8 100 1000 1 0 0 0 (FD.mk 0 0 ([]) ([]) ([])) (FD.mk 0 0 ([]) ([]) ([]))).p0)/\KP aO LX aJ)/\(L3 w_ aK az ((OC OA 8 8 100 1000 1 0 0 0 (FD.mk 0 0 ([]) ([]) ([])) (FD.mk 0 0 ([]) ([]) ([]))).p1)/\KP aO LX aK)/\(L3 w_ aL aA ((OC OA 8 8 100 1000 1 0 0 0 (FD.mk 0 0 ([]) ([]) ([])) (FD.mk 0 0 ([]) ([]) ([]))).p2)/\KP aO LX aL)/\KK aJ aK/\KK aJ aL/\KK aK aL) rfl rfl (LH rfl rfl rfl (fun _ _=>by kernel_rfl) (K5 _) (Lk rfl (Lk rfl (Lk rfl (Lk rfl (Lk rfl LR))))) (WD 8 8 100 1000 1 0 0 0 ae OA (FD.mk 0 0 ([]) ([]) ([])) (.slice none 0 0) (.slice none 0 0) (.slice none 0 0) (FD.mk 0 0 ([]) ([]) ([])) (.slice none 0 0) (.slice none 0 0) (.slice none 0 0) am LX LX LX LX LX LX _ (hA.all aI) (hO.all aI) (hs.all aI) (hw.all aI) (by omega) bv (Mh.nil _) (Mh.nil _) (Mh.nil _) (Mh.nil _) (Mh.nil _) (Mh.nil _) ) (fun e_ w_ h_=>by obtain⟨v156_,T161_,v157_,T162_,v158_,T163_,he_,hr_⟩:=h_;exact⟨_,he_,v156_,T161_,v157_,T162_,v158_,T163_,rfl,hr_⟩)) ?_))))
  rintro _ fW ⟨aw,aJ,az,aK,aA,aL,rfl,bz,⟨dA,fX⟩,⟨dB,fY⟩,⟨dC,fZ⟩,f6,f7,f8⟩
  obtain⟨bA,bB,bC,bD,bE,bF⟩:=QB bz bv du dv dw dy dz
  have bG:=aI.tr bz
  refine KI (.tuple #[.agg #[iv ((OC OA 8 8 100 1000 1 0 0 0 (FD.mk 0 0 ([]) ([]) ([])) (FD.mk 0 0 ([]) ([]) ([]))).W),iv ((OC OA 8 8 100 1000 1 0 0 0 (FD.mk 0 0 ([]) ([]) ([])) (FD.mk 0 0 ([]) ([]) ([]))).H),aw,az,aA],iv (Qw OA 8 8 100 1000 1 0 0 0 (FD.mk 0 0 ([]) ([]) ([])) (FD.mk 0 0 ([]) ([]) ([])))]) rfl rfl (KQ rfl rfl rr) (KI (.agg #[iv ((OC OA 8 8 100 1000 1 0 0 0 (FD.mk 0 0 ([]) ([]) ([])) (FD.mk 0 0 ([]) ([]) ([]))).W),iv ((OC OA 8 8 100 1000 1 0 0 0 (FD.mk 0 0 ([]) ([]) ([])) (FD.mk 0 0 ([]) ([]) ([]))).H),aw,az,aA]) rfl rfl (LL rfl rfl rfl rr) (KI (iv (Qw OA 8 8 100 1000 1 0 0 0 (FD.mk 0 0 ([]) ([]) ([])) (FD.mk 0 0 ([]) ([]) ([])))) rfl rfl (LL rfl rfl rfl rr) (LF (n:=5) (vs:=[iv 0,iv 0,.slice none 0 0,.slice none 0 0,.slice none 0 0]) rfl rfl rfl (by kernel_rfl) fun f9 ga dD bH bI=>?_)))
  obtain⟨dE,dF,dG,dH,dI,dJ⟩:=Vr bH bA bB bC bD bE bF
  obtain⟨dK,dL,dM,dN,dO,dP,dQ,dR,dS⟩:=ayQ bI bA bB bC bD bE bF dA dB dC
  refine Lj (us:=[iv ((OC OA 8 8 100 1000 1 0 0 0 (FD.mk 0 0 ([]) ([]) ([])) (FD.mk 0 0 ([]) ([]) ([]))).W),iv ((OC OA 8 8 100 1000 1 0 0 0 (FD.mk 0 0 ([]) ([]) ([])) (FD.mk 0 0 ([]) ([]) ([]))).H),aw,az,aA]) Lc rfl rfl rfl rfl rfl dD rfl (KX rfl (KX rfl (KX dQ.one (KX dR.one (KX dS.one MG))))) fun gb gc an=>?_
  have dT:=dK.all an dE.symm
  have dU:=dL.all an dF.symm
  have dV:=dM.all an dG.symm
  have dW:=dN.all an dH.symm
  have dX:=dO.all an (dI.symm aG rfl)
  have dY:=dP.all an dJ.symm
  refine KI (iv (Qw OA 8 8 100 1000 1 0 0 0 (FD.mk 0 0 ([]) ([]) ([])) (FD.mk 0 0 ([]) ([]) ([])))) rfl rfl (KS rfl rfl rr) (KM ?_)
  have dZ:=K4 (iv (Qw OA 8 8 100 1000 1 0 0 0 (FD.mk 0 0 ([]) ([]) ([])) (FD.mk 0 0 ([]) ([]) ([]))))
  refine KG (KJ (KH (LW rfl rfl rfl rfl rfl (fun _ _=>by kernel_rfl) LR (Qu   _   ) fun gd bJ=>?_)))
  obtain⟨d8,bK,bL,bM,bN,bO⟩:=QB bJ dT dU dV dW dX dY
  have bP:=((bG.tr bI).trans an (KP.ok (S:=fun _=>False) (KP.new bG bH) K3)).tr bJ
  refine KI (.agg #[iv 0,iv 0,iv 0,iv 0]) rfl rfl (LZ (l':=[]) (cells:=#[iv 0,iv 0,iv 0,iv 0]) rfl Rv (by kernel_rfl) rfl rr) (Zl rfl rfl rfl fun ge gh gi d9 bQ bR=>?_)
  have bS:=KP.new bP bQ
  obtain⟨bT,bU,bV,bW,bX⟩:=azc bQ bK bL bM bN bO
  obtain⟨eb,bY,bZ,b7,b8,b9⟩:=QB bR d8 bK bL bM bN bO
  have cd:=bP.tr bR
  refine KR rfl rfl rfl aM (Vp rfl rfl rfl rfl rfl rfl d9 eb (by first|omega|(simp;done)|(simp;omega)) fun gj gl gm ee ce aB=>?_)
  obtain⟨eh,ei,ek,en,eo⟩:=aEC ce bT bY bU bZ bV b7 bW b8 bX b9
  have ep:=bY.all aB bT.symm
  have er:=bZ.all aB bU.symm
  have et:=b7.all aB bV.symm
  have eu:=b8.all aB (bW.symm aG rfl)
  have ew:=b9.all aB bX.symm
  refine VB (n:=0) rfl rfl rfl rfl (by omega) (by omega) fun gn go gp ex gq cf=>?_
  obtain⟨ey,ez,eA,eB,eC,eD⟩:=QB cf ep er et eu ew ee
  refine Vp rfl rfl rfl rfl rfl rfl eD ex.byt (by first|omega|(simp;done)|(simp;omega)) fun eE cg eF eG gr aC=>?_
  have eH:=ey.all aC eh.symm
  have eI:=ez.all aC ei.symm
  have eJ:=eA.all aC ek.symm
  have eK:=eB.all aC (en.symm aG rfl)
  have eL:=eC.all aC eo.symm
  have aT:=((cd.trans aB (KP.ok (S:=fun _=>False) bS K3)).tr cf).trans aC (KP.ok (S:=fun _=>False) (KP.trans bS cd ce) K3)
  refine LB (R:=fun v_ w_=>∃ (aD:Value) (aU:Nat->Prop),.tuple #[aD,iv ((ME ((([]:List Nat)++OA)++([0])) 8 8 100 1000 0 0 0 0).2)]=v_/\KO (fun _=>False) cg w_/\(QX TL w_ aU aD ((ME ((([]:List Nat)++OA)++([0])) 8 8 100 1000 0 0 0 0).1)/\KP cg LX aU)) rfl rfl (LH rfl rfl rfl (fun _ _=>by kernel_rfl) (K5 _) (Lk rfl (Lk rfl (Lk rfl LR))) (Pi 8 8 100 1000 0 0 0 0 eE ((([]:List Nat)++OA)++([0])) eF _ (hA.all aT) (hO.all aT) (by first|omega|(simp;omega)) eG.byt ) (fun e_ w_ h_=>by obtain⟨v377_,T380_,he_,hr_⟩:=h_;exact⟨_,he_,v377_,T380_,rfl,hr_⟩)) ?_
  rintro _ aP ⟨aD,aU,rfl,ci,⟨gt,gu⟩⟩
  obtain⟨eM,eN,eO,eP,eQ⟩:=OU ci eH eI eJ eK eL
  refine KI (.tuple #[aD,iv ((ME ((([]:List Nat)++OA)++([0])) 8 8 100 1000 0 0 0 0).2)]) rfl rfl (KQ rfl rfl rr) (KI aD rfl rfl (LL rfl rfl rfl rr) (KI (iv ((ME ((([]:List Nat)++OA)++([0])) 8 8 100 1000 0 0 0 0).2)) rfl rfl (LL rfl rfl rfl rr) (KI aD rfl rfl (KS rfl rfl rr) (KI (iv ((ME ((([]:List Nat)++OA)++([0])) 8 8 100 1000 0 0 0 0).2)) rfl rfl (KS rfl rfl rr) (KM ?_)))))
  have eR:=K4 (iv ((ME ((([]:List Nat)++OA)++([0])) 8 8 100 1000 0 0 0 0).2))
  refine KG (KJ (KH (LB (R:=fun v_ w_=>∃ (aa:Value) (ao:Nat->Prop) (ab:Value) (ap:Nat->Prop) (ac:Value) (aq:Nat->Prop),.tuple #[.agg #[iv ((LG 8 8 128).W),iv ((LG 8 8 128).H),aa,ab,ac],iv (Sc 8 8)]=v_/\KO (fun _=>False) aP w_/\(L3 w_ ao aa ((LG 8 8 128).p0)/\KP aP LX ao)/\(L3 w_ ap ab ((LG 8 8 128).p1)/\KP aP LX ap)/\(L3 w_ aq ac ((LG 8 8 128).p2)/\KP aP LX aq)/\KK ao ap/\KK ao aq/\KK ap aq) rfl rfl (LH rfl rfl rfl (fun _ _=>by kernel_rfl) (K5 _) (Lk rfl (Lk rfl (Lk rfl LR))) (aAI 8 8 128  _ (by omega)  ) (fun e_ w_ h_=>by obtain⟨v418_,T423_,v419_,T424_,v420_,T425_,he_,hr_⟩:=h_;exact⟨_,he_,v418_,T423_,v419_,T424_,v420_,T425_,rfl,hr_⟩)) ?_)))
  rintro _ gv ⟨aa,ao,ab,ap,ac,aq,rfl,cj,⟨cm,gw⟩,⟨cn,gz⟩,⟨co,gA⟩,gB,gC,gD⟩
  obtain⟨cq,cr,ct,cu,cv⟩:=OU cj eM eN eO eP eQ
  have cw:=(aT.tr ci).tr cj
  refine KI (.tuple #[.agg #[iv ((LG 8 8 128).W),iv ((LG 8 8 128).H),aa,ab,ac],iv (Sc 8 8)]) rfl rfl (KQ rfl rfl rr) (KI (.agg #[iv ((LG 8 8 128).W),iv ((LG 8 8 128).H),aa,ab,ac]) rfl rfl (LL rfl rfl rfl rr) (KI (iv (Sc 8 8)) rfl rfl (LL rfl rfl rfl rr) (LF (n:=5) (vs:=[iv 0,iv 0,.slice none 0 0,.slice none 0 0,.slice none 0 0]) rfl rfl rfl (by kernel_rfl) fun eS gE eT cy cz=>?_)))
  obtain⟨eU,eV,eW,eX,eY,eZ,e6,e7⟩:=XJ cy cq cr ct cu cv cm cn co
  obtain⟨e8,e9,fa,fb,fc,cA,cB,cC⟩:=YR cz cq cr ct cu cv cm cn co
  refine Lj (us:=[iv ((LG 8 8 128).W),iv ((LG 8 8 128).H),aa,ab,ac]) Lc rfl rfl rfl rfl rfl eT rfl (KX rfl (KX rfl (KX cA.one (KX cB.one (KX cC.one MG))))) fun fd cD af=>?_
  have fe:=e8.all af eU.symm
  have ff:=e9.all af eV.symm
  have fg:=fa.all af eW.symm
  have fh:=fb.all af (eX.symm aG rfl)
  have fk:=fc.all af eY.symm
  have cE:=cA.all af eZ.symm
  have cF:=cB.all af e6.symm
  have cG:=cC.all af e7.symm
  refine KI (iv (Sc 8 8)) rfl rfl (KS rfl rfl rr) (KM ?_)
  have cH:=K4 (pt eS 0)
  refine KG (KJ (KH (KI (.agg #[iv ((OC OA 8 8 100 1000 0 0 0 0 (FD.mk 0 0 ([]) ([]) ([])) (FD.mk 0 0 ([]) ([]) ([]))).W),iv ((OC OA 8 8 100 1000 0 0 0 0 (FD.mk 0 0 ([]) ([]) ([])) (FD.mk 0 0 ([]) ([]) ([]))).H),ah,ai,aj]) rfl rfl (KZ Lc rfl de fh rr) (KI (.agg #[iv ((LG 8 8 128).W),iv ((LG 8 8 128).H),aa,ab,ac]) rfl rfl (KZ Lc rfl cH cD rr) (LB (R:=fun v_ w_=>v_ = .bool true/\KO (fun _=>False) fd w_) rfl rfl (LH rfl rfl rfl (fun _ _=>by kernel_rfl) (K5 _) (Lk rfl (Lk rfl LR)) (azB (OC OA 8 8 100 1000 0 0 0 0 (FD.mk 0 0 ([]) ([]) ([])) (FD.mk 0 0 ([]) ([]) ([]))) ah ai aj (LG 8 8 128) aa ab ac ar au av ao ap aq _  fe.byt ff.byt fg.byt cE.byt cF.byt cG.byt ) (fun e_ w_ h_=>⟨_,h_.1,congrArg Value.bool hf.out,h_.2⟩)) ?_)))))
  rintro _ gF ⟨rfl,cI⟩
  obtain⟨fm,fo,fp,fq,ft⟩:=OU cI fk cE cF cG cD
  refine KI (.bool true) rfl rfl (KS rfl rfl rr) (KM ?_)
  have fu:=K4 (.bool true)
  refine KG (KJ ?_)
  refine QI [some 71,some 72,some 73,some 15] [Pd.eq (.agg #[iv 8,iv 8,iv 100,iv 1000]),Pd.eq (.agg #[iv ((LG 8 8 128).W),iv ((LG 8 8 128).H),aa,ab,ac]),Pd.eq (.bool true),Pd.eq (.bool true)] (by kernel_rfl) (by kernel_rfl) ?_ ?_
  ·refine KL ?_ ?_
   ·refine La.one rfl fun F_ w_ hR hout hD=>?_
    exact(LH rfl rfl rfl (fun _ _=>by kernel_rfl) (K5 _) LR (Qu   _   ) (fun e_ w_ h_=>⟨_,h_.1,rfl,h_.2⟩))
   refine KL ?_ ?_
   ·refine La.one rfl fun F_ w_ hR hout hD=>?_
    exact(KZ Lc rfl ((hout 12 rfl (by decide)).trans cH) (ft.all hR id) ⟨rfl,KO.refl _ _⟩)
   refine KL ?_ ?_
   ·refine La.one rfl fun F_ w_ hR hout hD=>?_
    have bd:F_ 71 = .agg #[iv 8,iv 8,iv 100,iv 1000]:=(hD.get 0 rfl rfl rfl)
    have bf:F_ 72 = .agg #[iv ((LG 8 8 128).W),iv ((LG 8 8 128).H),aa,ab,ac]:=(hD.get 1 rfl rfl rfl)
    exact(LH rfl rfl rfl (fun _ _=>by kernel_rfl) (K5 _) (Lk bd (Lk bf LR)) (Sw 8 8 100 1000 (LG 8 8 128) aa ab ac ao ap aq _  (fo.all hR KK.none).byt (fp.all hR KK.none).byt (fq.all hR KK.none).byt ) (fun e_ w_ h_=>⟨_,h_.1,congrArg Value.bool (decide_eq_true aC6),h_.2⟩))
   refine KL ?_ ?_
   ·refine La.one rfl fun F_ w_ hR hout hD=>?_
    have fw:F_ 73 = .bool true:=(hD.get 0 rfl rfl rfl)
    exact(KS rfl fw ⟨rfl,KO.refl _ _⟩)
   exact L0
  intro gG fx gH cJ cK aV
  have fy:=fm.all cJ KK.none
  obtain⟨fA,fB,fC,fD,fE,fF,fG⟩:=t7 aV 101 aW 5 df 6 dr 7 dt 9 dZ 11 eR 14 fu
  have fH:fx 15 = .bool true:=(aV 15).trans (cK 3 (by decide))
  clear cK aV
  refine KG (KJ (KH (KR rfl rfl rfl fB (KI (.bool true) rfl rfl (Mj rfl rfl rfl (decide_eq_true hd.out) rr) (KI (.bool true) rfl rfl (KQ rfl rfl rr) (KT (.bool true) 2 true 76 rfl rfl rfl rfl rfl (KQ rfl fG rr) (KI (.bool true) rfl rfl (Lo rfl rfl rfl rr) (KI (.bool true) rfl rfl (KQ rfl rfl rr) (KT ak 5 true 79 rfl rfl rfl rfl rfl (KQ rfl fC rr) (KT (iv ((((ME OA 8 8 100 1000 0 0 0 0).1).length:Nat):Int)) 5 true 79 rfl rfl rfl rfl rfl (WS (r:=TL) rfl rfl rfl fy.roa rr) (KT (.bool true) 5 true 79 rfl rfl rfl rfl rfl (Mj rfl rfl rfl (decide_eq_true (by rw[hc.out.1];rfl)) rr) ?_)))))))))))
  refine KI (.bool true) rfl rfl (Lo rfl rfl rfl rr) (KI (.bool true) rfl rfl (KQ rfl rfl rr) (KT (iv ((ME OA 8 8 100 1000 0 0 0 0).2)) 10 true 84 rfl rfl rfl rfl rfl (KQ rfl fD rr) (KT (.bool true) 10 true 84 rfl rfl rfl rfl rfl (Mj rfl rfl rfl (decide_eq_true hc.out.2.1) rr) (KI (.bool true) rfl rfl (Lo rfl rfl rfl rr) (KI (.bool true) rfl rfl (KQ rfl rfl rr) (KT (iv (Qw OA 8 8 100 1000 1 0 0 0 (FD.mk 0 0 ([]) ([]) ([])) (FD.mk 0 0 ([]) ([]) ([])))) 14 true 88 rfl rfl rfl rfl rfl (KQ rfl fE rr) (KT (.bool true) 14 true 88 rfl rfl rfl rfl rfl (Mj rfl rfl rfl (decide_eq_true ho.out.1) rr) (KI (.bool true) rfl rfl (Lo rfl rfl rfl rr) (KI (.bool true) rfl rfl (KQ rfl rfl rr) (KT (iv ((ME ((([]:List Nat)++OA)++([0])) 8 8 100 1000 0 0 0 0).2)) 18 true 92 rfl rfl rfl rfl rfl (KQ rfl fF rr) (KT (.bool true) 18 true 92 rfl rfl rfl rfl rfl (Mj rfl rfl rfl (decide_eq_true hc.out.2.2) rr) ?_)))))))))))
  refine KI (.bool true) rfl rfl (Lo rfl rfl rfl rr) (KI (.bool true) rfl rfl (KQ rfl rfl rr) (KI (.bool true) rfl rfl (Lo rfl rfl rfl rr) (KI (.bool true) rfl rfl (KQ rfl rfl rr) (KT (.bool true) 24 true 98 rfl rfl rfl rfl rfl (KQ rfl fH rr) (KI (.bool true) rfl rfl (Lo rfl rfl rfl rr) (KI (.bool true) rfl rfl (KS rfl rfl rr) (KM ?_)))))))
  have fI:=K4 (.bool true)
  refine KG (Lb ?_)
  exact Lu (v:=.bool true) fA rfl rfl fI ⟨rfl,((((cw.tr cz).trans af (KP.ok (S:=fun _=>False) (KP.new cw cy) K3)).tr cI).tr cJ)⟩
end Go.Proofs.YtknjpdcpmpfklaaGreatDoor
set_option maxRecDepth 100000
namespace Go.Proofs.YtknjpdcpmpfklaaGreatDoor
open Go.RowKit
def Sh(W H:Int):Prop:=(16<W/\W<=64)\/(16<H/\H<=64)
instance (W H:Int):Decidable (Sh W H):=by unfold Sh;infer_instance
end Go.Proofs.YtknjpdcpmpfklaaGreatDoor
set_option maxRecDepth 100000
namespace Go.Proofs.YtknjpdcpmpfklaaGreatDoor
open Go.RowKit
theorem YX{l:List Nat}{W H R B K Q D F:Int}(h:(ME l W H R B K Q D F).2=0):Qy W H R B K Q D F/\ME l W H R B K Q D F=OT l K W H:=by
 by_cases hm:Qy W H R B K Q D F
 ·exact⟨hm,N8 hm⟩
 ·rw[Xs hm] at h;cases h
theorem aBa{l:List Nat}{W H R B K Q D F:Int}(h:(ME l W H R B K Q D F).2≠0):(ME l W H R B K Q D F).1=[]:=by
 by_cases hm:Qy W H R B K Q D F
 ·rw[N8 hm] at h ⊢
  by_cases h1:(Nw l K W H 3).2.1=0
  ·by_cases h2:Oa l (Nw l K W H 3).2.2=0
   ·rw[Xe h1 h2] at h;exact absurd rfl h
   ·rw[Ue h1 h2]
  ·rw[Tv (Nat.le_refl 3) h1]
 ·rw[Xs hm]
theorem ayP{l r:List Nat}{W H R B K Q D F:Int}(hr:r ≠ [])(h:(ME l W H R B K Q D F).2=0):(ME (l++r) W H R B K Q D F).2≠0:=by
 obtain⟨hm,e⟩:=YX h
 rw[N8 hm];rw[e] at h;exact Ut hr h
theorem ay0{l:List Nat}{W H R B K Q D F:Int}(h:(ME l W H R B K Q D F).2=0):(ME (l.take (l.length-1)) W H R B K Q D F).2≠0:=by
 obtain⟨hm,e⟩:=YX h
 rw[N8 hm];rw[e] at h
 have:=ay8 h
 exact W7 (by omega) h
theorem Wy{l:List Nat}{W H R B K Q D F:Int}(h:(ME l W H R B K Q D F).2=0):((ME l W H R B K Q D F).1.length:Int)=W*H/16+2*(W*H/64)/\0<=W*H/\W*H<=4096:=by
 obtain⟨hm,e⟩:=YX h
 rw[e] at h ⊢
 obtain⟨h1,_,h3⟩:=Sx h
 rw[h3,XK 3 h1]
 have hsd:=Q4 hm.1
 obtain⟨a,ha⟩:∃ a,W=8*a:=⟨W/8,by omega⟩
 obtain⟨b,hb⟩:∃ b,H=8*b:=⟨H/8,by omega⟩
 have e0:∀ {z c:Int},z=8*c->1<=c->((Lh z 0:Nat):Int)=2*c/\((Lh z 1:Nat):Int)=c/\((Lh z 2:Nat):Int)=c:=fun {z c} hz hc=>by
  have f0:Lh z 0=(z/4).toNat:=rfl
  have f1:Lh z 1=(z/8).toNat:=rfl
  have f2:Lh z 2=(z/8).toNat:=rfl
  rw[f0,f1,f2];omega
 have hw:=e0 ha (by omega)
 have hh:=e0 hb (by omega)
 have hab0:0<=a*b:=Int.mul_nonneg (by omega) (by omega)
 have hab1:a*b<=8*8:=Int.mul_le_mul (by omega) (by omega) (by omega) (by omega)
 have hWH:W*H=64*(a*b):=by rw[ha,hb,Int.mul_assoc,Int.mul_left_comm a,← Int.mul_assoc];rfl
 have ho:N4 W H 3=0+Lh W 0*Lh H 0+Lh W 1*Lh H 1+Lh W 2*Lh H 2:=rfl
 rw[hWH]
 refine⟨?_,by omega,by omega⟩
 rw[ho]
 simp only[Int.natCast_add,Int.natCast_mul,hw.1,hw.2.1,hw.2.2,hh.1,hh.2.1,hh.2.2]
 rw[show (2*a)*(2*b)=4*(a*b) by rw[Int.mul_assoc,Int.mul_left_comm a,← Int.mul_assoc];rfl]
 omega
theorem Yo(W H R B K Q D F:Int)(v:Value)(l:List Nat)(n:Nat)(T_b:Nat->Prop)(w0:World)(hA:NO w0)(hO:Of w0)(hs:NU w0)(hw:Qg w0)(hn:n<256)(h_b:Mh w0 T_b v (l)) :
  Calls Tryz.prog 5 #[.agg #[.int .i64 (W),.int .i64 (H),.int .i64 (R),.int .i64 (B)],.agg #[.int .i64 (K),.int .i64 (Q),.int .i64 (D),.int .i64 (F)],v,.int .u8 (((n:Nat):Int))] w0 fun e w'=>e = .returned (.bool true)/\KO (fun _=>False) w0 w':=by
 refine Lr (args:=[.agg #[iv W,iv H,iv R,iv B],.agg #[iv K,iv Q,iv D,iv F],v,.int .u8 ((n:Nat):Int)]) 108 Tryz.func5 rfl rfl (Nat.le_of_ble_eq_true rfl) ?_
 have g_b:=KP.refl w0 T_b
 refine KJ (KH (Lz (vs:=[iv W,iv H,iv R,iv B]) rfl rfl rfl rfl fun p1 w2 B4 g5 k3=>?_))
 have B8:=h_b.all k3 KK.none
 refine Lz (vs:=[iv K,iv Q,iv D,iv F]) rfl rfl rfl rfl fun aE cC bp cD aT=>?_
 obtain⟨bq,bt⟩:=NA aT B8 B4
 have ar:=((KO.refl (fun _=>False) w0).tr k3).tr aT
 refine KI (.bool false) rfl rfl (KS rfl rfl rr) (KM ?_)
 have ae:=K4 (v)
 have ai:=K4 (.int .u8 ((n:Nat):Int))
 have aj:=K4 (undef)
 have ab:=K4 (pt p1 0)
 have ak:=K4 (pt aE 0)
 refine KG (KJ (KH (LW rfl rfl rfl rfl rfl (fun _ _=>by kernel_rfl) LR (Yp   _ (hA.all ar) (hO.all ar) (hs.all ar) (hw.all ar)  ) fun cE aU=>?_)))
 obtain⟨af,ac,am⟩:=Nu aU bq bt bp
 have an:=ar.tr aU
 refine KI (.bool true) rfl rfl (KS rfl rfl rr) (KM ?_)
 have ao:=K4 (.bool true)
 refine KG (KJ (KJ ?_))
 refine aDu (fun FF ww=>FF 39 = .bool (decide (Sh W H\/1000<l.length))/\FF 2=v/\FF 3 = .int .u8 ((n:Nat):Int)/\FF 4=pt p1 0/\FF 5=pt aE 0/\FF 9 = .bool true/\FF 108=undef/\KO (fun _=>False) w0 ww/\Mh ww T_b v l/\Mz ww p1 23 [iv W,iv H,iv R,iv B]/\Mz ww aE 25 [iv K,iv Q,iv D,iv F]) ?_ ?_
 ·skip
  by_cases ap:16<W
  ·skip
   by_cases az:W<=64
   ·skip
    refine KH (KI (pt p1 0) rfl rfl (KU (n:=1) rfl ab Tryz.underlying23 rfl (by kernel_rfl) (by decide) rfl rr) (KI (iv W) rfl rfl (KY rfl rfl Tryz.underlying3 ac rfl rfl rr) (KI (.bool true) rfl rfl (Og rfl rfl rfl (decide_eq_true ap) rr) (KI (.bool true) rfl rfl (KQ rfl rfl rr) (KT (pt p1 0) 3 true 20 rfl rfl rfl rfl rfl (KU (n:=1) rfl ab Tryz.underlying23 rfl (by kernel_rfl) (by decide) rfl rr) (KT (iv W) 3 true 20 rfl rfl rfl rfl rfl (KY rfl rfl Tryz.underlying3 ac rfl rfl rr) (KT (.bool true) 3 true 20 rfl rfl rfl rfl rfl (PM rfl rfl rfl (decide_eq_true az) rr) (KI (.bool true) rfl rfl (Lo rfl rfl rfl rr) (KI (.bool true) rfl rfl (KQ rfl rfl rr) (KN 8 false 25 rfl rfl rfl (Or.inl rfl) rfl (KN 8 false 25 rfl rfl rfl (Or.inl rfl) rfl ?_)))))))))))
    refine KN 8 false 25 rfl rfl rfl (Or.inl rfl) rfl (KN 8 false 25 rfl rfl rfl (Or.inl rfl) rfl (KN 12 true 29 rfl rfl rfl (Or.inr rfl) rfl (KN 12 true 29 rfl rfl rfl (Or.inr rfl) rfl (KN 12 true 29 rfl rfl rfl (Or.inr rfl) rfl (KN 8 false 25 rfl rfl rfl (Or.inl rfl) rfl (KI (.bool true) rfl rfl (Lo rfl rfl rfl rr) (KI (.bool true) rfl rfl (KQ rfl rfl rr) (KN 18 false 35 rfl rfl rfl (Or.inl rfl) rfl (KN 18 false 35 rfl rfl rfl (Or.inl rfl) rfl (KN 18 false 35 rfl rfl rfl (Or.inl rfl) rfl (KI (.bool true) rfl rfl (Lo rfl rfl rfl rr) ?_)))))))))))
    refine KM ?_
    have bu:=K4 (.bool true)
    exact⟨bu.trans (congrArg Value.bool (show true=decide (Sh W H\/1000<l.length) from (by rw[Bool.eq_iff_iff,decide_eq_true_iff];unfold Sh;first|(simp[*];done)|(simp[*];omega)|(simp_all;done)|(simp_all;omega)))),ae,ai,ab,ak,ao,aj,an,af,ac,am⟩
   ·skip
    by_cases aF:16<H
    ·skip
     by_cases aV:H<=64
     ·skip
      refine KH (KI (pt p1 0) rfl rfl (KU (n:=1) rfl ab Tryz.underlying23 rfl (by kernel_rfl) (by decide) rfl rr) (KI (iv W) rfl rfl (KY rfl rfl Tryz.underlying3 ac rfl rfl rr) (KI (.bool true) rfl rfl (Og rfl rfl rfl (decide_eq_true ap) rr) (KI (.bool true) rfl rfl (KQ rfl rfl rr) (KT (pt p1 0) 3 true 20 rfl rfl rfl rfl rfl (KU (n:=1) rfl ab Tryz.underlying23 rfl (by kernel_rfl) (by decide) rfl rr) (KT (iv W) 3 true 20 rfl rfl rfl rfl rfl (KY rfl rfl Tryz.underlying3 ac rfl rfl rr) (KT (.bool false) 3 true 20 rfl rfl rfl rfl rfl (PM rfl rfl rfl (decide_eq_false az) rr) (KI (.bool false) rfl rfl (Lo rfl rfl rfl rr) (KI (.bool false) rfl rfl (KQ rfl rfl rr) (KT (pt p1 1) 8 false 25 rfl rfl rfl rfl rfl (KU (n:=1) rfl ab Tryz.underlying23 rfl (by kernel_rfl) (by decide) rfl rr) (KT (iv H) 8 false 25 rfl rfl rfl rfl rfl (KY rfl rfl Tryz.underlying3 ac rfl rfl rr) ?_)))))))))))
      refine KT (.bool true) 8 false 25 rfl rfl rfl rfl rfl (Og rfl rfl rfl (decide_eq_true aF) rr) (KT (.bool true) 8 false 25 rfl rfl rfl rfl rfl (KQ rfl rfl rr) (KT (pt p1 1) 12 true 29 rfl rfl rfl rfl rfl (KU (n:=1) rfl ab Tryz.underlying23 rfl (by kernel_rfl) (by decide) rfl rr) (KT (iv H) 12 true 29 rfl rfl rfl rfl rfl (KY rfl rfl Tryz.underlying3 ac rfl rfl rr) (KT (.bool true) 12 true 29 rfl rfl rfl rfl rfl (PM rfl rfl rfl (decide_eq_true aV) rr) (KT (.bool true) 8 false 25 rfl rfl rfl rfl rfl (Lo rfl rfl rfl rr) (KI (.bool true) rfl rfl (Li rfl rfl rfl rr) (KI (.bool true) rfl rfl (KQ rfl rfl rr) (KN 18 false 35 rfl rfl rfl (Or.inl rfl) rfl (KN 18 false 35 rfl rfl rfl (Or.inl rfl) rfl (KN 18 false 35 rfl rfl rfl (Or.inl rfl) rfl (KI (.bool true) rfl rfl (Lo rfl rfl rfl rr) ?_)))))))))))
      refine KM ?_
      have bv:=K4 (.bool true)
      exact⟨bv.trans (congrArg Value.bool (show true=decide (Sh W H\/1000<l.length) from (by rw[Bool.eq_iff_iff,decide_eq_true_iff];unfold Sh;first|(simp[*];done)|(simp[*];omega)|(simp_all;done)|(simp_all;omega)))),ae,ai,ab,ak,ao,aj,an,af,ac,am⟩
     ·skip
      refine KH (KI (pt p1 0) rfl rfl (KU (n:=1) rfl ab Tryz.underlying23 rfl (by kernel_rfl) (by decide) rfl rr) (KI (iv W) rfl rfl (KY rfl rfl Tryz.underlying3 ac rfl rfl rr) (KI (.bool true) rfl rfl (Og rfl rfl rfl (decide_eq_true ap) rr) (KI (.bool true) rfl rfl (KQ rfl rfl rr) (KT (pt p1 0) 3 true 20 rfl rfl rfl rfl rfl (KU (n:=1) rfl ab Tryz.underlying23 rfl (by kernel_rfl) (by decide) rfl rr) (KT (iv W) 3 true 20 rfl rfl rfl rfl rfl (KY rfl rfl Tryz.underlying3 ac rfl rfl rr) (KT (.bool false) 3 true 20 rfl rfl rfl rfl rfl (PM rfl rfl rfl (decide_eq_false az) rr) (KI (.bool false) rfl rfl (Lo rfl rfl rfl rr) (KI (.bool false) rfl rfl (KQ rfl rfl rr) (KT (pt p1 1) 8 false 25 rfl rfl rfl rfl rfl (KU (n:=1) rfl ab Tryz.underlying23 rfl (by kernel_rfl) (by decide) rfl rr) (KT (iv H) 8 false 25 rfl rfl rfl rfl rfl (KY rfl rfl Tryz.underlying3 ac rfl rfl rr) ?_)))))))))))
      refine KT (.bool true) 8 false 25 rfl rfl rfl rfl rfl (Og rfl rfl rfl (decide_eq_true aF) rr) (KT (.bool true) 8 false 25 rfl rfl rfl rfl rfl (KQ rfl rfl rr) (KT (pt p1 1) 12 true 29 rfl rfl rfl rfl rfl (KU (n:=1) rfl ab Tryz.underlying23 rfl (by kernel_rfl) (by decide) rfl rr) (KT (iv H) 12 true 29 rfl rfl rfl rfl rfl (KY rfl rfl Tryz.underlying3 ac rfl rfl rr) (KT (.bool false) 12 true 29 rfl rfl rfl rfl rfl (PM rfl rfl rfl (decide_eq_false aV) rr) (KT (.bool false) 8 false 25 rfl rfl rfl rfl rfl (Lo rfl rfl rfl rr) (KI (.bool false) rfl rfl (Li rfl rfl rfl rr) (KI (.bool false) rfl rfl (KQ rfl rfl rr) (KT v 18 false 35 rfl rfl rfl rfl rfl (KQ rfl ae rr) (KT (iv ((l.length:Nat):Int)) 18 false 35 rfl rfl rfl rfl rfl (QL rfl rfl rfl af rr) (KT (.bool (decide (1000<((l.length:Nat):Int)))) 18 false 35 rfl rfl rfl rfl rfl (Og rfl rfl rfl rfl rr) (KI (.bool (decide (1000<((l.length:Nat):Int)))) rfl rfl (Li rfl rfl rfl rr) ?_)))))))))))
      refine KM ?_
      have bz:=K4 (.bool (decide (1000<((l.length:Nat):Int))))
      exact⟨bz.trans (congrArg Value.bool (show (decide (1000<((l.length:Nat):Int)))=decide (Sh W H\/1000<l.length) from (by rw[Bool.eq_iff_iff,decide_eq_true_iff];unfold Sh;first|(simp[*];done)|(simp[*];omega)|(simp_all;done)|(simp_all;omega)))),ae,ai,ab,ak,ao,aj,an,af,ac,am⟩
    ·skip
     refine KH (KI (pt p1 0) rfl rfl (KU (n:=1) rfl ab Tryz.underlying23 rfl (by kernel_rfl) (by decide) rfl rr) (KI (iv W) rfl rfl (KY rfl rfl Tryz.underlying3 ac rfl rfl rr) (KI (.bool true) rfl rfl (Og rfl rfl rfl (decide_eq_true ap) rr) (KI (.bool true) rfl rfl (KQ rfl rfl rr) (KT (pt p1 0) 3 true 20 rfl rfl rfl rfl rfl (KU (n:=1) rfl ab Tryz.underlying23 rfl (by kernel_rfl) (by decide) rfl rr) (KT (iv W) 3 true 20 rfl rfl rfl rfl rfl (KY rfl rfl Tryz.underlying3 ac rfl rfl rr) (KT (.bool false) 3 true 20 rfl rfl rfl rfl rfl (PM rfl rfl rfl (decide_eq_false az) rr) (KI (.bool false) rfl rfl (Lo rfl rfl rfl rr) (KI (.bool false) rfl rfl (KQ rfl rfl rr) (KT (pt p1 1) 8 false 25 rfl rfl rfl rfl rfl (KU (n:=1) rfl ab Tryz.underlying23 rfl (by kernel_rfl) (by decide) rfl rr) (KT (iv H) 8 false 25 rfl rfl rfl rfl rfl (KY rfl rfl Tryz.underlying3 ac rfl rfl rr) ?_)))))))))))
     refine KT (.bool false) 8 false 25 rfl rfl rfl rfl rfl (Og rfl rfl rfl (decide_eq_false aF) rr) (KT (.bool false) 8 false 25 rfl rfl rfl rfl rfl (KQ rfl rfl rr) (KN 12 true 29 rfl rfl rfl (Or.inl rfl) rfl (KN 12 true 29 rfl rfl rfl (Or.inl rfl) rfl (KN 12 true 29 rfl rfl rfl (Or.inl rfl) rfl (KT (.bool false) 8 false 25 rfl rfl rfl rfl rfl (Li rfl rfl rfl rr) (KI (.bool false) rfl rfl (Li rfl rfl rfl rr) (KI (.bool false) rfl rfl (KQ rfl rfl rr) (KT v 18 false 35 rfl rfl rfl rfl rfl (KQ rfl ae rr) (KT (iv ((l.length:Nat):Int)) 18 false 35 rfl rfl rfl rfl rfl (QL rfl rfl rfl af rr) (KT (.bool (decide (1000<((l.length:Nat):Int)))) 18 false 35 rfl rfl rfl rfl rfl (Og rfl rfl rfl rfl rr) (KI (.bool (decide (1000<((l.length:Nat):Int)))) rfl rfl (Li rfl rfl rfl rr) ?_)))))))))))
     refine KM ?_
     have bA:=K4 (.bool (decide (1000<((l.length:Nat):Int))))
     exact⟨bA.trans (congrArg Value.bool (show (decide (1000<((l.length:Nat):Int)))=decide (Sh W H\/1000<l.length) from (by rw[Bool.eq_iff_iff,decide_eq_true_iff];unfold Sh;first|(simp[*];done)|(simp[*];omega)|(simp_all;done)|(simp_all;omega)))),ae,ai,ab,ak,ao,aj,an,af,ac,am⟩
  ·skip
   by_cases aG:16<H
   ·skip
    by_cases aW:H<=64
    ·skip
     refine KH (KI (pt p1 0) rfl rfl (KU (n:=1) rfl ab Tryz.underlying23 rfl (by kernel_rfl) (by decide) rfl rr) (KI (iv W) rfl rfl (KY rfl rfl Tryz.underlying3 ac rfl rfl rr) (KI (.bool false) rfl rfl (Og rfl rfl rfl (decide_eq_false ap) rr) (KI (.bool false) rfl rfl (KQ rfl rfl rr) (KN 3 true 20 rfl rfl rfl (Or.inl rfl) rfl (KN 3 true 20 rfl rfl rfl (Or.inl rfl) rfl (KN 3 true 20 rfl rfl rfl (Or.inl rfl) rfl (KI (.bool false) rfl rfl (Li rfl rfl rfl rr) (KI (.bool false) rfl rfl (KQ rfl rfl rr) (KT (pt p1 1) 8 false 25 rfl rfl rfl rfl rfl (KU (n:=1) rfl ab Tryz.underlying23 rfl (by kernel_rfl) (by decide) rfl rr) (KT (iv H) 8 false 25 rfl rfl rfl rfl rfl (KY rfl rfl Tryz.underlying3 ac rfl rfl rr) ?_)))))))))))
     refine KT (.bool true) 8 false 25 rfl rfl rfl rfl rfl (Og rfl rfl rfl (decide_eq_true aG) rr) (KT (.bool true) 8 false 25 rfl rfl rfl rfl rfl (KQ rfl rfl rr) (KT (pt p1 1) 12 true 29 rfl rfl rfl rfl rfl (KU (n:=1) rfl ab Tryz.underlying23 rfl (by kernel_rfl) (by decide) rfl rr) (KT (iv H) 12 true 29 rfl rfl rfl rfl rfl (KY rfl rfl Tryz.underlying3 ac rfl rfl rr) (KT (.bool true) 12 true 29 rfl rfl rfl rfl rfl (PM rfl rfl rfl (decide_eq_true aW) rr) (KT (.bool true) 8 false 25 rfl rfl rfl rfl rfl (Lo rfl rfl rfl rr) (KI (.bool true) rfl rfl (Li rfl rfl rfl rr) (KI (.bool true) rfl rfl (KQ rfl rfl rr) (KN 18 false 35 rfl rfl rfl (Or.inl rfl) rfl (KN 18 false 35 rfl rfl rfl (Or.inl rfl) rfl (KN 18 false 35 rfl rfl rfl (Or.inl rfl) rfl (KI (.bool true) rfl rfl (Lo rfl rfl rfl rr) ?_)))))))))))
     refine KM ?_
     have bB:=K4 (.bool true)
     exact⟨bB.trans (congrArg Value.bool (show true=decide (Sh W H\/1000<l.length) from (by rw[Bool.eq_iff_iff,decide_eq_true_iff];unfold Sh;first|(simp[*];done)|(simp[*];omega)|(simp_all;done)|(simp_all;omega)))),ae,ai,ab,ak,ao,aj,an,af,ac,am⟩
    ·skip
     refine KH (KI (pt p1 0) rfl rfl (KU (n:=1) rfl ab Tryz.underlying23 rfl (by kernel_rfl) (by decide) rfl rr) (KI (iv W) rfl rfl (KY rfl rfl Tryz.underlying3 ac rfl rfl rr) (KI (.bool false) rfl rfl (Og rfl rfl rfl (decide_eq_false ap) rr) (KI (.bool false) rfl rfl (KQ rfl rfl rr) (KN 3 true 20 rfl rfl rfl (Or.inl rfl) rfl (KN 3 true 20 rfl rfl rfl (Or.inl rfl) rfl (KN 3 true 20 rfl rfl rfl (Or.inl rfl) rfl (KI (.bool false) rfl rfl (Li rfl rfl rfl rr) (KI (.bool false) rfl rfl (KQ rfl rfl rr) (KT (pt p1 1) 8 false 25 rfl rfl rfl rfl rfl (KU (n:=1) rfl ab Tryz.underlying23 rfl (by kernel_rfl) (by decide) rfl rr) (KT (iv H) 8 false 25 rfl rfl rfl rfl rfl (KY rfl rfl Tryz.underlying3 ac rfl rfl rr) ?_)))))))))))
     refine KT (.bool true) 8 false 25 rfl rfl rfl rfl rfl (Og rfl rfl rfl (decide_eq_true aG) rr) (KT (.bool true) 8 false 25 rfl rfl rfl rfl rfl (KQ rfl rfl rr) (KT (pt p1 1) 12 true 29 rfl rfl rfl rfl rfl (KU (n:=1) rfl ab Tryz.underlying23 rfl (by kernel_rfl) (by decide) rfl rr) (KT (iv H) 12 true 29 rfl rfl rfl rfl rfl (KY rfl rfl Tryz.underlying3 ac rfl rfl rr) (KT (.bool false) 12 true 29 rfl rfl rfl rfl rfl (PM rfl rfl rfl (decide_eq_false aW) rr) (KT (.bool false) 8 false 25 rfl rfl rfl rfl rfl (Lo rfl rfl rfl rr) (KI (.bool false) rfl rfl (Li rfl rfl rfl rr) (KI (.bool false) rfl rfl (KQ rfl rfl rr) (KT v 18 false 35 rfl rfl rfl rfl rfl (KQ rfl ae rr) (KT (iv ((l.length:Nat):Int)) 18 false 35 rfl rfl rfl rfl rfl (QL rfl rfl rfl af rr) (KT (.bool (decide (1000<((l.length:Nat):Int)))) 18 false 35 rfl rfl rfl rfl rfl (Og rfl rfl rfl rfl rr) (KI (.bool (decide (1000<((l.length:Nat):Int)))) rfl rfl (Li rfl rfl rfl rr) ?_)))))))))))
     refine KM ?_
     have bC:=K4 (.bool (decide (1000<((l.length:Nat):Int))))
     exact⟨bC.trans (congrArg Value.bool (show (decide (1000<((l.length:Nat):Int)))=decide (Sh W H\/1000<l.length) from (by rw[Bool.eq_iff_iff,decide_eq_true_iff];unfold Sh;first|(simp[*];done)|(simp[*];omega)|(simp_all;done)|(simp_all;omega)))),ae,ai,ab,ak,ao,aj,an,af,ac,am⟩
   ·skip
    refine KH (KI (pt p1 0) rfl rfl (KU (n:=1) rfl ab Tryz.underlying23 rfl (by kernel_rfl) (by decide) rfl rr) (KI (iv W) rfl rfl (KY rfl rfl Tryz.underlying3 ac rfl rfl rr) (KI (.bool false) rfl rfl (Og rfl rfl rfl (decide_eq_false ap) rr) (KI (.bool false) rfl rfl (KQ rfl rfl rr) (KN 3 true 20 rfl rfl rfl (Or.inl rfl) rfl (KN 3 true 20 rfl rfl rfl (Or.inl rfl) rfl (KN 3 true 20 rfl rfl rfl (Or.inl rfl) rfl (KI (.bool false) rfl rfl (Li rfl rfl rfl rr) (KI (.bool false) rfl rfl (KQ rfl rfl rr) (KT (pt p1 1) 8 false 25 rfl rfl rfl rfl rfl (KU (n:=1) rfl ab Tryz.underlying23 rfl (by kernel_rfl) (by decide) rfl rr) (KT (iv H) 8 false 25 rfl rfl rfl rfl rfl (KY rfl rfl Tryz.underlying3 ac rfl rfl rr) ?_)))))))))))
    refine KT (.bool false) 8 false 25 rfl rfl rfl rfl rfl (Og rfl rfl rfl (decide_eq_false aG) rr) (KT (.bool false) 8 false 25 rfl rfl rfl rfl rfl (KQ rfl rfl rr) (KN 12 true 29 rfl rfl rfl (Or.inl rfl) rfl (KN 12 true 29 rfl rfl rfl (Or.inl rfl) rfl (KN 12 true 29 rfl rfl rfl (Or.inl rfl) rfl (KT (.bool false) 8 false 25 rfl rfl rfl rfl rfl (Li rfl rfl rfl rr) (KI (.bool false) rfl rfl (Li rfl rfl rfl rr) (KI (.bool false) rfl rfl (KQ rfl rfl rr) (KT v 18 false 35 rfl rfl rfl rfl rfl (KQ rfl ae rr) (KT (iv ((l.length:Nat):Int)) 18 false 35 rfl rfl rfl rfl rfl (QL rfl rfl rfl af rr) (KT (.bool (decide (1000<((l.length:Nat):Int)))) 18 false 35 rfl rfl rfl rfl rfl (Og rfl rfl rfl rfl rr) (KI (.bool (decide (1000<((l.length:Nat):Int)))) rfl rfl (Li rfl rfl rfl rr) ?_)))))))))))
    refine KM ?_
    have bD:=K4 (.bool (decide (1000<((l.length:Nat):Int))))
    exact⟨bD.trans (congrArg Value.bool (show (decide (1000<((l.length:Nat):Int)))=decide (Sh W H\/1000<l.length) from (by rw[Bool.eq_iff_iff,decide_eq_true_iff];unfold Sh;first|(simp[*];done)|(simp[*];omega)|(simp_all;done)|(simp_all;omega)))),ae,ai,ab,ak,ao,aj,an,af,ac,am⟩
 ·rintro cF aX ⟨bE,aH,bF,aI,aJ,aK,aL,aA,aY,aZ,a8⟩
  refine KG ?_
  refine K6 bE (fun au=>?_) (fun au=>?_)
  ·replace au:=of_decide_eq_true au
   refine KJ (KH (KR rfl rfl rfl aK (KI (.bool true) rfl rfl (KS rfl rfl rr) (KM ?_))))
   have bG:=K4 (.bool true)
   refine KG (Lb (Lq ?_))
   exact Lu (v:=.bool true) aL rfl rfl bG ⟨rfl,aA⟩
  ·replace au:=of_decide_eq_false au
   refine Lg (KG (KJ (KH (KI (.agg #[iv W,iv H,iv R,iv B]) rfl rfl (KZ My rfl aI aZ rr) (KI (.agg #[iv K,iv Q,iv D,iv F]) rfl rfl (KZ Pj rfl aJ a8 rr) (KR rfl rfl rfl aH (LB (R:=fun v_ w_=>∃ (ah:Value) (aM:Nat->Prop),.tuple #[ah,iv ((ME l W H R B K Q D F).2)]=v_/\KO (fun _=>False) aX w_/\(QX TL w_ aM ah ((ME l W H R B K Q D F).1)/\KP aX LX aM)) rfl rfl (LH rfl rfl rfl (fun _ _=>by kernel_rfl) (K5 _) (Lk rfl (Lk rfl (Lk rfl LR))) (Pi W H R B K Q D F v l T_b _ (hA.all aA) (hO.all aA) (by first|omega|(simp;omega)) aY ) (fun e_ w_ h_=>by obtain⟨v129_,T132_,he_,hr_⟩:=h_;exact⟨_,he_,v129_,T132_,rfl,hr_⟩)) ?_)))))))
   rintro _ aq ⟨ah,aM,rfl,a9,⟨ba,cG⟩⟩
   obtain⟨bb,bc,bd⟩:=Nu a9 aY aZ a8
   have aB:=aA.tr a9
   refine KI (.tuple #[ah,iv ((ME l W H R B K Q D F).2)]) rfl rfl (KQ rfl rfl rr) (KI ah rfl rfl (LL rfl rfl rfl rr) (KI (iv ((ME l W H R B K Q D F).2)) rfl rfl (LL rfl rfl rfl rr) (KI ah rfl rfl (KS rfl rfl rr) (KI (iv ((ME l W H R B K Q D F).2)) rfl rfl (KS rfl rfl rr) (KM ?_)))))
   have be:=K4 (ah)
   have bH:=K4 (iv ((ME l W H R B K Q D F).2))
   refine KG (KJ (KJ (KH (KR rfl rfl rfl bH (KI (.bool (decide (((ME l W H R B K Q D F).2)≠0))) rfl rfl (Mb rfl rfl rfl rfl rr) (KM ?_))))))
   have bI:=K4 (.bool (decide (((ME l W H R B K Q D F).2)≠0)))
   refine KG ?_
   refine K6 bI (fun av=>?_) (fun av=>?_)
   ·replace av:=of_decide_eq_true av
    refine KJ ?_
    have hno:=aBa (l:=l) (W:=W) (H:=H) (R:=R) (B:=B) (K:=K) (Q:=Q) (D:=D) (F:=F) (by assumption)
    refine KH (KR rfl rfl rfl aK (KI (.bool true) rfl rfl (KQ rfl rfl rr) (KT ah 1 true 51 rfl rfl rfl rfl rfl (KQ rfl be rr) (KT (iv ((((ME l W H R B K Q D F).1).length:Nat):Int)) 1 true 51 rfl rfl rfl rfl rfl (WS (r:=TL) rfl rfl rfl ba.roa rr) (KT (.bool true) 1 true 51 rfl rfl rfl rfl rfl (Mj rfl rfl rfl (decide_eq_true (by rw[hno];rfl)) rr) (KI (.bool true) rfl rfl (Lo rfl rfl rfl rr) (KI (.bool true) rfl rfl (KS rfl rfl rr) (KM ?_))))))))
    have bJ:=K4 (.bool true)
    refine KG (Lb (Lq ?_))
    exact Lu (v:=.bool true) aL rfl rfl bJ ⟨rfl,aB⟩
   ·replace av:=of_decide_eq_false av
    refine Lg (KG (KJ ?_))
    have hz:(ME l W H R B K Q D F).2=0:=by first|assumption|(apply Decidable.byContradiction;assumption)
    have hll:l.length<=1000:=by omega
    refine aB2 (S:=fun _=>False) [] [some 57,some 58,some 59,some 60,some 61,some 62,some 63,some 64,some 65,some 56,some 66,some 67,some 12,some 13] [Pm.eq (.agg #[iv W,iv H,iv R,iv B]),Pm.eq (.agg #[iv K,iv Q,iv D,iv F]),Pm.new (ayE ([]:List Nat)),Pm.eq v,Pm.new (ayE (([]:List Nat)++l)),Pm.eq (.int .u8 ((n:Nat):Int)),Pm.new (ayE ([n])),Pm.new (ayE ((([]:List Nat)++l)++([n]))),Pm.new (Uw (fun v_=>∃ q_,v_ = .tuple #[q_,iv ((ME ((([]:List Nat)++l)++([n])) W H R B K Q D F).2)])),Pm.new (Uw (fun v_=>∃ q_,v_ = .tuple #[q_,iv ((ME ((([]:List Nat)++l)++([n])) W H R B K Q D F).2)])),Pm.new (Uw (fun v_=>∃ q_,v_=q_)),Pm.eq (iv ((ME ((([]:List Nat)++l)++([n])) W H R B K Q D F).2)),Pm.new (Uw (fun v_=>∃ q_,v_=q_)),Pm.eq (iv ((ME ((([]:List Nat)++l)++([n])) W H R B K Q D F).2))] [none,none,none,none,some (true,2),none,none,some (true,4),none,none,none,none,none,none] [] [LX,LX,LX,LX,LX,LX,LX,LX,LX,LX,LX,LX,LX,LX] (by kernel_rfl) (by kernel_rfl) (by kernel_rfl) rfl rfl (by kernel_rfl) ⟨rfl,⟨rfl,⟨rfl,⟨rfl,⟨rfl,⟨rfl,⟨rfl,⟨rfl,⟨rfl,⟨rfl,⟨rfl,⟨rfl,⟨rfl,⟨rfl,trivial⟩⟩⟩⟩⟩⟩⟩⟩⟩⟩⟩⟩⟩⟩ ⟨(fun _ z_=>z_.elim),⟨(fun _ z_=>z_.elim),⟨(fun _ z_=>z_.elim),⟨(fun _ z_=>z_.elim),⟨(fun _ z_=>z_.elim),⟨(fun _ z_=>z_.elim),⟨(fun _ z_=>z_.elim),⟨(fun _ z_=>z_.elim),⟨(fun _ z_=>z_.elim),⟨(fun _ z_=>z_.elim),⟨(fun _ z_=>z_.elim),⟨(fun _ z_=>z_.elim),⟨(fun _ z_=>z_.elim),⟨(fun _ z_=>z_.elim),trivial⟩⟩⟩⟩⟩⟩⟩⟩⟩⟩⟩⟩⟩⟩ trivial ?_ ?_
    ·refine MF ?_ ?_
     ·refine Nx.one rfl rfl fun F_ w_ hR hout hD hE_=>?_
      exact(KZ My rfl ((hout 4 rfl (by decide)).trans aI) (bc.all hR id) ⟨rfl,KO.refl _ _⟩)
     refine MF ?_ ?_
     ·refine Nx.one rfl rfl fun F_ w_ hR hout hD hE_=>?_
      exact(KZ Pj rfl ((hout 5 rfl (by decide)).trans aJ) (bd.all hR id) ⟨rfl,KO.refl _ _⟩)
     refine MF ?_ ?_
     ·refine Nx.one rfl rfl fun F_ w_ hR hout hD hE_=>?_
      exact azb rfl fun v_ w2_ T_ b_ g_ k_=>⟨k_,T_,b_,g_⟩
     refine MF ?_ ?_
     ·refine Nx.one rfl rfl fun F_ w_ hR hout hD hE_=>?_
      exact(KQ rfl ((hout 2 rfl (by decide)).trans aH) ⟨rfl,KO.refl _ _⟩)
     refine MF ?_ ?_
     ·refine Nx.uses 2 59 rfl rfl rfl rfl fun F_ w_ Tu_ hR hout hD hE_ hB_ _=>?_
      have bK:F_ 60=v:=(hD.get 1 rfl rfl rfl).1
      exact WE rfl rfl rfl bK hB_ (bb.all hR KK.none) (by first|omega|(simp;done)|(simp;omega)) fun v_ w2_ T_ b_ g_ k_=>⟨k_,T_,b_,g_⟩
     refine MF ?_ ?_
     ·refine Nx.one rfl rfl fun F_ w_ hR hout hD hE_=>?_
      exact(KQ rfl ((hout 3 rfl (by decide)).trans bF) ⟨rfl,KO.refl _ _⟩)
     refine MF ?_ ?_
     ·refine Nx.one rfl rfl fun F_ w_ hR hout hD hE_=>?_
      have bL:F_ 62 = .int .u8 ((n:Nat):Int):=(hD.get 0 rfl rfl rfl).1
      exact ayJ (xs:=[.tmp 62]) (vs:=[.int .u8 ((n:Nat):Int)]) (l:=[n]) rfl rfl rfl (Lk bL LR) rfl (Nat.le_of_ble_eq_true rfl) (Nat.le_of_ble_eq_true rfl) (by first|decide|(simp only[List.forall_mem_cons];simp;omega)) fun v_ w2_ T_ b_ g_ k_=>⟨k_,T_,b_,g_⟩
     refine MF ?_ ?_
     ·refine Nx.uses 4 61 rfl rfl rfl rfl fun F_ w_ Tu_ hR hout hD hE_ hB_ _=>?_
      obtain⟨T63_,h63_,_⟩:∃ T_,L3 w_ T_ (F_ 63) ([n])/\KP aq _ T_:=(hD.get 1 rfl rfl rfl).2.1 rfl
      exact WE rfl rfl rfl rfl hB_ h63_.byt (by first|omega|(simp;done)|(simp;omega)) fun v_ w2_ T_ b_ g_ k_=>⟨k_,T_,b_,g_⟩
     refine MF ?_ ?_
     ·refine Nx.one rfl rfl fun F_ w_ hR hout hD hE_=>?_
      have bM:F_ 57 = .agg #[iv W,iv H,iv R,iv B]:=(hD.get 0 rfl rfl rfl).1
      have bN:F_ 58 = .agg #[iv K,iv Q,iv D,iv F]:=(hD.get 1 rfl rfl rfl).1
      obtain⟨T64_,h64_,_⟩:∃ T_,L3 w_ T_ (F_ 64) ((([]:List Nat)++l)++([n]))/\KP aq _ T_:=(hD.get 2 rfl rfl rfl).2.1 rfl
      exact(LH rfl rfl rfl (fun _ _=>by kernel_rfl) (K5 _) (Lk bM (Lk bN (Lk rfl LR))) (Pi W H R B K Q D F (F_ 64) ((([]:List Nat)++l)++([n])) T64_ _ (hA.all (aB.trans hR (fun _ _ x=>x.elim))) (hO.all (aB.trans hR (fun _ _ x=>x.elim))) (by first|omega|(simp;omega)) h64_.byt ) (fun e_ w_ h_=>by obtain⟨v_,T_,he_,k_,_⟩:=h_;exact⟨_,he_,k_,LX,⟨rfl,_,rfl⟩,KP.refl _ _⟩))
     refine MF ?_ ?_
     ·refine Nx.one rfl rfl fun F_ w_ hR hout hD hE_=>?_
      obtain⟨_,⟨_,q65_,bO⟩,_⟩:∃ T_,(Uw (fun v_=>∃ q_,v_ = .tuple #[q_,iv ((ME ((([]:List Nat)++l)++([n])) W H R B K Q D F).2)])).B (F_ 65) T_ w_/\KP aq _ T_:=(hD.get 0 rfl rfl rfl).2.1 rfl
      exact(KQ rfl bO ⟨KO.refl _ _,LX,⟨rfl,_,rfl⟩,KP.refl _ _⟩)
     refine MF ?_ ?_
     ·refine Nx.one rfl rfl fun F_ w_ hR hout hD hE_=>?_
      obtain⟨_,⟨_,q56_,aN⟩,_⟩:∃ T_,(Uw (fun v_=>∃ q_,v_ = .tuple #[q_,iv ((ME ((([]:List Nat)++l)++([n])) W H R B K Q D F).2)])).B (F_ 56) T_ w_/\KP aq _ T_:=(hD.get 0 rfl rfl rfl).2.1 rfl
      exact(LL rfl aN rfl ⟨KO.refl _ _,LX,⟨rfl,_,rfl⟩,KP.refl _ _⟩)
     refine MF ?_ ?_
     ·refine Nx.one rfl rfl fun F_ w_ hR hout hD hE_=>?_
      obtain⟨_,⟨_,q56_,aN⟩,_⟩:∃ T_,(Uw (fun v_=>∃ q_,v_ = .tuple #[q_,iv ((ME ((([]:List Nat)++l)++([n])) W H R B K Q D F).2)])).B (F_ 56) T_ w_/\KP aq _ T_:=(hD.get 0 rfl rfl rfl).2.1 rfl
      exact(LL rfl aN rfl ⟨rfl,KO.refl _ _⟩)
     refine MF ?_ ?_
     ·refine Nx.one rfl rfl fun F_ w_ hR hout hD hE_=>?_
      obtain⟨_,⟨_,q66_,bP⟩,_⟩:∃ T_,(Uw (fun v_=>∃ q_,v_=q_)).B (F_ 66) T_ w_/\KP aq _ T_:=(hD.get 0 rfl rfl rfl).2.1 rfl
      exact(KS rfl bP ⟨KO.refl _ _,LX,⟨rfl,_,rfl⟩,KP.refl _ _⟩)
     refine MF ?_ ?_
     ·refine Nx.one rfl rfl fun F_ w_ hR hout hD hE_=>?_
      have bQ:F_ 67=iv ((ME ((([]:List Nat)++l)++([n])) W H R B K Q D F).2):=(hD.get 0 rfl rfl rfl).1
      exact(KS rfl bQ ⟨rfl,KO.refl _ _⟩)
     exact YB
    intro cH cI bR cJ bf bg bS bT aO
    obtain⟨aw,bh,bU,bV⟩:=OV bf bb bc bd ba
    have aP:=aB.tr bf
    clear bS bT
    obtain⟨bi,bj,bW,bX,bY,bZ⟩:=t6 aO 2 aH 4 aI 5 aJ 9 aK 108 aL 10 be
    have b7:bR 13=iv ((ME ((([]:List Nat)++l)++([n])) W H R B K Q D F).2):=(aO 13).trans (bg 13 (by decide))
    clear bg aO
    refine KG (KJ ?_)
    refine QI [some 69,some 70,some 71,some 72,some 73,some 74,some 75,some 76,some 77,some 68,some 78,some 79,some 14,some 15] [Pd.eq (.agg #[iv W,iv H,iv R,iv B]),Pd.eq (.agg #[iv K,iv Q,iv D,iv F]),Pd.eq v,Pd.eq v,Pd.eq (iv ((l.length:Nat):Int)),Pd.eq (iv (((l.length:Nat):Int)-1)),Pd.eq (iv (max (((l.length:Nat):Int)-1) 0)),Pd.eq (Mr v 0 ((max (((l.length:Nat):Int)-1) 0).toNat) (UL v)),Pd.shp (fun v_=>∃ q_,v_ = .tuple #[q_,iv ((ME ((l.drop 0).take (((max (((l.length:Nat):Int)-1) 0).toNat)-0)) W H R B K Q D F).2)]),Pd.shp (fun v_=>∃ q_,v_ = .tuple #[q_,iv ((ME ((l.drop 0).take (((max (((l.length:Nat):Int)-1) 0).toNat)-0)) W H R B K Q D F).2)]),Pd.shp (fun v_=>∃ q_,v_=q_),Pd.eq (iv ((ME ((l.drop 0).take (((max (((l.length:Nat):Int)-1) 0).toNat)-0)) W H R B K Q D F).2)),Pd.shp (fun v_=>∃ q_,v_=q_),Pd.eq (iv ((ME ((l.drop 0).take (((max (((l.length:Nat):Int)-1) 0).toNat)-0)) W H R B K Q D F).2))] (by kernel_rfl) (by kernel_rfl) ?_ ?_
    ·refine KL ?_ ?_
     ·refine La.one rfl fun F_ w_ hR hout hD=>?_
      exact(KZ My rfl ((hout 4 rfl (by decide)).trans bj) (bh.all hR id) ⟨rfl,KO.refl _ _⟩)
     refine KL ?_ ?_
     ·refine La.one rfl fun F_ w_ hR hout hD=>?_
      exact(KZ Pj rfl ((hout 5 rfl (by decide)).trans bW) (bU.all hR id) ⟨rfl,KO.refl _ _⟩)
     refine KL ?_ ?_
     ·refine La.one rfl fun F_ w_ hR hout hD=>?_
      exact(KQ rfl ((hout 2 rfl (by decide)).trans bi) ⟨rfl,KO.refl _ _⟩)
     refine KL ?_ ?_
     ·refine La.one rfl fun F_ w_ hR hout hD=>?_
      exact(KQ rfl ((hout 2 rfl (by decide)).trans bi) ⟨rfl,KO.refl _ _⟩)
     refine KL ?_ ?_
     ·refine La.one rfl fun F_ w_ hR hout hD=>?_
      have b8:F_ 72=v:=(hD.get 0 rfl rfl rfl)
      exact(QL rfl rfl b8 (aw.all hR KK.none) ⟨rfl,KO.refl _ _⟩)
     refine KL ?_ ?_
     ·refine La.one rfl fun F_ w_ hR hout hD=>?_
      have b9:F_ 73=iv ((l.length:Nat):Int):=(hD.get 0 rfl rfl rfl)
      exact(UA rfl b9 rfl (L2 rfl (by omega)) ⟨rfl,KO.refl _ _⟩)
     refine KL ?_ ?_
     ·refine La.one rfl fun F_ w_ hR hout hD=>?_
      have cd:F_ 74=iv (((l.length:Nat):Int)-1):=(hD.get 0 rfl rfl rfl)
      exact(QO rfl cd rfl rfl ⟨rfl,KO.refl _ _⟩)
     refine KL ?_ ?_
     ·refine La.one rfl fun F_ w_ hR hout hD=>?_
      have ce:F_ 71=v:=(hD.get 0 rfl rfl rfl)
      have cf:F_ 75=iv (max (((l.length:Nat):Int)-1) 0):=(hD.get 1 rfl rfl rfl)
      exact(aDr ((max (((l.length:Nat):Int)-1) 0).toNat) rfl ce cf (by omega) (aw.all hR KK.none) (by omega) ⟨rfl,KO.refl _ _⟩)
     refine KL ?_ ?_
     ·refine La.one rfl fun F_ w_ hR hout hD=>?_
      have cg:F_ 69 = .agg #[iv W,iv H,iv R,iv B]:=(hD.get 0 rfl rfl rfl)
      have ci:F_ 70 = .agg #[iv K,iv Q,iv D,iv F]:=(hD.get 1 rfl rfl rfl)
      have cj:F_ 76=Mr v 0 ((max (((l.length:Nat):Int)-1) 0).toNat) (UL v):=(hD.get 2 rfl rfl rfl)
      exact(LH rfl rfl rfl (fun _ _=>by kernel_rfl) (K5 _) (Lk cg (Lk ci (Lk cj LR))) (Pi W H R B K Q D F (Mr v 0 ((max (((l.length:Nat):Int)-1) 0).toNat) (UL v)) ((l.drop 0).take (((max (((l.length:Nat):Int)-1) 0).toNat)-0)) T_b _ (hA.all (aP.trans hR (fun _ _ x=>x.elim))) (hO.all (aP.trans hR (fun _ _ x=>x.elim))) (by first|omega|(simp;omega)) ((aw.all hR KK.none).sub (i:=0) (j:=(max (((l.length:Nat):Int)-1) 0).toNat) (m:=UL v) (by omega) (by have hc_:=(aw.all hR KK.none).cap;omega) (by omega) (by have hc_:=(aw.all hR KK.none).cap;omega)) ) (fun e_ w_ h_=>by obtain⟨v_,T_,he_,k_,_⟩:=h_;exact⟨_,he_,⟨_,rfl⟩,k_⟩))
     refine KL ?_ ?_
     ·refine La.one rfl fun F_ w_ hR hout hD=>?_
      obtain⟨q77_,cm⟩:∃ q_,F_ 77 = .tuple #[q_,iv ((ME ((l.drop 0).take (((max (((l.length:Nat):Int)-1) 0).toNat)-0)) W H R B K Q D F).2)]:=hD.get 0 rfl rfl rfl
      exact(KQ rfl cm ⟨⟨_,rfl⟩,KO.refl _ _⟩)
     refine KL ?_ ?_
     ·refine La.one rfl fun F_ w_ hR hout hD=>?_
      obtain⟨q68_,aQ⟩:∃ q_,F_ 68 = .tuple #[q_,iv ((ME ((l.drop 0).take (((max (((l.length:Nat):Int)-1) 0).toNat)-0)) W H R B K Q D F).2)]:=hD.get 0 rfl rfl rfl
      exact(LL rfl aQ rfl ⟨⟨_,rfl⟩,KO.refl _ _⟩)
     refine KL ?_ ?_
     ·refine La.one rfl fun F_ w_ hR hout hD=>?_
      obtain⟨q68_,aQ⟩:∃ q_,F_ 68 = .tuple #[q_,iv ((ME ((l.drop 0).take (((max (((l.length:Nat):Int)-1) 0).toNat)-0)) W H R B K Q D F).2)]:=hD.get 0 rfl rfl rfl
      exact(LL rfl aQ rfl ⟨rfl,KO.refl _ _⟩)
     refine KL ?_ ?_
     ·refine La.one rfl fun F_ w_ hR hout hD=>?_
      obtain⟨q78_,cn⟩:∃ q_,F_ 78=q_:=hD.get 0 rfl rfl rfl
      exact(KS rfl cn ⟨⟨_,rfl⟩,KO.refl _ _⟩)
     refine KL ?_ ?_
     ·refine La.one rfl fun F_ w_ hR hout hD=>?_
      have co:F_ 79=iv ((ME ((l.drop 0).take (((max (((l.length:Nat):Int)-1) 0).toNat)-0)) W H R B K Q D F).2):=(hD.get 0 rfl rfl rfl)
      exact(KS rfl co ⟨rfl,KO.refl _ _⟩)
     exact L0
    intro cL cq cM bl bm aR
    obtain⟨aC,cr⟩:=NA bl bh bV
    obtain⟨aD,ct,cu,cv,cw⟩:=t5 aR 4 bj 9 bX 108 bY 10 bZ 13 b7
    have cy:cq 15=iv ((ME ((l.drop 0).take (((max (((l.length:Nat):Int)-1) 0).toNat)-0)) W H R B K Q D F).2):=(aR 15).trans (bm 13 (by decide))
    clear bm aR
    refine KG (KJ ?_)
    have hmo:=Lib.hid (Wy hz)
    have hwh:=(Wy hz).2
    refine KH (KR rfl rfl rfl ct (KI (.bool true) rfl rfl (KQ rfl rfl rr) (KT (iv ((ME ((([]:List Nat)++l)++([n])) W H R B K Q D F).2)) 1 true 81 rfl rfl rfl rfl rfl (KQ rfl cw rr) (KT (.bool true) 1 true 81 rfl rfl rfl rfl rfl (Mb rfl rfl rfl (decide_eq_true (ayP (by simp) hz)) rr) (KI (.bool true) rfl rfl (Lo rfl rfl rfl rr) (KI (.bool true) rfl rfl (KQ rfl rfl rr) (KT (iv ((ME ((l.drop 0).take (((max (((l.length:Nat):Int)-1) 0).toNat)-0)) W H R B K Q D F).2)) 5 true 85 rfl rfl rfl rfl rfl (KQ rfl cy rr) (KT (.bool true) 5 true 85 rfl rfl rfl rfl rfl (Mb rfl rfl rfl (decide_eq_true (by rw[show (max ((l.length:Int)-1) 0).toNat=l.length-1 by omega];exact ay0 hz)) rr) (KI (.bool true) rfl rfl (Lo rfl rfl rfl rr) (KI (.bool true) rfl rfl (KQ rfl rfl rr) (KT ah 9 true 89 rfl rfl rfl rfl rfl (KQ rfl cv rr) ?_)))))))))))
    refine KT (iv ((((ME l W H R B K Q D F).1).length:Nat):Int)) 9 true 89 rfl rfl rfl rfl rfl (WS (r:=TL) rfl rfl rfl cr.roa rr) (KT (pt p1 0) 9 true 89 rfl rfl rfl rfl rfl (KU (n:=1) rfl aD Tryz.underlying23 rfl (by kernel_rfl) (by decide) rfl rr) (KT (iv W) 9 true 89 rfl rfl rfl rfl rfl (KY rfl rfl Tryz.underlying3 aC rfl rfl rr) (KT (pt p1 1) 9 true 89 rfl rfl rfl rfl rfl (KU (n:=1) rfl aD Tryz.underlying23 rfl (by kernel_rfl) (by decide) rfl rr) (KT (iv H) 9 true 89 rfl rfl rfl rfl rfl (KY rfl rfl Tryz.underlying3 aC rfl rfl rr) (KT (iv (W*H)) 9 true 89 rfl rfl rfl rfl rfl (Nj rfl rfl rfl (L2 rfl (by omega)) rr) (KT (iv (W*H/16)) 9 true 89 rfl rfl rfl rfl rfl (Pv rfl rfl rfl (by first|decide|omega) (L2 (Int.tdiv_eq_ediv_of_nonneg (by omega)) (by omega)) rr) (KT (pt p1 0) 9 true 89 rfl rfl rfl rfl rfl (KU (n:=1) rfl aD Tryz.underlying23 rfl (by kernel_rfl) (by decide) rfl rr) (KT (iv W) 9 true 89 rfl rfl rfl rfl rfl (KY rfl rfl Tryz.underlying3 aC rfl rfl rr) (KT (pt p1 1) 9 true 89 rfl rfl rfl rfl rfl (KU (n:=1) rfl aD Tryz.underlying23 rfl (by kernel_rfl) (by decide) rfl rr) (KT (iv H) 9 true 89 rfl rfl rfl rfl rfl (KY rfl rfl Tryz.underlying3 aC rfl rfl rr) (KT (iv (W*H)) 9 true 89 rfl rfl rfl rfl rfl (Nj rfl rfl rfl (L2 rfl (by omega)) rr) ?_)))))))))))
    refine KT (iv (W*H/64)) 9 true 89 rfl rfl rfl rfl rfl (Pv rfl rfl rfl (by first|decide|omega) (L2 (Int.tdiv_eq_ediv_of_nonneg (by omega)) (by omega)) rr) (KT (iv (2*(W*H/64))) 9 true 89 rfl rfl rfl rfl rfl (Nj rfl rfl rfl (L2 rfl (by omega)) rr) (KT (iv ((W*H/16)+(2*(W*H/64)))) 9 true 89 rfl rfl rfl rfl rfl (LP rfl rfl rfl (L2 rfl (by omega)) rr) (KT (.bool true) 9 true 89 rfl rfl rfl rfl rfl (Mj rfl rfl rfl (decide_eq_true hmo.out.1) rr) (KI (.bool true) rfl rfl (Lo rfl rfl rfl rr) (KI (.bool true) rfl rfl (KS rfl rfl rr) (KM ?_))))))
    have cz:=K4 (.bool true)
    refine KG (Lb ?_)
    exact Lu (v:=.bool true) cu rfl rfl cz ⟨rfl,(aP.tr bl)⟩
end Go.Proofs.YtknjpdcpmpfklaaGreatDoor
set_option maxRecDepth 100000
namespace Go.Proofs.YtknjpdcpmpfklaaGreatDoor
open Go.ChangeShapes Go.WideShapes Go.ChangeAt Go.RowKit
section
variable {H:Type} {enc:TypeId×Value->H} {w:World} {base:Nat} {spare:Nat->Bool} {held:Bool}
theorem Mp.of_row{a:Option Addr}{len cap:Nat}{zs:List Int}
  (h:(a=none/\len=0/\cap=0/\zs=[])\/∃ x,a=some x/\len<=cap/\cap<=maxLen/\len<=zs.length/\(∀ i,i<zs.length->w.cell? (x.add i)=some (.int .u8 (zs.getD i 0)))/\∀ n∈zs,(Lit.int .u8 n).wf=true) :
  ∃ l:List Nat,Mp w (.slice a len cap) l:=by
 rcases h with ⟨rfl,rfl,rfl,rfl⟩ | ⟨x,rfl,hlc,hcm,hz,hcell,hwf⟩
 ·exact⟨[],Mp.nil w⟩
 ·have hlen:((zs.take len).map Int.toNat).length=len:=by simp;omega
  refine⟨(zs.take len).map Int.toNat,some x,cap,by rw[hlen],by rw[hlen];exact hlc,hcm,by simp,?_,?_⟩
  ·intro y hy
   obtain⟨z,hz1,rfl⟩:=List.mem_map.1 hy
   have:=bounds_u8 (hwf z (List.mem_of_mem_take hz1))
   omega
  ·intro hpos
   rw[hlen] at hpos
   have hpos':0<zs.length:=by omega
   obtain⟨b,off,rfl,hc⟩:=ints_at hcell hpos'
   refine⟨b,off,rfl,World.block_lt_of_cell? w _ (hc 0 hpos'),fun i hi=>?_⟩
   rw[hlen] at hi
   have hi':i<zs.length:=by omega
   rw[hc i hi']
   have hwi:=bounds_u8 (hwf zs[i] (List.getElem_mem hi'))
   simp[List.getD,hi',hi]
   omega
theorem YS{fuel:Nat}{v:Value}{x:DataW H×List MemPlace}
  (h:DataW.trod enc Tryz.prog w base spare held fuel 26 [v]=some x):∃ l:List Nat,Mp w v l:=by
 rcases open_ints Tryz.underlying26 Tryz.underlying5 (by kernel_rfl) h with ⟨hcs,_⟩ | ⟨a,len,cap,zs,hcs,_,hl,hm,hz,_,hcell,hwz⟩
 ·simp at hcs
  subst hcs
  exact⟨[],Mp.nil w⟩
 ·simp at hcs
  subst hcs
  exact Mp.of_row (.inr ⟨a,rfl,hl,hm,by have:=hz;split at this <;> omega,hcell,hwz⟩)
end
end Go.Proofs.YtknjpdcpmpfklaaGreatDoor
set_option maxRecDepth 100000
namespace Go.Proofs.YtknjpdcpmpfklaaGreatDoor
open Go.ChangeShapes Go.WideShapes Go.ChangeAt Go.RowKit Go.Deep Go.Joins
section
variable {H:Type} {enc:TypeId×Value->H} {w:World} {base:Nat} {spare:Nat->Bool} {held:Bool}
theorem Tryz.cellsI:Tryz.prog.cellsOf 3=1:=by kernel_rfl
theorem Tryz.cells_sequence:Tryz.prog.cellsOf 23=4:=by kernel_rfl
theorem Wb{r:Reach}{b0:Nat}{v:Value}{d:DataW H}{ps:List MemPlace}(hval:Value.okWide Tryz.prog w r b0 23 v)(h:DataW.Trod enc Tryz.prog w base spare held 23 v d ps) :
  ∃ a b c e:Int,v = .agg #[.int .i64 a,.int .i64 b,.int .i64 c,.int .i64 e]:=by
 obtain⟨cs,rfl,hsz⟩:=okWide_struct Tryz.underlying23 hval
 rw[Tryz.cells_sequence] at hsz
 obtain⟨cs⟩:=cs
 obtain⟨fuel,hf⟩:=h
 match cs,hsz with
 | [c0,c1,c2,c3],_ =>
  obtain⟨y0,y1,y2,y3,n,_,_,h0,h1,h2,h3⟩:=trod_struct4 (cs:=[c0,c1,c2,c3]) Tryz.underlying23 hf
  simp only[Tryz.cellsI,List.drop_zero,List.drop_succ_cons,List.take_succ_cons,List.take_zero] at h0 h1 h2 h3
  obtain⟨a,ha,_,_⟩:=DataW.trod_int Tryz.underlying3 h0
  obtain⟨b,hb,_,_⟩:=DataW.trod_int Tryz.underlying3 h1
  obtain⟨c,hc,_,_⟩:=DataW.trod_int Tryz.underlying3 h2
  obtain⟨e,he,_,_⟩:=DataW.trod_int Tryz.underlying3 h3
  simp only[List.cons.injEq,and_true] at ha hb hc he
  subst ha;subst hb;subst hc;subst he
  exact⟨a,b,c,e,rfl⟩
theorem Tryz.cells_head:Tryz.prog.cellsOf 25=4:=by kernel_rfl
theorem ayN{r:Reach}{b0:Nat}{v:Value}{d:DataW H}{ps:List MemPlace}(hval:Value.okWide Tryz.prog w r b0 25 v)(h:DataW.Trod enc Tryz.prog w base spare held 25 v d ps) :
  ∃ a b c e:Int,v = .agg #[.int .i64 a,.int .i64 b,.int .i64 c,.int .i64 e]:=by
 obtain⟨cs,rfl,hsz⟩:=okWide_struct Tryz.underlying25 hval
 rw[Tryz.cells_head] at hsz
 obtain⟨cs⟩:=cs
 obtain⟨fuel,hf⟩:=h
 match cs,hsz with
 | [c0,c1,c2,c3],_ =>
  obtain⟨y0,y1,y2,y3,n,_,_,h0,h1,h2,h3⟩:=trod_struct4 (cs:=[c0,c1,c2,c3]) Tryz.underlying25 hf
  simp only[Tryz.cellsI,List.drop_zero,List.drop_succ_cons,List.take_succ_cons,List.take_zero] at h0 h1 h2 h3
  obtain⟨a,ha,_,_⟩:=DataW.trod_int Tryz.underlying3 h0
  obtain⟨b,hb,_,_⟩:=DataW.trod_int Tryz.underlying3 h1
  obtain⟨c,hc,_,_⟩:=DataW.trod_int Tryz.underlying3 h2
  obtain⟨e,he,_,_⟩:=DataW.trod_int Tryz.underlying3 h3
  simp only[List.cons.injEq,and_true] at ha hb hc he
  subst ha;subst hb;subst hc;subst he
  exact⟨a,b,c,e,rfl⟩
end
end Go.Proofs.YtknjpdcpmpfklaaGreatDoor
set_option maxRecDepth 100000
namespace Go.Proofs.YtknjpdcpmpfklaaGreatDoor
open Go.RowKit
theorem aDx{n:Int}(h:(Lit.int .u8 n).wf=true):∃ m:Nat,n=(m:Int)/\m<256:=by
 have:=bounds_u8 h
 exact⟨n.toNat,by omega,by omega⟩
end Go.Proofs.YtknjpdcpmpfklaaGreatDoor
