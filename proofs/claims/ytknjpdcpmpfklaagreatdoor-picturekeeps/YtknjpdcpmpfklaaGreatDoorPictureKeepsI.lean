/- What PictureKeeps reaches of my texts, part 9. -/
import Derived.Test.YtknjpdcpmpfklaaGreatDoorPictureKeepsH
set_option maxRecDepth 100000
set_option maxHeartbeats 4000000
set_option maxRecDepth 100000
namespace Go.Proofs.YtknjpdcpmpfklaaGreatDoor
open Go.RowKit
theorem aBh{l:List Nat}{W H K:Int}(h:(PZ l K W H).2=0):(PZ l K W H).1.length=N6 W H 3:=by
 have hz:(Ou l K W H 3).2.1=0:=by
  apply Decidable.byContradiction;intro hn
  rw[XM (Nat.le_refl 3) hn] at h;exact hn h
 unfold PZ at h ⊢
 rw[if_pos hz] at h ⊢
 split at h
 ·rename_i hd;rw[if_pos hd];exact azi 3 hz
 ·cases h
theorem ZQ{W H:Int}(h1:Nv W)(h2:Nv H):R2 W H=0:=Te (NI h1) (NI h2)
theorem Sg(W H R B K Q D F:Int)(v:Value)(l:List Nat)(g:FD)(g0 g1 g2:Value)(h:FD)(h0 h1 h2:Value)(T_b:Nat->Prop)(T_g0:Nat->Prop)(T_g1:Nat->Prop)(T_g2:Nat->Prop)(T_h0:Nat->Prop)(T_h1:Nat->Prop)(T_h2:Nat->Prop)(w0:World)(hA:NP w0)(hO:Oo w0)(hs:NY w0)(hw:Qi w0)(hl:l.length<=1001)(h_b:L9 w0 T_b v (l))(h_g0:L9 w0 T_g0 g0 ((g).p0))(h_g1:L9 w0 T_g1 g1 ((g).p1))(h_g2:L9 w0 T_g2 g2 ((g).p2))(h_h0:L9 w0 T_h0 h0 ((h).p0))(h_h1:L9 w0 T_h1 h1 ((h).p1))(h_h2:L9 w0 T_h2 h2 ((h).p2)) :
  Calls Tryz.prog 12 #[.agg #[.int .i64 (W),.int .i64 (H),.int .i64 (R),.int .i64 (B)],.agg #[.int .i64 (K),.int .i64 (Q),.int .i64 (D),.int .i64 (F)],v,.agg #[.int .i64 ((g).W),.int .i64 ((g).H),g0,g1,g2],.agg #[.int .i64 ((h).W),.int .i64 ((h).H),h0,h1,h2]] w0 fun e w'=>∃ (v1:Value) (T1:Nat->Prop) (v2:Value) (T2:Nat->Prop) (v3:Value) (T3:Nat->Prop),e = .returned (.tuple #[.agg #[.int .i64 ((MA l W H R B K Q D F g h).W),.int .i64 ((MA l W H R B K Q D F g h).H),v1,v2,v3],.int .i64 (Ns l W H R B K Q D F g h)])/\KP (fun _=>False) w0 w'/\(L4 w' T1 v1 ((MA l W H R B K Q D F g h).p0)/\KS w0 Ma T1)/\(L4 w' T2 v2 ((MA l W H R B K Q D F g h).p1)/\KS w0 Ma T2)/\(L4 w' T3 v3 ((MA l W H R B K Q D F g h).p2)/\KS w0 Ma T3)/\KM T1 T2/\KM T1 T3/\KM T2 T3:=by
 refine X5 (args:=[.agg #[iv W,iv H,iv R,iv B],.agg #[iv K,iv Q,iv D,iv F],v,.agg #[iv (g.W),iv (g.H),g0,g1,g2],.agg #[iv (h.W),iv (h.H),h0,h1,h2]]) 92 Tryz.func12 rfl rfl (Nat.le_of_ble_eq_true rfl) ?_
 have g_b:=KS.refl w0 T_b
 have g_g0:=KS.refl w0 T_g0
 have g_g1:=KS.refl w0 T_g1
 have g_g2:=KS.refl w0 T_g2
 have g_h0:=KS.refl w0 T_h0
 have g_h1:=KS.refl w0 T_h1
 have g_h2:=KS.refl w0 T_h2
 refine KK (KI (Lx (vs:=[iv W,iv H,iv R,iv B]) rfl rfl rfl rfl fun p1 w2 B4 g5 k3=>?_))
 obtain⟨gM,gN,gO,gP,gQ,gR,gS⟩:=SO k3 h_b h_g0 h_g1 h_g2 h_h0 h_h1 h_h2
 refine Lx (vs:=[iv K,iv Q,iv D,iv F]) rfl rfl rfl rfl fun ak se gT sf df=>?_
 obtain⟨gU,gV,gW,gZ,hP,hQ,hZ,ia⟩:=Xj df gM gN gO gP gQ gR gS B4
 refine Lx (vs:=[iv (g.W),iv (g.H),g0,g1,g2]) rfl rfl rfl rfl fun ap sg ib si dg=>?_
 obtain⟨ie,ig,ii,ij,ik,io,ip,iq,ir⟩:=X9 dg gU gV gW gZ hP hQ hZ ia gT
 refine Lx (vs:=[iv (h.W),iv (h.H),h0,h1,h2]) rfl rfl rfl rfl fun aq sj iu dh di=>?_
 obtain⟨iw,iy,iz,iA,iB,iC,iD,iE,iF,iG⟩:=Sn di ie ig ii ij ik io ip iq ir ib
 have dj:=((((KP.refl (fun _=>False) w0).tr k3).tr df).tr dg).tr di
 refine LI (n:=5) (vs:=[iv 0,iv 0,.slice none 0 0,.slice none 0 0,.slice none 0 0]) rfl rfl rfl (by kernel_rfl) fun ai sk dk iH dl=>?_
 have bj:=KS.new dj iH
 obtain⟨iI,iJ,iK,iL,iM,iN,iO,iP,iQ,iR,iS⟩:=Oa dl iw iy iz iA iB iC iD iE iF iG iu
 have dm:=dj.tr dl
 refine Ow (v:=iv 0) rfl rfl rfl (by kernel_rfl) rfl fun aj sl iT dn dp=>?_
 have bl:=KS.new dm dn
 have aB:=KM.new dn (LO dk.lt)
 obtain⟨iU,iV,iW,iX,iY,iZ,ja,dq,dr,jb,jc,jd⟩:=azK dp iI iJ iK iL iM iN iO iP iQ iR iS dk
 refine KO ?_
 have je:=La (.agg #[iv W,iv H,iv R,iv B])
 have jf:=La (.agg #[iv K,iv Q,iv D,iv F])
 have dt:=La (v)
 have jg:=La (.agg #[iv (g.W),iv (g.H),g0,g1,g2])
 have jh:=La (.agg #[iv (h.W),iv (h.H),h0,h1,h2])
 have bm:=La (undef)
 have aC:=La (pt p1 0)
 have aV:=La (pt ak 0)
 have bY:=La (pt ap 0)
 have bZ:=La (pt aq 0)
 have aD:=La (pt ai 0)
 have aE:=La (pt aj 0)
 refine KH (KK (KK (KI (KJ (.agg #[iv W,iv H,iv R,iv B]) rfl rfl (KU Mw rfl aC dq rr) (KJ (.agg #[iv K,iv Q,iv D,iv F]) rfl rfl (KU Qa rfl aV dr rr) (LY rfl rfl rfl rfl rfl (fun _ _=>by kernel_rfl) (Lm rfl (Lm rfl LS)) (XI W H R B K Q D F  _   ) fun du dv=>?_))))))
 obtain⟨ji,b7,b8,b9,cd,ce,cf,cg,ci,cj,cm,cn,co⟩:=Uo dv iU iV iW iX iY iZ ja dq dr jb jc jd iT
 have cq:=(dm.tr dp).tr dv
 refine KJ (iv (Q4 W H R B K Q D F)) rfl rfl (KX rfl rfl rr) (KO ?_)
 have cr:=La (iv (Q4 W H R B K Q D F))
 refine KH (KK (KI (KW rfl rfl rfl cr (KJ (.bool (decide ((Q4 W H R B K Q D F)≠0))) rfl rfl (Mc rfl rfl rfl rfl rr) (KO ?_)))))
 have dw:=La (.bool (decide ((Q4 W H R B K Q D F)≠0)))
 refine KH ?_
 refine Lc dw (fun aW=>?_) (fun aW=>?_)
 ·replace aW:=of_decide_eq_true aW
  refine KK ?_
  have hmn:=Zu (W:=W) (H:=H) (R:=R) (B:=B) (K:=K) (Q:=Q) (D:=D) (F:=F) (by assumption)
  have hE:=Yk (l:=l) (g:=g) (h:=h) hmn
  have hFr:=Uy (l:=l) (W:=W) (H:=H) (R:=R) (B:=B) (K:=K) (Q:=Q) (D:=D) (F:=F) (g:=g) (h:=h) (by rw[hE];decide)
  refine KI (KJ (.agg #[iv 0,iv 0,.slice none 0 0,.slice none 0 0,.slice none 0 0]) rfl rfl (L0 (l':=[]) (cells:=#[iv 0,iv 0,.slice none 0 0,.slice none 0 0,.slice none 0 0]) rfl Rc (by kernel_rfl) rfl rr) (KW rfl rfl rfl cr (Ll (us:=[iv 0,iv 0,.slice none 0 0,.slice none 0 0,.slice none 0 0]) K3 rfl rfl rfl aD rfl cn rfl (K2 rfl (K2 rfl (K2 rfl (K2 rfl (K2 rfl MI))))) fun sm jj dy=>?_)))
  have jk:=co.all dy (aB aj rfl)
  refine L6 rfl rfl rfl aE rfl jk (by rfl) (by kernel_rfl) fun sn jl dz=>?_
  have jm:=jj.all dz (aB.symm ai rfl)
  refine KO ?_
  refine KH (Ld (Lq ?_))
  exact Rv (ms:=[]) (Eq.trans bm (rfl:undef=Oi [])) trivial rfl (ML (vs:=[iv 0,iv 0,.slice none 0 0,.slice none 0 0,.slice none 0 0]) K3 rfl aD jm) (Ov Tryz.underlying33 rfl rfl aE jl) ⟨(.slice none 0 0),Ma,(.slice none 0 0),Ma,(.slice none 0 0),Ma,(by first|exact hfalse.elim|(rw[hE,hFr,NU hmn];rfl)|rw[hE,hFr,NU hmn]|(rw[hE,hFr,← Nj 3 (Nat.le_refl 3)];rfl)|rw[hE,hFr,← Nj 3 (Nat.le_refl 3)]|(rw[hE,hFr];rfl)|rw[hE,hFr]),((cq.trans dy (KS.ok (S:=fun _=>False) bj K6)).trans dz (KS.ok (S:=fun _=>False) bl K6)),⟨(by first|exact hfalse.elim|(rw[hFr,← Nj 3 (Nat.le_refl 3)];exact(L4.nil _))|(rw[hFr];exact(L4.nil _))),(KS.refl _ _)⟩,⟨(by first|exact hfalse.elim|(rw[hFr,← Nj 3 (Nat.le_refl 3)];exact(L4.nil _))|(rw[hFr];exact(L4.nil _))),(KS.refl _ _)⟩,⟨(by first|exact hfalse.elim|(rw[hFr,← Nj 3 (Nat.le_refl 3)];exact(L4.nil _))|(rw[hFr];exact(L4.nil _))),(KS.refl _ _)⟩,KM.none,KM.none,KM.none⟩
 ·replace aW:=of_decide_eq_false aW
  refine Li (KH (KK (KK ?_)))
  have hm:PH W H R B K Q D F:=Zo (by first|assumption|(apply Decidable.byContradiction;assumption))
  have hsq:=hm.1
  have hsd:=RV hm.1
  have hhd:=hm.2
  by_cases dA:¬ ((K≠0/\¬ MU W H R B g)\/(K=2/\¬ MU W H R B h))
  ·skip
   refine KI (KJ (.agg #[iv W,iv H,iv R,iv B]) rfl rfl (KU Mw rfl aC cg rr) (KJ (pt ak 0) rfl rfl (KT (n:=1) rfl aV Tryz.underlying25 rfl (by kernel_rfl) (by decide) rfl rr) (KJ (iv K) rfl rfl (KV rfl rfl Tryz.underlying3 ci rfl rfl rr) (KJ (.agg #[iv (g.W),iv (g.H),g0,g1,g2]) rfl rfl (KU K3 rfl bY cj rr) (KJ (.agg #[iv (h.W),iv (h.H),h0,h1,h2]) rfl rfl (KU K3 rfl bZ cm rr) (Ly (R:=fun v_ w_=>v_ = .bool true/\KP (fun _=>False) du w_) rfl rfl (LE rfl rfl rfl (fun _ _=>by kernel_rfl) (K4 _) (Lm rfl (Lm rfl (Lm rfl (Lm rfl LS)))) (azs W H R B K g g0 g1 g2 h h0 h1 h2 T_g0 T_g1 T_g2 T_h0 T_h1 T_h2 _  b7 b8 b9 cd ce cf ) (fun e_ w_ h_=>⟨_,h_.1,(congrArg Value.bool (decide_eq_true dA)),h_.2⟩)) ?_))))))
   rintro _ dB ⟨rfl,dC⟩
   obtain⟨dD,jn,jo,jp,jq,jr,js,dE,dF,jt,ju,jv,jw⟩:=Uo dC ji b7 b8 b9 cd ce cf cg ci cj cm cn co
   have ct:=cq.tr dC
   refine KJ (.bool false) rfl rfl (LW rfl rfl rfl rr) (KO ?_)
   have dG:=La (.bool false)
   refine KH ?_
   refine Lc (t:=false) dG (fun e=>by cases e) (fun _=>?_)
   refine Li (KH (KK ?_))
   have hn:¬ ((K≠0/\¬ MU W H R B g)\/(K=2/\¬ MU W H R B h)):=by first|assumption|(apply Decidable.byContradiction;assumption)
   have hEc:=(Xr (l:=l) (g:=g) (h:=h) hm hn).trans (congrArg Prod.snd (Px hm).symm)
   refine KI (KJ (.agg #[iv W,iv H,iv R,iv B]) rfl rfl (KU Mw rfl aC dE rr) (KJ (.agg #[iv K,iv Q,iv D,iv F]) rfl rfl (KU Qa rfl aV dF rr) (KW rfl rfl rfl dt (Ly (R:=fun v_ w_=>∃ (ao:Value) (av:Nat->Prop),.tuple #[ao,iv ((Oz l W H R B K Q D F).2)]=v_/\KP (fun _=>False) dB w_/\(QX Uq w_ av ao ((Oz l W H R B K Q D F).1)/\KS dB Ma av)) rfl rfl (LE rfl rfl rfl (fun _ _=>by kernel_rfl) (K4 _) (Lm rfl (Lm rfl (Lm rfl LS))) (SA W H R B K Q D F v l T_b _ (hA.all ct) (hO.all ct) (by first|omega|(simp;omega)) dD ) (fun e_ w_ h_=>by obtain⟨v292_,T295_,he_,hr_⟩:=h_;exact⟨_,he_,v292_,T295_,rfl,hr_⟩)) ?_))))
   rintro _ so ⟨ao,av,rfl,dH,⟨dI,sp⟩⟩
   obtain⟨dJ,dK,dL,dM,dN,dO,dP,dQ,dR,dS,dT,dU,dV⟩:=Uo dH dD jn jo jp jq jr js dE dF jt ju jv jw
   have dW:=ct.tr dH
   refine KJ (.tuple #[ao,iv ((Oz l W H R B K Q D F).2)]) rfl rfl (KQ rfl rfl rr) (KJ ao rfl rfl (LM rfl rfl rfl rr) (KJ (iv ((Oz l W H R B K Q D F).2)) rfl rfl (LM rfl rfl rfl rr) (Ow (v:=.slice none 0 0) rfl rfl rfl (by kernel_rfl) rfl fun ar sq jx dX dY=>?_)))
   obtain⟨jy,jz,jA,jB,jC,jD,jE,jF,jG,jH,jI,jJ,jK,jL⟩:=QD dX dJ dK dL dM dN dO dP dQ dR dS dT dU dV dI
   obtain⟨jM,jN,jO,jP,jQ,jR,jS,jT,jU,jV,jW,jX,jY,dZ⟩:=OB dY dJ dK dL dM dN dO dP dQ dR dS dT dU dV dI
   refine L6 rfl rfl rfl rfl rfl jx dZ.oneC (by kernel_rfl) fun aX bn am=>?_
   have bo:=jM.all am jy.symm
   have bp:=jN.all am jz.symm
   have bq:=jO.all am jA.symm
   have bt:=jP.all am jB.symm
   have bu:=jQ.all am jC.symm
   have bv:=jR.all am jD.symm
   have bz:=jS.all am jE.symm
   have aK:=jT.all am (jF.symm p1 rfl)
   have bA:=jU.all am (jG.symm ak rfl)
   have bB:=jV.all am (jH.symm ap rfl)
   have bC:=jW.all am (jI.symm aq rfl)
   have aY:=jX.all am (jJ.symm ai rfl)
   have aZ:=jY.all am (jK.symm aj rfl)
   have jZ:=dZ.all am jL.symm
   have a8:=(dW.tr dY).trans am (KS.ok (S:=fun _=>False) (KS.new dW dX) K6)
   refine KJ (iv ((Oz l W H R B K Q D F).2)) rfl rfl (KX rfl rfl rr) (KO ?_)
   have j0:=La (pt ar 0)
   have d8:=La (iv ((Oz l W H R B K Q D F).2))
   refine KH (KK (KK (KI (KW rfl rfl rfl d8 (KJ (.bool (decide (((Oz l W H R B K Q D F).2)≠0))) rfl rfl (Mc rfl rfl rfl rfl rr) (KO ?_))))))
   have d9:=La (.bool (decide (((Oz l W H R B K Q D F).2)≠0)))
   refine KH ?_
   refine Lc d9 (fun a9=>?_) (fun a9=>?_)
   ·replace a9:=of_decide_eq_true a9
    refine KK ?_
    have hE:=hEc
    have hFr:=Uy (l:=l) (W:=W) (H:=H) (R:=R) (B:=B) (K:=K) (Q:=Q) (D:=D) (F:=F) (g:=g) (h:=h) (by rw[hE];assumption)
    refine KI (KJ (.agg #[iv 0,iv 0,.slice none 0 0,.slice none 0 0,.slice none 0 0]) rfl rfl (L0 (l':=[]) (cells:=#[iv 0,iv 0,.slice none 0 0,.slice none 0 0,.slice none 0 0]) rfl Rc (by kernel_rfl) rfl rr) (KW rfl rfl rfl d8 (Ll (us:=[iv 0,iv 0,.slice none 0 0,.slice none 0 0,.slice none 0 0]) K3 rfl rfl rfl aD rfl aY rfl (K2 rfl (K2 rfl (K2 rfl (K2 rfl (K2 rfl MI))))) fun ss j1 eb=>?_)))
    have j2:=aZ.all eb (aB aj rfl)
    refine L6 rfl rfl rfl aE rfl j2 (by rfl) (by kernel_rfl) fun su j3 ee=>?_
    have j4:=j1.all ee (aB.symm ai rfl)
    refine KO ?_
    refine KH (Ld (Lq ?_))
    exact Rv (ms:=[]) (Eq.trans bm (rfl:undef=Oi [])) trivial rfl (ML (vs:=[iv 0,iv 0,.slice none 0 0,.slice none 0 0,.slice none 0 0]) K3 rfl aD j4) (Ov Tryz.underlying33 rfl rfl aE j3) ⟨(.slice none 0 0),Ma,(.slice none 0 0),Ma,(.slice none 0 0),Ma,(by first|exact hfalse.elim|(rw[hE,hFr,NU hmn];rfl)|rw[hE,hFr,NU hmn]|(rw[hE,hFr,← Nj 3 (Nat.le_refl 3)];rfl)|rw[hE,hFr,← Nj 3 (Nat.le_refl 3)]|(rw[hE,hFr];rfl)|rw[hE,hFr]),((a8.trans eb (KS.ok (S:=fun _=>False) bj K6)).trans ee (KS.ok (S:=fun _=>False) bl K6)),⟨(by first|exact hfalse.elim|(rw[hFr,← Nj 3 (Nat.le_refl 3)];exact(L4.nil _))|(rw[hFr];exact(L4.nil _))),(KS.refl _ _)⟩,⟨(by first|exact hfalse.elim|(rw[hFr,← Nj 3 (Nat.le_refl 3)];exact(L4.nil _))|(rw[hFr];exact(L4.nil _))),(KS.refl _ _)⟩,⟨(by first|exact hfalse.elim|(rw[hFr,← Nj 3 (Nat.le_refl 3)];exact(L4.nil _))|(rw[hFr];exact(L4.nil _))),(KS.refl _ _)⟩,KM.none,KM.none,KM.none⟩
   ·replace a9:=of_decide_eq_false a9
    refine Li (KH (KK ?_))
    have hE:Ns l W H R B K Q D F g h=0:=hEc.trans (by first|assumption|(apply Decidable.byContradiction;assumption))
    have hFr:=Xu hE
    have hc0:(PZ l K W H).2=0:=by have h_:=hEc.symm.trans hE;rw[Px hm] at h_;exact h_
    have hlo0:=aBh hc0
    have hmay:=aAw (l:=l) (W:=W) (H:=H) (azo hm.2)
    obtain⟨L,hL⟩:∃ L,L=(PZ l K W H).1:=⟨_,rfl⟩
    rw[← hL] at hlo0 hFr hmay
    have hnw:=ZQ hm.1.1 hm.1.2.1
    have bD:QX Uq aX av ao L:=(by rw[hL,← congrArg Prod.fst (Px (l:=l) hm)];exact jZ)
    refine KI (KJ (pt p1 0) rfl rfl (KT (n:=1) rfl aC Tryz.underlying23 rfl (by kernel_rfl) (by decide) rfl rr) (KJ (iv W) rfl rfl (KV rfl rfl Tryz.underlying3 aK rfl rfl rr) (KJ (pt p1 1) rfl rfl (KT (n:=1) rfl aC Tryz.underlying23 rfl (by kernel_rfl) (by decide) rfl rr) (KJ (iv H) rfl rfl (KV rfl rfl Tryz.underlying3 aK rfl rfl rr) (Ly (R:=fun v_ w_=>∃ (aF:Value) (aL:Nat->Prop) (aG:Value) (aM:Nat->Prop) (aH:Value) (aN:Nat->Prop),.tuple #[.agg #[iv ((LJ W H 0).W),iv ((LJ W H 0).H),aF,aG,aH],iv (R2 W H)]=v_/\KP (fun _=>False) aX w_/\(L4 w_ aL aF ((LJ W H 0).p0)/\KS aX Ma aL)/\(L4 w_ aM aG ((LJ W H 0).p1)/\KS aX Ma aM)/\(L4 w_ aN aH ((LJ W H 0).p2)/\KS aX Ma aN)/\KM aL aM/\KM aL aN/\KM aM aN) rfl rfl (LE rfl rfl rfl (fun _ _=>by kernel_rfl) (K4 _) (Lm rfl (Lm rfl (Lm rfl LS))) (azd W H 0  _ (by decide)  ) (fun e_ w_ h_=>by obtain⟨v463_,T468_,v464_,T469_,v465_,T470_,he_,hr_⟩:=h_;exact⟨_,he_,v463_,T468_,v464_,T469_,v465_,T470_,rfl,hr_⟩)) ?_)))))
    rintro _ sv ⟨aF,aL,aG,aM,aH,aN,rfl,cu,⟨eh,cv⟩,⟨ei,cw⟩,⟨ek,cy⟩,j5,j6,j7⟩
    obtain⟨en,eo,ep,er,et,eu,ew,ex,ey,ez,eA,eB,eC,eD⟩:=OB cu bo bp bq bt bu bv bz aK bA bB bC aY aZ bD
    have eE:=bn.all cu id
    have eF:=a8.tr cu
    obtain⟨j8,j9,ka,kb,kd,ke,kf,kg,ki,kj,kn,ko,kp,kq⟩:=QD cv bo bp bq bt bu bv bz aK bA bB bC aY aZ bD
    have kr:=KM.new cv (LO bn.lt)
    obtain⟨ks,kt,ku,kv,kw,kx,ky,kz,kA,kB,kC,kD,kE,kF⟩:=QD cw bo bp bq bt bu bv bz aK bA bB bC aY aZ bD
    have kG:=KM.new cw (LO bn.lt)
    obtain⟨kH,kI,kJ,kK,kL,kM,kN,kO,kP,kQ,kR,kS,kT,kU⟩:=QD cy bo bp bq bt bu bv bz aK bA bB bC aY aZ bD
    have kV:=KM.new cy (LO bn.lt)
    refine KJ (.tuple #[.agg #[iv ((LJ W H 0).W),iv ((LJ W H 0).H),aF,aG,aH],iv (R2 W H)]) rfl rfl (KQ rfl rfl rr) (KJ (.agg #[iv ((LJ W H 0).W),iv ((LJ W H 0).H),aF,aG,aH]) rfl rfl (LM rfl rfl rfl rr) (KJ (iv (R2 W H)) rfl rfl (LM rfl rfl rfl rr) (LI (n:=5) (vs:=[iv 0,iv 0,.slice none 0 0,.slice none 0 0,.slice none 0 0]) rfl rfl rfl (by kernel_rfl) fun au sw kW cz cA=>?_)))
    have eG:=KS.new eF cz
    obtain⟨eH,eI,eJ,eK,eL,eM,eN,eO,eP,eQ,eR,eS,eT,eU⟩:=QD cz en eo ep er et eu ew ex ey ez eA eB eC eD
    obtain⟨eV,eW,eX,eY⟩:=VK cz eE eh ei ek
    obtain⟨kX,kY,kZ,k8,la,lc,ld,le,lf,lg,lh,lj,lk,ll⟩:=OB cA en eo ep er et eu ew ex ey ez eA eB eC eD
    obtain⟨lm,eZ,e6,e7⟩:=OW cA eE eh ei ek
    refine Ll (us:=[iv ((LJ W H 0).W),iv ((LJ W H 0).H),aF,aG,aH]) K3 rfl rfl rfl rfl rfl kW rfl (K2 rfl (K2 rfl (K2 eZ.one (K2 e6.one (K2 e7.one MI))))) fun e8 e9 ah=>?_
    have ln:=kX.all ah eH.symm
    have lp:=kY.all ah eI.symm
    have lq:=kZ.all ah eJ.symm
    have lr:=k8.all ah eK.symm
    have lu:=la.all ah eL.symm
    have lv:=lc.all ah eM.symm
    have lw:=ld.all ah eN.symm
    have fa:=le.all ah (eO.symm p1 rfl)
    have lx:=lf.all ah (eP.symm ak rfl)
    have ly:=lg.all ah (eQ.symm ap rfl)
    have lz:=lh.all ah (eR.symm aq rfl)
    have lA:=lj.all ah (eS.symm ai rfl)
    have lB:=lk.all ah (eT.symm aj rfl)
    have lC:=ll.all ah eU.symm
    have lD:=lm.all ah (eV.symm ar rfl)
    have fb:=eZ.all ah eW.symm
    have fc:=e6.all ah eX.symm
    have fd:=e7.all ah eY.symm
    refine KJ (iv (R2 W H)) rfl rfl (KX rfl rfl rr) (KO ?_)
    have lE:=La (pt au 0)
    have fe:=La (iv (R2 W H))
    refine KH (KK (KK (KI (KW rfl rfl rfl fe (KJ (.bool (decide ((R2 W H)≠0))) rfl rfl (Mc rfl rfl rfl rfl rr) (KO ?_))))))
    have ff:=La (.bool (decide ((R2 W H)≠0)))
    refine KH ?_
    refine Lc ff (fun ba=>?_) (fun ba=>?_)
    ·replace ba:=of_decide_eq_true ba
     refine KK ?_
     exfalso;omega
    ·replace ba:=of_decide_eq_false ba
     refine Li (KH (KK (KK (KI (KJ (.agg #[iv W,iv H,iv R,iv B]) rfl rfl (KU Mw rfl aC fa rr) (Ly (R:=fun v_ w_=>∃ (aw:Nat) (az:Nat->Prop),.func (.func 60) #[] #[pt aw 0]=v_/\KP (fun _=>False) e8 w_/\(Wb w_ az aw W H R B/\KS e8 Ma az)) rfl rfl (LE rfl rfl rfl (fun _ _=>by kernel_rfl) (K4 _) (Lm rfl LS) (We W H R B  _   ) (fun e_ w_ h_=>by obtain⟨v653_,T656_,he_,hr_⟩:=h_;exact⟨_,he_,v653_,T656_,rfl,hr_⟩)) ?_))))))
     rintro _ sx ⟨aw,az,rfl,cB,⟨cC,lF⟩⟩
     obtain⟨lG,lH,lJ,lK,lL,lM,lN,lO,lP,lQ,lR,cD,cE,lS⟩:=OB cB ln lp lq lr lu lv lw fa lx ly lz lA lB lC
     obtain⟨lT,lU,lV,lW,lX⟩:=OJ cB lD fb fc fd e9
     have bb:=((eF.tr cA).trans ah (KS.ok (S:=fun _=>False) eG K6)).tr cB
     obtain⟨lY,lZ,l3,fg⟩:=VK lF fb fc fd e9
     refine RK fun cF cG=>?_
     obtain⟨l4,l5,l6,l7,l8,fh,l9,ma,mb,mc,bE,bF,me,mf,mg,mh,mi,fi,mj,ml⟩:=t20 cG 0 je 1 jf 2 dt 3 jg 4 jh 92 bm 5 aC 6 aV 8 bY 9 bZ 10 aD 11 aE 12 cr 24 dw 33 dG 13 j0 43 d9 15 lE 14 fe 55 ff
     have fj:cF 59 = .func (.func 60) #[] #[pt aw 0]:=(cG 59).trans rfl
     clear cG
     refine KH (Lo ?_)
     refine V8 (α:=R4 W H) (encs:=fun el=>[iv ((el.m:Nat):Int),.agg #[iv ((el.p:Nat):Int),iv (pX (Lk W el.p) el.i),iv (pY (Lk W el.p) el.i)]]) (U:=fun i=>i≠aw) (S:=fun xs=>xs=Nc W H 3) (Sp:=fun xs=>xs <+: Nc W H 3) (M:=1000) fj (fun _ _=>by kernel_rfl) (Zh W H R B aw _ hm.1 cC.2) (fun i hi=>Nat.ne_of_gt (Nat.lt_of_lt_of_le cC.2.lt hi)) [60,61] rfl (fun _=>rfl) rfl (fun pre ww=>∃ (ha:Value),∃ (hb:Value),∃ (hc:Value),∃ (aa:Nat->Prop),∃ (ab:Nat->Prop),∃ (ac:Nat->Prop),KP (fun _=>False) w0 ww/\L9 ww T_b v l/\L9 ww T_g0 g0 (g.p0)/\L9 ww T_g1 g1 (g.p1)/\L9 ww T_g2 g2 (g.p2)/\L9 ww T_h0 h0 (h.p0)/\L9 ww T_h1 h1 (h.p1)/\L9 ww T_h2 h2 (h.p2)/\My ww p1 23 [iv W,iv H,iv R,iv B]/\My ww ak 25 [iv K,iv Q,iv D,iv F]/\My ww ap 29 [iv (g.W),iv (g.H),g0,g1,g2]/\My ww aq 29 [iv (h.W),iv (h.H),h0,h1,h2]/\My ww ai 29 [iv 0,iv 0,.slice none 0 0,.slice none 0 0,.slice none 0 0]/\PM ww aj 33 (iv 0)/\QX Uq ww av ao L/\PM ww ar 32 ao/\My ww au 29 [iv ((Me g h Q W H L pre).W),iv ((Me g h Q W H L pre).H),ha,hb,hc]/\Wb ww az aw W H R B/\L4 ww aa ha ((Me g h Q W H L pre).p0)/\L4 ww ab hb ((Me g h Q W H L pre).p1)/\L4 ww ac hc ((Me g h Q W H L pre).p2)/\KS w0 Ma aa/\KS w0 Ma ab/\KS w0 Ma ac/\KM aa T_b/\KM aa T_g0/\KM aa T_g1/\KM aa T_g2/\KM aa T_h0/\KM aa T_h1/\KM aa T_h2/\KM aa (Lh p1)/\KM aa (Lh ak)/\KM aa (Lh ap)/\KM aa (Lh aq)/\KM aa (Lh ai)/\KM aa (Lh aj)/\KM aa av/\KM aa (Lh ar)/\KM aa (Lh au)/\KM aa az/\KM aa ab/\KM aa ac/\KM ab T_b/\KM ab T_g0/\KM ab T_g1/\KM ab T_g2/\KM ab T_h0/\KM ab T_h1/\KM ab T_h2/\KM ab (Lh p1)/\KM ab (Lh ak)/\KM ab (Lh ap)/\KM ab (Lh aq)/\KM ab (Lh ai)/\KM ab (Lh aj)/\KM ab av/\KM ab (Lh ar)/\KM ab (Lh au)/\KM ab az/\KM ab ac/\KM ac T_b/\KM ac T_g0/\KM ac T_g1/\KM ac T_g2/\KM ac T_h0/\KM ac T_h1/\KM ac T_h2/\KM ac (Lh p1)/\KM ac (Lh ak)/\KM ac (Lh ap)/\KM ac (Lh aq)/\KM ac (Lh ai)/\KM ac (Lh aj)/\KM ac av/\KM ac (Lh ar)/\KM ac (Lh au)/\KM ac az) (fun pre ww=>KP (fun _=>False) w0 ww/\L9 ww T_b v l/\L9 ww T_g0 g0 (g.p0)/\L9 ww T_g1 g1 (g.p1)/\L9 ww T_g2 g2 (g.p2)/\L9 ww T_h0 h0 (h.p0)/\L9 ww T_h1 h1 (h.p1)/\L9 ww T_h2 h2 (h.p2)/\My ww p1 23 [iv W,iv H,iv R,iv B]/\My ww ak 25 [iv K,iv Q,iv D,iv F]/\My ww ap 29 [iv (g.W),iv (g.H),g0,g1,g2]/\My ww aq 29 [iv (h.W),iv (h.H),h0,h1,h2]/\My ww ai 29 [iv 0,iv 0,.slice none 0 0,.slice none 0 0,.slice none 0 0]/\PM ww aj 33 (iv 0)/\QX Uq ww av ao L/\PM ww ar 32 ao/\Wb ww az aw W H R B/\False) ?_ ?_ ⟨aF,aG,aH,aL,aM,aN,bb,lG,lH,lJ,lK,lL,lM,lN,lO,lP,lQ,lR,cD,cE,lS,lT,lX,cC,lU,lV,lW,(KS.new a8 cv),(KS.new a8 cw),(KS.new a8 cy),j8,j9,ka,kb,kd,ke,kf,kg,ki,kj,kn,ko,kp,kq,kr,eW.symm,lY.symm,j5,j6,ks,kt,ku,kv,kw,kx,ky,kz,kA,kB,kC,kD,kE,kF,kG,eX.symm,lZ.symm,j7,kH,kI,kJ,kK,kL,kM,kN,kO,kP,kQ,kR,kS,kT,kU,kV,eY.symm,l3.symm⟩ (fun el FF WW=>∃ (pa0_:Nat),FF 0 = .agg #[iv W,iv H,iv R,iv B]/\FF 1 = .agg #[iv K,iv Q,iv D,iv F]/\FF 2=v/\FF 3 = .agg #[iv (g.W),iv (g.H),g0,g1,g2]/\FF 4 = .agg #[iv (h.W),iv (h.H),h0,h1,h2]/\FF 5=pt p1 0/\FF 6=pt ak 0/\FF 8=pt ap 0/\FF 9=pt aq 0/\FF 10=pt ai 0/\FF 11=pt aj 0/\FF 12=iv (Q4 W H R B K Q D F)/\FF 13=pt ar 0/\FF 14=iv (R2 W H)/\FF 15=pt au 0/\FF 16=iv ((el.m:Nat):Int)/\FF 17=pt pa0_ 0/\FF 24 = .bool (decide ((Q4 W H R B K Q D F)≠0))/\FF 33 = .bool false/\FF 43 = .bool (decide (((Oz l W H R B K Q D F).2)≠0))/\FF 55 = .bool (decide ((R2 W H)≠0))/\FF 59 = .func (.func 60) #[] #[pt aw 0]/\FF 60=iv ((el.m:Nat):Int)/\FF 61 = .agg #[iv ((el.p:Nat):Int),iv (pX (Lk W el.p) el.i),iv (pY (Lk W el.p) el.i)]/\FF 92=undef/\My WW pa0_ 65 [iv ((el.p:Nat):Int),iv (pX (Lk W el.p) el.i),iv (pY (Lk W el.p) el.i)]/\KM (Lh pa0_) T_b/\KM (Lh pa0_) T_g0/\KM (Lh pa0_) T_g1/\KM (Lh pa0_) T_g2/\KM (Lh pa0_) T_h0/\KM (Lh pa0_) T_h1/\KM (Lh pa0_) T_h2/\KM (Lh pa0_) (Lh p1)/\KM (Lh pa0_) (Lh ak)/\KM (Lh pa0_) (Lh ap)/\KM (Lh pa0_) (Lh aq)/\KM (Lh pa0_) (Lh ai)/\KM (Lh pa0_) (Lh aj)/\KM (Lh pa0_) av/\KM (Lh pa0_) (Lh ar)/\KM (Lh pa0_) (Lh au)/\KM (Lh pa0_) az) ?_ ?_ ?_ ?_ ?_
     ·rintro pre A_ B_ row_ ⟨ha,hb,hc,aa,ab,ac,K_,B0_,B1_,B2_,B3_,B4_,B5_,B6_,B7_,B8_,B9_,B10_,B11_,B12_,B13_,B14_,B15_,B16_,B17_,B18_,B19_,g0_,g1_,g2_,a0_,a1_,a2_,a3_,a4_,a5_,a6_,a7_,a8_,a9_,a10_,a11_,a12_,a13_,a14_,a15_,a16_,a17_,a18_,a19_,a20_,a21_,a22_,a23_,a24_,a25_,a26_,a27_,a28_,a29_,a30_,a31_,a32_,a33_,a34_,a35_,a36_,a37_,a38_,a39_,a40_,a41_,a42_,a43_,a44_,a45_,a46_,a47_,a48_,a49_,a50_,a51_,a52_,a53_⟩ hg_ hr_
      exact⟨ha,hb,hc,aa,ab,ac,K_.row hg_ hr_ bb.size,B0_.row hg_ hr_,B1_.row hg_ hr_,B2_.row hg_ hr_,B3_.row hg_ hr_,B4_.row hg_ hr_,B5_.row hg_ hr_,B6_.row hg_ hr_,B7_.row hg_ hr_,B8_.row hg_ hr_,B9_.row hg_ hr_,B10_.row hg_ hr_,B11_.row hg_ hr_,B12_.row hg_ hr_,B13_.row hg_ hr_,B14_.row hg_ hr_,B15_.row hg_ hr_,B16_.row hg_ hr_,B17_.row hg_ hr_,B18_.row hg_ hr_,B19_.row hg_ hr_,g0_,g1_,g2_,a0_,a1_,a2_,a3_,a4_,a5_,a6_,a7_,a8_,a9_,a10_,a11_,a12_,a13_,a14_,a15_,a16_,a17_,a18_,a19_,a20_,a21_,a22_,a23_,a24_,a25_,a26_,a27_,a28_,a29_,a30_,a31_,a32_,a33_,a34_,a35_,a36_,a37_,a38_,a39_,a40_,a41_,a42_,a43_,a44_,a45_,a46_,a47_,a48_,a49_,a50_,a51_,a52_,a53_⟩
     ·rintro pre A_ B_ row_ ⟨K_,B0_,B1_,B2_,B3_,B4_,B5_,B6_,B7_,B8_,B9_,B10_,B11_,B12_,B13_,B14_,B15_,i0_⟩ hg_ hr_
      exact⟨K_.row hg_ hr_ bb.size,B0_.row hg_ hr_,B1_.row hg_ hr_,B2_.row hg_ hr_,B3_.row hg_ hr_,B4_.row hg_ hr_,B5_.row hg_ hr_,B6_.row hg_ hr_,B7_.row hg_ hr_,B8_.row hg_ hr_,B9_.row hg_ hr_,B10_.row hg_ hr_,B11_.row hg_ hr_,B12_.row hg_ hr_,B13_.row hg_ hr_,B14_.row hg_ hr_,B15_.row hg_ hr_,i0_⟩
     ·rintro el FF _ A_ B_ row_ ⟨p0_,s0_,s1_,s2_,s3_,s4_,s5_,s6_,s7_,s8_,s9_,s10_,s11_,s12_,s13_,s14_,s15_,s16_,s17_,s18_,s19_,s20_,s21_,s22_,s23_,s24_,B0_,a0_,a1_,a2_,a3_,a4_,a5_,a6_,a7_,a8_,a9_,a10_,a11_,a12_,a13_,a14_,a15_,a16_⟩ hg_ hr_
      exact⟨p0_,s0_,s1_,s2_,s3_,s4_,s5_,s6_,s7_,s8_,s9_,s10_,s11_,s12_,s13_,s14_,s15_,s16_,s17_,s18_,s19_,s20_,s21_,s22_,s23_,s24_,B0_.row hg_ hr_,a0_,a1_,a2_,a3_,a4_,a5_,a6_,a7_,a8_,a9_,a10_,a11_,a12_,a13_,a14_,a15_,a16_⟩
     ·rintro l_ pre el W_ ⟨ha,hb,hc,aa,ab,ac,mm,fk,fm,fo,fp,fq,ft,fu,fw,fx,fy,fA,fB,fC,fD,fE,fF,fG,fH,fI,fJ,mn,mo,mp,mq,mr,mu,mv,mw,mz,mA,mB,mC,mD,mE,mF,mG,mH,mI,mJ,mK,mL,mM,mN,mO,mP,mQ,mR,mS,mT,mU,mV,mW,mX,mY,mZ,m2,m3,m4,m7,m8,m9,nb,nc,nd,nf,nh,ni,nj,nk,nl,np,nr,nt,nu,nv,nw,nz⟩
      refine KK (KI (KJ (iv ((el.m:Nat):Int)) rfl rfl (KX rfl rfl rr) (KO ?_)))
      have nA:=La (undef)
      have nB:=La (iv ((el.m:Nat):Int))
      have fK:=La (.agg #[iv ((el.p:Nat):Int),iv (pX (Lk W el.p) el.i),iv (pY (Lk W el.p) el.i)])
      have nC:=La (iv ((el.m:Nat):Int))
      refine KH (KI (LI (n:=3) (vs:=[iv 0,iv 0,iv 0]) rfl rfl rfl (by kernel_rfl) fun fL sy nD cH cI=>?_))
      obtain⟨fM,fN,fO,fP,fQ,fR,fS,fT,fU,fV,fW,fX,fY,fZ⟩:=QD cH fk fm fo fp fq ft fu fw fx fy fA fB fC fD
      obtain⟨f5,f6,f7,nE,nF,nG⟩:=Vk cH fE fF fG fH fI fJ
      obtain⟨nH,nI,nJ,nK,nL,nM,nN,nO,nP,nQ,nR,nT,nU,nV⟩:=OB cI fk fm fo fp fq ft fu fw fx fy fA fB fC fD
      obtain⟨nW,nX,nY,nZ,n7,n8⟩:=Qz cI fE fF fG fH fI fJ
      refine Ll (us:=[iv ((el.p:Nat):Int),iv (pX (Lk W el.p) el.i),iv (pY (Lk W el.p) el.i)]) P7 rfl rfl rfl rfl fK nD rfl (K2 rfl (K2 rfl (K2 rfl MI))) fun sz n9 ae=>?_
      have oa:=nH.all ae fM.symm
      have oc:=nI.all ae fN.symm
      have od:=nJ.all ae fO.symm
      have oe:=nK.all ae fP.symm
      have og:=nL.all ae fQ.symm
      have oh:=nM.all ae fR.symm
      have oi:=nN.all ae fS.symm
      have oj:=nO.all ae (fT.symm p1 rfl)
      have ol:=nP.all ae (fU.symm ak rfl)
      have om:=nQ.all ae (fV.symm ap rfl)
      have oo:=nR.all ae (fW.symm aq rfl)
      have oq:=nT.all ae (fX.symm ai rfl)
      have ot:=nU.all ae (fY.symm aj rfl)
      have ou:=nV.all ae fZ.symm
      have ov:=nW.all ae (f5.symm ar rfl)
      have ow:=nX.all ae (f6.symm au rfl)
      have ox:=nY.all ae f7.symm
      have oy:=nZ.all ae nE.symm
      have oz:=n7.all ae nF.symm
      have oA:=n8.all ae nG.symm
      have cJ:=((KP.refl (fun _=>False) W_).trans cI (fun _ _ x=>x.elim)).trans ae (KS.ok (S:=fun _=>False) (KS.new (KP.refl (fun _=>False) W_) cH) K6)
      refine KO ?_
      have oB:=La (pt fL 0)
      exact⟨OP.keeps OP.no cJ _,cJ.mono (fun _ _ x=>x.elim),⟨ha,hb,hc,aa,ab,ac,mm.trans cJ (fun _ _ x=>x.elim),oa,oc,od,oe,og,oh,oi,oj,ol,om,oo,oq,ot,ou,ov,ow,ox,oy,oz,oA,mn,mo,mp,mq,mr,mu,mv,mw,mz,mA,mB,mC,mD,mE,mF,mG,mH,mI,mJ,mK,mL,mM,mN,mO,mP,mQ,mR,mS,mT,mU,mV,mW,mX,mY,mZ,m2,m3,m4,m7,m8,m9,nb,nc,nd,nf,nh,ni,nj,nk,nl,np,nr,nt,nu,nv,nw,nz⟩,⟨fL,l4,l5,l6,l7,l8,l9,ma,mb,mc,bE,bF,me,mh,mj,fi,nC,oB,mf,mg,mi,ml,fj,nB,fK,nA,n9,fM,fN,fO,fP,fQ,fR,fS,fT,fU,fV,fW,fX,fY,fZ,f5,f6,f7⟩⟩
     ·rintro l_ pre el sA cK ⟨ha,hb,hc,aa,ab,ac,aI,oC,f8,f9,ga,gb,gc,gd,oD,ge,gh,gi,oE,oF,cL,gj,cM,bc,cN,cO,cP,oG,oH,oI,sB,sC,sD,sE,sF,sG,sH,sI,sJ,sK,sL,sM,sN,sO,sP,sQ,oJ,sR,sS,sT,sU,sV,sW,sX,sY,sZ,ta,tb,tc,td,te,tf,tg,th,ti,oK,tj,tk,tl,tm,tn,tp,tq,tt,tu,tv,tw,tx,tz,tA,tB,tC,tD,oL⟩ ⟨cQ,tE,tF,tG,tH,tI,tJ,oM,oN,oO,tK,tL,tM,oP,tN,gl,oQ,gm,tO,tP,tQ,tS,tT,tU,tV,tW,gn,tX,tY,tZ,ua,ub,uc,ud,ue,uf,ug,uh,ui,uj,uk,ul,um,un⟩ hlen_
      have oR:=hA.all aI
      have hs2:=hs.all aI
      have hw2:=hw.all aI
      have hei:=el.hi
      have hwp:=RJ (W:=W) (p:=el.p) hsd.1
      have hwl:=OC (W:=W) (p:=el.p) hsd.2.1
      have hwh:=OC (W:=H) (p:=el.p) hsd.2.2.2.2.1
      have hwn:Lk W el.p*Lk H el.p<=16*16:=Nat.mul_le_mul hwl hwh
      have hxy:=aAN (i:=el.i) hwp hwl (by omega)
      have hml:el.m<L.length:=by rw[hlo0];exact aCj el.hp el.hi
      have hfo:=aDj (g:=g) (h:=h) (q:=Q) (L:=L) hm.1.1 hm.1.2.1 pre
      have hcp:=aBs (W:=W) (H:=H) (R:=R) (B:=B) (K:=K) (g:=g) (h:=h) hfo.1 hfo.2.1 hfo.2.2 hn ⟨hhd.1,hhd.2.1⟩ (hmay _ (aA5 (d:=chZ) hml)) el.hp el.hi
      have hmd:=aza (q:=Q) hcp
      have hme:=hmd.1.trans (W7 ⟨hhd.2.2.1,hhd.2.2.2.1⟩)
      have hdec:aAz g h Q (el.p:Int) (Lk W el.p) el.i (L.getD el.m chZ) (Me g h Q W H L pre)=Qp (Me g h Q W H L pre) (el.p:Int) (4*pX (Lk W el.p) el.i) (4*pY (Lk W el.p) el.i) (VU (Me g h Q W H L pre) g h (el.p:Int) (pX (Lk W el.p) el.i) (pY (Lk W el.p) el.i) (L.getD el.m chZ) Q):=by rw[hmd.2];rfl
      refine Lo (KK ?_)
      refine QN (γ:=Unit) [(11,10),(12,10),(13,10),(15,10),(16,10),(15,14),(16,14)] [some 63,some 64,some 65,some 66,some 67,some 68,some 69,some 70,some 71,some 72,some 73,some 62,some 74,some 75,some 18,none,some 19] ⟨fun w_=>True,fun _=>False,fun g_ w_=>True,fun g_=>fun _=>False,fun p_ w_=>NO w_ p_ 69 (fun _=>0),fun g_ p_ w_=>NO w_ p_ 69 (VU (Me g h Q W H L pre) g h ((el.p:Nat):Int) (pX (Lk W el.p) el.i) (pY (Lk W el.p) el.i) (L.getD (el.m) ⟨0,0,0,0,0,fun _=>0⟩) Q)⟩ (fun _=>False) (fun p_=>cK.heap.size<=p_) [fun g_=>.agg #[iv ((Me g h Q W H L pre).W),iv ((Me g h Q W H L pre).H),ha,hb,hc],fun g_=>.agg #[iv (g.W),iv (g.H),g0,g1,g2],fun g_=>.agg #[iv (h.W),iv (h.H),h0,h1,h2],fun g_=>.agg #[iv ((el.p:Nat):Int),iv (pX (Lk W el.p) el.i),iv (pY (Lk W el.p) el.i)],fun g_=>ao,fun g_=>iv ((el.m:Nat):Int),fun g_=>Ny ao ((el.m)*21),fun g_=>.agg (O1 (L.getD (el.m) ⟨0,0,0,0,0,fun _=>0⟩)).toArray,fun g_=>pt ak 1,fun g_=>iv Q,fun g_=>.tuple #[LK (VU (Me g h Q W H L pre) g h ((el.p:Nat):Int) (pX (Lk W el.p) el.i) (pY (Lk W el.p) el.i) (L.getD (el.m) ⟨0,0,0,0,0,fun _=>0⟩) Q),iv (ZF (Me g h Q W H L pre) g h ((el.p:Nat):Int) (pX (Lk W el.p) el.i) (pY (Lk W el.p) el.i) (L.getD (el.m) ⟨0,0,0,0,0,fun _=>0⟩) Q)],fun g_=>.tuple #[LK (VU (Me g h Q W H L pre) g h ((el.p:Nat):Int) (pX (Lk W el.p) el.i) (pY (Lk W el.p) el.i) (L.getD (el.m) ⟨0,0,0,0,0,fun _=>0⟩) Q),iv (ZF (Me g h Q W H L pre) g h ((el.p:Nat):Int) (pX (Lk W el.p) el.i) (pY (Lk W el.p) el.i) (L.getD (el.m) ⟨0,0,0,0,0,fun _=>0⟩) Q)],fun g_=>LK (VU (Me g h Q W H L pre) g h ((el.p:Nat):Int) (pX (Lk W el.p) el.i) (pY (Lk W el.p) el.i) (L.getD (el.m) ⟨0,0,0,0,0,fun _=>0⟩) Q),fun g_=>iv (ZF (Me g h Q W H L pre) g h ((el.p:Nat):Int) (pX (Lk W el.p) el.i) (pY (Lk W el.p) el.i) (L.getD (el.m) ⟨0,0,0,0,0,fun _=>0⟩) Q),fun _=>undef,fun _=>undef,fun g_=>iv (ZF (Me g h Q W H L pre) g h ((el.p:Nat):Int) (pX (Lk W el.p) el.i) (pY (Lk W el.p) el.i) (L.getD (el.m) ⟨0,0,0,0,0,fun _=>0⟩) Q)] 10 15 (some 14) () 0 (by kernel_rfl) (by kernel_rfl) (by kernel_rfl) (by kernel_rfl) ⟨.inr (.inr fun _ _=>rfl),⟨.inr (.inr fun _ _=>rfl),⟨.inr (.inr fun _ _=>rfl),⟨.inr (.inr fun _ _=>rfl),⟨.inr (.inr fun _ _=>rfl),⟨.inr (.inr fun _ _=>rfl),⟨.inr (.inr fun _ _=>rfl),⟨.inr (.inr fun _ _=>rfl),⟨.inr (.inr fun _ _=>rfl),⟨.inr (.inr fun _ _=>rfl),⟨.inr (.inl rfl),⟨.inl rfl,⟨.inl rfl,⟨.inl rfl,⟨.inr (.inr fun _ _=>rfl),⟨.inl rfl,⟨.inl rfl,trivial⟩⟩⟩⟩⟩⟩⟩⟩⟩⟩⟩⟩⟩⟩⟩⟩⟩ ⟨trivial,fun _ _ _ _ _ _=>trivial,fun _ _ _ z=>z.elim,fun _ _ _ _ _ _ _=>trivial,fun _ _ _ _ z=>z.elim,fun _ _ _ _ h k z=>h.all k z,fun _ _ h=>h.lt,fun _ _ _ _ _ h k z=>h.all k z,fun _ z=>z,fun _ h=>.inr h,fun _ _ z=>z⟩ (fun _ _ _ h=>h) (fun e=>by cases e) ?_ ?_
      ·refine KY ?_ ?_
       ·refine Ln.one rfl rfl rfl rfl fun g_ p_ F_ w_ hR hout hD=>?_
        exact(KU K3 rfl ((hout 15 rfl (by decide)).trans gl) (cM.all hR id) ⟨rfl,KP.refl _ _⟩)
       refine KY ?_ ?_
       ·refine Ln.one rfl rfl rfl rfl fun g_ p_ F_ w_ hR hout hD=>?_
        exact(KU K3 rfl ((hout 8 rfl (by decide)).trans oN) (gh.all hR id) ⟨rfl,KP.refl _ _⟩)
       refine KY ?_ ?_
       ·refine Ln.one rfl rfl rfl rfl fun g_ p_ F_ w_ hR hout hD=>?_
        exact(KU K3 rfl ((hout 9 rfl (by decide)).trans oO) (gi.all hR id) ⟨rfl,KP.refl _ _⟩)
       refine KY ?_ ?_
       ·refine Ln.one rfl rfl rfl rfl fun g_ p_ F_ w_ hR hout hD=>?_
        exact(KU P7 rfl ((hout 17 rfl (by decide)).trans gm) (gn.all hR id) ⟨rfl,KP.refl _ _⟩)
       refine KY ?_ ?_
       ·refine Ln.one rfl rfl rfl rfl fun g_ p_ F_ w_ hR hout hD=>?_
        exact(MF rfl ((hout 13 rfl (by decide)).trans oP) Tryz.underlying32 (gj.all hR id) rfl ⟨rfl,KP.refl _ _⟩)
       refine KY ?_ ?_
       ·refine Ln.one rfl rfl rfl rfl fun g_ p_ F_ w_ hR hout hD=>?_
        exact(KQ rfl ((hout 16 rfl (by decide)).trans oQ) ⟨rfl,KP.refl _ _⟩)
       refine KY ?_ ?_
       ·refine Ln.one rfl rfl rfl rfl fun g_ p_ F_ w_ hR hout hD=>?_
        have oS:F_ 67=ao:=(hD.get 0 rfl rfl rfl).2 (by decide)
        have oT:F_ 68=iv ((el.m:Nat):Int):=(hD.get 1 rfl rfl rfl).2 (by decide)
        exact(aCR (r:=Uq) (el.m) rfl oS oT (by omega) (cL.all hR KM.none).roa hml ⟨rfl,KP.refl _ _⟩)
       refine KY ?_ ?_
       ·refine Ln.one rfl rfl rfl rfl fun g_ p_ F_ w_ hR hout hD=>?_
        have oU:F_ 69=Ny ao ((el.m)*21):=(hD.get 0 rfl rfl rfl).2 (by decide)
        exact(aBM (r:=Uq) (n:=21) (el.m) 0 LH rfl oU (cL.all hR KM.none).roa hml (by decide) rfl ⟨rfl,KP.refl _ _⟩)
       refine KY ?_ ?_
       ·refine Ln.one rfl rfl rfl rfl fun g_ p_ F_ w_ hR hout hD=>?_
        exact(KT (n:=1) rfl ((hout 6 rfl (by decide)).trans oM) Tryz.underlying25 rfl (by kernel_rfl) (by decide) rfl ⟨rfl,KP.refl _ _⟩)
       refine KY ?_ ?_
       ·refine Ln.one rfl rfl rfl rfl fun g_ p_ F_ w_ hR hout hD=>?_
        have oV:F_ 71=pt ak 1:=(hD.get 0 rfl rfl rfl).2 (by decide)
        exact(KV rfl oV Tryz.underlying3 (ge.all hR id) rfl rfl ⟨rfl,KP.refl _ _⟩)
       refine KY ?_ ?_
       ·refine Ln.call rfl rfl rfl rfl fun g_ p_ F_ w_ hR hout hD hP_=>?_
        have oW:F_ 63 = .agg #[iv ((Me g h Q W H L pre).W),iv ((Me g h Q W H L pre).H),ha,hb,hc]:=(hD.get 0 rfl rfl rfl).2 (by decide)
        have oX:F_ 64 = .agg #[iv (g.W),iv (g.H),g0,g1,g2]:=(hD.get 1 rfl rfl rfl).2 (by decide)
        have oY:F_ 65 = .agg #[iv (h.W),iv (h.H),h0,h1,h2]:=(hD.get 2 rfl rfl rfl).2 (by decide)
        have oZ:F_ 66 = .agg #[iv ((el.p:Nat):Int),iv (pX (Lk W el.p) el.i),iv (pY (Lk W el.p) el.i)]:=(hD.get 3 rfl rfl rfl).2 (by decide)
        have o2:F_ 70 = .agg (O1 (L.getD (el.m) ⟨0,0,0,0,0,fun _=>0⟩)).toArray:=(hD.get 4 rfl rfl rfl).2 (by decide)
        have o3:F_ 72=iv Q:=(hD.get 5 rfl rfl rfl).2 (by decide)
        exact(LE rfl rfl rfl (fun _ _=>by kernel_rfl) (K4 _) (Lm oW (Lm oX (Lm oY (Lm oZ (Lm o2 (Lm o3 LS)))))) (aBt ((el.p:Nat):Int) (pX (Lk W el.p) el.i) (pY (Lk W el.p) el.i) Q (L.getD (el.m) ⟨0,0,0,0,0,fun _=>0⟩) (Me g h Q W H L pre) ha hb hc g g0 g1 g2 h h0 h1 h2 aa ab ac T_g0 T_g1 T_g2 T_h0 T_h1 T_h2 _ (oR.all hR) (hs2.all hR) (hw2.all hR) ⟨hxy.1,hxy.2.1⟩ ⟨hxy.2.2.1,hxy.2.2.2⟩ (cN.all hR KM.none).byt (cO.all hR KM.none).byt (cP.all hR KM.none).byt (f8.all hR KM.none) (f9.all hR KM.none) (ga.all hR KM.none) (gb.all hR KM.none) (gc.all hR KM.none) (gd.all hR KM.none) ) (fun e_ w_ h_=>⟨_,h_.1,(),rfl,h_.2,trivial,fun b hb=>hb.elim⟩))
       refine KY ?_ ?_
       ·refine Ln.one rfl rfl rfl rfl fun g_ p_ F_ w_ hR hout hD=>?_
        have o4:F_ 73 = .tuple #[LK (VU (Me g h Q W H L pre) g h ((el.p:Nat):Int) (pX (Lk W el.p) el.i) (pY (Lk W el.p) el.i) (L.getD (el.m) ⟨0,0,0,0,0,fun _=>0⟩) Q),iv (ZF (Me g h Q W H L pre) g h ((el.p:Nat):Int) (pX (Lk W el.p) el.i) (pY (Lk W el.p) el.i) (L.getD (el.m) ⟨0,0,0,0,0,fun _=>0⟩) Q)]:=(hD.get 0 rfl rfl rfl).2 (by decide)
        exact(KQ rfl o4 ⟨rfl,KP.refl _ _⟩)
       refine KY ?_ ?_
       ·refine Ln.one rfl rfl rfl rfl fun g_ p_ F_ w_ hR hout hD=>?_
        have cR:F_ 62 = .tuple #[LK (VU (Me g h Q W H L pre) g h ((el.p:Nat):Int) (pX (Lk W el.p) el.i) (pY (Lk W el.p) el.i) (L.getD (el.m) ⟨0,0,0,0,0,fun _=>0⟩) Q),iv (ZF (Me g h Q W H L pre) g h ((el.p:Nat):Int) (pX (Lk W el.p) el.i) (pY (Lk W el.p) el.i) (L.getD (el.m) ⟨0,0,0,0,0,fun _=>0⟩) Q)]:=(hD.get 0 rfl rfl rfl).2 (by decide)
        exact(LM rfl cR rfl ⟨rfl,KP.refl _ _⟩)
       refine KY ?_ ?_
       ·refine Ln.one rfl rfl rfl rfl fun g_ p_ F_ w_ hR hout hD=>?_
        have cR:F_ 62 = .tuple #[LK (VU (Me g h Q W H L pre) g h ((el.p:Nat):Int) (pX (Lk W el.p) el.i) (pY (Lk W el.p) el.i) (L.getD (el.m) ⟨0,0,0,0,0,fun _=>0⟩) Q),iv (ZF (Me g h Q W H L pre) g h ((el.p:Nat):Int) (pX (Lk W el.p) el.i) (pY (Lk W el.p) el.i) (L.getD (el.m) ⟨0,0,0,0,0,fun _=>0⟩) Q)]:=(hD.get 0 rfl rfl rfl).2 (by decide)
        exact(LM rfl cR rfl ⟨rfl,KP.refl _ _⟩)
       refine KY ?_ ?_
       ·refine Ln.alloc rfl rfl rfl rfl fun F_ w_ hR=>?_
        exact WP rfl KZ.2.2 ⟨_,rfl,Nat.le_refl _,NO.new _ _ _,(KP.refl _ _).alloc _⟩
       refine KY ?_ ?_
       ·refine Ln.store rfl rfl rfl rfl fun g_ p_ F_ w_ hR hout hD hO_ hZ_ hQ_=>?_
        have o5:F_ 18=pt p_ 0:=(hD.get 0 rfl rfl rfl).1 rfl
        have dh:F_ 74=LK (VU (Me g h Q W H L pre) g h ((el.p:Nat):Int) (pX (Lk W el.p) el.i) (pY (Lk W el.p) el.i) (L.getD (el.m) ⟨0,0,0,0,0,fun _=>0⟩) Q):=(hD.get 1 rfl rfl rfl).2 (by decide)
        exact Y3 KZ.2.1 rfl o5 dh hZ_ fun w2_ b_ k_=>⟨rfl,k_,b_⟩
       refine KY ?_ ?_
       ·refine Ln.one rfl rfl rfl rfl fun g_ p_ F_ w_ hR hout hD=>?_
        have o6:F_ 75=iv (ZF (Me g h Q W H L pre) g h ((el.p:Nat):Int) (pX (Lk W el.p) el.i) (pY (Lk W el.p) el.i) (L.getD (el.m) ⟨0,0,0,0,0,fun _=>0⟩) Q):=(hD.get 0 rfl rfl rfl).2 (by decide)
        exact(KX rfl o6 ⟨rfl,KP.refl _ _⟩)
       exact Nr
      intro uo go uq gp bd cS ur ut o7 cT o8 gq gr bG
      obtain⟨bH,bI,bJ,bK,bL,bM,bN,bO,bP,bQ,bR,bS,bT,bU⟩:=OB cS oC f8 f9 ga gb gc gd oD ge gh gi oE oF cL
      obtain⟨bV,be,bW,o9,pa,pb,cU⟩:=SO cS gj cM bc cN cO cP gn
      have bX:=(KP.refl (fun i=>(Lh au) i\/(aa i\/(ab i\/(ac i)))) cK).tr cS
      replace cT:NO bd go 69 (VU (Me g h Q W H L pre) g h ((el.p:Nat):Int) (pX (Lk W el.p) el.i) (pY (Lk W el.p) el.i) (L.getD (el.m) ⟨0,0,0,0,0,fun _=>0⟩) Q):=cT
      obtain⟨gt,cV⟩:=t2 bG 15 gl 17 gm
      have pc:gp 18=pt go 0:=(bG 18).trans (gq 14 rfl)
      have pd:gp 19=iv (ZF (Me g h Q W H L pre) g h ((el.p:Nat):Int) (pX (Lk W el.p) el.i) (pY (Lk W el.p) el.i) (L.getD (el.m) ⟨0,0,0,0,0,fun _=>0⟩) Q):=(bG 19).trans (gr 16 (by decide) (by decide))
      clear bG gr gq o8 o7
      refine KH (KK (KK (KI (KW rfl rfl rfl pd (KJ (.bool (decide ((ZF (Me g h Q W H L pre) g h ((el.p:Nat):Int) (pX (Lk W el.p) el.i) (pY (Lk W el.p) el.i) (L.getD (el.m) ⟨0,0,0,0,0,fun _=>0⟩) Q)≠0))) rfl rfl (Mc rfl rfl rfl rfl rr) (KO ?_))))))
      have pe:=La (.bool (decide ((ZF (Me g h Q W H L pre) g h ((el.p:Nat):Int) (pX (Lk W el.p) el.i) (pY (Lk W el.p) el.i) (L.getD (el.m) ⟨0,0,0,0,0,fun _=>0⟩) Q)≠0)))
      refine KH ?_
      refine Lc pe (fun bf=>?_) (fun bf=>?_)
      ·replace bf:=of_decide_eq_true bf
       refine KK ?_
       exact absurd hme (by assumption)
      ·replace bf:=of_decide_eq_false bf
       refine Li (KH (KI (KJ (.agg #[iv ((Me g h Q W H L pre).W),iv ((Me g h Q W H L pre).H),ha,hb,hc]) rfl rfl (KU K3 rfl gt be rr) (KJ (pt cQ 0) rfl rfl (KT (n:=1) rfl cV Tryz.underlying65 rfl (by kernel_rfl) (by decide) rfl rr) (KJ (iv ((el.p:Nat):Int)) rfl rfl (KV rfl rfl Tryz.underlying3 cU rfl rfl rr) (KJ (pt cQ 1) rfl rfl (KT (n:=1) rfl cV Tryz.underlying65 rfl (by kernel_rfl) (by decide) rfl rr) (KJ (iv (pX (Lk W el.p) el.i)) rfl rfl (KV rfl rfl Tryz.underlying3 cU rfl rfl rr) (KJ (iv (4*pX (Lk W el.p) el.i)) rfl rfl (NH rfl rfl rfl (Mb rfl (by omega)) rr) (KJ (pt cQ 2) rfl rfl (KT (n:=1) rfl cV Tryz.underlying65 rfl (by kernel_rfl) (by decide) rfl rr) (KJ (iv (pY (Lk W el.p) el.i)) rfl rfl (KV rfl rfl Tryz.underlying3 cU rfl rfl rr) (KJ (iv (4*pY (Lk W el.p) el.i)) rfl rfl (NH rfl rfl rfl (Mb rfl (by omega)) rr) ?_)))))))))))
       refine KJ (LK (VU (Me g h Q W H L pre) g h ((el.p:Nat):Int) (pX (Lk W el.p) el.i) (pY (Lk W el.p) el.i) (L.getD (el.m) ⟨0,0,0,0,0,fun _=>0⟩) Q)) rfl rfl (LZ KZ rfl pc cT rr) (Ly (R:=fun v_ w_=>∃ (bg:Value) (aO:Nat->Prop) (bh:Value) (aP:Nat->Prop) (bi:Value) (aQ:Nat->Prop),.agg #[iv ((Qp (Me g h Q W H L pre) ((el.p:Nat):Int) (4*pX (Lk W el.p) el.i) (4*pY (Lk W el.p) el.i) (VU (Me g h Q W H L pre) g h ((el.p:Nat):Int) (pX (Lk W el.p) el.i) (pY (Lk W el.p) el.i) (L.getD (el.m) ⟨0,0,0,0,0,fun _=>0⟩) Q)).W),iv ((Qp (Me g h Q W H L pre) ((el.p:Nat):Int) (4*pX (Lk W el.p) el.i) (4*pY (Lk W el.p) el.i) (VU (Me g h Q W H L pre) g h ((el.p:Nat):Int) (pX (Lk W el.p) el.i) (pY (Lk W el.p) el.i) (L.getD (el.m) ⟨0,0,0,0,0,fun _=>0⟩) Q)).H),bg,bh,bi]=v_/\KP (fun _=>False) bd w_/\(L4 w_ aO bg ((Qp (Me g h Q W H L pre) ((el.p:Nat):Int) (4*pX (Lk W el.p) el.i) (4*pY (Lk W el.p) el.i) (VU (Me g h Q W H L pre) g h ((el.p:Nat):Int) (pX (Lk W el.p) el.i) (pY (Lk W el.p) el.i) (L.getD (el.m) ⟨0,0,0,0,0,fun _=>0⟩) Q)).p0)/\KS bd Ma aO)/\(L4 w_ aP bh ((Qp (Me g h Q W H L pre) ((el.p:Nat):Int) (4*pX (Lk W el.p) el.i) (4*pY (Lk W el.p) el.i) (VU (Me g h Q W H L pre) g h ((el.p:Nat):Int) (pX (Lk W el.p) el.i) (pY (Lk W el.p) el.i) (L.getD (el.m) ⟨0,0,0,0,0,fun _=>0⟩) Q)).p1)/\KS bd Ma aP)/\(L4 w_ aQ bi ((Qp (Me g h Q W H L pre) ((el.p:Nat):Int) (4*pX (Lk W el.p) el.i) (4*pY (Lk W el.p) el.i) (VU (Me g h Q W H L pre) g h ((el.p:Nat):Int) (pX (Lk W el.p) el.i) (pY (Lk W el.p) el.i) (L.getD (el.m) ⟨0,0,0,0,0,fun _=>0⟩) Q)).p2)/\KS bd Ma aQ)/\KM aO aP/\KM aO aQ/\KM aP aQ) rfl rfl (LE rfl rfl rfl (fun _ _=>by kernel_rfl) (K4 _) (Lm rfl (Lm rfl (Lm rfl (Lm rfl (Lm rfl LS))))) (aCb ((el.p:Nat):Int) (4*pX (Lk W el.p) el.i) (4*pY (Lk W el.p) el.i) (VU (Me g h Q W H L pre) g h ((el.p:Nat):Int) (pX (Lk W el.p) el.i) (pY (Lk W el.p) el.i) (L.getD (el.m) ⟨0,0,0,0,0,fun _=>0⟩) Q) (Me g h Q W H L pre) ha hb hc aa ab ac _  o9.byt pa.byt pb.byt ) (fun e_ w_ h_=>by obtain⟨v1172_,T1177_,v1173_,T1178_,v1174_,T1179_,he_,hr_⟩:=h_;exact⟨_,he_,v1172_,T1177_,v1173_,T1178_,v1174_,T1179_,rfl,hr_⟩)) ?_)
       rintro _ uv ⟨bg,aO,bh,aP,bi,aQ,rfl,cW,⟨gu,cX⟩,⟨gv,cY⟩,⟨gw,cZ⟩,pf,pg,pi⟩
       obtain⟨pj,pk,pm,po,pp,pq,pu,pz,pA,pB,pC,pD,pE,pF⟩:=OB cW bH bI bJ bK bL bM bN bO bP bQ bR bS bT bU
       obtain⟨pG,pH,pI⟩:=ND cW bV be bW
       obtain⟨pJ,pK,pL,pM,pN,pO,pP,pQ,pR,pS,pT,pU,pV,pW⟩:=QD cX bH bI bJ bK bL bM bN bO bP bQ bR bS bT bU
       obtain⟨pZ,gz,qa⟩:=Tn cX bV be bW
       obtain⟨qb,qc,qd,qe,qf,qg,qh,qi,qj,qk,ql,qm,qn,qo⟩:=QD cY bH bI bJ bK bL bM bN bO bP bQ bR bS bT bU
       obtain⟨qp,gA,qq⟩:=Tn cY bV be bW
       obtain⟨qr,qs,qt,qu,qv,qw,qx,qy,qz,qA,qB,qC,qD,qE⟩:=QD cZ bH bI bJ bK bL bM bN bO bP bQ bR bS bT bU
       obtain⟨qF,gB,qG⟩:=Tn cZ bV be bW
       refine Ll (us:=[iv ((Qp (Me g h Q W H L pre) ((el.p:Nat):Int) (4*pX (Lk W el.p) el.i) (4*pY (Lk W el.p) el.i) (VU (Me g h Q W H L pre) g h ((el.p:Nat):Int) (pX (Lk W el.p) el.i) (pY (Lk W el.p) el.i) (L.getD (el.m) ⟨0,0,0,0,0,fun _=>0⟩) Q)).W),iv ((Qp (Me g h Q W H L pre) ((el.p:Nat):Int) (4*pX (Lk W el.p) el.i) (4*pY (Lk W el.p) el.i) (VU (Me g h Q W H L pre) g h ((el.p:Nat):Int) (pX (Lk W el.p) el.i) (pY (Lk W el.p) el.i) (L.getD (el.m) ⟨0,0,0,0,0,fun _=>0⟩) Q)).H),bg,bh,bi]) K3 rfl rfl rfl gt rfl pH rfl (K2 rfl (K2 rfl (K2 gu.one (K2 gv.one (K2 gw.one MI))))) fun uw qH af=>?_
       have qI:=pj.all af eH.symm
       have qJ:=pk.all af eI.symm
       have qK:=pm.all af eJ.symm
       have qL:=po.all af eK.symm
       have qM:=pp.all af eL.symm
       have qN:=pq.all af eM.symm
       have qO:=pu.all af eN.symm
       have qP:=pz.all af (eO.symm p1 rfl)
       have qQ:=pA.all af (eP.symm ak rfl)
       have qR:=pB.all af (eQ.symm ap rfl)
       have qS:=pC.all af (eR.symm aq rfl)
       have qT:=pD.all af (eS.symm ai rfl)
       have qU:=pE.all af (eT.symm aj rfl)
       have qV:=pF.all af eU.symm
       have qW:=pG.all af (eV.symm ar rfl)
       have qX:=pI.all af fg
       have qY:=gu.all af gz
       have qZ:=gv.all af gA
       have q7:=gw.all af gB
       have c5:=(bX.tr cW).trans af (KS.ok (S:=fun i=>(Lh au) i\/(aa i\/(ab i\/(ac i)))) (KS.refl cK (Lh au)) (fun _ x=>Or.inl x))
       refine KO ?_
       refine LD ?_
       exact⟨LQ.keeps (LQ.or cM.cells.cb (LQ.or cN.cells.cb (LQ.or cO.cells.cb cP.cells.cb))) c5,c5.mono (fun i hi x=>(x.elim (fun y=>fun e=>fg.symm i y (by rw[bc.1];exact e)) (fun y=>(y.elim (fun y=>fun e=>oJ i y (by rw[bc.1];exact e)) (fun y=>(y.elim (fun y=>fun e=>oK i y (by rw[bc.1];exact e)) (fun y=>(fun e=>oL i y (by rw[bc.1];exact e))))))))),⟨bg,bh,bi,aO,aP,aQ,aI.trans c5 (fun i hi x=>(x.elim (fun y=>((KS.ok (S:=fun _=>False) eG K6) i hi y)) (fun y=>(y.elim (fun y=>((KS.ok (S:=fun _=>False) oG K6) i hi y)) (fun y=>(y.elim (fun y=>((KS.ok (S:=fun _=>False) oH K6) i hi y)) (fun y=>((KS.ok (S:=fun _=>False) oI K6) i hi y)))))))),qI,qJ,qK,qL,qM,qN,qO,qP,qQ,qR,qS,qT,qU,qV,qW,(by rw[UI,hdec];exact qH),qX,(by rw[UI,hdec];exact qY),(by rw[UI,hdec];exact qZ),(by rw[UI,hdec];exact q7),((KS.new aI (KS.new bX cX)).weak K6),((KS.new aI (KS.new bX cY)).weak K6),((KS.new aI (KS.new bX cZ)).weak K6),pJ,pK,pL,pM,pN,pO,pP,pQ,pR,pS,pT,pU,pV,pW,pZ,gz,qa,pf,pg,qb,qc,qd,qe,qf,qg,qh,qi,qj,qk,ql,qm,qn,qo,qp,gA,qq,pi,qr,qs,qt,qu,qv,qw,qx,qy,qz,qA,qB,qC,qD,qE,qF,gB,qG⟩⟩
     ·rintro aA xs_ q8 c6 hS_ ⟨ha,hb,hc,aa,ab,ac,q9,ux,uy,uz,uA,uB,uC,uD,uE,uF,uG,uH,ra,rb,uI,uJ,rc,uK,c7,c9,da,re,rf,rg,uL,uM,uN,uO,uP,uQ,uR,uS,uT,uU,uV,rh,ri,uW,uX,uY,uZ,rj,rk,u0,u5,u6,u7,u9,va,vb,vc,vd,ve,vf,rl,rm,vg,vh,vi,vj,rn,vk,vl,vm,vn,vo,vp,vq,vr,vt,vu,vv,rp,rq,vw,vx,vy,vz⟩ aR
      subst hS_
      have aR:UH q8 aA:=aR
      have rt:KS w0 Ma (Lh aA):=LV (Nat.le_trans bb.size c6)
      have gC:=UH.far c6 (LO cD.lt)
      have gD:=UH.far c6 (LO cE.lt)
      have ru:=UH.apart aR c7.cells
      have rv:=UH.apart aR c9.cells
      have rx:=UH.apart aR da.cells
      have ry:Oi (aA::Og (cF 92))=Oi [aA]:=congrArg (fun z=>Oi (aA::Og z)) fh
      refine LD (KH (KK (KI (KJ (.agg #[iv ((Me g h Q W H L (Nc W H 3)).W),iv ((Me g h Q W H L (Nc W H 3)).H),ha,hb,hc]) rfl rfl (KU K3 rfl fi rc rr) (Ll (us:=[iv ((Me g h Q W H L (Nc W H 3)).W),iv ((Me g h Q W H L (Nc W H 3)).H),ha,hb,hc]) K3 rfl rfl rfl bE rfl ra rfl (K2 rfl (K2 rfl (K2 c7.one (K2 c9.one (K2 da.one MI))))) fun vA rz aS=>?_)))))
      have rA:=rb.all aS (aB aj rfl)
      have rB:=c7.all aS rh
      have rC:=c9.all aS rl
      have rD:=da.all aS rp
      have rE:=aR.all aS (gC aA rfl)
      refine L6 rfl rfl rfl bF rfl rA (by rfl) (by kernel_rfl) fun rF rG aT=>?_
      have rH:=rz.all aT (aB.symm ai rfl)
      have rI:=rB.all aT ri
      have rJ:=rC.all aT rm
      have rK:=rD.all aT rq
      have rL:=rE.all aT (gD aA rfl)
      refine KO ?_
      refine KH (Ld ?_)
      have aU:=Q2 rF aA
      have rM:=rH.all aU (gC.symm ai rfl)
      have rN:=rG.all aU (gD.symm aj rfl)
      have gE:=rI.all aU ru.symm
      have gF:=rJ.all aU rv.symm
      have gG:=rK.all aU rx.symm
      exact Rv (ms:=[aA]) ry rL.opens rfl (ML (vs:=[iv ((Me g h Q W H L (Nc W H 3)).W),iv ((Me g h Q W H L (Nc W H 3)).H),ha,hb,hc]) K3 rfl bE rM) (Ov Tryz.underlying33 rfl rfl bF rN) ⟨ha,aa,hb,ab,hc,ac,(by first|exact hfalse.elim|(rw[hE,hFr,NU hmn];rfl)|rw[hE,hFr,NU hmn]|(rw[hE,hFr,← Nj 3 (Nat.le_refl 3)];rfl)|rw[hE,hFr,← Nj 3 (Nat.le_refl 3)]|(rw[hE,hFr];rfl)|rw[hE,hFr]),(((q9.trans aS (KS.ok (S:=fun _=>False) bj K6)).trans aT (KS.ok (S:=fun _=>False) bl K6)).trans aU (KS.ok (S:=fun _=>False) rt K6)),⟨(by first|exact hfalse.elim|(rw[hFr,← Nj 3 (Nat.le_refl 3)];exact gE)|(rw[hFr];exact gE)),re⟩,⟨(by first|exact hfalse.elim|(rw[hFr,← Nj 3 (Nat.le_refl 3)];exact gF)|(rw[hFr];exact gF)),rf⟩,⟨(by first|exact hfalse.elim|(rw[hFr,← Nj 3 (Nat.le_refl 3)];exact gG)|(rw[hFr];exact gG)),rg⟩,rj,rk,rn⟩
     ·rintro aJ pre gH db hpf ⟨rO,vB,vC,vD,vE,vF,vG,vH,vJ,vK,vL,vM,rP,rQ,vN,vO,vP,hfalse⟩ dc
      have dc:UH gH aJ:=dc
      have rR:KS w0 Ma (Lh aJ):=LV (Nat.le_trans bb.size db)
      have rS:=UH.far db (LO cD.lt)
      have rT:=UH.far db (LO cE.lt)
      have rU:Oi (aJ::Og (cF 92))=Oi [aJ]:=congrArg (fun z=>Oi (aJ::Og z)) fh
      refine NV (Lq ?_)
      have dd:=Q2 gH aJ
      have rV:=rP.all dd (rS.symm ai rfl)
      have rW:=rQ.all dd (rT.symm aj rfl)
      exact Rv (ms:=[aJ]) rU dc.opens rfl (ML (vs:=[iv 0,iv 0,.slice none 0 0,.slice none 0 0,.slice none 0 0]) K3 rfl bE rV) (Ov Tryz.underlying33 rfl rfl bF rW) ⟨(.slice none 0 0),Ma,(.slice none 0 0),Ma,(.slice none 0 0),Ma,(by first|exact hfalse.elim|(rw[hE,hFr,NU hmn];rfl)|rw[hE,hFr,NU hmn]|(rw[hE,hFr,← Nj 3 (Nat.le_refl 3)];rfl)|rw[hE,hFr,← Nj 3 (Nat.le_refl 3)]|(rw[hE,hFr];rfl)|rw[hE,hFr]),(rO.trans dd (KS.ok (S:=fun _=>False) rR K6)),⟨(by first|exact hfalse.elim|(rw[hFr,← Nj 3 (Nat.le_refl 3)];exact(L4.nil _))|(rw[hFr];exact(L4.nil _))),(KS.refl _ _)⟩,⟨(by first|exact hfalse.elim|(rw[hFr,← Nj 3 (Nat.le_refl 3)];exact(L4.nil _))|(rw[hFr];exact(L4.nil _))),(KS.refl _ _)⟩,⟨(by first|exact hfalse.elim|(rw[hFr,← Nj 3 (Nat.le_refl 3)];exact(L4.nil _))|(rw[hFr];exact(L4.nil _))),(KS.refl _ _)⟩,KM.none,KM.none,KM.none⟩
  ·skip
   refine KI (KJ (.agg #[iv W,iv H,iv R,iv B]) rfl rfl (KU Mw rfl aC cg rr) (KJ (pt ak 0) rfl rfl (KT (n:=1) rfl aV Tryz.underlying25 rfl (by kernel_rfl) (by decide) rfl rr) (KJ (iv K) rfl rfl (KV rfl rfl Tryz.underlying3 ci rfl rfl rr) (KJ (.agg #[iv (g.W),iv (g.H),g0,g1,g2]) rfl rfl (KU K3 rfl bY cj rr) (KJ (.agg #[iv (h.W),iv (h.H),h0,h1,h2]) rfl rfl (KU K3 rfl bZ cm rr) (Ly (R:=fun v_ w_=>v_ = .bool false/\KP (fun _=>False) du w_) rfl rfl (LE rfl rfl rfl (fun _ _=>by kernel_rfl) (K4 _) (Lm rfl (Lm rfl (Lm rfl (Lm rfl LS)))) (azs W H R B K g g0 g1 g2 h h0 h1 h2 T_g0 T_g1 T_g2 T_h0 T_h1 T_h2 _  b7 b8 b9 cd ce cf ) (fun e_ w_ h_=>⟨_,h_.1,(congrArg Value.bool (decide_eq_false dA)),h_.2⟩)) ?_))))))
   rintro _ vQ ⟨rfl,gI⟩
   obtain⟨rX,rY⟩:=NL gI cn co
   refine KJ (.bool true) rfl rfl (LW rfl rfl rfl rr) (KO ?_)
   have rZ:=La (.bool true)
   refine KH ?_
   refine Lc (t:=true) rZ (fun _=>?_) (fun e=>by cases e)
   refine KK ?_
   have hE:=Xy (l:=l) (g:=g) (h:=h) hm (by first|assumption|(apply Decidable.byContradiction;assumption))
   have hFr:=Uy (l:=l) (W:=W) (H:=H) (R:=R) (B:=B) (K:=K) (Q:=Q) (D:=D) (F:=F) (g:=g) (h:=h) (by rw[hE];decide)
   refine KI (KJ (.agg #[iv 0,iv 0,.slice none 0 0,.slice none 0 0,.slice none 0 0]) rfl rfl (L0 (l':=[]) (cells:=#[iv 0,iv 0,.slice none 0 0,.slice none 0 0,.slice none 0 0]) rfl Rc (by kernel_rfl) rfl rr) (Ll (us:=[iv 0,iv 0,.slice none 0 0,.slice none 0 0,.slice none 0 0]) K3 rfl rfl rfl aD rfl rX rfl (K2 rfl (K2 rfl (K2 rfl (K2 rfl (K2 rfl MI))))) fun vR r7 gJ=>?_))
   have r8:=rY.all gJ (aB aj rfl)
   refine L6 rfl rfl rfl aE rfl r8 (by rfl) (by kernel_rfl) fun vS r9 gK=>?_
   have sb:=r7.all gK (aB.symm ai rfl)
   refine KO ?_
   refine KH (Ld (Lq ?_))
   exact Rv (ms:=[]) (Eq.trans bm (rfl:undef=Oi [])) trivial rfl (ML (vs:=[iv 0,iv 0,.slice none 0 0,.slice none 0 0,.slice none 0 0]) K3 rfl aD sb) (Ov Tryz.underlying33 rfl rfl aE r9) ⟨(.slice none 0 0),Ma,(.slice none 0 0),Ma,(.slice none 0 0),Ma,(by first|exact hfalse.elim|(rw[hE,hFr,NU hmn];rfl)|rw[hE,hFr,NU hmn]|(rw[hE,hFr,← Nj 3 (Nat.le_refl 3)];rfl)|rw[hE,hFr,← Nj 3 (Nat.le_refl 3)]|(rw[hE,hFr];rfl)|rw[hE,hFr]),(((cq.tr gI).trans gJ (KS.ok (S:=fun _=>False) bj K6)).trans gK (KS.ok (S:=fun _=>False) bl K6)),⟨(by first|exact hfalse.elim|(rw[hFr,← Nj 3 (Nat.le_refl 3)];exact(L4.nil _))|(rw[hFr];exact(L4.nil _))),(KS.refl _ _)⟩,⟨(by first|exact hfalse.elim|(rw[hFr,← Nj 3 (Nat.le_refl 3)];exact(L4.nil _))|(rw[hFr];exact(L4.nil _))),(KS.refl _ _)⟩,⟨(by first|exact hfalse.elim|(rw[hFr,← Nj 3 (Nat.le_refl 3)];exact(L4.nil _))|(rw[hFr];exact(L4.nil _))),(KS.refl _ _)⟩,KM.none,KM.none,KM.none⟩
end Go.Proofs.YtknjpdcpmpfklaaGreatDoor
set_option maxRecDepth 100000
namespace Go.Proofs.YtknjpdcpmpfklaaGreatDoor
open Go.RowKit
theorem azN(n:Nat)(w0:World)(hn:n<1099511627776):Calls Tryz.prog 23 #[.int .i64 (n:Int)] w0 fun e w'=>e = .returned (.string (NG (PX n)))/\KP (fun _=>False) w0 w' :=
 (aBb n w0 hn).mono fun _ _ ⟨e,hw⟩=>by subst hw;exact⟨e,KP.refl _ _⟩
theorem Ql(w0:World) :
  Calls Tryz.prog 24 #[] w0 fun e w'=>e = .returned (.agg #[.int .i64 (8),.int .i64 (8),.int .i64 (100),.int .i64 (1000)])/\KP (fun _=>False) w0 w':=by
 refine Ls (args:=[]) 2 Tryz.func24 rfl rfl (Nat.le_of_ble_eq_true rfl) ?_
 have K0:=KP.refl (fun _=>False) w0
 refine KK (KI (LI (n:=4) (vs:=[iv 0,iv 0,iv 0,iv 0]) rfl rfl rfl (by kernel_rfl) fun p1 w2 B4 g5 k3=>?_))
 refine KO ?_
 have ai:=La (undef)
 have ab:=La (pt p1 0)
 refine KH (KK (KI (KJ (.agg #[iv 8,iv 8,iv 100,iv 1000]) rfl rfl (L0 (l':=[(0,iv 8),(1,iv 8),(2,iv 100),(3,iv 1000)]) (cells:=#[iv 8,iv 8,iv 100,iv 1000]) rfl (SU rfl (SU rfl (SU rfl (SU rfl Rc)))) (by kernel_rfl) rfl rr) (Ll (us:=[iv 8,iv 8,iv 100,iv 1000]) Mw rfl rfl rfl ab rfl B4 rfl (K2 rfl (K2 rfl (K2 rfl (K2 rfl MI)))) fun an aj ak=>?_))))
 refine KO ?_
 refine KH (Ld ?_)
 exact OY (vs:=[iv 8,iv 8,iv 100,iv 1000]) Mw ai rfl rfl ab aj ⟨rfl,((K0.tr k3).trans ak (KS.ok (S:=fun _=>False) (KS.new K0 g5) K6))⟩
theorem aAA(i:Nat):List.replicate (2*i) true ++ [true,true]=List.replicate (2*(i+1)) true:=by
 rw[show [true,true]=List.replicate 2 true from rfl,List.replicate_append_replicate];rfl
theorem aDQ:RT (List.replicate (2*6) true++PX (List.replicate (2*6) true).length)=OD:=by decide +kernel
theorem aCB:OD.length=2:=by decide +kernel
theorem aDW:(Oz OD 8 8 100 1000 0 0 0 0).1.length=6/\(Oz OD 8 8 100 1000 0 0 0 0).2=0/\(Oz (OD ++ [0]) 8 8 100 1000 0 0 0 0).2=130:=by
 have hm:PH 8 8 100 1000 0 0 0 0:=by decide
 rw[Px hm,Px hm]
 exact⟨azu.2,azu.1,aAC.2⟩
theorem aCn:MU 8 8 100 1000 (LJ 8 8 128):=by decide +kernel
theorem aDD(a:List Bool):NG a++ByteArray.mk #[49,49]=NG (a ++ [true,true]):=by
 rw[show ByteArray.mk #[49,49]=NG [true,true] from rfl];exact Rm _ _
theorem XG(w0:World)(hA:NP w0)(hO:Oo w0)(hs:NY w0)(hw:Qi w0) :
  Calls Tryz.prog 8 #[] w0 fun e w'=>e = .returned (.bool true)/\KP (fun _=>False) w0 w':=by
 refine Ls (args:=[]) 101 Tryz.func8 rfl rfl (Nat.le_of_ble_eq_true rfl) ?_
 have h11:(ByteArray.mk #[49,49]).size=2:=rfl
 have h12:(List.replicate (2*6) true).length=12:=rfl
 have h13:(PX 12).length=4:=rfl
 have h14:(List.replicate (2*6) true++PX (List.replicate (2*6) true).length).length=16:=rfl
 have hd:=Lib.hid aCX
 have ho:=Lib.hid aAC
 have hf:=Lib.hid aC9
 have hc:=Lib.hid aDW
 have hpl:=aCB
 refine KK (KI (KJ (.bool false) rfl rfl (KX rfl rfl rr) (KO ?_)))
 have s3:=La (undef)
 refine KH (KK (KI (KJ (.string (NG ([]))) rfl rfl (KX rfl rfl rr) (KO ?_))))
 have s7:=La (.string (NG ([])))
 refine KH (KK (KK (KI (KJ (iv 0) rfl rfl (KX rfl rfl rr) (KO ?_)))))
 have cN:=La (iv 0)
 refine KH (Lo (M4 (fun nn FF ww=>∃ (i:Nat),(i<=6)/\((List.replicate (2*i) true).length=2*i)/\nn=6-i/\FF 101=undef/\FF 1 = .string (NG (List.replicate (2*i) true))/\FF 2=iv ((i:Nat):Int)/\KP (fun _=>False) w0 ww) (6-0) ⟨0,by omega,rfl,rfl,s3,s7,cN,(KP.refl (fun _=>False) w0)⟩ ?_))
 rintro fH fI fJ ⟨i,i17,hrl,hn16,aW,aQ,aX,aY⟩
 refine KK (KK (KI (KW rfl rfl rfl aX (KJ (.bool (decide (((i:Nat):Int)<6))) rfl rfl (L5 rfl rfl rfl rfl rr) (KO ?_)))))
 have cO:=La (.bool (decide (((i:Nat):Int)<6)))
 refine KH ?_
 refine Lc cO (fun aE=>?_) (fun aE=>?_)
 ·replace aE:=of_decide_eq_true aE
  refine Li (KH (KK (Lo (KI (KW rfl rfl rfl aQ (KJ (.string (NG (List.replicate (2*i) true ++ [true,true]))) rfl rfl (aAk rfl rfl rfl (by simp only[Ph];omega) (aDD _) rr) (KJ (.string (NG (List.replicate (2*i) true ++ [true,true]))) rfl rfl (KX rfl rfl rr) (KO ?_))))))))
  have cP:=La (.string (NG (List.replicate (2*i) true ++ [true,true])))
  refine LD (KH (KI (KW rfl rfl rfl aX (KJ (iv ((i+1:Nat):Int)) rfl rfl (LR rfl rfl rfl (L2 (by omega) (by omega)) rr) (KJ (iv ((i+1:Nat):Int)) rfl rfl (KX rfl rfl rr) (KO ?_))))))
  have cQ:=La (iv ((i+1:Nat):Int))
  exact KH ⟨(6-(i+1)),by omega,i+1,by omega,List.length_replicate,rfl,aW,(cP.trans (by rw[aAA])),cQ,aY⟩
 ·replace aE:=of_decide_eq_false aE
  refine Mg (Lt (Lt ?_))
  have cR:6=i:=by omega
  subst cR
  refine Mh (KH (KK (KI (KW rfl rfl rfl aQ (KW rfl rfl rfl aQ (KJ (iv (((List.replicate (2*6) true).length:Nat):Int)) rfl rfl (aCy rfl rfl rfl rr) (LY rfl rfl rfl rfl rfl (fun _ _=>by kernel_rfl) (Lm rfl LS) (azN ((List.replicate (2*6) true).length)  _ (by omega)  ) fun aZ cS=>?_)))))))
  refine KJ (.string (NG ((List.replicate (2*6) true)++(PX ((List.replicate (2*6) true).length))))) rfl rfl (aAk rfl rfl rfl (by simp[Ph];omega) (Rm _ _) rr) (Ly (R:=fun v_ w_=>∃ (ae:Value) (am:Nat->Prop),ae=v_/\KP (fun _=>False) aZ w_/\(L9 w_ am ae (RT ((List.replicate (2*6) true)++(PX ((List.replicate (2*6) true).length))))/\KS aZ Ma am)) rfl rfl (LE rfl rfl rfl (fun _ _=>by kernel_rfl) (K4 _) (Lm rfl LS) (YG ((List.replicate (2*6) true)++(PX ((List.replicate (2*6) true).length)))  _ (by omega)  ) (fun e_ w_ h_=>by obtain⟨v42_,T45_,he_,hr_⟩:=h_;exact⟨_,he_,v42_,T45_,rfl,hr_⟩)) ?_)
  rintro _ cT ⟨ae,am,rfl,cU,⟨cV,fK⟩⟩
  refine KJ ae rfl rfl (KX rfl rfl rr) (KO ?_)
  have aM:=La (ae)
  refine KH (KK ?_)
  have cW:L9 cT am ae OD:=(by rw[← aDQ];exact cV)
  refine KI (LY rfl rfl rfl rfl rfl (fun _ _=>by kernel_rfl) LS (Ql   _   ) fun aN a8=>?_)
  have a9:=cW.all a8 KM.none
  have aF:=((aY.tr cS).tr cU).tr a8
  refine KJ (.agg #[iv 0,iv 0,iv 0,iv 0]) rfl rfl (L0 (l':=[]) (cells:=#[iv 0,iv 0,iv 0,iv 0]) rfl Rc (by kernel_rfl) rfl rr) (KW rfl rfl rfl aM (KJ (.agg #[iv 0,iv 0,.slice none 0 0,.slice none 0 0,.slice none 0 0]) rfl rfl (L0 (l':=[]) (cells:=#[iv 0,iv 0,.slice none 0 0,.slice none 0 0,.slice none 0 0]) rfl Rc (by kernel_rfl) rfl rr) (KJ (.agg #[iv 0,iv 0,.slice none 0 0,.slice none 0 0,.slice none 0 0]) rfl rfl (L0 (l':=[]) (cells:=#[iv 0,iv 0,.slice none 0 0,.slice none 0 0,.slice none 0 0]) rfl Rc (by kernel_rfl) rfl rr) (Ly (R:=fun v_ w_=>∃ (ah:Value) (ar:Nat->Prop) (ai:Value) (au:Nat->Prop) (aj:Value) (av:Nat->Prop),.tuple #[.agg #[iv ((MA OD 8 8 100 1000 0 0 0 0 (FD.mk 0 0 ([]) ([]) ([])) (FD.mk 0 0 ([]) ([]) ([]))).W),iv ((MA OD 8 8 100 1000 0 0 0 0 (FD.mk 0 0 ([]) ([]) ([])) (FD.mk 0 0 ([]) ([]) ([]))).H),ah,ai,aj],iv (Ns OD 8 8 100 1000 0 0 0 0 (FD.mk 0 0 ([]) ([]) ([])) (FD.mk 0 0 ([]) ([]) ([])))]=v_/\KP (fun _=>False) aN w_/\(L4 w_ ar ah ((MA OD 8 8 100 1000 0 0 0 0 (FD.mk 0 0 ([]) ([]) ([])) (FD.mk 0 0 ([]) ([]) ([]))).p0)/\KS aN Ma ar)/\(L4 w_ au ai ((MA OD 8 8 100 1000 0 0 0 0 (FD.mk 0 0 ([]) ([]) ([])) (FD.mk 0 0 ([]) ([]) ([]))).p1)/\KS aN Ma au)/\(L4 w_ av aj ((MA OD 8 8 100 1000 0 0 0 0 (FD.mk 0 0 ([]) ([]) ([])) (FD.mk 0 0 ([]) ([]) ([]))).p2)/\KS aN Ma av)/\KM ar au/\KM ar av/\KM au av) rfl rfl (LE rfl rfl rfl (fun _ _=>by kernel_rfl) (K4 _) (Lm rfl (Lm rfl (Lm rfl (Lm rfl (Lm rfl LS))))) (Sg 8 8 100 1000 0 0 0 0 ae OD (FD.mk 0 0 ([]) ([]) ([])) (.slice none 0 0) (.slice none 0 0) (.slice none 0 0) (FD.mk 0 0 ([]) ([]) ([])) (.slice none 0 0) (.slice none 0 0) (.slice none 0 0) am Ma Ma Ma Ma Ma Ma _ (hA.all aF) (hO.all aF) (hs.all aF) (hw.all aF) (by omega) a9 (L9.nil _) (L9.nil _) (L9.nil _) (L9.nil _) (L9.nil _) (L9.nil _) ) (fun e_ w_ h_=>by obtain⟨v59_,T64_,v60_,T65_,v61_,T66_,he_,hr_⟩:=h_;exact⟨_,he_,v59_,T64_,v60_,T65_,v61_,T66_,rfl,hr_⟩)) ?_))))
  rintro _ fL ⟨ah,ar,ai,au,aj,av,rfl,ba,⟨bb,fM⟩,⟨bc,bd⟩,⟨be,bf⟩,fN,fO,fP⟩
  have bg:=a9.all ba KM.none
  have bh:=aF.tr ba
  refine KJ (.tuple #[.agg #[iv ((MA OD 8 8 100 1000 0 0 0 0 (FD.mk 0 0 ([]) ([]) ([])) (FD.mk 0 0 ([]) ([]) ([]))).W),iv ((MA OD 8 8 100 1000 0 0 0 0 (FD.mk 0 0 ([]) ([]) ([])) (FD.mk 0 0 ([]) ([]) ([]))).H),ah,ai,aj],iv (Ns OD 8 8 100 1000 0 0 0 0 (FD.mk 0 0 ([]) ([]) ([])) (FD.mk 0 0 ([]) ([]) ([])))]) rfl rfl (KQ rfl rfl rr) (KJ (.agg #[iv ((MA OD 8 8 100 1000 0 0 0 0 (FD.mk 0 0 ([]) ([]) ([])) (FD.mk 0 0 ([]) ([]) ([]))).W),iv ((MA OD 8 8 100 1000 0 0 0 0 (FD.mk 0 0 ([]) ([]) ([])) (FD.mk 0 0 ([]) ([]) ([]))).H),ah,ai,aj]) rfl rfl (LM rfl rfl rfl rr) (KJ (iv (Ns OD 8 8 100 1000 0 0 0 0 (FD.mk 0 0 ([]) ([]) ([])) (FD.mk 0 0 ([]) ([]) ([])))) rfl rfl (LM rfl rfl rfl rr) (LI (n:=5) (vs:=[iv 0,iv 0,.slice none 0 0,.slice none 0 0,.slice none 0 0]) rfl rfl rfl (by kernel_rfl) fun aG fQ cX bi bj=>?_)))
  obtain⟨cY,cZ,c5,c6⟩:=VK bi bg bb bc be
  obtain⟨c7,bl,bm,bn⟩:=OW bj bg bb bc be
  refine Ll (us:=[iv ((MA OD 8 8 100 1000 0 0 0 0 (FD.mk 0 0 ([]) ([]) ([])) (FD.mk 0 0 ([]) ([]) ([]))).W),iv ((MA OD 8 8 100 1000 0 0 0 0 (FD.mk 0 0 ([]) ([]) ([])) (FD.mk 0 0 ([]) ([]) ([]))).H),ah,ai,aj]) K3 rfl rfl rfl rfl rfl cX rfl (K2 rfl (K2 rfl (K2 bl.one (K2 bm.one (K2 bn.one MI))))) fun fR c9 aH=>?_
  have da:=c7.all aH cY.symm
  have db:=bl.all aH cZ.symm
  have dc:=bm.all aH c5.symm
  have dd:=bn.all aH c6.symm
  refine KJ (iv (Ns OD 8 8 100 1000 0 0 0 0 (FD.mk 0 0 ([]) ([]) ([])) (FD.mk 0 0 ([]) ([]) ([])))) rfl rfl (KX rfl rfl rr) (KO ?_)
  have de:=La (pt aG 0)
  have df:=La (iv (Ns OD 8 8 100 1000 0 0 0 0 (FD.mk 0 0 ([]) ([]) ([])) (FD.mk 0 0 ([]) ([]) ([]))))
  refine KH (KK (KI (LY rfl rfl rfl rfl rfl (fun _ _=>by kernel_rfl) LS (Ql   _   ) fun bo bp=>?_)))
  obtain⟨bq,dg,dh,di,dj⟩:=OJ bp da db dc dd c9
  have aR:=((bh.tr bj).trans aH (KS.ok (S:=fun _=>False) (KS.new bh bi) K6)).tr bp
  refine KJ (.agg #[iv 0,iv 0,iv 0,iv 0]) rfl rfl (L0 (l':=[]) (cells:=#[iv 0,iv 0,iv 0,iv 0]) rfl Rc (by kernel_rfl) rfl rr) (KW rfl rfl rfl aM (Ly (R:=fun v_ w_=>∃ (ak:Value) (aS:Nat->Prop),.tuple #[ak,iv ((Oz OD 8 8 100 1000 0 0 0 0).2)]=v_/\KP (fun _=>False) bo w_/\(QX Uq w_ aS ak ((Oz OD 8 8 100 1000 0 0 0 0).1)/\KS bo Ma aS)) rfl rfl (LE rfl rfl rfl (fun _ _=>by kernel_rfl) (K4 _) (Lm rfl (Lm rfl (Lm rfl LS))) (SA 8 8 100 1000 0 0 0 0 ae OD am _ (hA.all aR) (hO.all aR) (by first|omega|(simp;omega)) bq ) (fun e_ w_ h_=>by obtain⟨v121_,T124_,he_,hr_⟩:=h_;exact⟨_,he_,v121_,T124_,rfl,hr_⟩)) ?_))
  rintro _ fS ⟨ak,aS,rfl,bt,⟨dk,fT⟩⟩
  obtain⟨dl,dm,dn,dp,dq⟩:=OJ bt bq dg dh di dj
  refine KJ (.tuple #[ak,iv ((Oz OD 8 8 100 1000 0 0 0 0).2)]) rfl rfl (KQ rfl rfl rr) (KJ ak rfl rfl (LM rfl rfl rfl rr) (KJ (iv ((Oz OD 8 8 100 1000 0 0 0 0).2)) rfl rfl (LM rfl rfl rfl rr) (KJ ak rfl rfl (KX rfl rfl rr) (KJ (iv ((Oz OD 8 8 100 1000 0 0 0 0).2)) rfl rfl (KX rfl rfl rr) (KO ?_)))))
  have dr:=La (ak)
  have dt:=La (iv ((Oz OD 8 8 100 1000 0 0 0 0).2))
  refine KH (KK (KI (LY rfl rfl rfl rfl rfl (fun _ _=>by kernel_rfl) LS (Ql   _   ) fun aO bu=>?_)))
  obtain⟨bv,du,dv,dw,dy,dz⟩:=Qz bu dl dm dn dp dq dk
  have aI:=(aR.tr bt).tr bu
  refine KJ (.agg #[iv 1,iv 0,iv 0,iv 0]) rfl rfl (L0 (l':=[(0,iv 1)]) (cells:=#[iv 1,iv 0,iv 0,iv 0]) rfl (SU rfl Rc) (by kernel_rfl) rfl rr) (KW rfl rfl rfl aM (KJ (.agg #[iv 0,iv 0,.slice none 0 0,.slice none 0 0,.slice none 0 0]) rfl rfl (L0 (l':=[]) (cells:=#[iv 0,iv 0,.slice none 0 0,.slice none 0 0,.slice none 0 0]) rfl Rc (by kernel_rfl) rfl rr) (KJ (.agg #[iv 0,iv 0,.slice none 0 0,.slice none 0 0,.slice none 0 0]) rfl rfl (L0 (l':=[]) (cells:=#[iv 0,iv 0,.slice none 0 0,.slice none 0 0,.slice none 0 0]) rfl Rc (by kernel_rfl) rfl rr) (Ly (R:=fun v_ w_=>∃ (aw:Value) (aJ:Nat->Prop) (az:Value) (aK:Nat->Prop) (aA:Value) (aL:Nat->Prop),.tuple #[.agg #[iv ((MA OD 8 8 100 1000 1 0 0 0 (FD.mk 0 0 ([]) ([]) ([])) (FD.mk 0 0 ([]) ([]) ([]))).W),iv ((MA OD 8 8 100 1000 1 0 0 0 (FD.mk 0 0 ([]) ([]) ([])) (FD.mk 0 0 ([]) ([]) ([]))).H),aw,az,aA],iv (Ns OD 8 8 100 1000 1 0 0 0 (FD.mk 0 0 ([]) ([]) ([])) (FD.mk 0 0 ([]) ([]) ([])))]=v_/\KP (fun _=>False) aO w_/\(L4 w_ aJ aw ((MA OD 8 8 100 1000 1 0 0 0 (FD.mk 0 0 ([]) ([]) ([])) (FD.mk 0 0 ([]) ([]) ([]))).p0)/\KS aO Ma aJ)/\(L4 w_ aK az ((MA OD 8 8 100 1000 1 0 0 0 (FD.mk 0 0 ([]) ([]) ([])) (FD.mk 0 0 ([]) ([]) ([]))).p1)/\KS aO Ma aK)/\(L4 w_ aL aA ((MA OD 8 8 100 1000 1 0 0 0 (FD.mk 0 0 ([]) ([]) ([])) (FD.mk 0 0 ([]) ([]) ([]))).p2)/\KS aO Ma aL)/\KM aJ aK/\KM aJ aL/\KM aK aL) rfl rfl (LE rfl rfl rfl (fun _ _=>by kernel_rfl) (K4 _) (Lm rfl (Lm rfl (Lm rfl (Lm rfl (Lm rfl LS))))) (Sg 8 8 100 1000 1 0 0 0 ae OD (FD.mk 0 0 ([]) ([]) ([])) (.slice none 0 0) (.slice none 0 0) (.slice none 0 0) (FD.mk 0 0 ([]) ([]) ([])) (.slice none 0 0) (.slice none 0 0) (.slice none 0 0) am Ma Ma Ma Ma Ma Ma _ (hA.all aI) (hO.all aI) (hs.all aI) (hw.all aI) (by omega) bv (L9.nil _) (L9.nil _) (L9.nil _) (L9.nil _) (L9.nil _) (L9.nil _) ) (fun e_ w_ h_=>by obtain⟨v156_,T161_,v157_,T162_,v158_,T163_,he_,hr_⟩:=h_;exact⟨_,he_,v156_,T161_,v157_,T162_,v158_,T163_,rfl,hr_⟩)) ?_))))
  rintro _ fU ⟨aw,aJ,az,aK,aA,aL,rfl,bz,⟨dA,fV⟩,⟨dB,fW⟩,⟨dC,fX⟩,fY,fZ,f5⟩
  obtain⟨bA,bB,bC,bD,bE,bF⟩:=Qz bz bv du dv dw dy dz
  have bG:=aI.tr bz
  refine KJ (.tuple #[.agg #[iv ((MA OD 8 8 100 1000 1 0 0 0 (FD.mk 0 0 ([]) ([]) ([])) (FD.mk 0 0 ([]) ([]) ([]))).W),iv ((MA OD 8 8 100 1000 1 0 0 0 (FD.mk 0 0 ([]) ([]) ([])) (FD.mk 0 0 ([]) ([]) ([]))).H),aw,az,aA],iv (Ns OD 8 8 100 1000 1 0 0 0 (FD.mk 0 0 ([]) ([]) ([])) (FD.mk 0 0 ([]) ([]) ([])))]) rfl rfl (KQ rfl rfl rr) (KJ (.agg #[iv ((MA OD 8 8 100 1000 1 0 0 0 (FD.mk 0 0 ([]) ([]) ([])) (FD.mk 0 0 ([]) ([]) ([]))).W),iv ((MA OD 8 8 100 1000 1 0 0 0 (FD.mk 0 0 ([]) ([]) ([])) (FD.mk 0 0 ([]) ([]) ([]))).H),aw,az,aA]) rfl rfl (LM rfl rfl rfl rr) (KJ (iv (Ns OD 8 8 100 1000 1 0 0 0 (FD.mk 0 0 ([]) ([]) ([])) (FD.mk 0 0 ([]) ([]) ([])))) rfl rfl (LM rfl rfl rfl rr) (LI (n:=5) (vs:=[iv 0,iv 0,.slice none 0 0,.slice none 0 0,.slice none 0 0]) rfl rfl rfl (by kernel_rfl) fun f6 f7 dD bH bI=>?_)))
  obtain⟨dE,dF,dG,dH,dI,dJ⟩:=Vk bH bA bB bC bD bE bF
  obtain⟨dK,dL,dM,dN,dO,dP,dQ,dR,dS⟩:=X9 bI bA bB bC bD bE bF dA dB dC
  refine Ll (us:=[iv ((MA OD 8 8 100 1000 1 0 0 0 (FD.mk 0 0 ([]) ([]) ([])) (FD.mk 0 0 ([]) ([]) ([]))).W),iv ((MA OD 8 8 100 1000 1 0 0 0 (FD.mk 0 0 ([]) ([]) ([])) (FD.mk 0 0 ([]) ([]) ([]))).H),aw,az,aA]) K3 rfl rfl rfl rfl rfl dD rfl (K2 rfl (K2 rfl (K2 dQ.one (K2 dR.one (K2 dS.one MI))))) fun f8 f9 an=>?_
  have dT:=dK.all an dE.symm
  have dU:=dL.all an dF.symm
  have dV:=dM.all an dG.symm
  have dW:=dN.all an dH.symm
  have dX:=dO.all an (dI.symm aG rfl)
  have dY:=dP.all an dJ.symm
  refine KJ (iv (Ns OD 8 8 100 1000 1 0 0 0 (FD.mk 0 0 ([]) ([]) ([])) (FD.mk 0 0 ([]) ([]) ([])))) rfl rfl (KX rfl rfl rr) (KO ?_)
  have dZ:=La (iv (Ns OD 8 8 100 1000 1 0 0 0 (FD.mk 0 0 ([]) ([]) ([])) (FD.mk 0 0 ([]) ([]) ([]))))
  refine KH (KK (KI (LY rfl rfl rfl rfl rfl (fun _ _=>by kernel_rfl) LS (Ql   _   ) fun ga bJ=>?_)))
  obtain⟨d8,bK,bL,bM,bN,bO⟩:=Qz bJ dT dU dV dW dX dY
  have bP:=((bG.tr bI).trans an (KS.ok (S:=fun _=>False) (KS.new bG bH) K6)).tr bJ
  refine KJ (.agg #[iv 0,iv 0,iv 0,iv 0]) rfl rfl (L0 (l':=[]) (cells:=#[iv 0,iv 0,iv 0,iv 0]) rfl Rc (by kernel_rfl) rfl rr) (YB rfl rfl rfl fun gb gc gd d9 bQ bR=>?_)
  have bS:=KS.new bP bQ
  obtain⟨bT,bU,bV,bW,bX⟩:=ayR bQ bK bL bM bN bO
  obtain⟨eb,bY,bZ,b7,b8,b9⟩:=Qz bR d8 bK bL bM bN bO
  have cd:=bP.tr bR
  refine KW rfl rfl rfl aM (UZ rfl rfl rfl rfl rfl rfl d9 eb (by first|omega|(simp;done)|(simp;omega)) fun ge gh gi ee ce aB=>?_)
  obtain⟨eh,ei,ek,en,eo⟩:=aDO ce bT bY bU bZ bV b7 bW b8 bX b9
  have ep:=bY.all aB bT.symm
  have er:=bZ.all aB bU.symm
  have et:=b7.all aB bV.symm
  have eu:=b8.all aB (bW.symm aG rfl)
  have ew:=b9.all aB bX.symm
  refine UY (n:=0) rfl rfl rfl rfl (by omega) (by omega) fun gj gl gm ex gn cf=>?_
  obtain⟨ey,ez,eA,eB,eC,eD⟩:=Qz cf ep er et eu ew ee
  refine UZ rfl rfl rfl rfl rfl rfl eD ex.byt (by first|omega|(simp;done)|(simp;omega)) fun eE cg eF eG go aC=>?_
  have eH:=ey.all aC eh.symm
  have eI:=ez.all aC ei.symm
  have eJ:=eA.all aC ek.symm
  have eK:=eB.all aC (en.symm aG rfl)
  have eL:=eC.all aC eo.symm
  have aT:=((cd.trans aB (KS.ok (S:=fun _=>False) bS K6)).tr cf).trans aC (KS.ok (S:=fun _=>False) (KS.trans bS cd ce) K6)
  refine Ly (R:=fun v_ w_=>∃ (aD:Value) (aU:Nat->Prop),.tuple #[aD,iv ((Oz ((([]:List Nat)++OD)++([0])) 8 8 100 1000 0 0 0 0).2)]=v_/\KP (fun _=>False) cg w_/\(QX Uq w_ aU aD ((Oz ((([]:List Nat)++OD)++([0])) 8 8 100 1000 0 0 0 0).1)/\KS cg Ma aU)) rfl rfl (LE rfl rfl rfl (fun _ _=>by kernel_rfl) (K4 _) (Lm rfl (Lm rfl (Lm rfl LS))) (SA 8 8 100 1000 0 0 0 0 eE ((([]:List Nat)++OD)++([0])) eF _ (hA.all aT) (hO.all aT) (by first|omega|(simp;omega)) eG.byt ) (fun e_ w_ h_=>by obtain⟨v377_,T380_,he_,hr_⟩:=h_;exact⟨_,he_,v377_,T380_,rfl,hr_⟩)) ?_
  rintro _ aP ⟨aD,aU,rfl,ci,⟨gp,gq⟩⟩
  obtain⟨eM,eN,eO,eP,eQ⟩:=OJ ci eH eI eJ eK eL
  refine KJ (.tuple #[aD,iv ((Oz ((([]:List Nat)++OD)++([0])) 8 8 100 1000 0 0 0 0).2)]) rfl rfl (KQ rfl rfl rr) (KJ aD rfl rfl (LM rfl rfl rfl rr) (KJ (iv ((Oz ((([]:List Nat)++OD)++([0])) 8 8 100 1000 0 0 0 0).2)) rfl rfl (LM rfl rfl rfl rr) (KJ aD rfl rfl (KX rfl rfl rr) (KJ (iv ((Oz ((([]:List Nat)++OD)++([0])) 8 8 100 1000 0 0 0 0).2)) rfl rfl (KX rfl rfl rr) (KO ?_)))))
  have eR:=La (iv ((Oz ((([]:List Nat)++OD)++([0])) 8 8 100 1000 0 0 0 0).2))
  refine KH (KK (KI (Ly (R:=fun v_ w_=>∃ (aa:Value) (ao:Nat->Prop) (ab:Value) (ap:Nat->Prop) (ac:Value) (aq:Nat->Prop),.tuple #[.agg #[iv ((LJ 8 8 128).W),iv ((LJ 8 8 128).H),aa,ab,ac],iv (R2 8 8)]=v_/\KP (fun _=>False) aP w_/\(L4 w_ ao aa ((LJ 8 8 128).p0)/\KS aP Ma ao)/\(L4 w_ ap ab ((LJ 8 8 128).p1)/\KS aP Ma ap)/\(L4 w_ aq ac ((LJ 8 8 128).p2)/\KS aP Ma aq)/\KM ao ap/\KM ao aq/\KM ap aq) rfl rfl (LE rfl rfl rfl (fun _ _=>by kernel_rfl) (K4 _) (Lm rfl (Lm rfl (Lm rfl LS))) (azd 8 8 128  _ (by omega)  ) (fun e_ w_ h_=>by obtain⟨v418_,T423_,v419_,T424_,v420_,T425_,he_,hr_⟩:=h_;exact⟨_,he_,v418_,T423_,v419_,T424_,v420_,T425_,rfl,hr_⟩)) ?_)))
  rintro _ gr ⟨aa,ao,ab,ap,ac,aq,rfl,cj,⟨cm,gt⟩,⟨cn,gu⟩,⟨co,gv⟩,gw,gz,gA⟩
  obtain⟨cq,cr,ct,cu,cv⟩:=OJ cj eM eN eO eP eQ
  have cw:=(aT.tr ci).tr cj
  refine KJ (.tuple #[.agg #[iv ((LJ 8 8 128).W),iv ((LJ 8 8 128).H),aa,ab,ac],iv (R2 8 8)]) rfl rfl (KQ rfl rfl rr) (KJ (.agg #[iv ((LJ 8 8 128).W),iv ((LJ 8 8 128).H),aa,ab,ac]) rfl rfl (LM rfl rfl rfl rr) (KJ (iv (R2 8 8)) rfl rfl (LM rfl rfl rfl rr) (LI (n:=5) (vs:=[iv 0,iv 0,.slice none 0 0,.slice none 0 0,.slice none 0 0]) rfl rfl rfl (by kernel_rfl) fun eS gB eT cy cz=>?_)))
  obtain⟨eU,eV,eW,eX,eY,eZ,e6,e7⟩:=W9 cy cq cr ct cu cv cm cn co
  obtain⟨e8,e9,fa,fb,fc,cA,cB,cC⟩:=Xj cz cq cr ct cu cv cm cn co
  refine Ll (us:=[iv ((LJ 8 8 128).W),iv ((LJ 8 8 128).H),aa,ab,ac]) K3 rfl rfl rfl rfl rfl eT rfl (K2 rfl (K2 rfl (K2 cA.one (K2 cB.one (K2 cC.one MI))))) fun fd cD af=>?_
  have fe:=e8.all af eU.symm
  have ff:=e9.all af eV.symm
  have fg:=fa.all af eW.symm
  have fh:=fb.all af (eX.symm aG rfl)
  have fi:=fc.all af eY.symm
  have cE:=cA.all af eZ.symm
  have cF:=cB.all af e6.symm
  have cG:=cC.all af e7.symm
  refine KJ (iv (R2 8 8)) rfl rfl (KX rfl rfl rr) (KO ?_)
  have cH:=La (pt eS 0)
  refine KH (KK (KI (KJ (.agg #[iv ((MA OD 8 8 100 1000 0 0 0 0 (FD.mk 0 0 ([]) ([]) ([])) (FD.mk 0 0 ([]) ([]) ([]))).W),iv ((MA OD 8 8 100 1000 0 0 0 0 (FD.mk 0 0 ([]) ([]) ([])) (FD.mk 0 0 ([]) ([]) ([]))).H),ah,ai,aj]) rfl rfl (KU K3 rfl de fh rr) (KJ (.agg #[iv ((LJ 8 8 128).W),iv ((LJ 8 8 128).H),aa,ab,ac]) rfl rfl (KU K3 rfl cH cD rr) (Ly (R:=fun v_ w_=>v_ = .bool true/\KP (fun _=>False) fd w_) rfl rfl (LE rfl rfl rfl (fun _ _=>by kernel_rfl) (K4 _) (Lm rfl (Lm rfl LS)) (Se (MA OD 8 8 100 1000 0 0 0 0 (FD.mk 0 0 ([]) ([]) ([])) (FD.mk 0 0 ([]) ([]) ([]))) ah ai aj (LJ 8 8 128) aa ab ac ar au av ao ap aq _  fe.byt ff.byt fg.byt cE.byt cF.byt cG.byt ) (fun e_ w_ h_=>⟨_,h_.1,congrArg Value.bool hf.out,h_.2⟩)) ?_)))))
  rintro _ gC ⟨rfl,cI⟩
  obtain⟨fj,fk,fm,fo,fp⟩:=OJ cI fi cE cF cG cD
  refine KJ (.bool true) rfl rfl (KX rfl rfl rr) (KO ?_)
  have fq:=La (.bool true)
  refine KH (KK ?_)
  refine Rd [some 71,some 72,some 73,some 15] [Pd.eq (.agg #[iv 8,iv 8,iv 100,iv 1000]),Pd.eq (.agg #[iv ((LJ 8 8 128).W),iv ((LJ 8 8 128).H),aa,ab,ac]),Pd.eq (.bool true),Pd.eq (.bool true)] (by kernel_rfl) (by kernel_rfl) ?_ ?_
  ·refine KN ?_ ?_
   ·refine Le.one rfl fun F_ w_ hR hout hD=>?_
    exact(LE rfl rfl rfl (fun _ _=>by kernel_rfl) (K4 _) LS (Ql   _   ) (fun e_ w_ h_=>⟨_,h_.1,rfl,h_.2⟩))
   refine KN ?_ ?_
   ·refine Le.one rfl fun F_ w_ hR hout hD=>?_
    exact(KU K3 rfl ((hout 12 rfl (by decide)).trans cH) (fp.all hR id) ⟨rfl,KP.refl _ _⟩)
   refine KN ?_ ?_
   ·refine Le.one rfl fun F_ w_ hR hout hD=>?_
    have bd:F_ 71 = .agg #[iv 8,iv 8,iv 100,iv 1000]:=(hD.get 0 rfl rfl rfl)
    have bf:F_ 72 = .agg #[iv ((LJ 8 8 128).W),iv ((LJ 8 8 128).H),aa,ab,ac]:=(hD.get 1 rfl rfl rfl)
    exact(LE rfl rfl rfl (fun _ _=>by kernel_rfl) (K4 _) (Lm bd (Lm bf LS)) (QF 8 8 100 1000 (LJ 8 8 128) aa ab ac ao ap aq _  (fk.all hR KM.none).byt (fm.all hR KM.none).byt (fo.all hR KM.none).byt ) (fun e_ w_ h_=>⟨_,h_.1,congrArg Value.bool (decide_eq_true aCn),h_.2⟩))
   refine KN ?_ ?_
   ·refine Le.one rfl fun F_ w_ hR hout hD=>?_
    have ft:F_ 73 = .bool true:=(hD.get 0 rfl rfl rfl)
    exact(KX rfl ft ⟨rfl,KP.refl _ _⟩)
   exact L3
  intro gD fu gE cJ cK aV
  have fw:=fj.all cJ KM.none
  obtain⟨fx,fy,fA,fB,fC,fD,fE⟩:=t7 aV 101 aW 5 df 6 dr 7 dt 9 dZ 11 eR 14 fq
  have fF:fu 15 = .bool true:=(aV 15).trans (cK 3 (by decide))
  clear cK aV
  refine KH (KK (KI (KW rfl rfl rfl fy (KJ (.bool true) rfl rfl (Mj rfl rfl rfl (decide_eq_true hd.out) rr) (KJ (.bool true) rfl rfl (KQ rfl rfl rr) (KR (.bool true) 2 true 76 rfl rfl rfl rfl rfl (KQ rfl fE rr) (KJ (.bool true) rfl rfl (Lg rfl rfl rfl rr) (KJ (.bool true) rfl rfl (KQ rfl rfl rr) (KR ak 5 true 79 rfl rfl rfl rfl rfl (KQ rfl fA rr) (KR (iv ((((Oz OD 8 8 100 1000 0 0 0 0).1).length:Nat):Int)) 5 true 79 rfl rfl rfl rfl rfl (aBE (r:=Uq) rfl rfl rfl fw.roa rr) (KR (.bool true) 5 true 79 rfl rfl rfl rfl rfl (Mj rfl rfl rfl (decide_eq_true (by rw[hc.out.1];rfl)) rr) ?_)))))))))))
  refine KJ (.bool true) rfl rfl (Lg rfl rfl rfl rr) (KJ (.bool true) rfl rfl (KQ rfl rfl rr) (KR (iv ((Oz OD 8 8 100 1000 0 0 0 0).2)) 10 true 84 rfl rfl rfl rfl rfl (KQ rfl fB rr) (KR (.bool true) 10 true 84 rfl rfl rfl rfl rfl (Mj rfl rfl rfl (decide_eq_true hc.out.2.1) rr) (KJ (.bool true) rfl rfl (Lg rfl rfl rfl rr) (KJ (.bool true) rfl rfl (KQ rfl rfl rr) (KR (iv (Ns OD 8 8 100 1000 1 0 0 0 (FD.mk 0 0 ([]) ([]) ([])) (FD.mk 0 0 ([]) ([]) ([])))) 14 true 88 rfl rfl rfl rfl rfl (KQ rfl fC rr) (KR (.bool true) 14 true 88 rfl rfl rfl rfl rfl (Mj rfl rfl rfl (decide_eq_true ho.out.1) rr) (KJ (.bool true) rfl rfl (Lg rfl rfl rfl rr) (KJ (.bool true) rfl rfl (KQ rfl rfl rr) (KR (iv ((Oz ((([]:List Nat)++OD)++([0])) 8 8 100 1000 0 0 0 0).2)) 18 true 92 rfl rfl rfl rfl rfl (KQ rfl fD rr) (KR (.bool true) 18 true 92 rfl rfl rfl rfl rfl (Mj rfl rfl rfl (decide_eq_true hc.out.2.2) rr) ?_)))))))))))
  refine KJ (.bool true) rfl rfl (Lg rfl rfl rfl rr) (KJ (.bool true) rfl rfl (KQ rfl rfl rr) (KJ (.bool true) rfl rfl (Lg rfl rfl rfl rr) (KJ (.bool true) rfl rfl (KQ rfl rfl rr) (KR (.bool true) 24 true 98 rfl rfl rfl rfl rfl (KQ rfl fF rr) (KJ (.bool true) rfl rfl (Lg rfl rfl rfl rr) (KJ (.bool true) rfl rfl (KX rfl rfl rr) (KO ?_)))))))
  have fG:=La (.bool true)
  refine KH (Ld ?_)
  exact Lu (v:=.bool true) fx rfl rfl fG ⟨rfl,((((cw.tr cz).trans af (KS.ok (S:=fun _=>False) (KS.new cw cy) K6)).tr cI).tr cJ)⟩
end Go.Proofs.YtknjpdcpmpfklaaGreatDoor
set_option maxRecDepth 100000
namespace Go.Proofs.YtknjpdcpmpfklaaGreatDoor
open Go.RowKit
def NT(W H:Int):Prop:=(16<W/\W<=64)\/(16<H/\H<=64)
instance (W H:Int):Decidable (NT W H):=by unfold NT;infer_instance
theorem Z3{l:List Nat}{W H R B K Q D F:Int}{g h:FD}(h0:Ns l W H R B K Q D F g h≠0):(MA l W H R B K Q D F g h).p0.length=0/\(MA l W H R B K Q D F g h).p1.length=0:=by
 rw[Uy h0];exact⟨rfl,rfl⟩
end Go.Proofs.YtknjpdcpmpfklaaGreatDoor
set_option maxRecDepth 100000
namespace Go.Proofs.YtknjpdcpmpfklaaGreatDoor
open Go.RowKit
theorem Yc(a:FD):PL a a=true:=by unfold PL U1;simp
theorem ayU{W H R B K Q D F:Int}{m n:Nat}(h:PH W H R B K Q D F)(hm:m<65536)(hn:n<65536):PH W H R B K Q (m:Int) (n:Int):=by
 obtain⟨h1,h2⟩:=h
 refine⟨h1,?_⟩
 unfold Od at h2 ⊢;omega
theorem Yy{l:List Nat}{W H R B K Q D F:Int}{g h:FD}{m n:Nat}(hz:Ns l W H R B K Q D F g h=0)(hm:m<65536)(hn:n<65536) :
  Ns l W H R B K Q (m:Int) (n:Int) g h=0/\PL (MA l W H R B K Q D F g h) (MA l W H R B K Q (m:Int) (n:Int) g h)=true:=by
 have h0:=(Zn hz).1
 have hd:=aAM (l:=l) (g:=g) (h:=h) h0 (ayU h0 hm hn)
 exact⟨hd.1 ▸ hz,by rw[← hd.2];exact Yc _⟩
theorem ayE{f:FD}(h:Na f=0):PL (MD f) f=true:=by rw[Ng ((Mu f).1 h)];exact Yc f
theorem WQ(W H R B K Q D F:Int)(v:Value)(l:List Nat)(m n:Nat)(g:FD)(g0 g1 g2:Value)(h:FD)(h0 h1 h2:Value)(T_b:Nat->Prop)(T_g0:Nat->Prop)(T_g1:Nat->Prop)(T_g2:Nat->Prop)(T_h0:Nat->Prop)(T_h1:Nat->Prop)(T_h2:Nat->Prop)(w0:World)(hA:NP w0)(hO:Oo w0)(hs:NY w0)(hw:Qi w0)(hm:m<65536)(hn:n<65536)(h_b:L9 w0 T_b v (l))(h_g0:L9 w0 T_g0 g0 ((g).p0))(h_g1:L9 w0 T_g1 g1 ((g).p1))(h_g2:L9 w0 T_g2 g2 ((g).p2))(h_h0:L9 w0 T_h0 h0 ((h).p0))(h_h1:L9 w0 T_h1 h1 ((h).p1))(h_h2:L9 w0 T_h2 h2 ((h).p2)) :
  Calls Tryz.prog 4 #[.agg #[.int .i64 (W),.int .i64 (H),.int .i64 (R),.int .i64 (B)],.agg #[.int .i64 (K),.int .i64 (Q),.int .i64 (D),.int .i64 (F)],v,.agg #[.int .i64 ((g).W),.int .i64 ((g).H),g0,g1,g2],.agg #[.int .i64 ((h).W),.int .i64 ((h).H),h0,h1,h2],.int .u16 (((m:Nat):Int)),.int .u16 (((n:Nat):Int))] w0 fun e w'=>e = .returned (.bool true)/\KP (fun _=>False) w0 w':=by
 refine Ls (args:=[.agg #[iv W,iv H,iv R,iv B],.agg #[iv K,iv Q,iv D,iv F],v,.agg #[iv (g.W),iv (g.H),g0,g1,g2],.agg #[iv (h.W),iv (h.H),h0,h1,h2],.int .u16 ((m:Nat):Int),.int .u16 ((n:Nat):Int)]) 121 Tryz.func4 rfl rfl (Nat.le_of_ble_eq_true rfl) ?_
 have g_b:=KS.refl w0 T_b
 have g_g0:=KS.refl w0 T_g0
 have g_g1:=KS.refl w0 T_g1
 have g_g2:=KS.refl w0 T_g2
 have g_h0:=KS.refl w0 T_h0
 have g_h1:=KS.refl w0 T_h1
 have g_h2:=KS.refl w0 T_h2
 refine KK (KI (Lx (vs:=[iv W,iv H,iv R,iv B]) rfl rfl rfl rfl fun p1 w2 B4 g5 k3=>?_))
 obtain⟨ci,cj,cm,cn,co,cq,cr⟩:=SO k3 h_b h_g0 h_g1 h_g2 h_h0 h_h1 h_h2
 have ct:=(KP.refl (fun _=>False) w0).tr k3
 refine Lx (vs:=[iv K,iv Q,iv D,iv F]) rfl rfl rfl rfl fun aR qH cu cv cw=>?_
 have cy:=KS.new ct cv
 obtain⟨cz,cA,cB,cC,cD,cE,cF,cG⟩:=W9 cv ci cj cm cn co cq cr B4
 obtain⟨gi,gj,gl,gm,gn,go,gp,gq⟩:=Xj cw ci cj cm cn co cq cr B4
 refine Lx (vs:=[iv (g.W),iv (g.H),g0,g1,g2]) rfl rfl rfl rfl fun aX qI gr gt cH=>?_
 have cI:=KM.new gt (LO cu.lt)
 obtain⟨gu,gv,gw,gz,gA,gB,gC,gD,cJ⟩:=X9 cH gi gj gl gm gn go gp gq cu
 refine Lx (vs:=[iv (h.W),iv (h.H),h0,h1,h2]) rfl rfl rfl rfl fun aY qJ gE gF cK=>?_
 have cL:=KM.new gF (LO cJ.lt)
 obtain⟨gG,gH,gI,gJ,gK,gL,gM,gN,gO,gP⟩:=Sn cK gu gv gw gz gA gB gC gD cJ gr
 have bi:=((ct.tr cw).tr cH).tr cK
 refine KJ (.bool false) rfl rfl (KX rfl rfl rr) (KO ?_)
 have ae:=La (v)
 have ao:=La (.int .u16 ((m:Nat):Int))
 have ap:=La (.int .u16 ((n:Nat):Int))
 have aq:=La (undef)
 have aa:=La (pt p1 0)
 have ar:=La (pt aR 0)
 have ah:=La (pt aX 0)
 have an:=La (pt aY 0)
 refine KH (KK (KI (LY rfl rfl rfl rfl rfl (fun _ _=>by kernel_rfl) LS (XG   _ (hA.all bi) (hO.all bi) (hs.all bi) (hw.all bi)  ) fun aM cM=>?_)))
 obtain⟨af,ai,aj,ak,au,av,aw,ab,az,am,aA⟩:=Oa cM gG gH gI gJ gK gL gM gN gO gP gE
 have aB:=bi.tr cM
 refine KJ (.bool true) rfl rfl (KX rfl rfl rr) (KO ?_)
 have aC:=La (.bool true)
 refine KH (KK (KK ?_))
 refine aCu (fun FF ww=>FF 56 = .bool (decide (NT W H\/1000<l.length\/M8 g=false\/M8 h=false))/\FF 2=v/\FF 5 = .int .u16 ((m:Nat):Int)/\FF 6 = .int .u16 ((n:Nat):Int)/\FF 7=pt p1 0/\FF 8=pt aR 0/\FF 10=pt aX 0/\FF 11=pt aY 0/\FF 15 = .bool true/\FF 121=undef/\KP (fun _=>False) w0 ww/\L9 ww T_b v l/\L9 ww T_g0 g0 (g.p0)/\L9 ww T_g1 g1 (g.p1)/\L9 ww T_g2 g2 (g.p2)/\L9 ww T_h0 h0 (h.p0)/\L9 ww T_h1 h1 (h.p1)/\L9 ww T_h2 h2 (h.p2)/\My ww p1 23 [iv W,iv H,iv R,iv B]/\My ww aR 25 [iv K,iv Q,iv D,iv F]/\My ww aX 29 [iv (g.W),iv (g.H),g0,g1,g2]/\My ww aY 29 [iv (h.W),iv (h.H),h0,h1,h2]) ?_ ?_
 ·skip
  by_cases aD:16<W
  ·skip
   by_cases aN:W<=64
   ·skip
    refine KI (KJ (pt p1 0) rfl rfl (KT (n:=1) rfl aa Tryz.underlying23 rfl (by kernel_rfl) (by decide) rfl rr) (KJ (iv W) rfl rfl (KV rfl rfl Tryz.underlying3 ab rfl rfl rr) (KJ (.bool true) rfl rfl (Ms rfl rfl rfl (decide_eq_true aD) rr) (KJ (.bool true) rfl rfl (KQ rfl rfl rr) (KR (pt p1 0) 3 true 27 rfl rfl rfl rfl rfl (KT (n:=1) rfl aa Tryz.underlying23 rfl (by kernel_rfl) (by decide) rfl rr) (KR (iv W) 3 true 27 rfl rfl rfl rfl rfl (KV rfl rfl Tryz.underlying3 ab rfl rfl rr) (KR (.bool true) 3 true 27 rfl rfl rfl rfl rfl (Nf rfl rfl rfl (decide_eq_true aN) rr) (KJ (.bool true) rfl rfl (Lg rfl rfl rfl rr) (KJ (.bool true) rfl rfl (KQ rfl rfl rr) (KL 8 false 32 rfl rfl rfl (Or.inl rfl) rfl (KL 8 false 32 rfl rfl rfl (Or.inl rfl) rfl ?_)))))))))))
    refine KL 8 false 32 rfl rfl rfl (Or.inl rfl) rfl (KL 8 false 32 rfl rfl rfl (Or.inl rfl) rfl (KL 12 true 36 rfl rfl rfl (Or.inr rfl) rfl (KL 12 true 36 rfl rfl rfl (Or.inr rfl) rfl (KL 12 true 36 rfl rfl rfl (Or.inr rfl) rfl (KL 8 false 32 rfl rfl rfl (Or.inl rfl) rfl (KJ (.bool true) rfl rfl (Lg rfl rfl rfl rr) (KJ (.bool true) rfl rfl (KQ rfl rfl rr) (KL 18 false 42 rfl rfl rfl (Or.inl rfl) rfl (KL 18 false 42 rfl rfl rfl (Or.inl rfl) rfl (KL 18 false 42 rfl rfl rfl (Or.inl rfl) rfl (KJ (.bool true) rfl rfl (Lg rfl rfl rfl rr) ?_)))))))))))
    refine KJ (.bool true) rfl rfl (KQ rfl rfl rr) (KL 23 false 47 rfl rfl rfl (Or.inl rfl) rfl (KL 23 false 47 rfl rfl rfl (Or.inl rfl) rfl (KL 23 false 47 rfl rfl rfl (Or.inl rfl) rfl (KJ (.bool true) rfl rfl (Lg rfl rfl rfl rr) (KJ (.bool true) rfl rfl (KQ rfl rfl rr) (KL 28 false 52 rfl rfl rfl (Or.inl rfl) rfl (KL 28 false 52 rfl rfl rfl (Or.inl rfl) rfl (KL 28 false 52 rfl rfl rfl (Or.inl rfl) rfl (KJ (.bool true) rfl rfl (Lg rfl rfl rfl rr) (KO ?_))))))))))
    have gQ:=La (.bool true)
    exact⟨gQ.trans (congrArg Value.bool (show true=decide (NT W H\/1000<l.length\/M8 g=false\/M8 h=false) from (by rw[Bool.eq_iff_iff,decide_eq_true_iff];unfold NT;first|(simp[*];done)|(simp[*];omega)|(simp_all;done)|(simp_all;omega)))),ae,ao,ap,aa,ar,ah,an,aC,aq,aB,af,ai,aj,ak,au,av,aw,ab,az,am,aA⟩
   ·skip
    by_cases aS:16<H
    ·skip
     by_cases bj:H<=64
     ·skip
      refine KI (KJ (pt p1 0) rfl rfl (KT (n:=1) rfl aa Tryz.underlying23 rfl (by kernel_rfl) (by decide) rfl rr) (KJ (iv W) rfl rfl (KV rfl rfl Tryz.underlying3 ab rfl rfl rr) (KJ (.bool true) rfl rfl (Ms rfl rfl rfl (decide_eq_true aD) rr) (KJ (.bool true) rfl rfl (KQ rfl rfl rr) (KR (pt p1 0) 3 true 27 rfl rfl rfl rfl rfl (KT (n:=1) rfl aa Tryz.underlying23 rfl (by kernel_rfl) (by decide) rfl rr) (KR (iv W) 3 true 27 rfl rfl rfl rfl rfl (KV rfl rfl Tryz.underlying3 ab rfl rfl rr) (KR (.bool false) 3 true 27 rfl rfl rfl rfl rfl (Nf rfl rfl rfl (decide_eq_false aN) rr) (KJ (.bool false) rfl rfl (Lg rfl rfl rfl rr) (KJ (.bool false) rfl rfl (KQ rfl rfl rr) (KR (pt p1 1) 8 false 32 rfl rfl rfl rfl rfl (KT (n:=1) rfl aa Tryz.underlying23 rfl (by kernel_rfl) (by decide) rfl rr) (KR (iv H) 8 false 32 rfl rfl rfl rfl rfl (KV rfl rfl Tryz.underlying3 ab rfl rfl rr) ?_)))))))))))
      refine KR (.bool true) 8 false 32 rfl rfl rfl rfl rfl (Ms rfl rfl rfl (decide_eq_true aS) rr) (KR (.bool true) 8 false 32 rfl rfl rfl rfl rfl (KQ rfl rfl rr) (KR (pt p1 1) 12 true 36 rfl rfl rfl rfl rfl (KT (n:=1) rfl aa Tryz.underlying23 rfl (by kernel_rfl) (by decide) rfl rr) (KR (iv H) 12 true 36 rfl rfl rfl rfl rfl (KV rfl rfl Tryz.underlying3 ab rfl rfl rr) (KR (.bool true) 12 true 36 rfl rfl rfl rfl rfl (Nf rfl rfl rfl (decide_eq_true bj) rr) (KR (.bool true) 8 false 32 rfl rfl rfl rfl rfl (Lg rfl rfl rfl rr) (KJ (.bool true) rfl rfl (Lb rfl rfl rfl rr) (KJ (.bool true) rfl rfl (KQ rfl rfl rr) (KL 18 false 42 rfl rfl rfl (Or.inl rfl) rfl (KL 18 false 42 rfl rfl rfl (Or.inl rfl) rfl (KL 18 false 42 rfl rfl rfl (Or.inl rfl) rfl (KJ (.bool true) rfl rfl (Lg rfl rfl rfl rr) ?_)))))))))))
      refine KJ (.bool true) rfl rfl (KQ rfl rfl rr) (KL 23 false 47 rfl rfl rfl (Or.inl rfl) rfl (KL 23 false 47 rfl rfl rfl (Or.inl rfl) rfl (KL 23 false 47 rfl rfl rfl (Or.inl rfl) rfl (KJ (.bool true) rfl rfl (Lg rfl rfl rfl rr) (KJ (.bool true) rfl rfl (KQ rfl rfl rr) (KL 28 false 52 rfl rfl rfl (Or.inl rfl) rfl (KL 28 false 52 rfl rfl rfl (Or.inl rfl) rfl (KL 28 false 52 rfl rfl rfl (Or.inl rfl) rfl (KJ (.bool true) rfl rfl (Lg rfl rfl rfl rr) (KO ?_))))))))))
      have gR:=La (.bool true)
      exact⟨gR.trans (congrArg Value.bool (show true=decide (NT W H\/1000<l.length\/M8 g=false\/M8 h=false) from (by rw[Bool.eq_iff_iff,decide_eq_true_iff];unfold NT;first|(simp[*];done)|(simp[*];omega)|(simp_all;done)|(simp_all;omega)))),ae,ao,ap,aa,ar,ah,an,aC,aq,aB,af,ai,aj,ak,au,av,aw,ab,az,am,aA⟩
     ·skip
      by_cases bz:1000<((l.length:Nat):Int)
      ·skip
       refine KI (KJ (pt p1 0) rfl rfl (KT (n:=1) rfl aa Tryz.underlying23 rfl (by kernel_rfl) (by decide) rfl rr) (KJ (iv W) rfl rfl (KV rfl rfl Tryz.underlying3 ab rfl rfl rr) (KJ (.bool true) rfl rfl (Ms rfl rfl rfl (decide_eq_true aD) rr) (KJ (.bool true) rfl rfl (KQ rfl rfl rr) (KR (pt p1 0) 3 true 27 rfl rfl rfl rfl rfl (KT (n:=1) rfl aa Tryz.underlying23 rfl (by kernel_rfl) (by decide) rfl rr) (KR (iv W) 3 true 27 rfl rfl rfl rfl rfl (KV rfl rfl Tryz.underlying3 ab rfl rfl rr) (KR (.bool false) 3 true 27 rfl rfl rfl rfl rfl (Nf rfl rfl rfl (decide_eq_false aN) rr) (KJ (.bool false) rfl rfl (Lg rfl rfl rfl rr) (KJ (.bool false) rfl rfl (KQ rfl rfl rr) (KR (pt p1 1) 8 false 32 rfl rfl rfl rfl rfl (KT (n:=1) rfl aa Tryz.underlying23 rfl (by kernel_rfl) (by decide) rfl rr) (KR (iv H) 8 false 32 rfl rfl rfl rfl rfl (KV rfl rfl Tryz.underlying3 ab rfl rfl rr) ?_)))))))))))
       refine KR (.bool true) 8 false 32 rfl rfl rfl rfl rfl (Ms rfl rfl rfl (decide_eq_true aS) rr) (KR (.bool true) 8 false 32 rfl rfl rfl rfl rfl (KQ rfl rfl rr) (KR (pt p1 1) 12 true 36 rfl rfl rfl rfl rfl (KT (n:=1) rfl aa Tryz.underlying23 rfl (by kernel_rfl) (by decide) rfl rr) (KR (iv H) 12 true 36 rfl rfl rfl rfl rfl (KV rfl rfl Tryz.underlying3 ab rfl rfl rr) (KR (.bool false) 12 true 36 rfl rfl rfl rfl rfl (Nf rfl rfl rfl (decide_eq_false bj) rr) (KR (.bool false) 8 false 32 rfl rfl rfl rfl rfl (Lg rfl rfl rfl rr) (KJ (.bool false) rfl rfl (Lb rfl rfl rfl rr) (KJ (.bool false) rfl rfl (KQ rfl rfl rr) (KR v 18 false 42 rfl rfl rfl rfl rfl (KQ rfl ae rr) (KR (iv ((l.length:Nat):Int)) 18 false 42 rfl rfl rfl rfl rfl (M3 rfl rfl rfl af rr) (KR (.bool true) 18 false 42 rfl rfl rfl rfl rfl (Ms rfl rfl rfl (decide_eq_true bz) rr) (KJ (.bool true) rfl rfl (Lb rfl rfl rfl rr) ?_)))))))))))
       refine KJ (.bool true) rfl rfl (KQ rfl rfl rr) (KL 23 false 47 rfl rfl rfl (Or.inl rfl) rfl (KL 23 false 47 rfl rfl rfl (Or.inl rfl) rfl (KL 23 false 47 rfl rfl rfl (Or.inl rfl) rfl (KJ (.bool true) rfl rfl (Lg rfl rfl rfl rr) (KJ (.bool true) rfl rfl (KQ rfl rfl rr) (KL 28 false 52 rfl rfl rfl (Or.inl rfl) rfl (KL 28 false 52 rfl rfl rfl (Or.inl rfl) rfl (KL 28 false 52 rfl rfl rfl (Or.inl rfl) rfl (KJ (.bool true) rfl rfl (Lg rfl rfl rfl rr) (KO ?_))))))))))
       have gS:=La (.bool true)
       exact⟨gS.trans (congrArg Value.bool (show true=decide (NT W H\/1000<l.length\/M8 g=false\/M8 h=false) from (by rw[Bool.eq_iff_iff,decide_eq_true_iff];unfold NT;first|(simp[*];done)|(simp[*];omega)|(simp_all;done)|(simp_all;omega)))),ae,ao,ap,aa,ar,ah,an,aC,aq,aB,af,ai,aj,ak,au,av,aw,ab,az,am,aA⟩
      ·skip
       rcases Bool.eq_false_or_eq_true (M8 g) with bA|bA
       ·skip
        rcases Bool.eq_false_or_eq_true (M8 h) with bS|bS
        ·skip
         refine KI (KJ (pt p1 0) rfl rfl (KT (n:=1) rfl aa Tryz.underlying23 rfl (by kernel_rfl) (by decide) rfl rr) (KJ (iv W) rfl rfl (KV rfl rfl Tryz.underlying3 ab rfl rfl rr) (KJ (.bool true) rfl rfl (Ms rfl rfl rfl (decide_eq_true aD) rr) (KJ (.bool true) rfl rfl (KQ rfl rfl rr) (KR (pt p1 0) 3 true 27 rfl rfl rfl rfl rfl (KT (n:=1) rfl aa Tryz.underlying23 rfl (by kernel_rfl) (by decide) rfl rr) (KR (iv W) 3 true 27 rfl rfl rfl rfl rfl (KV rfl rfl Tryz.underlying3 ab rfl rfl rr) (KR (.bool false) 3 true 27 rfl rfl rfl rfl rfl (Nf rfl rfl rfl (decide_eq_false aN) rr) (KJ (.bool false) rfl rfl (Lg rfl rfl rfl rr) (KJ (.bool false) rfl rfl (KQ rfl rfl rr) (KR (pt p1 1) 8 false 32 rfl rfl rfl rfl rfl (KT (n:=1) rfl aa Tryz.underlying23 rfl (by kernel_rfl) (by decide) rfl rr) (KR (iv H) 8 false 32 rfl rfl rfl rfl rfl (KV rfl rfl Tryz.underlying3 ab rfl rfl rr) ?_)))))))))))
         refine KR (.bool true) 8 false 32 rfl rfl rfl rfl rfl (Ms rfl rfl rfl (decide_eq_true aS) rr) (KR (.bool true) 8 false 32 rfl rfl rfl rfl rfl (KQ rfl rfl rr) (KR (pt p1 1) 12 true 36 rfl rfl rfl rfl rfl (KT (n:=1) rfl aa Tryz.underlying23 rfl (by kernel_rfl) (by decide) rfl rr) (KR (iv H) 12 true 36 rfl rfl rfl rfl rfl (KV rfl rfl Tryz.underlying3 ab rfl rfl rr) (KR (.bool false) 12 true 36 rfl rfl rfl rfl rfl (Nf rfl rfl rfl (decide_eq_false bj) rr) (KR (.bool false) 8 false 32 rfl rfl rfl rfl rfl (Lg rfl rfl rfl rr) (KJ (.bool false) rfl rfl (Lb rfl rfl rfl rr) (KJ (.bool false) rfl rfl (KQ rfl rfl rr) (KR v 18 false 42 rfl rfl rfl rfl rfl (KQ rfl ae rr) (KR (iv ((l.length:Nat):Int)) 18 false 42 rfl rfl rfl rfl rfl (M3 rfl rfl rfl af rr) (KR (.bool false) 18 false 42 rfl rfl rfl rfl rfl (Ms rfl rfl rfl (decide_eq_false bz) rr) (KJ (.bool false) rfl rfl (Lb rfl rfl rfl rr) ?_)))))))))))
         refine KJ (.bool false) rfl rfl (KQ rfl rfl rr) (KR (.agg #[iv (g.W),iv (g.H),g0,g1,g2]) 23 false 47 rfl rfl rfl rfl rfl (KU K3 rfl ah am rr) (LA (R:=fun v_ w_=>v_ = .bool true/\KP (fun _=>False) aM w_) 23 false 47 rfl rfl rfl rfl rfl (LE rfl rfl rfl (fun _ _=>by kernel_rfl) (K4 _) (Lm rfl LS) (MT g g0 g1 g2 T_g0 T_g1 T_g2 _  ai aj ak ) (fun e_ w_ h_=>⟨_,h_.1,(congrArg Value.bool bA),h_.2⟩)) ?_))
         rintro _ gT ⟨rfl,cN⟩
         obtain⟨gU,gV,gW,gZ,cO,cP,cQ,hP,hQ,hZ,cR⟩:=Oa cN af ai aj ak au av aw ab az am aA
         refine KR (.bool false) 23 false 47 rfl rfl rfl rfl rfl (LW rfl rfl rfl rr) (KJ (.bool false) rfl rfl (Lb rfl rfl rfl rr) (KJ (.bool false) rfl rfl (KQ rfl rfl rr) (KR (.agg #[iv (h.W),iv (h.H),h0,h1,h2]) 28 false 52 rfl rfl rfl rfl rfl (KU K3 rfl an cR rr) (LA (R:=fun v_ w_=>v_ = .bool true/\KP (fun _=>False) gT w_) 28 false 52 rfl rfl rfl rfl rfl (LE rfl rfl rfl (fun _ _=>by kernel_rfl) (K4 _) (Lm rfl LS) (MT h h0 h1 h2 T_h0 T_h1 T_h2 _  cO cP cQ ) (fun e_ w_ h_=>⟨_,h_.1,(congrArg Value.bool bS),h_.2⟩)) ?_))))
         rintro _ qK ⟨rfl,cS⟩
         obtain⟨ia,ib,ie,ig,ii,ij,ik,io,ip,iq,ir⟩:=Oa cS gU gV gW gZ cO cP cQ hP hQ hZ cR
         refine KR (.bool false) 28 false 52 rfl rfl rfl rfl rfl (LW rfl rfl rfl rr) (KJ (.bool false) rfl rfl (Lb rfl rfl rfl rr) (KO ?_))
         have iu:=La (.bool false)
         exact⟨iu.trans (congrArg Value.bool (show false=decide (NT W H\/1000<l.length\/M8 g=false\/M8 h=false) from (by rw[Bool.eq_iff_iff,decide_eq_true_iff];unfold NT;first|(simp[*];done)|(simp[*];omega)|(simp_all;done)|(simp_all;omega)))),ae,ao,ap,aa,ar,ah,an,aC,aq,((aB.tr cN).tr cS),ia,ib,ie,ig,ii,ij,ik,io,ip,iq,ir⟩
        ·skip
         refine KI (KJ (pt p1 0) rfl rfl (KT (n:=1) rfl aa Tryz.underlying23 rfl (by kernel_rfl) (by decide) rfl rr) (KJ (iv W) rfl rfl (KV rfl rfl Tryz.underlying3 ab rfl rfl rr) (KJ (.bool true) rfl rfl (Ms rfl rfl rfl (decide_eq_true aD) rr) (KJ (.bool true) rfl rfl (KQ rfl rfl rr) (KR (pt p1 0) 3 true 27 rfl rfl rfl rfl rfl (KT (n:=1) rfl aa Tryz.underlying23 rfl (by kernel_rfl) (by decide) rfl rr) (KR (iv W) 3 true 27 rfl rfl rfl rfl rfl (KV rfl rfl Tryz.underlying3 ab rfl rfl rr) (KR (.bool false) 3 true 27 rfl rfl rfl rfl rfl (Nf rfl rfl rfl (decide_eq_false aN) rr) (KJ (.bool false) rfl rfl (Lg rfl rfl rfl rr) (KJ (.bool false) rfl rfl (KQ rfl rfl rr) (KR (pt p1 1) 8 false 32 rfl rfl rfl rfl rfl (KT (n:=1) rfl aa Tryz.underlying23 rfl (by kernel_rfl) (by decide) rfl rr) (KR (iv H) 8 false 32 rfl rfl rfl rfl rfl (KV rfl rfl Tryz.underlying3 ab rfl rfl rr) ?_)))))))))))
         refine KR (.bool true) 8 false 32 rfl rfl rfl rfl rfl (Ms rfl rfl rfl (decide_eq_true aS) rr) (KR (.bool true) 8 false 32 rfl rfl rfl rfl rfl (KQ rfl rfl rr) (KR (pt p1 1) 12 true 36 rfl rfl rfl rfl rfl (KT (n:=1) rfl aa Tryz.underlying23 rfl (by kernel_rfl) (by decide) rfl rr) (KR (iv H) 12 true 36 rfl rfl rfl rfl rfl (KV rfl rfl Tryz.underlying3 ab rfl rfl rr) (KR (.bool false) 12 true 36 rfl rfl rfl rfl rfl (Nf rfl rfl rfl (decide_eq_false bj) rr) (KR (.bool false) 8 false 32 rfl rfl rfl rfl rfl (Lg rfl rfl rfl rr) (KJ (.bool false) rfl rfl (Lb rfl rfl rfl rr) (KJ (.bool false) rfl rfl (KQ rfl rfl rr) (KR v 18 false 42 rfl rfl rfl rfl rfl (KQ rfl ae rr) (KR (iv ((l.length:Nat):Int)) 18 false 42 rfl rfl rfl rfl rfl (M3 rfl rfl rfl af rr) (KR (.bool false) 18 false 42 rfl rfl rfl rfl rfl (Ms rfl rfl rfl (decide_eq_false bz) rr) (KJ (.bool false) rfl rfl (Lb rfl rfl rfl rr) ?_)))))))))))
         refine KJ (.bool false) rfl rfl (KQ rfl rfl rr) (KR (.agg #[iv (g.W),iv (g.H),g0,g1,g2]) 23 false 47 rfl rfl rfl rfl rfl (KU K3 rfl ah am rr) (LA (R:=fun v_ w_=>v_ = .bool true/\KP (fun _=>False) aM w_) 23 false 47 rfl rfl rfl rfl rfl (LE rfl rfl rfl (fun _ _=>by kernel_rfl) (K4 _) (Lm rfl LS) (MT g g0 g1 g2 T_g0 T_g1 T_g2 _  ai aj ak ) (fun e_ w_ h_=>⟨_,h_.1,(congrArg Value.bool bA),h_.2⟩)) ?_))
         rintro _ iw ⟨rfl,cT⟩
         obtain⟨iy,iz,iA,iB,cU,cV,cW,iC,iD,iE,cX⟩:=Oa cT af ai aj ak au av aw ab az am aA
         refine KR (.bool false) 23 false 47 rfl rfl rfl rfl rfl (LW rfl rfl rfl rr) (KJ (.bool false) rfl rfl (Lb rfl rfl rfl rr) (KJ (.bool false) rfl rfl (KQ rfl rfl rr) (KR (.agg #[iv (h.W),iv (h.H),h0,h1,h2]) 28 false 52 rfl rfl rfl rfl rfl (KU K3 rfl an cX rr) (LA (R:=fun v_ w_=>v_ = .bool false/\KP (fun _=>False) iw w_) 28 false 52 rfl rfl rfl rfl rfl (LE rfl rfl rfl (fun _ _=>by kernel_rfl) (K4 _) (Lm rfl LS) (MT h h0 h1 h2 T_h0 T_h1 T_h2 _  cU cV cW ) (fun e_ w_ h_=>⟨_,h_.1,(congrArg Value.bool bS),h_.2⟩)) ?_))))
         rintro _ qL ⟨rfl,cY⟩
         obtain⟨iF,iG,iH,iI,iJ,iK,iL,iM,iN,iO,iP⟩:=Oa cY iy iz iA iB cU cV cW iC iD iE cX
         refine KR (.bool true) 28 false 52 rfl rfl rfl rfl rfl (LW rfl rfl rfl rr) (KJ (.bool true) rfl rfl (Lb rfl rfl rfl rr) (KO ?_))
         have iQ:=La (.bool true)
         exact⟨iQ.trans (congrArg Value.bool (show true=decide (NT W H\/1000<l.length\/M8 g=false\/M8 h=false) from (by rw[Bool.eq_iff_iff,decide_eq_true_iff];unfold NT;first|(simp[*];done)|(simp[*];omega)|(simp_all;done)|(simp_all;omega)))),ae,ao,ap,aa,ar,ah,an,aC,aq,((aB.tr cT).tr cY),iF,iG,iH,iI,iJ,iK,iL,iM,iN,iO,iP⟩
       ·skip
        refine KI (KJ (pt p1 0) rfl rfl (KT (n:=1) rfl aa Tryz.underlying23 rfl (by kernel_rfl) (by decide) rfl rr) (KJ (iv W) rfl rfl (KV rfl rfl Tryz.underlying3 ab rfl rfl rr) (KJ (.bool true) rfl rfl (Ms rfl rfl rfl (decide_eq_true aD) rr) (KJ (.bool true) rfl rfl (KQ rfl rfl rr) (KR (pt p1 0) 3 true 27 rfl rfl rfl rfl rfl (KT (n:=1) rfl aa Tryz.underlying23 rfl (by kernel_rfl) (by decide) rfl rr) (KR (iv W) 3 true 27 rfl rfl rfl rfl rfl (KV rfl rfl Tryz.underlying3 ab rfl rfl rr) (KR (.bool false) 3 true 27 rfl rfl rfl rfl rfl (Nf rfl rfl rfl (decide_eq_false aN) rr) (KJ (.bool false) rfl rfl (Lg rfl rfl rfl rr) (KJ (.bool false) rfl rfl (KQ rfl rfl rr) (KR (pt p1 1) 8 false 32 rfl rfl rfl rfl rfl (KT (n:=1) rfl aa Tryz.underlying23 rfl (by kernel_rfl) (by decide) rfl rr) (KR (iv H) 8 false 32 rfl rfl rfl rfl rfl (KV rfl rfl Tryz.underlying3 ab rfl rfl rr) ?_)))))))))))
        refine KR (.bool true) 8 false 32 rfl rfl rfl rfl rfl (Ms rfl rfl rfl (decide_eq_true aS) rr) (KR (.bool true) 8 false 32 rfl rfl rfl rfl rfl (KQ rfl rfl rr) (KR (pt p1 1) 12 true 36 rfl rfl rfl rfl rfl (KT (n:=1) rfl aa Tryz.underlying23 rfl (by kernel_rfl) (by decide) rfl rr) (KR (iv H) 12 true 36 rfl rfl rfl rfl rfl (KV rfl rfl Tryz.underlying3 ab rfl rfl rr) (KR (.bool false) 12 true 36 rfl rfl rfl rfl rfl (Nf rfl rfl rfl (decide_eq_false bj) rr) (KR (.bool false) 8 false 32 rfl rfl rfl rfl rfl (Lg rfl rfl rfl rr) (KJ (.bool false) rfl rfl (Lb rfl rfl rfl rr) (KJ (.bool false) rfl rfl (KQ rfl rfl rr) (KR v 18 false 42 rfl rfl rfl rfl rfl (KQ rfl ae rr) (KR (iv ((l.length:Nat):Int)) 18 false 42 rfl rfl rfl rfl rfl (M3 rfl rfl rfl af rr) (KR (.bool false) 18 false 42 rfl rfl rfl rfl rfl (Ms rfl rfl rfl (decide_eq_false bz) rr) (KJ (.bool false) rfl rfl (Lb rfl rfl rfl rr) ?_)))))))))))
        refine KJ (.bool false) rfl rfl (KQ rfl rfl rr) (KR (.agg #[iv (g.W),iv (g.H),g0,g1,g2]) 23 false 47 rfl rfl rfl rfl rfl (KU K3 rfl ah am rr) (LA (R:=fun v_ w_=>v_ = .bool false/\KP (fun _=>False) aM w_) 23 false 47 rfl rfl rfl rfl rfl (LE rfl rfl rfl (fun _ _=>by kernel_rfl) (K4 _) (Lm rfl LS) (MT g g0 g1 g2 T_g0 T_g1 T_g2 _  ai aj ak ) (fun e_ w_ h_=>⟨_,h_.1,(congrArg Value.bool bA),h_.2⟩)) ?_))
        rintro _ qM ⟨rfl,cZ⟩
        obtain⟨iR,iS,iT,iU,iV,iW,iX,iY,iZ,ja,jb⟩:=Oa cZ af ai aj ak au av aw ab az am aA
        refine KR (.bool true) 23 false 47 rfl rfl rfl rfl rfl (LW rfl rfl rfl rr) (KJ (.bool true) rfl rfl (Lb rfl rfl rfl rr) (KJ (.bool true) rfl rfl (KQ rfl rfl rr) (KL 28 false 52 rfl rfl rfl (Or.inl rfl) rfl (KL 28 false 52 rfl rfl rfl (Or.inl rfl) rfl (KL 28 false 52 rfl rfl rfl (Or.inl rfl) rfl (KJ (.bool true) rfl rfl (Lg rfl rfl rfl rr) (KO ?_)))))))
        have jc:=La (.bool true)
        exact⟨jc.trans (congrArg Value.bool (show true=decide (NT W H\/1000<l.length\/M8 g=false\/M8 h=false) from (by rw[Bool.eq_iff_iff,decide_eq_true_iff];unfold NT;first|(simp[*];done)|(simp[*];omega)|(simp_all;done)|(simp_all;omega)))),ae,ao,ap,aa,ar,ah,an,aC,aq,(aB.tr cZ),iR,iS,iT,iU,iV,iW,iX,iY,iZ,ja,jb⟩
    ·skip
     by_cases bB:1000<((l.length:Nat):Int)
     ·skip
      refine KI (KJ (pt p1 0) rfl rfl (KT (n:=1) rfl aa Tryz.underlying23 rfl (by kernel_rfl) (by decide) rfl rr) (KJ (iv W) rfl rfl (KV rfl rfl Tryz.underlying3 ab rfl rfl rr) (KJ (.bool true) rfl rfl (Ms rfl rfl rfl (decide_eq_true aD) rr) (KJ (.bool true) rfl rfl (KQ rfl rfl rr) (KR (pt p1 0) 3 true 27 rfl rfl rfl rfl rfl (KT (n:=1) rfl aa Tryz.underlying23 rfl (by kernel_rfl) (by decide) rfl rr) (KR (iv W) 3 true 27 rfl rfl rfl rfl rfl (KV rfl rfl Tryz.underlying3 ab rfl rfl rr) (KR (.bool false) 3 true 27 rfl rfl rfl rfl rfl (Nf rfl rfl rfl (decide_eq_false aN) rr) (KJ (.bool false) rfl rfl (Lg rfl rfl rfl rr) (KJ (.bool false) rfl rfl (KQ rfl rfl rr) (KR (pt p1 1) 8 false 32 rfl rfl rfl rfl rfl (KT (n:=1) rfl aa Tryz.underlying23 rfl (by kernel_rfl) (by decide) rfl rr) (KR (iv H) 8 false 32 rfl rfl rfl rfl rfl (KV rfl rfl Tryz.underlying3 ab rfl rfl rr) ?_)))))))))))
      refine KR (.bool false) 8 false 32 rfl rfl rfl rfl rfl (Ms rfl rfl rfl (decide_eq_false aS) rr) (KR (.bool false) 8 false 32 rfl rfl rfl rfl rfl (KQ rfl rfl rr) (KL 12 true 36 rfl rfl rfl (Or.inl rfl) rfl (KL 12 true 36 rfl rfl rfl (Or.inl rfl) rfl (KL 12 true 36 rfl rfl rfl (Or.inl rfl) rfl (KR (.bool false) 8 false 32 rfl rfl rfl rfl rfl (Lb rfl rfl rfl rr) (KJ (.bool false) rfl rfl (Lb rfl rfl rfl rr) (KJ (.bool false) rfl rfl (KQ rfl rfl rr) (KR v 18 false 42 rfl rfl rfl rfl rfl (KQ rfl ae rr) (KR (iv ((l.length:Nat):Int)) 18 false 42 rfl rfl rfl rfl rfl (M3 rfl rfl rfl af rr) (KR (.bool true) 18 false 42 rfl rfl rfl rfl rfl (Ms rfl rfl rfl (decide_eq_true bB) rr) (KJ (.bool true) rfl rfl (Lb rfl rfl rfl rr) ?_)))))))))))
      refine KJ (.bool true) rfl rfl (KQ rfl rfl rr) (KL 23 false 47 rfl rfl rfl (Or.inl rfl) rfl (KL 23 false 47 rfl rfl rfl (Or.inl rfl) rfl (KL 23 false 47 rfl rfl rfl (Or.inl rfl) rfl (KJ (.bool true) rfl rfl (Lg rfl rfl rfl rr) (KJ (.bool true) rfl rfl (KQ rfl rfl rr) (KL 28 false 52 rfl rfl rfl (Or.inl rfl) rfl (KL 28 false 52 rfl rfl rfl (Or.inl rfl) rfl (KL 28 false 52 rfl rfl rfl (Or.inl rfl) rfl (KJ (.bool true) rfl rfl (Lg rfl rfl rfl rr) (KO ?_))))))))))
      have jd:=La (.bool true)
      exact⟨jd.trans (congrArg Value.bool (show true=decide (NT W H\/1000<l.length\/M8 g=false\/M8 h=false) from (by rw[Bool.eq_iff_iff,decide_eq_true_iff];unfold NT;first|(simp[*];done)|(simp[*];omega)|(simp_all;done)|(simp_all;omega)))),ae,ao,ap,aa,ar,ah,an,aC,aq,aB,af,ai,aj,ak,au,av,aw,ab,az,am,aA⟩
     ·skip
      rcases Bool.eq_false_or_eq_true (M8 g) with bC|bC
      ·skip
       rcases Bool.eq_false_or_eq_true (M8 h) with bT|bT
       ·skip
        refine KI (KJ (pt p1 0) rfl rfl (KT (n:=1) rfl aa Tryz.underlying23 rfl (by kernel_rfl) (by decide) rfl rr) (KJ (iv W) rfl rfl (KV rfl rfl Tryz.underlying3 ab rfl rfl rr) (KJ (.bool true) rfl rfl (Ms rfl rfl rfl (decide_eq_true aD) rr) (KJ (.bool true) rfl rfl (KQ rfl rfl rr) (KR (pt p1 0) 3 true 27 rfl rfl rfl rfl rfl (KT (n:=1) rfl aa Tryz.underlying23 rfl (by kernel_rfl) (by decide) rfl rr) (KR (iv W) 3 true 27 rfl rfl rfl rfl rfl (KV rfl rfl Tryz.underlying3 ab rfl rfl rr) (KR (.bool false) 3 true 27 rfl rfl rfl rfl rfl (Nf rfl rfl rfl (decide_eq_false aN) rr) (KJ (.bool false) rfl rfl (Lg rfl rfl rfl rr) (KJ (.bool false) rfl rfl (KQ rfl rfl rr) (KR (pt p1 1) 8 false 32 rfl rfl rfl rfl rfl (KT (n:=1) rfl aa Tryz.underlying23 rfl (by kernel_rfl) (by decide) rfl rr) (KR (iv H) 8 false 32 rfl rfl rfl rfl rfl (KV rfl rfl Tryz.underlying3 ab rfl rfl rr) ?_)))))))))))
        refine KR (.bool false) 8 false 32 rfl rfl rfl rfl rfl (Ms rfl rfl rfl (decide_eq_false aS) rr) (KR (.bool false) 8 false 32 rfl rfl rfl rfl rfl (KQ rfl rfl rr) (KL 12 true 36 rfl rfl rfl (Or.inl rfl) rfl (KL 12 true 36 rfl rfl rfl (Or.inl rfl) rfl (KL 12 true 36 rfl rfl rfl (Or.inl rfl) rfl (KR (.bool false) 8 false 32 rfl rfl rfl rfl rfl (Lb rfl rfl rfl rr) (KJ (.bool false) rfl rfl (Lb rfl rfl rfl rr) (KJ (.bool false) rfl rfl (KQ rfl rfl rr) (KR v 18 false 42 rfl rfl rfl rfl rfl (KQ rfl ae rr) (KR (iv ((l.length:Nat):Int)) 18 false 42 rfl rfl rfl rfl rfl (M3 rfl rfl rfl af rr) (KR (.bool false) 18 false 42 rfl rfl rfl rfl rfl (Ms rfl rfl rfl (decide_eq_false bB) rr) (KJ (.bool false) rfl rfl (Lb rfl rfl rfl rr) ?_)))))))))))
        refine KJ (.bool false) rfl rfl (KQ rfl rfl rr) (KR (.agg #[iv (g.W),iv (g.H),g0,g1,g2]) 23 false 47 rfl rfl rfl rfl rfl (KU K3 rfl ah am rr) (LA (R:=fun v_ w_=>v_ = .bool true/\KP (fun _=>False) aM w_) 23 false 47 rfl rfl rfl rfl rfl (LE rfl rfl rfl (fun _ _=>by kernel_rfl) (K4 _) (Lm rfl LS) (MT g g0 g1 g2 T_g0 T_g1 T_g2 _  ai aj ak ) (fun e_ w_ h_=>⟨_,h_.1,(congrArg Value.bool bC),h_.2⟩)) ?_))
        rintro _ je ⟨rfl,c5⟩
        obtain⟨jf,jg,jh,ji,c6,c7,c9,jj,jk,jl,da⟩:=Oa c5 af ai aj ak au av aw ab az am aA
        refine KR (.bool false) 23 false 47 rfl rfl rfl rfl rfl (LW rfl rfl rfl rr) (KJ (.bool false) rfl rfl (Lb rfl rfl rfl rr) (KJ (.bool false) rfl rfl (KQ rfl rfl rr) (KR (.agg #[iv (h.W),iv (h.H),h0,h1,h2]) 28 false 52 rfl rfl rfl rfl rfl (KU K3 rfl an da rr) (LA (R:=fun v_ w_=>v_ = .bool true/\KP (fun _=>False) je w_) 28 false 52 rfl rfl rfl rfl rfl (LE rfl rfl rfl (fun _ _=>by kernel_rfl) (K4 _) (Lm rfl LS) (MT h h0 h1 h2 T_h0 T_h1 T_h2 _  c6 c7 c9 ) (fun e_ w_ h_=>⟨_,h_.1,(congrArg Value.bool bT),h_.2⟩)) ?_))))
        rintro _ qN ⟨rfl,db⟩
        obtain⟨jm,jn,jo,jp,jq,jr,js,jt,ju,jv,jw⟩:=Oa db jf jg jh ji c6 c7 c9 jj jk jl da
        refine KR (.bool false) 28 false 52 rfl rfl rfl rfl rfl (LW rfl rfl rfl rr) (KJ (.bool false) rfl rfl (Lb rfl rfl rfl rr) (KO ?_))
        have jx:=La (.bool false)
        exact⟨jx.trans (congrArg Value.bool (show false=decide (NT W H\/1000<l.length\/M8 g=false\/M8 h=false) from (by rw[Bool.eq_iff_iff,decide_eq_true_iff];unfold NT;first|(simp[*];done)|(simp[*];omega)|(simp_all;done)|(simp_all;omega)))),ae,ao,ap,aa,ar,ah,an,aC,aq,((aB.tr c5).tr db),jm,jn,jo,jp,jq,jr,js,jt,ju,jv,jw⟩
       ·skip
        refine KI (KJ (pt p1 0) rfl rfl (KT (n:=1) rfl aa Tryz.underlying23 rfl (by kernel_rfl) (by decide) rfl rr) (KJ (iv W) rfl rfl (KV rfl rfl Tryz.underlying3 ab rfl rfl rr) (KJ (.bool true) rfl rfl (Ms rfl rfl rfl (decide_eq_true aD) rr) (KJ (.bool true) rfl rfl (KQ rfl rfl rr) (KR (pt p1 0) 3 true 27 rfl rfl rfl rfl rfl (KT (n:=1) rfl aa Tryz.underlying23 rfl (by kernel_rfl) (by decide) rfl rr) (KR (iv W) 3 true 27 rfl rfl rfl rfl rfl (KV rfl rfl Tryz.underlying3 ab rfl rfl rr) (KR (.bool false) 3 true 27 rfl rfl rfl rfl rfl (Nf rfl rfl rfl (decide_eq_false aN) rr) (KJ (.bool false) rfl rfl (Lg rfl rfl rfl rr) (KJ (.bool false) rfl rfl (KQ rfl rfl rr) (KR (pt p1 1) 8 false 32 rfl rfl rfl rfl rfl (KT (n:=1) rfl aa Tryz.underlying23 rfl (by kernel_rfl) (by decide) rfl rr) (KR (iv H) 8 false 32 rfl rfl rfl rfl rfl (KV rfl rfl Tryz.underlying3 ab rfl rfl rr) ?_)))))))))))
        refine KR (.bool false) 8 false 32 rfl rfl rfl rfl rfl (Ms rfl rfl rfl (decide_eq_false aS) rr) (KR (.bool false) 8 false 32 rfl rfl rfl rfl rfl (KQ rfl rfl rr) (KL 12 true 36 rfl rfl rfl (Or.inl rfl) rfl (KL 12 true 36 rfl rfl rfl (Or.inl rfl) rfl (KL 12 true 36 rfl rfl rfl (Or.inl rfl) rfl (KR (.bool false) 8 false 32 rfl rfl rfl rfl rfl (Lb rfl rfl rfl rr) (KJ (.bool false) rfl rfl (Lb rfl rfl rfl rr) (KJ (.bool false) rfl rfl (KQ rfl rfl rr) (KR v 18 false 42 rfl rfl rfl rfl rfl (KQ rfl ae rr) (KR (iv ((l.length:Nat):Int)) 18 false 42 rfl rfl rfl rfl rfl (M3 rfl rfl rfl af rr) (KR (.bool false) 18 false 42 rfl rfl rfl rfl rfl (Ms rfl rfl rfl (decide_eq_false bB) rr) (KJ (.bool false) rfl rfl (Lb rfl rfl rfl rr) ?_)))))))))))
        refine KJ (.bool false) rfl rfl (KQ rfl rfl rr) (KR (.agg #[iv (g.W),iv (g.H),g0,g1,g2]) 23 false 47 rfl rfl rfl rfl rfl (KU K3 rfl ah am rr) (LA (R:=fun v_ w_=>v_ = .bool true/\KP (fun _=>False) aM w_) 23 false 47 rfl rfl rfl rfl rfl (LE rfl rfl rfl (fun _ _=>by kernel_rfl) (K4 _) (Lm rfl LS) (MT g g0 g1 g2 T_g0 T_g1 T_g2 _  ai aj ak ) (fun e_ w_ h_=>⟨_,h_.1,(congrArg Value.bool bC),h_.2⟩)) ?_))
        rintro _ jy ⟨rfl,dc⟩
        obtain⟨jz,jA,jB,jC,dd,de,df,jD,jE,jF,dg⟩:=Oa dc af ai aj ak au av aw ab az am aA
        refine KR (.bool false) 23 false 47 rfl rfl rfl rfl rfl (LW rfl rfl rfl rr) (KJ (.bool false) rfl rfl (Lb rfl rfl rfl rr) (KJ (.bool false) rfl rfl (KQ rfl rfl rr) (KR (.agg #[iv (h.W),iv (h.H),h0,h1,h2]) 28 false 52 rfl rfl rfl rfl rfl (KU K3 rfl an dg rr) (LA (R:=fun v_ w_=>v_ = .bool false/\KP (fun _=>False) jy w_) 28 false 52 rfl rfl rfl rfl rfl (LE rfl rfl rfl (fun _ _=>by kernel_rfl) (K4 _) (Lm rfl LS) (MT h h0 h1 h2 T_h0 T_h1 T_h2 _  dd de df ) (fun e_ w_ h_=>⟨_,h_.1,(congrArg Value.bool bT),h_.2⟩)) ?_))))
        rintro _ qO ⟨rfl,dh⟩
        obtain⟨jG,jH,jI,jJ,jK,jL,jM,jN,jO,jP,jQ⟩:=Oa dh jz jA jB jC dd de df jD jE jF dg
        refine KR (.bool true) 28 false 52 rfl rfl rfl rfl rfl (LW rfl rfl rfl rr) (KJ (.bool true) rfl rfl (Lb rfl rfl rfl rr) (KO ?_))
        have jR:=La (.bool true)
        exact⟨jR.trans (congrArg Value.bool (show true=decide (NT W H\/1000<l.length\/M8 g=false\/M8 h=false) from (by rw[Bool.eq_iff_iff,decide_eq_true_iff];unfold NT;first|(simp[*];done)|(simp[*];omega)|(simp_all;done)|(simp_all;omega)))),ae,ao,ap,aa,ar,ah,an,aC,aq,((aB.tr dc).tr dh),jG,jH,jI,jJ,jK,jL,jM,jN,jO,jP,jQ⟩
      ·skip
       refine KI (KJ (pt p1 0) rfl rfl (KT (n:=1) rfl aa Tryz.underlying23 rfl (by kernel_rfl) (by decide) rfl rr) (KJ (iv W) rfl rfl (KV rfl rfl Tryz.underlying3 ab rfl rfl rr) (KJ (.bool true) rfl rfl (Ms rfl rfl rfl (decide_eq_true aD) rr) (KJ (.bool true) rfl rfl (KQ rfl rfl rr) (KR (pt p1 0) 3 true 27 rfl rfl rfl rfl rfl (KT (n:=1) rfl aa Tryz.underlying23 rfl (by kernel_rfl) (by decide) rfl rr) (KR (iv W) 3 true 27 rfl rfl rfl rfl rfl (KV rfl rfl Tryz.underlying3 ab rfl rfl rr) (KR (.bool false) 3 true 27 rfl rfl rfl rfl rfl (Nf rfl rfl rfl (decide_eq_false aN) rr) (KJ (.bool false) rfl rfl (Lg rfl rfl rfl rr) (KJ (.bool false) rfl rfl (KQ rfl rfl rr) (KR (pt p1 1) 8 false 32 rfl rfl rfl rfl rfl (KT (n:=1) rfl aa Tryz.underlying23 rfl (by kernel_rfl) (by decide) rfl rr) (KR (iv H) 8 false 32 rfl rfl rfl rfl rfl (KV rfl rfl Tryz.underlying3 ab rfl rfl rr) ?_)))))))))))
       refine KR (.bool false) 8 false 32 rfl rfl rfl rfl rfl (Ms rfl rfl rfl (decide_eq_false aS) rr) (KR (.bool false) 8 false 32 rfl rfl rfl rfl rfl (KQ rfl rfl rr) (KL 12 true 36 rfl rfl rfl (Or.inl rfl) rfl (KL 12 true 36 rfl rfl rfl (Or.inl rfl) rfl (KL 12 true 36 rfl rfl rfl (Or.inl rfl) rfl (KR (.bool false) 8 false 32 rfl rfl rfl rfl rfl (Lb rfl rfl rfl rr) (KJ (.bool false) rfl rfl (Lb rfl rfl rfl rr) (KJ (.bool false) rfl rfl (KQ rfl rfl rr) (KR v 18 false 42 rfl rfl rfl rfl rfl (KQ rfl ae rr) (KR (iv ((l.length:Nat):Int)) 18 false 42 rfl rfl rfl rfl rfl (M3 rfl rfl rfl af rr) (KR (.bool false) 18 false 42 rfl rfl rfl rfl rfl (Ms rfl rfl rfl (decide_eq_false bB) rr) (KJ (.bool false) rfl rfl (Lb rfl rfl rfl rr) ?_)))))))))))
       refine KJ (.bool false) rfl rfl (KQ rfl rfl rr) (KR (.agg #[iv (g.W),iv (g.H),g0,g1,g2]) 23 false 47 rfl rfl rfl rfl rfl (KU K3 rfl ah am rr) (LA (R:=fun v_ w_=>v_ = .bool false/\KP (fun _=>False) aM w_) 23 false 47 rfl rfl rfl rfl rfl (LE rfl rfl rfl (fun _ _=>by kernel_rfl) (K4 _) (Lm rfl LS) (MT g g0 g1 g2 T_g0 T_g1 T_g2 _  ai aj ak ) (fun e_ w_ h_=>⟨_,h_.1,(congrArg Value.bool bC),h_.2⟩)) ?_))
       rintro _ qP ⟨rfl,di⟩
       obtain⟨jS,jT,jU,jV,jW,jX,jY,jZ,j0,j1,j2⟩:=Oa di af ai aj ak au av aw ab az am aA
       refine KR (.bool true) 23 false 47 rfl rfl rfl rfl rfl (LW rfl rfl rfl rr) (KJ (.bool true) rfl rfl (Lb rfl rfl rfl rr) (KJ (.bool true) rfl rfl (KQ rfl rfl rr) (KL 28 false 52 rfl rfl rfl (Or.inl rfl) rfl (KL 28 false 52 rfl rfl rfl (Or.inl rfl) rfl (KL 28 false 52 rfl rfl rfl (Or.inl rfl) rfl (KJ (.bool true) rfl rfl (Lg rfl rfl rfl rr) (KO ?_)))))))
       have j3:=La (.bool true)
       exact⟨j3.trans (congrArg Value.bool (show true=decide (NT W H\/1000<l.length\/M8 g=false\/M8 h=false) from (by rw[Bool.eq_iff_iff,decide_eq_true_iff];unfold NT;first|(simp[*];done)|(simp[*];omega)|(simp_all;done)|(simp_all;omega)))),ae,ao,ap,aa,ar,ah,an,aC,aq,(aB.tr di),jS,jT,jU,jV,jW,jX,jY,jZ,j0,j1,j2⟩
  ·skip
   by_cases aT:16<H
   ·skip
    by_cases bl:H<=64
    ·skip
     refine KI (KJ (pt p1 0) rfl rfl (KT (n:=1) rfl aa Tryz.underlying23 rfl (by kernel_rfl) (by decide) rfl rr) (KJ (iv W) rfl rfl (KV rfl rfl Tryz.underlying3 ab rfl rfl rr) (KJ (.bool false) rfl rfl (Ms rfl rfl rfl (decide_eq_false aD) rr) (KJ (.bool false) rfl rfl (KQ rfl rfl rr) (KL 3 true 27 rfl rfl rfl (Or.inl rfl) rfl (KL 3 true 27 rfl rfl rfl (Or.inl rfl) rfl (KL 3 true 27 rfl rfl rfl (Or.inl rfl) rfl (KJ (.bool false) rfl rfl (Lb rfl rfl rfl rr) (KJ (.bool false) rfl rfl (KQ rfl rfl rr) (KR (pt p1 1) 8 false 32 rfl rfl rfl rfl rfl (KT (n:=1) rfl aa Tryz.underlying23 rfl (by kernel_rfl) (by decide) rfl rr) (KR (iv H) 8 false 32 rfl rfl rfl rfl rfl (KV rfl rfl Tryz.underlying3 ab rfl rfl rr) ?_)))))))))))
     refine KR (.bool true) 8 false 32 rfl rfl rfl rfl rfl (Ms rfl rfl rfl (decide_eq_true aT) rr) (KR (.bool true) 8 false 32 rfl rfl rfl rfl rfl (KQ rfl rfl rr) (KR (pt p1 1) 12 true 36 rfl rfl rfl rfl rfl (KT (n:=1) rfl aa Tryz.underlying23 rfl (by kernel_rfl) (by decide) rfl rr) (KR (iv H) 12 true 36 rfl rfl rfl rfl rfl (KV rfl rfl Tryz.underlying3 ab rfl rfl rr) (KR (.bool true) 12 true 36 rfl rfl rfl rfl rfl (Nf rfl rfl rfl (decide_eq_true bl) rr) (KR (.bool true) 8 false 32 rfl rfl rfl rfl rfl (Lg rfl rfl rfl rr) (KJ (.bool true) rfl rfl (Lb rfl rfl rfl rr) (KJ (.bool true) rfl rfl (KQ rfl rfl rr) (KL 18 false 42 rfl rfl rfl (Or.inl rfl) rfl (KL 18 false 42 rfl rfl rfl (Or.inl rfl) rfl (KL 18 false 42 rfl rfl rfl (Or.inl rfl) rfl (KJ (.bool true) rfl rfl (Lg rfl rfl rfl rr) ?_)))))))))))
     refine KJ (.bool true) rfl rfl (KQ rfl rfl rr) (KL 23 false 47 rfl rfl rfl (Or.inl rfl) rfl (KL 23 false 47 rfl rfl rfl (Or.inl rfl) rfl (KL 23 false 47 rfl rfl rfl (Or.inl rfl) rfl (KJ (.bool true) rfl rfl (Lg rfl rfl rfl rr) (KJ (.bool true) rfl rfl (KQ rfl rfl rr) (KL 28 false 52 rfl rfl rfl (Or.inl rfl) rfl (KL 28 false 52 rfl rfl rfl (Or.inl rfl) rfl (KL 28 false 52 rfl rfl rfl (Or.inl rfl) rfl (KJ (.bool true) rfl rfl (Lg rfl rfl rfl rr) (KO ?_))))))))))
     have j4:=La (.bool true)
     exact⟨j4.trans (congrArg Value.bool (show true=decide (NT W H\/1000<l.length\/M8 g=false\/M8 h=false) from (by rw[Bool.eq_iff_iff,decide_eq_true_iff];unfold NT;first|(simp[*];done)|(simp[*];omega)|(simp_all;done)|(simp_all;omega)))),ae,ao,ap,aa,ar,ah,an,aC,aq,aB,af,ai,aj,ak,au,av,aw,ab,az,am,aA⟩
    ·skip
     by_cases bD:1000<((l.length:Nat):Int)
     ·skip
      refine KI (KJ (pt p1 0) rfl rfl (KT (n:=1) rfl aa Tryz.underlying23 rfl (by kernel_rfl) (by decide) rfl rr) (KJ (iv W) rfl rfl (KV rfl rfl Tryz.underlying3 ab rfl rfl rr) (KJ (.bool false) rfl rfl (Ms rfl rfl rfl (decide_eq_false aD) rr) (KJ (.bool false) rfl rfl (KQ rfl rfl rr) (KL 3 true 27 rfl rfl rfl (Or.inl rfl) rfl (KL 3 true 27 rfl rfl rfl (Or.inl rfl) rfl (KL 3 true 27 rfl rfl rfl (Or.inl rfl) rfl (KJ (.bool false) rfl rfl (Lb rfl rfl rfl rr) (KJ (.bool false) rfl rfl (KQ rfl rfl rr) (KR (pt p1 1) 8 false 32 rfl rfl rfl rfl rfl (KT (n:=1) rfl aa Tryz.underlying23 rfl (by kernel_rfl) (by decide) rfl rr) (KR (iv H) 8 false 32 rfl rfl rfl rfl rfl (KV rfl rfl Tryz.underlying3 ab rfl rfl rr) ?_)))))))))))
      refine KR (.bool true) 8 false 32 rfl rfl rfl rfl rfl (Ms rfl rfl rfl (decide_eq_true aT) rr) (KR (.bool true) 8 false 32 rfl rfl rfl rfl rfl (KQ rfl rfl rr) (KR (pt p1 1) 12 true 36 rfl rfl rfl rfl rfl (KT (n:=1) rfl aa Tryz.underlying23 rfl (by kernel_rfl) (by decide) rfl rr) (KR (iv H) 12 true 36 rfl rfl rfl rfl rfl (KV rfl rfl Tryz.underlying3 ab rfl rfl rr) (KR (.bool false) 12 true 36 rfl rfl rfl rfl rfl (Nf rfl rfl rfl (decide_eq_false bl) rr) (KR (.bool false) 8 false 32 rfl rfl rfl rfl rfl (Lg rfl rfl rfl rr) (KJ (.bool false) rfl rfl (Lb rfl rfl rfl rr) (KJ (.bool false) rfl rfl (KQ rfl rfl rr) (KR v 18 false 42 rfl rfl rfl rfl rfl (KQ rfl ae rr) (KR (iv ((l.length:Nat):Int)) 18 false 42 rfl rfl rfl rfl rfl (M3 rfl rfl rfl af rr) (KR (.bool true) 18 false 42 rfl rfl rfl rfl rfl (Ms rfl rfl rfl (decide_eq_true bD) rr) (KJ (.bool true) rfl rfl (Lb rfl rfl rfl rr) ?_)))))))))))
      refine KJ (.bool true) rfl rfl (KQ rfl rfl rr) (KL 23 false 47 rfl rfl rfl (Or.inl rfl) rfl (KL 23 false 47 rfl rfl rfl (Or.inl rfl) rfl (KL 23 false 47 rfl rfl rfl (Or.inl rfl) rfl (KJ (.bool true) rfl rfl (Lg rfl rfl rfl rr) (KJ (.bool true) rfl rfl (KQ rfl rfl rr) (KL 28 false 52 rfl rfl rfl (Or.inl rfl) rfl (KL 28 false 52 rfl rfl rfl (Or.inl rfl) rfl (KL 28 false 52 rfl rfl rfl (Or.inl rfl) rfl (KJ (.bool true) rfl rfl (Lg rfl rfl rfl rr) (KO ?_))))))))))
      have j5:=La (.bool true)
      exact⟨j5.trans (congrArg Value.bool (show true=decide (NT W H\/1000<l.length\/M8 g=false\/M8 h=false) from (by rw[Bool.eq_iff_iff,decide_eq_true_iff];unfold NT;first|(simp[*];done)|(simp[*];omega)|(simp_all;done)|(simp_all;omega)))),ae,ao,ap,aa,ar,ah,an,aC,aq,aB,af,ai,aj,ak,au,av,aw,ab,az,am,aA⟩
     ·skip
      rcases Bool.eq_false_or_eq_true (M8 g) with bE|bE
      ·skip
       rcases Bool.eq_false_or_eq_true (M8 h) with bU|bU
       ·skip
        refine KI (KJ (pt p1 0) rfl rfl (KT (n:=1) rfl aa Tryz.underlying23 rfl (by kernel_rfl) (by decide) rfl rr) (KJ (iv W) rfl rfl (KV rfl rfl Tryz.underlying3 ab rfl rfl rr) (KJ (.bool false) rfl rfl (Ms rfl rfl rfl (decide_eq_false aD) rr) (KJ (.bool false) rfl rfl (KQ rfl rfl rr) (KL 3 true 27 rfl rfl rfl (Or.inl rfl) rfl (KL 3 true 27 rfl rfl rfl (Or.inl rfl) rfl (KL 3 true 27 rfl rfl rfl (Or.inl rfl) rfl (KJ (.bool false) rfl rfl (Lb rfl rfl rfl rr) (KJ (.bool false) rfl rfl (KQ rfl rfl rr) (KR (pt p1 1) 8 false 32 rfl rfl rfl rfl rfl (KT (n:=1) rfl aa Tryz.underlying23 rfl (by kernel_rfl) (by decide) rfl rr) (KR (iv H) 8 false 32 rfl rfl rfl rfl rfl (KV rfl rfl Tryz.underlying3 ab rfl rfl rr) ?_)))))))))))
        refine KR (.bool true) 8 false 32 rfl rfl rfl rfl rfl (Ms rfl rfl rfl (decide_eq_true aT) rr) (KR (.bool true) 8 false 32 rfl rfl rfl rfl rfl (KQ rfl rfl rr) (KR (pt p1 1) 12 true 36 rfl rfl rfl rfl rfl (KT (n:=1) rfl aa Tryz.underlying23 rfl (by kernel_rfl) (by decide) rfl rr) (KR (iv H) 12 true 36 rfl rfl rfl rfl rfl (KV rfl rfl Tryz.underlying3 ab rfl rfl rr) (KR (.bool false) 12 true 36 rfl rfl rfl rfl rfl (Nf rfl rfl rfl (decide_eq_false bl) rr) (KR (.bool false) 8 false 32 rfl rfl rfl rfl rfl (Lg rfl rfl rfl rr) (KJ (.bool false) rfl rfl (Lb rfl rfl rfl rr) (KJ (.bool false) rfl rfl (KQ rfl rfl rr) (KR v 18 false 42 rfl rfl rfl rfl rfl (KQ rfl ae rr) (KR (iv ((l.length:Nat):Int)) 18 false 42 rfl rfl rfl rfl rfl (M3 rfl rfl rfl af rr) (KR (.bool false) 18 false 42 rfl rfl rfl rfl rfl (Ms rfl rfl rfl (decide_eq_false bD) rr) (KJ (.bool false) rfl rfl (Lb rfl rfl rfl rr) ?_)))))))))))
        refine KJ (.bool false) rfl rfl (KQ rfl rfl rr) (KR (.agg #[iv (g.W),iv (g.H),g0,g1,g2]) 23 false 47 rfl rfl rfl rfl rfl (KU K3 rfl ah am rr) (LA (R:=fun v_ w_=>v_ = .bool true/\KP (fun _=>False) aM w_) 23 false 47 rfl rfl rfl rfl rfl (LE rfl rfl rfl (fun _ _=>by kernel_rfl) (K4 _) (Lm rfl LS) (MT g g0 g1 g2 T_g0 T_g1 T_g2 _  ai aj ak ) (fun e_ w_ h_=>⟨_,h_.1,(congrArg Value.bool bE),h_.2⟩)) ?_))
        rintro _ j6 ⟨rfl,dj⟩
        obtain⟨j7,j8,j9,ka,dk,dl,dm,kb,kd,ke,dn⟩:=Oa dj af ai aj ak au av aw ab az am aA
        refine KR (.bool false) 23 false 47 rfl rfl rfl rfl rfl (LW rfl rfl rfl rr) (KJ (.bool false) rfl rfl (Lb rfl rfl rfl rr) (KJ (.bool false) rfl rfl (KQ rfl rfl rr) (KR (.agg #[iv (h.W),iv (h.H),h0,h1,h2]) 28 false 52 rfl rfl rfl rfl rfl (KU K3 rfl an dn rr) (LA (R:=fun v_ w_=>v_ = .bool true/\KP (fun _=>False) j6 w_) 28 false 52 rfl rfl rfl rfl rfl (LE rfl rfl rfl (fun _ _=>by kernel_rfl) (K4 _) (Lm rfl LS) (MT h h0 h1 h2 T_h0 T_h1 T_h2 _  dk dl dm ) (fun e_ w_ h_=>⟨_,h_.1,(congrArg Value.bool bU),h_.2⟩)) ?_))))
        rintro _ qQ ⟨rfl,dp⟩
        obtain⟨kf,kg,ki,kj,kn,ko,kp,kq,kr,ks,kt⟩:=Oa dp j7 j8 j9 ka dk dl dm kb kd ke dn
        refine KR (.bool false) 28 false 52 rfl rfl rfl rfl rfl (LW rfl rfl rfl rr) (KJ (.bool false) rfl rfl (Lb rfl rfl rfl rr) (KO ?_))
        have ku:=La (.bool false)
        exact⟨ku.trans (congrArg Value.bool (show false=decide (NT W H\/1000<l.length\/M8 g=false\/M8 h=false) from (by rw[Bool.eq_iff_iff,decide_eq_true_iff];unfold NT;first|(simp[*];done)|(simp[*];omega)|(simp_all;done)|(simp_all;omega)))),ae,ao,ap,aa,ar,ah,an,aC,aq,((aB.tr dj).tr dp),kf,kg,ki,kj,kn,ko,kp,kq,kr,ks,kt⟩
       ·skip
        refine KI (KJ (pt p1 0) rfl rfl (KT (n:=1) rfl aa Tryz.underlying23 rfl (by kernel_rfl) (by decide) rfl rr) (KJ (iv W) rfl rfl (KV rfl rfl Tryz.underlying3 ab rfl rfl rr) (KJ (.bool false) rfl rfl (Ms rfl rfl rfl (decide_eq_false aD) rr) (KJ (.bool false) rfl rfl (KQ rfl rfl rr) (KL 3 true 27 rfl rfl rfl (Or.inl rfl) rfl (KL 3 true 27 rfl rfl rfl (Or.inl rfl) rfl (KL 3 true 27 rfl rfl rfl (Or.inl rfl) rfl (KJ (.bool false) rfl rfl (Lb rfl rfl rfl rr) (KJ (.bool false) rfl rfl (KQ rfl rfl rr) (KR (pt p1 1) 8 false 32 rfl rfl rfl rfl rfl (KT (n:=1) rfl aa Tryz.underlying23 rfl (by kernel_rfl) (by decide) rfl rr) (KR (iv H) 8 false 32 rfl rfl rfl rfl rfl (KV rfl rfl Tryz.underlying3 ab rfl rfl rr) ?_)))))))))))
        refine KR (.bool true) 8 false 32 rfl rfl rfl rfl rfl (Ms rfl rfl rfl (decide_eq_true aT) rr) (KR (.bool true) 8 false 32 rfl rfl rfl rfl rfl (KQ rfl rfl rr) (KR (pt p1 1) 12 true 36 rfl rfl rfl rfl rfl (KT (n:=1) rfl aa Tryz.underlying23 rfl (by kernel_rfl) (by decide) rfl rr) (KR (iv H) 12 true 36 rfl rfl rfl rfl rfl (KV rfl rfl Tryz.underlying3 ab rfl rfl rr) (KR (.bool false) 12 true 36 rfl rfl rfl rfl rfl (Nf rfl rfl rfl (decide_eq_false bl) rr) (KR (.bool false) 8 false 32 rfl rfl rfl rfl rfl (Lg rfl rfl rfl rr) (KJ (.bool false) rfl rfl (Lb rfl rfl rfl rr) (KJ (.bool false) rfl rfl (KQ rfl rfl rr) (KR v 18 false 42 rfl rfl rfl rfl rfl (KQ rfl ae rr) (KR (iv ((l.length:Nat):Int)) 18 false 42 rfl rfl rfl rfl rfl (M3 rfl rfl rfl af rr) (KR (.bool false) 18 false 42 rfl rfl rfl rfl rfl (Ms rfl rfl rfl (decide_eq_false bD) rr) (KJ (.bool false) rfl rfl (Lb rfl rfl rfl rr) ?_)))))))))))
        refine KJ (.bool false) rfl rfl (KQ rfl rfl rr) (KR (.agg #[iv (g.W),iv (g.H),g0,g1,g2]) 23 false 47 rfl rfl rfl rfl rfl (KU K3 rfl ah am rr) (LA (R:=fun v_ w_=>v_ = .bool true/\KP (fun _=>False) aM w_) 23 false 47 rfl rfl rfl rfl rfl (LE rfl rfl rfl (fun _ _=>by kernel_rfl) (K4 _) (Lm rfl LS) (MT g g0 g1 g2 T_g0 T_g1 T_g2 _  ai aj ak ) (fun e_ w_ h_=>⟨_,h_.1,(congrArg Value.bool bE),h_.2⟩)) ?_))
        rintro _ kv ⟨rfl,dq⟩
        obtain⟨kw,kx,ky,kz,dr,dt,du,kA,kB,kC,dv⟩:=Oa dq af ai aj ak au av aw ab az am aA
        refine KR (.bool false) 23 false 47 rfl rfl rfl rfl rfl (LW rfl rfl rfl rr) (KJ (.bool false) rfl rfl (Lb rfl rfl rfl rr) (KJ (.bool false) rfl rfl (KQ rfl rfl rr) (KR (.agg #[iv (h.W),iv (h.H),h0,h1,h2]) 28 false 52 rfl rfl rfl rfl rfl (KU K3 rfl an dv rr) (LA (R:=fun v_ w_=>v_ = .bool false/\KP (fun _=>False) kv w_) 28 false 52 rfl rfl rfl rfl rfl (LE rfl rfl rfl (fun _ _=>by kernel_rfl) (K4 _) (Lm rfl LS) (MT h h0 h1 h2 T_h0 T_h1 T_h2 _  dr dt du ) (fun e_ w_ h_=>⟨_,h_.1,(congrArg Value.bool bU),h_.2⟩)) ?_))))
        rintro _ qR ⟨rfl,dw⟩
        obtain⟨kD,kE,kF,kG,kH,kI,kJ,kK,kL,kM,kN⟩:=Oa dw kw kx ky kz dr dt du kA kB kC dv
        refine KR (.bool true) 28 false 52 rfl rfl rfl rfl rfl (LW rfl rfl rfl rr) (KJ (.bool true) rfl rfl (Lb rfl rfl rfl rr) (KO ?_))
        have kO:=La (.bool true)
        exact⟨kO.trans (congrArg Value.bool (show true=decide (NT W H\/1000<l.length\/M8 g=false\/M8 h=false) from (by rw[Bool.eq_iff_iff,decide_eq_true_iff];unfold NT;first|(simp[*];done)|(simp[*];omega)|(simp_all;done)|(simp_all;omega)))),ae,ao,ap,aa,ar,ah,an,aC,aq,((aB.tr dq).tr dw),kD,kE,kF,kG,kH,kI,kJ,kK,kL,kM,kN⟩
      ·skip
       refine KI (KJ (pt p1 0) rfl rfl (KT (n:=1) rfl aa Tryz.underlying23 rfl (by kernel_rfl) (by decide) rfl rr) (KJ (iv W) rfl rfl (KV rfl rfl Tryz.underlying3 ab rfl rfl rr) (KJ (.bool false) rfl rfl (Ms rfl rfl rfl (decide_eq_false aD) rr) (KJ (.bool false) rfl rfl (KQ rfl rfl rr) (KL 3 true 27 rfl rfl rfl (Or.inl rfl) rfl (KL 3 true 27 rfl rfl rfl (Or.inl rfl) rfl (KL 3 true 27 rfl rfl rfl (Or.inl rfl) rfl (KJ (.bool false) rfl rfl (Lb rfl rfl rfl rr) (KJ (.bool false) rfl rfl (KQ rfl rfl rr) (KR (pt p1 1) 8 false 32 rfl rfl rfl rfl rfl (KT (n:=1) rfl aa Tryz.underlying23 rfl (by kernel_rfl) (by decide) rfl rr) (KR (iv H) 8 false 32 rfl rfl rfl rfl rfl (KV rfl rfl Tryz.underlying3 ab rfl rfl rr) ?_)))))))))))
       refine KR (.bool true) 8 false 32 rfl rfl rfl rfl rfl (Ms rfl rfl rfl (decide_eq_true aT) rr) (KR (.bool true) 8 false 32 rfl rfl rfl rfl rfl (KQ rfl rfl rr) (KR (pt p1 1) 12 true 36 rfl rfl rfl rfl rfl (KT (n:=1) rfl aa Tryz.underlying23 rfl (by kernel_rfl) (by decide) rfl rr) (KR (iv H) 12 true 36 rfl rfl rfl rfl rfl (KV rfl rfl Tryz.underlying3 ab rfl rfl rr) (KR (.bool false) 12 true 36 rfl rfl rfl rfl rfl (Nf rfl rfl rfl (decide_eq_false bl) rr) (KR (.bool false) 8 false 32 rfl rfl rfl rfl rfl (Lg rfl rfl rfl rr) (KJ (.bool false) rfl rfl (Lb rfl rfl rfl rr) (KJ (.bool false) rfl rfl (KQ rfl rfl rr) (KR v 18 false 42 rfl rfl rfl rfl rfl (KQ rfl ae rr) (KR (iv ((l.length:Nat):Int)) 18 false 42 rfl rfl rfl rfl rfl (M3 rfl rfl rfl af rr) (KR (.bool false) 18 false 42 rfl rfl rfl rfl rfl (Ms rfl rfl rfl (decide_eq_false bD) rr) (KJ (.bool false) rfl rfl (Lb rfl rfl rfl rr) ?_)))))))))))
       refine KJ (.bool false) rfl rfl (KQ rfl rfl rr) (KR (.agg #[iv (g.W),iv (g.H),g0,g1,g2]) 23 false 47 rfl rfl rfl rfl rfl (KU K3 rfl ah am rr) (LA (R:=fun v_ w_=>v_ = .bool false/\KP (fun _=>False) aM w_) 23 false 47 rfl rfl rfl rfl rfl (LE rfl rfl rfl (fun _ _=>by kernel_rfl) (K4 _) (Lm rfl LS) (MT g g0 g1 g2 T_g0 T_g1 T_g2 _  ai aj ak ) (fun e_ w_ h_=>⟨_,h_.1,(congrArg Value.bool bE),h_.2⟩)) ?_))
       rintro _ qS ⟨rfl,dy⟩
       obtain⟨kP,kQ,kR,kS,kT,kU,kV,kW,kX,kY,kZ⟩:=Oa dy af ai aj ak au av aw ab az am aA
       refine KR (.bool true) 23 false 47 rfl rfl rfl rfl rfl (LW rfl rfl rfl rr) (KJ (.bool true) rfl rfl (Lb rfl rfl rfl rr) (KJ (.bool true) rfl rfl (KQ rfl rfl rr) (KL 28 false 52 rfl rfl rfl (Or.inl rfl) rfl (KL 28 false 52 rfl rfl rfl (Or.inl rfl) rfl (KL 28 false 52 rfl rfl rfl (Or.inl rfl) rfl (KJ (.bool true) rfl rfl (Lg rfl rfl rfl rr) (KO ?_)))))))
       have k8:=La (.bool true)
       exact⟨k8.trans (congrArg Value.bool (show true=decide (NT W H\/1000<l.length\/M8 g=false\/M8 h=false) from (by rw[Bool.eq_iff_iff,decide_eq_true_iff];unfold NT;first|(simp[*];done)|(simp[*];omega)|(simp_all;done)|(simp_all;omega)))),ae,ao,ap,aa,ar,ah,an,aC,aq,(aB.tr dy),kP,kQ,kR,kS,kT,kU,kV,kW,kX,kY,kZ⟩
   ·skip
    by_cases bF:1000<((l.length:Nat):Int)
    ·skip
     refine KI (KJ (pt p1 0) rfl rfl (KT (n:=1) rfl aa Tryz.underlying23 rfl (by kernel_rfl) (by decide) rfl rr) (KJ (iv W) rfl rfl (KV rfl rfl Tryz.underlying3 ab rfl rfl rr) (KJ (.bool false) rfl rfl (Ms rfl rfl rfl (decide_eq_false aD) rr) (KJ (.bool false) rfl rfl (KQ rfl rfl rr) (KL 3 true 27 rfl rfl rfl (Or.inl rfl) rfl (KL 3 true 27 rfl rfl rfl (Or.inl rfl) rfl (KL 3 true 27 rfl rfl rfl (Or.inl rfl) rfl (KJ (.bool false) rfl rfl (Lb rfl rfl rfl rr) (KJ (.bool false) rfl rfl (KQ rfl rfl rr) (KR (pt p1 1) 8 false 32 rfl rfl rfl rfl rfl (KT (n:=1) rfl aa Tryz.underlying23 rfl (by kernel_rfl) (by decide) rfl rr) (KR (iv H) 8 false 32 rfl rfl rfl rfl rfl (KV rfl rfl Tryz.underlying3 ab rfl rfl rr) ?_)))))))))))
     refine KR (.bool false) 8 false 32 rfl rfl rfl rfl rfl (Ms rfl rfl rfl (decide_eq_false aT) rr) (KR (.bool false) 8 false 32 rfl rfl rfl rfl rfl (KQ rfl rfl rr) (KL 12 true 36 rfl rfl rfl (Or.inl rfl) rfl (KL 12 true 36 rfl rfl rfl (Or.inl rfl) rfl (KL 12 true 36 rfl rfl rfl (Or.inl rfl) rfl (KR (.bool false) 8 false 32 rfl rfl rfl rfl rfl (Lb rfl rfl rfl rr) (KJ (.bool false) rfl rfl (Lb rfl rfl rfl rr) (KJ (.bool false) rfl rfl (KQ rfl rfl rr) (KR v 18 false 42 rfl rfl rfl rfl rfl (KQ rfl ae rr) (KR (iv ((l.length:Nat):Int)) 18 false 42 rfl rfl rfl rfl rfl (M3 rfl rfl rfl af rr) (KR (.bool true) 18 false 42 rfl rfl rfl rfl rfl (Ms rfl rfl rfl (decide_eq_true bF) rr) (KJ (.bool true) rfl rfl (Lb rfl rfl rfl rr) ?_)))))))))))
     refine KJ (.bool true) rfl rfl (KQ rfl rfl rr) (KL 23 false 47 rfl rfl rfl (Or.inl rfl) rfl (KL 23 false 47 rfl rfl rfl (Or.inl rfl) rfl (KL 23 false 47 rfl rfl rfl (Or.inl rfl) rfl (KJ (.bool true) rfl rfl (Lg rfl rfl rfl rr) (KJ (.bool true) rfl rfl (KQ rfl rfl rr) (KL 28 false 52 rfl rfl rfl (Or.inl rfl) rfl (KL 28 false 52 rfl rfl rfl (Or.inl rfl) rfl (KL 28 false 52 rfl rfl rfl (Or.inl rfl) rfl (KJ (.bool true) rfl rfl (Lg rfl rfl rfl rr) (KO ?_))))))))))
     have la:=La (.bool true)
     exact⟨la.trans (congrArg Value.bool (show true=decide (NT W H\/1000<l.length\/M8 g=false\/M8 h=false) from (by rw[Bool.eq_iff_iff,decide_eq_true_iff];unfold NT;first|(simp[*];done)|(simp[*];omega)|(simp_all;done)|(simp_all;omega)))),ae,ao,ap,aa,ar,ah,an,aC,aq,aB,af,ai,aj,ak,au,av,aw,ab,az,am,aA⟩
    ·skip
     rcases Bool.eq_false_or_eq_true (M8 g) with bG|bG
     ·skip
      rcases Bool.eq_false_or_eq_true (M8 h) with bV|bV
      ·skip
       refine KI (KJ (pt p1 0) rfl rfl (KT (n:=1) rfl aa Tryz.underlying23 rfl (by kernel_rfl) (by decide) rfl rr) (KJ (iv W) rfl rfl (KV rfl rfl Tryz.underlying3 ab rfl rfl rr) (KJ (.bool false) rfl rfl (Ms rfl rfl rfl (decide_eq_false aD) rr) (KJ (.bool false) rfl rfl (KQ rfl rfl rr) (KL 3 true 27 rfl rfl rfl (Or.inl rfl) rfl (KL 3 true 27 rfl rfl rfl (Or.inl rfl) rfl (KL 3 true 27 rfl rfl rfl (Or.inl rfl) rfl (KJ (.bool false) rfl rfl (Lb rfl rfl rfl rr) (KJ (.bool false) rfl rfl (KQ rfl rfl rr) (KR (pt p1 1) 8 false 32 rfl rfl rfl rfl rfl (KT (n:=1) rfl aa Tryz.underlying23 rfl (by kernel_rfl) (by decide) rfl rr) (KR (iv H) 8 false 32 rfl rfl rfl rfl rfl (KV rfl rfl Tryz.underlying3 ab rfl rfl rr) ?_)))))))))))
       refine KR (.bool false) 8 false 32 rfl rfl rfl rfl rfl (Ms rfl rfl rfl (decide_eq_false aT) rr) (KR (.bool false) 8 false 32 rfl rfl rfl rfl rfl (KQ rfl rfl rr) (KL 12 true 36 rfl rfl rfl (Or.inl rfl) rfl (KL 12 true 36 rfl rfl rfl (Or.inl rfl) rfl (KL 12 true 36 rfl rfl rfl (Or.inl rfl) rfl (KR (.bool false) 8 false 32 rfl rfl rfl rfl rfl (Lb rfl rfl rfl rr) (KJ (.bool false) rfl rfl (Lb rfl rfl rfl rr) (KJ (.bool false) rfl rfl (KQ rfl rfl rr) (KR v 18 false 42 rfl rfl rfl rfl rfl (KQ rfl ae rr) (KR (iv ((l.length:Nat):Int)) 18 false 42 rfl rfl rfl rfl rfl (M3 rfl rfl rfl af rr) (KR (.bool false) 18 false 42 rfl rfl rfl rfl rfl (Ms rfl rfl rfl (decide_eq_false bF) rr) (KJ (.bool false) rfl rfl (Lb rfl rfl rfl rr) ?_)))))))))))
       refine KJ (.bool false) rfl rfl (KQ rfl rfl rr) (KR (.agg #[iv (g.W),iv (g.H),g0,g1,g2]) 23 false 47 rfl rfl rfl rfl rfl (KU K3 rfl ah am rr) (LA (R:=fun v_ w_=>v_ = .bool true/\KP (fun _=>False) aM w_) 23 false 47 rfl rfl rfl rfl rfl (LE rfl rfl rfl (fun _ _=>by kernel_rfl) (K4 _) (Lm rfl LS) (MT g g0 g1 g2 T_g0 T_g1 T_g2 _  ai aj ak ) (fun e_ w_ h_=>⟨_,h_.1,(congrArg Value.bool bG),h_.2⟩)) ?_))
       rintro _ lc ⟨rfl,dz⟩
       obtain⟨ld,le,lf,lg,dA,dB,dC,lh,lj,lk,dD⟩:=Oa dz af ai aj ak au av aw ab az am aA
       refine KR (.bool false) 23 false 47 rfl rfl rfl rfl rfl (LW rfl rfl rfl rr) (KJ (.bool false) rfl rfl (Lb rfl rfl rfl rr) (KJ (.bool false) rfl rfl (KQ rfl rfl rr) (KR (.agg #[iv (h.W),iv (h.H),h0,h1,h2]) 28 false 52 rfl rfl rfl rfl rfl (KU K3 rfl an dD rr) (LA (R:=fun v_ w_=>v_ = .bool true/\KP (fun _=>False) lc w_) 28 false 52 rfl rfl rfl rfl rfl (LE rfl rfl rfl (fun _ _=>by kernel_rfl) (K4 _) (Lm rfl LS) (MT h h0 h1 h2 T_h0 T_h1 T_h2 _  dA dB dC ) (fun e_ w_ h_=>⟨_,h_.1,(congrArg Value.bool bV),h_.2⟩)) ?_))))
       rintro _ qT ⟨rfl,dE⟩
       obtain⟨ll,lm,ln,lp,lq,lr,lu,lv,lw,lx,ly⟩:=Oa dE ld le lf lg dA dB dC lh lj lk dD
       refine KR (.bool false) 28 false 52 rfl rfl rfl rfl rfl (LW rfl rfl rfl rr) (KJ (.bool false) rfl rfl (Lb rfl rfl rfl rr) (KO ?_))
       have lz:=La (.bool false)
       exact⟨lz.trans (congrArg Value.bool (show false=decide (NT W H\/1000<l.length\/M8 g=false\/M8 h=false) from (by rw[Bool.eq_iff_iff,decide_eq_true_iff];unfold NT;first|(simp[*];done)|(simp[*];omega)|(simp_all;done)|(simp_all;omega)))),ae,ao,ap,aa,ar,ah,an,aC,aq,((aB.tr dz).tr dE),ll,lm,ln,lp,lq,lr,lu,lv,lw,lx,ly⟩
      ·skip
       refine KI (KJ (pt p1 0) rfl rfl (KT (n:=1) rfl aa Tryz.underlying23 rfl (by kernel_rfl) (by decide) rfl rr) (KJ (iv W) rfl rfl (KV rfl rfl Tryz.underlying3 ab rfl rfl rr) (KJ (.bool false) rfl rfl (Ms rfl rfl rfl (decide_eq_false aD) rr) (KJ (.bool false) rfl rfl (KQ rfl rfl rr) (KL 3 true 27 rfl rfl rfl (Or.inl rfl) rfl (KL 3 true 27 rfl rfl rfl (Or.inl rfl) rfl (KL 3 true 27 rfl rfl rfl (Or.inl rfl) rfl (KJ (.bool false) rfl rfl (Lb rfl rfl rfl rr) (KJ (.bool false) rfl rfl (KQ rfl rfl rr) (KR (pt p1 1) 8 false 32 rfl rfl rfl rfl rfl (KT (n:=1) rfl aa Tryz.underlying23 rfl (by kernel_rfl) (by decide) rfl rr) (KR (iv H) 8 false 32 rfl rfl rfl rfl rfl (KV rfl rfl Tryz.underlying3 ab rfl rfl rr) ?_)))))))))))
       refine KR (.bool false) 8 false 32 rfl rfl rfl rfl rfl (Ms rfl rfl rfl (decide_eq_false aT) rr) (KR (.bool false) 8 false 32 rfl rfl rfl rfl rfl (KQ rfl rfl rr) (KL 12 true 36 rfl rfl rfl (Or.inl rfl) rfl (KL 12 true 36 rfl rfl rfl (Or.inl rfl) rfl (KL 12 true 36 rfl rfl rfl (Or.inl rfl) rfl (KR (.bool false) 8 false 32 rfl rfl rfl rfl rfl (Lb rfl rfl rfl rr) (KJ (.bool false) rfl rfl (Lb rfl rfl rfl rr) (KJ (.bool false) rfl rfl (KQ rfl rfl rr) (KR v 18 false 42 rfl rfl rfl rfl rfl (KQ rfl ae rr) (KR (iv ((l.length:Nat):Int)) 18 false 42 rfl rfl rfl rfl rfl (M3 rfl rfl rfl af rr) (KR (.bool false) 18 false 42 rfl rfl rfl rfl rfl (Ms rfl rfl rfl (decide_eq_false bF) rr) (KJ (.bool false) rfl rfl (Lb rfl rfl rfl rr) ?_)))))))))))
       refine KJ (.bool false) rfl rfl (KQ rfl rfl rr) (KR (.agg #[iv (g.W),iv (g.H),g0,g1,g2]) 23 false 47 rfl rfl rfl rfl rfl (KU K3 rfl ah am rr) (LA (R:=fun v_ w_=>v_ = .bool true/\KP (fun _=>False) aM w_) 23 false 47 rfl rfl rfl rfl rfl (LE rfl rfl rfl (fun _ _=>by kernel_rfl) (K4 _) (Lm rfl LS) (MT g g0 g1 g2 T_g0 T_g1 T_g2 _  ai aj ak ) (fun e_ w_ h_=>⟨_,h_.1,(congrArg Value.bool bG),h_.2⟩)) ?_))
       rintro _ lA ⟨rfl,dF⟩
       obtain⟨lB,lC,lD,lE,dG,dH,dI,lF,lG,lH,dJ⟩:=Oa dF af ai aj ak au av aw ab az am aA
       refine KR (.bool false) 23 false 47 rfl rfl rfl rfl rfl (LW rfl rfl rfl rr) (KJ (.bool false) rfl rfl (Lb rfl rfl rfl rr) (KJ (.bool false) rfl rfl (KQ rfl rfl rr) (KR (.agg #[iv (h.W),iv (h.H),h0,h1,h2]) 28 false 52 rfl rfl rfl rfl rfl (KU K3 rfl an dJ rr) (LA (R:=fun v_ w_=>v_ = .bool false/\KP (fun _=>False) lA w_) 28 false 52 rfl rfl rfl rfl rfl (LE rfl rfl rfl (fun _ _=>by kernel_rfl) (K4 _) (Lm rfl LS) (MT h h0 h1 h2 T_h0 T_h1 T_h2 _  dG dH dI ) (fun e_ w_ h_=>⟨_,h_.1,(congrArg Value.bool bV),h_.2⟩)) ?_))))
       rintro _ qU ⟨rfl,dK⟩
       obtain⟨lJ,lK,lL,lM,lN,lO,lP,lQ,lR,lS,lT⟩:=Oa dK lB lC lD lE dG dH dI lF lG lH dJ
       refine KR (.bool true) 28 false 52 rfl rfl rfl rfl rfl (LW rfl rfl rfl rr) (KJ (.bool true) rfl rfl (Lb rfl rfl rfl rr) (KO ?_))
       have lU:=La (.bool true)
       exact⟨lU.trans (congrArg Value.bool (show true=decide (NT W H\/1000<l.length\/M8 g=false\/M8 h=false) from (by rw[Bool.eq_iff_iff,decide_eq_true_iff];unfold NT;first|(simp[*];done)|(simp[*];omega)|(simp_all;done)|(simp_all;omega)))),ae,ao,ap,aa,ar,ah,an,aC,aq,((aB.tr dF).tr dK),lJ,lK,lL,lM,lN,lO,lP,lQ,lR,lS,lT⟩
     ·skip
      refine KI (KJ (pt p1 0) rfl rfl (KT (n:=1) rfl aa Tryz.underlying23 rfl (by kernel_rfl) (by decide) rfl rr) (KJ (iv W) rfl rfl (KV rfl rfl Tryz.underlying3 ab rfl rfl rr) (KJ (.bool false) rfl rfl (Ms rfl rfl rfl (decide_eq_false aD) rr) (KJ (.bool false) rfl rfl (KQ rfl rfl rr) (KL 3 true 27 rfl rfl rfl (Or.inl rfl) rfl (KL 3 true 27 rfl rfl rfl (Or.inl rfl) rfl (KL 3 true 27 rfl rfl rfl (Or.inl rfl) rfl (KJ (.bool false) rfl rfl (Lb rfl rfl rfl rr) (KJ (.bool false) rfl rfl (KQ rfl rfl rr) (KR (pt p1 1) 8 false 32 rfl rfl rfl rfl rfl (KT (n:=1) rfl aa Tryz.underlying23 rfl (by kernel_rfl) (by decide) rfl rr) (KR (iv H) 8 false 32 rfl rfl rfl rfl rfl (KV rfl rfl Tryz.underlying3 ab rfl rfl rr) ?_)))))))))))
      refine KR (.bool false) 8 false 32 rfl rfl rfl rfl rfl (Ms rfl rfl rfl (decide_eq_false aT) rr) (KR (.bool false) 8 false 32 rfl rfl rfl rfl rfl (KQ rfl rfl rr) (KL 12 true 36 rfl rfl rfl (Or.inl rfl) rfl (KL 12 true 36 rfl rfl rfl (Or.inl rfl) rfl (KL 12 true 36 rfl rfl rfl (Or.inl rfl) rfl (KR (.bool false) 8 false 32 rfl rfl rfl rfl rfl (Lb rfl rfl rfl rr) (KJ (.bool false) rfl rfl (Lb rfl rfl rfl rr) (KJ (.bool false) rfl rfl (KQ rfl rfl rr) (KR v 18 false 42 rfl rfl rfl rfl rfl (KQ rfl ae rr) (KR (iv ((l.length:Nat):Int)) 18 false 42 rfl rfl rfl rfl rfl (M3 rfl rfl rfl af rr) (KR (.bool false) 18 false 42 rfl rfl rfl rfl rfl (Ms rfl rfl rfl (decide_eq_false bF) rr) (KJ (.bool false) rfl rfl (Lb rfl rfl rfl rr) ?_)))))))))))
      refine KJ (.bool false) rfl rfl (KQ rfl rfl rr) (KR (.agg #[iv (g.W),iv (g.H),g0,g1,g2]) 23 false 47 rfl rfl rfl rfl rfl (KU K3 rfl ah am rr) (LA (R:=fun v_ w_=>v_ = .bool false/\KP (fun _=>False) aM w_) 23 false 47 rfl rfl rfl rfl rfl (LE rfl rfl rfl (fun _ _=>by kernel_rfl) (K4 _) (Lm rfl LS) (MT g g0 g1 g2 T_g0 T_g1 T_g2 _  ai aj ak ) (fun e_ w_ h_=>⟨_,h_.1,(congrArg Value.bool bG),h_.2⟩)) ?_))
      rintro _ qV ⟨rfl,dL⟩
      obtain⟨lV,lW,lX,lY,lZ,l3,l4,l5,l6,l7,l8⟩:=Oa dL af ai aj ak au av aw ab az am aA
      refine KR (.bool true) 23 false 47 rfl rfl rfl rfl rfl (LW rfl rfl rfl rr) (KJ (.bool true) rfl rfl (Lb rfl rfl rfl rr) (KJ (.bool true) rfl rfl (KQ rfl rfl rr) (KL 28 false 52 rfl rfl rfl (Or.inl rfl) rfl (KL 28 false 52 rfl rfl rfl (Or.inl rfl) rfl (KL 28 false 52 rfl rfl rfl (Or.inl rfl) rfl (KJ (.bool true) rfl rfl (Lg rfl rfl rfl rr) (KO ?_)))))))
      have l9:=La (.bool true)
      exact⟨l9.trans (congrArg Value.bool (show true=decide (NT W H\/1000<l.length\/M8 g=false\/M8 h=false) from (by rw[Bool.eq_iff_iff,decide_eq_true_iff];unfold NT;first|(simp[*];done)|(simp[*];omega)|(simp_all;done)|(simp_all;omega)))),ae,ao,ap,aa,ar,ah,an,aC,aq,(aB.tr dL),lV,lW,lX,lY,lZ,l3,l4,l5,l6,l7,l8⟩
 ·rintro qW bH ⟨ma,dM,mb,mc,bI,bJ,ba,dN,bK,bL,dO,me,dP,dQ,dR,mf,mg,mh,mi,bM,dS,mj⟩
  refine KH ?_
  refine Lc ma (fun bm=>?_) (fun bm=>?_)
  ·replace bm:=of_decide_eq_true bm
   refine KK (KI (KW rfl rfl rfl bK (KJ (.bool true) rfl rfl (KX rfl rfl rr) (KO ?_))))
   have ml:=La (.bool true)
   refine KH (Ld (Lq ?_))
   exact Lu (v:=.bool true) bL rfl rfl ml ⟨rfl,dO⟩
  ·replace bm:=of_decide_eq_false bm
   refine Li (KH (KK (KI (KJ (.agg #[iv (g.W),iv (g.H),g0,g1,g2]) rfl rfl (KU K3 rfl ba dS rr) (Ly (R:=fun v_ w_=>∃ (bb:Value) (bc:Nat->Prop) (bd:Value) (be:Nat->Prop) (bf:Value) (bg:Nat->Prop),.agg #[iv ((MD g).W),iv ((MD g).H),bb,bd,bf]=v_/\KP (fun _=>False) bH w_/\(L4 w_ bc bb ((MD g).p0)/\KS bH Ma bc)/\(L4 w_ be bd ((MD g).p1)/\KS bH Ma be)/\(L4 w_ bg bf ((MD g).p2)/\KS bH Ma bg)/\KM bc be/\KM bc bg/\KM be bg) rfl rfl (LE rfl rfl rfl (fun _ _=>by kernel_rfl) (K4 _) (Lm rfl LS) (Zl g g0 g1 g2 T_g0 T_g1 T_g2 _  dP dQ dR ) (fun e_ w_ h_=>by obtain⟨v687_,T692_,v688_,T693_,v689_,T694_,he_,hr_⟩:=h_;exact⟨_,he_,v687_,T692_,v688_,T693_,v689_,T694_,rfl,hr_⟩)) ?_)))))
   rintro _ qX ⟨bb,bc,bd,be,bf,bg,rfl,dT,⟨dU,mm⟩,⟨dV,mn⟩,⟨dW,mo⟩,qY,qZ,q7⟩
   obtain⟨dX,dY,dZ,d8,d9,eb,ee,eh,ei,ek,en⟩:=Oa dT me dP dQ dR mf mg mh mi bM dS mj
   have eo:=dO.tr dT
   have ep:=KM.new mm (LO bM.lt)
   have er:=KM.new mn (LO bM.lt)
   have et:=KM.new mo (LO bM.lt)
   refine LI (n:=5) (vs:=[iv 0,iv 0,.slice none 0 0,.slice none 0 0,.slice none 0 0]) rfl rfl rfl (by kernel_rfl) fun bn q8 mp eu ew=>?_
   obtain⟨mq,mr,mu,mv,mw,mz,mA,mB,bW,mC,mD,mE,mF,mG⟩:=QD eu dX dY dZ d8 d9 eb ee eh ei ek en dU dV dW
   obtain⟨mH,mI,mJ,mK,mL,mM,mN,mO,mP,mQ,mR,ex,ey,ez⟩:=OB ew dX dY dZ d8 d9 eb ee eh ei ek en dU dV dW
   refine Ll (us:=[iv ((MD g).W),iv ((MD g).H),bb,bd,bf]) K3 rfl rfl rfl rfl rfl mp rfl (K2 rfl (K2 rfl (K2 ex.one (K2 ey.one (K2 ez.one MI))))) fun bN mS aI=>?_
   have eA:=mH.all aI mq.symm
   have eB:=mI.all aI mr.symm
   have eC:=mJ.all aI mu.symm
   have eD:=mK.all aI mv.symm
   have eE:=mL.all aI mw.symm
   have eF:=mM.all aI mz.symm
   have eG:=mN.all aI mA.symm
   have eH:=mO.all aI (mB.symm p1 rfl)
   have bo:=mP.all aI (bW.symm aR rfl)
   have eI:=mQ.all aI (mC.symm aX rfl)
   have eJ:=mR.all aI (mD.symm aY rfl)
   have mT:=ex.all aI mE.symm
   have mU:=ey.all aI mF.symm
   have mV:=ez.all aI mG.symm
   have bp:=(eo.tr ew).trans aI (KS.ok (S:=fun _=>False) (KS.new eo eu) K6)
   refine KO ?_
   have mW:=La (pt bn 0)
   refine KH (KK (KI (KJ (.agg #[iv W,iv H,iv R,iv B]) rfl rfl (KU Mw rfl bI eH rr) (KJ (.agg #[iv K,iv Q,iv D,iv F]) rfl rfl (KU Qa rfl bJ bo rr) (KW rfl rfl rfl dM (KJ (.agg #[iv (g.W),iv (g.H),g0,g1,g2]) rfl rfl (KU K3 rfl ba eI rr) (KJ (.agg #[iv (h.W),iv (h.H),h0,h1,h2]) rfl rfl (KU K3 rfl dN eJ rr) (Ly (R:=fun v_ w_=>∃ (aJ:Value) (aU:Nat->Prop) (aK:Value) (aV:Nat->Prop) (aL:Value) (aW:Nat->Prop),.tuple #[.agg #[iv ((MA l W H R B K Q D F g h).W),iv ((MA l W H R B K Q D F g h).H),aJ,aK,aL],iv (Ns l W H R B K Q D F g h)]=v_/\KP (fun _=>False) bN w_/\(L4 w_ aU aJ ((MA l W H R B K Q D F g h).p0)/\KS bN Ma aU)/\(L4 w_ aV aK ((MA l W H R B K Q D F g h).p1)/\KS bN Ma aV)/\(L4 w_ aW aL ((MA l W H R B K Q D F g h).p2)/\KS bN Ma aW)/\KM aU aV/\KM aU aW/\KM aV aW) rfl rfl (LE rfl rfl rfl (fun _ _=>by kernel_rfl) (K4 _) (Lm rfl (Lm rfl (Lm rfl (Lm rfl (Lm rfl LS))))) (Sg W H R B K Q D F v l g g0 g1 g2 h h0 h1 h2 T_b T_g0 T_g1 T_g2 T_h0 T_h1 T_h2 _ (hA.all bp) (hO.all bp) (hs.all bp) (hw.all bp) (by omega) eA eB eC eD eE eF eG ) (fun e_ w_ h_=>by obtain⟨v817_,T822_,v818_,T823_,v819_,T824_,he_,hr_⟩:=h_;exact⟨_,he_,v817_,T822_,v818_,T823_,v819_,T824_,rfl,hr_⟩)) ?_))))))))
   rintro _ q9 ⟨aJ,aU,aK,aV,aL,aW,rfl,bX,⟨eK,mX⟩,⟨eL,mY⟩,⟨eM,mZ⟩,ra,rb,rc⟩
   obtain⟨eN,eO,eP,eQ,eR,eS,eT,eU,eV,eW,eX,eY,eZ,e6⟩:=OB bX eA eB eC eD eE eF eG eH bo eI eJ mT mU mV
   have e7:=mS.all bX id
   have e8:=bp.tr bX
   have e9:=KM.new mX (LO bo.lt)
   have fa:=KM.new mY (LO bo.lt)
   have fb:=KM.new mZ (LO bo.lt)
   refine KJ (.tuple #[.agg #[iv ((MA l W H R B K Q D F g h).W),iv ((MA l W H R B K Q D F g h).H),aJ,aK,aL],iv (Ns l W H R B K Q D F g h)]) rfl rfl (KQ rfl rfl rr) (KJ (.agg #[iv ((MA l W H R B K Q D F g h).W),iv ((MA l W H R B K Q D F g h).H),aJ,aK,aL]) rfl rfl (LM rfl rfl rfl rr) (KJ (iv (Ns l W H R B K Q D F g h)) rfl rfl (LM rfl rfl rfl rr) (LI (n:=5) (vs:=[iv 0,iv 0,.slice none 0 0,.slice none 0 0,.slice none 0 0]) rfl rfl rfl (by kernel_rfl) fun bh re m2 bY bZ=>?_)))
   obtain⟨m3,m4,m7,m8,m9,nb,nc,nd,b7,nf,nh,ni,nj,nk⟩:=QD bY eN eO eP eQ eR eS eT eU eV eW eX eY eZ e6
   obtain⟨nl,np,nr,nt⟩:=VK bY e7 eK eL eM
   obtain⟨nu,nv,nw,nz,nA,nB,nC,nD,nE,nF,nG,nH,nI,nJ⟩:=OB bZ eN eO eP eQ eR eS eT eU eV eW eX eY eZ e6
   obtain⟨nK,fc,fd,fe⟩:=OW bZ e7 eK eL eM
   refine Ll (us:=[iv ((MA l W H R B K Q D F g h).W),iv ((MA l W H R B K Q D F g h).H),aJ,aK,aL]) K3 rfl rfl rfl rfl rfl m2 rfl (K2 rfl (K2 rfl (K2 fc.one (K2 fd.one (K2 fe.one MI))))) fun rf ff aE=>?_
   have nL:=nu.all aE m3.symm
   have nM:=nv.all aE m4.symm
   have nN:=nw.all aE m7.symm
   have nO:=nz.all aE m8.symm
   have nP:=nA.all aE m9.symm
   have nQ:=nB.all aE nb.symm
   have nR:=nC.all aE nc.symm
   have nT:=nD.all aE (nd.symm p1 rfl)
   have nU:=nE.all aE (b7.symm aR rfl)
   have nV:=nF.all aE (nf.symm aX rfl)
   have nW:=nG.all aE (nh.symm aY rfl)
   have nX:=nH.all aE ni.symm
   have nY:=nI.all aE nj.symm
   have nZ:=nJ.all aE nk.symm
   have n7:=nK.all aE (nl.symm bn rfl)
   have fg:=fc.all aE np.symm
   have n8:=fd.all aE nr.symm
   have n9:=fe.all aE nt.symm
   have fh:=(e8.tr bZ).trans aE (KS.ok (S:=fun _=>False) (KS.new e8 bY) K6)
   refine KJ (iv (Ns l W H R B K Q D F g h)) rfl rfl (KX rfl rfl rr) (KO ?_)
   have bq:=La (pt bh 0)
   have oa:=La (iv (Ns l W H R B K Q D F g h))
   refine KH (KK (KK (KI (KW rfl rfl rfl oa (KJ (.bool (decide ((Ns l W H R B K Q D F g h)≠0))) rfl rfl (Mc rfl rfl rfl rfl rr) (KO ?_))))))
   have oc:=La (.bool (decide ((Ns l W H R B K Q D F g h)≠0)))
   refine KH ?_
   refine Lc oc (fun bt=>?_) (fun bt=>?_)
   ·replace bt:=of_decide_eq_true bt
    refine KK ?_
    have hno:=Z3 (l:=l) (W:=W) (H:=H) (R:=R) (B:=B) (K:=K) (Q:=Q) (D:=D) (F:=F) (g:=g) (h:=h) (by assumption)
    refine KI (KW rfl rfl rfl bK (KJ (.bool true) rfl rfl (KQ rfl rfl rr) (KR (pt bh 2) 1 true 72 rfl rfl rfl rfl rfl (KT (n:=3) rfl bq Tryz.underlying29 rfl (by kernel_rfl) (by decide) rfl rr) (KR (pt bh 2) 1 true 72 rfl rfl rfl rfl rfl (LU 0 (s:=1) rfl rfl rfl (by omega) Tryz.underlying27 (by omega) (by kernel_rfl) (by omega) rr) (KR aJ 1 true 72 rfl rfl rfl rfl rfl (KV rfl rfl Tryz.underlying26 ff rfl rfl rr) (KR (iv ((((MA l W H R B K Q D F g h).p0).length:Nat):Int)) 1 true 72 rfl rfl rfl rfl rfl (M3 rfl rfl rfl fg.byt rr) (KR (.bool true) 1 true 72 rfl rfl rfl rfl rfl (Mj rfl rfl rfl (decide_eq_true (by omega)) rr) (KJ (.bool true) rfl rfl (Lg rfl rfl rfl rr) (KJ (.bool true) rfl rfl (KX rfl rfl rr) (KO ?_))))))))))
    have od:=La (.bool true)
    refine KH (Ld (Lq ?_))
    exact Lu (v:=.bool true) bL rfl rfl od ⟨rfl,fh⟩
   ·replace bt:=of_decide_eq_false bt
    refine Li (KH (KK ?_))
    have hz:Ns l W H R B K Q D F g h=0:=by first|assumption|(apply Decidable.byContradiction;assumption)
    have hsm:=Yy (m:=m) (n:=n) hz hm hn
    refine KI (KW rfl rfl rfl mb (KJ (iv ((m:Nat):Int)) rfl rfl (Pq rfl rfl Tryz.underlying42 Tryz.underlying3 (L2 rfl (by omega)) rr) (KJ (pt aR 2) rfl rfl (KT (n:=1) rfl bJ Tryz.underlying25 rfl (by kernel_rfl) (by decide) rfl rr) (N1 rfl rfl rfl rfl rfl nU rfl rfl (by kernel_rfl) fun oe b8 aF=>?_))))
    replace b8:My oe aR 25 [iv K,iv Q,iv ((m:Nat):Int),iv F]:=b8
    have og:=nL.all aF cz.symm
    have oh:=nM.all aF cA.symm
    have oi:=nN.all aF cB.symm
    have oj:=nO.all aF cC.symm
    have ol:=nP.all aF cD.symm
    have om:=nQ.all aF cE.symm
    have oo:=nR.all aF cF.symm
    have oq:=nT.all aF (cG.symm p1 rfl)
    have ot:=nV.all aF (cI aX rfl)
    have ou:=nW.all aF (cL aY rfl)
    have ov:=nX.all aF ep
    have ow:=nY.all aF er
    have ox:=nZ.all aF et
    have oy:=n7.all aF (bW bn rfl)
    have oz:=fg.all aF e9
    have oA:=n8.all aF fa
    have oB:=n9.all aF fb
    have oC:=ff.all aF (b7 bh rfl)
    refine KO ?_
    refine KH (KK (KI (KW rfl rfl rfl mc (KJ (iv ((n:Nat):Int)) rfl rfl (Pq rfl rfl Tryz.underlying42 Tryz.underlying3 (L2 rfl (by omega)) rr) (KJ (pt aR 3) rfl rfl (KT (n:=1) rfl bJ Tryz.underlying25 rfl (by kernel_rfl) (by decide) rfl rr) (N1 rfl rfl rfl rfl rfl b8 rfl rfl (by kernel_rfl) fun bu b9 aG=>?_))))))
    replace b9:My bu aR 25 [iv K,iv Q,iv ((m:Nat):Int),iv ((n:Nat):Int)]:=b9
    have oD:=og.all aG cz.symm
    have fi:=oh.all aG cA.symm
    have fj:=oi.all aG cB.symm
    have fk:=oj.all aG cC.symm
    have oE:=ol.all aG cD.symm
    have oF:=om.all aG cE.symm
    have oG:=oo.all aG cF.symm
    have fm:=oq.all aG (cG.symm p1 rfl)
    have fo:=ot.all aG (cI aX rfl)
    have oH:=ou.all aG (cL aY rfl)
    have oI:=ov.all aG ep
    have oJ:=ow.all aG er
    have oK:=ox.all aG et
    have oL:=oy.all aG (bW bn rfl)
    have oM:=oz.all aG e9
    have oN:=oA.all aG fa
    have oO:=oB.all aG fb
    have oP:=oC.all aG (b7 bh rfl)
    have bv:=(fh.trans aF (KS.ok (S:=fun _=>False) cy K6)).trans aG (KS.ok (S:=fun _=>False) cy K6)
    refine KO ?_
    refine KH (KK (KI (KJ (.agg #[iv W,iv H,iv R,iv B]) rfl rfl (KU Mw rfl bI fm rr) (KJ (.agg #[iv K,iv Q,iv ((m:Nat):Int),iv ((n:Nat):Int)]) rfl rfl (KU Qa rfl bJ b9 rr) (KW rfl rfl rfl dM (KJ (.agg #[iv (g.W),iv (g.H),g0,g1,g2]) rfl rfl (KU K3 rfl ba fo rr) (KJ (.agg #[iv (h.W),iv (h.H),h0,h1,h2]) rfl rfl (KU K3 rfl dN oH rr) (Ly (R:=fun v_ w_=>∃ (aO:Value) (aZ:Nat->Prop) (aP:Value) (a8:Nat->Prop) (aQ:Value) (a9:Nat->Prop),.tuple #[.agg #[iv ((MA l W H R B K Q ((m:Nat):Int) ((n:Nat):Int) g h).W),iv ((MA l W H R B K Q ((m:Nat):Int) ((n:Nat):Int) g h).H),aO,aP,aQ],iv (Ns l W H R B K Q ((m:Nat):Int) ((n:Nat):Int) g h)]=v_/\KP (fun _=>False) bu w_/\(L4 w_ aZ aO ((MA l W H R B K Q ((m:Nat):Int) ((n:Nat):Int) g h).p0)/\KS bu Ma aZ)/\(L4 w_ a8 aP ((MA l W H R B K Q ((m:Nat):Int) ((n:Nat):Int) g h).p1)/\KS bu Ma a8)/\(L4 w_ a9 aQ ((MA l W H R B K Q ((m:Nat):Int) ((n:Nat):Int) g h).p2)/\KS bu Ma a9)/\KM aZ a8/\KM aZ a9/\KM a8 a9) rfl rfl (LE rfl rfl rfl (fun _ _=>by kernel_rfl) (K4 _) (Lm rfl (Lm rfl (Lm rfl (Lm rfl (Lm rfl LS))))) (Sg W H R B K Q ((m:Nat):Int) ((n:Nat):Int) v l g g0 g1 g2 h h0 h1 h2 T_b T_g0 T_g1 T_g2 T_h0 T_h1 T_h2 _ (hA.all bv) (hO.all bv) (hs.all bv) (hw.all bv) (by omega) oD fi fj fk oE oF oG ) (fun e_ w_ h_=>by obtain⟨v1063_,T1068_,v1064_,T1069_,v1065_,T1070_,he_,hr_⟩:=h_;exact⟨_,he_,v1063_,T1068_,v1064_,T1069_,v1065_,T1070_,rfl,hr_⟩)) ?_))))))))
    rintro _ rg ⟨aO,aZ,aP,a8,aQ,a9,rfl,fp,⟨fq,rh⟩,⟨ft,ri⟩,⟨fu,rj⟩,rk,rl,rm⟩
    obtain⟨fw,fx,fy,fA,fB,fC,fD,fE,fF,fG,fH,fI,fJ⟩:=Uo fp fi fj fk fm fo oI oJ oK oL oM oN oO oP
    have fK:=bv.tr fp
    refine KJ (.tuple #[.agg #[iv ((MA l W H R B K Q ((m:Nat):Int) ((n:Nat):Int) g h).W),iv ((MA l W H R B K Q ((m:Nat):Int) ((n:Nat):Int) g h).H),aO,aP,aQ],iv (Ns l W H R B K Q ((m:Nat):Int) ((n:Nat):Int) g h)]) rfl rfl (KQ rfl rfl rr) (KJ (.agg #[iv ((MA l W H R B K Q ((m:Nat):Int) ((n:Nat):Int) g h).W),iv ((MA l W H R B K Q ((m:Nat):Int) ((n:Nat):Int) g h).H),aO,aP,aQ]) rfl rfl (LM rfl rfl rfl rr) (KJ (iv (Ns l W H R B K Q ((m:Nat):Int) ((n:Nat):Int) g h)) rfl rfl (LM rfl rfl rfl rr) (LI (n:=5) (vs:=[iv 0,iv 0,.slice none 0 0,.slice none 0 0,.slice none 0 0]) rfl rfl rfl (by kernel_rfl) fun oQ rn oR cd ce=>?_)))
    obtain⟨oS,oT,oU,oV,oW,oX,oY,oZ,o2,o3,o4,o5,o6,o7⟩:=QD cd fw fx fy fA fB fC fD fE fF fG fH fI fJ fq
    obtain⟨o8,o9⟩:=S3 cd ft fu
    obtain⟨pa,pb,pc,pd,pe,pf,pg,pi,pj,pk,pm,po,pp,fL⟩:=OB ce fw fx fy fA fB fC fD fE fF fG fH fI fJ fq
    obtain⟨fM,fN⟩:=NL ce ft fu
    refine Ll (us:=[iv ((MA l W H R B K Q ((m:Nat):Int) ((n:Nat):Int) g h).W),iv ((MA l W H R B K Q ((m:Nat):Int) ((n:Nat):Int) g h).H),aO,aP,aQ]) K3 rfl rfl rfl rfl rfl oR rfl (K2 rfl (K2 rfl (K2 fL.one (K2 fM.one (K2 fN.one MI))))) fun fO fP aH=>?_
    have fQ:=pa.all aH oS.symm
    have fR:=pb.all aH oT.symm
    have fS:=pc.all aH oU.symm
    have fT:=pd.all aH (oV.symm p1 rfl)
    have fU:=pe.all aH (oW.symm aX rfl)
    have pq:=pf.all aH oX.symm
    have pu:=pg.all aH oY.symm
    have pz:=pi.all aH oZ.symm
    have pA:=pj.all aH (o2.symm bn rfl)
    have bO:=pk.all aH o3.symm
    have bP:=pm.all aH o4.symm
    have bQ:=po.all aH o5.symm
    have bR:=pp.all aH (o6.symm bh rfl)
    have fV:=fL.all aH o7.symm
    have fW:=fM.all aH o8.symm
    have fX:=fN.all aH o9.symm
    have fY:=(fK.tr ce).trans aH (KS.ok (S:=fun _=>False) (KS.new fK cd) K6)
    refine KJ (iv (Ns l W H R B K Q ((m:Nat):Int) ((n:Nat):Int) g h)) rfl rfl (KX rfl rfl rr) (KO ?_)
    have fZ:=La (pt oQ 0)
    have f5:=La (iv (Ns l W H R B K Q ((m:Nat):Int) ((n:Nat):Int) g h))
    refine KH (KK ?_)
    by_cases f6:(Na g)≠0
    ·skip
     refine KI (KJ (.agg #[iv ((MA l W H R B K Q D F g h).W),iv ((MA l W H R B K Q D F g h).H),aJ,aK,aL]) rfl rfl (KU K3 rfl bq bR rr) (KJ (.agg #[iv ((MA l W H R B K Q ((m:Nat):Int) ((n:Nat):Int) g h).W),iv ((MA l W H R B K Q ((m:Nat):Int) ((n:Nat):Int) g h).H),aO,aP,aQ]) rfl rfl (KU K3 rfl fZ fP rr) (Ly (R:=fun v_ w_=>v_ = .bool true/\KP (fun _=>False) fO w_) rfl rfl (LE rfl rfl rfl (fun _ _=>by kernel_rfl) (K4 _) (Lm rfl (Lm rfl LS)) (Se (MA l W H R B K Q D F g h) aJ aK aL (MA l W H R B K Q ((m:Nat):Int) ((n:Nat):Int) g h) aO aP aQ aU aV aW aZ a8 a9 _  bO.byt bP.byt bQ.byt fV.byt fW.byt fX.byt ) (fun e_ w_ h_=>⟨_,h_.1,congrArg Value.bool hsm.2,h_.2⟩)) ?_)))
     rintro _ pB ⟨rfl,f7⟩
     obtain⟨pC,pD,pE,pF,pG,pH,pI,pJ,pK⟩:=X9 f7 fQ fR fS fT fU bO bP bQ bR
     refine KJ (.bool true) rfl rfl (KQ rfl rfl rr) (KR (.agg #[iv (g.W),iv (g.H),g0,g1,g2]) 3 true 97 rfl rfl rfl rfl rfl (KU K3 rfl ba pG rr) (LA (R:=fun v_ w_=>v_=iv (Na g)/\KP (fun _=>False) pB w_) 3 true 97 rfl rfl rfl rfl rfl (LE rfl rfl rfl (fun _ _=>by kernel_rfl) (K4 _) (Lm rfl LS) (M0 g g0 g1 g2 T_g0 T_g1 T_g2 _  pC pD pE ) (fun e_ w_ h_=>⟨_,h_.1,rfl,h_.2⟩)) ?_))
     rintro _ pL ⟨rfl,f8⟩
     obtain⟨pM,pN,pO,pP,pQ⟩:=OJ f8 pF pH pI pJ pK
     refine KR (.bool true) 3 true 97 rfl rfl rfl rfl rfl (Mc rfl rfl rfl (decide_eq_true f6) rr) (KR (.bool true) 3 true 97 rfl rfl rfl rfl rfl (KQ rfl rfl rr) (KL 7 false 101 rfl rfl rfl (Or.inl rfl) rfl (KL 7 false 101 rfl rfl rfl (Or.inl rfl) rfl (KL 7 false 101 rfl rfl rfl (Or.inl rfl) rfl (KR (.bool true) 3 true 97 rfl rfl rfl rfl rfl (Lg rfl rfl rfl rr) (KJ (.bool true) rfl rfl (Lg rfl rfl rfl rr) (KJ (.bool true) rfl rfl (KX rfl rfl rr) (KO ?_))))))))
     have pR:=La (.bool true)
     refine KH (KK (KI (KJ (.agg #[iv W,iv H,iv R,iv B]) rfl rfl (KU Mw rfl bI pM rr) (KJ (.agg #[iv ((MA l W H R B K Q D F g h).W),iv ((MA l W H R B K Q D F g h).H),aJ,aK,aL]) rfl rfl (KU K3 rfl bq pQ rr) (Ly (R:=fun v_ w_=>v_ = .bool true/\KP (fun _=>False) pL w_) rfl rfl (LE rfl rfl rfl (fun _ _=>by kernel_rfl) (K4 _) (Lm rfl (Lm rfl LS)) (QF W H R B (MA l W H R B K Q D F g h) aJ aK aL aU aV aW _  pN.byt pO.byt pP.byt ) (fun e_ w_ h_=>⟨_,h_.1,congrArg Value.bool (decide_eq_true (XW hz)),h_.2⟩)) ?_)))))
     rintro _ rp ⟨rfl,pS⟩
     refine KJ (.bool true) rfl rfl (KX rfl rfl rr) (KO ?_)
     have pT:=La (.bool true)
     refine KH (KK (KI (KW rfl rfl rfl bK (KJ (.bool true) rfl rfl (KQ rfl rfl rr) (KR (iv (Ns l W H R B K Q ((m:Nat):Int) ((n:Nat):Int) g h)) 1 true 111 rfl rfl rfl rfl rfl (KQ rfl f5 rr) (KR (.bool true) 1 true 111 rfl rfl rfl rfl rfl (Mj rfl rfl rfl (decide_eq_true hsm.1) rr) (KJ (.bool true) rfl rfl (Lg rfl rfl rfl rr) (KJ (.bool true) rfl rfl (KQ rfl rfl rr) (KR (.bool true) 5 true 115 rfl rfl rfl rfl rfl (KQ rfl pR rr) (KJ (.bool true) rfl rfl (Lg rfl rfl rfl rr) (KJ (.bool true) rfl rfl (KQ rfl rfl rr) ?_)))))))))))
     refine KR (.bool true) 8 true 118 rfl rfl rfl rfl rfl (KQ rfl pT rr) (KJ (.bool true) rfl rfl (Lg rfl rfl rfl rr) (KJ (.bool true) rfl rfl (KX rfl rfl rr) (KO ?_)))
     have pU:=La (.bool true)
     refine KH (Ld ?_)
     exact Lu (v:=.bool true) bL rfl rfl pU ⟨rfl,(((fY.tr f7).tr f8).tr pS)⟩
    ·skip
     refine KI (KJ (.agg #[iv ((MA l W H R B K Q D F g h).W),iv ((MA l W H R B K Q D F g h).H),aJ,aK,aL]) rfl rfl (KU K3 rfl bq bR rr) (KJ (.agg #[iv ((MA l W H R B K Q ((m:Nat):Int) ((n:Nat):Int) g h).W),iv ((MA l W H R B K Q ((m:Nat):Int) ((n:Nat):Int) g h).H),aO,aP,aQ]) rfl rfl (KU K3 rfl fZ fP rr) (Ly (R:=fun v_ w_=>v_ = .bool true/\KP (fun _=>False) fO w_) rfl rfl (LE rfl rfl rfl (fun _ _=>by kernel_rfl) (K4 _) (Lm rfl (Lm rfl LS)) (Se (MA l W H R B K Q D F g h) aJ aK aL (MA l W H R B K Q ((m:Nat):Int) ((n:Nat):Int) g h) aO aP aQ aU aV aW aZ a8 a9 _  bO.byt bP.byt bQ.byt fV.byt fW.byt fX.byt ) (fun e_ w_ h_=>⟨_,h_.1,congrArg Value.bool hsm.2,h_.2⟩)) ?_)))
     rintro _ pV ⟨rfl,f9⟩
     obtain⟨ga,gb,gc,pW,gd,pZ,qa,qb,qc,qd,qe,qf,qg⟩:=Uo f9 fQ fR fS fT fU pq pu pz pA bO bP bQ bR
     refine KJ (.bool true) rfl rfl (KQ rfl rfl rr) (KR (.agg #[iv (g.W),iv (g.H),g0,g1,g2]) 3 true 97 rfl rfl rfl rfl rfl (KU K3 rfl ba gd rr) (LA (R:=fun v_ w_=>v_=iv (Na g)/\KP (fun _=>False) pV w_) 3 true 97 rfl rfl rfl rfl rfl (LE rfl rfl rfl (fun _ _=>by kernel_rfl) (K4 _) (Lm rfl LS) (M0 g g0 g1 g2 T_g0 T_g1 T_g2 _  ga gb gc ) (fun e_ w_ h_=>⟨_,h_.1,rfl,h_.2⟩)) ?_))
     rintro _ qh ⟨rfl,ge⟩
     obtain⟨qi,qj,qk,ql,qm,qn,qo,qp,qq,qr,qs,qt,qu⟩:=Uo ge ga gb gc pW gd pZ qa qb qc qd qe qf qg
     refine KR (.bool false) 3 true 97 rfl rfl rfl rfl rfl (Mc rfl rfl rfl (decide_eq_false f6) rr) (KR (.bool false) 3 true 97 rfl rfl rfl rfl rfl (KQ rfl rfl rr) (KR (.agg #[iv ((MD g).W),iv ((MD g).H),bb,bd,bf]) 7 false 101 rfl rfl rfl rfl rfl (KU K3 rfl mW qq rr) (KR (.agg #[iv (g.W),iv (g.H),g0,g1,g2]) 7 false 101 rfl rfl rfl rfl rfl (KU K3 rfl ba qm rr) (LA (R:=fun v_ w_=>v_ = .bool true/\KP (fun _=>False) qh w_) 7 false 101 rfl rfl rfl rfl rfl (LE rfl rfl rfl (fun _ _=>by kernel_rfl) (K4 _) (Lm rfl (Lm rfl LS)) (Se (MD g) bb bd bf g g0 g1 g2 bc be bg T_g0 T_g1 T_g2 _  qn.byt qo.byt qp.byt qi qj qk ) (fun e_ w_ h_=>⟨_,h_.1,congrArg Value.bool (ayE (by first|assumption|(apply Decidable.byContradiction;assumption))),h_.2⟩)) ?_))))
     rintro _ qv ⟨rfl,gh⟩
     obtain⟨qw,qx,qy,qz,qA⟩:=OJ gh ql qr qs qt qu
     refine KR (.bool true) 3 true 97 rfl rfl rfl rfl rfl (Lb rfl rfl rfl rr) (KJ (.bool true) rfl rfl (Lg rfl rfl rfl rr) (KJ (.bool true) rfl rfl (KX rfl rfl rr) (KO ?_)))
     have qB:=La (.bool true)
     refine KH (KK (KI (KJ (.agg #[iv W,iv H,iv R,iv B]) rfl rfl (KU Mw rfl bI qw rr) (KJ (.agg #[iv ((MA l W H R B K Q D F g h).W),iv ((MA l W H R B K Q D F g h).H),aJ,aK,aL]) rfl rfl (KU K3 rfl bq qA rr) (Ly (R:=fun v_ w_=>v_ = .bool true/\KP (fun _=>False) qv w_) rfl rfl (LE rfl rfl rfl (fun _ _=>by kernel_rfl) (K4 _) (Lm rfl (Lm rfl LS)) (QF W H R B (MA l W H R B K Q D F g h) aJ aK aL aU aV aW _  qx.byt qy.byt qz.byt ) (fun e_ w_ h_=>⟨_,h_.1,congrArg Value.bool (decide_eq_true (XW hz)),h_.2⟩)) ?_)))))
     rintro _ rq ⟨rfl,qC⟩
     refine KJ (.bool true) rfl rfl (KX rfl rfl rr) (KO ?_)
     have qD:=La (.bool true)
     refine KH (KK (KI (KW rfl rfl rfl bK (KJ (.bool true) rfl rfl (KQ rfl rfl rr) (KR (iv (Ns l W H R B K Q ((m:Nat):Int) ((n:Nat):Int) g h)) 1 true 111 rfl rfl rfl rfl rfl (KQ rfl f5 rr) (KR (.bool true) 1 true 111 rfl rfl rfl rfl rfl (Mj rfl rfl rfl (decide_eq_true hsm.1) rr) (KJ (.bool true) rfl rfl (Lg rfl rfl rfl rr) (KJ (.bool true) rfl rfl (KQ rfl rfl rr) (KR (.bool true) 5 true 115 rfl rfl rfl rfl rfl (KQ rfl qB rr) (KJ (.bool true) rfl rfl (Lg rfl rfl rfl rr) (KJ (.bool true) rfl rfl (KQ rfl rfl rr) ?_)))))))))))
     refine KR (.bool true) 8 true 118 rfl rfl rfl rfl rfl (KQ rfl qD rr) (KJ (.bool true) rfl rfl (Lg rfl rfl rfl rr) (KJ (.bool true) rfl rfl (KX rfl rfl rr) (KO ?_)))
     have qE:=La (.bool true)
     refine KH (Ld ?_)
     exact Lu (v:=.bool true) bL rfl rfl qE ⟨rfl,((((fY.tr f9).tr ge).tr gh).tr qC)⟩
end Go.Proofs.YtknjpdcpmpfklaaGreatDoor
