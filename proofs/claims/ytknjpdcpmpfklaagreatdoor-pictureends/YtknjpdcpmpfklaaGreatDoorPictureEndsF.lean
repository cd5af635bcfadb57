/- What PictureEnds reaches of my texts, part 6. -/
import Derived.Test.YtknjpdcpmpfklaaGreatDoorPictureEndsE
set_option maxRecDepth 100000
set_option maxHeartbeats 4000000
set_option maxRecDepth 100000
namespace Go.Proofs.YtknjpdcpmpfklaaGreatDoor
open Go.RowKit
def R5(l:List Nat)(n w:Nat)(u:Int)(c:Nat):List Nat:=if 0<=u/\u<(w:Int) then l.set (n+u.toNat) c else l
theorem OX(l:List Nat)(n w:Nat)(u:Int)(c:Nat):(R5 l n w u c).length=l.length:=by unfold R5;split <;> simp
theorem aAb(l:List Nat)(n w:Nat)(u:Int)(c q:Nat):(R5 l n w u c).getD q 0=if 0<=u/\u<(w:Int)/\n+u.toNat=q/\q<l.length then c else l.getD q 0:=by
 unfold R5
 by_cases h:0<=u/\u<(w:Int)
 ·rw[if_pos h,aAF]
  by_cases h2:n+u.toNat=q/\q<l.length
  ·rw[if_pos h2,if_pos ⟨h.1,h.2,h2.1,h2.2⟩]
  ·rw[if_neg h2,if_neg (fun k=>h2 ⟨k.2.2.1,k.2.2.2⟩)]
 ·rw[if_neg h,if_neg (fun k=>h ⟨k.1,k.2.1⟩)]
theorem aAx{l m:List Nat}(hl:l.length=m.length)(h:∀ q,q<l.length->l.getD q 0=m.getD q 0):l=m:=by
 apply List.ext_getElem hl
 intro i h1 h2
 have:=h i h1
 simpa [List.getD,h1,h2] using this
theorem aCW(l m:List Nat)(off n q:Nat)(h:off+min n m.length<=l.length):(l.take off++(m.take n++l.drop (off+min n m.length))).getD q 0=if q<off then l.getD q 0 else if q<off+min n m.length then m.getD (q-off) 0 else l.getD q 0:=by
 have h1:(l.take off).length=off:=by rw[List.length_take];omega
 have h2:(m.take n).length=min n m.length:=List.length_take ..
 simp only[List.getD_eq_getElem?_getD]
 by_cases hq:q<off
 ·rw[if_pos hq,List.getElem?_append_left (by omega),List.getElem?_take,if_pos hq]
 ·rw[if_neg hq,List.getElem?_append_right (by omega),h1]
  by_cases hr:q<off+min n m.length
  ·rw[if_pos hr,List.getElem?_append_left (by omega),List.getElem?_take,if_pos (by omega)]
  ·rw[if_neg hr,List.getElem?_append_right (by omega),h2,List.getElem?_drop]
   congr 2;omega
theorem ayY(l:List Nat)(n w:Nat)(x:Int)(a b c d:Nat)(h:n+w<=l.length):Za l n (n+w) x [a,b,c,d]=R5 (R5 (R5 (R5 l n w x a) n w (x+1) b) n w (x+2) c) n w (x+3) d:=by
 unfold Za
 rw[show n+w-n=w by omega]
 obtain⟨cx,hcx⟩:∃ k,k=(max 0 (min x (w:Int))).toNat:=⟨_,rfl⟩
 obtain⟨dx,hdx⟩:∃ k,k=(max 0 (min (-x) 4)).toNat:=⟨_,rfl⟩
 rw[← hcx,← hdx]
 have hd4:([a,b,c,d].drop dx).length=4-dx:=by simp
 apply aAx
 ·rw[OX,OX,OX,OX]
  simp;omega
 ·intro q hq
  have hql:q<l.length:=by
   have:(l.take (n+cx)++(([a,b,c,d].drop dx).take (w-cx)++l.drop (n+cx+min (w-cx) ([a,b,c,d].drop dx).length))).length=l.length:=by simp;omega
   omega
  rw[aCW _ _ _ _ _ (by rw[hd4];omega),hd4]
  simp only[aAb,OX]
  have hg:∀ t,([a,b,c,d].drop dx).getD t 0=[a,b,c,d].getD (dx+t) 0:=fun t=>by simp[List.getD_eq_getElem?_getD,List.getElem?_drop]
  rw[hg]
  by_cases h3:0<=x+3/\x+3<(w:Int)/\n+(x+3).toNat=q/\q<l.length
  ·rw[if_pos h3,if_neg (by omega),if_pos (by omega),show dx+(q-(n+cx))=3 by omega];rfl
  ·rw[if_neg h3]
   by_cases h2:0<=x+2/\x+2<(w:Int)/\n+(x+2).toNat=q/\q<l.length
   ·rw[if_pos h2,if_neg (by omega),if_pos (by omega),show dx+(q-(n+cx))=2 by omega];rfl
   ·rw[if_neg h2]
    by_cases h1:0<=x+1/\x+1<(w:Int)/\n+(x+1).toNat=q/\q<l.length
    ·rw[if_pos h1,if_neg (by omega),if_pos (by omega),show dx+(q-(n+cx))=1 by omega];rfl
    ·rw[if_neg h1]
     by_cases h0:0<=x/\x<(w:Int)/\n+x.toNat=q/\q<l.length
     ·rw[if_pos h0,if_neg (by omega),if_pos (by omega),show dx+(q-(n+cx))=0 by omega];rfl
     ·rw[if_neg h0]
      by_cases hA:q<n+cx
      ·rw[if_pos hA]
      ·rw[if_neg hA,if_neg (by omega)]
theorem TA{f:FD}{p:Int}(x y:Int)(b:Nat->Int)(k:Nat)(hp:0<=p)(hp2:p<=2)(hy:0<=LM y+((k/4:Nat):Int)/\LM y+((k/4:Nat):Int)<(Ld f p).2) :
  (MH f p x y b (k+1)).pl p=R5 ((MH f p x y b k).pl p) ((LM y+((k/4:Nat):Int))*(Ld f p).1).toNat (Ld f p).1.toNat (LM x+((k%4:Nat):Int)) (LU (b k))/\∀ q,0<=q->q<=2->q≠p->(MH f p x y b (k+1)).pl q=(MH f p x y b k).pl q:=by
 have hb:=Ni f p
 by_cases h:N9 (Ld f p).1 (Ld f p).2 (LM x+((k%4:Nat):Int)) (LM y+((k/4:Nat):Int))
 ·have hc:=OL h
  rw[aDC h]
  have hs:=aCk (MH f p x y b k) p ((LM y+((k/4:Nat):Int))*(Ld f p).1+(LM x+((k%4:Nat):Int))).toNat (LU (b k)) hp hp2
  refine⟨?_,hs.2⟩
  rw[hs.1]
  unfold R5
  unfold N9 at h
  rw[if_pos ⟨h.1,by omega⟩,Int.toNat_add (by omega) (by omega)]
 ·rw[S9 h]
  refine⟨?_,fun _ _ _ _=>rfl⟩
  unfold R5
  unfold N9 at h
  rw[if_neg (by omega)]
theorem VX{f:FD}{p:Int}(x y:Int)(b:Nat->Int)(i:Nat)(hp:0<=p)(hp2:p<=2)(hsz:(Ld f p).1≠0)(hy:0<=LM y+(i:Int)/\LM y+(i:Int)<(Ld f p).2) :
  (MH f p x y b (4*(i+1))).pl p=Za ((MH f p x y b (4*i)).pl p) ((LM y+(i:Int))*(Ld f p).1).toNat ((LM y+(i:Int))*(Ld f p).1+(Ld f p).1).toNat (LM x) [LU (b (i*4)),LU (b (i*4+1)),LU (b (i*4+2)),LU (b (i*4+3))]/\∀ q,0<=q->q<=2->q≠p->(MH f p x y b (4*(i+1))).pl q=(MH f p x y b (4*i)).pl q:=by
 have hb:=Ni f p
 have hin:N9 (Ld f p).1 (Ld f p).2 0 (LM y+(i:Int)):=⟨by omega,by omega,hy.1,hy.2⟩
 have hin2:N9 (Ld f p).1 (Ld f p).2 ((Ld f p).1-1) (LM y+(i:Int)):=⟨by omega,by omega,hy.1,hy.2⟩
 have hc:=OL hin
 have hc2:=OL hin2
 have q0:4*i/4=i:=by omega
 have q1:(4*i+1)/4=i:=by omega
 have q2:(4*i+2)/4=i:=by omega
 have q3:(4*i+3)/4=i:=by omega
 have r0:4*i%4=0:=by omega
 have r1:(4*i+1)%4=1:=by omega
 have r2:(4*i+2)%4=2:=by omega
 have r3:(4*i+3)%4=3:=by omega
 have s0:=TA (f:=f) (p:=p) x y b (4*i) hp hp2 (by rw[q0];exact hy)
 have s1:=TA (f:=f) (p:=p) x y b (4*i+1) hp hp2 (by rw[q1];exact hy)
 have s2:=TA (f:=f) (p:=p) x y b (4*i+2) hp hp2 (by rw[q2];exact hy)
 have s3:=TA (f:=f) (p:=p) x y b (4*i+3) hp hp2 (by rw[q3];exact hy)
 rw[q0,r0] at s0
 rw[q1,r1] at s1
 rw[q2,r2] at s2
 rw[q3,r3] at s3
 have hlen:((MH f p x y b (4*i)).pl p).length=(f.pl p).length:=by
  have h:=TE x y b (4*i) hsz
  have:p=0\/p=1\/p=2:=by omega
  rcases this with rfl|rfl|rfl
  ·exact h.1
  ·exact h.2.1
  ·exact h.2.2
 have e:((LM y+(i:Int))*(Ld f p).1+(Ld f p).1).toNat=((LM y+(i:Int))*(Ld f p).1).toNat+(Ld f p).1.toNat:=Int.toNat_add (by omega) (by omega)
 rw[show 4*(i+1)=4*i+3+1 by omega]
 refine⟨?_,fun q h0 h2 hq=>by rw[s3.2 q h0 h2 hq,s2.2 q h0 h2 hq,s1.2 q h0 h2 hq,s0.2 q h0 h2 hq]⟩
 rw[e,ayY _ _ _ _ _ _ _ _ (by rw[hlen];omega),s3.1,s2.1,s1.1,s0.1]
 rw[show i*4=4*i by omega]
 rw[show LM x+((0:Nat):Int)=LM x by omega]
 rfl
theorem Wn(f:FD)(p:Int):Ld (MR f) p=Ld f p:=by
 by_cases h:QY f
 ·rw[NB h]
 ·rw[OY h,Px (fun k=>h k.1),Px (fun k=>absurd k.1 (by decide))]
theorem Np{f:FD}{p x y:Int}{b:Nat->Int}{i:Nat}(h:¬ (0<=LM y+(i:Int)/\LM y+(i:Int)<(Ld f p).2)):MH f p x y b (4*(i+1))=MH f p x y b (4*i):=by
 rw[show 4*(i+1)=4*i+3+1 by omega]
 rw[S9 (k:=4*i+3) (by unfold N9;rw[show (4*i+3)/4=i by omega];omega),S9 (k:=4*i+2) (by unfold N9;rw[show (4*i+2)/4=i by omega];omega),S9 (k:=4*i+1) (by unfold N9;rw[show (4*i+1)/4=i by omega];omega),S9 (k:=4*i) (by unfold N9;rw[show (4*i)/4=i by omega];omega)]
end Go.Proofs.YtknjpdcpmpfklaaGreatDoor
set_option maxRecDepth 100000
namespace Go.Proofs.YtknjpdcpmpfklaaGreatDoor
open Go.RowKit
theorem L3.of_eq{w:World}{T:Nat->Prop}{v:Value}{l m:List Nat}(e:m=l)(h:L3 w T v l):L3 w T v m:=e ▸ h
theorem Tl{f:FD}{p:Int}(h:0<(Ld f p).2):(Ld f p).1≠0:=by
 by_cases hk:QY f/\0<=p/\p<=2
 ·have:=(Oh hk);omega
 ·rw[Px hk] at h;exact absurd h (by decide)
theorem aDK(p x y:Int)(b:Nat->Int)(f:FD)(f0 f1 f2:Value)(T_f0:Nat->Prop)(T_f1:Nat->Prop)(T_f2:Nat->Prop)(w0:World)(h_f0:Mh w0 T_f0 f0 ((f).p0))(h_f1:Mh w0 T_f1 f1 ((f).p1))(h_f2:Mh w0 T_f2 f2 ((f).p2)) :
  Calls Tryz.prog 43 #[.agg #[.int .i64 ((f).W),.int .i64 ((f).H),f0,f1,f2],.int .i64 (p),.int .i64 (x),.int .i64 (y),LJ (b)] w0 fun e w'=>∃ (v1:Value) (T1:Nat->Prop) (v2:Value) (T2:Nat->Prop) (v3:Value) (T3:Nat->Prop),e = .returned (.agg #[.int .i64 ((Qi f p x y b).W),.int .i64 ((Qi f p x y b).H),v1,v2,v3])/\KO (fun _=>False) w0 w'/\(L3 w' T1 v1 ((Qi f p x y b).p0)/\KP w0 LX T1)/\(L3 w' T2 v2 ((Qi f p x y b).p1)/\KP w0 LX T2)/\(L3 w' T3 v3 ((Qi f p x y b).p2)/\KP w0 LX T3)/\KK T1 T2/\KK T1 T3/\KK T2 T3:=by
 refine Lr (args:=[.agg #[iv (f.W),iv (f.H),f0,f1,f2],iv p,iv x,iv y,LJ b]) 55 Tryz.func43 rfl rfl (Nat.le_of_ble_eq_true rfl) ?_
 have hnx:=UI x
 have hny:=UI y
 have hsb:=Ni f p
 have g_f0:=KP.refl w0 T_f0
 have g_f1:=KP.refl w0 T_f1
 have g_f2:=KP.refl w0 T_f2
 refine KJ (KH (Lz (vs:=[iv (f.W),iv (f.H),f0,f1,f2]) rfl rfl rfl rfl fun p1 w2 B4 g5 k3=>?_))
 obtain⟨dX,dY,dZ⟩:=Nu k3 h_f0 h_f1 h_f2
 refine M3 rfl rfl rfl rfl fun an jt cA d8 cB=>?_
 have d9:=LS (Nat.le_of_eq cA.symm)
 clear cA d9
 obtain⟨eb,ee,eh,ei⟩:=OV cB dX dY dZ B4
 have cC:=((KO.refl (fun _=>False) w0).tr k3).tr cB
 refine LF (n:=5) (vs:=[iv 0,iv 0,.slice none 0 0,.slice none 0 0,.slice none 0 0]) rfl rfl rfl (by kernel_rfl) fun ao bQ bR ek cD=>?_
 obtain⟨bq,bt,bu,bv,bS⟩:=OU cD eb ee eh ei d8
 have bT:=cC.tr cD
 refine KM ?_
 have cE:=K4 (iv p)
 have en:=K4 (iv x)
 have eo:=K4 (iv y)
 have ep:=K4 (undef)
 have er:=K4 (pt p1 0)
 have et:=K4 (pt an 0)
 have eu:=K4 (pt ao 0)
 refine KG (KJ (KH (KI (.agg #[iv (f.W),iv (f.H),f0,f1,f2]) rfl rfl (KZ Lc rfl er bv rr) (LB (R:=fun v_ w_=>∃ (af:Value) (aI:Nat->Prop) (ah:Value) (aJ:Nat->Prop) (ai:Value) (aK:Nat->Prop),.agg #[iv ((MR f).W),iv ((MR f).H),af,ah,ai]=v_/\KO (fun _=>False) bQ w_/\(L3 w_ aI af ((MR f).p0)/\KP bQ LX aI)/\(L3 w_ aJ ah ((MR f).p1)/\KP bQ LX aJ)/\(L3 w_ aK ai ((MR f).p2)/\KP bQ LX aK)/\KK aI aJ/\KK aI aK/\KK aJ aK) rfl rfl (LH rfl rfl rfl (fun _ _=>by kernel_rfl) (K5 _) (Lk rfl LR) (aB8 f f0 f1 f2 T_f0 T_f1 T_f2 _  bq bt bu ) (fun e_ w_ h_=>by obtain⟨v56_,T61_,v57_,T62_,v58_,T63_,he_,hr_⟩:=h_;exact⟨_,he_,v56_,T61_,v57_,T62_,v58_,T63_,rfl,hr_⟩)) ?_))))
 rintro _ ju ⟨af,aI,ah,aJ,ai,aK,rfl,cF,⟨cG,cH⟩,⟨cI,cJ⟩,⟨cK,cL⟩,ew,ex,ey⟩
 obtain⟨cM,cN,cO,cP,cQ,cR⟩:=QB cF bq bt bu bv bS bR
 have cS:=bT.tr cF
 obtain⟨ez,eA,eB,eC,eD,eE⟩:=Vr cH bq bt bu bv bS bR
 obtain⟨eF,eG,eH,eI,eJ,eK⟩:=Vr cJ bq bt bu bv bS bR
 obtain⟨eL,eM,eN,eO,eP,eQ⟩:=Vr cL bq bt bu bv bS bR
 refine LF (n:=5) (vs:=[iv 0,iv 0,.slice none 0 0,.slice none 0 0,.slice none 0 0]) rfl rfl rfl (by kernel_rfl) fun aa jv eR cT cU=>?_
 obtain⟨eS,eT,eU,eV,eW,eX,cV,cW,cX⟩:=aEv cT cM cN cO cP cQ cR cG cI cK
 obtain⟨eY,eZ,e6,e7,e8,e9,cY,cZ,c5⟩:=ayQ cU cM cN cO cP cQ cR cG cI cK
 refine Lj (us:=[iv ((MR f).W),iv ((MR f).H),af,ah,ai]) Lc rfl rfl rfl rfl rfl eR rfl (KX rfl (KX rfl (KX cY.one (KX cZ.one (KX c5.one MG))))) fun jw c6 ap=>?_
 have fa:=eY.all ap eS.symm
 have fb:=eZ.all ap eT.symm
 have fc:=e6.all ap eU.symm
 have fd:=e7.all ap (eV.symm p1 rfl)
 have fe:=e8.all ap (eW.symm an rfl)
 have ff:=e9.all ap (eX.symm ao rfl)
 have c7:=cY.all ap cV.symm
 have c9:=cZ.all ap cW.symm
 have da:=c5.all ap cX.symm
 refine KM ?_
 have db:=K4 (pt aa 0)
 refine KG (KJ (KH (KI (.agg #[iv ((MR f).W),iv ((MR f).H),af,ah,ai]) rfl rfl (KZ Lc rfl db c6 rr) (KR rfl rfl rfl cE (LW rfl rfl rfl rfl rfl (fun _ _=>by kernel_rfl) (Lk rfl (Lk rfl LR)) (Tb p (MR f) af ah ai aI aJ aK _  c7.byt c9.byt da.byt ) fun jx dc=>?_)))))
 obtain⟨fg,fh,fk,fm,fo,fp,fq,ft,fu,fw⟩:=Tw dc fa fb fc fd fe ff c7 c9 da c6
 refine KI (.tuple #[iv ((Ld (MR f) p).1),iv ((Ld (MR f) p).2)]) rfl rfl (KQ rfl rfl rr) (KI (iv ((Ld (MR f) p).1)) rfl rfl (LL rfl rfl rfl rr) (KI (iv ((Ld (MR f) p).2)) rfl rfl (LL rfl rfl rfl rr) (KI (iv ((Ld (MR f) p).1)) rfl rfl (KS rfl rfl rr) (KI (iv ((Ld (MR f) p).2)) rfl rfl (KS rfl rfl rr) (R4 fun bU bV=>?_)))))
 obtain⟨fx,fy,fA,fB,fC,fD,fE⟩:=t7 bV 1 cE 2 en 3 eo 55 ep 9 et 10 eu 11 db
 have fF:bU 12=iv ((Ld (MR f) p).1):=(bV 12).trans rfl
 have fG:bU 13=iv ((Ld (MR f) p).2):=(bV 13).trans rfl
 clear bV
 refine KG (KJ ?_)
 have fH:bU 12=iv ((Ld f p).1):=fF.trans (congrArg (Value.int .i64) (congrArg Prod.fst (Wn f p)))
 have fI:bU 13=iv ((Ld f p).2):=fG.trans (congrArg (Value.int .i64) (congrArg Prod.snd (Wn f p)))
 refine KH (KR rfl rfl rfl fy (LW rfl rfl rfl rfl rfl (fun _ _=>by kernel_rfl) (Lk rfl LR) (Z3 x  _   ) fun jz dd=>?_))
 obtain⟨fJ,fK,fL,fM,fN,fO,fP,fQ,fR,fS⟩:=Tw dd fg fh fk fm fo fp fq ft fu fw
 refine KR rfl rfl rfl fA (LW rfl rfl rfl rfl rfl (fun _ _=>by kernel_rfl) (Lk rfl LR) (Z3 y  _   ) fun jA de=>?_)
 obtain⟨fT,fU,fV,fW,fX,fY,fZ,f6,f7,f8⟩:=Tw de fJ fK fL fM fN fO fP fQ fR fS
 refine KI (iv (LM x)) rfl rfl (KS rfl rfl rr) (KI (iv (LM y)) rfl rfl (KS rfl rfl rr) (KM ?_))
 have f9:=K4 (iv (LM x))
 have ga:=K4 (iv (LM y))
 refine KG (KJ (KJ (KH (KI (iv 0) rfl rfl (KQ rfl rfl rr) (KM ?_)))))
 have gb:=K4 (iv 0)
 refine KG (Lm (MZ (fun nn FF ww=>∃ (i:Nat),∃ (ab:Nat->Prop),∃ (ac:Nat->Prop),∃ (ae:Nat->Prop),(i<=4)/\nn=4-i/\FF 1=iv p/\FF 2=iv (LM x)/\FF 3=iv (LM y)/\FF 9=pt an 0/\FF 10=pt ao 0/\FF 11=pt aa 0/\FF 12=iv ((Ld f p).1)/\FF 13=iv ((Ld f p).2)/\FF 55=undef/\FF 28=iv ((i:Nat):Int)/\KO (fun _=>False) w0 ww/\Mh ww T_f0 f0 (f.p0)/\Mh ww T_f1 f1 (f.p1)/\Mh ww T_f2 f2 (f.p2)/\Mz ww p1 29 [iv (f.W),iv (f.H),f0,f1,f2]/\NL ww an 69 b/\Mz ww ao 29 [iv 0,iv 0,.slice none 0 0,.slice none 0 0,.slice none 0 0]/\L3 ww ab af ((MH f p x y b (4*i)).p0)/\L3 ww ac ah ((MH f p x y b (4*i)).p1)/\L3 ww ae ai ((MH f p x y b (4*i)).p2)/\Mz ww aa 29 [iv ((MR f).W),iv ((MR f).H),af,ah,ai]/\KP w0 LX ab/\KP w0 LX ac/\KP w0 LX ae/\KK ab T_f0/\KK ab T_f1/\KK ab T_f2/\KK ab (Lf p1)/\KK ab (Lf an)/\KK ab (Lf ao)/\KK ab ac/\KK ab ae/\KK ab (Lf aa)/\KK ac T_f0/\KK ac T_f1/\KK ac T_f2/\KK ac (Lf p1)/\KK ac (Lf an)/\KK ac (Lf ao)/\KK ac ae/\KK ac (Lf aa)/\KK ae T_f0/\KK ae T_f1/\KK ae T_f2/\KK ae (Lf p1)/\KK ae (Lf an)/\KK ae (Lf ao)/\KK ae (Lf aa)) (4-0) ⟨0,aI,aJ,aK,by omega,rfl,fx,f9,ga,fC,fD,fE,fH,fI,fB,gb,(((((cS.tr cU).trans ap (KP.ok (S:=fun _=>False) (KP.new cS cT) K3)).tr dc).tr dd).tr de),fT,fU,fV,fW,fX,fY,fZ,f6,f7,f8,(KP.new bT cH),(KP.new bT cJ),(KP.new bT cL),ez,eA,eB,eC,eD,eE,ew,ex,cV.symm,eF,eG,eH,eI,eJ,eK,ey,cW.symm,eL,eM,eN,eO,eP,eQ,cX.symm⟩ ?_))
 rintro jB jC jD ⟨i,ab,ac,ae,i230,hn229,aA,aB,aT,aC,aL,aw,aD,aU,aV,aM,aW,bz,bA,bB,bC,aE,aX,aj,ak,am,az,aN,aO,aP,aY,aZ,a8,a9,ba,aQ,aF,aG,bb,bc,bd,be,bf,bg,aR,aH,bh,bi,bj,bl,bm,bn,aS,bo⟩
 refine KJ (KH (KI (.bool (decide (((i:Nat):Int)<4))) rfl rfl (L4 rfl aM rfl rfl rr) (KM ?_)))
 have gc:=K4 (.bool (decide (((i:Nat):Int)<4)))
 refine KG (KJ ?_)
 refine K6 gc (fun bD=>?_) (fun bD=>?_)
 ·replace bD:=of_decide_eq_true bD
  refine Lg (KG (KJ (Lm (KJ (KH (KR rfl rfl rfl aM (KI (iv ((i:Nat):Int)) rfl rfl (KS rfl rfl rr) (KM ?_))))))))
  have bW:=K4 (iv ((i:Nat):Int))
  refine KG (KJ (KH (KR rfl rfl rfl aT (KR rfl rfl rfl bW (KI (iv ((LM y)+((i:Nat):Int))) rfl rfl (LP rfl rfl rfl (L2 rfl (by omega)) rr) (KI (iv ((LM y)+((i:Nat):Int))) rfl rfl (KS rfl rfl rr) (KM ?_)))))))
  have bp:=K4 (iv ((LM y)+((i:Nat):Int)))
  refine KG (KJ ?_)
  by_cases df:0<=((LM y)+((i:Nat):Int))
  ·skip
   refine KH (KR rfl rfl rfl bp (KI (.bool true) rfl rfl (Nf rfl rfl rfl (decide_eq_true df) rr) (KI (.bool true) rfl rfl (KQ rfl rfl rr) (KT (iv ((LM y)+((i:Nat):Int))) 2 true 36 rfl rfl rfl rfl rfl (KQ rfl bp rr) (KT (iv ((Ld f p).2)) 2 true 36 rfl rfl rfl rfl rfl (KQ rfl aU rr) (KT (.bool (decide (((LM y)+((i:Nat):Int))<((Ld f p).2)))) 2 true 36 rfl rfl rfl rfl rfl (L4 rfl rfl rfl rfl rr) (KI (.bool (decide (((LM y)+((i:Nat):Int))<((Ld f p).2)))) rfl rfl (Lo rfl rfl rfl rr) (KM ?_))))))))
   have gd:=K4 (.bool (decide (((LM y)+((i:Nat):Int))<((Ld f p).2))))
   refine KG ?_
   refine K6 gd (fun bE=>?_) (fun bE=>?_)
   ·replace bE:=of_decide_eq_true bE
    rcases (show p=0\/p=1\/p=2 from SX (f:=f) (Tl (by omega))) with rfl|rfl|rfl
    ·skip
     have hsz:(Ld f 0).1≠0:=Tl (by omega)
     have hsp:=Oh (NC hsz)
     have hL := @VX f 0 x y b i (by decide) (by decide) hsz ⟨by omega,by omega⟩
     have hin2:N9 (Ld f 0).1 (Ld f 0).2 ((Ld f 0).1-1) (LM y+(i:Int)):=⟨by omega,by omega,by omega,by omega⟩
     have hc:=OL hin2
     have hls:=TE x y b (4*i) hsz
     have dg:(f.pl 0).length=f.p0.length:=rfl
     have dh:(f.pl 1).length=f.p1.length:=rfl
     have di:(f.pl 2).length=f.p2.length:=rfl
     refine Na 11 [some 41,some 42,some 43,some 44,some 45,some 46,some 47,some 48,some 49,some 50,some 51] [Pd.eq (iv 0),Pd.eq (pt aa 2),Pd.eq (pt aa 2),Pd.eq af,Pd.eq (iv ((Ld f 0).1)),Pd.eq (iv ((LM y)+((i:Nat):Int))),Pd.eq (Mr af ((((LM y)+((i:Nat):Int))*((Ld f 0).1)).toNat) ((((LM y)+((i:Nat):Int))*((Ld f 0).1)+((Ld f 0).1)).toNat) ((((LM y)+((i:Nat):Int))*((Ld f 0).1)+((Ld f 0).1)).toNat)),Pd.eq (iv (LM x)),Pd.eq (LJ b),Pd.eq (iv ((i:Nat):Int)),Pd.eq (.agg #[.int .u8 ((LU (b (i*4)):Nat):Int),.int .u8 ((LU (b (i*4+1)):Nat):Int),.int .u8 ((LU (b (i*4+2)):Nat):Int),.int .u8 ((LU (b (i*4+3)):Nat):Int)])] (by kernel_rfl) (by kernel_rfl) (by kernel_rfl) ?_ ?_
     ·refine KL ?_ ?_
      ·refine La.one rfl fun F_ w_ hR hout hD=>?_
       exact(KQ rfl ((hout 1 rfl (by decide)).trans aA) ⟨rfl,KO.refl _ _⟩)
      refine KL ?_ ?_
      ·refine La.one rfl fun F_ w_ hR hout hD=>?_
       exact(KU (n:=3) rfl ((hout 11 rfl (by decide)).trans aw) Tryz.underlying29 rfl (by kernel_rfl) (by decide) rfl ⟨rfl,KO.refl _ _⟩)
      refine KL ?_ ?_
      ·refine La.one rfl fun F_ w_ hR hout hD=>?_
       have bF:F_ 42=pt aa 2:=(hD.get 0 rfl rfl rfl)
       have bG:F_ 41=iv 0:=(hD.get 1 rfl rfl rfl)
       exact(LV 0 (s:=1) rfl bF bG (by omega) Tryz.underlying27 (by omega) (by kernel_rfl) (by omega) ⟨rfl,KO.refl _ _⟩)
      refine KL ?_ ?_
      ·refine La.one rfl fun F_ w_ hR hout hD=>?_
       have bH:F_ 43=pt aa 2:=(hD.get 0 rfl rfl rfl)
       exact(KY rfl bH Tryz.underlying26 (az.all hR id) rfl rfl ⟨rfl,KO.refl _ _⟩)
      refine KL ?_ ?_
      ·refine La.one rfl fun F_ w_ hR hout hD=>?_
       exact(KQ rfl ((hout 12 rfl (by decide)).trans aD) ⟨rfl,KO.refl _ _⟩)
      refine KL ?_ ?_
      ·refine La.one rfl fun F_ w_ hR hout hD=>?_
       exact(KQ rfl ((hout 15 rfl (by decide)).trans bp) ⟨rfl,KO.refl _ _⟩)
      refine KL ?_ ?_
      ·refine La.one rfl fun F_ w_ hR hout hD=>?_
       have bI:F_ 44=af:=(hD.get 0 rfl rfl rfl)
       have bJ:F_ 45=iv ((Ld f 0).1):=(hD.get 1 rfl rfl rfl)
       have bK:F_ 46=iv ((LM y)+((i:Nat):Int)):=(hD.get 2 rfl rfl rfl)
       exact(LH rfl rfl rfl (fun _ _=>by kernel_rfl) (K5 _) (Lk bI (Lk bJ (Lk bK LR))) (SU af ((MH f 0 x y b (4*i)).p0) ((Ld f 0).1) ((LM y)+((i:Nat):Int)) ab _ (by omega) (by omega) (by omega) (by omega) (aj.all hR KK.none).byt ) (fun e_ w_ h_=>⟨_,h_.1,rfl,h_.2⟩))
      refine KL ?_ ?_
      ·refine La.one rfl fun F_ w_ hR hout hD=>?_
       exact(KQ rfl ((hout 2 rfl (by decide)).trans aB) ⟨rfl,KO.refl _ _⟩)
      refine KL ?_ ?_
      ·refine La.one rfl fun F_ w_ hR hout hD=>?_
       exact(LY KW rfl ((hout 9 rfl (by decide)).trans aC) (aE.all hR id) ⟨rfl,KO.refl _ _⟩)
      refine KL ?_ ?_
      ·refine La.one rfl fun F_ w_ hR hout hD=>?_
       exact(KQ rfl ((hout 14 rfl (by decide)).trans bW) ⟨rfl,KO.refl _ _⟩)
      refine KL ?_ ?_
      ·refine La.one rfl fun F_ w_ hR hout hD=>?_
       have bL:F_ 49=LJ b:=(hD.get 0 rfl rfl rfl)
       have bM:F_ 50=iv ((i:Nat):Int):=(hD.get 1 rfl rfl rfl)
       exact(LH rfl rfl rfl (fun _ _=>by kernel_rfl) (K5 _) (Lk bL (Lk bM LR)) (WV b i  _ (by omega)  ) (fun e_ w_ h_=>⟨_,h_.1,rfl,h_.2⟩))
      exact L0
     intro jE ce dj dk bX bN
     obtain⟨dl,dm,dn,dp,dq,dr,ge,dt,du,dv⟩:=Tw dk bz bA bB bC aE aX aj ak am az
     have dw:=aW.tr dk
     obtain⟨gh,gi,gj,gl,gm,gn,go,gp,gq,gr⟩:=t10 bN 1 aA 2 aB 3 aT 9 aC 10 aL 11 aw 12 aD 13 aU 55 aV 28 aM
     have gt:ce 47=Mr af ((((LM y)+((i:Nat):Int))*((Ld f 0).1)).toNat) ((((LM y)+((i:Nat):Int))*((Ld f 0).1)+((Ld f 0).1)).toNat) ((((LM y)+((i:Nat):Int))*((Ld f 0).1)+((Ld f 0).1)).toNat):=(bN 47).trans (bX 6 (by decide))
     have gu:ce 48=iv (LM x):=(bN 48).trans (bX 7 (by decide))
     have gv:ce 51 = .agg #[.int .u8 ((LU (b (i*4)):Nat):Int),.int .u8 ((LU (b (i*4+1)):Nat):Int),.int .u8 ((LU (b (i*4+2)):Nat):Int),.int .u8 ((LU (b (i*4+3)):Nat):Int)]:=(bN 51).trans (bX 10 (by decide))
     clear bX bN
     refine LB (R:=fun v_ w_=>∃ (bY:Nat->Prop),.tuple #[]=v_/\KO ab dj w_/\(L3 w_ bY af (Za ((MH f 0 x y b (4*i)).p0) ((((LM y)+((i:Nat):Int))*((Ld f 0).1)).toNat) ((((LM y)+((i:Nat):Int))*((Ld f 0).1)+((Ld f 0).1)).toNat) (LM x) [(LU (b (i*4))),(LU (b (i*4+1))),(LU (b (i*4+2))),(LU (b (i*4+3)))])/\KP dj ab bY)) rfl rfl (LH rfl rfl rfl (fun _ _=>by kernel_rfl) (K5 _) (Lk gt (Lk gu (Lk gv LR))) (Zr af ((MH f 0 x y b (4*i)).p0) ((((LM y)+((i:Nat):Int))*((Ld f 0).1)).toNat) ((((LM y)+((i:Nat):Int))*((Ld f 0).1)+((Ld f 0).1)).toNat) (LM x) (LU (b (i*4))) (LU (b (i*4+1))) (LU (b (i*4+2))) (LU (b (i*4+3))) ab _ (by omega) (by omega) (by omega) (N7 _) (N7 _) (N7 _) (N7 _) ge ) (fun e_ w_ h_=>by obtain⟨T369_,he_,hr_⟩:=h_;exact⟨_,he_,T369_,rfl,hr_⟩)) ?_
     rintro _ jF ⟨bY,rfl,aq,⟨cf,cg⟩⟩
     have gw:=dl.all aq aY.symm
     have gz:=dm.all aq aZ.symm
     have gA:=dn.all aq a8.symm
     have gB:=dp.all aq (a9.symm p1 rfl)
     have gC:=dq.all aq (ba.symm an rfl)
     have gD:=dr.all aq (aQ.symm ao rfl)
     have ci:=dt.all aq aF.symm
     have cj:=du.all aq aG.symm
     have gE:=dv.all aq (bb.symm aa rfl)
     obtain⟨gF,gG,gH,gI,gJ,gK,gL,gM⟩:=RS cg aY dl aZ dm a8 dn a9 dp ba dq aQ dr aF dt aG du
     have gN:=bb.grew cg (LT dv.lt)
     refine KM ?_
     refine LC (KG (KH (KI (iv ((i+1:Nat):Int)) rfl rfl (LP rfl gr rfl (L6 (by omega) (by omega)) rr) (KI (iv ((i+1:Nat):Int)) rfl rfl (KQ rfl rfl rr) (KM ?_)))))
     have gO:=K4 (iv ((i+1:Nat):Int))
     exact KG ⟨(4-(i+1)),by omega,i+1,bY,ac,ae,by omega,rfl,gh,gi,gj,gl,gm,gn,go,gp,gq,gO,(dw.trans aq (fun i hi x=>((KP.ok (S:=fun _=>False) aN K3) i hi x))),gw,gz,gA,gB,gC,gD,(by first|exact L3.of_eq hL.1 cf|exact L3.of_eq (hL.2 0 (by decide) (by decide) (by decide)) cf|exact L3.of_eq (congrArg FD.p0 (Np (by omega))) cf),(by first|exact L3.of_eq hL.1 ci|exact L3.of_eq (hL.2 1 (by decide) (by decide) (by decide)) ci|exact L3.of_eq (congrArg FD.p1 (Np (by omega))) ci),(by first|exact L3.of_eq hL.1 cj|exact L3.of_eq (hL.2 2 (by decide) (by decide) (by decide)) cj|exact L3.of_eq (congrArg FD.p2 (Np (by omega))) cj),gE,(aN.trans dw cg),aO,aP,gF,gG,gH,gI,gJ,gK,gL,gM,gN,bc,bd,be,bf,bg,aR,aH,bh,bi,bj,bl,bm,bn,aS,bo⟩
    ·skip
     have hsz:(Ld f 1).1≠0:=Tl (by omega)
     have hsp:=Oh (NC hsz)
     have hL := @VX f 1 x y b i (by decide) (by decide) hsz ⟨by omega,by omega⟩
     have hin2:N9 (Ld f 1).1 (Ld f 1).2 ((Ld f 1).1-1) (LM y+(i:Int)):=⟨by omega,by omega,by omega,by omega⟩
     have hc:=OL hin2
     have hls:=TE x y b (4*i) hsz
     have dg:(f.pl 0).length=f.p0.length:=rfl
     have dh:(f.pl 1).length=f.p1.length:=rfl
     have di:(f.pl 2).length=f.p2.length:=rfl
     refine Na 11 [some 41,some 42,some 43,some 44,some 45,some 46,some 47,some 48,some 49,some 50,some 51] [Pd.eq (iv 1),Pd.eq (pt aa 2),Pd.eq (pt aa 3),Pd.eq ah,Pd.eq (iv ((Ld f 1).1)),Pd.eq (iv ((LM y)+((i:Nat):Int))),Pd.eq (Mr ah ((((LM y)+((i:Nat):Int))*((Ld f 1).1)).toNat) ((((LM y)+((i:Nat):Int))*((Ld f 1).1)+((Ld f 1).1)).toNat) ((((LM y)+((i:Nat):Int))*((Ld f 1).1)+((Ld f 1).1)).toNat)),Pd.eq (iv (LM x)),Pd.eq (LJ b),Pd.eq (iv ((i:Nat):Int)),Pd.eq (.agg #[.int .u8 ((LU (b (i*4)):Nat):Int),.int .u8 ((LU (b (i*4+1)):Nat):Int),.int .u8 ((LU (b (i*4+2)):Nat):Int),.int .u8 ((LU (b (i*4+3)):Nat):Int)])] (by kernel_rfl) (by kernel_rfl) (by kernel_rfl) ?_ ?_
     ·refine KL ?_ ?_
      ·refine La.one rfl fun F_ w_ hR hout hD=>?_
       exact(KQ rfl ((hout 1 rfl (by decide)).trans aA) ⟨rfl,KO.refl _ _⟩)
      refine KL ?_ ?_
      ·refine La.one rfl fun F_ w_ hR hout hD=>?_
       exact(KU (n:=3) rfl ((hout 11 rfl (by decide)).trans aw) Tryz.underlying29 rfl (by kernel_rfl) (by decide) rfl ⟨rfl,KO.refl _ _⟩)
      refine KL ?_ ?_
      ·refine La.one rfl fun F_ w_ hR hout hD=>?_
       have bF:F_ 42=pt aa 2:=(hD.get 0 rfl rfl rfl)
       have bG:F_ 41=iv 1:=(hD.get 1 rfl rfl rfl)
       exact(LV 1 (s:=1) rfl bF bG (by omega) Tryz.underlying27 (by omega) (by kernel_rfl) (by omega) ⟨rfl,KO.refl _ _⟩)
      refine KL ?_ ?_
      ·refine La.one rfl fun F_ w_ hR hout hD=>?_
       have bH:F_ 43=pt aa 3:=(hD.get 0 rfl rfl rfl)
       exact(KY rfl bH Tryz.underlying26 (az.all hR id) rfl rfl ⟨rfl,KO.refl _ _⟩)
      refine KL ?_ ?_
      ·refine La.one rfl fun F_ w_ hR hout hD=>?_
       exact(KQ rfl ((hout 12 rfl (by decide)).trans aD) ⟨rfl,KO.refl _ _⟩)
      refine KL ?_ ?_
      ·refine La.one rfl fun F_ w_ hR hout hD=>?_
       exact(KQ rfl ((hout 15 rfl (by decide)).trans bp) ⟨rfl,KO.refl _ _⟩)
      refine KL ?_ ?_
      ·refine La.one rfl fun F_ w_ hR hout hD=>?_
       have bI:F_ 44=ah:=(hD.get 0 rfl rfl rfl)
       have bJ:F_ 45=iv ((Ld f 1).1):=(hD.get 1 rfl rfl rfl)
       have bK:F_ 46=iv ((LM y)+((i:Nat):Int)):=(hD.get 2 rfl rfl rfl)
       exact(LH rfl rfl rfl (fun _ _=>by kernel_rfl) (K5 _) (Lk bI (Lk bJ (Lk bK LR))) (SU ah ((MH f 1 x y b (4*i)).p1) ((Ld f 1).1) ((LM y)+((i:Nat):Int)) ac _ (by omega) (by omega) (by omega) (by omega) (ak.all hR KK.none).byt ) (fun e_ w_ h_=>⟨_,h_.1,rfl,h_.2⟩))
      refine KL ?_ ?_
      ·refine La.one rfl fun F_ w_ hR hout hD=>?_
       exact(KQ rfl ((hout 2 rfl (by decide)).trans aB) ⟨rfl,KO.refl _ _⟩)
      refine KL ?_ ?_
      ·refine La.one rfl fun F_ w_ hR hout hD=>?_
       exact(LY KW rfl ((hout 9 rfl (by decide)).trans aC) (aE.all hR id) ⟨rfl,KO.refl _ _⟩)
      refine KL ?_ ?_
      ·refine La.one rfl fun F_ w_ hR hout hD=>?_
       exact(KQ rfl ((hout 14 rfl (by decide)).trans bW) ⟨rfl,KO.refl _ _⟩)
      refine KL ?_ ?_
      ·refine La.one rfl fun F_ w_ hR hout hD=>?_
       have bL:F_ 49=LJ b:=(hD.get 0 rfl rfl rfl)
       have bM:F_ 50=iv ((i:Nat):Int):=(hD.get 1 rfl rfl rfl)
       exact(LH rfl rfl rfl (fun _ _=>by kernel_rfl) (K5 _) (Lk bL (Lk bM LR)) (WV b i  _ (by omega)  ) (fun e_ w_ h_=>⟨_,h_.1,rfl,h_.2⟩))
      exact L0
     intro jG cm dy dz bZ bO
     obtain⟨dA,dB,dC,dD,dE,dF,dG,gP,dH,dI⟩:=Tw dz bz bA bB bC aE aX aj ak am az
     have dJ:=aW.tr dz
     obtain⟨gQ,gR,gS,gT,gU,gV,gW,gZ,hP,hQ⟩:=t10 bO 1 aA 2 aB 3 aT 9 aC 10 aL 11 aw 12 aD 13 aU 55 aV 28 aM
     have hZ:cm 47=Mr ah ((((LM y)+((i:Nat):Int))*((Ld f 1).1)).toNat) ((((LM y)+((i:Nat):Int))*((Ld f 1).1)+((Ld f 1).1)).toNat) ((((LM y)+((i:Nat):Int))*((Ld f 1).1)+((Ld f 1).1)).toNat):=(bO 47).trans (bZ 6 (by decide))
     have ia:cm 48=iv (LM x):=(bO 48).trans (bZ 7 (by decide))
     have ib:cm 51 = .agg #[.int .u8 ((LU (b (i*4)):Nat):Int),.int .u8 ((LU (b (i*4+1)):Nat):Int),.int .u8 ((LU (b (i*4+2)):Nat):Int),.int .u8 ((LU (b (i*4+3)):Nat):Int)]:=(bO 51).trans (bZ 10 (by decide))
     clear bZ bO
     refine LB (R:=fun v_ w_=>∃ (b7:Nat->Prop),.tuple #[]=v_/\KO ac dy w_/\(L3 w_ b7 ah (Za ((MH f 1 x y b (4*i)).p1) ((((LM y)+((i:Nat):Int))*((Ld f 1).1)).toNat) ((((LM y)+((i:Nat):Int))*((Ld f 1).1)+((Ld f 1).1)).toNat) (LM x) [(LU (b (i*4))),(LU (b (i*4+1))),(LU (b (i*4+2))),(LU (b (i*4+3)))])/\KP dy ac b7)) rfl rfl (LH rfl rfl rfl (fun _ _=>by kernel_rfl) (K5 _) (Lk hZ (Lk ia (Lk ib LR))) (Zr ah ((MH f 1 x y b (4*i)).p1) ((((LM y)+((i:Nat):Int))*((Ld f 1).1)).toNat) ((((LM y)+((i:Nat):Int))*((Ld f 1).1)+((Ld f 1).1)).toNat) (LM x) (LU (b (i*4))) (LU (b (i*4+1))) (LU (b (i*4+2))) (LU (b (i*4+3))) ac _ (by omega) (by omega) (by omega) (N7 _) (N7 _) (N7 _) (N7 _) gP ) (fun e_ w_ h_=>by obtain⟨T449_,he_,hr_⟩:=h_;exact⟨_,he_,T449_,rfl,hr_⟩)) ?_
     rintro _ jH ⟨b7,rfl,ar,⟨cn,co⟩⟩
     have ie:=dA.all ar bc.symm
     have ig:=dB.all ar bd.symm
     have ii:=dC.all ar be.symm
     have ij:=dD.all ar (bf.symm p1 rfl)
     have ik:=dE.all ar (bg.symm an rfl)
     have io:=dF.all ar (aR.symm ao rfl)
     have cq:=dG.all ar aF
     have cr:=dH.all ar aH.symm
     have ip:=dI.all ar (bh.symm aa rfl)
     obtain⟨iq,ir,iu,iw,iy,iz,iA,iB⟩:=RS co bc dA bd dB be dC bf dD bg dE aR dF (aF.symm) dG aH dH
     have iC:=bh.grew co (LT dI.lt)
     refine KM ?_
     refine LC (KG (KH (KI (iv ((i+1:Nat):Int)) rfl rfl (LP rfl hQ rfl (L6 (by omega) (by omega)) rr) (KI (iv ((i+1:Nat):Int)) rfl rfl (KQ rfl rfl rr) (KM ?_)))))
     have iD:=K4 (iv ((i+1:Nat):Int))
     exact KG ⟨(4-(i+1)),by omega,i+1,ab,b7,ae,by omega,rfl,gQ,gR,gS,gT,gU,gV,gW,gZ,hP,iD,(dJ.trans ar (fun i hi x=>((KP.ok (S:=fun _=>False) aO K3) i hi x))),ie,ig,ii,ij,ik,io,(by first|exact L3.of_eq hL.1 cq|exact L3.of_eq (hL.2 0 (by decide) (by decide) (by decide)) cq|exact L3.of_eq (congrArg FD.p0 (Np (by omega))) cq),(by first|exact L3.of_eq hL.1 cn|exact L3.of_eq (hL.2 1 (by decide) (by decide) (by decide)) cn|exact L3.of_eq (congrArg FD.p1 (Np (by omega))) cn),(by first|exact L3.of_eq hL.1 cr|exact L3.of_eq (hL.2 2 (by decide) (by decide) (by decide)) cr|exact L3.of_eq (congrArg FD.p2 (Np (by omega))) cr),ip,aN,(aO.trans dJ co),aP,aY,aZ,a8,a9,ba,aQ,iA.symm,aG,bb,iq,ir,iu,iw,iy,iz,iB,iC,bi,bj,bl,bm,bn,aS,bo⟩
    ·skip
     have hsz:(Ld f 2).1≠0:=Tl (by omega)
     have hsp:=Oh (NC hsz)
     have hL := @VX f 2 x y b i (by decide) (by decide) hsz ⟨by omega,by omega⟩
     have hin2:N9 (Ld f 2).1 (Ld f 2).2 ((Ld f 2).1-1) (LM y+(i:Int)):=⟨by omega,by omega,by omega,by omega⟩
     have hc:=OL hin2
     have hls:=TE x y b (4*i) hsz
     have dg:(f.pl 0).length=f.p0.length:=rfl
     have dh:(f.pl 1).length=f.p1.length:=rfl
     have di:(f.pl 2).length=f.p2.length:=rfl
     refine Na 11 [some 41,some 42,some 43,some 44,some 45,some 46,some 47,some 48,some 49,some 50,some 51] [Pd.eq (iv 2),Pd.eq (pt aa 2),Pd.eq (pt aa 4),Pd.eq ai,Pd.eq (iv ((Ld f 2).1)),Pd.eq (iv ((LM y)+((i:Nat):Int))),Pd.eq (Mr ai ((((LM y)+((i:Nat):Int))*((Ld f 2).1)).toNat) ((((LM y)+((i:Nat):Int))*((Ld f 2).1)+((Ld f 2).1)).toNat) ((((LM y)+((i:Nat):Int))*((Ld f 2).1)+((Ld f 2).1)).toNat)),Pd.eq (iv (LM x)),Pd.eq (LJ b),Pd.eq (iv ((i:Nat):Int)),Pd.eq (.agg #[.int .u8 ((LU (b (i*4)):Nat):Int),.int .u8 ((LU (b (i*4+1)):Nat):Int),.int .u8 ((LU (b (i*4+2)):Nat):Int),.int .u8 ((LU (b (i*4+3)):Nat):Int)])] (by kernel_rfl) (by kernel_rfl) (by kernel_rfl) ?_ ?_
     ·refine KL ?_ ?_
      ·refine La.one rfl fun F_ w_ hR hout hD=>?_
       exact(KQ rfl ((hout 1 rfl (by decide)).trans aA) ⟨rfl,KO.refl _ _⟩)
      refine KL ?_ ?_
      ·refine La.one rfl fun F_ w_ hR hout hD=>?_
       exact(KU (n:=3) rfl ((hout 11 rfl (by decide)).trans aw) Tryz.underlying29 rfl (by kernel_rfl) (by decide) rfl ⟨rfl,KO.refl _ _⟩)
      refine KL ?_ ?_
      ·refine La.one rfl fun F_ w_ hR hout hD=>?_
       have bF:F_ 42=pt aa 2:=(hD.get 0 rfl rfl rfl)
       have bG:F_ 41=iv 2:=(hD.get 1 rfl rfl rfl)
       exact(LV 2 (s:=1) rfl bF bG (by omega) Tryz.underlying27 (by omega) (by kernel_rfl) (by omega) ⟨rfl,KO.refl _ _⟩)
      refine KL ?_ ?_
      ·refine La.one rfl fun F_ w_ hR hout hD=>?_
       have bH:F_ 43=pt aa 4:=(hD.get 0 rfl rfl rfl)
       exact(KY rfl bH Tryz.underlying26 (az.all hR id) rfl rfl ⟨rfl,KO.refl _ _⟩)
      refine KL ?_ ?_
      ·refine La.one rfl fun F_ w_ hR hout hD=>?_
       exact(KQ rfl ((hout 12 rfl (by decide)).trans aD) ⟨rfl,KO.refl _ _⟩)
      refine KL ?_ ?_
      ·refine La.one rfl fun F_ w_ hR hout hD=>?_
       exact(KQ rfl ((hout 15 rfl (by decide)).trans bp) ⟨rfl,KO.refl _ _⟩)
      refine KL ?_ ?_
      ·refine La.one rfl fun F_ w_ hR hout hD=>?_
       have bI:F_ 44=ai:=(hD.get 0 rfl rfl rfl)
       have bJ:F_ 45=iv ((Ld f 2).1):=(hD.get 1 rfl rfl rfl)
       have bK:F_ 46=iv ((LM y)+((i:Nat):Int)):=(hD.get 2 rfl rfl rfl)
       exact(LH rfl rfl rfl (fun _ _=>by kernel_rfl) (K5 _) (Lk bI (Lk bJ (Lk bK LR))) (SU ai ((MH f 2 x y b (4*i)).p2) ((Ld f 2).1) ((LM y)+((i:Nat):Int)) ae _ (by omega) (by omega) (by omega) (by omega) (am.all hR KK.none).byt ) (fun e_ w_ h_=>⟨_,h_.1,rfl,h_.2⟩))
      refine KL ?_ ?_
      ·refine La.one rfl fun F_ w_ hR hout hD=>?_
       exact(KQ rfl ((hout 2 rfl (by decide)).trans aB) ⟨rfl,KO.refl _ _⟩)
      refine KL ?_ ?_
      ·refine La.one rfl fun F_ w_ hR hout hD=>?_
       exact(LY KW rfl ((hout 9 rfl (by decide)).trans aC) (aE.all hR id) ⟨rfl,KO.refl _ _⟩)
      refine KL ?_ ?_
      ·refine La.one rfl fun F_ w_ hR hout hD=>?_
       exact(KQ rfl ((hout 14 rfl (by decide)).trans bW) ⟨rfl,KO.refl _ _⟩)
      refine KL ?_ ?_
      ·refine La.one rfl fun F_ w_ hR hout hD=>?_
       have bL:F_ 49=LJ b:=(hD.get 0 rfl rfl rfl)
       have bM:F_ 50=iv ((i:Nat):Int):=(hD.get 1 rfl rfl rfl)
       exact(LH rfl rfl rfl (fun _ _=>by kernel_rfl) (K5 _) (Lk bL (Lk bM LR)) (WV b i  _ (by omega)  ) (fun e_ w_ h_=>⟨_,h_.1,rfl,h_.2⟩))
      exact L0
     intro jI ct dK dL b8 bP
     obtain⟨dM,dN,dO,dP,dQ,dR,dS,dT,iE,dU⟩:=Tw dL bz bA bB bC aE aX aj ak am az
     have dV:=aW.tr dL
     obtain⟨iF,iG,iH,iI,iJ,iK,iL,iM,iN,iO⟩:=t10 bP 1 aA 2 aB 3 aT 9 aC 10 aL 11 aw 12 aD 13 aU 55 aV 28 aM
     have iP:ct 47=Mr ai ((((LM y)+((i:Nat):Int))*((Ld f 2).1)).toNat) ((((LM y)+((i:Nat):Int))*((Ld f 2).1)+((Ld f 2).1)).toNat) ((((LM y)+((i:Nat):Int))*((Ld f 2).1)+((Ld f 2).1)).toNat):=(bP 47).trans (b8 6 (by decide))
     have iQ:ct 48=iv (LM x):=(bP 48).trans (b8 7 (by decide))
     have iR:ct 51 = .agg #[.int .u8 ((LU (b (i*4)):Nat):Int),.int .u8 ((LU (b (i*4+1)):Nat):Int),.int .u8 ((LU (b (i*4+2)):Nat):Int),.int .u8 ((LU (b (i*4+3)):Nat):Int)]:=(bP 51).trans (b8 10 (by decide))
     clear b8 bP
     refine LB (R:=fun v_ w_=>∃ (b9:Nat->Prop),.tuple #[]=v_/\KO ae dK w_/\(L3 w_ b9 ai (Za ((MH f 2 x y b (4*i)).p2) ((((LM y)+((i:Nat):Int))*((Ld f 2).1)).toNat) ((((LM y)+((i:Nat):Int))*((Ld f 2).1)+((Ld f 2).1)).toNat) (LM x) [(LU (b (i*4))),(LU (b (i*4+1))),(LU (b (i*4+2))),(LU (b (i*4+3)))])/\KP dK ae b9)) rfl rfl (LH rfl rfl rfl (fun _ _=>by kernel_rfl) (K5 _) (Lk iP (Lk iQ (Lk iR LR))) (Zr ai ((MH f 2 x y b (4*i)).p2) ((((LM y)+((i:Nat):Int))*((Ld f 2).1)).toNat) ((((LM y)+((i:Nat):Int))*((Ld f 2).1)+((Ld f 2).1)).toNat) (LM x) (LU (b (i*4))) (LU (b (i*4+1))) (LU (b (i*4+2))) (LU (b (i*4+3))) ae _ (by omega) (by omega) (by omega) (N7 _) (N7 _) (N7 _) (N7 _) iE ) (fun e_ w_ h_=>by obtain⟨T529_,he_,hr_⟩:=h_;exact⟨_,he_,T529_,rfl,hr_⟩)) ?_
     rintro _ jJ ⟨b9,rfl,au,⟨cu,cv⟩⟩
     have iS:=dM.all au bi.symm
     have iT:=dN.all au bj.symm
     have iU:=dO.all au bl.symm
     have iV:=dP.all au (bm.symm p1 rfl)
     have iW:=dQ.all au (bn.symm an rfl)
     have iX:=dR.all au (aS.symm ao rfl)
     have cw:=dS.all au aG
     have cy:=dT.all au aH
     have iY:=dU.all au (bo.symm aa rfl)
     obtain⟨iZ,ja,jb,jc,jd,je,jf,jg⟩:=RS cv bi dM bj dN bl dO bm dP bn dQ aS dR (aG.symm) dS (aH.symm) dT
     have jh:=bo.grew cv (LT dU.lt)
     refine KM ?_
     refine LC (KG (KH (KI (iv ((i+1:Nat):Int)) rfl rfl (LP rfl iO rfl (L6 (by omega) (by omega)) rr) (KI (iv ((i+1:Nat):Int)) rfl rfl (KQ rfl rfl rr) (KM ?_)))))
     have ji:=K4 (iv ((i+1:Nat):Int))
     exact KG ⟨(4-(i+1)),by omega,i+1,ab,ac,b9,by omega,rfl,iF,iG,iH,iI,iJ,iK,iL,iM,iN,ji,(dV.trans au (fun i hi x=>((KP.ok (S:=fun _=>False) aP K3) i hi x))),iS,iT,iU,iV,iW,iX,(by first|exact L3.of_eq hL.1 cw|exact L3.of_eq (hL.2 0 (by decide) (by decide) (by decide)) cw|exact L3.of_eq (congrArg FD.p0 (Np (by omega))) cw),(by first|exact L3.of_eq hL.1 cy|exact L3.of_eq (hL.2 1 (by decide) (by decide) (by decide)) cy|exact L3.of_eq (congrArg FD.p1 (Np (by omega))) cy),(by first|exact L3.of_eq hL.1 cu|exact L3.of_eq (hL.2 2 (by decide) (by decide) (by decide)) cu|exact L3.of_eq (congrArg FD.p2 (Np (by omega))) cu),iY,aN,aO,(aP.trans dV cv),aY,aZ,a8,a9,ba,aQ,aF,jf.symm,bb,bc,bd,be,bf,bg,aR,jg.symm,bh,iZ,ja,jb,jc,jd,je,jh⟩
   ·replace bE:=of_decide_eq_false bE
    refine Lg (LC (KG (KH (KI (iv ((i+1:Nat):Int)) rfl rfl (LP rfl aM rfl (L6 (by omega) (by omega)) rr) (KI (iv ((i+1:Nat):Int)) rfl rfl (KQ rfl rfl rr) (KM ?_))))))
    have jj:=K4 (iv ((i+1:Nat):Int))
    exact KG ⟨(4-(i+1)),by omega,i+1,ab,ac,ae,by omega,rfl,aA,aB,aT,aC,aL,aw,aD,aU,aV,jj,aW,bz,bA,bB,bC,aE,aX,(by first|exact L3.of_eq hL.1 aj|exact L3.of_eq (hL.2 0 (by decide) (by decide) (by decide)) aj|exact L3.of_eq (congrArg FD.p0 (Np (by omega))) aj),(by first|exact L3.of_eq hL.1 ak|exact L3.of_eq (hL.2 1 (by decide) (by decide) (by decide)) ak|exact L3.of_eq (congrArg FD.p1 (Np (by omega))) ak),(by first|exact L3.of_eq hL.1 am|exact L3.of_eq (hL.2 2 (by decide) (by decide) (by decide)) am|exact L3.of_eq (congrArg FD.p2 (Np (by omega))) am),az,aN,aO,aP,aY,aZ,a8,a9,ba,aQ,aF,aG,bb,bc,bd,be,bf,bg,aR,aH,bh,bi,bj,bl,bm,bn,aS,bo⟩
  ·skip
   refine KH (KR rfl rfl rfl bp (KI (.bool false) rfl rfl (Nf rfl rfl rfl (decide_eq_false df) rr) (KI (.bool false) rfl rfl (KQ rfl rfl rr) (KN 2 true 36 rfl rfl rfl (Or.inl rfl) rfl (KN 2 true 36 rfl rfl rfl (Or.inl rfl) rfl (KN 2 true 36 rfl rfl rfl (Or.inl rfl) rfl (KI (.bool false) rfl rfl (Li rfl rfl rfl rr) (KM ?_))))))))
   have jk:=K4 (.bool false)
   refine KG ?_
   refine K6 (t:=false) jk (fun e=>by cases e) (fun _=>?_)
   refine Lg (LC (KG (KH (KI (iv ((i+1:Nat):Int)) rfl rfl (LP rfl aM rfl (L6 (by omega) (by omega)) rr) (KI (iv ((i+1:Nat):Int)) rfl rfl (KQ rfl rfl rr) (KM ?_))))))
   have jl:=K4 (iv ((i+1:Nat):Int))
   exact KG ⟨(4-(i+1)),by omega,i+1,ab,ac,ae,by omega,rfl,aA,aB,aT,aC,aL,aw,aD,aU,aV,jl,aW,bz,bA,bB,bC,aE,aX,(by first|exact L3.of_eq hL.1 aj|exact L3.of_eq (hL.2 0 (by decide) (by decide) (by decide)) aj|exact L3.of_eq (congrArg FD.p0 (Np (by omega))) aj),(by first|exact L3.of_eq hL.1 ak|exact L3.of_eq (hL.2 1 (by decide) (by decide) (by decide)) ak|exact L3.of_eq (congrArg FD.p1 (Np (by omega))) ak),(by first|exact L3.of_eq hL.1 am|exact L3.of_eq (hL.2 2 (by decide) (by decide) (by decide)) am|exact L3.of_eq (congrArg FD.p2 (Np (by omega))) am),az,aN,aO,aP,aY,aZ,a8,a9,ba,aQ,aF,aG,bb,bc,bd,be,bf,bg,aR,aH,bh,bi,bj,bl,bm,bn,aS,bo⟩
 ·replace bD:=of_decide_eq_false bD
  refine Me (Ls (Ls ?_))
  have jm:4=i:=by omega
  subst jm
  refine Mf (KG (KJ (KH (KI (.agg #[iv ((MR f).W),iv ((MR f).H),af,ah,ai]) rfl rfl (KZ Lc rfl aw az rr) (Lj (us:=[iv ((MR f).W),iv ((MR f).H),af,ah,ai]) Lc rfl rfl rfl aL rfl aX rfl (KX rfl (KX rfl (KX aj.one (KX ak.one (KX am.one MG))))) fun jK jn cd=>?_)))))
  have jo:=aj.all cd aQ
  have jp:=ak.all cd aR
  have jq:=am.all cd aS
  refine KM ?_
  refine KG (Lb ?_)
  exact O2 (vs:=[iv ((MR f).W),iv ((MR f).H),af,ah,ai]) Lc aV rfl rfl aL jn ⟨af,ab,ah,ac,ai,ae,(by rw[show Qi f p x y b=MH f p x y b 16 from rfl,(R3 f p x y b 16).1,(R3 f p x y b 16).2.1]),(aW.trans cd (KP.ok (S:=fun _=>False) (KP.new cC ek) K3)),⟨jo,aN⟩,⟨jp,aO⟩,⟨jq,aP⟩,aF,aG,aH⟩
end Go.Proofs.YtknjpdcpmpfklaaGreatDoor
set_option maxRecDepth 100000
namespace Go.Proofs.YtknjpdcpmpfklaaGreatDoor
open Go.RowKit
section
variable {N:Nat} {Q:(Exit->(Nat->Value)->World->Prop)} {F:Nat->Value} {w:World} {P:Program}
def aAW(N:Nat)(P:Program)(R:World->World->Prop)(D:List (Option Tmp))(G:Nat->Value->World->Prop)(F0:Nat->Value)(w0:World)(i:Nat)(o:Oper):Prop :=
 ∀ (F:Nat->Value) (w:World),R w0 w->(∀ t,Nat.blt t N=true->some t∉D->F t=F0 t)->N3 D G F w o.after.toList->o.guard=none/\Le P (ev F) o w (fun v w'=>G i v w'/\R w w')
def SW(N:Nat)(P:Program)(R:World->World->Prop)(D:List (Option Tmp))(G:Nat->Value->World->Prop)(F0:Nat->Value)(w0:World):Nat->List Oper->Prop
 | _,[]=>True
 | i,o::r=>aAW N P R D G F0 w0 i o/\SW N P R D G F0 w0 (i+1) r
theorem aAW.step{R:World->World->Prop}{D:List (Option Tmp)}{G:Nat->Value->World->Prop}{w0:World}{i:Nat}{o:Oper}{a0:Act}(ha:Fr N F a0)(h:aAW N P R D G F w0 i o):aCn P R D G a0 w0 i o:=by
 intro a w hR hout hD
 have h1:=h (fun t=>a.tmps.getD t undef) w hR (fun t hb ht=>by rw[← ha.at' t hb];exact hout t ht) hD.toF
 rw[← Rq a] at h1
 unfold PH
 rw[h1.1]
 exact⟨fun _=>h1.2,fun e=>by cases e⟩
theorem SW.steps{R:World->World->Prop}{D:List (Option Tmp)}{G:Nat->Value->World->Prop}{w0:World}{a0:Act}(ha:Fr N F a0):∀ {os:List Oper} {i:Nat},SW N P R D G F w0 i os->Steps P R D G a0 w0 i os:=by
 intro os
 induction os with
 | nil=>intro i _;exact trivial
 | cons o r ih=>intro i h;exact⟨h.1.step ha,ih h.2⟩
theorem Y8{R:World->World->Prop}{D:List (Option Tmp)}{G:Nat->Value->World->Prop}{F0:Nat->Value}{w0:World}{i:Nat}:SW N P R D G F0 w0 i []:=trivial
theorem NK{R:World->World->Prop}{D:List (Option Tmp)}{G:Nat->Value->World->Prop}{F0:Nat->Value}{w0:World}{i:Nat}{o:Oper}{r:List Oper}(hg:o.guard=none)
  (h:∀ (F:Nat->Value) (w:World),R w0 w->(∀ t,Nat.blt t N=true->some t∉D->F t=F0 t)->N3 D G F w o.after.toList->Le P (ev F) o w (fun v w'=>G i v w'/\R w w')) (k:SW N P R D G F0 w0 (i+1) r):SW N P R D G F0 w0 i (o::r):=⟨fun F w h1 h2 h3=>⟨hg,h F w h1 h2 h3⟩,k⟩
theorem aAC{id:Nat}{ops:Array Oper}(n:Nat)(R:World->World->Prop)(D:List (Option Tmp))(G:Nat->Value->World->Prop)(hm:P.follows .mixedOrders=true)(hta:ST ops.toList n=true)(hpl:plain N 0 D (ops.toList.take n)=true)
  (hrf:∀ a,R a a) (htr:∀ a b c,R a b->R b c->R a c) (hdr:R w w.drew) (hst:∀ i v w w',G i v w->R w w'->G i v w') (hsteps:SW N P R D G F w 0 (ops.toList.take n))
  (hend:∀ (v:Nat->Value) (F':Nat->Value) (w':World),R w w'->(∀ i,i<n->G i (v i) w')->(∀ t,F' t=Ql v 0 D F t)->wl none P N ops Q (ops.toList.drop n) F' w'):wq none P N (.region id ops true) Q F w:=by
 intro a ha
 refine wpIn_wide.2 ?_
 refine wp_region_any hm ?_
 have T:=SL hta
 have hno:∀ j,(Array.replicate ops.size false).getD j false=false:=by
  intro j
  by_cases h:j<ops.size <;> simp[Array.getD,h]
 refine VY n T R D G (by rw[ha.size];exact hpl) hrf htr hst (hsteps.steps ha) (fun v w' hk hG=>hend v _ w' hk hG (fun _=>rfl) _ (OM v D 0 F a ha (Oj hpl))) ops.size _ (fun _=>undef) a _ ⟨rfl,by simp,rfl,hdr,fun _ _=>rfl,fun j _ hj=>?_,fun j hj=>?_⟩ ?_ ?_ ?_
 ·rw[hno] at hj;cases hj
 ·rw[hno] at hj;cases hj
 ·intro k o _ hl;rw[hno] at hl;cases hl
 ·intro j _;exact hno j
 ·exact Nat.le_trans (List.countP_le_length) (by simp)
end
def PF(L:List Nat)(n k:Nat):List Nat:=L.take (0+k)++((((L.drop 0).take (n-0)).drop 0).take (k-0) |>.take (n-0-k) |> (· ++ L.drop (0+k+min (n-0-k) (((((L.drop 0).take (n-0)).drop 0).take (k-0)).length))))
theorem Xg{L:List Nat}{n k:Nat}(hL:L.length=n)(hk:k<=n):PF L n k=L.take k++(L.take (min (n-k) k)++L.drop (k+min (n-k) k)):=by
 unfold PF
 have e:((((L.drop 0).take (n-0)).drop 0).take (k-0))=L.take k:=by simp;rw[← hL,List.take_length]
 rw[e]
 simp only[Nat.zero_add,Nat.sub_zero,List.take_take,List.length_take]
 rw[show min (n-k) (min k L.length)=min (n-k) k by omega]
theorem RX{L:List Nat}{n k:Nat}(hL:L.length=n)(hk:k<=n):(PF L n k).length=n:=by rw[Xg hL hk];simp;omega
theorem WJ{L:List Nat}{n k s:Nat}(hL:L.length=n)(hk:k<=n)(h:L.take k=List.replicate k s):(PF L n k).take (k+min (n-k) k)=List.replicate (k+min (n-k) k) s:=by
 rw[Xg hL hk,h,show L.take (min (n-k) k)=(L.take k).take (min (n-k) k) by rw[List.take_take];congr 1;omega,h,List.take_replicate,show min (min (n-k) k) k=min (n-k) k by omega,← List.append_assoc,List.replicate_append_replicate]
 rw[List.take_append_of_le_length (by simp),List.take_of_length_le (by simp)]
theorem YN{L:List Nat}{n k s:Nat}(hL:L.length=n)(hk:k<=n)(h:L.take k=List.replicate k s):PF (PF L n k) n k=PF L n k:=by
 have h2:=RX hL hk
 have h3:=WJ hL hk h
 rw[Xg h2 hk]
 have e1:(PF L n k).take k=List.replicate k s:=by
  have:(PF L n k).take k=((PF L n k).take (k+min (n-k) k)).take k:=by rw[List.take_take];congr 1;omega
  rw[this,h3,List.take_replicate];congr 1;omega
 have e2:(PF L n k).take (min (n-k) k)=List.replicate (min (n-k) k) s:=by
  have:(PF L n k).take (min (n-k) k)=((PF L n k).take (k+min (n-k) k)).take (min (n-k) k):=by rw[List.take_take];congr 1;omega
  rw[this,h3,List.take_replicate];congr 1;omega
 rw[e1,e2,← List.append_assoc,List.replicate_append_replicate,← h3,List.take_append_drop]
theorem WK{J l:List Nat}{n s:Nat}(hJ:J.length=n)(hn:1<=n)(hl:l.length=1)(hs:l.getD 0 0=s):(J.take 0++(l.take (n-0)++J.drop (0+min (n-0) l.length))).length=n/\(J.take 0++(l.take (n-0)++J.drop (0+min (n-0) l.length))).take 1=List.replicate 1 s:=by
 obtain⟨z,rfl⟩:∃ z,l=[z]:=by
  match l,hl with
  | [z],_=>exact⟨z,rfl⟩
 obtain rfl:z=s:=by simpa using hs
 obtain⟨m,rfl⟩:∃ m,n=m+1:=⟨n-1,by omega⟩
 constructor
 ·simp;omega
 ·simp
theorem aBd{L:List Nat}{n k s:Nat}(hk:k=n)(h:L.take k=List.replicate k s):List.replicate n s=((L.drop 0).take (n-0)):=by
 subst hk;rw[List.drop_zero,Nat.sub_zero,h]
def PL(T:Nat->Prop)(v:Value)(L L':List Nat)(a b:World):Prop:=KO T a b/\(L3 a T v L'->L3 b T v L')/\(L3 a T v L->L3 b T v L\/L3 b T v L')
theorem PL.refl{T:Nat->Prop}{v:Value}{L L':List Nat}(a:World):PL T v L L' a a:=⟨KO.refl _ _,id,.inl⟩
theorem PL.trans{T:Nat->Prop}{v:Value}{L L':List Nat}{a b c:World}(h:PL T v L L' a b)(k:PL T v L L' b c):PL T v L L' a c :=
 ⟨h.1.trans k.1 (fun _ _ x=>x),fun x=>k.2.1 (h.2.1 x),fun x=>(h.2.2 x).elim k.2.2 (fun y=>.inr (k.2.1 y))⟩
theorem PL.drew{T:Nat->Prop}{v:Value}{L L':List Nat}(a:World):PL T v L L' a a.drew :=
 ⟨(KO.refl _ _).drew,fun h=>h.all (S:=fun _=>False) (KO.refl _ _).drew KK.none,fun h=>.inl (h.all (S:=fun _=>False) (KO.refl _ _).drew KK.none)⟩
def Y9(T:Nat->Prop)(v:Value)(L':List Nat)(vs:List Value)(i:Nat)(x:Value)(w:World):Prop:=x=vs.getD i undef/\(i=7->L3 w T v L')
theorem Y9.stays{T:Nat->Prop}{v:Value}{L L':List Nat}{vs:List Value}(i:Nat)(x:Value)(w w':World)(h:Y9 T v L' vs i x w)(k:PL T v L L' w w'):Y9 T v L' vs i x w':=⟨h.1,fun e=>k.2.1 (h.2 e)⟩
theorem Mh.of_eq{w:World}{T:Nat->Prop}{v:Value}{l m:List Nat}(e:m=l)(h:Mh w T v l):Mh w T v m:=e ▸ h
theorem azK{ρ:Operand->Value}{o:Oper}{w w0:World}{T:Nat->Prop}{v:Value}{L:List Nat}{n k s:Nat}{c:Call}{x y:Operand}{vs:List Value}(ho:o.op = .call c)(hc:c={ callee:=.builtin .copy,args:=#[x,y],argTypes:=#[26,26] })(hx:ρ x=Mr (Mr v 0 n n) k (n-0) (n-0))(hy:ρ y=Mr (Mr v 0 n n) 0 k (n-0))
  (hL:L.length=n) (hk:k<=n) (ht:L.take k=List.replicate k s) (h0:L3 w0 T v L) (hR:PL T v L (PF L n k) w0 w) (hvs:vs.getD 7 undef = .int .i64 ((min (n-k) k:Nat):Int)) :
  Le Tryz.prog ρ o w (fun r w'=>Y9 T v (PF L n k) vs 7 r w'/\PL T v L (PF L n k) w w'):=by
 have main:∀ M:List Nat,L3 w T v M->M.length=n->PF M n k=PF L n k->Le Tryz.prog ρ o w (fun r w'=>Y9 T v (PF L n k) vs 7 r w'/\PL T v L (PF L n k) w w'):=by
  intro M hM hMl he
  have hb:Mh w T (Mr (Mr v 0 n n) 0 k (n-0)) ((((M.drop 0).take (n-0)).drop 0).take (k-0)):=by
   have h1:Mh w T (Mr v 0 n n) ((M.drop 0).take (n-0)):=hM.byt.sub (by omega) (by omega) (by omega) (by have:=hM.byt.cap;omega)
   have hcap:UL (Mr v 0 n n)=n-0:=by
    obtain⟨a,e⟩:=UR hM.byt 0 n n
    rw[e];rfl
   exact h1.sub (by omega) (by omega) (by simp;omega) (by rw[hcap];omega)
  obtain⟨w',hr,h1,h2⟩:=WL (off:=0+k) (n:=n-0-k) ho hc (by rw[hx];exact Wr hM.byt (Nat.le_refl _) (Nat.le_refl _) rfl) hy hM hb (by omega)
  have h1':L3 w' T v (PF L n k):=by rw[← he];exact h1
  refine MI hr ⟨⟨?_,fun _=>h1'⟩,h2,fun _=>h1',fun _=>.inr h1'⟩
  rw[hvs]
  congr 2
  simp;omega
 rcases hR.2.2 h0 with h|h
 ·exact main L h hL rfl
 ·exact main _ h (RX hL hk) (YN hL hk ht)
theorem aA9{ρ:Operand->Value}{o:Oper}{w w0:World}{R:Value->World->Prop}{T:Nat->Prop}{v:Value}{L:List Nat}{n k:Nat}{x lo:Operand}(ho:o.op = .slice 26 x (some lo) none none)(hx:ρ x=Mr v 0 n n)(hl:ρ lo = .int .i64 (k:Int))(hk:k<=n)(h0:L3 w0 T v L)(hR:PL T v L (PF L n k) w0 w)(h:R (Mr (Mr v 0 n n) k (n-0) (n-0)) w):Le Tryz.prog ρ o w R:=by
 rcases hR.2.2 h0 with hb|hb
 ·exact Xk k ho hx hl rfl hb.byt (by omega) h
 ·exact Xk k ho hx hl rfl hb.byt (by omega) h
theorem aBC{ρ:Operand->Value}{o:Oper}{w w0:World}{R:Value->World->Prop}{T:Nat->Prop}{v:Value}{L:List Nat}{n k:Nat}{x hi:Operand}(ho:o.op = .slice 26 x none (some hi) none)(hx:ρ x=Mr v 0 n n)(hl:ρ hi = .int .i64 (k:Int))(hk:k<=n)(h0:L3 w0 T v L)(hR:PL T v L (PF L n k) w0 w)(h:R (Mr (Mr v 0 n n) 0 k (n-0)) w):Le Tryz.prog ρ o w R:=by
 rcases hR.2.2 h0 with hb|hb
 ·exact ZN k ho hx hl rfl hb.byt (by omega) h
 ·exact ZN k ho hx hl rfl hb.byt (by omega) h
theorem Uf{n:Nat}(h:n<18446744073709551616):IntKind.u64.wrap ((n:Nat):Int)=((n:Nat):Int):=by
 unfold IntKind.wrap;simp[IntKind.signed,IntKind.bits];omega
theorem ZJ{a b:Nat}(h:a*b<18446744073709551616):IntKind.u64.wrap ((a:Int)*(b:Int))=((a*b:Nat):Int):=by rw[← Int.natCast_mul];exact Uf h
theorem aBg{n:Nat}(h:n<4294967296):bits .and .u64 ((n:Nat):Int) 4294967295=((n:Nat):Int):=by
 have e:=u64_and_nat n 4294967295 (by omega) (by omega)
 rw[show ((4294967295:Nat):Int)=4294967295 from rfl] at e
 rw[e,show (4294967295:Nat)=2 ^ 32-1 from rfl,Nat.and_two_pow_sub_one_eq_mod,Nat.mod_eq_of_lt (by simpa using h)]
theorem XY{n:Nat}(h:n<4294967296):((n:Nat):Int)/2 ^ 32=((0:Nat):Int):=by
 have:(2:Int) ^ 32=4294967296:=by decide
 rw[this];omega
end Go.Proofs.YtknjpdcpmpfklaaGreatDoor
set_option maxRecDepth 100000
namespace Go.Proofs.YtknjpdcpmpfklaaGreatDoor
open Go.RowKit
theorem aAH(x y:Nat)(w0:World)(hx:x<4294967296)(hy:y<4294967296)(hxy:x*y<4294967296) :
  Calls Tryz.prog 125 #[.int .u64 (((x:Nat):Int)),.int .u64 (((y:Nat):Int))] w0 fun e w'=>e = .returned (.tuple #[.int .u64 (((0:Nat):Int)),.int .u64 (((x*y:Nat):Int))])/\KO (fun _=>False) w0 w':=by
 refine Lr (args:=[.int .u64 ((x:Nat):Int),.int .u64 ((y:Nat):Int)]) 51 Tryz.func125 rfl rfl (Nat.le_of_ble_eq_true rfl) ?_
 refine KJ (KH (KI (.int .u64 0) rfl rfl (KS rfl rfl rr) (KI (.int .u64 0) rfl rfl (KS rfl rfl rr) (KM ?_))))
 have s3:=K4 (.int .u64 ((x:Nat):Int))
 have s4:=K4 (.int .u64 ((y:Nat):Int))
 have s5:=K4 (undef)
 refine KG (KJ (KH (KR rfl rfl rfl s3 (KI (.int .u64 ((x:Nat):Int)) rfl rfl (Vq rfl rfl rfl (aBg hx) rr) (KI (.int .u64 ((x:Nat):Int)) rfl rfl (KS rfl rfl rr) (KM ?_))))))
 have ac:=K4 (.int .u64 ((x:Nat):Int))
 refine KG (KJ (KH (KR rfl rfl rfl s3 (KI (.int .u64 ((0:Nat):Int)) rfl rfl (Sj 32 rfl rfl rfl (by decide) (XY hx) rr) (KI (.int .u64 ((0:Nat):Int)) rfl rfl (KS rfl rfl rr) (KM ?_))))))
 have ae:=K4 (.int .u64 ((0:Nat):Int))
 refine KG (KJ (KH (KR rfl rfl rfl s4 (KI (.int .u64 ((y:Nat):Int)) rfl rfl (Vq rfl rfl rfl (aBg hy) rr) (KI (.int .u64 ((y:Nat):Int)) rfl rfl (KS rfl rfl rr) (KM ?_))))))
 have af:=K4 (.int .u64 ((y:Nat):Int))
 refine KG (KJ (KH (KR rfl rfl rfl s4 (KI (.int .u64 ((0:Nat):Int)) rfl rfl (Sj 32 rfl rfl rfl (by decide) (XY hy) rr) (KI (.int .u64 ((0:Nat):Int)) rfl rfl (KS rfl rfl rr) (KM ?_))))))
 have ah:=K4 (.int .u64 ((0:Nat):Int))
 refine KG (KJ (KH (KR rfl rfl rfl ac (KR rfl rfl rfl af (KI (.int .u64 ((x*y:Nat):Int)) rfl rfl (Nj rfl rfl rfl (ZJ (by omega)) rr) (KI (.int .u64 ((x*y:Nat):Int)) rfl rfl (KS rfl rfl rr) (KM ?_)))))))
 have ak:=K4 (.int .u64 ((x*y:Nat):Int))
 refine KG (KJ (KH (KR rfl rfl rfl ae (KR rfl rfl rfl af (KI (.int .u64 ((0:Nat):Int)) rfl rfl (Nj rfl rfl rfl (by rw[show ((0:Nat):Int)*((y:Nat):Int)=((0:Nat):Int) by simp];rfl) rr) (KR rfl rfl rfl ak (KI (.int .u64 ((0:Nat):Int)) rfl rfl (Sj 32 rfl rfl rfl (by decide) (XY hxy) rr) (KI (.int .u64 ((0:Nat):Int)) rfl rfl (LP rfl rfl rfl rfl rr) (KI (.int .u64 ((0:Nat):Int)) rfl rfl (KS rfl rfl rr) (KM ?_))))))))))
 have ai:=K4 (.int .u64 ((0:Nat):Int))
 refine KG (KJ (KH (KR rfl rfl rfl ai (KI (.int .u64 ((0:Nat):Int)) rfl rfl (Vq rfl rfl rfl (aBg (by decide)) rr) (KI (.int .u64 ((0:Nat):Int)) rfl rfl (KS rfl rfl rr) (KM ?_))))))
 have am:=K4 (.int .u64 ((0:Nat):Int))
 refine KG (KJ (KH (KR rfl rfl rfl ai (KI (.int .u64 ((0:Nat):Int)) rfl rfl (Sj 32 rfl rfl rfl (by decide) (XY (by decide)) rr) (KI (.int .u64 ((0:Nat):Int)) rfl rfl (KS rfl rfl rr) (KM ?_))))))
 have an:=K4 (.int .u64 ((0:Nat):Int))
 refine KG (KJ (KH (KR rfl rfl rfl am (KR rfl rfl rfl ac (KR rfl rfl rfl ah (KI (.int .u64 ((0:Nat):Int)) rfl rfl (Nj rfl rfl rfl (by rw[show ((x:Nat):Int)*((0:Nat):Int)=((0:Nat):Int) by simp];rfl) rr) (KI (.int .u64 ((0:Nat):Int)) rfl rfl (LP rfl rfl rfl rfl rr) (KI (.int .u64 ((0:Nat):Int)) rfl rfl (KS rfl rfl rr) (KM ?_)))))))))
 have ao:=K4 (.int .u64 ((0:Nat):Int))
 refine KG (KJ (KH (KR rfl rfl rfl ae (KR rfl rfl rfl ah (KI (.int .u64 ((0:Nat):Int)) rfl rfl (Nj rfl rfl rfl rfl rr) (KR rfl rfl rfl an (KI (.int .u64 ((0:Nat):Int)) rfl rfl (LP rfl rfl rfl rfl rr) (KR rfl rfl rfl ao (KI (.int .u64 ((0:Nat):Int)) rfl rfl (Sj 32 rfl rfl rfl (by decide) (XY (by decide)) rr) (KI (.int .u64 ((0:Nat):Int)) rfl rfl (LP rfl rfl rfl rfl rr) (KI (.int .u64 ((0:Nat):Int)) rfl rfl (KS rfl rfl rr) ?_)))))))))))
 refine KM ?_
 have ap:=K4 (.int .u64 ((0:Nat):Int))
 refine KG (KJ (KH (KR rfl rfl rfl s3 (KR rfl rfl rfl s4 (KI (.int .u64 ((x*y:Nat):Int)) rfl rfl (Nj rfl rfl rfl (ZJ (by omega)) rr) (KI (.int .u64 ((x*y:Nat):Int)) rfl rfl (KS rfl rfl rr) (KM ?_)))))))
 have aq:=K4 (.int .u64 ((x*y:Nat):Int))
 refine KG (Lb ?_)
 exact L7 s5 rfl (Ly (v:=.int .u64 ((0:Nat):Int)) rfl ap) (Ly (v:=.int .u64 ((x*y:Nat):Int)) rfl aq) ⟨rfl,(KO.refl (fun _=>False) w0)⟩
theorem aDz(x y:Nat)(w0:World)(hx:x<4294967296)(hy:y<4294967296)(hxy:x*y<4294967296) :
  Calls Tryz.prog 92 #[.int .u64 (((x:Nat):Int)),.int .u64 (((y:Nat):Int))] w0 fun e w'=>e = .returned (.tuple #[.int .u64 (((0:Nat):Int)),.int .u64 (((x*y:Nat):Int))])/\KO (fun _=>False) w0 w':=by
 refine Lr (args:=[.int .u64 ((x:Nat):Int),.int .u64 ((y:Nat):Int)]) 30 Tryz.func92 rfl rfl (Nat.le_of_ble_eq_true rfl) ?_
 refine KJ (KH (KI (.int .u64 0) rfl rfl (KS rfl rfl rr) (KI (.int .u64 0) rfl rfl (KS rfl rfl rr) (KM ?_))))
 have s3:=K4 (.int .u64 ((x:Nat):Int))
 have s4:=K4 (.int .u64 ((y:Nat):Int))
 have s5:=K4 (undef)
 refine KG (KJ ?_)
 refine K6 (t:=false) rfl (fun e=>by cases e) (fun _=>?_)
 refine Lg (KG (KJ (KH (KR rfl rfl rfl s3 (KR rfl rfl rfl s4 (LW rfl rfl rfl rfl rfl (fun _ _=>by kernel_rfl) (Lk rfl (Lk rfl LR)) (aAH x y  _ hx hy hxy  ) fun w6 k7=>?_))))))
 refine KI (.tuple #[.int .u64 ((0:Nat):Int),.int .u64 ((x*y:Nat):Int)]) rfl rfl (KQ rfl rfl rr) (KI (.int .u64 ((0:Nat):Int)) rfl rfl (LL rfl rfl rfl rr) (KI (.int .u64 ((x*y:Nat):Int)) rfl rfl (LL rfl rfl rfl rr) (KI (.int .u64 ((0:Nat):Int)) rfl rfl (KS rfl rfl rr) (KI (.int .u64 ((x*y:Nat):Int)) rfl rfl (KS rfl rfl rr) (KM ?_)))))
 have af:=K4 (.int .u64 ((0:Nat):Int))
 have ah:=K4 (.int .u64 ((x*y:Nat):Int))
 refine KG (KJ (KH (KR rfl rfl rfl af (KR rfl rfl rfl ah (KI (.int .u64 ((0:Nat):Int)) rfl rfl (KS rfl rfl rr) (KI (.int .u64 ((x*y:Nat):Int)) rfl rfl (KS rfl rfl rr) (KM ?_)))))))
 have ai:=K4 (.int .u64 ((0:Nat):Int))
 have aj:=K4 (.int .u64 ((x*y:Nat):Int))
 refine KG (Lb ?_)
 exact L7 s5 rfl (Ly (v:=.int .u64 ((0:Nat):Int)) rfl ai) (Ly (v:=.int .u64 ((x*y:Nat):Int)) rfl aj) ⟨rfl,((KO.refl (fun _=>False) w0).tr k7)⟩
theorem azq(v:Value)(l:List Nat)(s n:Nat)(T_b:Nat->Prop)(w0:World)(hl:l.length=1)(hs:l.getD 0 0=s)(hn:1<=n)(hn2:n<=64)(h_b:Mh w0 T_b v (l)) :
  Calls Tryz.prog 54 #[v,.int .i64 (((n:Nat):Int))] w0 fun e w'=>∃ (v1:Value) (T1:Nat->Prop),e = .returned (v1)/\KO (fun _=>False) w0 w'/\(Mh w' T1 v1 (List.replicate n s)/\KP w0 LX T1):=by
 refine Lr (args:=[v,iv ((n:Nat):Int)]) 77 Tryz.func54 rfl rfl (Nat.le_of_ble_eq_true rfl) ?_
 have g_b:=KP.refl w0 T_b
 refine KJ (KH (KI (.slice none 0 0) rfl rfl (KS rfl rfl rr) (KM ?_)))
 have s3:=K4 (v)
 have s4:=K4 (iv ((n:Nat):Int))
 have s5:=K4 (undef)
 refine KG (KJ (KJ (KH (KR rfl rfl rfl s4 (KI (.bool (decide (((n:Nat):Int)=0))) rfl rfl (Mj rfl rfl rfl rfl rr) (KM ?_))))))
 have aW:=K4 (.bool (decide (((n:Nat):Int)=0)))
 refine KG ?_
 refine K6 aW (fun af=>?_) (fun af=>?_)
 ·replace af:=of_decide_eq_true af
  refine KJ ?_
  exfalso;omega
 ·replace af:=of_decide_eq_false af
  refine Lg (KG (KJ (KJ (KH (KR rfl rfl rfl s4 (KI (.bool (decide (((n:Nat):Int)<0))) rfl rfl (L4 rfl rfl rfl rfl rr) (KM ?_)))))))
  have aX:=K4 (.bool (decide (((n:Nat):Int)<0)))
  refine KG ?_
  refine K6 aX (fun ah=>?_) (fun ah=>?_)
  ·replace ah:=of_decide_eq_true ah
   exfalso;omega
  ·replace ah:=of_decide_eq_false ah
   refine Lg (KG (KJ (KH (KR rfl rfl rfl s3 (KI (iv ((l.length:Nat):Int)) rfl rfl (QL rfl rfl rfl h_b rr) (KI (.int .u64 ((l.length:Nat):Int)) rfl rfl (QD rfl rfl Tryz.underlying3 Tryz.underlying101 (Uf (by omega)) rr) (KR rfl rfl rfl s4 (KI (.int .u64 ((n:Nat):Int)) rfl rfl (QD rfl rfl Tryz.underlying3 Tryz.underlying101 (Uf (by omega)) rr) (LW rfl rfl rfl rfl rfl (fun _ _=>by kernel_rfl) (Lk rfl (Lk rfl LR)) (aDz (l.length) n  _ (by omega) (by omega) (by rw[hl];omega)  ) fun bF aE=>?_)))))))))
   have aw:=h_b.all aE KK.none
   have aF:=(KO.refl (fun _=>False) w0).tr aE
   refine KI (.tuple #[.int .u64 ((0:Nat):Int),.int .u64 (((l.length)*n:Nat):Int)]) rfl rfl (KQ rfl rfl rr) (KI (.int .u64 ((0:Nat):Int)) rfl rfl (LL rfl rfl rfl rr) (KI (.int .u64 (((l.length)*n:Nat):Int)) rfl rfl (LL rfl rfl rfl rr) (KI (.int .u64 ((0:Nat):Int)) rfl rfl (KS rfl rfl rr) (KI (.int .u64 (((l.length)*n:Nat):Int)) rfl rfl (KS rfl rfl rr) (R4 fun az ap=>?_)))))
   obtain⟨aG,aY⟩:=t2 ap 0 s3 77 s5
   have aZ:az 5 = .int .u64 ((0:Nat):Int):=(ap 5).trans rfl
   have a8:az 6 = .int .u64 (((l.length)*n:Nat):Int):=(ap 6).trans rfl
   clear ap
   refine KG (KJ (KJ ?_))
   have aH:az 6 = .int .u64 ((n:Nat):Int):=a8.trans (congrArg (Value.int .u64) (by rw[hl,Nat.one_mul]))
   refine KH (KR rfl rfl rfl aZ (KI (.bool false) rfl rfl (Og rfl rfl rfl rfl rr) (KI (.bool false) rfl rfl (KQ rfl rfl rr) (KT (.int .u64 ((n:Nat):Int)) 2 false 29 rfl rfl rfl rfl rfl (KQ rfl aH rr) (KT (.bool (decide (9223372036854775807<((n:Nat):Int)))) 2 false 29 rfl rfl rfl rfl rfl (Og rfl rfl rfl rfl rr) (KI (.bool (decide (9223372036854775807<((n:Nat):Int)))) rfl rfl (Li rfl rfl rfl rr) (KM ?_)))))))
   have a9:=K4 (.bool (decide (9223372036854775807<((n:Nat):Int))))
   refine KG ?_
   refine K6 a9 (fun ai=>?_) (fun ai=>?_)
   ·replace ai:=of_decide_eq_true ai
    exfalso;omega
   ·replace ai:=of_decide_eq_false ai
    refine Lg (KG (KJ (KH (KR rfl rfl rfl aH (KI (iv ((n:Nat):Int)) rfl rfl (QD rfl rfl Tryz.underlying101 Tryz.underlying3 (L2 rfl (by omega)) rr) (KI (iv ((n:Nat):Int)) rfl rfl (KS rfl rfl rr) (KM ?_)))))))
    have aj:=K4 (iv ((n:Nat):Int))
    refine KG (KJ (KJ (KH (KR rfl rfl rfl aG (KI (iv ((l.length:Nat):Int)) rfl rfl (QL rfl rfl rfl aw rr) (KI (.bool (decide (((l.length:Nat):Int)=0))) rfl rfl (Mj rfl rfl rfl rfl rr) (KM ?_)))))))
    have ba:=K4 (.bool (decide (((l.length:Nat):Int)=0)))
    refine KG ?_
    refine K6 ba (fun ak=>?_) (fun ak=>?_)
    ·replace ak:=of_decide_eq_true ak
     refine KJ ?_
     exfalso;omega
    ·replace ak:=of_decide_eq_false ak
     refine Lg (KG (KJ (KH (KR rfl rfl rfl aj (KI (iv ((n:Nat):Int)) rfl rfl (KS rfl rfl rr) (KM ?_))))))
     have aI:=K4 (iv ((n:Nat):Int))
     refine KG (KJ (KJ (KH (KR rfl rfl rfl aI (KI (.bool (decide (8192<((n:Nat):Int)))) rfl rfl (Og rfl rfl rfl rfl rr) (KM ?_))))))
     have bb:=K4 (.bool (decide (8192<((n:Nat):Int))))
     refine KG ?_
     refine K6 bb (fun am=>?_) (fun am=>?_)
     ·replace am:=of_decide_eq_true am
      refine KJ ?_
      exfalso;omega
     ·replace am:=of_decide_eq_false am
      refine Lg (KG (KJ (KH (KR rfl rfl rfl aj (aDk (n:=n) rfl rfl rfl rfl rfl (by omega) (by omega) Tryz.func93 (by kernel_rfl) (by kernel_rfl) (by kernel_rfl) (by kernel_rfl) fun aa bH bc J70 aA hJ71 aq aJ=>?_)))))
      have aK:=KP.new aF aq
      have aL:=KK.new aq aw.live
      have aM:=aw.all aJ KK.none
      refine KR rfl rfl rfl aj (KR rfl rfl rfl aj (KI (Mr aa 0 n n) rfl rfl (aBK n n rfl rfl rfl rfl (by omega) (by omega) aA.byt (by omega) (by omega) rr) (KI (Mr aa 0 n n) rfl rfl (KS rfl rfl rr) (KM ?_))))
      have aN:=K4 (Mr aa 0 n n)
      refine KG (KJ (KH (KR rfl rfl rfl aN (KR rfl rfl rfl aG (Sb rfl rfl rfl rfl rfl (Tn aA.byt (by omega)) rfl aA aM (by omega) fun bI bd aO=>?_)))))
      have be:=aM.all aO aL.symm
      refine KI (iv ((min (n-0) l.length:Nat):Int)) rfl rfl (KS rfl rfl rr) (KM ?_)
      have bf:=K4 (iv ((min (n-0) l.length:Nat):Int))
      refine KG (KJ (Lm (MZ (fun nn FF ww=>∃ (k:Nat),∃ (L:List Nat),∃ (ab:Nat->Prop),(1<=k/\k<=n)/\(L.length=n)/\(L.take k=List.replicate k s)/\nn=n-k/\FF 7=iv ((n:Nat):Int)/\FF 8=iv ((n:Nat):Int)/\FF 9=Mr aa 0 n n/\FF 77=undef/\FF 10=iv ((k:Nat):Int)/\KO (fun _=>False) w0 ww/\Mh ww T_b v l/\L3 ww ab aa L/\KP w0 LX ab/\KK ab T_b) (n-1) ⟨1,_,bc,by omega,(WK (by assumption) hn hl hs).1,(WK (by assumption) hn hl hs).2,rfl,aj,aI,aN,aY,bf.trans (congrArg (Value.int .i64) (by omega)),((aF.tr aJ).trans aO (KP.ok (S:=fun _=>False) aK K3)),be,bd,aK,aL⟩ ?_)))
      rintro bJ bK bL ⟨k,L,ab,i103,hLn,hT,hn102,aP,aQ,ar,aR,au,aS,bg,ac,aB,aT⟩
      refine KJ (KJ (KH (KR rfl rfl rfl au (KR rfl rfl rfl aP (KI (.bool (decide (((k:Nat):Int)<((n:Nat):Int)))) rfl rfl (L4 rfl rfl rfl rfl rr) (KM ?_))))))
      have bh:=K4 (.bool (decide (((k:Nat):Int)<((n:Nat):Int))))
      refine KG ?_
      refine K6 bh (fun an=>?_) (fun an=>?_)
      ·replace an:=of_decide_eq_true an
       refine Lg (KG (Lm (KJ (KH (KR rfl rfl rfl au (KR rfl rfl rfl aQ (KI (iv ((k:Nat):Int)) rfl rfl (QS rfl rfl rfl (by omega) rr) (KI (iv ((k:Nat):Int)) rfl rfl (KS rfl rfl rr) (KM ?_)))))))))
       have bi:=K4 (iv ((k:Nat):Int))
       refine KG ?_
       refine aAC 9 (PL ab aa L (PF L n k)) [some 67,some 68,some 69,some 70,some 71,some 72,some 73,some 74,some 75] (Y9 ab aa (PF L n k) [iv (k:Int),Mr aa 0 n n,iv (k:Int),Mr (Mr aa 0 n n) k (n-0) (n-0),Mr aa 0 n n,iv (k:Int),Mr (Mr aa 0 n n) 0 k (n-0),iv ((min (n-k) k:Nat):Int),iv ((k+min (n-k) k:Nat):Int)]) (by kernel_rfl) (by kernel_rfl) (by kernel_rfl) PL.refl (fun _ _ _ h1 h2=>h1.trans h2) (PL.drew _) Y9.stays ?_ ?_
       ·refine NK rfl (fun F_ w_ hR hout hD=>?_) ?_
        ·exact KQ rfl ((hout 10 rfl (by decide)).trans au) ⟨⟨rfl,fun e=>by cases e⟩,PL.refl _⟩
        refine NK rfl (fun F_ w_ hR hout hD=>?_) ?_
        ·exact KQ rfl ((hout 9 rfl (by decide)).trans ar) ⟨⟨rfl,fun e=>by cases e⟩,PL.refl _⟩
        refine NK rfl (fun F_ w_ hR hout hD=>?_) ?_
        ·exact KQ rfl ((hout 10 rfl (by decide)).trans au) ⟨⟨rfl,fun e=>by cases e⟩,PL.refl _⟩
        refine NK rfl (fun F_ w_ hR hout hD=>?_) ?_
        ·have aq:F_ 68=Mr aa 0 n n:=(hD.get 0 rfl rfl rfl).1
         have bj:F_ 69=iv (k:Int):=(hD.get 1 rfl rfl rfl).1
         exact aA9 rfl aq bj (by omega) ac hR ⟨⟨rfl,fun e=>by cases e⟩,PL.refl _⟩
        refine NK rfl (fun F_ w_ hR hout hD=>?_) ?_
        ·exact KQ rfl ((hout 9 rfl (by decide)).trans ar) ⟨⟨rfl,fun e=>by cases e⟩,PL.refl _⟩
        refine NK rfl (fun F_ w_ hR hout hD=>?_) ?_
        ·exact KQ rfl ((hout 11 rfl (by decide)).trans bi) ⟨⟨rfl,fun e=>by cases e⟩,PL.refl _⟩
        refine NK rfl (fun F_ w_ hR hout hD=>?_) ?_
        ·have bl:F_ 71=Mr aa 0 n n:=(hD.get 0 rfl rfl rfl).1
         have bm:F_ 72=iv (k:Int):=(hD.get 1 rfl rfl rfl).1
         exact aBC rfl bl bm (by omega) ac hR ⟨⟨rfl,fun e=>by cases e⟩,PL.refl _⟩
        refine NK rfl (fun F_ w_ hR hout hD=>?_) ?_
        ·have bn:F_ 70=Mr (Mr aa 0 n n) k (n-0) (n-0):=(hD.get 0 rfl rfl rfl).1
         have bo:F_ 73=Mr (Mr aa 0 n n) 0 k (n-0):=(hD.get 1 rfl rfl rfl).1
         exact azK rfl rfl bn bo hLn (by omega) hT ac hR rfl
        refine NK rfl (fun F_ w_ hR hout hD=>?_) ?_
        ·have bp:F_ 67=iv (k:Int):=(hD.get 0 rfl rfl rfl).1
         have bq:F_ 74=iv ((min (n-k) k:Nat):Int):=(hD.get 1 rfl rfl rfl).1
         exact LP rfl bp bq (L6 (m:=k+min (n-k) k) (by omega) (by omega)) ⟨⟨rfl,fun e=>by cases e⟩,PL.refl _⟩
        exact Y8
       intro bM ao bN R133 aC ae
       have aU:=R133.1
       have bt:=(aC 7 (by decide)).2 rfl
       have bu:=bg.all aU aT.symm
       have bv:ao 7=iv ((n:Nat):Int):=(ae 7).trans aP
       have bz:ao 8=iv ((n:Nat):Int):=(ae 8).trans aQ
       have bA:ao 9=Mr aa 0 n n:=(ae 9).trans ar
       have bB:ao 77=undef:=(ae 77).trans aR
       have bC:ao 75=iv ((k+min (n-k) k:Nat):Int):=(ae 75).trans (aC 8 (by decide)).1
       clear R133 aC ae
       refine aCO rfl rfl rfl bC (KM ?_)
       have bD:=K4 (iv ((k+min (n-k) k:Nat):Int))
       refine LC ?_
       exact KG ⟨(n-(k+min (n-k) k)),by omega,k+min (n-k) k,_,ab,by omega,RX hLn (by omega),WJ hLn (by omega) hT,rfl,bv,bz,bA,bB,bD,(aS.trans aU (KP.ok (S:=fun _=>False) aB K3)),bu,bt,aB,aT⟩
      ·replace an:=of_decide_eq_false an
       refine Me (Ls (Ls (Mf (KG (KJ (KH (KR rfl rfl rfl ar (KI (Mr aa 0 n n) rfl rfl (KS rfl rfl rr) (KM ?_)))))))))
       have bE:=K4 (Mr aa 0 n n)
       refine KG (Lb ?_)
       exact Lu (v:=Mr aa 0 n n) aR rfl rfl bE ⟨(Mr aa 0 n n),ab,rfl,aS,⟨(Mh.of_eq (aBd (by omega) hT) ((ac.byt).sub (i:=0) (j:=n) (m:=n) (by omega) (by have hc_:=(ac.byt).cap;omega) (by omega) (by have hc_:=(ac.byt).cap;omega))),aB⟩⟩
end Go.Proofs.YtknjpdcpmpfklaaGreatDoor
set_option maxRecDepth 100000
namespace Go.Proofs.YtknjpdcpmpfklaaGreatDoor
open Go.RowKit
def MA(A s m:Nat):List Nat:=List.replicate m s++List.replicate (A-m) 0
theorem OQ{A s m:Nat}(h:m<=A):(MA A s m).length=A:=by unfold MA;simp;omega
theorem SQ{A s pw:Nat}{l:List Nat}(h:l=List.replicate A 0):MA A s (0*pw)=l:=by rw[h];unfold MA;simp
theorem Oz{A s:Nat}{l:List Nat}(h:l=List.replicate A s):l=MA A s A:=by rw[h];unfold MA;simp
theorem Ul{A s a pw y:Nat}(hp:pw<=a) :
  MA A s ((y+1)*pw)=(MA A s (y*pw)).take ((((y:Nat):Int))*(((pw:Nat):Int))).toNat++((List.replicate a s).take ((((((y:Nat):Int))*(((pw:Nat):Int)))+(((pw:Nat):Int))).toNat-((((y:Nat):Int))*(((pw:Nat):Int))).toNat)++(MA A s (y*pw)).drop (((((y:Nat):Int))*(((pw:Nat):Int))).toNat+min ((((((y:Nat):Int))*(((pw:Nat):Int)))+(((pw:Nat):Int))).toNat-((((y:Nat):Int))*(((pw:Nat):Int))).toNat) (List.replicate a s).length)):=by
 have e1:((((y:Nat):Int))*(((pw:Nat):Int))).toNat=y*pw:=by rw[← Int.natCast_mul,Int.toNat_natCast]
 have e2:(((((y:Nat):Int))*(((pw:Nat):Int)))+(((pw:Nat):Int))).toNat=y*pw+pw:=by rw[← Int.natCast_mul,← Int.natCast_add,Int.toNat_natCast]
 rw[e1,e2,show y*pw+pw-y*pw=pw by omega,List.length_replicate,show min pw a=pw by omega,List.take_replicate,show min pw a=pw by omega,Nat.succ_mul]
 unfold MA
 rw[List.take_append_of_le_length (by simp),List.take_of_length_le (by simp),List.drop_append]
 simp only[List.length_replicate,List.drop_replicate]
 rw[show y*pw-(y*pw+pw)=0 by omega,show y*pw+pw-y*pw=pw by omega,show A-y*pw-pw=A-(y*pw+pw) by omega,List.replicate_zero,List.nil_append,← List.append_assoc,List.replicate_append_replicate]
theorem MD{w h:Int}(s:Nat)(hsw:Mk w=true)(hsh:Mk h=true){a b:Nat}(ha:(a:Int)=w)(hb:(b:Int)=h):(LG w h s).p0=List.replicate (b*a) s/\(LG w h s).p1=List.replicate (b/2*(a/2)) s/\(LG w h s).p2=List.replicate (b/2*(a/2)) s:=by
 have h1:=(Mu _).1 hsw
 have h2:=(Mu _).1 hsh
 subst ha;subst hb
 rw[Q2 s hsw hsh]
 have e0:((a:Int)*(b:Int)).toNat=b*a:=by rw[← Int.natCast_mul,Int.toNat_natCast,Nat.mul_comm]
 have e1:((a:Int)*(b:Int)/4).toNat=b/2*(a/2):=by
  rw[← Xv h1.2.2 h2.2.2 (by omega) (by omega),O8 (by omega),O8 (by omega),show (a:Int)/2=((a/2:Nat):Int) by omega,show (b:Int)/2=((b/2:Nat):Int) by omega,← Int.natCast_mul,Int.toNat_natCast,Nat.mul_comm]
 exact⟨congrArg (List.replicate · s) e0,congrArg (List.replicate · s) e1,congrArg (List.replicate · s) e1⟩
theorem Z9{w h:Int}(hsw:Mk w=true)(hsh:Mk h=true){g:FD}(hW:g.W=w)(hH:g.H=h)(h0:g.p0.length=(LG w h 0).p0.length)(h1:g.p1.length=(LG w h 0).p1.length)(h2:g.p2.length=(LG w h 0).p2.length)(k:Nat)(hk:k<=2){a b:Nat}(ha:(a:Int)=w)(hb:(b:Int)=h):Ld g ((k:Nat):Int)=(((Qv a (a/2) k:Nat):Int),((Qv b (b/2) k:Nat):Int)):=by
 have hn:=Y3 0 hsw hsh
 have hg:QY g:=aCM hn (by rw[hW,(Ml 0 hsw hsh).1]) (by rw[hH,(Ml 0 hsw hsh).2]) h0 h1 h2
 have s1:=(Mu _).1 hsw
 have s2:=(Mu _).1 hsh
 cases k with
 | zero=>show Ld g 0=_;rw[Uv hg rfl,hW,hH,← ha,← hb];rfl
 | succ k =>
  rw[UF hg (by omega) (by omega) (by omega),hW,hH,O8 (by omega),O8 (by omega)]
  simp only[Qv]
  congr 1 <;> omega
theorem V2{w h:Int}(hsw:Mk w=true)(hsh:Mk h=true){g:FD}(hW:g.W=w)(hH:g.H=h)(h0:g.p0.length=(LG w h 0).p0.length)(h1:g.p1.length=(LG w h 0).p1.length)(h2:g.p2.length=(LG w h 0).p2.length)(k:Nat)(hk:k<=2){a b:Nat}(ha:(a:Int)=w)(hb:(b:Int)=h):(Ld g ((k:Nat):Int)).1=((Qv a (a/2) k:Nat):Int):=by rw[Z9 hsw hsh hW hH h0 h1 h2 k hk ha hb]
theorem Vs{w h:Int}(hsw:Mk w=true)(hsh:Mk h=true){g:FD}(hW:g.W=w)(hH:g.H=h)(h0:g.p0.length=(LG w h 0).p0.length)(h1:g.p1.length=(LG w h 0).p1.length)(h2:g.p2.length=(LG w h 0).p2.length)(k:Nat)(hk:k<=2){a b:Nat}(ha:(a:Int)=w)(hb:(b:Int)=h):(Ld g ((k:Nat):Int)).2=((Qv b (b/2) k:Nat):Int):=by rw[Z9 hsw hsh hW hH h0 h1 h2 k hk ha hb]
theorem Vn{y pw ph:Nat}(h:y<ph)(hp:pw<=64)(hh:ph<=64):y*pw+pw<=ph*pw/\0<=((y:Nat):Int)*((pw:Nat):Int)/\((y:Nat):Int)*((pw:Nat):Int)<=4096/\((y:Nat):Int)*((pw:Nat):Int)+((pw:Nat):Int)<=((ph*pw:Nat):Int):=by
 have h1:(y+1)*pw<=ph*pw:=Nat.mul_le_mul_right _ h
 rw[Nat.succ_mul] at h1
 have h2:y*pw<=64*64:=Nat.mul_le_mul (by omega) hp
 rw[← Int.natCast_mul]
 omega
theorem aAI(w h:Int)(s:Nat)(w0:World)(hs:s<256) :
  Calls Tryz.prog 25 #[.int .i64 (w),.int .i64 (h),.int .u8 (((s:Nat):Int))] w0 fun e w'=>∃ (v1:Value) (T1:Nat->Prop) (v2:Value) (T2:Nat->Prop) (v3:Value) (T3:Nat->Prop),e = .returned (.tuple #[.agg #[.int .i64 ((LG w h s).W),.int .i64 ((LG w h s).H),v1,v2,v3],.int .i64 (Sc w h)])/\KO (fun _=>False) w0 w'/\(L3 w' T1 v1 ((LG w h s).p0)/\KP w0 LX T1)/\(L3 w' T2 v2 ((LG w h s).p1)/\KP w0 LX T2)/\(L3 w' T3 v3 ((LG w h s).p2)/\KP w0 LX T3)/\KK T1 T2/\KK T1 T3/\KK T2 T3:=by
 refine Lr (args:=[iv w,iv h,.int .u8 ((s:Nat):Int)]) 55 Tryz.func25 rfl rfl (Nat.le_of_ble_eq_true rfl) ?_
 have K0:=KO.refl (fun _=>False) w0
 refine KJ (KH (LF (n:=5) (vs:=[iv 0,iv 0,.slice none 0 0,.slice none 0 0,.slice none 0 0]) rfl rfl rfl (by kernel_rfl) fun p1 w2 B4 g5 k3=>?_))
 have aZ:=KP.new K0 g5
 have K7:=K0.tr k3
 refine KI (iv 0) rfl rfl (KS rfl rfl rr) (KM ?_)
 have aw:=K4 (iv w)
 have a9:=K4 (iv h)
 have dP:=K4 (.int .u8 ((s:Nat):Int))
 have ba:=K4 (undef)
 have az:=K4 (pt p1 0)
 refine KG (KJ (KJ ?_))
 rcases Bool.eq_false_or_eq_true (Mk w) with aE|aE
 ·skip
  rcases Bool.eq_false_or_eq_true (Mk h) with bb|bb
  ·skip
   refine KH (KR rfl rfl rfl aw (LB (R:=fun v_ w_=>v_ = .bool true/\KO (fun _=>False) w2 w_) rfl rfl (LH rfl rfl rfl (fun _ _=>by kernel_rfl) (K5 _) (Lk rfl LR) (Pp w  _   ) (fun e_ w_ h_=>⟨_,h_.1,(congrArg Value.bool aE),h_.2⟩)) ?_))
   rintro _ dQ ⟨rfl,bN⟩
   have dR:=B4.all bN id
   refine KI (.bool false) rfl rfl (L9 rfl rfl rfl rr) (KI (.bool false) rfl rfl (KQ rfl rfl rr) (KT (iv h) 3 false 17 rfl rfl rfl rfl rfl (KQ rfl a9 rr) (LN (R:=fun v_ w_=>v_ = .bool true/\KO (fun _=>False) dQ w_) 3 false 17 rfl rfl rfl rfl rfl (LH rfl rfl rfl (fun _ _=>by kernel_rfl) (K5 _) (Lk rfl LR) (Pp h  _   ) (fun e_ w_ h_=>⟨_,h_.1,(congrArg Value.bool bb),h_.2⟩)) ?_)))
   rintro _ aF ⟨rfl,bO⟩
   have aG:=dR.all bO id
   have aH:=(K7.tr bN).tr bO
   refine KT (.bool false) 3 false 17 rfl rfl rfl rfl rfl (L9 rfl rfl rfl rr) (KI (.bool false) rfl rfl (Li rfl rfl rfl rr) (KM ?_))
   have dS:=K4 (.bool false)
   refine KG ?_
   refine K6 (t:=false) dS (fun e=>by cases e) (fun _=>?_)
   refine Lg (KG (KJ ?_))
   have hsw:Mk w=true:=by assumption
   have hsh:Mk h=true:=by assumption
   have hws:=(Mu _).1 hsw
   have hhs:=(Mu _).1 hsh
   obtain⟨a,ha⟩:∃ n:Nat,(n:Int)=w:=⟨w.toNat,by omega⟩
   obtain⟨b,hb⟩:∃ n:Nat,(n:Int)=h:=⟨h.toNat,by omega⟩
   refine KH (KR rfl rfl rfl aw (KR rfl rfl rfl a9 (LB (R:=fun v_ w_=>∃ (aa:Value) (ap:Nat->Prop) (ab:Value) (an:Nat->Prop) (ac:Value) (aj:Nat->Prop),.agg #[iv ((LG w h 0).W),iv ((LG w h 0).H),aa,ab,ac]=v_/\KO (fun _=>False) aF w_/\(L3 w_ ap aa ((LG w h 0).p0)/\KP aF LX ap)/\(L3 w_ an ab ((LG w h 0).p1)/\KP aF LX an)/\(L3 w_ aj ac ((LG w h 0).p2)/\KP aF LX aj)/\KK ap an/\KK ap aj/\KK an aj) rfl rfl (LH rfl rfl rfl (fun _ _=>by kernel_rfl) (K5 _) (Lk rfl (Lk rfl LR)) (Yg w h  _ hsw hsh  ) (fun e_ w_ h_=>by obtain⟨v33_,T38_,v34_,T39_,v35_,T40_,he_,hr_⟩:=h_;exact⟨_,he_,v33_,T38_,v34_,T39_,v35_,T40_,rfl,hr_⟩)) ?_)))
   rintro _ io ⟨aa,ap,ab,an,ac,aj,rfl,bP,⟨bQ,bR⟩,⟨bS,bT⟩,⟨bU,bV⟩,dT,dU,dV⟩
   have bW:=aG.all bP id
   have bX:=aH.tr bP
   have dW:=KK.new bR (LT aG.lt)
   have dX:=KK.new bT (LT aG.lt)
   have dY:=KK.new bV (LT aG.lt)
   refine LF (n:=5) (vs:=[iv 0,iv 0,.slice none 0 0,.slice none 0 0,.slice none 0 0]) rfl rfl rfl (by kernel_rfl) fun ae ip dZ bY bZ=>?_
   obtain⟨d8,b7,b8,b9⟩:=Wj bY bW bQ bS bU
   obtain⟨d9,cd,ce,cf⟩:=OV bZ bW bQ bS bU
   refine Lj (us:=[iv ((LG w h 0).W),iv ((LG w h 0).H),aa,ab,ac]) Lc rfl rfl rfl rfl rfl dZ rfl (KX rfl (KX rfl (KX cd.one (KX ce.one (KX cf.one MG))))) fun iq eb aA=>?_
   have ee:=d9.all aA (d8.symm p1 rfl)
   have cg:=cd.all aA b7.symm
   have ci:=ce.all aA b8.symm
   have cj:=cf.all aA b9.symm
   refine R4 fun cm bc=>?_
   obtain⟨eh,ei,ek,en⟩:=t4 bc 0 aw 2 dP 55 ba 6 az
   have cn:cm 8=pt ae 0:=(bc 8).trans rfl
   clear bc
   refine KG (KJ ?_)
   have eo:cm 0=iv ((a:Nat):Int):=eh.trans (congrArg (Value.int .i64) (ha.symm))
   refine KH (KR rfl rfl rfl ei (VB (n:=s) rfl rfl rfl rfl (by omega) (by omega) fun aI co aq cq ep cr=>?_))
   obtain⟨er,et,eu⟩:=TD ep cg ci cj
   obtain⟨ew,ct,cu,cv,ex⟩:=OU cr ee cg ci cj eb
   refine KR rfl rfl rfl eo (LB (R:=fun v_ w_=>∃ (am:Value) (ao:Nat->Prop),am=v_/\KO (fun _=>False) co w_/\(Mh w_ ao am (List.replicate a s)/\KP co LX ao)) rfl rfl (LH rfl rfl rfl (fun _ _=>by kernel_rfl) (K5 _) (Lk rfl (Lk rfl LR)) (azq aI ([s]) s a aq _ rfl rfl (by omega) (by omega) cq.byt ) (fun e_ w_ h_=>by obtain⟨v107_,T110_,he_,hr_⟩:=h_;exact⟨_,he_,v107_,T110_,rfl,hr_⟩)) ?_)
   rintro _ iu ⟨am,ao,rfl,cw,⟨ey,ez⟩⟩
   obtain⟨eA,cy,cz,cA,cB,eB⟩:=QB cw ew ct cu cv ex cq
   obtain⟨eC,eD,eE⟩:=TD ez ct cu cv
   refine KI am rfl rfl (KS rfl rfl rr) (KM ?_)
   have eF:=K4 (am)
   refine KG (KJ (KJ (KH (KI (iv 0) rfl rfl (KQ rfl rfl rr) (KM ?_)))))
   have bd:=K4 (iv 0)
   refine KG (Lm (Oy 4 (Mc (KJ (KH (KI (.bool true) rfl rfl (L4 rfl bd rfl rfl rr) (KM ?_)))))))
   have eG:=K4 (.bool true)
   refine KG (KJ ?_)
   refine K6 (t:=true) eG (fun _=>?_) (fun e=>by cases e)
   refine Lg (KG (KJ (Lm (KJ (KH (KR rfl rfl rfl bd (KI (iv 0) rfl rfl (KS rfl rfl rr) (KM ?_))))))))
   have cC:=K4 (iv 0)
   refine KG (KJ (KH (KI (.agg #[iv ((LG w h 0).W),iv ((LG w h 0).H),aa,ab,ac]) rfl rfl (KZ Lc rfl cn cB rr) (KR rfl rfl rfl cC (LW rfl rfl rfl rfl rfl (fun _ _=>by kernel_rfl) (Lk rfl (Lk rfl LR)) (Tb 0 (LG w h 0) aa ab ac ap an aj _  cy.byt cz.byt cA.byt ) fun iw cD=>?_)))))
   obtain⟨eH,eI,eJ,eK,eL,eM,eN⟩:=Tz cD eA cy cz cA cB eB ey
   refine KI (.tuple #[iv ((Ld (LG w h 0) 0).1),iv ((Ld (LG w h 0) 0).2)]) rfl rfl (KQ rfl rfl rr) (KI (iv ((Ld (LG w h 0) 0).1)) rfl rfl (LL rfl rfl rfl rr) (KI (iv ((Ld (LG w h 0) 0).2)) rfl rfl (LL rfl rfl rfl rr) (KI (iv ((Ld (LG w h 0) 0).1)) rfl rfl (KS rfl rfl rr) (KI (iv ((Ld (LG w h 0) 0).2)) rfl rfl (KS rfl rfl rr) (R4 fun aJ aK=>?_)))))
   obtain⟨eO,eP,eQ,eR,eS,eT⟩:=t6 aK 55 ek 6 en 8 cn 9 eF 30 bd 10 cC
   have eU:aJ 11=iv ((Ld (LG w h 0) 0).1):=(aK 11).trans rfl
   have eV:aJ 12=iv ((Ld (LG w h 0) 0).2):=(aK 12).trans rfl
   clear aK
   refine KG (KJ ?_)
   obtain⟨pw0,hpw0⟩:∃ q,q=Qv a (a/2) 0:=⟨_,rfl⟩
   obtain⟨ph0,hph0⟩:∃ q,q=Qv b (b/2) 0:=⟨_,rfl⟩
   have cF:(LG w h 0).p0=List.replicate (ph0*pw0) 0:=by rw[hpw0,hph0];first|exact(MD 0 hsw hsh ha hb).1|exact(MD 0 hsw hsh ha hb).2.1|exact(MD 0 hsw hsh ha hb).2.2
   have hE0:(LG w h s).p0=List.replicate (ph0*pw0) s:=by rw[hpw0,hph0];first|exact(MD s hsw hsh ha hb).1|exact(MD s hsw hsh ha hb).2.1|exact(MD s hsw hsh ha hb).2.2
   have hB0:pw0<=a/\pw0<=64/\ph0<=64:=by have e1:=Rs a (a/2) 0;have e2:=Rs b (b/2) 0;omega
   have eW:aJ 11=iv ((pw0:Nat):Int):=eU.trans (congrArg (Value.int .i64) (by rw[hpw0];(refine V2 hsw hsh ?_ ?_ ?_ ?_ ?_ 0 (by decide) ha hb <;> first|exact(Ml 0 hsw hsh).1|exact(Ml 0 hsw hsh).2|exact hl0|exact hl1|rfl)))
   have eX:aJ 12=iv ((ph0:Nat):Int):=eV.trans (congrArg (Value.int .i64) (by rw[hph0];(refine Vs hsw hsh ?_ ?_ ?_ ?_ ?_ 0 (by decide) ha hb <;> first|exact(Ml 0 hsw hsh).1|exact(Ml 0 hsw hsh).2|exact hl0|exact hl1|rfl)))
   refine KH (KR rfl rfl rfl eX (KI (iv 0) rfl rfl (KQ rfl rfl rr) (KM ?_)))
   have eY:=K4 (iv ((ph0:Nat):Int))
   have eZ:=K4 (iv 0)
   refine KG (Lm (MZ (fun nn FF ww=>∃ (y:Nat),∃ (af:Nat->Prop),(y<=ph0)/\nn=ph0-y/\FF 6=pt p1 0/\FF 8=pt ae 0/\FF 9=am/\FF 10=iv 0/\FF 11=iv ((pw0:Nat):Int)/\FF 30=iv 0/\FF 39=iv ((ph0:Nat):Int)/\FF 55=undef/\FF 40=iv ((y:Nat):Int)/\KO (fun _=>False) w0 ww/\Mz ww p1 29 [iv 0,iv 0,.slice none 0 0,.slice none 0 0,.slice none 0 0]/\L3 ww af aa (MA (ph0*pw0) s (y*pw0))/\L3 ww an ab ((LG w h 0).p1)/\L3 ww aj ac ((LG w h 0).p2)/\Mz ww ae 29 [iv ((LG w h 0).W),iv ((LG w h 0).H),aa,ab,ac]/\L3 ww aq aI ([s])/\Mh ww ao am (List.replicate a s)/\KP w0 LX af/\KK af (Lf p1)/\KK af an/\KK af aj/\KK af (Lf ae)/\KK af aq/\KK af ao) (ph0-0) ⟨0,ap,by omega,rfl,eP,eQ,eR,eT,eW,eS,eY,eO,eZ,(((((bX.tr bZ).trans aA (KP.ok (S:=fun _=>False) (KP.new bX bY) K3)).tr cr).tr cw).tr cD),eH,L3.of_eq (SQ cF) eI,eJ,eK,eL,eM,eN,(KP.new aH bR),dW,dT,dU,b7.symm,er.symm,eC.symm⟩ ?_))
   rintro iy iz iA ⟨y,af,i194,hn193,cI,aL,be,cJ,cK,cL,cM,cN,bf,cO,cP,aM,bg,bh,aN,cQ,cR,bi,bj,bl,bm,cS,cT,cU⟩
   refine KJ (KH (KI (.bool (decide (((y:Nat):Int)<((ph0:Nat):Int)))) rfl rfl (L4 rfl bf cM rfl rr) (KM ?_)))
   have e6:=K4 (.bool (decide (((y:Nat):Int)<((ph0:Nat):Int))))
   refine KG (KJ ?_)
   refine K6 e6 (fun aB=>?_) (fun aB=>?_)
   ·replace aB:=of_decide_eq_true aB
    refine Lg (KG (KJ (Lm (KJ (KH (KR rfl rfl rfl bf (KI (iv ((y:Nat):Int)) rfl rfl (KS rfl rfl rr) (KM ?_))))))))
    have e7:=K4 (iv ((y:Nat):Int))
    refine KG ?_
    have hz:=Vn (y:=y) (pw:=pw0) (ph:=ph0) (by omega) hB0.2.1 hB0.2.2
    have hfl:(MA (ph0*pw0) s (y*pw0)).length=ph0*pw0:=OQ (by omega)
    refine KH (KR rfl rfl rfl cJ (KI (pt ae 2) rfl rfl (KU (n:=3) rfl aL Tryz.underlying29 rfl (by kernel_rfl) (by decide) rfl rr) (KI (pt ae 2) rfl rfl (LV 0 (s:=1) rfl rfl rfl (by omega) Tryz.underlying27 (by omega) (by kernel_rfl) (by omega) rr) (KI aa rfl rfl (KY rfl rfl Tryz.underlying26 aN rfl rfl rr) (KR rfl rfl rfl cK (KR rfl rfl rfl e7 (LW rfl rfl rfl rfl rfl (fun _ _=>by kernel_rfl) (Lk rfl (Lk rfl (Lk rfl LR))) (SU aa (MA (ph0*pw0) s (y*pw0)) ((pw0:Nat):Int) ((y:Nat):Int) af _ (by omega) (by omega) (by rw[hfl];exact hz.2.2.2) (by omega) aM.byt ) fun iB cV=>?_)))))))
    obtain⟨e8,cW,e9,fa,fb,fc,cX⟩:=Tz cV cP aM bg bh aN cQ cR
    refine KR rfl rfl rfl be (Sb rfl rfl rfl rfl rfl (Tn cW.byt (by omega)) rfl cW cX (by rw[hfl];omega) fun iC fd ar=>?_)
    have fe:=e8.all ar (bj.symm p1 rfl)
    have ff:=e9.all ar bl.symm
    have fg:=fa.all ar bm.symm
    have fh:=fb.all ar (cS.symm ae rfl)
    have fk:=fc.all ar cT.symm
    have fm:=cX.all ar cU.symm
    refine KM ?_
    refine LC (KG (KH (KI (iv ((y+1:Nat):Int)) rfl rfl (LP rfl bf rfl (L6 (by omega) (by omega)) rr) (KI (iv ((y+1:Nat):Int)) rfl rfl (KQ rfl rfl rr) (KM ?_)))))
    have fo:=K4 (iv ((y+1:Nat):Int))
    exact KG ⟨(ph0-(y+1)),by omega,y+1,af,by omega,rfl,cI,aL,be,cJ,cK,cL,cM,cN,fo,((cO.tr cV).trans ar (KP.ok (S:=fun _=>False) bi K3)),fe,L3.of_eq (Ul hB0.1) fd,ff,fg,fh,fk,fm,bi,bj,bl,bm,cS,cT,cU⟩
   ·replace aB:=of_decide_eq_false aB
    refine Me (Ls (Ls ?_))
    have fp:ph0=y:=by omega
    subst fp
    have hl0:(MA (ph0*pw0) s (ph0*pw0)).length=(LG w h 0).p0.length:=by rw[OQ (Nat.le_refl _),cF,List.length_replicate]
    refine Mf (LC (KG (KH (KI (iv ((1:Nat):Int)) rfl rfl (LP rfl cL rfl (L6 (by omega) (by omega)) rr) (KI (iv ((1:Nat):Int)) rfl rfl (KQ rfl rfl rr) (KM ?_))))))
    have bn:=K4 (iv ((1:Nat):Int))
    refine KG (Mc (KJ (KH (KI (.bool true) rfl rfl (L4 rfl bn rfl rfl rr) (KM ?_)))))
    have fq:=K4 (.bool true)
    refine KG (KJ ?_)
    refine K6 (t:=true) fq (fun _=>?_) (fun e=>by cases e)
    refine Lg (KG (KJ (Lm (KJ (KH (KR rfl rfl rfl bn (KI (iv ((1:Nat):Int)) rfl rfl (KS rfl rfl rr) (KM ?_))))))))
    have cY:=K4 (iv ((1:Nat):Int))
    refine KG (KJ (KH (KI (.agg #[iv ((LG w h 0).W),iv ((LG w h 0).H),aa,ab,ac]) rfl rfl (KZ Lc rfl aL aN rr) (KR rfl rfl rfl cY (LW rfl rfl rfl rfl rfl (fun _ _=>by kernel_rfl) (Lk rfl (Lk rfl LR)) (Tb ((1:Nat):Int) (FD.mk ((LG w h 0).W) ((LG w h 0).H) (MA (ph0*pw0) s (ph0*pw0)) ((LG w h 0).p1) ((LG w h 0).p2)) aa ab ac af an aj _  aM.byt bg.byt bh.byt ) fun iD cZ=>?_)))))
    obtain⟨ft,fu,fw,fx,fy,fA,fB⟩:=Tz cZ cP aM bg bh aN cQ cR
    refine KI (.tuple #[iv ((Ld (FD.mk ((LG w h 0).W) ((LG w h 0).H) (MA (ph0*pw0) s (ph0*pw0)) ((LG w h 0).p1) ((LG w h 0).p2)) ((1:Nat):Int)).1),iv ((Ld (FD.mk ((LG w h 0).W) ((LG w h 0).H) (MA (ph0*pw0) s (ph0*pw0)) ((LG w h 0).p1) ((LG w h 0).p2)) ((1:Nat):Int)).2)]) rfl rfl (KQ rfl rfl rr) (KI (iv ((Ld (FD.mk ((LG w h 0).W) ((LG w h 0).H) (MA (ph0*pw0) s (ph0*pw0)) ((LG w h 0).p1) ((LG w h 0).p2)) ((1:Nat):Int)).1)) rfl rfl (LL rfl rfl rfl rr) (KI (iv ((Ld (FD.mk ((LG w h 0).W) ((LG w h 0).H) (MA (ph0*pw0) s (ph0*pw0)) ((LG w h 0).p1) ((LG w h 0).p2)) ((1:Nat):Int)).2)) rfl rfl (LL rfl rfl rfl rr) (KI (iv ((Ld (FD.mk ((LG w h 0).W) ((LG w h 0).H) (MA (ph0*pw0) s (ph0*pw0)) ((LG w h 0).p1) ((LG w h 0).p2)) ((1:Nat):Int)).1)) rfl rfl (KS rfl rfl rr) (KI (iv ((Ld (FD.mk ((LG w h 0).W) ((LG w h 0).H) (MA (ph0*pw0) s (ph0*pw0)) ((LG w h 0).p1) ((LG w h 0).p2)) ((1:Nat):Int)).2)) rfl rfl (KS rfl rfl rr) (R4 fun aO aP=>?_)))))
    obtain⟨fC,fD,fE,fF,fG,fH⟩:=t6 aP 6 cI 8 aL 9 be 55 cN 30 bn 10 cY
    have fI:aO 11=iv ((Ld (FD.mk ((LG w h 0).W) ((LG w h 0).H) (MA (ph0*pw0) s (ph0*pw0)) ((LG w h 0).p1) ((LG w h 0).p2)) ((1:Nat):Int)).1):=(aP 11).trans rfl
    have fJ:aO 12=iv ((Ld (FD.mk ((LG w h 0).W) ((LG w h 0).H) (MA (ph0*pw0) s (ph0*pw0)) ((LG w h 0).p1) ((LG w h 0).p2)) ((1:Nat):Int)).2):=(aP 12).trans rfl
    clear aP
    refine KG (KJ ?_)
    obtain⟨pw1,hpw1⟩:∃ q,q=Qv a (a/2) 1:=⟨_,rfl⟩
    obtain⟨ph1,hph1⟩:∃ q,q=Qv b (b/2) 1:=⟨_,rfl⟩
    have c5:(LG w h 0).p1=List.replicate (ph1*pw1) 0:=by rw[hpw1,hph1];first|exact(MD 0 hsw hsh ha hb).1|exact(MD 0 hsw hsh ha hb).2.1|exact(MD 0 hsw hsh ha hb).2.2
    have hE1:(LG w h s).p1=List.replicate (ph1*pw1) s:=by rw[hpw1,hph1];first|exact(MD s hsw hsh ha hb).1|exact(MD s hsw hsh ha hb).2.1|exact(MD s hsw hsh ha hb).2.2
    have hB1:pw1<=a/\pw1<=64/\ph1<=64:=by have e1:=Rs a (a/2) 1;have e2:=Rs b (b/2) 1;omega
    have fK:aO 11=iv ((pw1:Nat):Int):=fI.trans (congrArg (Value.int .i64) (by rw[hpw1];(refine V2 hsw hsh ?_ ?_ ?_ ?_ ?_ 1 (by decide) ha hb <;> first|exact(Ml 0 hsw hsh).1|exact(Ml 0 hsw hsh).2|exact hl0|exact hl1|rfl)))
    have fL:aO 12=iv ((ph1:Nat):Int):=fJ.trans (congrArg (Value.int .i64) (by rw[hph1];(refine Vs hsw hsh ?_ ?_ ?_ ?_ ?_ 1 (by decide) ha hb <;> first|exact(Ml 0 hsw hsh).1|exact(Ml 0 hsw hsh).2|exact hl0|exact hl1|rfl)))
    refine KH (KR rfl rfl rfl fL (KI (iv 0) rfl rfl (KQ rfl rfl rr) (KM ?_)))
    have fM:=K4 (iv ((ph1:Nat):Int))
    have fN:=K4 (iv 0)
    refine KG (Lm (MZ (fun nn FF ww=>∃ (y:Nat),∃ (ah:Nat->Prop),(y<=ph1)/\nn=ph1-y/\FF 6=pt p1 0/\FF 8=pt ae 0/\FF 9=am/\FF 10=iv ((1:Nat):Int)/\FF 11=iv ((pw1:Nat):Int)/\FF 30=iv ((1:Nat):Int)/\FF 39=iv ((ph1:Nat):Int)/\FF 55=undef/\FF 40=iv ((y:Nat):Int)/\KO (fun _=>False) w0 ww/\Mz ww p1 29 [iv 0,iv 0,.slice none 0 0,.slice none 0 0,.slice none 0 0]/\L3 ww af aa (MA (ph0*pw0) s (ph0*pw0))/\L3 ww ah ab (MA (ph1*pw1) s (y*pw1))/\L3 ww aj ac ((LG w h 0).p2)/\Mz ww ae 29 [iv ((LG w h 0).W),iv ((LG w h 0).H),aa,ab,ac]/\L3 ww aq aI ([s])/\Mh ww ao am (List.replicate a s)/\KP w0 LX ah/\KK ah (Lf p1)/\KK ah af/\KK ah aj/\KK ah (Lf ae)/\KK ah aq/\KK ah ao) (ph1-0) ⟨0,an,by omega,rfl,fC,fD,fE,fH,fK,fG,fM,fF,fN,(cO.tr cZ),ft,fu,L3.of_eq (SQ c5) fw,fx,fy,fA,fB,(KP.new aH bT),dX,bl.symm,dV,b8.symm,et.symm,eD.symm⟩ ?_))
    rintro iE iF iG ⟨y,ah,i350,hn349,c6,aQ,bo,c7,c9,da,db,dc,bp,dd,de,bq,aR,bt,aS,df,dg,bu,bv,bz,bA,dh,di,dj⟩
    refine KJ (KH (KI (.bool (decide (((y:Nat):Int)<((ph1:Nat):Int)))) rfl rfl (L4 rfl bp db rfl rr) (KM ?_)))
    have fO:=K4 (.bool (decide (((y:Nat):Int)<((ph1:Nat):Int))))
    refine KG (KJ ?_)
    refine K6 fO (fun aC=>?_) (fun aC=>?_)
    ·replace aC:=of_decide_eq_true aC
     refine Lg (KG (KJ (Lm (KJ (KH (KR rfl rfl rfl bp (KI (iv ((y:Nat):Int)) rfl rfl (KS rfl rfl rr) (KM ?_))))))))
     have fP:=K4 (iv ((y:Nat):Int))
     refine KG ?_
     have hz:=Vn (y:=y) (pw:=pw1) (ph:=ph1) (by omega) hB1.2.1 hB1.2.2
     have hfl:(MA (ph1*pw1) s (y*pw1)).length=ph1*pw1:=OQ (by omega)
     refine KH (KR rfl rfl rfl c7 (KI (pt ae 2) rfl rfl (KU (n:=3) rfl aQ Tryz.underlying29 rfl (by kernel_rfl) (by decide) rfl rr) (KI (pt ae 3) rfl rfl (LV 1 (s:=1) rfl rfl rfl (by omega) Tryz.underlying27 (by omega) (by kernel_rfl) (by omega) rr) (KI ab rfl rfl (KY rfl rfl Tryz.underlying26 aS rfl rfl rr) (KR rfl rfl rfl c9 (KR rfl rfl rfl fP (LW rfl rfl rfl rfl rfl (fun _ _=>by kernel_rfl) (Lk rfl (Lk rfl (Lk rfl LR))) (SU ab (MA (ph1*pw1) s (y*pw1)) ((pw1:Nat):Int) ((y:Nat):Int) ah _ (by omega) (by omega) (by rw[hfl];exact hz.2.2.2) (by omega) aR.byt ) fun iH dk=>?_)))))))
     obtain⟨fQ,fR,dl,fS,fT,fU,dm⟩:=Tz dk de bq aR bt aS df dg
     refine KR rfl rfl rfl bo (Sb rfl rfl rfl rfl rfl (Tn dl.byt (by omega)) rfl dl dm (by rw[hfl];omega) fun iI fV au=>?_)
     have fW:=fQ.all au (bv.symm p1 rfl)
     have fX:=fR.all au bz.symm
     have fY:=fS.all au bA.symm
     have fZ:=fT.all au (dh.symm ae rfl)
     have f6:=fU.all au di.symm
     have f7:=dm.all au dj.symm
     refine KM ?_
     refine LC (KG (KH (KI (iv ((y+1:Nat):Int)) rfl rfl (LP rfl bp rfl (L6 (by omega) (by omega)) rr) (KI (iv ((y+1:Nat):Int)) rfl rfl (KQ rfl rfl rr) (KM ?_)))))
     have f8:=K4 (iv ((y+1:Nat):Int))
     exact KG ⟨(ph1-(y+1)),by omega,y+1,ah,by omega,rfl,c6,aQ,bo,c7,c9,da,db,dc,f8,((dd.tr dk).trans au (KP.ok (S:=fun _=>False) bu K3)),fW,fX,L3.of_eq (Ul hB1.1) fV,fY,fZ,f6,f7,bu,bv,bz,bA,dh,di,dj⟩
    ·replace aC:=of_decide_eq_false aC
     refine Me (Ls (Ls ?_))
     have f9:ph1=y:=by omega
     subst f9
     have hl1:(MA (ph1*pw1) s (ph1*pw1)).length=(LG w h 0).p1.length:=by rw[OQ (Nat.le_refl _),c5,List.length_replicate]
     refine Mf (LC (KG (KH (KI (iv ((2:Nat):Int)) rfl rfl (LP rfl da rfl (L6 (by omega) (by omega)) rr) (KI (iv ((2:Nat):Int)) rfl rfl (KQ rfl rfl rr) (KM ?_))))))
     have bB:=K4 (iv ((2:Nat):Int))
     refine KG (Mc (KJ (KH (KI (.bool true) rfl rfl (L4 rfl bB rfl rfl rr) (KM ?_)))))
     have ga:=K4 (.bool true)
     refine KG (KJ ?_)
     refine K6 (t:=true) ga (fun _=>?_) (fun e=>by cases e)
     refine Lg (KG (KJ (Lm (KJ (KH (KR rfl rfl rfl bB (KI (iv ((2:Nat):Int)) rfl rfl (KS rfl rfl rr) (KM ?_))))))))
     have dn:=K4 (iv ((2:Nat):Int))
     refine KG (KJ (KH (KI (.agg #[iv ((LG w h 0).W),iv ((LG w h 0).H),aa,ab,ac]) rfl rfl (KZ Lc rfl aQ aS rr) (KR rfl rfl rfl dn (LW rfl rfl rfl rfl rfl (fun _ _=>by kernel_rfl) (Lk rfl (Lk rfl LR)) (Tb ((2:Nat):Int) (FD.mk ((LG w h 0).W) ((LG w h 0).H) (MA (ph0*pw0) s (ph0*pw0)) (MA (ph1*pw1) s (ph1*pw1)) ((LG w h 0).p2)) aa ab ac af ah aj _  bq.byt aR.byt bt.byt ) fun iJ dp=>?_)))))
     obtain⟨gb,gc,gd,ge,gh,gi,gj⟩:=Tz dp de bq aR bt aS df dg
     refine KI (.tuple #[iv ((Ld (FD.mk ((LG w h 0).W) ((LG w h 0).H) (MA (ph0*pw0) s (ph0*pw0)) (MA (ph1*pw1) s (ph1*pw1)) ((LG w h 0).p2)) ((2:Nat):Int)).1),iv ((Ld (FD.mk ((LG w h 0).W) ((LG w h 0).H) (MA (ph0*pw0) s (ph0*pw0)) (MA (ph1*pw1) s (ph1*pw1)) ((LG w h 0).p2)) ((2:Nat):Int)).2)]) rfl rfl (KQ rfl rfl rr) (KI (iv ((Ld (FD.mk ((LG w h 0).W) ((LG w h 0).H) (MA (ph0*pw0) s (ph0*pw0)) (MA (ph1*pw1) s (ph1*pw1)) ((LG w h 0).p2)) ((2:Nat):Int)).1)) rfl rfl (LL rfl rfl rfl rr) (KI (iv ((Ld (FD.mk ((LG w h 0).W) ((LG w h 0).H) (MA (ph0*pw0) s (ph0*pw0)) (MA (ph1*pw1) s (ph1*pw1)) ((LG w h 0).p2)) ((2:Nat):Int)).2)) rfl rfl (LL rfl rfl rfl rr) (KI (iv ((Ld (FD.mk ((LG w h 0).W) ((LG w h 0).H) (MA (ph0*pw0) s (ph0*pw0)) (MA (ph1*pw1) s (ph1*pw1)) ((LG w h 0).p2)) ((2:Nat):Int)).1)) rfl rfl (KS rfl rfl rr) (KI (iv ((Ld (FD.mk ((LG w h 0).W) ((LG w h 0).H) (MA (ph0*pw0) s (ph0*pw0)) (MA (ph1*pw1) s (ph1*pw1)) ((LG w h 0).p2)) ((2:Nat):Int)).2)) rfl rfl (KS rfl rfl rr) (R4 fun aT aU=>?_)))))
     obtain⟨gl,gm,gn,go,gp,gq⟩:=t6 aU 6 c6 8 aQ 9 bo 55 dc 30 bB 10 dn
     have gr:aT 11=iv ((Ld (FD.mk ((LG w h 0).W) ((LG w h 0).H) (MA (ph0*pw0) s (ph0*pw0)) (MA (ph1*pw1) s (ph1*pw1)) ((LG w h 0).p2)) ((2:Nat):Int)).1):=(aU 11).trans rfl
     have gt:aT 12=iv ((Ld (FD.mk ((LG w h 0).W) ((LG w h 0).H) (MA (ph0*pw0) s (ph0*pw0)) (MA (ph1*pw1) s (ph1*pw1)) ((LG w h 0).p2)) ((2:Nat):Int)).2):=(aU 12).trans rfl
     clear aU
     refine KG (KJ ?_)
     obtain⟨pw2,hpw2⟩:∃ q,q=Qv a (a/2) 2:=⟨_,rfl⟩
     obtain⟨ph2,hph2⟩:∃ q,q=Qv b (b/2) 2:=⟨_,rfl⟩
     have dq:(LG w h 0).p2=List.replicate (ph2*pw2) 0:=by rw[hpw2,hph2];first|exact(MD 0 hsw hsh ha hb).1|exact(MD 0 hsw hsh ha hb).2.1|exact(MD 0 hsw hsh ha hb).2.2
     have hE2:(LG w h s).p2=List.replicate (ph2*pw2) s:=by rw[hpw2,hph2];first|exact(MD s hsw hsh ha hb).1|exact(MD s hsw hsh ha hb).2.1|exact(MD s hsw hsh ha hb).2.2
     have hB2:pw2<=a/\pw2<=64/\ph2<=64:=by have e1:=Rs a (a/2) 2;have e2:=Rs b (b/2) 2;omega
     have gu:aT 11=iv ((pw2:Nat):Int):=gr.trans (congrArg (Value.int .i64) (by rw[hpw2];(refine V2 hsw hsh ?_ ?_ ?_ ?_ ?_ 2 (by decide) ha hb <;> first|exact(Ml 0 hsw hsh).1|exact(Ml 0 hsw hsh).2|exact hl0|exact hl1|rfl)))
     have gv:aT 12=iv ((ph2:Nat):Int):=gt.trans (congrArg (Value.int .i64) (by rw[hph2];(refine Vs hsw hsh ?_ ?_ ?_ ?_ ?_ 2 (by decide) ha hb <;> first|exact(Ml 0 hsw hsh).1|exact(Ml 0 hsw hsh).2|exact hl0|exact hl1|rfl)))
     refine KH (KR rfl rfl rfl gv (KI (iv 0) rfl rfl (KQ rfl rfl rr) (KM ?_)))
     have gw:=K4 (iv ((ph2:Nat):Int))
     have gz:=K4 (iv 0)
     refine KG (Lm (MZ (fun nn FF ww=>∃ (y:Nat),∃ (ak:Nat->Prop),(y<=ph2)/\nn=ph2-y/\FF 6=pt p1 0/\FF 8=pt ae 0/\FF 9=am/\FF 10=iv ((2:Nat):Int)/\FF 11=iv ((pw2:Nat):Int)/\FF 30=iv ((2:Nat):Int)/\FF 39=iv ((ph2:Nat):Int)/\FF 55=undef/\FF 40=iv ((y:Nat):Int)/\KO (fun _=>False) w0 ww/\Mz ww p1 29 [iv 0,iv 0,.slice none 0 0,.slice none 0 0,.slice none 0 0]/\L3 ww af aa (MA (ph0*pw0) s (ph0*pw0))/\L3 ww ah ab (MA (ph1*pw1) s (ph1*pw1))/\L3 ww ak ac (MA (ph2*pw2) s (y*pw2))/\Mz ww ae 29 [iv ((LG w h 0).W),iv ((LG w h 0).H),aa,ab,ac]/\L3 ww aq aI ([s])/\Mh ww ao am (List.replicate a s)/\KP w0 LX ak/\KK ak (Lf p1)/\KK ak af/\KK ak ah/\KK ak (Lf ae)/\KK ak aq/\KK ak ao) (ph2-0) ⟨0,aj,by omega,rfl,gl,gm,gn,gq,gu,gp,gw,go,gz,(dd.tr dp),gb,gc,gd,L3.of_eq (SQ dq) ge,gh,gi,gj,(KP.new aH bV),dY,bm.symm,bA.symm,b9.symm,eu.symm,eE.symm⟩ ?_))
     rintro iK iL iM ⟨y,ak,i506,hn505,bC,bD,dr,dt,du,dv,dw,dy,bE,dz,dA,bF,bG,aV,bH,gA,gB,bI,bJ,bK,bL,dB,dC,dD⟩
     refine KJ (KH (KI (.bool (decide (((y:Nat):Int)<((ph2:Nat):Int)))) rfl rfl (L4 rfl bE dw rfl rr) (KM ?_)))
     have gC:=K4 (.bool (decide (((y:Nat):Int)<((ph2:Nat):Int))))
     refine KG (KJ ?_)
     refine K6 gC (fun aD=>?_) (fun aD=>?_)
     ·replace aD:=of_decide_eq_true aD
      refine Lg (KG (KJ (Lm (KJ (KH (KR rfl rfl rfl bE (KI (iv ((y:Nat):Int)) rfl rfl (KS rfl rfl rr) (KM ?_))))))))
      have gD:=K4 (iv ((y:Nat):Int))
      refine KG ?_
      have hz:=Vn (y:=y) (pw:=pw2) (ph:=ph2) (by omega) hB2.2.1 hB2.2.2
      have hfl:(MA (ph2*pw2) s (y*pw2)).length=ph2*pw2:=OQ (by omega)
      refine KH (KR rfl rfl rfl dt (KI (pt ae 2) rfl rfl (KU (n:=3) rfl bD Tryz.underlying29 rfl (by kernel_rfl) (by decide) rfl rr) (KI (pt ae 4) rfl rfl (LV 2 (s:=1) rfl rfl rfl (by omega) Tryz.underlying27 (by omega) (by kernel_rfl) (by omega) rr) (KI ac rfl rfl (KY rfl rfl Tryz.underlying26 bH rfl rfl rr) (KR rfl rfl rfl du (KR rfl rfl rfl gD (LW rfl rfl rfl rfl rfl (fun _ _=>by kernel_rfl) (Lk rfl (Lk rfl (Lk rfl LR))) (SU ac (MA (ph2*pw2) s (y*pw2)) ((pw2:Nat):Int) ((y:Nat):Int) ak _ (by omega) (by omega) (by rw[hfl];exact hz.2.2.2) (by omega) aV.byt ) fun iN dE=>?_)))))))
      obtain⟨gE,gF,gG,dF,gH,gI,dG⟩:=Tz dE dA bF bG aV bH gA gB
      refine KR rfl rfl rfl dr (Sb rfl rfl rfl rfl rfl (Tn dF.byt (by omega)) rfl dF dG (by rw[hfl];omega) fun iO gJ av=>?_)
      have gK:=gE.all av (bJ.symm p1 rfl)
      have gL:=gF.all av bK.symm
      have gM:=gG.all av bL.symm
      have gN:=gH.all av (dB.symm ae rfl)
      have gO:=gI.all av dC.symm
      have gP:=dG.all av dD.symm
      refine KM ?_
      refine LC (KG (KH (KI (iv ((y+1:Nat):Int)) rfl rfl (LP rfl bE rfl (L6 (by omega) (by omega)) rr) (KI (iv ((y+1:Nat):Int)) rfl rfl (KQ rfl rfl rr) (KM ?_)))))
      have gQ:=K4 (iv ((y+1:Nat):Int))
      exact KG ⟨(ph2-(y+1)),by omega,y+1,ak,by omega,rfl,bC,bD,dr,dt,du,dv,dw,dy,gQ,((dz.tr dE).trans av (KP.ok (S:=fun _=>False) bI K3)),gK,gL,gM,L3.of_eq (Ul hB2.1) gJ,gN,gO,gP,bI,bJ,bK,bL,dB,dC,dD⟩
     ·replace aD:=of_decide_eq_false aD
      refine Me (Ls (Ls ?_))
      have gR:ph2=y:=by omega
      subst gR
      have hl2:(MA (ph2*pw2) s (ph2*pw2)).length=(LG w h 0).p2.length:=by rw[OQ (Nat.le_refl _),dq,List.length_replicate]
      refine Mf (LC (KG (KH (KI (iv ((3:Nat):Int)) rfl rfl (LP rfl dv rfl (L6 (by omega) (by omega)) rr) (KI (iv ((3:Nat):Int)) rfl rfl (KQ rfl rfl rr) (KM ?_))))))
      have gS:=K4 (iv ((3:Nat):Int))
      refine KG (Mc (KJ (KH (KI (.bool false) rfl rfl (L4 rfl gS rfl rfl rr) (KM ?_)))))
      have gT:=K4 (.bool false)
      refine KG (KJ ?_)
      refine K6 (t:=false) gT (fun e=>by cases e) (fun _=>?_)
      refine Me (Ls (Ls (Mf (KG (KJ (KH (KI (.agg #[iv ((LG w h 0).W),iv ((LG w h 0).H),aa,ab,ac]) rfl rfl (KZ Lc rfl bD bH rr) (Lj (us:=[iv ((LG w h 0).W),iv ((LG w h 0).H),aa,ab,ac]) Lc rfl rfl rfl bC rfl dA rfl (KX rfl (KX rfl (KX bF.one (KX bG.one (KX aV.one MG))))) fun iP gU aW=>?_))))))))
      have dH:=bF.all aW bj
      have dI:=bG.all aW bv
      have dJ:=aV.all aW bJ
      refine KI (iv 0) rfl rfl (KS rfl rfl rr) (KM ?_)
      have gV:=K4 (iv 0)
      refine KG (Lb ?_)
      exact L7 dy rfl (MK (vs:=[iv ((LG w h 0).W),iv ((LG w h 0).H),aa,ab,ac]) Lc rfl bC gU) (Ly (v:=iv 0) rfl gV) ⟨aa,af,ab,ah,ac,ak,(by first|rw[(Ml s hsw hsh).1,(Ml s hsw hsh).2,(Ml 0 hsw hsh).1,(Ml 0 hsw hsh).2,Tx hsw hsh]|(rw[hN,Xt hno];rfl)),(dz.trans aW (KP.ok (S:=fun _=>False) aZ K3)),⟨(by first|exact L3.of_eq (Oz hE0) dH|(rw[hN];exact dH)),bi⟩,⟨(by first|exact L3.of_eq (Oz hE1) dI|(rw[hN];exact dI)),bu⟩,⟨(by first|exact L3.of_eq (Oz hE2) dJ|(rw[hN];exact dJ)),bI⟩,bz.symm,bK.symm,bL.symm⟩
  ·skip
   refine KH (KR rfl rfl rfl aw (LB (R:=fun v_ w_=>v_ = .bool true/\KO (fun _=>False) w2 w_) rfl rfl (LH rfl rfl rfl (fun _ _=>by kernel_rfl) (K5 _) (Lk rfl LR) (Pp w  _   ) (fun e_ w_ h_=>⟨_,h_.1,(congrArg Value.bool aE),h_.2⟩)) ?_))
   rintro _ gW ⟨rfl,dK⟩
   have gZ:=B4.all dK id
   refine KI (.bool false) rfl rfl (L9 rfl rfl rfl rr) (KI (.bool false) rfl rfl (KQ rfl rfl rr) (KT (iv h) 3 false 17 rfl rfl rfl rfl rfl (KQ rfl a9 rr) (LN (R:=fun v_ w_=>v_ = .bool false/\KO (fun _=>False) gW w_) 3 false 17 rfl rfl rfl rfl rfl (LH rfl rfl rfl (fun _ _=>by kernel_rfl) (K5 _) (Lk rfl LR) (Pp h  _   ) (fun e_ w_ h_=>⟨_,h_.1,(congrArg Value.bool bb),h_.2⟩)) ?_)))
   rintro _ iQ ⟨rfl,dL⟩
   have hP:=gZ.all dL id
   refine KT (.bool true) 3 false 17 rfl rfl rfl rfl rfl (L9 rfl rfl rfl rr) (KI (.bool true) rfl rfl (Li rfl rfl rfl rr) (KM ?_))
   have hQ:=K4 (.bool true)
   refine KG ?_
   refine K6 (t:=true) hQ (fun _=>?_) (fun e=>by cases e)
   refine KJ ?_
   have hno:¬ (Mk w=true/\Mk h=true):=by rintro ⟨h1,h2⟩;simp_all
   have hN:=ZQ s hno
   refine KH (KI (.agg #[iv 0,iv 0,.slice none 0 0,.slice none 0 0,.slice none 0 0]) rfl rfl (LZ (l':=[]) (cells:=#[iv 0,iv 0,.slice none 0 0,.slice none 0 0,.slice none 0 0]) rfl Rv (by kernel_rfl) rfl rr) (Lj (us:=[iv 0,iv 0,.slice none 0 0,.slice none 0 0,.slice none 0 0]) Lc rfl rfl rfl az rfl hP rfl (KX rfl (KX rfl (KX rfl (KX rfl (KX rfl MG))))) fun iR hZ ia=>?_))
   refine KI (iv 70) rfl rfl (KS rfl rfl rr) (KM ?_)
   have ib:=K4 (iv 70)
   refine KG (Lb (Lq ?_))
   exact L7 ba rfl (MK (vs:=[iv 0,iv 0,.slice none 0 0,.slice none 0 0,.slice none 0 0]) Lc rfl az hZ) (Ly (v:=iv 70) rfl ib) ⟨(.slice none 0 0),LX,(.slice none 0 0),LX,(.slice none 0 0),LX,(by first|rw[(Ml s hsw hsh).1,(Ml s hsw hsh).2,(Ml 0 hsw hsh).1,(Ml 0 hsw hsh).2,Tx hsw hsh]|(rw[hN,Xt hno];rfl)),(((K7.tr dK).tr dL).trans ia (KP.ok (S:=fun _=>False) aZ K3)),⟨(by first|exact L3.of_eq (Oz hE0) (L3.nil _)|(rw[hN];exact(L3.nil _))),(KP.refl _ _)⟩,⟨(by first|exact L3.of_eq (Oz hE1) (L3.nil _)|(rw[hN];exact(L3.nil _))),(KP.refl _ _)⟩,⟨(by first|exact L3.of_eq (Oz hE2) (L3.nil _)|(rw[hN];exact(L3.nil _))),(KP.refl _ _)⟩,KK.none,KK.none,KK.none⟩
 ·skip
  refine KH (KR rfl rfl rfl aw (LB (R:=fun v_ w_=>v_ = .bool false/\KO (fun _=>False) w2 w_) rfl rfl (LH rfl rfl rfl (fun _ _=>by kernel_rfl) (K5 _) (Lk rfl LR) (Pp w  _   ) (fun e_ w_ h_=>⟨_,h_.1,(congrArg Value.bool aE),h_.2⟩)) ?_))
  rintro _ iS ⟨rfl,dM⟩
  have ie:=B4.all dM id
  refine KI (.bool true) rfl rfl (L9 rfl rfl rfl rr) (KI (.bool true) rfl rfl (KQ rfl rfl rr) (KN 3 false 17 rfl rfl rfl (Or.inl rfl) rfl (KN 3 false 17 rfl rfl rfl (Or.inl rfl) rfl (KN 3 false 17 rfl rfl rfl (Or.inl rfl) rfl (KI (.bool true) rfl rfl (Lo rfl rfl rfl rr) (KM ?_))))))
  have ig:=K4 (.bool true)
  refine KG ?_
  refine K6 (t:=true) ig (fun _=>?_) (fun e=>by cases e)
  refine KJ ?_
  have hno:¬ (Mk w=true/\Mk h=true):=by rintro ⟨h1,h2⟩;simp_all
  have hN:=ZQ s hno
  refine KH (KI (.agg #[iv 0,iv 0,.slice none 0 0,.slice none 0 0,.slice none 0 0]) rfl rfl (LZ (l':=[]) (cells:=#[iv 0,iv 0,.slice none 0 0,.slice none 0 0,.slice none 0 0]) rfl Rv (by kernel_rfl) rfl rr) (Lj (us:=[iv 0,iv 0,.slice none 0 0,.slice none 0 0,.slice none 0 0]) Lc rfl rfl rfl az rfl ie rfl (KX rfl (KX rfl (KX rfl (KX rfl (KX rfl MG))))) fun iT ii ij=>?_))
  refine KI (iv 70) rfl rfl (KS rfl rfl rr) (KM ?_)
  have ik:=K4 (iv 70)
  refine KG (Lb (Lq ?_))
  exact L7 ba rfl (MK (vs:=[iv 0,iv 0,.slice none 0 0,.slice none 0 0,.slice none 0 0]) Lc rfl az ii) (Ly (v:=iv 70) rfl ik) ⟨(.slice none 0 0),LX,(.slice none 0 0),LX,(.slice none 0 0),LX,(by first|rw[(Ml s hsw hsh).1,(Ml s hsw hsh).2,(Ml 0 hsw hsh).1,(Ml 0 hsw hsh).2,Tx hsw hsh]|(rw[hN,Xt hno];rfl)),((K7.tr dM).trans ij (KP.ok (S:=fun _=>False) aZ K3)),⟨(by first|exact L3.of_eq (Oz hE0) (L3.nil _)|(rw[hN];exact(L3.nil _))),(KP.refl _ _)⟩,⟨(by first|exact L3.of_eq (Oz hE1) (L3.nil _)|(rw[hN];exact(L3.nil _))),(KP.refl _ _)⟩,⟨(by first|exact L3.of_eq (Oz hE2) (L3.nil _)|(rw[hN];exact(L3.nil _))),(KP.refl _ _)⟩,KK.none,KK.none,KK.none⟩
end Go.Proofs.YtknjpdcpmpfklaaGreatDoor
set_option maxRecDepth 100000
namespace Go.Proofs.YtknjpdcpmpfklaaGreatDoor
open Go.RowKit
theorem MB(n a b:Int)(w0:World) :
  Calls Tryz.prog 90 #[.int .i64 (n),.int .i64 (a),.int .i64 (b)] w0 fun e w'=>e = .returned (.bool (decide (a<=n/\n<=b)))/\KO (fun _=>False) w0 w':=by
 refine Lr (args:=[iv n,iv a,iv b]) 15 Tryz.func90 rfl rfl (Nat.le_of_ble_eq_true rfl) ?_
 have K0:=KO.refl (fun _=>False) w0
 refine KJ (KH (KI (.bool false) rfl rfl (KS rfl rfl rr) (KM ?_)))
 have s3:=K4 (iv n)
 have s4:=K4 (iv a)
 have s5:=K4 (iv b)
 have s6:=K4 (undef)
 refine KG (KJ ?_)
 by_cases d7:a<=n
 ·skip
  refine KH (KR rfl rfl rfl s3 (KR rfl rfl rfl s4 (KI (.bool true) rfl rfl (Nf rfl rfl rfl (decide_eq_true d7) rr) (KI (.bool true) rfl rfl (KQ rfl rfl rr) (KT (iv n) 3 true 10 rfl rfl rfl rfl rfl (KQ rfl s3 rr) (KT (iv b) 3 true 10 rfl rfl rfl rfl rfl (KQ rfl s5 rr) (KT (.bool (decide (n<=b))) 3 true 10 rfl rfl rfl rfl rfl (PM rfl rfl rfl rfl rr) (KI (.bool (decide (n<=b))) rfl rfl (Lo rfl rfl rfl rr) (KI (.bool (decide (n<=b))) rfl rfl (KS rfl rfl rr) (KM ?_))))))))))
  have ai:=K4 (.bool (decide (n<=b)))
  refine KG (Lb ?_)
  exact Lu (v:=.bool (decide (n<=b))) s6 rfl rfl ai ⟨(Pb (by first|exact(decide_eq_true (by omega)).symm|exact(decide_eq_false (by omega)).symm|exact decide_eq_decide.2 (by omega))),K0⟩
 ·skip
  refine KH (KR rfl rfl rfl s3 (KR rfl rfl rfl s4 (KI (.bool false) rfl rfl (Nf rfl rfl rfl (decide_eq_false d7) rr) (KI (.bool false) rfl rfl (KQ rfl rfl rr) (KN 3 true 10 rfl rfl rfl (Or.inl rfl) rfl (KN 3 true 10 rfl rfl rfl (Or.inl rfl) rfl (KN 3 true 10 rfl rfl rfl (Or.inl rfl) rfl (KI (.bool false) rfl rfl (Li rfl rfl rfl rr) (KI (.bool false) rfl rfl (KS rfl rfl rr) (KM ?_))))))))))
  have aj:=K4 (.bool false)
  refine KG (Lb ?_)
  exact Lu (v:=.bool false) s6 rfl rfl aj ⟨(Pb (by first|exact(decide_eq_true (by omega)).symm|exact(decide_eq_false (by omega)).symm|exact decide_eq_decide.2 (by omega))),K0⟩
theorem PV(n:Int)(w0:World) :
  Calls Tryz.prog 89 #[.int .i64 (n)] w0 fun e w'=>e = .returned (.bool (decide (NN n)))/\KO (fun _=>False) w0 w':=by
 refine Lr (args:=[iv n]) 10 Tryz.func89 rfl rfl (Nat.le_of_ble_eq_true rfl) ?_
 have K0:=KO.refl (fun _=>False) w0
 refine KJ (KH (KI (.bool false) rfl rfl (KS rfl rfl rr) (KM ?_)))
 have s3:=K4 (iv n)
 have s4:=K4 (undef)
 refine KG (KJ ?_)
 by_cases d5:8<=n/\n<=64
 ·skip
  refine KH (KR rfl rfl rfl s3 (LB (R:=fun v_ w_=>v_ = .bool true/\KO (fun _=>False) w0 w_) rfl rfl (LH rfl rfl rfl (fun _ _=>by kernel_rfl) (K5 _) (Lk rfl (Lk rfl (Lk rfl LR))) (MB n 8 64  _   ) (fun e_ w_ h_=>⟨_,h_.1,(congrArg Value.bool (decide_eq_true d5)),h_.2⟩)) ?_))
  rintro _ w6 ⟨rfl,k7⟩
  refine KI (.bool true) rfl rfl (KQ rfl rfl rr) (KT (iv n) 2 true 5 rfl rfl rfl rfl rfl (KQ rfl s3 rr) (KT (iv (n%8)) 2 true 5 rfl rfl rfl rfl rfl (XN rfl rfl rfl (by first|decide|omega) (aD8 (by omega)) rr) (KT (.bool (decide ((n%8)=0))) 2 true 5 rfl rfl rfl rfl rfl (Mj rfl rfl rfl rfl rr) (KI (.bool (decide ((n%8)=0))) rfl rfl (Lo rfl rfl rfl rr) (KI (.bool (decide ((n%8)=0))) rfl rfl (KS rfl rfl rr) (KM ?_))))))
  have ah:=K4 (.bool (decide ((n%8)=0)))
  refine KG (Lb ?_)
  exact Lu (v:=.bool (decide ((n%8)=0))) s4 rfl rfl ah ⟨(Pb (by first|exact(decide_eq_true (by unfold NN;omega)).symm|exact(decide_eq_false (by unfold NN;omega)).symm|exact decide_eq_decide.2 (by unfold NN;omega))),(K0.tr k7)⟩
 ·skip
  refine KH (KR rfl rfl rfl s3 (LB (R:=fun v_ w_=>v_ = .bool false/\KO (fun _=>False) w0 w_) rfl rfl (LH rfl rfl rfl (fun _ _=>by kernel_rfl) (K5 _) (Lk rfl (Lk rfl (Lk rfl LR))) (MB n 8 64  _   ) (fun e_ w_ h_=>⟨_,h_.1,(congrArg Value.bool (decide_eq_false d5)),h_.2⟩)) ?_))
  rintro _ am ⟨rfl,ai⟩
  refine KI (.bool false) rfl rfl (KQ rfl rfl rr) (KN 2 true 5 rfl rfl rfl (Or.inl rfl) rfl (KN 2 true 5 rfl rfl rfl (Or.inl rfl) rfl (KN 2 true 5 rfl rfl rfl (Or.inl rfl) rfl (KI (.bool false) rfl rfl (Li rfl rfl rfl rr) (KI (.bool false) rfl rfl (KS rfl rfl rr) (KM ?_))))))
  have aj:=K4 (.bool false)
  refine KG (Lb ?_)
  exact Lu (v:=.bool false) s4 rfl rfl aj ⟨(Pb (by first|exact(decide_eq_true (by unfold NN;omega)).symm|exact(decide_eq_false (by unfold NN;omega)).symm|exact decide_eq_decide.2 (by unfold NN;omega))),(K0.tr ai)⟩
theorem V0(W H R B:Int)(w0:World) :
  Calls Tryz.prog 48 #[.agg #[.int .i64 (W),.int .i64 (H),.int .i64 (R),.int .i64 (B)]] w0 fun e w'=>e = .returned (.int .i64 (OS W H R B))/\KO (fun _=>False) w0 w':=by
 refine Lr (args:=[.agg #[iv W,iv H,iv R,iv B]]) 27 Tryz.func48 rfl rfl (Nat.le_of_ble_eq_true rfl) ?_
 refine KJ (KH (Lz (vs:=[iv W,iv H,iv R,iv B]) rfl rfl rfl rfl fun p1 w2 B4 g5 k3=>?_))
 have K7:=(KO.refl (fun _=>False) w0).tr k3
 refine KI (iv 0) rfl rfl (KS rfl rfl rr) (KM ?_)
 have ah:=K4 (undef)
 have ab:=K4 (pt p1 0)
 refine KG (KJ (KJ ?_))
 by_cases ai:NN W
 ·skip
  by_cases aj:NN H
  ·skip
   by_cases ak:1<=R/\R<=16777216
   ·skip
    by_cases am:R<=B/\B<=1073741824
    ·skip
     refine KH (KI (pt p1 0) rfl rfl (KU (n:=1) rfl ab Tryz.underlying23 rfl (by kernel_rfl) (by decide) rfl rr) (KI (iv W) rfl rfl (KY rfl rfl Tryz.underlying3 B4 rfl rfl rr) (LB (R:=fun v_ w_=>v_ = .bool true/\KO (fun _=>False) w2 w_) rfl rfl (LH rfl rfl rfl (fun _ _=>by kernel_rfl) (K5 _) (Lk rfl LR) (PV W  _   ) (fun e_ w_ h_=>⟨_,h_.1,(congrArg Value.bool (decide_eq_true ai)),h_.2⟩)) ?_)))
     rintro _ aI ⟨rfl,an⟩
     have ao:=B4.all an id
     refine KI (.bool false) rfl rfl (L9 rfl rfl rfl rr) (KI (.bool false) rfl rfl (KQ rfl rfl rr) (KT (pt p1 1) 4 false 7 rfl rfl rfl rfl rfl (KU (n:=1) rfl ab Tryz.underlying23 rfl (by kernel_rfl) (by decide) rfl rr) (KT (iv H) 4 false 7 rfl rfl rfl rfl rfl (KY rfl rfl Tryz.underlying3 ao rfl rfl rr) (LN (R:=fun v_ w_=>v_ = .bool true/\KO (fun _=>False) aI w_) 4 false 7 rfl rfl rfl rfl rfl (LH rfl rfl rfl (fun _ _=>by kernel_rfl) (K5 _) (Lk rfl LR) (PV H  _   ) (fun e_ w_ h_=>⟨_,h_.1,(congrArg Value.bool (decide_eq_true aj)),h_.2⟩)) ?_))))
     rintro _ aJ ⟨rfl,ap⟩
     have aq:=ao.all ap id
     refine KT (.bool false) 4 false 7 rfl rfl rfl rfl rfl (L9 rfl rfl rfl rr) (KI (.bool false) rfl rfl (Li rfl rfl rfl rr) (KI (.bool false) rfl rfl (KQ rfl rfl rr) (KT (pt p1 2) 10 false 13 rfl rfl rfl rfl rfl (KU (n:=1) rfl ab Tryz.underlying23 rfl (by kernel_rfl) (by decide) rfl rr) (KT (iv R) 10 false 13 rfl rfl rfl rfl rfl (KY rfl rfl Tryz.underlying3 aq rfl rfl rr) (LN (R:=fun v_ w_=>v_ = .bool true/\KO (fun _=>False) aJ w_) 10 false 13 rfl rfl rfl rfl rfl (LH rfl rfl rfl (fun _ _=>by kernel_rfl) (K5 _) (Lk rfl (Lk rfl (Lk rfl LR))) (MB R 1 16777216  _   ) (fun e_ w_ h_=>⟨_,h_.1,(congrArg Value.bool (decide_eq_true ak)),h_.2⟩)) ?_)))))
     rintro _ aK ⟨rfl,ar⟩
     have au:=aq.all ar id
     refine KT (.bool false) 10 false 13 rfl rfl rfl rfl rfl (L9 rfl rfl rfl rr) (KI (.bool false) rfl rfl (Li rfl rfl rfl rr) (KI (.bool false) rfl rfl (KQ rfl rfl rr) (KT (pt p1 3) 16 false 19 rfl rfl rfl rfl rfl (KU (n:=1) rfl ab Tryz.underlying23 rfl (by kernel_rfl) (by decide) rfl rr) (KT (iv B) 16 false 19 rfl rfl rfl rfl rfl (KY rfl rfl Tryz.underlying3 au rfl rfl rr) (KT (pt p1 2) 16 false 19 rfl rfl rfl rfl rfl (KU (n:=1) rfl ab Tryz.underlying23 rfl (by kernel_rfl) (by decide) rfl rr) (KT (iv R) 16 false 19 rfl rfl rfl rfl rfl (KY rfl rfl Tryz.underlying3 au rfl rfl rr) (LN (R:=fun v_ w_=>v_ = .bool true/\KO (fun _=>False) aK w_) 16 false 19 rfl rfl rfl rfl rfl (LH rfl rfl rfl (fun _ _=>by kernel_rfl) (K5 _) (Lk rfl (Lk rfl (Lk rfl LR))) (MB B R 1073741824  _   ) (fun e_ w_ h_=>⟨_,h_.1,(congrArg Value.bool (decide_eq_true am)),h_.2⟩)) ?_)))))))
     rintro _ bh ⟨rfl,aL⟩
     refine KT (.bool false) 16 false 19 rfl rfl rfl rfl rfl (L9 rfl rfl rfl rr) (KI (.bool false) rfl rfl (Li rfl rfl rfl rr) (KM ?_))
     have aM:=K4 (.bool false)
     refine KG ?_
     refine K6 (t:=false) aM (fun e=>by cases e) (fun _=>?_)
     refine Lg (KG (KJ (KH (KI (iv 0) rfl rfl (KS rfl rfl rr) (KM ?_)))))
     have aN:=K4 (iv 0)
     refine KG (Lb ?_)
     exact Lu (v:=iv 0) ah rfl rfl aN ⟨(by first|rw[show OS W H R B=0 from if_pos ⟨by assumption,by assumption,by omega,by omega,by omega,by omega⟩]|rw[show OS W H R B=110 from if_neg (by unfold Pg;rintro ⟨h1,h2,h3,h4,h5,h6⟩;first|(exact absurd h1 (by assumption))|(exact absurd h2 (by assumption))|omega)]),((((K7.tr an).tr ap).tr ar).tr aL)⟩
    ·skip
     refine KH (KI (pt p1 0) rfl rfl (KU (n:=1) rfl ab Tryz.underlying23 rfl (by kernel_rfl) (by decide) rfl rr) (KI (iv W) rfl rfl (KY rfl rfl Tryz.underlying3 B4 rfl rfl rr) (LB (R:=fun v_ w_=>v_ = .bool true/\KO (fun _=>False) w2 w_) rfl rfl (LH rfl rfl rfl (fun _ _=>by kernel_rfl) (K5 _) (Lk rfl LR) (PV W  _   ) (fun e_ w_ h_=>⟨_,h_.1,(congrArg Value.bool (decide_eq_true ai)),h_.2⟩)) ?_)))
     rintro _ aO ⟨rfl,av⟩
     have aw:=B4.all av id
     refine KI (.bool false) rfl rfl (L9 rfl rfl rfl rr) (KI (.bool false) rfl rfl (KQ rfl rfl rr) (KT (pt p1 1) 4 false 7 rfl rfl rfl rfl rfl (KU (n:=1) rfl ab Tryz.underlying23 rfl (by kernel_rfl) (by decide) rfl rr) (KT (iv H) 4 false 7 rfl rfl rfl rfl rfl (KY rfl rfl Tryz.underlying3 aw rfl rfl rr) (LN (R:=fun v_ w_=>v_ = .bool true/\KO (fun _=>False) aO w_) 4 false 7 rfl rfl rfl rfl rfl (LH rfl rfl rfl (fun _ _=>by kernel_rfl) (K5 _) (Lk rfl LR) (PV H  _   ) (fun e_ w_ h_=>⟨_,h_.1,(congrArg Value.bool (decide_eq_true aj)),h_.2⟩)) ?_))))
     rintro _ aP ⟨rfl,az⟩
     have aA:=aw.all az id
     refine KT (.bool false) 4 false 7 rfl rfl rfl rfl rfl (L9 rfl rfl rfl rr) (KI (.bool false) rfl rfl (Li rfl rfl rfl rr) (KI (.bool false) rfl rfl (KQ rfl rfl rr) (KT (pt p1 2) 10 false 13 rfl rfl rfl rfl rfl (KU (n:=1) rfl ab Tryz.underlying23 rfl (by kernel_rfl) (by decide) rfl rr) (KT (iv R) 10 false 13 rfl rfl rfl rfl rfl (KY rfl rfl Tryz.underlying3 aA rfl rfl rr) (LN (R:=fun v_ w_=>v_ = .bool true/\KO (fun _=>False) aP w_) 10 false 13 rfl rfl rfl rfl rfl (LH rfl rfl rfl (fun _ _=>by kernel_rfl) (K5 _) (Lk rfl (Lk rfl (Lk rfl LR))) (MB R 1 16777216  _   ) (fun e_ w_ h_=>⟨_,h_.1,(congrArg Value.bool (decide_eq_true ak)),h_.2⟩)) ?_)))))
     rintro _ aQ ⟨rfl,aB⟩
     have aC:=aA.all aB id
     refine KT (.bool false) 10 false 13 rfl rfl rfl rfl rfl (L9 rfl rfl rfl rr) (KI (.bool false) rfl rfl (Li rfl rfl rfl rr) (KI (.bool false) rfl rfl (KQ rfl rfl rr) (KT (pt p1 3) 16 false 19 rfl rfl rfl rfl rfl (KU (n:=1) rfl ab Tryz.underlying23 rfl (by kernel_rfl) (by decide) rfl rr) (KT (iv B) 16 false 19 rfl rfl rfl rfl rfl (KY rfl rfl Tryz.underlying3 aC rfl rfl rr) (KT (pt p1 2) 16 false 19 rfl rfl rfl rfl rfl (KU (n:=1) rfl ab Tryz.underlying23 rfl (by kernel_rfl) (by decide) rfl rr) (KT (iv R) 16 false 19 rfl rfl rfl rfl rfl (KY rfl rfl Tryz.underlying3 aC rfl rfl rr) (LN (R:=fun v_ w_=>v_ = .bool false/\KO (fun _=>False) aQ w_) 16 false 19 rfl rfl rfl rfl rfl (LH rfl rfl rfl (fun _ _=>by kernel_rfl) (K5 _) (Lk rfl (Lk rfl (Lk rfl LR))) (MB B R 1073741824  _   ) (fun e_ w_ h_=>⟨_,h_.1,(congrArg Value.bool (decide_eq_false am)),h_.2⟩)) ?_)))))))
     rintro _ bi ⟨rfl,aR⟩
     refine KT (.bool true) 16 false 19 rfl rfl rfl rfl rfl (L9 rfl rfl rfl rr) (KI (.bool true) rfl rfl (Li rfl rfl rfl rr) (KM ?_))
     have aS:=K4 (.bool true)
     refine KG ?_
     refine K6 (t:=true) aS (fun _=>?_) (fun e=>by cases e)
     refine KJ (KH (KI (iv 110) rfl rfl (KS rfl rfl rr) (KM ?_)))
     have aT:=K4 (iv 110)
     refine KG (Lb (Lq ?_))
     exact Lu (v:=iv 110) ah rfl rfl aT ⟨(by first|rw[show OS W H R B=0 from if_pos ⟨by assumption,by assumption,by omega,by omega,by omega,by omega⟩]|rw[show OS W H R B=110 from if_neg (by unfold Pg;rintro ⟨h1,h2,h3,h4,h5,h6⟩;first|(exact absurd h1 (by assumption))|(exact absurd h2 (by assumption))|omega)]),((((K7.tr av).tr az).tr aB).tr aR)⟩
   ·skip
    refine KH (KI (pt p1 0) rfl rfl (KU (n:=1) rfl ab Tryz.underlying23 rfl (by kernel_rfl) (by decide) rfl rr) (KI (iv W) rfl rfl (KY rfl rfl Tryz.underlying3 B4 rfl rfl rr) (LB (R:=fun v_ w_=>v_ = .bool true/\KO (fun _=>False) w2 w_) rfl rfl (LH rfl rfl rfl (fun _ _=>by kernel_rfl) (K5 _) (Lk rfl LR) (PV W  _   ) (fun e_ w_ h_=>⟨_,h_.1,(congrArg Value.bool (decide_eq_true ai)),h_.2⟩)) ?_)))
    rintro _ aU ⟨rfl,aD⟩
    have aE:=B4.all aD id
    refine KI (.bool false) rfl rfl (L9 rfl rfl rfl rr) (KI (.bool false) rfl rfl (KQ rfl rfl rr) (KT (pt p1 1) 4 false 7 rfl rfl rfl rfl rfl (KU (n:=1) rfl ab Tryz.underlying23 rfl (by kernel_rfl) (by decide) rfl rr) (KT (iv H) 4 false 7 rfl rfl rfl rfl rfl (KY rfl rfl Tryz.underlying3 aE rfl rfl rr) (LN (R:=fun v_ w_=>v_ = .bool true/\KO (fun _=>False) aU w_) 4 false 7 rfl rfl rfl rfl rfl (LH rfl rfl rfl (fun _ _=>by kernel_rfl) (K5 _) (Lk rfl LR) (PV H  _   ) (fun e_ w_ h_=>⟨_,h_.1,(congrArg Value.bool (decide_eq_true aj)),h_.2⟩)) ?_))))
    rintro _ aV ⟨rfl,aF⟩
    have aW:=aE.all aF id
    refine KT (.bool false) 4 false 7 rfl rfl rfl rfl rfl (L9 rfl rfl rfl rr) (KI (.bool false) rfl rfl (Li rfl rfl rfl rr) (KI (.bool false) rfl rfl (KQ rfl rfl rr) (KT (pt p1 2) 10 false 13 rfl rfl rfl rfl rfl (KU (n:=1) rfl ab Tryz.underlying23 rfl (by kernel_rfl) (by decide) rfl rr) (KT (iv R) 10 false 13 rfl rfl rfl rfl rfl (KY rfl rfl Tryz.underlying3 aW rfl rfl rr) (LN (R:=fun v_ w_=>v_ = .bool false/\KO (fun _=>False) aV w_) 10 false 13 rfl rfl rfl rfl rfl (LH rfl rfl rfl (fun _ _=>by kernel_rfl) (K5 _) (Lk rfl (Lk rfl (Lk rfl LR))) (MB R 1 16777216  _   ) (fun e_ w_ h_=>⟨_,h_.1,(congrArg Value.bool (decide_eq_false ak)),h_.2⟩)) ?_)))))
    rintro _ bj ⟨rfl,aX⟩
    refine KT (.bool true) 10 false 13 rfl rfl rfl rfl rfl (L9 rfl rfl rfl rr) (KI (.bool true) rfl rfl (Li rfl rfl rfl rr) (KI (.bool true) rfl rfl (KQ rfl rfl rr) (KN 16 false 19 rfl rfl rfl (Or.inl rfl) rfl (KN 16 false 19 rfl rfl rfl (Or.inl rfl) rfl (KN 16 false 19 rfl rfl rfl (Or.inl rfl) rfl (KN 16 false 19 rfl rfl rfl (Or.inl rfl) rfl (KN 16 false 19 rfl rfl rfl (Or.inl rfl) rfl (KN 16 false 19 rfl rfl rfl (Or.inl rfl) rfl (KI (.bool true) rfl rfl (Lo rfl rfl rfl rr) (KM ?_))))))))))
    have aY:=K4 (.bool true)
    refine KG ?_
    refine K6 (t:=true) aY (fun _=>?_) (fun e=>by cases e)
    refine KJ (KH (KI (iv 110) rfl rfl (KS rfl rfl rr) (KM ?_)))
    have aZ:=K4 (iv 110)
    refine KG (Lb (Lq ?_))
    exact Lu (v:=iv 110) ah rfl rfl aZ ⟨(by first|rw[show OS W H R B=0 from if_pos ⟨by assumption,by assumption,by omega,by omega,by omega,by omega⟩]|rw[show OS W H R B=110 from if_neg (by unfold Pg;rintro ⟨h1,h2,h3,h4,h5,h6⟩;first|(exact absurd h1 (by assumption))|(exact absurd h2 (by assumption))|omega)]),(((K7.tr aD).tr aF).tr aX)⟩
  ·skip
   refine KH (KI (pt p1 0) rfl rfl (KU (n:=1) rfl ab Tryz.underlying23 rfl (by kernel_rfl) (by decide) rfl rr) (KI (iv W) rfl rfl (KY rfl rfl Tryz.underlying3 B4 rfl rfl rr) (LB (R:=fun v_ w_=>v_ = .bool true/\KO (fun _=>False) w2 w_) rfl rfl (LH rfl rfl rfl (fun _ _=>by kernel_rfl) (K5 _) (Lk rfl LR) (PV W  _   ) (fun e_ w_ h_=>⟨_,h_.1,(congrArg Value.bool (decide_eq_true ai)),h_.2⟩)) ?_)))
   rintro _ a8 ⟨rfl,aG⟩
   have a9:=B4.all aG id
   refine KI (.bool false) rfl rfl (L9 rfl rfl rfl rr) (KI (.bool false) rfl rfl (KQ rfl rfl rr) (KT (pt p1 1) 4 false 7 rfl rfl rfl rfl rfl (KU (n:=1) rfl ab Tryz.underlying23 rfl (by kernel_rfl) (by decide) rfl rr) (KT (iv H) 4 false 7 rfl rfl rfl rfl rfl (KY rfl rfl Tryz.underlying3 a9 rfl rfl rr) (LN (R:=fun v_ w_=>v_ = .bool false/\KO (fun _=>False) a8 w_) 4 false 7 rfl rfl rfl rfl rfl (LH rfl rfl rfl (fun _ _=>by kernel_rfl) (K5 _) (Lk rfl LR) (PV H  _   ) (fun e_ w_ h_=>⟨_,h_.1,(congrArg Value.bool (decide_eq_false aj)),h_.2⟩)) ?_))))
   rintro _ bl ⟨rfl,ba⟩
   refine KT (.bool true) 4 false 7 rfl rfl rfl rfl rfl (L9 rfl rfl rfl rr) (KI (.bool true) rfl rfl (Li rfl rfl rfl rr) (KI (.bool true) rfl rfl (KQ rfl rfl rr) (KN 10 false 13 rfl rfl rfl (Or.inl rfl) rfl (KN 10 false 13 rfl rfl rfl (Or.inl rfl) rfl (KN 10 false 13 rfl rfl rfl (Or.inl rfl) rfl (KN 10 false 13 rfl rfl rfl (Or.inl rfl) rfl (KI (.bool true) rfl rfl (Lo rfl rfl rfl rr) (KI (.bool true) rfl rfl (KQ rfl rfl rr) (KN 16 false 19 rfl rfl rfl (Or.inl rfl) rfl (KN 16 false 19 rfl rfl rfl (Or.inl rfl) rfl (KN 16 false 19 rfl rfl rfl (Or.inl rfl) rfl ?_)))))))))))
   refine KN 16 false 19 rfl rfl rfl (Or.inl rfl) rfl (KN 16 false 19 rfl rfl rfl (Or.inl rfl) rfl (KN 16 false 19 rfl rfl rfl (Or.inl rfl) rfl (KI (.bool true) rfl rfl (Lo rfl rfl rfl rr) (KM ?_))))
   have bb:=K4 (.bool true)
   refine KG ?_
   refine K6 (t:=true) bb (fun _=>?_) (fun e=>by cases e)
   refine KJ (KH (KI (iv 110) rfl rfl (KS rfl rfl rr) (KM ?_)))
   have bc:=K4 (iv 110)
   refine KG (Lb (Lq ?_))
   exact Lu (v:=iv 110) ah rfl rfl bc ⟨(by first|rw[show OS W H R B=0 from if_pos ⟨by assumption,by assumption,by omega,by omega,by omega,by omega⟩]|rw[show OS W H R B=110 from if_neg (by unfold Pg;rintro ⟨h1,h2,h3,h4,h5,h6⟩;first|(exact absurd h1 (by assumption))|(exact absurd h2 (by assumption))|omega)]),((K7.tr aG).tr ba)⟩
 ·skip
  refine KH (KI (pt p1 0) rfl rfl (KU (n:=1) rfl ab Tryz.underlying23 rfl (by kernel_rfl) (by decide) rfl rr) (KI (iv W) rfl rfl (KY rfl rfl Tryz.underlying3 B4 rfl rfl rr) (LB (R:=fun v_ w_=>v_ = .bool false/\KO (fun _=>False) w2 w_) rfl rfl (LH rfl rfl rfl (fun _ _=>by kernel_rfl) (K5 _) (Lk rfl LR) (PV W  _   ) (fun e_ w_ h_=>⟨_,h_.1,(congrArg Value.bool (decide_eq_false ai)),h_.2⟩)) ?_)))
  rintro _ bm ⟨rfl,bd⟩
  refine KI (.bool true) rfl rfl (L9 rfl rfl rfl rr) (KI (.bool true) rfl rfl (KQ rfl rfl rr) (KN 4 false 7 rfl rfl rfl (Or.inl rfl) rfl (KN 4 false 7 rfl rfl rfl (Or.inl rfl) rfl (KN 4 false 7 rfl rfl rfl (Or.inl rfl) rfl (KN 4 false 7 rfl rfl rfl (Or.inl rfl) rfl (KI (.bool true) rfl rfl (Lo rfl rfl rfl rr) (KI (.bool true) rfl rfl (KQ rfl rfl rr) (KN 10 false 13 rfl rfl rfl (Or.inl rfl) rfl (KN 10 false 13 rfl rfl rfl (Or.inl rfl) rfl (KN 10 false 13 rfl rfl rfl (Or.inl rfl) rfl (KN 10 false 13 rfl rfl rfl (Or.inl rfl) rfl ?_)))))))))))
  refine KI (.bool true) rfl rfl (Lo rfl rfl rfl rr) (KI (.bool true) rfl rfl (KQ rfl rfl rr) (KN 16 false 19 rfl rfl rfl (Or.inl rfl) rfl (KN 16 false 19 rfl rfl rfl (Or.inl rfl) rfl (KN 16 false 19 rfl rfl rfl (Or.inl rfl) rfl (KN 16 false 19 rfl rfl rfl (Or.inl rfl) rfl (KN 16 false 19 rfl rfl rfl (Or.inl rfl) rfl (KN 16 false 19 rfl rfl rfl (Or.inl rfl) rfl (KI (.bool true) rfl rfl (Lo rfl rfl rfl rr) (KM ?_)))))))))
  have be:=K4 (.bool true)
  refine KG ?_
  refine K6 (t:=true) be (fun _=>?_) (fun e=>by cases e)
  refine KJ (KH (KI (iv 110) rfl rfl (KS rfl rfl rr) (KM ?_)))
  have bf:=K4 (iv 110)
  refine KG (Lb (Lq ?_))
  exact Lu (v:=iv 110) ah rfl rfl bf ⟨(by first|rw[show OS W H R B=0 from if_pos ⟨by assumption,by assumption,by omega,by omega,by omega,by omega⟩]|rw[show OS W H R B=110 from if_neg (by unfold Pg;rintro ⟨h1,h2,h3,h4,h5,h6⟩;first|(exact absurd h1 (by assumption))|(exact absurd h2 (by assumption))|omega)]),(K7.tr bd)⟩
theorem aCt(K Q D F:Int)(w0:World) :
  Calls Tryz.prog 57 #[.agg #[.int .i64 (K),.int .i64 (Q),.int .i64 (D),.int .i64 (F)]] w0 fun e w'=>e = .returned (.int .i64 (PP K Q D F))/\KO (fun _=>False) w0 w':=by
 refine Lr (args:=[.agg #[iv K,iv Q,iv D,iv F]]) 25 Tryz.func57 rfl rfl (Nat.le_of_ble_eq_true rfl) ?_
 refine KJ (KH (Lz (vs:=[iv K,iv Q,iv D,iv F]) rfl rfl rfl rfl fun p1 w2 B4 g5 k3=>?_))
 have K7:=(KO.refl (fun _=>False) w0).tr k3
 refine KI (iv 0) rfl rfl (KS rfl rfl rr) (KM ?_)
 have ah:=K4 (undef)
 have ab:=K4 (pt p1 0)
 refine KG (KJ (KJ ?_))
 by_cases ai:0<=K/\K<=2
 ·skip
  by_cases aj:0<=Q/\Q<=20
  ·skip
   by_cases ak:0<=D/\D<=16777215
   ·skip
    by_cases am:0<=F/\F<=1073741824
    ·skip
     refine KH (KI (pt p1 0) rfl rfl (KU (n:=1) rfl ab Tryz.underlying25 rfl (by kernel_rfl) (by decide) rfl rr) (KI (iv K) rfl rfl (KY rfl rfl Tryz.underlying3 B4 rfl rfl rr) (LB (R:=fun v_ w_=>v_ = .bool true/\KO (fun _=>False) w2 w_) rfl rfl (LH rfl rfl rfl (fun _ _=>by kernel_rfl) (K5 _) (Lk rfl (Lk rfl (Lk rfl LR))) (MB K 0 2  _   ) (fun e_ w_ h_=>⟨_,h_.1,(congrArg Value.bool (decide_eq_true ai)),h_.2⟩)) ?_)))
     rintro _ aG ⟨rfl,an⟩
     have ao:=B4.all an id
     refine KI (.bool false) rfl rfl (L9 rfl rfl rfl rr) (KI (.bool false) rfl rfl (KQ rfl rfl rr) (KT (pt p1 1) 4 false 7 rfl rfl rfl rfl rfl (KU (n:=1) rfl ab Tryz.underlying25 rfl (by kernel_rfl) (by decide) rfl rr) (KT (iv Q) 4 false 7 rfl rfl rfl rfl rfl (KY rfl rfl Tryz.underlying3 ao rfl rfl rr) (LN (R:=fun v_ w_=>v_ = .bool true/\KO (fun _=>False) aG w_) 4 false 7 rfl rfl rfl rfl rfl (LH rfl rfl rfl (fun _ _=>by kernel_rfl) (K5 _) (Lk rfl (Lk rfl (Lk rfl LR))) (MB Q 0 20  _   ) (fun e_ w_ h_=>⟨_,h_.1,(congrArg Value.bool (decide_eq_true aj)),h_.2⟩)) ?_))))
     rintro _ aH ⟨rfl,ap⟩
     have aq:=ao.all ap id
     refine KT (.bool false) 4 false 7 rfl rfl rfl rfl rfl (L9 rfl rfl rfl rr) (KI (.bool false) rfl rfl (Li rfl rfl rfl rr) (KI (.bool false) rfl rfl (KQ rfl rfl rr) (KT (pt p1 2) 10 false 13 rfl rfl rfl rfl rfl (KU (n:=1) rfl ab Tryz.underlying25 rfl (by kernel_rfl) (by decide) rfl rr) (KT (iv D) 10 false 13 rfl rfl rfl rfl rfl (KY rfl rfl Tryz.underlying3 aq rfl rfl rr) (LN (R:=fun v_ w_=>v_ = .bool true/\KO (fun _=>False) aH w_) 10 false 13 rfl rfl rfl rfl rfl (LH rfl rfl rfl (fun _ _=>by kernel_rfl) (K5 _) (Lk rfl (Lk rfl (Lk rfl LR))) (MB D 0 16777215  _   ) (fun e_ w_ h_=>⟨_,h_.1,(congrArg Value.bool (decide_eq_true ak)),h_.2⟩)) ?_)))))
     rintro _ aI ⟨rfl,ar⟩
     have aJ:=aq.all ar id
     refine KT (.bool false) 10 false 13 rfl rfl rfl rfl rfl (L9 rfl rfl rfl rr) (KI (.bool false) rfl rfl (Li rfl rfl rfl rr) (KI (.bool false) rfl rfl (KQ rfl rfl rr) (KT (pt p1 3) 16 false 19 rfl rfl rfl rfl rfl (KU (n:=1) rfl ab Tryz.underlying25 rfl (by kernel_rfl) (by decide) rfl rr) (KT (iv F) 16 false 19 rfl rfl rfl rfl rfl (KY rfl rfl Tryz.underlying3 aJ rfl rfl rr) (LN (R:=fun v_ w_=>v_ = .bool true/\KO (fun _=>False) aI w_) 16 false 19 rfl rfl rfl rfl rfl (LH rfl rfl rfl (fun _ _=>by kernel_rfl) (K5 _) (Lk rfl (Lk rfl (Lk rfl LR))) (MB F 0 1073741824  _   ) (fun e_ w_ h_=>⟨_,h_.1,(congrArg Value.bool (decide_eq_true am)),h_.2⟩)) ?_)))))
     rintro _ bh ⟨rfl,aK⟩
     refine KT (.bool false) 16 false 19 rfl rfl rfl rfl rfl (L9 rfl rfl rfl rr) (KI (.bool false) rfl rfl (Li rfl rfl rfl rr) (KM ?_))
     have aL:=K4 (.bool false)
     refine KG ?_
     refine K6 (t:=false) aL (fun e=>by cases e) (fun _=>?_)
     refine Lg (KG (KJ (KH (KI (iv 0) rfl rfl (KS rfl rfl rr) (KM ?_)))))
     have aM:=K4 (iv 0)
     refine KG (Lb ?_)
     exact Lu (v:=iv 0) ah rfl rfl aM ⟨(by first|rw[show PP K Q D F=0 from if_pos (by unfold On;omega)]|rw[show PP K Q D F=110 from if_neg (by unfold On;omega)]),((((K7.tr an).tr ap).tr ar).tr aK)⟩
    ·skip
     refine KH (KI (pt p1 0) rfl rfl (KU (n:=1) rfl ab Tryz.underlying25 rfl (by kernel_rfl) (by decide) rfl rr) (KI (iv K) rfl rfl (KY rfl rfl Tryz.underlying3 B4 rfl rfl rr) (LB (R:=fun v_ w_=>v_ = .bool true/\KO (fun _=>False) w2 w_) rfl rfl (LH rfl rfl rfl (fun _ _=>by kernel_rfl) (K5 _) (Lk rfl (Lk rfl (Lk rfl LR))) (MB K 0 2  _   ) (fun e_ w_ h_=>⟨_,h_.1,(congrArg Value.bool (decide_eq_true ai)),h_.2⟩)) ?_)))
     rintro _ aN ⟨rfl,au⟩
     have av:=B4.all au id
     refine KI (.bool false) rfl rfl (L9 rfl rfl rfl rr) (KI (.bool false) rfl rfl (KQ rfl rfl rr) (KT (pt p1 1) 4 false 7 rfl rfl rfl rfl rfl (KU (n:=1) rfl ab Tryz.underlying25 rfl (by kernel_rfl) (by decide) rfl rr) (KT (iv Q) 4 false 7 rfl rfl rfl rfl rfl (KY rfl rfl Tryz.underlying3 av rfl rfl rr) (LN (R:=fun v_ w_=>v_ = .bool true/\KO (fun _=>False) aN w_) 4 false 7 rfl rfl rfl rfl rfl (LH rfl rfl rfl (fun _ _=>by kernel_rfl) (K5 _) (Lk rfl (Lk rfl (Lk rfl LR))) (MB Q 0 20  _   ) (fun e_ w_ h_=>⟨_,h_.1,(congrArg Value.bool (decide_eq_true aj)),h_.2⟩)) ?_))))
     rintro _ aO ⟨rfl,aw⟩
     have az:=av.all aw id
     refine KT (.bool false) 4 false 7 rfl rfl rfl rfl rfl (L9 rfl rfl rfl rr) (KI (.bool false) rfl rfl (Li rfl rfl rfl rr) (KI (.bool false) rfl rfl (KQ rfl rfl rr) (KT (pt p1 2) 10 false 13 rfl rfl rfl rfl rfl (KU (n:=1) rfl ab Tryz.underlying25 rfl (by kernel_rfl) (by decide) rfl rr) (KT (iv D) 10 false 13 rfl rfl rfl rfl rfl (KY rfl rfl Tryz.underlying3 az rfl rfl rr) (LN (R:=fun v_ w_=>v_ = .bool true/\KO (fun _=>False) aO w_) 10 false 13 rfl rfl rfl rfl rfl (LH rfl rfl rfl (fun _ _=>by kernel_rfl) (K5 _) (Lk rfl (Lk rfl (Lk rfl LR))) (MB D 0 16777215  _   ) (fun e_ w_ h_=>⟨_,h_.1,(congrArg Value.bool (decide_eq_true ak)),h_.2⟩)) ?_)))))
     rintro _ aP ⟨rfl,aA⟩
     have aQ:=az.all aA id
     refine KT (.bool false) 10 false 13 rfl rfl rfl rfl rfl (L9 rfl rfl rfl rr) (KI (.bool false) rfl rfl (Li rfl rfl rfl rr) (KI (.bool false) rfl rfl (KQ rfl rfl rr) (KT (pt p1 3) 16 false 19 rfl rfl rfl rfl rfl (KU (n:=1) rfl ab Tryz.underlying25 rfl (by kernel_rfl) (by decide) rfl rr) (KT (iv F) 16 false 19 rfl rfl rfl rfl rfl (KY rfl rfl Tryz.underlying3 aQ rfl rfl rr) (LN (R:=fun v_ w_=>v_ = .bool false/\KO (fun _=>False) aP w_) 16 false 19 rfl rfl rfl rfl rfl (LH rfl rfl rfl (fun _ _=>by kernel_rfl) (K5 _) (Lk rfl (Lk rfl (Lk rfl LR))) (MB F 0 1073741824  _   ) (fun e_ w_ h_=>⟨_,h_.1,(congrArg Value.bool (decide_eq_false am)),h_.2⟩)) ?_)))))
     rintro _ bi ⟨rfl,aR⟩
     refine KT (.bool true) 16 false 19 rfl rfl rfl rfl rfl (L9 rfl rfl rfl rr) (KI (.bool true) rfl rfl (Li rfl rfl rfl rr) (KM ?_))
     have aS:=K4 (.bool true)
     refine KG ?_
     refine K6 (t:=true) aS (fun _=>?_) (fun e=>by cases e)
     refine KJ (KH (KI (iv 110) rfl rfl (KS rfl rfl rr) (KM ?_)))
     have aT:=K4 (iv 110)
     refine KG (Lb (Lq ?_))
     exact Lu (v:=iv 110) ah rfl rfl aT ⟨(by first|rw[show PP K Q D F=0 from if_pos (by unfold On;omega)]|rw[show PP K Q D F=110 from if_neg (by unfold On;omega)]),((((K7.tr au).tr aw).tr aA).tr aR)⟩
   ·skip
    refine KH (KI (pt p1 0) rfl rfl (KU (n:=1) rfl ab Tryz.underlying25 rfl (by kernel_rfl) (by decide) rfl rr) (KI (iv K) rfl rfl (KY rfl rfl Tryz.underlying3 B4 rfl rfl rr) (LB (R:=fun v_ w_=>v_ = .bool true/\KO (fun _=>False) w2 w_) rfl rfl (LH rfl rfl rfl (fun _ _=>by kernel_rfl) (K5 _) (Lk rfl (Lk rfl (Lk rfl LR))) (MB K 0 2  _   ) (fun e_ w_ h_=>⟨_,h_.1,(congrArg Value.bool (decide_eq_true ai)),h_.2⟩)) ?_)))
    rintro _ aU ⟨rfl,aB⟩
    have aC:=B4.all aB id
    refine KI (.bool false) rfl rfl (L9 rfl rfl rfl rr) (KI (.bool false) rfl rfl (KQ rfl rfl rr) (KT (pt p1 1) 4 false 7 rfl rfl rfl rfl rfl (KU (n:=1) rfl ab Tryz.underlying25 rfl (by kernel_rfl) (by decide) rfl rr) (KT (iv Q) 4 false 7 rfl rfl rfl rfl rfl (KY rfl rfl Tryz.underlying3 aC rfl rfl rr) (LN (R:=fun v_ w_=>v_ = .bool true/\KO (fun _=>False) aU w_) 4 false 7 rfl rfl rfl rfl rfl (LH rfl rfl rfl (fun _ _=>by kernel_rfl) (K5 _) (Lk rfl (Lk rfl (Lk rfl LR))) (MB Q 0 20  _   ) (fun e_ w_ h_=>⟨_,h_.1,(congrArg Value.bool (decide_eq_true aj)),h_.2⟩)) ?_))))
    rintro _ aV ⟨rfl,aD⟩
    have aW:=aC.all aD id
    refine KT (.bool false) 4 false 7 rfl rfl rfl rfl rfl (L9 rfl rfl rfl rr) (KI (.bool false) rfl rfl (Li rfl rfl rfl rr) (KI (.bool false) rfl rfl (KQ rfl rfl rr) (KT (pt p1 2) 10 false 13 rfl rfl rfl rfl rfl (KU (n:=1) rfl ab Tryz.underlying25 rfl (by kernel_rfl) (by decide) rfl rr) (KT (iv D) 10 false 13 rfl rfl rfl rfl rfl (KY rfl rfl Tryz.underlying3 aW rfl rfl rr) (LN (R:=fun v_ w_=>v_ = .bool false/\KO (fun _=>False) aV w_) 10 false 13 rfl rfl rfl rfl rfl (LH rfl rfl rfl (fun _ _=>by kernel_rfl) (K5 _) (Lk rfl (Lk rfl (Lk rfl LR))) (MB D 0 16777215  _   ) (fun e_ w_ h_=>⟨_,h_.1,(congrArg Value.bool (decide_eq_false ak)),h_.2⟩)) ?_)))))
    rintro _ bj ⟨rfl,aX⟩
    refine KT (.bool true) 10 false 13 rfl rfl rfl rfl rfl (L9 rfl rfl rfl rr) (KI (.bool true) rfl rfl (Li rfl rfl rfl rr) (KI (.bool true) rfl rfl (KQ rfl rfl rr) (KN 16 false 19 rfl rfl rfl (Or.inl rfl) rfl (KN 16 false 19 rfl rfl rfl (Or.inl rfl) rfl (KN 16 false 19 rfl rfl rfl (Or.inl rfl) rfl (KN 16 false 19 rfl rfl rfl (Or.inl rfl) rfl (KI (.bool true) rfl rfl (Lo rfl rfl rfl rr) (KM ?_))))))))
    have aY:=K4 (.bool true)
    refine KG ?_
    refine K6 (t:=true) aY (fun _=>?_) (fun e=>by cases e)
    refine KJ (KH (KI (iv 110) rfl rfl (KS rfl rfl rr) (KM ?_)))
    have aZ:=K4 (iv 110)
    refine KG (Lb (Lq ?_))
    exact Lu (v:=iv 110) ah rfl rfl aZ ⟨(by first|rw[show PP K Q D F=0 from if_pos (by unfold On;omega)]|rw[show PP K Q D F=110 from if_neg (by unfold On;omega)]),(((K7.tr aB).tr aD).tr aX)⟩
  ·skip
   refine KH (KI (pt p1 0) rfl rfl (KU (n:=1) rfl ab Tryz.underlying25 rfl (by kernel_rfl) (by decide) rfl rr) (KI (iv K) rfl rfl (KY rfl rfl Tryz.underlying3 B4 rfl rfl rr) (LB (R:=fun v_ w_=>v_ = .bool true/\KO (fun _=>False) w2 w_) rfl rfl (LH rfl rfl rfl (fun _ _=>by kernel_rfl) (K5 _) (Lk rfl (Lk rfl (Lk rfl LR))) (MB K 0 2  _   ) (fun e_ w_ h_=>⟨_,h_.1,(congrArg Value.bool (decide_eq_true ai)),h_.2⟩)) ?_)))
   rintro _ a8 ⟨rfl,aE⟩
   have a9:=B4.all aE id
   refine KI (.bool false) rfl rfl (L9 rfl rfl rfl rr) (KI (.bool false) rfl rfl (KQ rfl rfl rr) (KT (pt p1 1) 4 false 7 rfl rfl rfl rfl rfl (KU (n:=1) rfl ab Tryz.underlying25 rfl (by kernel_rfl) (by decide) rfl rr) (KT (iv Q) 4 false 7 rfl rfl rfl rfl rfl (KY rfl rfl Tryz.underlying3 a9 rfl rfl rr) (LN (R:=fun v_ w_=>v_ = .bool false/\KO (fun _=>False) a8 w_) 4 false 7 rfl rfl rfl rfl rfl (LH rfl rfl rfl (fun _ _=>by kernel_rfl) (K5 _) (Lk rfl (Lk rfl (Lk rfl LR))) (MB Q 0 20  _   ) (fun e_ w_ h_=>⟨_,h_.1,(congrArg Value.bool (decide_eq_false aj)),h_.2⟩)) ?_))))
   rintro _ bl ⟨rfl,ba⟩
   refine KT (.bool true) 4 false 7 rfl rfl rfl rfl rfl (L9 rfl rfl rfl rr) (KI (.bool true) rfl rfl (Li rfl rfl rfl rr) (KI (.bool true) rfl rfl (KQ rfl rfl rr) (KN 10 false 13 rfl rfl rfl (Or.inl rfl) rfl (KN 10 false 13 rfl rfl rfl (Or.inl rfl) rfl (KN 10 false 13 rfl rfl rfl (Or.inl rfl) rfl (KN 10 false 13 rfl rfl rfl (Or.inl rfl) rfl (KI (.bool true) rfl rfl (Lo rfl rfl rfl rr) (KI (.bool true) rfl rfl (KQ rfl rfl rr) (KN 16 false 19 rfl rfl rfl (Or.inl rfl) rfl (KN 16 false 19 rfl rfl rfl (Or.inl rfl) rfl (KN 16 false 19 rfl rfl rfl (Or.inl rfl) rfl ?_)))))))))))
   refine KN 16 false 19 rfl rfl rfl (Or.inl rfl) rfl (KI (.bool true) rfl rfl (Lo rfl rfl rfl rr) (KM ?_))
   have bb:=K4 (.bool true)
   refine KG ?_
   refine K6 (t:=true) bb (fun _=>?_) (fun e=>by cases e)
   refine KJ (KH (KI (iv 110) rfl rfl (KS rfl rfl rr) (KM ?_)))
   have bc:=K4 (iv 110)
   refine KG (Lb (Lq ?_))
   exact Lu (v:=iv 110) ah rfl rfl bc ⟨(by first|rw[show PP K Q D F=0 from if_pos (by unfold On;omega)]|rw[show PP K Q D F=110 from if_neg (by unfold On;omega)]),((K7.tr aE).tr ba)⟩
 ·skip
  refine KH (KI (pt p1 0) rfl rfl (KU (n:=1) rfl ab Tryz.underlying25 rfl (by kernel_rfl) (by decide) rfl rr) (KI (iv K) rfl rfl (KY rfl rfl Tryz.underlying3 B4 rfl rfl rr) (LB (R:=fun v_ w_=>v_ = .bool false/\KO (fun _=>False) w2 w_) rfl rfl (LH rfl rfl rfl (fun _ _=>by kernel_rfl) (K5 _) (Lk rfl (Lk rfl (Lk rfl LR))) (MB K 0 2  _   ) (fun e_ w_ h_=>⟨_,h_.1,(congrArg Value.bool (decide_eq_false ai)),h_.2⟩)) ?_)))
  rintro _ bm ⟨rfl,bd⟩
  refine KI (.bool true) rfl rfl (L9 rfl rfl rfl rr) (KI (.bool true) rfl rfl (KQ rfl rfl rr) (KN 4 false 7 rfl rfl rfl (Or.inl rfl) rfl (KN 4 false 7 rfl rfl rfl (Or.inl rfl) rfl (KN 4 false 7 rfl rfl rfl (Or.inl rfl) rfl (KN 4 false 7 rfl rfl rfl (Or.inl rfl) rfl (KI (.bool true) rfl rfl (Lo rfl rfl rfl rr) (KI (.bool true) rfl rfl (KQ rfl rfl rr) (KN 10 false 13 rfl rfl rfl (Or.inl rfl) rfl (KN 10 false 13 rfl rfl rfl (Or.inl rfl) rfl (KN 10 false 13 rfl rfl rfl (Or.inl rfl) rfl (KN 10 false 13 rfl rfl rfl (Or.inl rfl) rfl ?_)))))))))))
  refine KI (.bool true) rfl rfl (Lo rfl rfl rfl rr) (KI (.bool true) rfl rfl (KQ rfl rfl rr) (KN 16 false 19 rfl rfl rfl (Or.inl rfl) rfl (KN 16 false 19 rfl rfl rfl (Or.inl rfl) rfl (KN 16 false 19 rfl rfl rfl (Or.inl rfl) rfl (KN 16 false 19 rfl rfl rfl (Or.inl rfl) rfl (KI (.bool true) rfl rfl (Lo rfl rfl rfl rr) (KM ?_)))))))
  have be:=K4 (.bool true)
  refine KG ?_
  refine K6 (t:=true) be (fun _=>?_) (fun e=>by cases e)
  refine KJ (KH (KI (iv 110) rfl rfl (KS rfl rfl rr) (KM ?_)))
  have bf:=K4 (iv 110)
  refine KG (Lb (Lq ?_))
  exact Lu (v:=iv 110) ah rfl rfl bf ⟨(by first|rw[show PP K Q D F=0 from if_pos (by unfold On;omega)]|rw[show PP K Q D F=110 from if_neg (by unfold On;omega)]),(K7.tr bd)⟩
end Go.Proofs.YtknjpdcpmpfklaaGreatDoor
set_option maxRecDepth 100000
namespace Go.Proofs.YtknjpdcpmpfklaaGreatDoor
open Go.RowKit
theorem P4:QC Tryz.prog 65 3:=⟨_,Tryz.underlying65,rfl,by kernel_rfl⟩
theorem Vg:QC Tryz.prog 58 2:=⟨_,Tryz.underlying58,rfl,by kernel_rfl⟩
theorem TF:QC Tryz.prog 59 6:=⟨_,Tryz.underlying59,rfl,by kernel_rfl⟩
theorem aCB{W:Int}(h0:0<=W):Int.tdiv W 2=W/2:=Int.tdiv_eq_ediv_of_nonneg h0
theorem aCI{W:Int}{p:Nat}(h0:0<=W)(hp:p≠0):Int.tdiv (W/2) 4=((Lh W p:Nat):Int):=by
 rw[Int.tdiv_eq_ediv_of_nonneg (by omega)];unfold Lh;rw[if_neg hp];omega
theorem Sw(W H R B:Int)(f:FD)(f0 f1 f2:Value)(T_f0:Nat->Prop)(T_f1:Nat->Prop)(T_f2:Nat->Prop)(w0:World)(h_f0:Mh w0 T_f0 f0 ((f).p0))(h_f1:Mh w0 T_f1 f1 ((f).p1))(h_f2:Mh w0 T_f2 f2 ((f).p2)) :
  Calls Tryz.prog 16 #[.agg #[.int .i64 (W),.int .i64 (H),.int .i64 (R),.int .i64 (B)],.agg #[.int .i64 ((f).W),.int .i64 ((f).H),f0,f1,f2]] w0 fun e w'=>e = .returned (.bool (decide (M5 W H R B f)))/\KO (fun _=>False) w0 w':=by
 refine Lr (args:=[.agg #[iv W,iv H,iv R,iv B],.agg #[iv (f.W),iv (f.H),f0,f1,f2]]) 27 Tryz.func16 rfl rfl (Nat.le_of_ble_eq_true rfl) ?_
 have g_f0:=KP.refl w0 T_f0
 have g_f1:=KP.refl w0 T_f1
 have g_f2:=KP.refl w0 T_f2
 refine KJ (KH (Lz (vs:=[iv W,iv H,iv R,iv B]) rfl rfl rfl rfl fun p1 w2 B4 g5 k3=>?_))
 obtain⟨aH,aI,aJ⟩:=Nu k3 h_f0 h_f1 h_f2
 refine Lz (vs:=[iv (f.W),iv (f.H),f0,f1,f2]) rfl rfl rfl rfl fun af bh ak bi ar=>?_
 obtain⟨am,an,ao,ab⟩:=OV ar aH aI aJ B4
 have ah:=((KO.refl (fun _=>False) w0).tr k3).tr ar
 refine KI (.bool false) rfl rfl (KS rfl rfl rr) (KM ?_)
 have ai:=K4 (undef)
 have aa:=K4 (pt p1 0)
 have ac:=K4 (pt af 0)
 refine KG (KJ ?_)
 by_cases aj:(OS W H R B)=0
 ·skip
  by_cases ap:(Nn f)=0
  ·skip
   by_cases au:W=(f.W)
   ·skip
    refine KH (KI (.agg #[iv W,iv H,iv R,iv B]) rfl rfl (KZ My rfl aa ab rr) (LW rfl rfl rfl rfl rfl (fun _ _=>by kernel_rfl) (Lk rfl LR) (V0 W H R B  _   ) fun aK av=>?_))
    obtain⟨aL,aM,aN,aO,aw⟩:=OU av am an ao ab ak
    refine KI (.bool true) rfl rfl (Mj rfl rfl rfl (decide_eq_true aj) rr) (KI (.bool true) rfl rfl (KQ rfl rfl rr) (KT (.agg #[iv (f.W),iv (f.H),f0,f1,f2]) 3 true 8 rfl rfl rfl rfl rfl (KZ Lc rfl ac aw rr) (LN (R:=fun v_ w_=>v_=iv (Nn f)/\KO (fun _=>False) aK w_) 3 true 8 rfl rfl rfl rfl rfl (LH rfl rfl rfl (fun _ _=>by kernel_rfl) (K5 _) (Lk rfl LR) (M6 f f0 f1 f2 T_f0 T_f1 T_f2 _  aL aM aN ) (fun e_ w_ h_=>⟨_,h_.1,rfl,h_.2⟩)) ?_)))
    rintro _ bj ⟨rfl,az⟩
    obtain⟨aA,aB⟩:=NA az aO aw
    refine KT (.bool true) 3 true 8 rfl rfl rfl rfl rfl (Mj rfl rfl rfl (decide_eq_true ap) rr) (KI (.bool true) rfl rfl (Lo rfl rfl rfl rr) (KI (.bool true) rfl rfl (KQ rfl rfl rr) (KT (pt p1 0) 8 true 13 rfl rfl rfl rfl rfl (KU (n:=1) rfl aa Tryz.underlying23 rfl (by kernel_rfl) (by decide) rfl rr) (KT (iv W) 8 true 13 rfl rfl rfl rfl rfl (KY rfl rfl Tryz.underlying3 aA rfl rfl rr) (KT (pt af 0) 8 true 13 rfl rfl rfl rfl rfl (KU (n:=1) rfl ac Tryz.underlying29 rfl (by kernel_rfl) (by decide) rfl rr) (KT (iv (f.W)) 8 true 13 rfl rfl rfl rfl rfl (KY rfl rfl Tryz.underlying3 aB rfl rfl rr) (KT (.bool true) 8 true 13 rfl rfl rfl rfl rfl (Mj rfl rfl rfl (decide_eq_true au) rr) (KI (.bool true) rfl rfl (Lo rfl rfl rfl rr) (KI (.bool true) rfl rfl (KQ rfl rfl rr) (KT (pt p1 1) 15 true 20 rfl rfl rfl rfl rfl (KU (n:=1) rfl aa Tryz.underlying23 rfl (by kernel_rfl) (by decide) rfl rr) (KT (iv H) 15 true 20 rfl rfl rfl rfl rfl (KY rfl rfl Tryz.underlying3 aA rfl rfl rr) ?_)))))))))))
    refine KT (pt af 1) 15 true 20 rfl rfl rfl rfl rfl (KU (n:=1) rfl ac Tryz.underlying29 rfl (by kernel_rfl) (by decide) rfl rr) (KT (iv (f.H)) 15 true 20 rfl rfl rfl rfl rfl (KY rfl rfl Tryz.underlying3 aB rfl rfl rr) (KT (.bool (decide (H=(f.H)))) 15 true 20 rfl rfl rfl rfl rfl (Mj rfl rfl rfl rfl rr) (KI (.bool (decide (H=(f.H)))) rfl rfl (Lo rfl rfl rfl rr) (KI (.bool (decide (H=(f.H)))) rfl rfl (KS rfl rfl rr) (KM ?_)))))
    have aP:=K4 (.bool (decide (H=(f.H))))
    refine KG (Lb ?_)
    exact Lu (v:=.bool (decide (H=(f.H)))) ai rfl rfl aP ⟨(Pb (Tg (by simp_all))),((ah.tr av).tr az)⟩
   ·skip
    refine KH (KI (.agg #[iv W,iv H,iv R,iv B]) rfl rfl (KZ My rfl aa ab rr) (LW rfl rfl rfl rfl rfl (fun _ _=>by kernel_rfl) (Lk rfl LR) (V0 W H R B  _   ) fun aQ aC=>?_))
    obtain⟨aR,aS,aT,aU,aD⟩:=OU aC am an ao ab ak
    refine KI (.bool true) rfl rfl (Mj rfl rfl rfl (decide_eq_true aj) rr) (KI (.bool true) rfl rfl (KQ rfl rfl rr) (KT (.agg #[iv (f.W),iv (f.H),f0,f1,f2]) 3 true 8 rfl rfl rfl rfl rfl (KZ Lc rfl ac aD rr) (LN (R:=fun v_ w_=>v_=iv (Nn f)/\KO (fun _=>False) aQ w_) 3 true 8 rfl rfl rfl rfl rfl (LH rfl rfl rfl (fun _ _=>by kernel_rfl) (K5 _) (Lk rfl LR) (M6 f f0 f1 f2 T_f0 T_f1 T_f2 _  aR aS aT ) (fun e_ w_ h_=>⟨_,h_.1,rfl,h_.2⟩)) ?_)))
    rintro _ bl ⟨rfl,aE⟩
    obtain⟨aV,aW⟩:=NA aE aU aD
    refine KT (.bool true) 3 true 8 rfl rfl rfl rfl rfl (Mj rfl rfl rfl (decide_eq_true ap) rr) (KI (.bool true) rfl rfl (Lo rfl rfl rfl rr) (KI (.bool true) rfl rfl (KQ rfl rfl rr) (KT (pt p1 0) 8 true 13 rfl rfl rfl rfl rfl (KU (n:=1) rfl aa Tryz.underlying23 rfl (by kernel_rfl) (by decide) rfl rr) (KT (iv W) 8 true 13 rfl rfl rfl rfl rfl (KY rfl rfl Tryz.underlying3 aV rfl rfl rr) (KT (pt af 0) 8 true 13 rfl rfl rfl rfl rfl (KU (n:=1) rfl ac Tryz.underlying29 rfl (by kernel_rfl) (by decide) rfl rr) (KT (iv (f.W)) 8 true 13 rfl rfl rfl rfl rfl (KY rfl rfl Tryz.underlying3 aW rfl rfl rr) (KT (.bool false) 8 true 13 rfl rfl rfl rfl rfl (Mj rfl rfl rfl (decide_eq_false au) rr) (KI (.bool false) rfl rfl (Lo rfl rfl rfl rr) (KI (.bool false) rfl rfl (KQ rfl rfl rr) (KN 15 true 20 rfl rfl rfl (Or.inl rfl) rfl (KN 15 true 20 rfl rfl rfl (Or.inl rfl) rfl ?_)))))))))))
    refine KN 15 true 20 rfl rfl rfl (Or.inl rfl) rfl (KN 15 true 20 rfl rfl rfl (Or.inl rfl) rfl (KN 15 true 20 rfl rfl rfl (Or.inl rfl) rfl (KI (.bool false) rfl rfl (Li rfl rfl rfl rr) (KI (.bool false) rfl rfl (KS rfl rfl rr) (KM ?_)))))
    have aX:=K4 (.bool false)
    refine KG (Lb ?_)
    exact Lu (v:=.bool false) ai rfl rfl aX ⟨(Pb (Tg (by simp_all))),((ah.tr aC).tr aE)⟩
  ·skip
   refine KH (KI (.agg #[iv W,iv H,iv R,iv B]) rfl rfl (KZ My rfl aa ab rr) (LW rfl rfl rfl rfl rfl (fun _ _=>by kernel_rfl) (Lk rfl LR) (V0 W H R B  _   ) fun aY aF=>?_))
   obtain⟨aZ,a8,a9,ba⟩:=OV aF am an ao ak
   refine KI (.bool true) rfl rfl (Mj rfl rfl rfl (decide_eq_true aj) rr) (KI (.bool true) rfl rfl (KQ rfl rfl rr) (KT (.agg #[iv (f.W),iv (f.H),f0,f1,f2]) 3 true 8 rfl rfl rfl rfl rfl (KZ Lc rfl ac ba rr) (LN (R:=fun v_ w_=>v_=iv (Nn f)/\KO (fun _=>False) aY w_) 3 true 8 rfl rfl rfl rfl rfl (LH rfl rfl rfl (fun _ _=>by kernel_rfl) (K5 _) (Lk rfl LR) (M6 f f0 f1 f2 T_f0 T_f1 T_f2 _  aZ a8 a9 ) (fun e_ w_ h_=>⟨_,h_.1,rfl,h_.2⟩)) ?_)))
   rintro _ bm ⟨rfl,bb⟩
   refine KT (.bool false) 3 true 8 rfl rfl rfl rfl rfl (Mj rfl rfl rfl (decide_eq_false ap) rr) (KI (.bool false) rfl rfl (Lo rfl rfl rfl rr) (KI (.bool false) rfl rfl (KQ rfl rfl rr) (KN 8 true 13 rfl rfl rfl (Or.inl rfl) rfl (KN 8 true 13 rfl rfl rfl (Or.inl rfl) rfl (KN 8 true 13 rfl rfl rfl (Or.inl rfl) rfl (KN 8 true 13 rfl rfl rfl (Or.inl rfl) rfl (KN 8 true 13 rfl rfl rfl (Or.inl rfl) rfl (KI (.bool false) rfl rfl (Li rfl rfl rfl rr) (KI (.bool false) rfl rfl (KQ rfl rfl rr) (KN 15 true 20 rfl rfl rfl (Or.inl rfl) rfl (KN 15 true 20 rfl rfl rfl (Or.inl rfl) rfl ?_)))))))))))
   refine KN 15 true 20 rfl rfl rfl (Or.inl rfl) rfl (KN 15 true 20 rfl rfl rfl (Or.inl rfl) rfl (KN 15 true 20 rfl rfl rfl (Or.inl rfl) rfl (KI (.bool false) rfl rfl (Li rfl rfl rfl rr) (KI (.bool false) rfl rfl (KS rfl rfl rr) (KM ?_)))))
   have bc:=K4 (.bool false)
   refine KG (Lb ?_)
   exact Lu (v:=.bool false) ai rfl rfl bc ⟨(Pb (Tg (by simp_all))),((ah.tr aF).tr bb)⟩
 ·skip
  refine KH (KI (.agg #[iv W,iv H,iv R,iv B]) rfl rfl (KZ My rfl aa ab rr) (LW rfl rfl rfl rfl rfl (fun _ _=>by kernel_rfl) (Lk rfl LR) (V0 W H R B  _   ) fun bn bd=>?_))
  refine KI (.bool false) rfl rfl (Mj rfl rfl rfl (decide_eq_false aj) rr) (KI (.bool false) rfl rfl (KQ rfl rfl rr) (KN 3 true 8 rfl rfl rfl (Or.inl rfl) rfl (KN 3 true 8 rfl rfl rfl (Or.inl rfl) rfl (KN 3 true 8 rfl rfl rfl (Or.inl rfl) rfl (KI (.bool false) rfl rfl (Li rfl rfl rfl rr) (KI (.bool false) rfl rfl (KQ rfl rfl rr) (KN 8 true 13 rfl rfl rfl (Or.inl rfl) rfl (KN 8 true 13 rfl rfl rfl (Or.inl rfl) rfl (KN 8 true 13 rfl rfl rfl (Or.inl rfl) rfl (KN 8 true 13 rfl rfl rfl (Or.inl rfl) rfl (KN 8 true 13 rfl rfl rfl (Or.inl rfl) rfl ?_)))))))))))
  refine KI (.bool false) rfl rfl (Li rfl rfl rfl rr) (KI (.bool false) rfl rfl (KQ rfl rfl rr) (KN 15 true 20 rfl rfl rfl (Or.inl rfl) rfl (KN 15 true 20 rfl rfl rfl (Or.inl rfl) rfl (KN 15 true 20 rfl rfl rfl (Or.inl rfl) rfl (KN 15 true 20 rfl rfl rfl (Or.inl rfl) rfl (KN 15 true 20 rfl rfl rfl (Or.inl rfl) rfl (KI (.bool false) rfl rfl (Li rfl rfl rfl rr) (KI (.bool false) rfl rfl (KS rfl rfl rr) (KM ?_)))))))))
  have be:=K4 (.bool false)
  refine KG (Lb ?_)
  exact Lu (v:=.bool false) ai rfl rfl be ⟨(Pb (Tg (by simp_all))),(ah.tr bd)⟩
def Rd(W H R B K Q D F:Int):Int:=if Qy W H R B K Q D F then 0 else 110
theorem NR{W H R B K Q D F:Int}(h:¬ Qy W H R B K Q D F):Rd W H R B K Q D F=110:=if_neg h
theorem aCv{W H R B K Q D F:Int}(h:Qy W H R B K Q D F):Rd W H R B K Q D F=0:=if_pos h
theorem ayH{W H R B K Q D F:Int}(h:Rd W H R B K Q D F=0):Qy W H R B K Q D F:=Decidable.byContradiction fun hn=>by rw[NR hn] at h;cases h
theorem ZZ{W H R B K Q D F:Int}(h:Rd W H R B K Q D F≠0):¬ Qy W H R B K Q D F:=fun hm=>h (aCv hm)
theorem azZ{W H R B:Int}(h:OS W H R B≠0):OS W H R B=110:=by unfold OS at h ⊢;split at h <;> first|exact absurd rfl h|(rename_i hn;exact if_neg hn)
theorem Yy{W H R B K Q D F:Int}(h:OS W H R B=0):Rd W H R B K Q D F=PP K Q D F:=by
 have hs:=aDJ h
 unfold Rd PP
 by_cases hh:On K Q D F
 ·rw[if_pos hh,if_pos ⟨hs,hh⟩]
 ·rw[if_neg hh,if_neg (fun z=>hh z.2)]
theorem ZY{W H R B K Q D F:Int}(h:OS W H R B≠0):Rd W H R B K Q D F=OS W H R B:=by
 rw[azZ h,NR]
 intro z;exact h (if_pos z.1)
theorem Yt(W H R B K Q D F:Int)(w0:World) :
  Calls Tryz.prog 26 #[.agg #[.int .i64 (W),.int .i64 (H),.int .i64 (R),.int .i64 (B)],.agg #[.int .i64 (K),.int .i64 (Q),.int .i64 (D),.int .i64 (F)]] w0 fun e w'=>e = .returned (.int .i64 (Rd W H R B K Q D F))/\KO (fun _=>False) w0 w':=by
 refine Lr (args:=[.agg #[iv W,iv H,iv R,iv B],.agg #[iv K,iv Q,iv D,iv F]]) 13 Tryz.func26 rfl rfl (Nat.le_of_ble_eq_true rfl) ?_
 refine KJ (KH (Lz (vs:=[iv W,iv H,iv R,iv B]) rfl rfl rfl rfl fun p1 w2 B4 g5 k3=>?_))
 refine Lz (vs:=[iv K,iv Q,iv D,iv F]) rfl rfl rfl rfl fun p8 w9 an aD ab=>?_
 have ao:=B4.all ab id
 refine KI (iv 0) rfl rfl (KS rfl rfl rr) (KM ?_)
 have ac:=K4 (undef)
 have ap:=K4 (pt p1 0)
 have aq:=K4 (pt p8 0)
 refine KG (KJ (KJ (KH (KI (.agg #[iv W,iv H,iv R,iv B]) rfl rfl (KZ My rfl ap ao rr) (LW rfl rfl rfl rfl rfl (fun _ _=>by kernel_rfl) (Lk rfl LR) (V0 W H R B  _   ) fun aE ae=>?_)))))
 have ar:=an.all ae id
 have af:=(((KO.refl (fun _=>False) w0).tr k3).tr ab).tr ae
 refine KI (iv (OS W H R B)) rfl rfl (KS rfl rfl rr) (KM ?_)
 have ah:=K4 (iv (OS W H R B))
 refine KG (KJ (KH (KR rfl rfl rfl ah (KI (.bool (decide ((OS W H R B)≠0))) rfl rfl (Mb rfl rfl rfl rfl rr) (KM ?_)))))
 have au:=K4 (.bool (decide ((OS W H R B)≠0)))
 refine KG ?_
 refine K6 au (fun aa=>?_) (fun aa=>?_)
 ·replace aa:=of_decide_eq_true aa
  refine KJ (KH (KR rfl rfl rfl ah (KI (iv (OS W H R B)) rfl rfl (KS rfl rfl rr) (KM ?_))))
  have av:=K4 (iv (OS W H R B))
  refine KG (Lb (Lq ?_))
  exact Lu (v:=iv (OS W H R B)) ac rfl rfl av ⟨(by first|rw[ZY (by assumption)]|rw[Yy (by first|assumption|(apply Decidable.byContradiction;assumption))]),af⟩
 ·replace aa:=of_decide_eq_false aa
  refine Lg (KG (KJ (KH (KI (.agg #[iv K,iv Q,iv D,iv F]) rfl rfl (KZ Pj rfl aq ar rr) (LW rfl rfl rfl rfl rfl (fun _ _=>by kernel_rfl) (Lk rfl LR) (aCt K Q D F  _   ) fun aF aw=>?_)))))
  refine KI (iv (PP K Q D F)) rfl rfl (KS rfl rfl rr) (KM ?_)
  have az:=K4 (iv (PP K Q D F))
  refine KG (Lb ?_)
  exact Lu (v:=iv (PP K Q D F)) ac rfl rfl az ⟨(by first|rw[ZY (by assumption)]|rw[Yy (by first|assumption|(apply Decidable.byContradiction;assumption))]),(af.tr aw)⟩
theorem aAD(W H R B K:Int)(g:FD)(g0 g1 g2:Value)(h:FD)(h0 h1 h2:Value)(T_g0:Nat->Prop)(T_g1:Nat->Prop)(T_g2:Nat->Prop)(T_h0:Nat->Prop)(T_h1:Nat->Prop)(T_h2:Nat->Prop)(w0:World)(h_g0:Mh w0 T_g0 g0 ((g).p0))(h_g1:Mh w0 T_g1 g1 ((g).p1))(h_g2:Mh w0 T_g2 g2 ((g).p2))(h_h0:Mh w0 T_h0 h0 ((h).p0))(h_h1:Mh w0 T_h1 h1 ((h).p1))(h_h2:Mh w0 T_h2 h2 ((h).p2)) :
  Calls Tryz.prog 41 #[.agg #[.int .i64 (W),.int .i64 (H),.int .i64 (R),.int .i64 (B)],.int .i64 (K),.agg #[.int .i64 ((g).W),.int .i64 ((g).H),g0,g1,g2],.agg #[.int .i64 ((h).W),.int .i64 ((h).H),h0,h1,h2]] w0 fun e w'=>e = .returned (.bool (decide (¬ ((K≠0/\¬ M5 W H R B g)\/(K=2/\¬ M5 W H R B h)))))/\KO (fun _=>False) w0 w':=by
 refine Lr (args:=[.agg #[iv W,iv H,iv R,iv B],iv K,.agg #[iv (g.W),iv (g.H),g0,g1,g2],.agg #[iv (h.W),iv (h.H),h0,h1,h2]]) 25 Tryz.func41 rfl rfl (Nat.le_of_ble_eq_true rfl) ?_
 have g_g0:=KP.refl w0 T_g0
 have g_g1:=KP.refl w0 T_g1
 have g_g2:=KP.refl w0 T_g2
 have g_h0:=KP.refl w0 T_h0
 have g_h1:=KP.refl w0 T_h1
 have g_h2:=KP.refl w0 T_h2
 refine KJ (KH (Lz (vs:=[iv W,iv H,iv R,iv B]) rfl rfl rfl rfl fun p1 w2 B4 g5 k3=>?_))
 obtain⟨aH,aI,aJ,aK,aL,aM⟩:=QB k3 h_g0 h_g1 h_g2 h_h0 h_h1 h_h2
 refine Lz (vs:=[iv (g.W),iv (g.H),g0,g1,g2]) rfl rfl rfl rfl fun aN bn aO bo ar=>?_
 obtain⟨aP,aQ,aR,aS,aT,aU,aV⟩:=Tz ar aH aI aJ aK aL aM B4
 refine Lz (vs:=[iv (h.W),iv (h.H),h0,h1,h2]) rfl rfl rfl rfl fun aW ai au bp av=>?_
 obtain⟨ak,am,an,aw,az,aA,ab,ao⟩:=YR av aP aQ aR aS aT aU aV aO
 have ac:=(((KO.refl (fun _=>False) w0).tr k3).tr ar).tr av
 refine KI (.bool false) rfl rfl (KS rfl rfl rr) (KM ?_)
 have aa:=K4 (iv K)
 have ae:=K4 (undef)
 have af:=K4 (pt p1 0)
 have ap:=K4 (pt aN 0)
 have aB:=K4 (pt aW 0)
 refine KG (KJ ?_)
 by_cases ah:K=0
 ·skip
  by_cases aC:K≠2
  ·skip
   refine KH (KR rfl rfl rfl aa (KI (.bool true) rfl rfl (Mj rfl rfl rfl (decide_eq_true ah) rr) (KI (.bool true) rfl rfl (KQ rfl rfl rr) (KN 2 false 11 rfl rfl rfl (Or.inl rfl) rfl (KN 2 false 11 rfl rfl rfl (Or.inl rfl) rfl (KN 2 false 11 rfl rfl rfl (Or.inl rfl) rfl (KI (.bool true) rfl rfl (Lo rfl rfl rfl rr) (KI (.bool true) rfl rfl (KQ rfl rfl rr) (KT (iv K) 7 true 16 rfl rfl rfl rfl rfl (KQ rfl aa rr) (KT (.bool true) 7 true 16 rfl rfl rfl rfl rfl (Mb rfl rfl rfl (decide_eq_true aC) rr) (KT (.bool true) 7 true 16 rfl rfl rfl rfl rfl (KQ rfl rfl rr) ?_)))))))))))
   refine KN 10 false 19 rfl rfl rfl (Or.inl rfl) rfl (KN 10 false 19 rfl rfl rfl (Or.inl rfl) rfl (KN 10 false 19 rfl rfl rfl (Or.inl rfl) rfl (KT (.bool true) 7 true 16 rfl rfl rfl rfl rfl (Lo rfl rfl rfl rr) (KI (.bool true) rfl rfl (Lo rfl rfl rfl rr) (KI (.bool true) rfl rfl (KS rfl rfl rr) (KM ?_))))))
   have aX:=K4 (.bool true)
   refine KG (Lb ?_)
   exact Lu (v:=.bool true) ae rfl rfl aX ⟨(Pb (by first|(simp[*];done)|(simp_all;done)|(simp_all;omega))),ac⟩
  ·skip
   refine KH (KR rfl rfl rfl aa (KI (.bool true) rfl rfl (Mj rfl rfl rfl (decide_eq_true ah) rr) (KI (.bool true) rfl rfl (KQ rfl rfl rr) (KN 2 false 11 rfl rfl rfl (Or.inl rfl) rfl (KN 2 false 11 rfl rfl rfl (Or.inl rfl) rfl (KN 2 false 11 rfl rfl rfl (Or.inl rfl) rfl (KI (.bool true) rfl rfl (Lo rfl rfl rfl rr) (KI (.bool true) rfl rfl (KQ rfl rfl rr) (KT (iv K) 7 true 16 rfl rfl rfl rfl rfl (KQ rfl aa rr) (KT (.bool false) 7 true 16 rfl rfl rfl rfl rfl (Mb rfl rfl rfl (decide_eq_false aC) rr) (KT (.bool false) 7 true 16 rfl rfl rfl rfl rfl (KQ rfl rfl rr) ?_)))))))))))
   refine KT (.agg #[iv W,iv H,iv R,iv B]) 10 false 19 rfl rfl rfl rfl rfl (KZ My rfl af ab rr) (KT (.agg #[iv (h.W),iv (h.H),h0,h1,h2]) 10 false 19 rfl rfl rfl rfl rfl (KZ Lc rfl aB au rr) (LN (R:=fun v_ w_=>v_ = .bool (decide (M5 W H R B h))/\KO (fun _=>False) ai w_) 10 false 19 rfl rfl rfl rfl rfl (LH rfl rfl rfl (fun _ _=>by kernel_rfl) (K5 _) (Lk rfl (Lk rfl LR)) (Sw W H R B h h0 h1 h2 T_h0 T_h1 T_h2 _  aw az aA ) (fun e_ w_ h_=>⟨_,h_.1,rfl,h_.2⟩)) ?_))
   rintro _ bq ⟨rfl,aY⟩
   refine KT (.bool (decide (M5 W H R B h))) 7 true 16 rfl rfl rfl rfl rfl (Li rfl rfl rfl rr) (KI (.bool (decide (M5 W H R B h))) rfl rfl (Lo rfl rfl rfl rr) (KI (.bool (decide (M5 W H R B h))) rfl rfl (KS rfl rfl rr) (KM ?_)))
   have aZ:=K4 (.bool (decide (M5 W H R B h)))
   refine KG (Lb ?_)
   exact Lu (v:=.bool (decide (M5 W H R B h))) ae rfl rfl aZ ⟨(Pb (by first|(simp[*];done)|(simp_all;done)|(simp_all;omega))),(ac.tr aY)⟩
 ·skip
  rcases Bool.eq_false_or_eq_true (decide (M5 W H R B g)) with aj|aj
  ·skip
   by_cases aD:K≠2
   ·skip
    refine KH (KR rfl rfl rfl aa (KI (.bool false) rfl rfl (Mj rfl rfl rfl (decide_eq_false ah) rr) (KI (.bool false) rfl rfl (KQ rfl rfl rr) (KT (.agg #[iv W,iv H,iv R,iv B]) 2 false 11 rfl rfl rfl rfl rfl (KZ My rfl af ab rr) (KT (.agg #[iv (g.W),iv (g.H),g0,g1,g2]) 2 false 11 rfl rfl rfl rfl rfl (KZ Lc rfl ap ao rr) (LN (R:=fun v_ w_=>v_ = .bool true/\KO (fun _=>False) ai w_) 2 false 11 rfl rfl rfl rfl rfl (LH rfl rfl rfl (fun _ _=>by kernel_rfl) (K5 _) (Lk rfl (Lk rfl LR)) (Sw W H R B g g0 g1 g2 T_g0 T_g1 T_g2 _  ak am an ) (fun e_ w_ h_=>⟨_,h_.1,(congrArg Value.bool aj),h_.2⟩)) ?_))))))
    rintro _ bt ⟨rfl,a8⟩
    refine KI (.bool true) rfl rfl (Li rfl rfl rfl rr) (KI (.bool true) rfl rfl (KQ rfl rfl rr) (KT (iv K) 7 true 16 rfl rfl rfl rfl rfl (KQ rfl aa rr) (KT (.bool true) 7 true 16 rfl rfl rfl rfl rfl (Mb rfl rfl rfl (decide_eq_true aD) rr) (KT (.bool true) 7 true 16 rfl rfl rfl rfl rfl (KQ rfl rfl rr) (KN 10 false 19 rfl rfl rfl (Or.inl rfl) rfl (KN 10 false 19 rfl rfl rfl (Or.inl rfl) rfl (KN 10 false 19 rfl rfl rfl (Or.inl rfl) rfl (KT (.bool true) 7 true 16 rfl rfl rfl rfl rfl (Lo rfl rfl rfl rr) (KI (.bool true) rfl rfl (Lo rfl rfl rfl rr) (KI (.bool true) rfl rfl (KS rfl rfl rr) (KM ?_)))))))))))
    have a9:=K4 (.bool true)
    refine KG (Lb ?_)
    exact Lu (v:=.bool true) ae rfl rfl a9 ⟨(Pb (by first|(simp[*];done)|(simp_all;done)|(simp_all;omega))),(ac.tr a8)⟩
   ·skip
    refine KH (KR rfl rfl rfl aa (KI (.bool false) rfl rfl (Mj rfl rfl rfl (decide_eq_false ah) rr) (KI (.bool false) rfl rfl (KQ rfl rfl rr) (KT (.agg #[iv W,iv H,iv R,iv B]) 2 false 11 rfl rfl rfl rfl rfl (KZ My rfl af ab rr) (KT (.agg #[iv (g.W),iv (g.H),g0,g1,g2]) 2 false 11 rfl rfl rfl rfl rfl (KZ Lc rfl ap ao rr) (LN (R:=fun v_ w_=>v_ = .bool true/\KO (fun _=>False) ai w_) 2 false 11 rfl rfl rfl rfl rfl (LH rfl rfl rfl (fun _ _=>by kernel_rfl) (K5 _) (Lk rfl (Lk rfl LR)) (Sw W H R B g g0 g1 g2 T_g0 T_g1 T_g2 _  ak am an ) (fun e_ w_ h_=>⟨_,h_.1,(congrArg Value.bool aj),h_.2⟩)) ?_))))))
    rintro _ ba ⟨rfl,aE⟩
    obtain⟨bb,bc,bd,be,bf⟩:=OU aE aw az aA ab au
    refine KI (.bool true) rfl rfl (Li rfl rfl rfl rr) (KI (.bool true) rfl rfl (KQ rfl rfl rr) (KT (iv K) 7 true 16 rfl rfl rfl rfl rfl (KQ rfl aa rr) (KT (.bool false) 7 true 16 rfl rfl rfl rfl rfl (Mb rfl rfl rfl (decide_eq_false aD) rr) (KT (.bool false) 7 true 16 rfl rfl rfl rfl rfl (KQ rfl rfl rr) (KT (.agg #[iv W,iv H,iv R,iv B]) 10 false 19 rfl rfl rfl rfl rfl (KZ My rfl af be rr) (KT (.agg #[iv (h.W),iv (h.H),h0,h1,h2]) 10 false 19 rfl rfl rfl rfl rfl (KZ Lc rfl aB bf rr) (LN (R:=fun v_ w_=>v_ = .bool (decide (M5 W H R B h))/\KO (fun _=>False) ba w_) 10 false 19 rfl rfl rfl rfl rfl (LH rfl rfl rfl (fun _ _=>by kernel_rfl) (K5 _) (Lk rfl (Lk rfl LR)) (Sw W H R B h h0 h1 h2 T_h0 T_h1 T_h2 _  bb bc bd ) (fun e_ w_ h_=>⟨_,h_.1,rfl,h_.2⟩)) ?_)))))))
    rintro _ bu ⟨rfl,bg⟩
    refine KT (.bool (decide (M5 W H R B h))) 7 true 16 rfl rfl rfl rfl rfl (Li rfl rfl rfl rr) (KI (.bool (decide (M5 W H R B h))) rfl rfl (Lo rfl rfl rfl rr) (KI (.bool (decide (M5 W H R B h))) rfl rfl (KS rfl rfl rr) (KM ?_)))
    have bh:=K4 (.bool (decide (M5 W H R B h)))
    refine KG (Lb ?_)
    exact Lu (v:=.bool (decide (M5 W H R B h))) ae rfl rfl bh ⟨(Pb (by first|(simp[*];done)|(simp_all;done)|(simp_all;omega))),((ac.tr aE).tr bg)⟩
  ·skip
   refine KH (KR rfl rfl rfl aa (KI (.bool false) rfl rfl (Mj rfl rfl rfl (decide_eq_false ah) rr) (KI (.bool false) rfl rfl (KQ rfl rfl rr) (KT (.agg #[iv W,iv H,iv R,iv B]) 2 false 11 rfl rfl rfl rfl rfl (KZ My rfl af ab rr) (KT (.agg #[iv (g.W),iv (g.H),g0,g1,g2]) 2 false 11 rfl rfl rfl rfl rfl (KZ Lc rfl ap ao rr) (LN (R:=fun v_ w_=>v_ = .bool false/\KO (fun _=>False) ai w_) 2 false 11 rfl rfl rfl rfl rfl (LH rfl rfl rfl (fun _ _=>by kernel_rfl) (K5 _) (Lk rfl (Lk rfl LR)) (Sw W H R B g g0 g1 g2 T_g0 T_g1 T_g2 _  ak am an ) (fun e_ w_ h_=>⟨_,h_.1,(congrArg Value.bool aj),h_.2⟩)) ?_))))))
   rintro _ bv ⟨rfl,bi⟩
   refine KI (.bool false) rfl rfl (Li rfl rfl rfl rr) (KI (.bool false) rfl rfl (KQ rfl rfl rr) (KN 7 true 16 rfl rfl rfl (Or.inl rfl) rfl (KN 7 true 16 rfl rfl rfl (Or.inl rfl) rfl (KN 7 true 16 rfl rfl rfl (Or.inl rfl) rfl (KN 10 false 19 rfl rfl rfl (Or.inr rfl) rfl (KN 10 false 19 rfl rfl rfl (Or.inr rfl) rfl (KN 10 false 19 rfl rfl rfl (Or.inr rfl) rfl (KN 7 true 16 rfl rfl rfl (Or.inl rfl) rfl (KI (.bool false) rfl rfl (Li rfl rfl rfl rr) (KI (.bool false) rfl rfl (KS rfl rfl rr) (KM ?_)))))))))))
   have bj:=K4 (.bool false)
   refine KG (Lb ?_)
   exact Lu (v:=.bool false) ae rfl rfl bj ⟨(Pb (by first|(simp[*];done)|(simp_all;done)|(simp_all;omega))),(ac.tr bi)⟩
theorem Su(W H R B:Int)(p:Nat)(w0:World)(hs:Pg W H R B) :
  Calls Tryz.prog 58 #[.agg #[.int .i64 (W),.int .i64 (H),.int .i64 (R),.int .i64 (B)],.int .i64 (((p:Nat):Int))] w0 fun e w'=>e = .returned (.tuple #[.int .i64 (((Lh W p:Nat):Int)),.int .i64 (((Lh H p:Nat):Int))])/\KO (fun _=>False) w0 w':=by
 refine Lr (args:=[.agg #[iv W,iv H,iv R,iv B],iv ((p:Nat):Int)]) 22 Tryz.func58 rfl rfl (Nat.le_of_ble_eq_true rfl) ?_
 have hsd:=Q4 hs
 have hpw:=OB (W:=W) (p:=p) hsd.2.1
 have hph:=OB (W:=H) (p:=p) hsd.2.2.2.2.1
 refine KJ (KH (Lz (vs:=[iv W,iv H,iv R,iv B]) rfl rfl rfl rfl fun p1 w2 B4 g5 k3=>?_))
 have K7:=(KO.refl (fun _=>False) w0).tr k3
 refine KI (iv 0) rfl rfl (KS rfl rfl rr) (KI (iv 0) rfl rfl (KS rfl rfl rr) (KM ?_))
 have aq:=K4 (iv ((p:Nat):Int))
 have am:=K4 (undef)
 have ae:=K4 (pt p1 0)
 refine KG (KJ (KJ (KH (KR rfl rfl rfl aq (KI (.bool (decide (((p:Nat):Int)=0))) rfl rfl (Mj rfl rfl rfl rfl rr) (KM ?_))))))
 have ar:=K4 (.bool (decide (((p:Nat):Int)=0)))
 refine KG ?_
 refine K6 ar (fun ab=>?_) (fun ab=>?_)
 ·replace ab:=of_decide_eq_true ab
  refine KJ ?_
  refine QI [some 8,some 9,some 10,some 11,some 12,some 13,some 4,some 5] [Pd.eq (pt p1 0),Pd.eq (iv W),Pd.eq (iv ((Lh W p:Nat):Int)),Pd.eq (pt p1 1),Pd.eq (iv H),Pd.eq (iv ((Lh H p:Nat):Int)),Pd.eq (iv ((Lh W p:Nat):Int)),Pd.eq (iv ((Lh H p:Nat):Int))] (by kernel_rfl) (by kernel_rfl) ?_ ?_
  ·refine KL ?_ ?_
   ·refine La.one rfl fun F_ w_ hR hout hD=>?_
    exact(KU (n:=1) rfl ((hout 2 rfl (by decide)).trans ae) Tryz.underlying23 rfl (by kernel_rfl) (by decide) rfl ⟨rfl,KO.refl _ _⟩)
   refine KL ?_ ?_
   ·refine La.one rfl fun F_ w_ hR hout hD=>?_
    have g8:F_ 8=pt p1 0:=(hD.get 0 rfl rfl rfl)
    exact(KY rfl g8 Tryz.underlying3 (B4.all hR id) rfl rfl ⟨rfl,KO.refl _ _⟩)
   refine KL ?_ ?_
   ·refine La.one rfl fun F_ w_ hR hout hD=>?_
    have g9:F_ 9=iv W:=(hD.get 0 rfl rfl rfl)
    exact(Pv rfl g9 rfl (by first|decide|omega) (L6 (aCD (by omega) (by omega)) (by omega)) ⟨rfl,KO.refl _ _⟩)
   refine KL ?_ ?_
   ·refine La.one rfl fun F_ w_ hR hout hD=>?_
    exact(KU (n:=1) rfl ((hout 2 rfl (by decide)).trans ae) Tryz.underlying23 rfl (by kernel_rfl) (by decide) rfl ⟨rfl,KO.refl _ _⟩)
   refine KL ?_ ?_
   ·refine La.one rfl fun F_ w_ hR hout hD=>?_
    have aw:F_ 11=pt p1 1:=(hD.get 0 rfl rfl rfl)
    exact(KY rfl aw Tryz.underlying3 (B4.all hR id) rfl rfl ⟨rfl,KO.refl _ _⟩)
   refine KL ?_ ?_
   ·refine La.one rfl fun F_ w_ hR hout hD=>?_
    have az:F_ 12=iv H:=(hD.get 0 rfl rfl rfl)
    exact(Pv rfl az rfl (by first|decide|omega) (L6 (aCD (by omega) (by omega)) (by omega)) ⟨rfl,KO.refl _ _⟩)
   refine KL ?_ ?_
   ·refine La.one rfl fun F_ w_ hR hout hD=>?_
    have aA:F_ 10=iv ((Lh W p:Nat):Int):=(hD.get 0 rfl rfl rfl)
    exact(KS rfl aA ⟨rfl,KO.refl _ _⟩)
   refine KL ?_ ?_
   ·refine La.one rfl fun F_ w_ hR hout hD=>?_
    have aB:F_ 13=iv ((Lh H p:Nat):Int):=(hD.get 0 rfl rfl rfl)
    exact(KS rfl aB ⟨rfl,KO.refl _ _⟩)
   exact L0
  intro aU an aV aC ai af
  have aD:=(af 22).trans am
  have aE:an 4=iv ((Lh W p:Nat):Int):=(af 4).trans (ai 6 (by decide))
  have aF:an 5=iv ((Lh H p:Nat):Int):=(af 5).trans (ai 7 (by decide))
  clear ai af
  refine KG (Lb (Lq ?_))
  exact L7 aD rfl (Ly (v:=iv ((Lh W p:Nat):Int)) rfl aE) (Ly (v:=iv ((Lh H p:Nat):Int)) rfl aF) ⟨rfl,(K7.tr aC)⟩
 ·replace ab:=of_decide_eq_false ab
  refine Lg (KG (KJ ?_))
  refine QI [some 14,some 15,some 16,some 17,some 18,some 19,some 20,some 21,some 4,some 5] [Pd.eq (pt p1 0),Pd.eq (iv W),Pd.eq (iv (W/2)),Pd.eq (iv ((Lh W p:Nat):Int)),Pd.eq (pt p1 1),Pd.eq (iv H),Pd.eq (iv (H/2)),Pd.eq (iv ((Lh H p:Nat):Int)),Pd.eq (iv ((Lh W p:Nat):Int)),Pd.eq (iv ((Lh H p:Nat):Int))] (by kernel_rfl) (by kernel_rfl) ?_ ?_
  ·refine KL ?_ ?_
   ·refine La.one rfl fun F_ w_ hR hout hD=>?_
    exact(KU (n:=1) rfl ((hout 2 rfl (by decide)).trans ae) Tryz.underlying23 rfl (by kernel_rfl) (by decide) rfl ⟨rfl,KO.refl _ _⟩)
   refine KL ?_ ?_
   ·refine La.one rfl fun F_ w_ hR hout hD=>?_
    have aG:F_ 14=pt p1 0:=(hD.get 0 rfl rfl rfl)
    exact(KY rfl aG Tryz.underlying3 (B4.all hR id) rfl rfl ⟨rfl,KO.refl _ _⟩)
   refine KL ?_ ?_
   ·refine La.one rfl fun F_ w_ hR hout hD=>?_
    have aH:F_ 15=iv W:=(hD.get 0 rfl rfl rfl)
    exact(Pv rfl aH rfl (by first|decide|omega) (L2 (aCB (by omega)) (by omega)) ⟨rfl,KO.refl _ _⟩)
   refine KL ?_ ?_
   ·refine La.one rfl fun F_ w_ hR hout hD=>?_
    have aI:F_ 16=iv (W/2):=(hD.get 0 rfl rfl rfl)
    exact(Pv rfl aI rfl (by first|decide|omega) (L6 (aCI (by omega) (by omega)) (by omega)) ⟨rfl,KO.refl _ _⟩)
   refine KL ?_ ?_
   ·refine La.one rfl fun F_ w_ hR hout hD=>?_
    exact(KU (n:=1) rfl ((hout 2 rfl (by decide)).trans ae) Tryz.underlying23 rfl (by kernel_rfl) (by decide) rfl ⟨rfl,KO.refl _ _⟩)
   refine KL ?_ ?_
   ·refine La.one rfl fun F_ w_ hR hout hD=>?_
    have aJ:F_ 18=pt p1 1:=(hD.get 0 rfl rfl rfl)
    exact(KY rfl aJ Tryz.underlying3 (B4.all hR id) rfl rfl ⟨rfl,KO.refl _ _⟩)
   refine KL ?_ ?_
   ·refine La.one rfl fun F_ w_ hR hout hD=>?_
    have aK:F_ 19=iv H:=(hD.get 0 rfl rfl rfl)
    exact(Pv rfl aK rfl (by first|decide|omega) (L2 (aCB (by omega)) (by omega)) ⟨rfl,KO.refl _ _⟩)
   refine KL ?_ ?_
   ·refine La.one rfl fun F_ w_ hR hout hD=>?_
    have aL:F_ 20=iv (H/2):=(hD.get 0 rfl rfl rfl)
    exact(Pv rfl aL rfl (by first|decide|omega) (L6 (aCI (by omega) (by omega)) (by omega)) ⟨rfl,KO.refl _ _⟩)
   refine KL ?_ ?_
   ·refine La.one rfl fun F_ w_ hR hout hD=>?_
    have aM:F_ 17=iv ((Lh W p:Nat):Int):=(hD.get 0 rfl rfl rfl)
    exact(KS rfl aM ⟨rfl,KO.refl _ _⟩)
   refine KL ?_ ?_
   ·refine La.one rfl fun F_ w_ hR hout hD=>?_
    have aN:F_ 21=iv ((Lh H p:Nat):Int):=(hD.get 0 rfl rfl rfl)
    exact(KS rfl aN ⟨rfl,KO.refl _ _⟩)
   exact L0
  intro aW ao aX aO aj ah
  have aP:=(ah 22).trans am
  have aQ:ao 4=iv ((Lh W p:Nat):Int):=(ah 4).trans (aj 8 (by decide))
  have aR:ao 5=iv ((Lh H p:Nat):Int):=(ah 5).trans (aj 9 (by decide))
  clear aj ah
  refine KG (Lb ?_)
  exact L7 aP rfl (Ly (v:=iv ((Lh W p:Nat):Int)) rfl aQ) (Ly (v:=iv ((Lh H p:Nat):Int)) rfl aR) ⟨rfl,(K7.tr aO)⟩
def mdE(f g h:FD)(p x y:Int)(c:Ch)(q:Int):Int:=if TJ f g h p (4*x) (4*y) c=0 then QA q else TJ f g h p (4*x) (4*y) c
def V8(f g h:FD)(p x y:Int)(c:Ch)(q:Int):Nat->Int:=if TJ f g h p (4*x) (4*y) c=0 then buB (Xd f g h p (4*x) (4*y) c) c.b q else fun _=>0
theorem azY{f g h:FD}{p x y:Int}{c:Ch}{q:Int}(e:TJ f g h p (4*x) (4*y) c=0):mdE f g h p x y c q=QA q/\V8 f g h p x y c q=buB (Xd f g h p (4*x) (4*y) c) c.b q:=⟨if_pos e,if_pos e⟩
theorem aD5{f g h:FD}{p x y:Int}{c:Ch}{q:Int}(e:TJ f g h p (4*x) (4*y) c≠0):mdE f g h p x y c q=TJ f g h p (4*x) (4*y) c/\V8 f g h p x y c q=fun _=>0:=⟨if_neg e,if_neg e⟩
theorem aB1(p x y q:Int)(c:Ch)(f:FD)(f0 f1 f2:Value)(g:FD)(g0 g1 g2:Value)(h:FD)(h0 h1 h2:Value)(T_f0:Nat->Prop)(T_f1:Nat->Prop)(T_f2:Nat->Prop)(T_g0:Nat->Prop)(T_g1:Nat->Prop)(T_g2:Nat->Prop)(T_h0:Nat->Prop)(T_h1:Nat->Prop)(T_h2:Nat->Prop)(w0:World)(hA:NO w0)(hs:NU w0)(hw:Qg w0)(hx:0<=x/\x<=16)(hy:0<=y/\y<=256)(h_f0:Mh w0 T_f0 f0 ((f).p0))(h_f1:Mh w0 T_f1 f1 ((f).p1))(h_f2:Mh w0 T_f2 f2 ((f).p2))(h_g0:Mh w0 T_g0 g0 ((g).p0))(h_g1:Mh w0 T_g1 g1 ((g).p1))(h_g2:Mh w0 T_g2 g2 ((g).p2))(h_h0:Mh w0 T_h0 h0 ((h).p0))(h_h1:Mh w0 T_h1 h1 ((h).p1))(h_h2:Mh w0 T_h2 h2 ((h).p2)) :
  Calls Tryz.prog 42 #[.agg #[.int .i64 ((f).W),.int .i64 ((f).H),f0,f1,f2],.agg #[.int .i64 ((g).W),.int .i64 ((g).H),g0,g1,g2],.agg #[.int .i64 ((h).W),.int .i64 ((h).H),h0,h1,h2],.agg #[.int .i64 (p),.int .i64 (x),.int .i64 (y)],.agg (O1 (c)).toArray,.int .i64 (q)] w0 fun e w'=>e = .returned (.tuple #[LJ (V8 f g h p x y c q),.int .i64 (mdE f g h p x y c q)])/\KO (fun _=>False) w0 w':=by
 refine Lr (args:=[.agg #[iv (f.W),iv (f.H),f0,f1,f2],.agg #[iv (g.W),iv (g.H),g0,g1,g2],.agg #[iv (h.W),iv (h.H),h0,h1,h2],.agg #[iv p,iv x,iv y],.agg (O1 c).toArray,iv q]) 42 Tryz.func42 rfl rfl (Nat.le_of_ble_eq_true rfl) ?_
 have g_f0:=KP.refl w0 T_f0
 have g_f1:=KP.refl w0 T_f1
 have g_f2:=KP.refl w0 T_f2
 have g_g0:=KP.refl w0 T_g0
 have g_g1:=KP.refl w0 T_g1
 have g_g2:=KP.refl w0 T_g2
 have g_h0:=KP.refl w0 T_h0
 have g_h1:=KP.refl w0 T_h1
 have g_h2:=KP.refl w0 T_h2
 refine KJ (KH (Lz (vs:=[iv (f.W),iv (f.H),f0,f1,f2]) rfl rfl rfl rfl fun p1 w2 B4 g5 k3=>?_))
 obtain⟨aQ,aR,aS,aT,aU,aV,aW,aX,aY⟩:=ayQ k3 h_f0 h_f1 h_f2 h_g0 h_g1 h_g2 h_h0 h_h1 h_h2
 refine Lz (vs:=[iv (g.W),iv (g.H),g0,g1,g2]) rfl rfl rfl rfl fun aZ cT a8 cU ak=>?_
 obtain⟨a9,ba,bb,bc,bd,be,bf,bg,bh,bi⟩:=Tw ak aQ aR aS aT aU aV aW aX aY B4
 refine Lz (vs:=[iv (h.W),iv (h.H),h0,h1,h2]) rfl rfl rfl rfl fun bj cV bl cW am=>?_
 obtain⟨bm,bn,bo,bp,bq,bt,bu,bv,bz,bA,bB⟩:=az3 am a9 ba bb bc bd be bf bg bh bi a8
 refine Lz (vs:=[iv p,iv x,iv y]) rfl rfl rfl rfl fun ab cX bC cY an=>?_
 obtain⟨bD,bE,bF,bG,bH,bI,bJ,bK,bL,bM,bN,bO⟩:=aAR an bm bn bo bp bq bt bu bv bz bA bB bl
 refine Lz (vs:=(O1 c)) rfl rfl rfl rfl fun ao cZ bP c5 ap=>?_
 obtain⟨bQ,bR,bS,bT,bU,bV,bW,bX,bY,bZ,b7,b8,b9⟩:=Yf ap bD bE bF bG bH bI bJ bK bL bM bN bO bC
 have aq:=(((((KO.refl (fun _=>False) w0).tr k3).tr ak).tr am).tr an).tr ap
 refine L1 rfl rfl rfl KW.2.2 fun ar c6 au cd av=>?_
 have aw:=LS (Nat.le_of_eq au.symm)
 have az:=KP.new aq aw
 clear au aw
 obtain⟨ce,cf,cg,ci,cj,cm,cn,co,cq,cr,ct,cu,af,aA⟩:=Ph av bQ bR bS bT bU bV bW bX bY bZ b7 b8 b9 bP
 have aB:=aq.tr av
 refine KI (iv 0) rfl rfl (KS rfl rfl rr) (KM ?_)
 have cv:=K4 (iv q)
 have aC:=K4 (undef)
 have cw:=K4 (pt p1 0)
 have cy:=K4 (pt aZ 0)
 have cz:=K4 (pt bj 0)
 have ah:=K4 (pt ab 0)
 have aD:=K4 (pt ao 0)
 have ac:=K4 (pt ar 0)
 refine KG (KJ (KH (KI (.agg #[iv (f.W),iv (f.H),f0,f1,f2]) rfl rfl (KZ Lc rfl cw cr rr) (KI (.agg #[iv (g.W),iv (g.H),g0,g1,g2]) rfl rfl (KZ Lc rfl cy ct rr) (KI (.agg #[iv (h.W),iv (h.H),h0,h1,h2]) rfl rfl (KZ Lc rfl cz cu rr) (KI (pt ab 0) rfl rfl (KU (n:=1) rfl ah Tryz.underlying65 rfl (by kernel_rfl) (by decide) rfl rr) (KI (iv p) rfl rfl (KY rfl rfl Tryz.underlying3 af rfl rfl rr) (KI (pt ab 1) rfl rfl (KU (n:=1) rfl ah Tryz.underlying65 rfl (by kernel_rfl) (by decide) rfl rr) (KI (iv x) rfl rfl (KY rfl rfl Tryz.underlying3 af rfl rfl rr) (KI (iv (4*x)) rfl rfl (Nj rfl rfl rfl (L2 rfl (by omega)) rr) (KI (pt ab 2) rfl rfl (KU (n:=1) rfl ah Tryz.underlying65 rfl (by kernel_rfl) (by decide) rfl rr) ?_)))))))))))
 refine KI (iv y) rfl rfl (KY rfl rfl Tryz.underlying3 af rfl rfl rr) (KI (iv (4*y)) rfl rfl (Nj rfl rfl rfl (L2 rfl (by omega)) rr) (KI (.agg (O1 c).toArray) rfl rfl (KZ LE rfl aD aA rr) (LW rfl rfl rfl rfl rfl (fun _ _=>by kernel_rfl) (Lk rfl (Lk rfl (Lk rfl (Lk rfl (Lk rfl (Lk rfl (Lk rfl LR))))))) (Zb p (4*x) (4*y) c f f0 f1 f2 g g0 g1 g2 h h0 h1 h2 T_f0 T_f1 T_f2 T_g0 T_g1 T_g2 T_h0 T_h1 T_h2 _ (hA.all aB) ce cf cg ci cj cm cn co cq ) fun c7 aE=>?_)))
 obtain⟨aF,aG⟩:=NA aE aA cd
 have aH:=aB.tr aE
 refine KI (.tuple #[LJ (Xd f g h p (4*x) (4*y) c),iv (TJ f g h p (4*x) (4*y) c)]) rfl rfl (KQ rfl rfl rr) (KI (LJ (Xd f g h p (4*x) (4*y) c)) rfl rfl (LL rfl rfl rfl rr) (KI (iv (TJ f g h p (4*x) (4*y) c)) rfl rfl (LL rfl rfl rfl rr) (L1 rfl rfl rfl KW.2.2 fun cA c9 aI cB aJ=>?_)))
 have aK:=LS (Nat.le_of_eq aI.symm)
 obtain⟨cC,cD⟩:=TQ aK aF aG
 clear aI
 obtain⟨cE,cF⟩:=NA aJ aF aG
 refine Lp KW rfl rfl rfl rfl rfl cB fun da cG ai=>?_
 have cH:=cE.all ai (cC.symm ao rfl)
 have aL:=cF.all ai (cD.symm ar rfl)
 have ae:=(aH.tr aJ).trans ai (KP.ok (S:=fun _=>False) (KP.new aH aK) K3)
 refine KI (iv (TJ f g h p (4*x) (4*y) c)) rfl rfl (KS rfl rfl rr) (KM ?_)
 have cI:=K4 (pt cA 0)
 have aM:=K4 (iv (TJ f g h p (4*x) (4*y) c))
 refine KG (KJ (KJ (KH (KR rfl rfl rfl aM (KI (.bool (decide ((TJ f g h p (4*x) (4*y) c)≠0))) rfl rfl (Mb rfl rfl rfl rfl rr) (KM ?_))))))
 have cJ:=K4 (.bool (decide ((TJ f g h p (4*x) (4*y) c)≠0)))
 refine KG ?_
 refine K6 cJ (fun aa=>?_) (fun aa=>?_)
 ·replace aa:=of_decide_eq_true aa
  refine KJ ?_
  have hR:=aD5 (q:=q) (show TJ f g h p (4*x) (4*y) c≠0 from by assumption)
  refine KH (KI (LJ (fun _=>0)) rfl rfl (Mx (cells:=(L8 16 (fun _=>0)).toArray) rfl (by kernel_rfl) rfl rr) (KR rfl rfl rfl aM (Lp KW rfl rfl rfl ac rfl aL fun db cK cL=>?_)))
  refine KI (iv (TJ f g h p (4*x) (4*y) c)) rfl rfl (KS rfl rfl rr) (KM ?_)
  have cM:=K4 (iv (TJ f g h p (4*x) (4*y) c))
  refine KG (Lb (Lq ?_))
  exact L7 aC rfl (Mq KW rfl ac cK) (Ly (v:=iv (TJ f g h p (4*x) (4*y) c)) rfl cM) ⟨(by rw[hR.1,hR.2] <;> rfl),(ae.trans cL (KP.ok (S:=fun _=>False) az K3))⟩
 ·replace aa:=of_decide_eq_false aa
  refine Lg (KG (KJ ?_))
  have hR:=azY (q:=q) (show TJ f g h p (4*x) (4*y) c=0 from by first|assumption|(apply Decidable.byContradiction;assumption))
  refine KH (KI (LJ (Xd f g h p (4*x) (4*y) c)) rfl rfl (LY KW rfl cI cG rr) (KI (.agg (O1 c).toArray) rfl rfl (KZ LE rfl aD cH rr) (KR rfl rfl rfl cv (LW rfl rfl rfl rfl rfl (fun _ _=>by kernel_rfl) (Lk rfl (Lk rfl (Lk rfl LR))) (aA7 (Xd f g h p (4*x) (4*y) c) c q  _ (hs.all ae) (hw.all ae)  ) fun dc aN=>?_))))
  have cN:=aL.all aN id
  refine KI (LJ (buB (Xd f g h p (4*x) (4*y) c) c.b q)) rfl rfl (LL rfl rfl rfl rr) (KI (iv (QA q)) rfl rfl (LL rfl rfl rfl rr) (Lp KW rfl rfl rfl ac rfl cN fun dd cO cP=>?_))
  refine KI (iv (QA q)) rfl rfl (KS rfl rfl rr) (KM ?_)
  have cQ:=K4 (iv (QA q))
  refine KG (Lb ?_)
  exact L7 aC rfl (Mq KW rfl ac cO) (Ly (v:=iv (QA q)) rfl cQ) ⟨(by rw[hR.1,hR.2] <;> rfl),((ae.tr aN).trans cP (KP.ok (S:=fun _=>False) az K3))⟩
end Go.Proofs.YtknjpdcpmpfklaaGreatDoor
