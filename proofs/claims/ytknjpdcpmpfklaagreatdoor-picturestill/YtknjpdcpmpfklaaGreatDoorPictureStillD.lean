/- What PictureStill reaches of my texts, part 4. -/
import Derived.Test.YtknjpdcpmpfklaaGreatDoorPictureStillC
set_option maxRecDepth 100000
set_option maxHeartbeats 4000000
set_option maxRecDepth 100000
namespace Go.Proofs.YtknjpdcpmpfklaaGreatDoor
open Go.RowKit
theorem Nw:Xp 172 4:=Xp.of Tryz.underlying172 (by kernel_rfl)
theorem Zk:Rf Tryz.prog 169 4:=⟨_,Tryz.underlying169,rfl,by kernel_rfl⟩
theorem P5.first{w:World}{p n:Nat}{t:TypeId}{b c:Nat->Int}(h:P5 w p t n b):P5 w p t n (upto 0 b c):=by rw[XK];exact h
theorem P5.next{w:World}{p n:Nat}{t:TypeId}{b c:Nat->Int}{k:Nat}{x:Int}(h:P5 w p t n (Vo (upto k b c) k x))(e:x=c k):P5 w p t n (upto (k+1) b c):=by rw[← Y8,← e];exact h
theorem aAF(b:Nat->Int)(k:Nat)(x y:Int):Vo (Vo b k x) k y=Vo b k y:=by funext i;unfold Vo;split <;> rfl
theorem P5.next2{w:World}{p n:Nat}{t:TypeId}{b c:Nat->Int}{k:Nat}{x y:Int}(h:P5 w p t n (Vo (Vo (upto k b c) k x) k y))(e:y=c k):P5 w p t n (upto (k+1) b c):=by rw[aAF] at h;exact h.next e
theorem P5.last{w:World}{p n:Nat}{t:TypeId}{b c:Nat->Int}(h:P5 w p t n (upto n b c)):P5 w p t n c:=h.congr (fun i hi=>by simp[upto,hi])
theorem S6(n:Int)(w0:World) :
  Calls Tryz.prog 139 #[.int .i64 (n)] w0 fun e w'=>e = .returned (.bool (decide (0<=n/\n<=64)))/\KR (fun _=>False) w0 w':=by
 refine Ly (args:=[iv n]) 9 Tryz.func139 rfl rfl (Nat.le_of_ble_eq_true rfl) ?_
 have K0:=KR.refl (fun _=>False) w0
 refine KM (KL (Lb (.bool false) LE (KQ ?_)))
 have s3:=K4 (iv n)
 have s4:=K4 (undef)
 refine KK (KM ?_)
 by_cases d5:0<=n
 ·skip
  refine KL (K2 Lw s3 (KN (.bool true) rr (NO rfl rfl rfl (decide_eq_true d5) rr) (KN (.bool true) rr (KT rfl rfl rr) (Lj (iv n) 2 true 5 Li (KT rfl s3 rr) (Lj (.bool (decide (n<=64))) 2 true 5 Li (Vx rfl rfl rfl rfl rr) (KN (.bool (decide (n<=64))) rr (LB rfl rfl rfl rr) (Lb (.bool (decide (n<=64))) LE (KQ ?_))))))))
  have s9:=K4 (.bool (decide (n<=64)))
  refine KK (Le ?_)
  exact LC (v:=.bool (decide (n<=64))) s4 rfl rfl s9 ⟨(PS (by first|exact(decide_eq_true (by omega)).symm|exact(decide_eq_false (by omega)).symm|exact decide_eq_decide.2 (by omega))),K0⟩
 ·skip
  refine KL (K2 Lw s3 (KN (.bool false) rr (NO rfl rfl rfl (decide_eq_false d5) rr) (KN (.bool false) rr (KT rfl rfl rr) (Lq 2 true 5 Li (Lq 2 true 5 Li (KN (.bool false) rr (Lt rfl rfl rfl rr) (Lb (.bool false) LE (KQ ?_))))))))
  have ah:=K4 (.bool false)
  refine KK (Le ?_)
  exact LC (v:=.bool false) s4 rfl rfl ah ⟨(PS (by first|exact(decide_eq_true (by omega)).symm|exact(decide_eq_false (by omega)).symm|exact decide_eq_decide.2 (by omega))),K0⟩
theorem aAR(p x y:Int)(k:Nat)(f:FD)(f0 f1 f2:Value)(b1:Nat)(b2:Nat)(b3:Nat)(b4:Nat)(T_f0:Nat->Prop)(T_f1:Nat->Prop)(T_f2:Nat->Prop)(w0:World)(hx:0<=x/\x<=64)(hy:0<=y/\y<=64)(hk:k<4)(h_f0:Mv w0 T_f0 f0 ((f).p0))(h_f1:Mv w0 T_f1 f1 ((f).p1))(h_f2:Mv w0 T_f2 f2 ((f).p2))(h_b1:MJ w0 b1 29 [.int .i64 ((f).W),.int .i64 ((f).H),f0,f1,f2])(h_b2:Qx w0 b2 3 (.int .i64 (p)))(h_b3:Qx w0 b3 3 (.int .i64 (x)))(h_b4:Qx w0 b4 3 (.int .i64 (y))) :
  Calls Tryz.prog 164 #[.int .i64 (((k:Nat):Int)),.pointer (some ⟨b1,0,none⟩),.pointer (some ⟨b2,0,none⟩),.pointer (some ⟨b3,0,none⟩),.pointer (some ⟨b4,0,none⟩)] w0 fun e w'=>e = .returned (.int .i64 (NY f p (x+(k:Int)) (y-1)))/\KR (fun _=>False) w0 w':=by
 refine Ly (args:=[iv ((k:Nat):Int),pt b1 0,pt b2 0,pt b3 0,pt b4 0]) 15 Tryz.func164 rfl rfl (Nat.le_of_ble_eq_true rfl) ?_
 have g_f0:=KS.refl w0 T_f0
 have g_f1:=KS.refl w0 T_f1
 have g_f2:=KS.refl w0 T_f2
 refine KM (KL (Lb (iv 0) LE (KQ ?_)))
 have s3:=K4 (iv ((k:Nat):Int))
 have s4:=K4 (pt b1 0)
 have s5:=K4 (pt b2 0)
 have s6:=K4 (pt b3 0)
 have s7:=K4 (pt b4 0)
 have s8:=K4 (undef)
 refine KK (KM (KL (KN (.agg #[iv (f.W),iv (f.H),f0,f1,f2]) rr (KX La rfl s4 h_b1 rr) (KN (iv p) rr (M0 rfl s5 Tryz.underlying3 h_b2 rfl rr) (KN (iv x) rr (M0 rfl s6 Tryz.underlying3 h_b3 rfl rr) (K2 Lw s3 (KN (iv (x+((k:Nat):Int))) rr (LS rfl rfl rfl (Mn rfl (by omega)) rr) (KN (iv y) rr (M0 rfl s7 Tryz.underlying3 h_b4 rfl rr) (KN (iv (y-1)) rr (V8 rfl rfl rfl (Mn rfl (by omega)) rr) (L9 rfl rfl rfl rfl rfl (fun _ _=>by kernel_rfl) (Lo rfl (Lo rfl (Lo rfl (Lo rfl L5)))) (Uz p (x+((k:Nat):Int)) (y-1) f f0 f1 f2 T_f0 T_f1 T_f2 _  h_f0 h_f1 h_f2 ) fun w9 ai=>?_))))))))))
 refine Lb (iv (NY f p (x+((k:Nat):Int)) (y-1))) LE (KQ ?_)
 have aj:=K4 (iv (NY f p (x+((k:Nat):Int)) (y-1)))
 refine KK (Le ?_)
 exact LC (v:=iv (NY f p (x+((k:Nat):Int)) (y-1))) s8 rfl rfl aj ⟨rfl,((KR.refl (fun _=>False) w0).tr ai)⟩
theorem aDk(p x y:Int)(k:Nat)(f:FD)(f0 f1 f2:Value)(b1:Nat)(b2:Nat)(b3:Nat)(b4:Nat)(T_f0:Nat->Prop)(T_f1:Nat->Prop)(T_f2:Nat->Prop)(w0:World)(hx:0<=x/\x<=64)(hy:0<=y/\y<=64)(hk:k<4)(h_f0:Mv w0 T_f0 f0 ((f).p0))(h_f1:Mv w0 T_f1 f1 ((f).p1))(h_f2:Mv w0 T_f2 f2 ((f).p2))(h_b1:MJ w0 b1 29 [.int .i64 ((f).W),.int .i64 ((f).H),f0,f1,f2])(h_b2:Qx w0 b2 3 (.int .i64 (p)))(h_b3:Qx w0 b3 3 (.int .i64 (x)))(h_b4:Qx w0 b4 3 (.int .i64 (y))) :
  Calls Tryz.prog 165 #[.int .i64 (((k:Nat):Int)),.pointer (some ⟨b1,0,none⟩),.pointer (some ⟨b2,0,none⟩),.pointer (some ⟨b3,0,none⟩),.pointer (some ⟨b4,0,none⟩)] w0 fun e w'=>e = .returned (.int .i64 (NY f p (x-1) (y+(k:Int))))/\KR (fun _=>False) w0 w':=by
 refine Ly (args:=[iv ((k:Nat):Int),pt b1 0,pt b2 0,pt b3 0,pt b4 0]) 15 Tryz.func165 rfl rfl (Nat.le_of_ble_eq_true rfl) ?_
 have g_f0:=KS.refl w0 T_f0
 have g_f1:=KS.refl w0 T_f1
 have g_f2:=KS.refl w0 T_f2
 refine KM (KL (Lb (iv 0) LE (KQ ?_)))
 have s3:=K4 (iv ((k:Nat):Int))
 have s4:=K4 (pt b1 0)
 have s5:=K4 (pt b2 0)
 have s6:=K4 (pt b3 0)
 have s7:=K4 (pt b4 0)
 have s8:=K4 (undef)
 refine KK (KM (KL (KN (.agg #[iv (f.W),iv (f.H),f0,f1,f2]) rr (KX La rfl s4 h_b1 rr) (KN (iv p) rr (M0 rfl s5 Tryz.underlying3 h_b2 rfl rr) (KN (iv x) rr (M0 rfl s6 Tryz.underlying3 h_b3 rfl rr) (KN (iv (x-1)) rr (V8 rfl rfl rfl (Mn rfl (by omega)) rr) (KN (iv y) rr (M0 rfl s7 Tryz.underlying3 h_b4 rfl rr) (K2 Lw s3 (KN (iv (y+((k:Nat):Int))) rr (LS rfl rfl rfl (Mn rfl (by omega)) rr) (L9 rfl rfl rfl rfl rfl (fun _ _=>by kernel_rfl) (Lo rfl (Lo rfl (Lo rfl (Lo rfl L5)))) (Uz p (x-1) (y+((k:Nat):Int)) f f0 f1 f2 T_f0 T_f1 T_f2 _  h_f0 h_f1 h_f2 ) fun w9 ai=>?_))))))))))
 refine Lb (iv (NY f p (x-1) (y+((k:Nat):Int)))) LE (KQ ?_)
 have aj:=K4 (iv (NY f p (x-1) (y+((k:Nat):Int))))
 refine KK (Le ?_)
 exact LC (v:=iv (NY f p (x-1) (y+((k:Nat):Int)))) s8 rfl rfl aj ⟨rfl,((KR.refl (fun _=>False) w0).tr ai)⟩
def Rp(ahead:Int)(g:Nat->Int):Nat->Int:=fun i=>if ahead > 0 then g i else 128
theorem Z1{a:Int}{g:Nat->Int}{k:Nat}(h:a > 0):g k=Rp a g k:=(if_pos h).symm
theorem az8{a:Int}{g:Nat->Int}{k:Nat}(h:¬ a > 0):128=Rp a g k:=(if_neg h).symm
theorem Y9(ahead:Int)(fv:Value)(g:Nat->Int)(w0:World)(hg:ayM w0 4 fv g) :
  Calls Tryz.prog 163 #[.int .i64 (ahead),fv] w0 fun e w'=>e = .returned (.agg (Mp 4 (Rp ahead g)).toArray)/\KR (fun _=>False) w0 w':=by
 refine Ly (args:=[iv ahead,fv]) 21 Tryz.func163 rfl rfl (Nat.le_of_ble_eq_true rfl) ?_
 have K0:=KR.refl (fun _=>False) w0
 refine KM (KL (QH rfl rfl rfl Nw.2.2 fun p1 w2 e5 B3 k4=>?_))
 have K8:=K0.tr k4
 refine KQ ?_
 have aM:=K4 (iv ahead)
 have aN:=K4 (fv)
 have aO:=K4 (undef)
 have aP:=K4 (pt p1 0)
 refine KK (KM (KL (QH rfl rfl rfl Nw.2.2 fun aa bg aw aQ az=>?_)))
 have aj:=L7 (Nat.le_of_eq aw.symm)
 have aA:=KS.new K8 aj
 have aB:=KO.new aj (L8 B3.lt)
 clear aw aj
 have aR:=B3.all az id
 refine KQ ?_
 have aS:=K4 (pt aa 0)
 refine KK (KM (KM (KL (KN (iv 0) rr (KT rfl rfl rr) (KQ ?_)))))
 have aT:=K4 (iv 0)
 refine KK (Lm (M8 (fun nn FF ww=>∃ (k:Nat),(k<=4)/\nn=4-k/\FF 0=iv ahead/\FF 1=fv/\FF 4=pt p1 0/\FF 5=pt aa 0/\FF 21=undef/\FF 7=iv ((k:Nat):Int)/\KR (fun _=>False) w0 ww/\P5 ww p1 172 4 (fun _=>0)/\P5 ww aa 172 4 (upto k (fun _=>0) (Rp ahead g))) (4-0) ⟨0,by omega,rfl,aM,aN,aP,aS,aO,aT,(K8.tr az),aR,aQ.first⟩ ?_))
 rintro bh bi aU ⟨k,i44,hn43,ak,am,ah,ac,an,ai,aC,aD,aE⟩
 refine KM (KL (KN (.bool (decide (((k:Nat):Int)<4))) rr (Mc rfl ai rfl rfl rr) (KQ ?_)))
 have aV:=K4 (.bool (decide (((k:Nat):Int)<4)))
 refine KK (KM ?_)
 refine K5 aV (fun ae=>?_) (fun ae=>?_)
 ·replace ae:=of_decide_eq_true ae
  refine Lf (KK (KM (Lm (KM (KL (K2 Lw ai (Lb (iv ((k:Nat):Int)) LE (KQ ?_))))))))
  have ao:=K4 (iv ((k:Nat):Int))
  refine KK (KM (KL (K2 Lw ao (KN (.pointer (some ⟨aa,k,none⟩)) rr (L3 k (s:=1) rfl ac rfl (by omega) Tryz.underlying172 (by omega) (by kernel_rfl) (by omega) rr) (WY rfl rfl rfl rfl rfl aE (by omega) (by kernel_rfl) fun aW ap aF=>?_)))))
  have aG:=aD.all aF (aB.symm p1 rfl)
  have aq:=aC.trans aF (KS.ok (S:=fun _=>False) aA KZ)
  refine KQ ?_
  refine KK (KM (KL (K2 Lw ak (KN (.bool (decide (0<ahead))) rr (RN rfl rfl rfl rfl rr) (KQ ?_)))))
  have aX:=K4 (.bool (decide (0<ahead)))
  refine KK ?_
  refine K5 aX (fun af=>?_) (fun af=>?_)
  ·replace af:=of_decide_eq_true af
   refine KL (K2 Lw ao (K2 Lw am (K2 Lw ao (LH (R:=fun v_ w_=>v_=iv (g k)/\KR (fun _=>False) aW w_) rfl rfl (aFu rfl rfl rfl rfl rfl (hg.all aq) (by omega) (fun e_ w_ h_=>⟨_,h_.1,rfl,h_.2⟩)) ?_))))
   rintro _ bj ⟨rfl,aH⟩
   obtain⟨aY,aZ⟩:=Oe aH aG ap
   refine KN (.pointer (some ⟨aa,k,none⟩)) rr (L3 k (s:=1) rfl ac rfl (by omega) Tryz.underlying172 (by omega) (by kernel_rfl) (by omega) rr) (WY rfl rfl rfl rfl rfl aZ (by omega) (by kernel_rfl) fun bl aI aJ=>?_)
   have a8:=aY.all aJ (aB.symm p1 rfl)
   refine KQ ?_
   refine Lz (KK (KL (KN (iv ((k+1:Nat):Int)) rr (LS rfl ai rfl (LX (by omega) (by omega)) rr) (KN (iv ((k+1:Nat):Int)) rr (KT rfl rfl rr) (KQ ?_)))))
   have a9:=K4 (iv ((k+1:Nat):Int))
   exact KK ⟨(4-(k+1)),by omega,k+1,by omega,rfl,ak,am,ah,ac,an,a9,((aq.tr aH).trans aJ (KS.ok (S:=fun _=>False) aA KZ)),a8,(by first|exact aI.next2 (Z1 (by omega))|exact aI.next (az8 (by omega)))⟩
  ·replace af:=of_decide_eq_false af
   refine Lf (Lz (KK (KL (KN (iv ((k+1:Nat):Int)) rr (LS rfl ai rfl (LX (by omega) (by omega)) rr) (KN (iv ((k+1:Nat):Int)) rr (KT rfl rfl rr) (KQ ?_))))))
   have ba:=K4 (iv ((k+1:Nat):Int))
   exact KK ⟨(4-(k+1)),by omega,k+1,by omega,rfl,ak,am,ah,ac,an,ba,aq,aG,(by first|exact ap.next2 (Z1 (by omega))|exact ap.next (az8 (by omega)))⟩
 ·replace ae:=of_decide_eq_false ae
  refine Mm (Lp (Lp ?_))
  have bb:4=k:=by omega
  subst bb
  have bc:P5 aU aa 172 4 (Rp ahead g):=(aE.last)
  refine Mk (KK (KM (KL (KN (.agg (Mp 4 (Rp ahead g)).toArray) rr (So Nw rfl ac bc rr) (Sk Nw rfl rfl rfl ah rfl aD fun bm bd be=>?_)))))
  refine KQ ?_
  refine KK (Le ?_)
  exact YL Nw an rfl rfl ah bd ⟨rfl,(aC.trans be (KS.ok (S:=fun _=>False) (KS.new K0 (L7 (Nat.le_of_eq e5.symm))) KZ))⟩
theorem aAA{p x y:Int}{f:FD}{f0 f1 f2:Value}{b1 b2 b3 b4:Nat}{T0 T1 T2:Nat->Prop}{w:World}(hx:0<=x/\x<=64)(hy:0<=y/\y<=64)(h0:Mv w T0 f0 f.p0)(h1:Mv w T1 f1 f.p1)(h2:Mv w T2 f2 f.p2)
  (g1:MJ w b1 29 [.int .i64 f.W,.int .i64 f.H,f0,f1,f2]) (g2:Qx w b2 3 (.int .i64 p)) (g3:Qx w b3 3 (.int .i64 x)) (g4:Qx w b4 3 (.int .i64 y)) :
  ayM w 4 (.func (.func 164) #[] #[.pointer (some ⟨b1,0,none⟩),.pointer (some ⟨b2,0,none⟩),.pointer (some ⟨b3,0,none⟩),.pointer (some ⟨b4,0,none⟩)]) (fun k=>NY f p (x+(k:Int)) (y-1)) :=
 ⟨_,[.pointer (some ⟨b1,0,none⟩),.pointer (some ⟨b2,0,none⟩),.pointer (some ⟨b3,0,none⟩),.pointer (some ⟨b4,0,none⟩)],rfl,fun _ _=>by kernel_rfl,fun w' k i hi =>
  aAR p x y i f f0 f1 f2 b1 b2 b3 b4 T0 T1 T2 w' hx hy hi (h0.all k KO.none) (h1.all k KO.none) (h2.all k KO.none) (g1.all k id) (g2.all k id) (g3.all k id) (g4.all k id)⟩
theorem aCi{p x y:Int}{f:FD}{f0 f1 f2:Value}{b1 b2 b3 b4:Nat}{T0 T1 T2:Nat->Prop}{w:World}(hx:0<=x/\x<=64)(hy:0<=y/\y<=64)(h0:Mv w T0 f0 f.p0)(h1:Mv w T1 f1 f.p1)(h2:Mv w T2 f2 f.p2)
  (g1:MJ w b1 29 [.int .i64 f.W,.int .i64 f.H,f0,f1,f2]) (g2:Qx w b2 3 (.int .i64 p)) (g3:Qx w b3 3 (.int .i64 x)) (g4:Qx w b4 3 (.int .i64 y)) :
  ayM w 4 (.func (.func 165) #[] #[.pointer (some ⟨b1,0,none⟩),.pointer (some ⟨b2,0,none⟩),.pointer (some ⟨b3,0,none⟩),.pointer (some ⟨b4,0,none⟩)]) (fun k=>NY f p (x-1) (y+(k:Int))) :=
 ⟨_,[.pointer (some ⟨b1,0,none⟩),.pointer (some ⟨b2,0,none⟩),.pointer (some ⟨b3,0,none⟩),.pointer (some ⟨b4,0,none⟩)],rfl,fun _ _=>by kernel_rfl,fun w' k i hi =>
  aDk p x y i f f0 f1 f2 b1 b2 b3 b4 T0 T1 T2 w' hx hy hi (h0.all k KO.none) (h1.all k KO.none) (h2.all k KO.none) (g1.all k id) (g2.all k id) (g3.all k id) (g4.all k id)⟩
theorem azx(f:FD)(p x y:Int):Rp y (fun k=>NY f p (x+(k:Int)) (y-1))=fun k=>Oy f p x y ((k:Nat):Int):=by
 funext k;unfold Rp Oy;by_cases h:y<=0
 ·rw[if_neg (by omega),if_pos h]
 ·rw[if_pos (by omega),if_neg h]
theorem aAr(f:FD)(p x y:Int):Rp x (fun k=>NY f p (x-1) (y+(k:Int)))=fun k=>PE f p x y ((k:Nat):Int):=by
 funext k;unfold Rp PE;by_cases h:x<=0
 ·rw[if_neg (by omega),if_pos h]
 ·rw[if_pos (by omega),if_neg h]
theorem aCF(p x y:Int)(f:FD)(f0 f1 f2:Value)(T_f0:Nat->Prop)(T_f1:Nat->Prop)(T_f2:Nat->Prop)(w0:World)(hx:0<=x/\x<=64)(hy:0<=y/\y<=64)(h_f0:Mv w0 T_f0 f0 ((f).p0))(h_f1:Mv w0 T_f1 f1 ((f).p1))(h_f2:Mv w0 T_f2 f2 ((f).p2)) :
  Calls Tryz.prog 142 #[.agg #[.int .i64 ((f).W),.int .i64 ((f).H),f0,f1,f2],.int .i64 (p),.int .i64 (x),.int .i64 (y)] w0 fun e w'=>e = .returned (.agg (Mp 4 (fun k=>Oy f p x y ((k:Nat):Int))).toArray)/\KR (fun _=>False) w0 w':=by
 refine Ly (args:=[.agg #[iv (f.W),iv (f.H),f0,f1,f2],iv p,iv x,iv y]) 12 Tryz.func142 rfl rfl (Nat.le_of_ble_eq_true rfl) ?_
 have g_f0:=KS.refl w0 T_f0
 have g_f1:=KS.refl w0 T_f1
 have g_f2:=KS.refl w0 T_f2
 refine KM (KL (LJ (vs:=[iv (f.W),iv (f.H),f0,f1,f2]) rfl rfl rfl rfl fun p1 w2 B4 g5 k3=>?_))
 obtain⟨au,av,aw⟩:=Od k3 h_f0 h_f1 h_f2
 refine PX rfl rfl rfl rfl (by rfl) fun ab bi az bj ah=>?_
 obtain⟨aA,aB,aC,aD⟩:=Pg ah au av aw B4
 refine PX rfl rfl rfl rfl (by rfl) fun ac bl aE bm ai=>?_
 obtain⟨aF,aG,aH,aI,aJ⟩:=O6 ai aA aB aC aD az
 refine PX rfl rfl rfl rfl (by rfl) fun ae bn aK bo aj=>?_
 obtain⟨aL,aM,aN,aO,aP,aQ⟩:=Qh aj aF aG aH aI aJ aE
 have ak:=((((KR.refl (fun _=>False) w0).tr k3).tr ah).tr ai).tr aj
 refine QH rfl rfl rfl Nw.2.2 fun aR aS aT aU am=>?_
 obtain⟨aV,aW,aX,aY,aZ,a8,an⟩:=Uc am aL aM aN aO aP aQ aK
 refine KQ ?_
 have a9:=K4 (undef)
 have ba:=K4 (pt p1 0)
 have bb:=K4 (pt ab 0)
 have bc:=K4 (pt ac 0)
 have ao:=K4 (pt ae 0)
 have ap:=K4 (pt aR 0)
 refine KK (KM (KL (KN (iv y) rr (M0 rfl ao Tryz.underlying3 an rfl rr) (KN (.func (.func 164) #[] #[pt p1 0,pt ab 0,pt ac 0,pt ae 0]) rr (Xt rfl (Lo ba (Lo bb (Lo bc (Lo ao L5)))) rr) (LH (R:=fun v_ w_=>v_ = .agg (Mp 4 (fun k=>Oy f p x y ((k:Nat):Int))).toArray/\KR (fun _=>False) aS w_) rfl rfl (LQ rfl rfl rfl (fun _ _=>by kernel_rfl) (K6 _) (Lo rfl (Lo rfl L5)) (Y9 y (.func (.func 164) #[] #[pt p1 0,pt ab 0,pt ac 0,pt ae 0]) (fun k=>NY f p (x+(k:Int)) (y-1))  _ (aAA hx hy aV aW aX aY aZ a8 an)  ) (fun e_ w_ h_=>⟨_,h_.1,congrArg (fun z=>Value.agg (Mp 4 z).toArray) (azx f p x y),h_.2⟩)) ?_)))))
 rintro _ bp ⟨rfl,aq⟩
 have bd:=aU.all aq id
 refine Sk Nw rfl rfl rfl ap rfl bd fun bq be bf=>?_
 refine KQ ?_
 refine KK (Le ?_)
 exact YL Nw a9 rfl rfl ap be ⟨rfl,(((ak.tr am).tr aq).trans bf (KS.ok (S:=fun _=>False) (KS.new ak (L7 (Nat.le_of_eq aT.symm))) KZ))⟩
theorem aDM(p x y:Int)(f:FD)(f0 f1 f2:Value)(T_f0:Nat->Prop)(T_f1:Nat->Prop)(T_f2:Nat->Prop)(w0:World)(hx:0<=x/\x<=64)(hy:0<=y/\y<=64)(h_f0:Mv w0 T_f0 f0 ((f).p0))(h_f1:Mv w0 T_f1 f1 ((f).p1))(h_f2:Mv w0 T_f2 f2 ((f).p2)) :
  Calls Tryz.prog 143 #[.agg #[.int .i64 ((f).W),.int .i64 ((f).H),f0,f1,f2],.int .i64 (p),.int .i64 (x),.int .i64 (y)] w0 fun e w'=>e = .returned (.agg (Mp 4 (fun k=>PE f p x y ((k:Nat):Int))).toArray)/\KR (fun _=>False) w0 w':=by
 refine Ly (args:=[.agg #[iv (f.W),iv (f.H),f0,f1,f2],iv p,iv x,iv y]) 12 Tryz.func143 rfl rfl (Nat.le_of_ble_eq_true rfl) ?_
 have g_f0:=KS.refl w0 T_f0
 have g_f1:=KS.refl w0 T_f1
 have g_f2:=KS.refl w0 T_f2
 refine KM (KL (LJ (vs:=[iv (f.W),iv (f.H),f0,f1,f2]) rfl rfl rfl rfl fun p1 w2 B4 g5 k3=>?_))
 obtain⟨au,av,aw⟩:=Od k3 h_f0 h_f1 h_f2
 refine PX rfl rfl rfl rfl (by rfl) fun ab bi az bj ah=>?_
 obtain⟨aA,aB,aC,aD⟩:=Pg ah au av aw B4
 refine PX rfl rfl rfl rfl (by rfl) fun ac bl aE bm ai=>?_
 obtain⟨aF,aG,aH,aI,aJ⟩:=O6 ai aA aB aC aD az
 refine PX rfl rfl rfl rfl (by rfl) fun ae bn aK bo aj=>?_
 obtain⟨aL,aM,aN,aO,aP,aQ⟩:=Qh aj aF aG aH aI aJ aE
 have ak:=((((KR.refl (fun _=>False) w0).tr k3).tr ah).tr ai).tr aj
 refine QH rfl rfl rfl Nw.2.2 fun aR aS aT aU am=>?_
 obtain⟨aV,aW,aX,aY,aZ,an,a8⟩:=Uc am aL aM aN aO aP aQ aK
 refine KQ ?_
 have a9:=K4 (undef)
 have ba:=K4 (pt p1 0)
 have bb:=K4 (pt ab 0)
 have ao:=K4 (pt ac 0)
 have bc:=K4 (pt ae 0)
 have ap:=K4 (pt aR 0)
 refine KK (KM (KL (KN (iv x) rr (M0 rfl ao Tryz.underlying3 an rfl rr) (KN (.func (.func 165) #[] #[pt p1 0,pt ab 0,pt ac 0,pt ae 0]) rr (Xt rfl (Lo ba (Lo bb (Lo ao (Lo bc L5)))) rr) (LH (R:=fun v_ w_=>v_ = .agg (Mp 4 (fun k=>PE f p x y ((k:Nat):Int))).toArray/\KR (fun _=>False) aS w_) rfl rfl (LQ rfl rfl rfl (fun _ _=>by kernel_rfl) (K6 _) (Lo rfl (Lo rfl L5)) (Y9 x (.func (.func 165) #[] #[pt p1 0,pt ab 0,pt ac 0,pt ae 0]) (fun k=>NY f p (x-1) (y+(k:Int)))  _ (aCi hx hy aV aW aX aY aZ an a8)  ) (fun e_ w_ h_=>⟨_,h_.1,congrArg (fun z=>Value.agg (Mp 4 z).toArray) (aAr f p x y),h_.2⟩)) ?_)))))
 rintro _ bp ⟨rfl,aq⟩
 have bd:=aU.all aq id
 refine Sk Nw rfl rfl rfl ap rfl bd fun bq be bf=>?_
 refine KQ ?_
 refine KK (Le ?_)
 exact YL Nw a9 rfl rfl ap be ⟨rfl,(((ak.tr am).tr aq).trans bf (KS.ok (S:=fun _=>False) (KS.new ak (L7 (Nat.le_of_eq aT.symm))) KZ))⟩
def NK(e:Nat->Int):Nat->Int
 | 0=>0
 | k+1=>NK e k+e k
theorem Wj{e:Nat->Int}(h:∀ i,0<=e i/\e i<=255)(k:Nat):0<=NK e k/\NK e k<=255*k:=by
 induction k with
 | zero=>simp[NK]
 | succ k ih=>have:=h k;rw[NK];omega
theorem Zx(s:Nat->Int)(w0:World)(he:∀ i,0<=s i/\s i<=255) :
  Calls Tryz.prog 158 #[.agg (Mp 4 (s)).toArray] w0 fun e w'=>e = .returned (.int .i64 (NK s 4))/\KR (fun _=>False) w0 w':=by
 refine Ly (args:=[.agg (Mp 4 s).toArray]) 15 Tryz.func158 rfl rfl (Nat.le_of_ble_eq_true rfl) ?_
 refine KM (KL (TN rfl rfl rfl rfl fun p1 w2 e5 B3 k4=>?_))
 have g6:=L7 (Nat.le_of_eq e5.symm)
 clear e5 g6
 refine Lb (iv 0) LE (KQ ?_)
 have ao:=K4 (undef)
 have ap:=K4 (pt p1 0)
 refine KK (KM (KL (Lb (iv 0) LE (KQ ?_))))
 have aq:=K4 (iv 0)
 refine KK (KM (KM (KL (KN (.agg (Mp 4 s).toArray) rr (So Nw rfl ap B3 rr) (KN (iv 0) rr (KT rfl rfl rr) (KQ ?_))))))
 have ar:=K4 (.agg (Mp 4 s).toArray)
 have au:=K4 (iv 0)
 refine KK (Lm (M8 (fun nn FF ww=>∃ (k:Nat),(k<=4)/\nn=4-k/\FF 6 = .agg (Mp 4 s).toArray/\FF 15=undef/\FF 3=iv (NK s k)/\FF 7=iv ((k:Nat):Int)/\KR (fun _=>False) w0 ww/\P5 ww p1 172 4 s) (4-0) ⟨0,by omega,rfl,ar,ao,aq,au,((KR.refl (fun _=>False) w0).tr k4),B3⟩ ?_))
 rintro aF aG aH ⟨k,i28,hn27,ah,ai,aj,ab,ak,av⟩
 refine KM (KL (KN (.bool (decide (((k:Nat):Int)<4))) rr (Mc rfl ab rfl rfl rr) (KQ ?_)))
 have aw:=K4 (.bool (decide (((k:Nat):Int)<4)))
 refine KK (KM ?_)
 refine K5 aw (fun aa=>?_) (fun aa=>?_)
 ·replace aa:=of_decide_eq_true aa
  refine Lf (KK (KM (Lm (KM (KL (KN (iv (s k)) rr (aEe k Nw rfl ah ab (by omega) rfl rr) (Lb (iv (s k)) LE (KQ ?_))))))))
  have az:=K4 (iv (s k))
  refine KK ?_
  have ht:=Wj he k
  have hk:=he k
  refine KL (K2 Lw aj (K2 Lw az (KN (iv ((NK s k)+(s k))) rr (LS rfl rfl rfl (Mn rfl (by omega)) rr) (Lb (iv ((NK s k)+(s k))) LE (KQ ?_)))))
  have aA:=K4 (iv ((NK s k)+(s k)))
  refine Lz (KK (KL (KN (iv ((k+1:Nat):Int)) rr (LS rfl ab rfl (LX (by omega) (by omega)) rr) (KN (iv ((k+1:Nat):Int)) rr (KT rfl rfl rr) (KQ ?_)))))
  have aB:=K4 (iv ((k+1:Nat):Int))
  exact KK ⟨(4-(k+1)),by omega,k+1,by omega,rfl,ah,ai,aA,aB,ak,av⟩
 ·replace aa:=of_decide_eq_false aa
  refine Mm (Lp (Lp ?_))
  have aC:4=k:=by omega
  subst aC
  refine Mk (KK (KM (KL (K2 Lw aj (Lb (iv (NK s 4)) LE (KQ ?_))))))
  have aD:=K4 (iv (NK s 4))
  refine KK (Le ?_)
  exact LC (v:=iv (NK s 4)) ai rfl rfl aD ⟨rfl,ak⟩
def Vz(a l:Nat->Int)(m i k:Nat):Int :=
 if m=0 then Int.tdiv (NK a 4+NK l 4+4) 8 else if m=1 then a k else if m=2 then l i else Int.tdiv (a k+l i+1) 2
theorem aGc(i k:Nat)(n:Int)(b1:Nat)(w0:World)(h_b1:Qx w0 b1 3 (.int .i64 (n))) :
  Calls Tryz.prog 159 #[.int .i64 (((i:Nat):Int)),.int .i64 (((k:Nat):Int)),.pointer (some ⟨b1,0,none⟩)] w0 fun e w'=>e = .returned (.int .i64 (n))/\KR (fun _=>False) w0 w':=by
 refine Ly (args:=[iv ((i:Nat):Int),iv ((k:Nat):Int),pt b1 0]) 7 Tryz.func159 rfl rfl (Nat.le_of_ble_eq_true rfl) ?_
 refine KM (KL (Lb (iv 0) LE (KQ ?_)))
 have s3:=K4 (pt b1 0)
 have s4:=K4 (undef)
 refine KK (KM (KL (KN (iv n) rr (M0 rfl s3 Tryz.underlying3 h_b1 rfl rr) (Lb (iv n) LE (KQ ?_)))))
 have s8:=K4 (iv n)
 refine KK (Le ?_)
 exact LC (v:=iv n) s4 rfl rfl s8 ⟨rfl,(KR.refl (fun _=>False) w0)⟩
theorem aFV(i k:Nat)(a:Nat->Int)(b1:Nat)(w0:World)(hk:k<4)(h_b1:P5 w0 b1 172 4 (a)) :
  Calls Tryz.prog 160 #[.int .i64 (((i:Nat):Int)),.int .i64 (((k:Nat):Int)),.pointer (some ⟨b1,0,none⟩)] w0 fun e w'=>e = .returned (.int .i64 (a k))/\KR (fun _=>False) w0 w':=by
 refine Ly (args:=[iv ((i:Nat):Int),iv ((k:Nat):Int),pt b1 0]) 9 Tryz.func160 rfl rfl (Nat.le_of_ble_eq_true rfl) ?_
 refine KM (KL (Lb (iv 0) LE (KQ ?_)))
 have s3:=K4 (iv ((k:Nat):Int))
 have s4:=K4 (pt b1 0)
 have s5:=K4 (undef)
 refine KK (KM (KL (K2 Lw s3 (KN (.pointer (some ⟨b1,k,none⟩)) rr (L3 k (s:=1) rfl s4 rfl (by omega) Tryz.underlying172 (by omega) (by kernel_rfl) (by omega) rr) (KN (iv (a k)) rr (Pj rfl rfl Tryz.underlying3 (h_b1.cell (by omega)) rr) (Lb (iv (a k)) LE (KQ ?_)))))))
 have s9:=K4 (iv (a k))
 refine KK (Le ?_)
 exact LC (v:=iv (a k)) s5 rfl rfl s9 ⟨rfl,(KR.refl (fun _=>False) w0)⟩
theorem aFS(i k:Nat)(l:Nat->Int)(b1:Nat)(w0:World)(hi:i<4)(h_b1:P5 w0 b1 172 4 (l)) :
  Calls Tryz.prog 161 #[.int .i64 (((i:Nat):Int)),.int .i64 (((k:Nat):Int)),.pointer (some ⟨b1,0,none⟩)] w0 fun e w'=>e = .returned (.int .i64 (l i))/\KR (fun _=>False) w0 w':=by
 refine Ly (args:=[iv ((i:Nat):Int),iv ((k:Nat):Int),pt b1 0]) 9 Tryz.func161 rfl rfl (Nat.le_of_ble_eq_true rfl) ?_
 refine KM (KL (Lb (iv 0) LE (KQ ?_)))
 have s3:=K4 (iv ((i:Nat):Int))
 have s4:=K4 (pt b1 0)
 have s5:=K4 (undef)
 refine KK (KM (KL (K2 Lw s3 (KN (.pointer (some ⟨b1,i,none⟩)) rr (L3 i (s:=1) rfl s4 rfl (by omega) Tryz.underlying172 (by omega) (by kernel_rfl) (by omega) rr) (KN (iv (l i)) rr (Pj rfl rfl Tryz.underlying3 (h_b1.cell (by omega)) rr) (Lb (iv (l i)) LE (KQ ?_)))))))
 have s9:=K4 (iv (l i))
 refine KK (Le ?_)
 exact LC (v:=iv (l i)) s5 rfl rfl s9 ⟨rfl,(KR.refl (fun _=>False) w0)⟩
theorem aF8(i k:Nat)(a l:Nat->Int)(b1:Nat)(b2:Nat)(w0:World)(hi:i<4)(hk:k<4)(ha:∀ i,0<=a i/\a i<=255)(hl:∀ i,0<=l i/\l i<=255)(h_b1:P5 w0 b1 172 4 (a))(h_b2:P5 w0 b2 172 4 (l)) :
  Calls Tryz.prog 162 #[.int .i64 (((i:Nat):Int)),.int .i64 (((k:Nat):Int)),.pointer (some ⟨b1,0,none⟩),.pointer (some ⟨b2,0,none⟩)] w0 fun e w'=>e = .returned (.int .i64 (Int.tdiv (a k+l i+1) 2))/\KR (fun _=>False) w0 w':=by
 refine Ly (args:=[iv ((i:Nat):Int),iv ((k:Nat):Int),pt b1 0,pt b2 0]) 16 Tryz.func162 rfl rfl (Nat.le_of_ble_eq_true rfl) ?_
 refine KM (KL (Lb (iv 0) LE (KQ ?_)))
 have s3:=K4 (iv ((i:Nat):Int))
 have s4:=K4 (iv ((k:Nat):Int))
 have s5:=K4 (pt b1 0)
 have s6:=K4 (pt b2 0)
 have s7:=K4 (undef)
 refine KK (KM ?_)
 have h1:=ha k
 have h2:=hl i
 refine RZ [some 7,some 8,some 9,some 10,some 11,some 12,some 13,some 14,some 15,some 6] [Pd.eq (iv ((k:Nat):Int)),Pd.eq (.pointer (some ⟨b1,k,none⟩)),Pd.eq (iv (a k)),Pd.eq (iv ((i:Nat):Int)),Pd.eq (.pointer (some ⟨b2,i,none⟩)),Pd.eq (iv (l i)),Pd.eq (iv ((a k)+(l i))),Pd.eq (iv (((a k)+(l i))+1)),Pd.eq (iv (Int.tdiv (a k+l i+1) 2)),Pd.eq (iv (Int.tdiv (a k+l i+1) 2))] (by kernel_rfl) (by kernel_rfl) ?_ ?_
 ·refine KP ?_ ?_
  ·refine Ld.one rfl fun F_ w_ hR hout hD=>?_
   exact(KT rfl ((hout 1 rfl (by decide)).trans s4) ⟨rfl,KR.refl _ _⟩)
  refine KP ?_ ?_
  ·refine Ld.one rfl fun F_ w_ hR hout hD=>?_
   have g7:F_ 7=iv ((k:Nat):Int):=(hD.get 0 rfl rfl rfl)
   exact(L3 k (s:=1) rfl ((hout 2 rfl (by decide)).trans s5) g7 (by omega) Tryz.underlying172 (by omega) (by kernel_rfl) (by omega) ⟨rfl,KR.refl _ _⟩)
  refine KP ?_ ?_
  ·refine Ld.one rfl fun F_ w_ hR hout hD=>?_
   have g8:F_ 8 = .pointer (some ⟨b1,k,none⟩):=(hD.get 0 rfl rfl rfl)
   exact(Pj rfl g8 Tryz.underlying3 ((h_b1.all hR id).cell (by omega)) ⟨rfl,KR.refl _ _⟩)
  refine KP ?_ ?_
  ·refine Ld.one rfl fun F_ w_ hR hout hD=>?_
   exact(KT rfl ((hout 0 rfl (by decide)).trans s3) ⟨rfl,KR.refl _ _⟩)
  refine KP ?_ ?_
  ·refine Ld.one rfl fun F_ w_ hR hout hD=>?_
   have am:F_ 10=iv ((i:Nat):Int):=(hD.get 0 rfl rfl rfl)
   exact(L3 i (s:=1) rfl ((hout 3 rfl (by decide)).trans s6) am (by omega) Tryz.underlying172 (by omega) (by kernel_rfl) (by omega) ⟨rfl,KR.refl _ _⟩)
  refine KP ?_ ?_
  ·refine Ld.one rfl fun F_ w_ hR hout hD=>?_
   have an:F_ 11 = .pointer (some ⟨b2,i,none⟩):=(hD.get 0 rfl rfl rfl)
   exact(Pj rfl an Tryz.underlying3 ((h_b2.all hR id).cell (by omega)) ⟨rfl,KR.refl _ _⟩)
  refine KP ?_ ?_
  ·refine Ld.one rfl fun F_ w_ hR hout hD=>?_
   have g9:F_ 9=iv (a k):=(hD.get 0 rfl rfl rfl)
   have ap:F_ 12=iv (l i):=(hD.get 1 rfl rfl rfl)
   exact(LS rfl g9 ap (Mn rfl (by omega)) ⟨rfl,KR.refl _ _⟩)
  refine KP ?_ ?_
  ·refine Ld.one rfl fun F_ w_ hR hout hD=>?_
   have aq:F_ 13=iv ((a k)+(l i)):=(hD.get 0 rfl rfl rfl)
   exact(LS rfl aq rfl (Mn rfl (by omega)) ⟨rfl,KR.refl _ _⟩)
  refine KP ?_ ?_
  ·refine Ld.one rfl fun F_ w_ hR hout hD=>?_
   have ar:F_ 14=iv (((a k)+(l i))+1):=(hD.get 0 rfl rfl rfl)
   exact(O8 rfl ar rfl (by first|decide|omega) (Mn rfl (by rw[PH (by omega)];omega)) ⟨rfl,KR.refl _ _⟩)
  refine KP ?_ ?_
  ·refine Ld.one rfl fun F_ w_ hR hout hD=>?_
   have au:F_ 15=iv (Int.tdiv (a k+l i+1) 2):=(hD.get 0 rfl rfl rfl)
   exact(Pv rfl au ⟨rfl,KR.refl _ _⟩)
  exact Mj
 intro v8 F9 aC aw ab aa
 have az:=(aa 16).trans s7
 have aA:F9 6=iv (Int.tdiv (a k+l i+1) 2):=(aa 6).trans (ab 9 (by decide))
 clear ab aa
 refine KK (Le ?_)
 exact LC (v:=iv (Int.tdiv (a k+l i+1) 2)) az rfl rfl aA ⟨rfl,((KR.refl (fun _=>False) w0).tr aw)⟩
def Fns(w:World)(v:Value)(g:Nat->Nat->Nat->Int):Prop:=∃ c:Nat->Value,v = .agg #[c 0,c 1,c 2,c 3]/\∀ m,m<4->ZE w 4 (c m) (g m)
theorem Fns.all{w w':World}{v:Value}{g:Nat->Nat->Nat->Int}(h:Fns w v g)(k:KR (fun _=>False) w w'):Fns w' v g:=by
 obtain⟨c,e,h⟩:=h;exact⟨c,e,fun m hm=>(h m hm).all k⟩
def Pd.fns(g:Nat->Nat->Nat->Int):Pd:=⟨fun v w=>Fns w v g,fun _ _ _ h k=>h.all k⟩
theorem aGa{ρ:Operand->Value}{o:Oper}{w:World}{R:Value->World->Prop}{x y:Operand}{k:IntKind}{v:Value}{g:Nat->Nat->Nat->Int}(j:Nat){i:Int}(ho:o.op = .index 169 x y)(hx:ρ x=v)(hb:Fns w v g)(hy:ρ y = .int k i)(hi:i=(j:Int))(hj:j<4)(h:∀ c,ZE w 4 c (g j)->R c w):Lg Tryz.prog ρ o w R:=by
 obtain⟨c,rfl,hc⟩:=hb
 subst hi
 have hs:(Tryz.prog.info? 167).map (·.size)=some 1:=by kernel_rfl
 have hv : #[c 0,c 1,c 2,c 3][j]? = some (c j):=by
  rcases (by omega:j=0\/j=1\/j=2\/j=3) with rfl|rfl|rfl|rfl <;> rfl
 cases hq:Tryz.prog.info? 167 with
 | none=>simp[hq] at hs
 | some i =>
  have hs':i.size=1:=by simpa [hq] using hs
  have hp:(part 167 #[c 0,c 1,c 2,c 3] j).run Tryz.prog w = .ok (c j) w:=by simp[part,isAgg,run_underlying Tryz.underlying167,hv]
  have h1:(0:Int)<=(j:Int):=by omega
  exact OJ (v:=c j) (w':=w) (by simp[execOp,ho,hx,hy,Instr.index,run_underlying Tryz.underlying169,asIntOf,sizeOf,typeInfo,hq,hs',hp,h1,hj]) (h _ (hc j hj))
theorem aFs{w:World}{a l:Nat->Int}{b2 b3 b5:Nat}(ha:∀ i,0<=a i/\a i<=255)(hl:∀ i,0<=l i/\l i<=255)(h2:P5 w b2 172 4 a)(h3:P5 w b3 172 4 l)(h5:Qx w b5 3 (.int .i64 (Int.tdiv (NK a 4+NK l 4+4) 8))) :
  Fns w (.agg [.func (.func 159) #[] #[.pointer (some ⟨b5,0,none⟩)],.func (.func 160) #[] #[.pointer (some ⟨b2,0,none⟩)],.func (.func 161) #[] #[.pointer (some ⟨b3,0,none⟩)],.func (.func 162) #[] #[.pointer (some ⟨b2,0,none⟩),.pointer (some ⟨b3,0,none⟩)]].toArray) (Vz a l):=by
 refine⟨fun m=>match m with
  | 0=>.func (.func 159) #[] #[.pointer (some ⟨b5,0,none⟩)]
  | 1=>.func (.func 160) #[] #[.pointer (some ⟨b2,0,none⟩)]
  | 2=>.func (.func 161) #[] #[.pointer (some ⟨b3,0,none⟩)]
  | _=>.func (.func 162) #[] #[.pointer (some ⟨b2,0,none⟩),.pointer (some ⟨b3,0,none⟩)],rfl,fun m hm=>?_⟩
 rcases (by omega:m=0\/m=1\/m=2\/m=3) with rfl|rfl|rfl|rfl
 ·exact⟨_,[_],rfl,fun _ _=>by kernel_rfl,fun w' k i j hi hj=>aGc i j _ b5 w' (h5.all k id)⟩
 ·exact⟨_,[_],rfl,fun _ _=>by kernel_rfl,fun w' k i j hi hj=>aFV i j a b2 w' hj (h2.all k id)⟩
 ·exact⟨_,[_],rfl,fun _ _=>by kernel_rfl,fun w' k i j hi hj=>aFS i j l b3 w' hi (h3.all k id)⟩
 ·exact⟨_,[_,_],rfl,fun _ _=>by kernel_rfl,fun w' k i j hi hj=>aF8 i j a l b2 b3 w' hi hj ha hl (h2.all k id) (h3.all k id)⟩
theorem Ws(a l:Nat->Int)(w0:World)(ha:∀ i,0<=a i/\a i<=255)(hl:∀ i,0<=l i/\l i<=255) :
  Calls Tryz.prog 141 #[.agg (Mp 4 (a)).toArray,.agg (Mp 4 (l)).toArray] w0 fun e w'=>∃ (v1:Value),e = .returned v1/\KR (fun _=>False) w0 w'/\(Pd.fns (Vz a l)).says v1 w':=by
 refine Ly (args:=[.agg (Mp 4 a).toArray,.agg (Mp 4 l).toArray]) 18 Tryz.func141 rfl rfl (Nat.le_of_ble_eq_true rfl) ?_
 refine KM (KL (TN rfl rfl rfl rfl fun p1 w2 e5 B3 k4=>?_))
 have g6:=L7 (Nat.le_of_eq e5.symm)
 clear e5 g6
 refine TN rfl rfl rfl rfl fun p9 bt aq ar au=>?_
 have aP:=L7 (Nat.le_of_eq aq.symm)
 clear aq aP
 have av:=B3.all au id
 have aw:=((KR.refl (fun _=>False) w0).tr k4).tr au
 refine LN (n:=4) (vs:=[Value.nilFunc,Value.nilFunc,Value.nilFunc,Value.nilFunc]) rfl rfl rfl (by kernel_rfl) fun az aQ aA aB aC=>?_
 obtain⟨aR,aS⟩:=UJ aB av ar
 obtain⟨ak,am⟩:=Oe aC av ar
 have aD:=aw.tr aC
 refine KQ ?_
 have aT:=K4 (undef)
 have aE:=K4 (pt p1 0)
 have aF:=K4 (pt p9 0)
 have aU:=K4 (pt az 0)
 refine KK (KM ?_)
 have h1:=Wj ha 4
 have h2:=Wj hl 4
 refine NJ 8 [some 6,some 7,some 8,some 9,some 10,some 11,some 12,some 5] [Pd.eq (.agg (Mp 4 a).toArray),Pd.eq (iv (NK a 4)),Pd.eq (.agg (Mp 4 l).toArray),Pd.eq (iv (NK l 4)),Pd.eq (iv ((NK a 4)+(NK l 4))),Pd.eq (iv (((NK a 4)+(NK l 4))+4)),Pd.eq (iv (Int.tdiv (NK a 4+NK l 4+4) 8)),Pd.cel aQ.heap.size 3 (iv 0)] (by kernel_rfl) (by kernel_rfl) (by kernel_rfl) ?_ ?_
 ·refine KP ?_ ?_
  ·refine Ld.one rfl fun F_ w_ hR hout hD=>?_
   exact(So Nw rfl ((hout 2 rfl (by decide)).trans aE) (ak.all hR id) ⟨rfl,KR.refl _ _⟩)
  refine KP ?_ ?_
  ·refine Ld.one rfl fun F_ w_ hR hout hD=>?_
   have g6:F_ 6 = .agg (Mp 4 a).toArray:=(hD.get 0 rfl rfl rfl)
   exact(LQ rfl rfl rfl (fun _ _=>by kernel_rfl) (K6 _) (Lo g6 L5) (Zx a  _ ha  ) (fun e_ w_ h_=>⟨_,h_.1,rfl,h_.2⟩))
  refine KP ?_ ?_
  ·refine Ld.one rfl fun F_ w_ hR hout hD=>?_
   exact(So Nw rfl ((hout 3 rfl (by decide)).trans aF) (am.all hR id) ⟨rfl,KR.refl _ _⟩)
  refine KP ?_ ?_
  ·refine Ld.one rfl fun F_ w_ hR hout hD=>?_
   have g8:F_ 8 = .agg (Mp 4 l).toArray:=(hD.get 0 rfl rfl rfl)
   exact(LQ rfl rfl rfl (fun _ _=>by kernel_rfl) (K6 _) (Lo g8 L5) (Zx l  _ hl  ) (fun e_ w_ h_=>⟨_,h_.1,rfl,h_.2⟩))
  refine KP ?_ ?_
  ·refine Ld.one rfl fun F_ w_ hR hout hD=>?_
   have g7:F_ 7=iv (NK a 4):=(hD.get 0 rfl rfl rfl)
   have g9:F_ 9=iv (NK l 4):=(hD.get 1 rfl rfl rfl)
   exact(LS rfl g7 g9 (Mn rfl (by omega)) ⟨rfl,KR.refl _ _⟩)
  refine KP ?_ ?_
  ·refine Ld.one rfl fun F_ w_ hR hout hD=>?_
   have aY:F_ 10=iv ((NK a 4)+(NK l 4)):=(hD.get 0 rfl rfl rfl)
   exact(LS rfl aY rfl (Mn rfl (by omega)) ⟨rfl,KR.refl _ _⟩)
  refine KP ?_ ?_
  ·refine Ld.one rfl fun F_ w_ hR hout hD=>?_
   have aZ:F_ 11=iv (((NK a 4)+(NK l 4))+4):=(hD.get 0 rfl rfl rfl)
   exact(O8 rfl aZ rfl (by first|decide|omega) (Mn rfl (by rw[aFQ (by omega)];omega)) ⟨rfl,KR.refl _ _⟩)
  refine KP ?_ ?_
  ·refine Ld.one rfl fun F_ w_ hR hout hD=>?_
   exact Zy (v:=iv 0) rfl (by kernel_rfl) rfl ⟨⟨_,rfl,hR.size,heap_alloc_new _ _⟩,(KR.refl _ _).alloc _⟩
  exact Mj
 intro bu aG a8 aH an ae
 obtain⟨a9,ba,bb⟩:=Od aH ak am aA
 obtain⟨bc,aI,aJ,aK⟩:=t4 ae 18 aT 2 aE 3 aF 4 aU
 obtain⟨ac,bd,af,ao⟩:=an 7 (by decide)
 replace ao:Qx a8 ac 3 (iv 0):=ao
 have be:=KO.new (L7 af) (L8 ak.lt)
 have bf:=KO.new (L7 af) (L8 am.lt)
 have aL:=KO.new (L7 af) (L8 aA.lt)
 have aM:aG 5=pt ac 0:=(ae 5).trans bd
 have bg:aG 12=iv (Int.tdiv (NK a 4+NK l 4+4) 8):=(ae 12).trans (an 6 (by decide))
 clear an ae
 refine Ml rfl rfl rfl aM bg ao (by rfl) (by kernel_rfl) fun bz bh ah=>?_
 have bi:=a9.all ah (be.symm p1 rfl)
 have bj:=ba.all ah (bf.symm p9 rfl)
 have bl:=bb.all ah (aL.symm az rfl)
 refine KQ ?_
 refine KK (KM (KL (KN (.func (.func 159) #[] #[pt ac 0]) rr (Xt rfl (Lo aM L5) rr) (KN (.func (.func 160) #[] #[pt p1 0]) rr (Xt rfl (Lo aI L5) rr) (KN (.func (.func 161) #[] #[pt p9 0]) rr (Xt rfl (Lo aJ L5) rr) (KN (.func (.func 162) #[] #[pt p1 0,pt p9 0]) rr (Xt rfl (Lo aI (Lo aJ L5)) rr) (KN (.agg #[.func (.func 159) #[] #[pt ac 0],.func (.func 160) #[] #[pt p1 0],.func (.func 161) #[] #[pt p9 0],.func (.func 162) #[] #[pt p1 0,pt p9 0]]) rr (Ma (l':=[(0,.func (.func 159) #[] #[pt ac 0]),(1,.func (.func 160) #[] #[pt p1 0]),(2,.func (.func 161) #[] #[pt p9 0]),(3,.func (.func 162) #[] #[pt p1 0,pt p9 0])]) (cells:=#[.func (.func 159) #[] #[pt ac 0],.func (.func 160) #[] #[pt p1 0],.func (.func 161) #[] #[pt p9 0],.func (.func 162) #[] #[pt p1 0,pt p9 0]]) rfl (RW rfl (RW rfl (RW rfl (RW rfl Rj)))) (by kernel_rfl) rfl rr) (Ll (us:=[.func (.func 159) #[] #[pt ac 0],.func (.func 160) #[] #[pt p1 0],.func (.func 161) #[] #[pt p9 0],.func (.func 162) #[] #[pt p1 0,pt p9 0]]) Zk rfl rfl rfl aK rfl bl rfl (aEt Lw (L4 rfl MX)) fun bA bm ai=>?_))))))))
 have bn:=bi.all ai (aR.symm p1 rfl)
 have bo:=bj.all ai (aS.symm p9 rfl)
 have bp:=bh.all ai (aL ac rfl)
 refine KQ ?_
 refine KK (Le ?_)
 exact Po (vs:=[.func (.func 159) #[] #[pt ac 0],.func (.func 160) #[] #[pt p1 0],.func (.func 161) #[] #[pt p9 0],.func (.func 162) #[] #[pt p1 0,pt p9 0]]) Zk bc rfl rfl aK bm ⟨_,rfl,(((aD.tr aH).trans ah (KS.ok (S:=fun _=>False) (KS.new aD (L7 af)) KZ)).trans ai (KS.ok (S:=fun _=>False) (KS.new aw aB) KZ)),aFs ha hl bn bo bp⟩
theorem aAS(fv:Value)(g:Nat->Nat->Int)(w0:World)(hg:ZE w0 4 fv g) :
  Calls Tryz.prog 140 #[fv] w0 fun e w'=>e = .returned (LW (fun n=>g (n/4) (n%4)))/\KR (fun _=>False) w0 w':=by
 refine Ly (args:=[fv]) 18 Tryz.func140 rfl rfl (Nat.le_of_ble_eq_true rfl) ?_
 have K0:=KR.refl (fun _=>False) w0
 refine KM (KL (Mf rfl rfl rfl KW.2.2 fun p1 w2 e5 B3 k4=>?_))
 have K8:=K0.tr k4
 refine KQ ?_
 have aE:=K4 (fv)
 have aF:=K4 (undef)
 have aG:=K4 (pt p1 0)
 refine KK (KM (KL (Mf rfl rfl rfl KW.2.2 fun aa aX ao aH ap=>?_)))
 have aq:=L7 (Nat.le_of_eq ao.symm)
 have aI:=KO.new aq (L8 B3.lt)
 clear ao
 have aJ:=B3.all ap id
 refine KQ ?_
 have aK:=K4 (pt aa 0)
 refine KK (KM (KM (KL (KN (iv 0) rr (KT rfl rfl rr) (KQ ?_)))))
 have aL:=K4 (iv 0)
 refine KK (Lm (M8 (fun nn FF ww=>∃ (n:Nat),(n<=16)/\nn=16-n/\FF 0=fv/\FF 2=pt p1 0/\FF 3=pt aa 0/\FF 18=undef/\FF 5=iv ((n:Nat):Int)/\KR (fun _=>False) w0 ww/\Of ww p1 69 (fun _=>0)/\Of ww aa 69 (upto n (fun _=>0) (fun n=>g (n/4) (n%4)))) (16-0) ⟨0,by omega,rfl,aE,aG,aK,aF,aL,(K8.tr ap),aJ,aH.first⟩ ?_))
 rintro aY aZ ar ⟨n,i41,hn40,au,ae,af,av,ah,ai,aw,az⟩
 refine KM (KL (KN (.bool (decide (((n:Nat):Int)<16))) rr (Mc rfl ah rfl rfl rr) (KQ ?_)))
 have aM:=K4 (.bool (decide (((n:Nat):Int)<16)))
 refine KK (KM ?_)
 refine K5 aM (fun ab=>?_) (fun ab=>?_)
 ·replace ab:=of_decide_eq_true ab
  refine Lf (KK (KM (Lm (KM (KL (K2 Lw ah (Lb (iv ((n:Nat):Int)) LE (KQ ?_))))))))
  have aj:=K4 (iv ((n:Nat):Int))
  refine KK (KL (K2 Lw aj (K2 Lw au (K2 Lw aj (KN (iv (((n/4):Nat):Int)) rr (O8 rfl rfl rfl (by first|decide|omega) (LX (Pl n 4) (by omega)) rr) (K2 Lw aj (KN (iv (((n%4):Nat):Int)) rr (Rh rfl rfl rfl (by first|decide|omega) (Pn n 4) rr) (LH (R:=fun v_ w_=>v_=iv (g (n/4) (n%4))/\KR (fun _=>False) ar w_) rfl rfl (aE6 rfl rfl rfl rfl rfl rfl (hg.all ai) (by omega) (by omega) (fun e_ w_ h_=>⟨_,h_.1,rfl,h_.2⟩)) ?_))))))))
  rintro _ a8 ⟨rfl,aA⟩
  obtain⟨aN,aO⟩:=Oe aA aw az
  refine KN (.pointer (some ⟨aa,n,none⟩)) rr (L3 n (s:=1) rfl af rfl (by omega) Tryz.underlying69 (by omega) (by kernel_rfl) (by omega) rr) (Oh rfl rfl rfl rfl rfl aO (by omega) (by kernel_rfl) fun a9 aP aB=>?_)
  have aQ:=aN.all aB (aI.symm p1 rfl)
  refine KQ ?_
  refine Lz (KK (KL (KN (iv ((n+1:Nat):Int)) rr (LS rfl ah rfl (LX (by omega) (by omega)) rr) (KN (iv ((n+1:Nat):Int)) rr (KT rfl rfl rr) (KQ ?_)))))
  have aR:=K4 (iv ((n+1:Nat):Int))
  exact KK ⟨(16-(n+1)),by omega,n+1,by omega,rfl,au,ae,af,av,aR,((ai.tr aA).trans aB (KS.ok (S:=fun _=>False) (KS.new K8 aq) KZ)),aQ,(aP.next rfl)⟩
 ·replace ab:=of_decide_eq_false ab
  refine Mm (Lp (Lp ?_))
  have aS:16=n:=by omega
  subst aS
  have aT:Of ar aa 69 (fun n=>g (n/4) (n%4)):=(az.last)
  refine Mk (KK (KM (KL (KN (LW (fun n=>g (n/4) (n%4))) rr (Me KW rfl af aT rr) (Lu KW rfl rfl rfl ae rfl aw fun ba aU aV=>?_)))))
  refine KQ ?_
  refine KK (Le ?_)
  exact Rm KW av rfl rfl ae aU ⟨rfl,(ai.trans aV (KS.ok (S:=fun _=>False) (KS.new K0 (L7 (Nat.le_of_eq e5.symm))) KZ))⟩
theorem aCR{f:FD}{p x y mode:Int}(hm:0<=mode/\mode<=3):(fun n=>Vz (fun k=>Oy f p x y ((k:Nat):Int)) (fun k=>PE f p x y ((k:Nat):Int)) mode.toNat (n/4) (n%4))=ZX f p x y mode:=by
 funext n
 rcases (by omega:mode=0\/mode=1\/mode=2\/mode=3) with rfl|rfl|rfl|rfl
 ·show Int.tdiv _ 8=Int.tdiv _ 8
  congr 1
  simp only[NK,aDo];omega
 ·rfl
 ·rfl
 ·rfl
theorem azr(p x y mode:Int)(f:FD)(f0 f1 f2:Value)(T_f0:Nat->Prop)(T_f1:Nat->Prop)(T_f2:Nat->Prop)(w0:World)(h_f0:Mv w0 T_f0 f0 ((f).p0))(h_f1:Mv w0 T_f1 f1 ((f).p1))(h_f2:Mv w0 T_f2 f2 ((f).p2)) :
  Calls Tryz.prog 112 #[.agg #[.int .i64 ((f).W),.int .i64 ((f).H),f0,f1,f2],.int .i64 (p),.int .i64 (x),.int .i64 (y),.int .i64 (mode)] w0 fun e w'=>e = .returned (.tuple #[LW (Wc f p x y mode),.int .i64 (Sr f p x y mode)])/\KR (fun _=>False) w0 w':=by
 refine Ly (args:=[.agg #[iv (f.W),iv (f.H),f0,f1,f2],iv p,iv x,iv y,iv mode]) 55 Tryz.func112 rfl rfl (Nat.le_of_ble_eq_true rfl) ?_
 have hb:PY f:=⟨h_f0.lt256,h_f1.lt256,h_f2.lt256⟩
 have g_f0:=KS.refl w0 T_f0
 have g_f1:=KS.refl w0 T_f1
 have g_f2:=KS.refl w0 T_f2
 refine KM (KL (LJ (vs:=[iv (f.W),iv (f.H),f0,f1,f2]) rfl rfl rfl rfl fun p1 w2 B4 g5 k3=>?_))
 obtain⟨bc,bd,be⟩:=Od k3 h_f0 h_f1 h_f2
 have aE:=(KR.refl (fun _=>False) w0).tr k3
 refine Mf rfl rfl rfl KW.2.2 fun bf cO aF am aG=>?_
 have aH:=L7 (Nat.le_of_eq aF.symm)
 have ac:=KS.new aE aH
 clear aF aH
 obtain⟨ah,ai,aj,ak⟩:=Pg aG bc bd be B4
 have an:=aE.tr aG
 refine Lb (iv 0) LE (KQ ?_)
 have ab:=K4 (iv p)
 have ap:=K4 (iv x)
 have au:=K4 (iv y)
 have av:=K4 (iv mode)
 have ae:=K4 (undef)
 have af:=K4 (pt p1 0)
 have aa:=K4 (pt bf 0)
 refine KK (KM (KM ?_))
 by_cases ao:(NU f)≠0
 ·skip
  refine KL (KN (.agg #[iv (f.W),iv (f.H),f0,f1,f2]) rr (KX La rfl af ak rr) (L9 rfl rfl rfl rfl rfl (fun _ _=>by kernel_rfl) (Lo rfl L5) (NG f f0 f1 f2 T_f0 T_f1 T_f2 _  ah ai aj ) fun cP aI=>?_))
  have bg:=am.all aI id
  refine KN (.bool true) rr (Mw rfl rfl rfl (decide_eq_true ao) rr) (KN (.bool true) rr (KT rfl rfl rr) (Lq 3 false 15 Li (Lq 3 false 15 Li (KN (.bool true) rr (LB rfl rfl rfl rr) (KN (.bool true) rr (KT rfl rfl rr) (Lq 7 false 19 Li (Lq 7 false 19 Li (KN (.bool true) rr (LB rfl rfl rfl rr) (KN (.bool true) rr (KT rfl rfl rr) (Lq 11 false 23 Li (Lq 11 false 23 Li ?_)))))))))))
  refine Lq 11 false 23 Li (KN (.bool true) rr (LB rfl rfl rfl rr) (KN (.bool true) rr (KT rfl rfl rr) (Lq 16 false 28 Li (Lq 16 false 28 Li (Lq 16 false 28 Li (KN (.bool true) rr (LB rfl rfl rfl rr) (KQ ?_)))))))
  have bh:=K4 (.bool true)
  refine KK ?_
  refine K5 (t:=true) bh (fun _=>?_) (fun e=>by cases e)
  refine KM ?_
  have hno:¬ Ni f p x y:=by rintro ⟨h1,h2,h3,h4,h5,h6,h7⟩;first|exact absurd ((MP f).2 h1) (by assumption)|omega
  refine KL (KN (LW (fun _=>0)) rr (MQ (cells:=(Mp 16 (fun _=>0)).toArray) rfl (by kernel_rfl) rfl rr) (Lu KW rfl rfl rfl aa rfl bg fun cQ bi bj=>?_))
  refine Lb (iv 70) LE (KQ ?_)
  have bl:=K4 (iv 70)
  refine KK (Le (Lx ?_))
  exact Mo ae rfl (MH KW rfl aa bi) (LF (v:=iv 70) rfl bl) ⟨(by first|rw[(Oj hno).1,(Oj hno).2]|rw[(Nt hpl hm).1,(Nt hpl hm).2]|rw[(NP hpl hm).1,(NP hpl hm).2]),((an.tr aI).trans bj (KS.ok (S:=fun _=>False) ac KZ))⟩
 ·skip
  by_cases aq:p<0
  ·skip
   refine KL (KN (.agg #[iv (f.W),iv (f.H),f0,f1,f2]) rr (KX La rfl af ak rr) (L9 rfl rfl rfl rfl rfl (fun _ _=>by kernel_rfl) (Lo rfl L5) (NG f f0 f1 f2 T_f0 T_f1 T_f2 _  ah ai aj ) fun cR aJ=>?_))
   have bm:=am.all aJ id
   refine KN (.bool false) rr (Mw rfl rfl rfl (decide_eq_false ao) rr) (KN (.bool false) rr (KT rfl rfl rr) (Lj (iv p) 3 false 15 Li (KT rfl ab rr) (Lj (.bool true) 3 false 15 Li (Mc rfl rfl rfl (decide_eq_true aq) rr) (KN (.bool true) rr (Lt rfl rfl rfl rr) (KN (.bool true) rr (KT rfl rfl rr) (Lq 7 false 19 Li (Lq 7 false 19 Li (KN (.bool true) rr (LB rfl rfl rfl rr) (KN (.bool true) rr (KT rfl rfl rr) (Lq 11 false 23 Li (Lq 11 false 23 Li ?_)))))))))))
   refine Lq 11 false 23 Li (KN (.bool true) rr (LB rfl rfl rfl rr) (KN (.bool true) rr (KT rfl rfl rr) (Lq 16 false 28 Li (Lq 16 false 28 Li (Lq 16 false 28 Li (KN (.bool true) rr (LB rfl rfl rfl rr) (KQ ?_)))))))
   have bn:=K4 (.bool true)
   refine KK ?_
   refine K5 (t:=true) bn (fun _=>?_) (fun e=>by cases e)
   refine KM ?_
   have hno:¬ Ni f p x y:=by rintro ⟨h1,h2,h3,h4,h5,h6,h7⟩;first|exact absurd ((MP f).2 h1) (by assumption)|omega
   refine KL (KN (LW (fun _=>0)) rr (MQ (cells:=(Mp 16 (fun _=>0)).toArray) rfl (by kernel_rfl) rfl rr) (Lu KW rfl rfl rfl aa rfl bm fun cS bo bp=>?_))
   refine Lb (iv 70) LE (KQ ?_)
   have bq:=K4 (iv 70)
   refine KK (Le (Lx ?_))
   exact Mo ae rfl (MH KW rfl aa bo) (LF (v:=iv 70) rfl bq) ⟨(by first|rw[(Oj hno).1,(Oj hno).2]|rw[(Nt hpl hm).1,(Nt hpl hm).2]|rw[(NP hpl hm).1,(NP hpl hm).2]),((an.tr aJ).trans bp (KS.ok (S:=fun _=>False) ac KZ))⟩
  ·skip
   by_cases aw:3<=p
   ·skip
    refine KL (KN (.agg #[iv (f.W),iv (f.H),f0,f1,f2]) rr (KX La rfl af ak rr) (L9 rfl rfl rfl rfl rfl (fun _ _=>by kernel_rfl) (Lo rfl L5) (NG f f0 f1 f2 T_f0 T_f1 T_f2 _  ah ai aj ) fun cT aK=>?_))
    have bt:=am.all aK id
    refine KN (.bool false) rr (Mw rfl rfl rfl (decide_eq_false ao) rr) (KN (.bool false) rr (KT rfl rfl rr) (Lj (iv p) 3 false 15 Li (KT rfl ab rr) (Lj (.bool false) 3 false 15 Li (Mc rfl rfl rfl (decide_eq_false aq) rr) (KN (.bool false) rr (Lt rfl rfl rfl rr) (KN (.bool false) rr (KT rfl rfl rr) (Lj (iv p) 7 false 19 Li (KT rfl ab rr) (Lj (.bool true) 7 false 19 Li (NO rfl rfl rfl (decide_eq_true aw) rr) (KN (.bool true) rr (Lt rfl rfl rfl rr) (KN (.bool true) rr (KT rfl rfl rr) (Lq 11 false 23 Li (Lq 11 false 23 Li ?_)))))))))))
    refine Lq 11 false 23 Li (KN (.bool true) rr (LB rfl rfl rfl rr) (KN (.bool true) rr (KT rfl rfl rr) (Lq 16 false 28 Li (Lq 16 false 28 Li (Lq 16 false 28 Li (KN (.bool true) rr (LB rfl rfl rfl rr) (KQ ?_)))))))
    have bu:=K4 (.bool true)
    refine KK ?_
    refine K5 (t:=true) bu (fun _=>?_) (fun e=>by cases e)
    refine KM ?_
    have hno:¬ Ni f p x y:=by rintro ⟨h1,h2,h3,h4,h5,h6,h7⟩;first|exact absurd ((MP f).2 h1) (by assumption)|omega
    refine KL (KN (LW (fun _=>0)) rr (MQ (cells:=(Mp 16 (fun _=>0)).toArray) rfl (by kernel_rfl) rfl rr) (Lu KW rfl rfl rfl aa rfl bt fun cU bv bz=>?_))
    refine Lb (iv 70) LE (KQ ?_)
    have bA:=K4 (iv 70)
    refine KK (Le (Lx ?_))
    exact Mo ae rfl (MH KW rfl aa bv) (LF (v:=iv 70) rfl bA) ⟨(by first|rw[(Oj hno).1,(Oj hno).2]|rw[(Nt hpl hm).1,(Nt hpl hm).2]|rw[(NP hpl hm).1,(NP hpl hm).2]),((an.tr aK).trans bz (KS.ok (S:=fun _=>False) ac KZ))⟩
   ·skip
    by_cases az:0<=x/\x<=64
    ·skip
     by_cases aL:0<=y/\y<=64
     ·skip
      refine KL (KN (.agg #[iv (f.W),iv (f.H),f0,f1,f2]) rr (KX La rfl af ak rr) (L9 rfl rfl rfl rfl rfl (fun _ _=>by kernel_rfl) (Lo rfl L5) (NG f f0 f1 f2 T_f0 T_f1 T_f2 _  ah ai aj ) fun bB aM=>?_))
      obtain⟨bC,bD,bE,bF,bG⟩:=O6 aM ah ai aj ak am
      refine KN (.bool false) rr (Mw rfl rfl rfl (decide_eq_false ao) rr) (KN (.bool false) rr (KT rfl rfl rr) (Lj (iv p) 3 false 15 Li (KT rfl ab rr) (Lj (.bool false) 3 false 15 Li (Mc rfl rfl rfl (decide_eq_false aq) rr) (KN (.bool false) rr (Lt rfl rfl rfl rr) (KN (.bool false) rr (KT rfl rfl rr) (Lj (iv p) 7 false 19 Li (KT rfl ab rr) (Lj (.bool false) 7 false 19 Li (NO rfl rfl rfl (decide_eq_false aw) rr) (KN (.bool false) rr (Lt rfl rfl rfl rr) (KN (.bool false) rr (KT rfl rfl rr) (Lj (iv x) 11 false 23 Li (KT rfl ap rr) (LZ (R:=fun v_ w_=>v_ = .bool true/\KR (fun _=>False) bB w_) 11 false 23 rfl rfl rfl rfl rfl (LQ rfl rfl rfl (fun _ _=>by kernel_rfl) (K6 _) (Lo rfl L5) (S6 x  _   ) (fun e_ w_ h_=>⟨_,h_.1,(congrArg Value.bool (decide_eq_true az)),h_.2⟩)) ?_)))))))))))
      rintro _ bH ⟨rfl,aN⟩
      obtain⟨bI,bJ,bK,bL,bM⟩:=O6 aN bC bD bE bF bG
      refine Lj (.bool false) 11 false 23 Li (Mq rfl rfl rfl rr) (KN (.bool false) rr (Lt rfl rfl rfl rr) (KN (.bool false) rr (KT rfl rfl rr) (Lj (iv y) 16 false 28 Li (KT rfl au rr) (LZ (R:=fun v_ w_=>v_ = .bool true/\KR (fun _=>False) bH w_) 16 false 28 rfl rfl rfl rfl rfl (LQ rfl rfl rfl (fun _ _=>by kernel_rfl) (K6 _) (Lo rfl L5) (S6 y  _   ) (fun e_ w_ h_=>⟨_,h_.1,(congrArg Value.bool (decide_eq_true aL)),h_.2⟩)) ?_))))
      rintro _ cV ⟨rfl,aO⟩
      obtain⟨aP,aQ,aR,aS,aA⟩:=O6 aO bI bJ bK bL bM
      have aB:=((an.tr aM).tr aN).tr aO
      refine Lj (.bool false) 16 false 28 Li (Mq rfl rfl rfl rr) (KN (.bool false) rr (Lt rfl rfl rfl rr) (KQ ?_))
      have bN:=K4 (.bool false)
      refine KK ?_
      refine K5 (t:=false) bN (fun e=>by cases e) (fun _=>?_)
      refine Lf (KK (KM (KM ?_)))
      have hpl:Ni f p x y:=⟨(MP f).1 (by first|assumption|(apply Decidable.byContradiction;assumption)),by omega,by omega,by omega,by omega,by omega,by omega⟩
      by_cases aT:mode<0
      ·skip
       refine KL (K2 Lw av (KN (.bool true) rr (Mc rfl rfl rfl (decide_eq_true aT) rr) (KN (.bool true) rr (KT rfl rfl rr) (Lq 2 false 36 Li (Lq 2 false 36 Li (KN (.bool true) rr (LB rfl rfl rfl rr) (KQ ?_)))))))
       have bO:=K4 (.bool true)
       refine KK ?_
       refine K5 (t:=true) bO (fun _=>?_) (fun e=>by cases e)
       refine KM ?_
       have hm:¬ (0<=mode/\mode<=3):=by omega
       refine KL (KN (LW (fun _=>0)) rr (MQ (cells:=(Mp 16 (fun _=>0)).toArray) rfl (by kernel_rfl) rfl rr) (Lu KW rfl rfl rfl aa rfl aA fun cW bP bQ=>?_))
       refine Lb (iv 80) LE (KQ ?_)
       have bR:=K4 (iv 80)
       refine KK (Le (Lx ?_))
       exact Mo ae rfl (MH KW rfl aa bP) (LF (v:=iv 80) rfl bR) ⟨(by first|rw[(Oj hno).1,(Oj hno).2]|rw[(Nt hpl hm).1,(Nt hpl hm).2]|rw[(NP hpl hm).1,(NP hpl hm).2]),(aB.trans bQ (KS.ok (S:=fun _=>False) ac KZ))⟩
      ·skip
       refine KL (K2 Lw av (KN (.bool false) rr (Mc rfl rfl rfl (decide_eq_false aT) rr) (KN (.bool false) rr (KT rfl rfl rr) (Lj (iv mode) 2 false 36 Li (KT rfl av rr) (Lj (.bool (decide (4<=mode))) 2 false 36 Li (NO rfl rfl rfl rfl rr) (KN (.bool (decide (4<=mode))) rr (Lt rfl rfl rfl rr) (KQ ?_)))))))
       have bS:=K4 (.bool (decide (4<=mode)))
       refine KK ?_
       refine K5 bS (fun ar=>?_) (fun ar=>?_)
       ·replace ar:=of_decide_eq_true ar
        refine KM ?_
        have hm:¬ (0<=mode/\mode<=3):=by omega
        refine KL (KN (LW (fun _=>0)) rr (MQ (cells:=(Mp 16 (fun _=>0)).toArray) rfl (by kernel_rfl) rfl rr) (Lu KW rfl rfl rfl aa rfl aA fun cX bT bU=>?_))
        refine Lb (iv 80) LE (KQ ?_)
        have bV:=K4 (iv 80)
        refine KK (Le (Lx ?_))
        exact Mo ae rfl (MH KW rfl aa bT) (LF (v:=iv 80) rfl bV) ⟨(by first|rw[(Oj hno).1,(Oj hno).2]|rw[(Nt hpl hm).1,(Nt hpl hm).2]|rw[(NP hpl hm).1,(NP hpl hm).2]),(aB.trans bU (KS.ok (S:=fun _=>False) ac KZ))⟩
       ·replace ar:=of_decide_eq_false ar
        refine Lf (KK (KM ?_))
        have hm:0<=mode/\mode<=3:=by omega
        refine NJ 14 [some 41,some 42,some 43,some 44,some 45,some 46,some 47,some 48,some 49,some 50,some 51,some 52,some 53,some 54] [Pd.eq (.agg #[iv (f.W),iv (f.H),f0,f1,f2]),Pd.eq (iv p),Pd.eq (iv x),Pd.eq (iv y),Pd.eq (.agg (Mp 4 (fun k=>Oy f p x y ((k:Nat):Int))).toArray),Pd.eq (.agg #[iv (f.W),iv (f.H),f0,f1,f2]),Pd.eq (iv p),Pd.eq (iv x),Pd.eq (iv y),Pd.eq (.agg (Mp 4 (fun k=>PE f p x y ((k:Nat):Int))).toArray),Pd.fns (Vz (fun k=>Oy f p x y ((k:Nat):Int)) (fun k=>PE f p x y ((k:Nat):Int))),Pd.eq (iv mode),Pd.ask2 4 (Vz (fun k=>Oy f p x y ((k:Nat):Int)) (fun k=>PE f p x y ((k:Nat):Int)) mode.toNat),Pd.eq (LW (ZX f p x y mode))] (by kernel_rfl) (by kernel_rfl) (by kernel_rfl) ?_ ?_
        ·refine KP ?_ ?_
         ·refine Ld.one rfl fun F_ w_ hR hout hD=>?_
          exact(KX La rfl ((hout 5 rfl (by decide)).trans af) (aS.all hR id) ⟨rfl,KR.refl _ _⟩)
         refine KP ?_ ?_
         ·refine Ld.one rfl fun F_ w_ hR hout hD=>?_
          exact(KT rfl ((hout 1 rfl (by decide)).trans ab) ⟨rfl,KR.refl _ _⟩)
         refine KP ?_ ?_
         ·refine Ld.one rfl fun F_ w_ hR hout hD=>?_
          exact(KT rfl ((hout 2 rfl (by decide)).trans ap) ⟨rfl,KR.refl _ _⟩)
         refine KP ?_ ?_
         ·refine Ld.one rfl fun F_ w_ hR hout hD=>?_
          exact(KT rfl ((hout 3 rfl (by decide)).trans au) ⟨rfl,KR.refl _ _⟩)
         refine KP ?_ ?_
         ·refine Ld.one rfl fun F_ w_ hR hout hD=>?_
          have bW:F_ 41 = .agg #[iv (f.W),iv (f.H),f0,f1,f2]:=(hD.get 0 rfl rfl rfl)
          have bX:F_ 42=iv p:=(hD.get 1 rfl rfl rfl)
          have bY:F_ 43=iv x:=(hD.get 2 rfl rfl rfl)
          have bZ:F_ 44=iv y:=(hD.get 3 rfl rfl rfl)
          exact(LQ rfl rfl rfl (fun _ _=>by kernel_rfl) (K6 _) (Lo bW (Lo bX (Lo bY (Lo bZ L5)))) (aCF p x y f f0 f1 f2 T_f0 T_f1 T_f2 _ (by omega) (by omega) (aP.all hR KO.none) (aQ.all hR KO.none) (aR.all hR KO.none) ) (fun e_ w_ h_=>⟨_,h_.1,rfl,h_.2⟩))
         refine KP ?_ ?_
         ·refine Ld.one rfl fun F_ w_ hR hout hD=>?_
          exact(KX La rfl ((hout 5 rfl (by decide)).trans af) (aS.all hR id) ⟨rfl,KR.refl _ _⟩)
         refine KP ?_ ?_
         ·refine Ld.one rfl fun F_ w_ hR hout hD=>?_
          exact(KT rfl ((hout 1 rfl (by decide)).trans ab) ⟨rfl,KR.refl _ _⟩)
         refine KP ?_ ?_
         ·refine Ld.one rfl fun F_ w_ hR hout hD=>?_
          exact(KT rfl ((hout 2 rfl (by decide)).trans ap) ⟨rfl,KR.refl _ _⟩)
         refine KP ?_ ?_
         ·refine Ld.one rfl fun F_ w_ hR hout hD=>?_
          exact(KT rfl ((hout 3 rfl (by decide)).trans au) ⟨rfl,KR.refl _ _⟩)
         refine KP ?_ ?_
         ·refine Ld.one rfl fun F_ w_ hR hout hD=>?_
          have b7:F_ 46 = .agg #[iv (f.W),iv (f.H),f0,f1,f2]:=(hD.get 0 rfl rfl rfl)
          have b8:F_ 47=iv p:=(hD.get 1 rfl rfl rfl)
          have b9:F_ 48=iv x:=(hD.get 2 rfl rfl rfl)
          have cd:F_ 49=iv y:=(hD.get 3 rfl rfl rfl)
          exact(LQ rfl rfl rfl (fun _ _=>by kernel_rfl) (K6 _) (Lo b7 (Lo b8 (Lo b9 (Lo cd L5)))) (aDM p x y f f0 f1 f2 T_f0 T_f1 T_f2 _ (by omega) (by omega) (aP.all hR KO.none) (aQ.all hR KO.none) (aR.all hR KO.none) ) (fun e_ w_ h_=>⟨_,h_.1,rfl,h_.2⟩))
         refine KP ?_ ?_
         ·refine Ld.one rfl fun F_ w_ hR hout hD=>?_
          have ce:F_ 45 = .agg (Mp 4 (fun k=>Oy f p x y ((k:Nat):Int))).toArray:=(hD.get 0 rfl rfl rfl)
          have cf:F_ 50 = .agg (Mp 4 (fun k=>PE f p x y ((k:Nat):Int))).toArray:=(hD.get 1 rfl rfl rfl)
          exact(LQ rfl rfl rfl (fun _ _=>by kernel_rfl) (K6 _) (Lo ce (Lo cf L5)) (Ws (fun k=>Oy f p x y ((k:Nat):Int)) (fun k=>PE f p x y ((k:Nat):Int))  _ (fun i=>aCO hb p x y _) (fun i=>aD8 hb p x y _)  ) (fun e_ w_ h_=>by obtain⟨v_,he_,k_,hb_⟩:=h_;exact⟨v_,he_,hb_,k_⟩))
         refine KP ?_ ?_
         ·refine Ld.one rfl fun F_ w_ hR hout hD=>?_
          exact(KT rfl ((hout 4 rfl (by decide)).trans av) ⟨rfl,KR.refl _ _⟩)
         refine KP ?_ ?_
         ·refine Ld.one rfl fun F_ w_ hR hout hD=>?_
          have cg:(Pd.fns (Vz (fun k=>Oy f p x y ((k:Nat):Int)) (fun k=>PE f p x y ((k:Nat):Int)))).says (F_ 51) w_:=hD.get 0 rfl rfl rfl
          have ci:F_ 52=iv mode:=(hD.get 1 rfl rfl rfl)
          exact aGa (mode.toNat) rfl rfl cg ci (by omega) (by omega) fun c_ hc_=>⟨hc_,KR.refl _ _⟩
         refine KP ?_ ?_
         ·refine Ld.one rfl fun F_ w_ hR hout hD=>?_
          have cj:(Pd.ask2 4 (Vz (fun k=>Oy f p x y ((k:Nat):Int)) (fun k=>PE f p x y ((k:Nat):Int)) mode.toNat)).says (F_ 53) w_:=hD.get 0 rfl rfl rfl
          exact(LQ rfl rfl rfl (fun _ _=>by kernel_rfl) (K6 _) (Lo rfl L5) (aAS (F_ 53) (Vz (fun k=>Oy f p x y ((k:Nat):Int)) (fun k=>PE f p x y ((k:Nat):Int)) mode.toNat)  _ cj  ) (fun e_ w_ h_=>⟨_,h_.1,congrArg LW (aCR hm),h_.2⟩))
         exact Mj
        intro cY cm cZ aU aV aC
        have cn:=aA.all aU id
        obtain⟨co,aW⟩:=t2 aC 55 ae 10 aa
        have cq:cm 54=LW (ZX f p x y mode):=(aC 54).trans (aV 13 (by decide))
        clear aV aC
        refine Lu KW rfl rfl rfl aW cq cn fun c6 cr ct=>?_
        refine Lb (iv 0) LE (KQ ?_)
        have cu:=K4 (iv 0)
        refine KK (Le ?_)
        exact Mo co rfl (MH KW rfl aW cr) (LF (v:=iv 0) rfl cu) ⟨(by first|rw[(Oj hno).1,(Oj hno).2]|rw[(Nt hpl hm).1,(Nt hpl hm).2]|rw[(NP hpl hm).1,(NP hpl hm).2]),((aB.tr aU).trans ct (KS.ok (S:=fun _=>False) ac KZ))⟩
     ·skip
      refine KL (KN (.agg #[iv (f.W),iv (f.H),f0,f1,f2]) rr (KX La rfl af ak rr) (L9 rfl rfl rfl rfl rfl (fun _ _=>by kernel_rfl) (Lo rfl L5) (NG f f0 f1 f2 T_f0 T_f1 T_f2 _  ah ai aj ) fun cv aX=>?_))
      have cw:=am.all aX id
      refine KN (.bool false) rr (Mw rfl rfl rfl (decide_eq_false ao) rr) (KN (.bool false) rr (KT rfl rfl rr) (Lj (iv p) 3 false 15 Li (KT rfl ab rr) (Lj (.bool false) 3 false 15 Li (Mc rfl rfl rfl (decide_eq_false aq) rr) (KN (.bool false) rr (Lt rfl rfl rfl rr) (KN (.bool false) rr (KT rfl rfl rr) (Lj (iv p) 7 false 19 Li (KT rfl ab rr) (Lj (.bool false) 7 false 19 Li (NO rfl rfl rfl (decide_eq_false aw) rr) (KN (.bool false) rr (Lt rfl rfl rfl rr) (KN (.bool false) rr (KT rfl rfl rr) (Lj (iv x) 11 false 23 Li (KT rfl ap rr) (LZ (R:=fun v_ w_=>v_ = .bool true/\KR (fun _=>False) cv w_) 11 false 23 rfl rfl rfl rfl rfl (LQ rfl rfl rfl (fun _ _=>by kernel_rfl) (K6 _) (Lo rfl L5) (S6 x  _   ) (fun e_ w_ h_=>⟨_,h_.1,(congrArg Value.bool (decide_eq_true az)),h_.2⟩)) ?_)))))))))))
      rintro _ cy ⟨rfl,aY⟩
      have cz:=cw.all aY id
      refine Lj (.bool false) 11 false 23 Li (Mq rfl rfl rfl rr) (KN (.bool false) rr (Lt rfl rfl rfl rr) (KN (.bool false) rr (KT rfl rfl rr) (Lj (iv y) 16 false 28 Li (KT rfl au rr) (LZ (R:=fun v_ w_=>v_ = .bool false/\KR (fun _=>False) cy w_) 16 false 28 rfl rfl rfl rfl rfl (LQ rfl rfl rfl (fun _ _=>by kernel_rfl) (K6 _) (Lo rfl L5) (S6 y  _   ) (fun e_ w_ h_=>⟨_,h_.1,(congrArg Value.bool (decide_eq_false aL)),h_.2⟩)) ?_))))
      rintro _ c7 ⟨rfl,aZ⟩
      have cA:=cz.all aZ id
      refine Lj (.bool true) 16 false 28 Li (Mq rfl rfl rfl rr) (KN (.bool true) rr (Lt rfl rfl rfl rr) (KQ ?_))
      have cB:=K4 (.bool true)
      refine KK ?_
      refine K5 (t:=true) cB (fun _=>?_) (fun e=>by cases e)
      refine KM ?_
      have hno:¬ Ni f p x y:=by rintro ⟨h1,h2,h3,h4,h5,h6,h7⟩;first|exact absurd ((MP f).2 h1) (by assumption)|omega
      refine KL (KN (LW (fun _=>0)) rr (MQ (cells:=(Mp 16 (fun _=>0)).toArray) rfl (by kernel_rfl) rfl rr) (Lu KW rfl rfl rfl aa rfl cA fun c9 cC cD=>?_))
      refine Lb (iv 70) LE (KQ ?_)
      have cE:=K4 (iv 70)
      refine KK (Le (Lx ?_))
      exact Mo ae rfl (MH KW rfl aa cC) (LF (v:=iv 70) rfl cE) ⟨(by first|rw[(Oj hno).1,(Oj hno).2]|rw[(Nt hpl hm).1,(Nt hpl hm).2]|rw[(NP hpl hm).1,(NP hpl hm).2]),((((an.tr aX).tr aY).tr aZ).trans cD (KS.ok (S:=fun _=>False) ac KZ))⟩
    ·skip
     refine KL (KN (.agg #[iv (f.W),iv (f.H),f0,f1,f2]) rr (KX La rfl af ak rr) (L9 rfl rfl rfl rfl rfl (fun _ _=>by kernel_rfl) (Lo rfl L5) (NG f f0 f1 f2 T_f0 T_f1 T_f2 _  ah ai aj ) fun cF a8=>?_))
     have cG:=am.all a8 id
     refine KN (.bool false) rr (Mw rfl rfl rfl (decide_eq_false ao) rr) (KN (.bool false) rr (KT rfl rfl rr) (Lj (iv p) 3 false 15 Li (KT rfl ab rr) (Lj (.bool false) 3 false 15 Li (Mc rfl rfl rfl (decide_eq_false aq) rr) (KN (.bool false) rr (Lt rfl rfl rfl rr) (KN (.bool false) rr (KT rfl rfl rr) (Lj (iv p) 7 false 19 Li (KT rfl ab rr) (Lj (.bool false) 7 false 19 Li (NO rfl rfl rfl (decide_eq_false aw) rr) (KN (.bool false) rr (Lt rfl rfl rfl rr) (KN (.bool false) rr (KT rfl rfl rr) (Lj (iv x) 11 false 23 Li (KT rfl ap rr) (LZ (R:=fun v_ w_=>v_ = .bool false/\KR (fun _=>False) cF w_) 11 false 23 rfl rfl rfl rfl rfl (LQ rfl rfl rfl (fun _ _=>by kernel_rfl) (K6 _) (Lo rfl L5) (S6 x  _   ) (fun e_ w_ h_=>⟨_,h_.1,(congrArg Value.bool (decide_eq_false az)),h_.2⟩)) ?_)))))))))))
     rintro _ da ⟨rfl,a9⟩
     have cH:=cG.all a9 id
     refine Lj (.bool true) 11 false 23 Li (Mq rfl rfl rfl rr) (KN (.bool true) rr (Lt rfl rfl rfl rr) (KN (.bool true) rr (KT rfl rfl rr) (Lq 16 false 28 Li (Lq 16 false 28 Li (Lq 16 false 28 Li (KN (.bool true) rr (LB rfl rfl rfl rr) (KQ ?_)))))))
     have cI:=K4 (.bool true)
     refine KK ?_
     refine K5 (t:=true) cI (fun _=>?_) (fun e=>by cases e)
     refine KM ?_
     have hno:¬ Ni f p x y:=by rintro ⟨h1,h2,h3,h4,h5,h6,h7⟩;first|exact absurd ((MP f).2 h1) (by assumption)|omega
     refine KL (KN (LW (fun _=>0)) rr (MQ (cells:=(Mp 16 (fun _=>0)).toArray) rfl (by kernel_rfl) rfl rr) (Lu KW rfl rfl rfl aa rfl cH fun db cJ cK=>?_))
     refine Lb (iv 70) LE (KQ ?_)
     have cL:=K4 (iv 70)
     refine KK (Le (Lx ?_))
     exact Mo ae rfl (MH KW rfl aa cJ) (LF (v:=iv 70) rfl cL) ⟨(by first|rw[(Oj hno).1,(Oj hno).2]|rw[(Nt hpl hm).1,(Nt hpl hm).2]|rw[(NP hpl hm).1,(NP hpl hm).2]),(((an.tr a8).tr a9).trans cK (KS.ok (S:=fun _=>False) ac KZ))⟩
theorem azX{n:Int}(h1 : -256<=n)(h2:n<=256):Xg n=n:=by unfold Xg;omega
theorem Zw{n:Int}(h1 : -64<=n)(h2:n<=128):LU n=n:=by unfold LU;omega
theorem aEj{f:FD}{k u t a c:Int}(hu:0<=u/\u<=64)(ht:0<=t/\t<=64)(ha : -15<=a/\a<=15)(hc : -15<=c/\c<=15)(n:Nat)(hn:n<16):mvN f k u t (a*2) (c*2) n=VG f k (u+a) (t+c) n:=by
 unfold mvN aD0 VG
 rw[azX (by omega) (by omega),azX (by omega) (by omega),Zw (by omega) (by omega),Zw (by omega) (by omega),UH (by omega) (by omega)]
 congr 1 <;> omega
theorem azF{f:FD}(hb:PY f)(p x y:Int)(n:Nat):0<=VG f p x y n/\VG f p x y n<=255:=TP hb _ _ _
theorem aFy{n:Int}(h1:0<=n)(h2:n<=255):c8 n=n:=by unfold c8;omega
theorem aBj(a:Nat->Int)(i:Nat)(h:0<=a i/\a i<=255):UD a a i=a i:=by rw[Y5,aFy h.1 h.2];omega
open Go.RowKit
theorem L0:Rf Tryz.prog 67 2:=⟨_,Tryz.underlying67,rfl,by kernel_rfl⟩
def c34(n:Int):Int:=max (-34) (min n 34)
def nx(a:Int)(k:Nat):Int:=a-2+((k%5:Nat):Int)
def ny(c:Int)(k:Nat):Int:=c-2+((k/5:Nat):Int)
open Go.RowKit
inductive Pc where
  | eq (v:Value)
  | turn (j:Nat)
  | blk (t:TypeId) (zs:List Value) (k:Nat) (us:List Value)
  | told (p:Nat) (t:TypeId) (zs us:List Value)
def Pc.none:Pc:=.eq undef
def Tw:Pc->Bool
 | .blk _ _ _ _=>true
 | _=>false
def aCL(n0:Nat)(p:Pc)(L:Nat->Bool)(v:Value)(w:World):Prop:=match p with
 | .eq x=>v=x
 | .turn _=>True
 | .told _ _ _ _=>True
 | .blk t zs k us=>∃ q,v = .pointer (some ⟨q,0,none⟩)/\n0<=q/\MJ w q t (if L k=true then us else zs)
def R4(p:Nat):List Pc->Prop
 | []=>True
 | .told q _ _ _::r=>p≠q/\R4 p r
 | .eq _::r=>R4 p r
 | .turn _::r=>R4 p r
 | .blk _ _ _ _::r=>R4 p r
def Ub(S:Nat->Prop)(w0:World):List Pc->Prop
 | []=>True
 | .told p t zs _::r=>(S p/\MJ w0 p t zs/\R4 p r)/\Ub S w0 r
 | .eq _::r=>Ub S w0 r
 | .turn _::r=>Ub S w0 r
 | .blk _ _ _ _::r=>Ub S w0 r
theorem R4.at{p:Nat}:∀ {Gs:List Pc},R4 p Gs->∀ i q t zs us,Gs.getD i Pc.none = .told q t zs us->p≠q:=by
 intro Gs
 induction Gs with
 | nil=>intro _ i q t zs us h;cases h
 | cons g r ih =>
  intro h i q t zs us e
  cases i with
  | zero =>
   have e:g = .told q t zs us:=by simpa using e
   subst e;exact h.1
  | succ i =>
   have e:r.getD i Pc.none = .told q t zs us:=by simpa using e
   cases g <;> first|exact ih h.2 i q t zs us e|exact ih h i q t zs us e
theorem Ub.at{S:Nat->Prop}{w0:World}:∀ {Gs:List Pc},Ub S w0 Gs->∀ i p t zs us,Gs.getD i Pc.none = .told p t zs us->S p/\MJ w0 p t zs:=by
 intro Gs
 induction Gs with
 | nil=>intro _ i q t zs us h;cases h
 | cons g r ih =>
  intro h i q t zs us e
  cases i with
  | zero =>
   have e:g = .told q t zs us:=by simpa using e
   subst e;exact⟨h.1.1,h.1.2.1⟩
  | succ i =>
   have e:r.getD i Pc.none = .told q t zs us:=by simpa using e
   cases g <;> first|exact ih h.2 i q t zs us e|exact ih h i q t zs us e
theorem Ub.ne{S:Nat->Prop}{w0:World}:∀ {Gs:List Pc},Ub S w0 Gs->∀ i j p t zs us p' t' zs' us',i≠j->Gs.getD i Pc.none = .told p t zs us->Gs.getD j Pc.none = .told p' t' zs' us'->p≠p':=by
 intro Gs
 induction Gs with
 | nil=>intro _ i j p t zs us p' t' zs' us' _ h;cases h
 | cons g r ih =>
  intro h i j p t zs us p' t' zs' us' hij e1 e2
  cases i with
  | zero =>
   have e1:g = .told p t zs us:=by simpa using e1
   subst e1
   cases j with
   | zero=>exact absurd rfl hij
   | succ j=>exact h.1.2.2.at j p' t' zs' us' (by simpa using e2)
  | succ i =>
   cases j with
   | zero =>
    have e2:g = .told p' t' zs' us':=by simpa using e2
    subst e2
    exact fun e=>h.1.2.2.at i p t zs us (by simpa using e1) e.symm
   | succ j =>
    have hr:Ub S w0 r:=by cases g <;> first|exact h.2|exact h
    exact ih hr i j p t zs us p' t' zs' us' (fun e=>hij (by rw[e])) (by simpa using e1) (by simpa using e2)
structure JC (S:Nat->Prop) (w0:World) (Gs:List Pc) (L:Nat->Bool) (v:Nat->Value) (w:World):Prop where
  kept:KR S w0 w
  olds:∀ i p t zs us,Gs.getD i Pc.none = .told p t zs us->MJ w p t (if L i=true then us else zs)
  holds:∀ i,L i=true->aCL w0.heap.size (Gs.getD i Pc.none) L (v i) w
  apart:∀ i j,i≠j->L i=true->L j=true->Tw (Gs.getD i Pc.none)=true->Tw (Gs.getD j Pc.none)=true->v i≠v j
  clos:∀ k j,L k=true->Gs.getD k Pc.none = .turn j->L j=true
def aCQ(os:List Oper)(D:List (Option Tmp))(Gs:List Pc)(i:Nat):Pc->Bool
 | .eq _=>true
 | .told _ _ _ _=>true
 | .turn j=>(match Gs.getD j Pc.none with | .blk _ _ k _=>k==i|_=>false) && (match D.getD j none with|some _=>true|none=>false) && (match os[i]? with|some o=>Ud o j|none=>false)
 | .blk _ _ k _=>match Gs.getD k Pc.none with | .turn j=>j==i|_=>false
def wfC(os:List Oper)(D:List (Option Tmp))(Gs:List Pc):Bool:=(List.range Gs.length).all fun i=>aCQ os D Gs i (Gs.getD i Pc.none)
theorem azw{os:List Oper}{D:List (Option Tmp)}{Gs:List Pc}(h:wfC os D Gs=true)(i:Nat):aCQ os D Gs i (Gs.getD i Pc.none)=true:=by
 by_cases hi:i<Gs.length
 ·exact List.all_eq_true.1 h i (List.mem_range.2 hi)
 ·have:Gs.getD i Pc.none=Pc.none:=by simp[List.getD,List.getElem?_eq_none (show Gs.length<=i by omega)]
  rw[this];rfl
theorem WH{os:List Oper}{D:List (Option Tmp)}{Gs:List Pc}(h:wfC os D Gs=true){i k:Nat}{t:TypeId}{zs us:List Value}(e:Gs.getD i Pc.none = .blk t zs k us):Gs.getD k Pc.none = .turn i:=by
 have:=azw h i
 rw[e] at this
 simp only[aCQ] at this
 split at this
 ·rename_i j hj;rw[hj];have:j=i:=by simpa using this
  rw[this]
 ·cases this
def azB(n0:Nat)(Gs:List Pc)(i:Nat):Nat->Value->World->Prop:=fun j v w=>match Gs.getD j Pc.none with
 | .eq x=>v=x
 | .turn _=>True
 | .told _ _ _ _=>True
 | .blk t zs k _=>k=i->∃ q,v = .pointer (some ⟨q,0,none⟩)/\n0<=q/\MJ w q t zs
def Zd(Gs:List Pc)(D:List (Option Tmp))(i:Nat)(ρ:Operand->Value)(w:World)(v:Value)(w':World):Prop:=match Gs.getD i Pc.none with
 | .eq x=>v=x/\KR (fun _=>False) w w'
 | .blk t zs _ _=>∃ q,v = .pointer (some ⟨q,0,none⟩)/\w.heap.size<=q/\MJ w' q t zs/\KR (fun _=>False) w w'
 | .told p t _ us=>MJ w' p t us/\KR (Lh p) w w'
 | .turn j=>∃ d q,D.getD j none=some d/\ρ (.tmp d) = .pointer (some ⟨q,0,none⟩)/\(∀ t zs us,Gs.getD j Pc.none = .blk t zs i us->MJ w' q t us)/\KR (Lh q) w w'
section
variable {P:Program} {N:Nat} {F:Nat->Value} {w:World} {Q:Exit->(Nat->Value)->World->Prop}
def NS(S:Nat->Prop)(N:Nat)(P:Program)(D:List (Option Tmp))(Gs:List Pc)(F0:Nat->Value)(w0:World)(i:Nat)(o:Oper):Prop :=
 ∀ (F:Nat->Value) (w:World),KR S w0 w->(∀ t,Nat.blt t N=true->some t∉D->F t=F0 t)->Ol D (azB w0.heap.size Gs i) F w o.after.toList->(∀ p t zs us,Gs.getD i Pc.none = .told p t zs us->MJ w p t zs) →
  match o.guard with
  | none=>Lg P (ev F) o w (Zd Gs D i (ev F) w)
  | some (j,want)=>∃ d,D.getD j none=some d ∧
   ((F d = .bool want/\Lg P (ev F) o w (Zd Gs D i (ev F) w))\/((F d = .bool (!want)\/F d=undef)/\Gs.getD i Pc.none = .eq undef))
def Sc(S:Nat->Prop)(N:Nat)(P:Program)(D:List (Option Tmp))(Gs:List Pc)(F0:Nat->Value)(w0:World):Nat->List Oper->Prop
 | _,[]=>True
 | i,o::r=>NS S N P D Gs F0 w0 i o/\Sc S N P D Gs F0 w0 (i+1) r
theorem Zs{S:Nat->Prop}{D:List (Option Tmp)}{Gs:List Pc}{F0:Nat->Value}{w0:World}{i:Nat}:Sc S N P D Gs F0 w0 i []:=trivial
theorem MD{S:Nat->Prop}{D:List (Option Tmp)}{Gs:List Pc}{F0:Nat->Value}{w0:World}{i:Nat}{o:Oper}{r:List Oper}(h:NS S N P D Gs F0 w0 i o)(k:Sc S N P D Gs F0 w0 (i+1) r):Sc S N P D Gs F0 w0 i (o::r):=⟨h,k⟩
theorem NS.one{S:Nat->Prop}{D:List (Option Tmp)}{Gs:List Pc}{F0:Nat->Value}{w0:World}{i:Nat}{o:Oper}(hg:o.guard=none)
  (h:∀ (F:Nat->Value) (w:World),KR S w0 w->(∀ t,Nat.blt t N=true->some t∉D->F t=F0 t)->Ol D (azB w0.heap.size Gs i) F w o.after.toList->Lg P (ev F) o w (Zd Gs D i (ev F) w)):NS S N P D Gs F0 w0 i o:=by
 intro F w h1 h2 h3 _
 rw[hg]
 exact h F w h1 h2 h3
theorem RG{L:Nat->Bool}{i:Nat}:Ro L i i=true:=if_pos rfl
theorem NR{L:Nat->Bool}{i j:Nat}(h:j≠i):Ro L i j=L j:=if_neg h
theorem ST{v:Nat->Value}{i:Nat}{x:Value}:VE v i x i=x:=if_pos rfl
theorem RD{v:Nat->Value}{i j:Nat}{x:Value}(h:j≠i):VE v i x j=v j:=if_neg h
theorem UM{α:Type}{l:List α}{d x:α}{i:Nat}(h:l.getD i d=x)(hn:x≠d):l[i]? = some x:=by
 unfold List.getD at h
 cases hq:l[i]? with
 | none=>rw[hq] at h;exact absurd h.symm hn
 | some y=>rw[hq] at h;simpa using h
theorem JC.more{S:Nat->Prop}{os:List Oper}{D:List (Option Tmp)}{Gs:List Pc}{w0 w w':World}{L:Nat->Bool}{v:Nat->Value}{i:Nat}{x:Value}(hwf:wfC os D Gs=true)(h:JC S w0 Gs L v w)(hi:L i=false)(k:KR (fun _=>False) w w')
  (hnt:∀ j,Gs.getD i Pc.none ≠ .turn j) (hnd:∀ p t zs us,Gs.getD i Pc.none ≠ .told p t zs us) (hx:aCL w0.heap.size (Gs.getD i Pc.none) (Ro L i) x w') (hb:Tw (Gs.getD i Pc.none)=true->∃ q,x = .pointer (some ⟨q,0,none⟩)/\w.heap.size<=q):JC S w0 Gs (Ro L i) (VE v i x) w':=by
 have hkeep:∀ j,L j=true->aCL w0.heap.size (Gs.getD j Pc.none) (Ro L i) (v j) w':=by
  intro j hj
  have:=h.holds j hj
  revert this
  cases e:Gs.getD j Pc.none with
  | eq y=>exact id
  | turn y=>exact id
  | told y1 y2 y3 y4=>exact id
  | blk t zs kk us =>
   rintro ⟨q,e1,e2,e3⟩
   have hki:kk≠i:=fun e'=>hnt j (by rw[← e'];exact WH hwf e)
   refine⟨q,e1,e2,?_⟩
   rw[NR hki]
   exact e3.all k id
 refine⟨h.kept.trans k (fun _ _ x=>x.elim),fun j p t zs us hj=>?_,fun j hj=>?_,fun a b hab ha hb' hA hB=>?_,fun a b ha hab=>?_⟩
 ·have hji:j≠i:=fun e=>hnd p t zs us (by rw[← e];exact hj)
  rw[NR hji]
  exact(h.olds j p t zs us hj).all k id
 ·by_cases hji:j=i
  ·subst hji;rw[ST];exact hx
  ·rw[NR hji] at hj;rw[RD hji];exact hkeep j hj
 ·have hnew:∀ c,c≠i->L c=true->Tw (Gs.getD c Pc.none)=true->Tw (Gs.getD i Pc.none)=true->v c≠x:=by
   intro c _ hc hC hI e
   obtain⟨q,e1,e2⟩:=hb hI
   have:=h.holds c hc
   revert this hC
   cases e':Gs.getD c Pc.none with
   | eq y=>intro hC;cases hC
   | turn y=>intro hC;cases hC
   | told y1 y2 y3 y4=>intro hC;cases hC
   | blk t zs kk us =>
    rintro - ⟨q',f1,f2,f3⟩
    rw[f1,e1] at e
    cases e
    have:=f3.lt
    omega
  by_cases hai:a=i
  ·subst hai
   have hba:b≠a:=fun e=>hab e.symm
   rw[NR hba] at hb'
   rw[ST,RD hba]
   exact fun e=>hnew b hba hb' hB hA e.symm
  ·rw[NR hai] at ha
   rw[RD hai]
   by_cases hbi:b=i
   ·subst hbi;rw[ST];exact hnew a hai ha hA hB
   ·rw[NR hbi] at hb';rw[RD hbi];exact h.apart a b hab ha hb' hA hB
 ·by_cases hai:a=i
  ·subst hai;exact absurd hab (hnt b)
  ·rw[NR hai] at ha
   have:=h.clos a b ha hab
   by_cases hbi:b=i
   ·subst hbi;exact RG
   ·rw[NR hbi];exact this
theorem JC.turned{S:Nat->Prop}{os:List Oper}{D:List (Option Tmp)}{Gs:List Pc}{w0 w w':World}{L:Nat->Bool}{v:Nat->Value}{i j q:Nat}{x:Value}(hwf:wfC os D Gs=true)(hO:Ub S w0 Gs)(h:JC S w0 Gs L v w)(hi:L i=false)(hj:L j=true)(he:Gs.getD i Pc.none = .turn j)
  (hv:v j = .pointer (some ⟨q,0,none⟩)) (hq:∀ t zs us,Gs.getD j Pc.none = .blk t zs i us->MJ w' q t us) (k:KR (Lh q) w w'):JC S w0 Gs (Ro L i) (VE v i x) w':=by
 have hw:=azw hwf i
 rw[he] at hw
 simp only[aCQ,Bool.and_eq_true] at hw
 have hn0:w0.heap.size<=q:=by
  have:=h.holds j hj
  revert this
  obtain⟨⟨h1,_⟩,_⟩:=hw
  cases e:Gs.getD j Pc.none with
  | eq y=>rw[e] at h1;cases h1
  | turn y=>rw[e] at h1;cases h1
  | told y1 y2 y3 y4=>rw[e] at h1;cases h1
  | blk t zs kk us =>
   rintro ⟨q',e1,e2,_⟩
   rw[hv] at e1;cases e1;exact e2
 have hjB:Tw (Gs.getD j Pc.none)=true:=by
  obtain⟨⟨h1,_⟩,_⟩:=hw
  cases e:Gs.getD j Pc.none with
  | eq y=>rw[e] at h1;cases h1
  | turn y=>rw[e] at h1;cases h1
  | told y1 y2 y3 y4=>rw[e] at h1;cases h1
  | blk t zs kk us=>rfl
 refine⟨h.kept.trans k (fun b hb e=>by cases e;omega),fun a p t zs us ha=>?_,fun a ha=>?_,fun a b hab ha hb hA hB=>?_,fun a b ha hab=>?_⟩
 ·have hai:a≠i:=fun e=>by rw[e,he] at ha;cases ha
  rw[NR hai]
  exact(h.olds a p t zs us ha).all k (fun e=>by have:=(hO.at a p t zs us ha).2.lt;rw[show p=q from e] at this;omega)
 ·by_cases hai:a=i
  ·subst hai;rw[ST,he];exact trivial
  ·rw[NR hai] at ha;rw[RD hai]
   have:=h.holds a ha
   revert this
   cases e:Gs.getD a Pc.none with
   | eq y=>exact id
   | turn y=>exact id
   | told y1 y2 y3 y4=>exact id
   | blk t zs kk us =>
    rintro ⟨q',e1,e2,e3⟩
    have hk:=WH hwf e
    by_cases haj:a=j
    ·subst haj
     have hki:kk=i:=by
      obtain⟨⟨h1,_⟩,_⟩:=hw
      rw[e] at h1;simpa using h1
     subst hki
     rw[hv] at e1;cases e1
     refine⟨q,hv,hn0,?_⟩
     rw[if_pos RG]
     exact hq t zs us e
    ·have hki:kk≠i:=fun e'=>by rw[e',he] at hk;cases hk;exact haj rfl
     refine⟨q',e1,e2,?_⟩
     rw[NR hki]
     refine e3.all k (fun e'=>?_)
     have:=h.apart a j haj ha hj (by rw[e];rfl) hjB
     rw[e1,hv] at this
     exact this (by rw[show q'=q from e'])
 ·have hni:∀ c,Tw (Gs.getD c Pc.none)=true->c≠i:=fun c hc e=>by rw[e,he] at hc;cases hc
  rw[RD (hni a hA),RD (hni b hB)]
  rw[NR (hni a hA)] at ha
  rw[NR (hni b hB)] at hb
  exact h.apart a b hab ha hb hA hB
 ·by_cases hai:a=i
  ·subst hai
   rw[he] at hab;cases hab
   by_cases hji:j=a
   ·subst hji;exact RG
   ·rw[NR hji];exact hj
  ·rw[NR hai] at ha
   have:=h.clos a b ha hab
   by_cases hbi:b=i
   ·subst hbi;exact RG
   ·rw[NR hbi];exact this
theorem JC.oldTurned{S:Nat->Prop}{os:List Oper}{D:List (Option Tmp)}{Gs:List Pc}{w0 w w':World}{L:Nat->Bool}{v:Nat->Value}{i p:Nat}{t:TypeId}{zs us:List Value}{x:Value}(hwf:wfC os D Gs=true)(hO:Ub S w0 Gs)(h:JC S w0 Gs L v w)(he:Gs.getD i Pc.none = .told p t zs us)
  (hq:MJ w' p t us) (k:KR (Lh p) w w'):JC S w0 Gs (Ro L i) (VE v i x) w':=by
 have hp:=hO.at i p t zs us he
 have hni:∀ c,Tw (Gs.getD c Pc.none)=true->c≠i:=fun c hc e=>by rw[e,he] at hc;cases hc
 refine⟨h.kept.trans k (fun b hb e=>by cases e;exact hp.1),fun a p' t' zs' us' ha=>?_,fun a ha=>?_,fun a b hab ha hb hA hB=>?_,fun a b ha hab=>?_⟩
 ·by_cases hai:a=i
  ·subst hai
   rw[he] at ha;cases ha
   rw[if_pos RG];exact hq
  ·rw[NR hai]
   exact(h.olds a p' t' zs' us' ha).all k (fun e=>hO.ne a i p' t' zs' us' p t zs us hai ha he e)
 ·by_cases hai:a=i
  ·subst hai;rw[ST,he];exact trivial
  ·rw[NR hai] at ha;rw[RD hai]
   have:=h.holds a ha
   revert this
   cases e:Gs.getD a Pc.none with
   | eq y=>exact id
   | turn y=>exact id
   | told y1 y2 y3 y4=>exact id
   | blk t zs kk us =>
    rintro ⟨q',e1,e2,e3⟩
    have hk:=WH hwf e
    have hki:kk≠i:=fun e'=>by rw[e',he] at hk;cases hk
    refine⟨q',e1,e2,?_⟩
    rw[NR hki]
    exact e3.all k (fun e'=>by have:=hp.2.lt;rw[show q'=p from e'] at e2;omega)
 ·rw[RD (hni a hA),RD (hni b hB)]
  rw[NR (hni a hA)] at ha
  rw[NR (hni b hB)] at hb
  exact h.apart a b hab ha hb hA hB
 ·have hai:a≠i:=fun e=>by rw[e,he] at hab;cases hab
  rw[NR hai] at ha
  have:=h.clos a b ha hab
  by_cases hbi:b=i
  ·subst hbi;exact RG
  ·rw[NR hbi];exact this
theorem NS.step{S:Nat->Prop}{os:List Oper}{D:List (Option Tmp)}{Gs:List Pc}{w0:World}{i:Nat}{o:Oper}{a0:Act}(hwf:wfC os D Gs=true)(hO:Ub S w0 Gs)(ho:os[i]? = some o)(ha:Fr N F a0)(h:NS S N P D Gs F w0 i o):XB os P D (JC S w0 Gs) a0 i o:=by
 intro L v a w hJ hi hdone hout hhere _
 have hdeps:Ol D (azB w0.heap.size Gs i) (fun t=>a.tmps.getD t undef) w o.after.toList:=by
  refine RS.toF (RS.mk fun e he hb d hd=>?_)
  have hl:=hdone e he hb
  have hDe:=UM hd (by simp)
  have hv:=hhere e.on d hl hDe
  rw[hv]
  have:=hJ.holds e.on hl
  unfold azB
  revert this
  cases e':Gs.getD e.on Pc.none with
  | eq y=>exact id
  | turn y=>exact id
  | told y1 y2 y3 y4=>exact id
  | blk t zs kk us =>
   rintro ⟨q,e1,e2,e3⟩ hk
   refine⟨q,e1,e2,?_⟩
   subst hk
   rw[hi,if_neg (by simp)] at e3
   exact e3
 have h1:=h (fun t=>a.tmps.getD t undef) w hJ.kept (fun t hb ht=>by rw[← ha.at' t hb];exact hout t ht) hdeps (fun p t zs us e=>by have:=hJ.olds i p t zs us e;rw[hi,if_neg (by simp)] at this;exact this)
 rw[← R6 a] at h1
 have hleft:∀ x w',Zd Gs D i a.eval w x w'->JC S w0 Gs (Ro L i) (VE v i x) w':=by
  intro x w' hx
  unfold Zd at hx
  cases e:Gs.getD i Pc.none with
  | eq y =>
   rw[e] at hx
   exact hJ.more hwf hi hx.2 (fun j hj=>by rw[e] at hj;cases hj) (fun _ _ _ _ hj=>by rw[e] at hj;cases hj) (by rw[e];exact hx.1) (by rw[e];intro hb;cases hb)
  | blk t zs kk us =>
   rw[e] at hx
   obtain⟨q,e1,e2,e3,e4⟩:=hx
   have hk:=WH hwf e
   have hki:kk≠i:=fun e'=>by rw[e',e] at hk;cases hk
   have hLk:L kk=false:=by
    cases hq:L kk with
    | false=>rfl
    | true=>have:=hJ.clos kk i hq hk;rw[hi] at this;cases this
   refine hJ.more hwf hi e4 (fun j hj=>by rw[e] at hj;cases hj) (fun _ _ _ _ hj=>by rw[e] at hj;cases hj) ?_ (fun _=>⟨q,e1,e2⟩)
   rw[e]
   refine⟨q,e1,Nat.le_trans hJ.kept.size e2,?_⟩
   rw[NR hki,hLk,if_neg (by simp)]
   exact e3
  | told p t zs us =>
   rw[e] at hx
   exact hJ.oldTurned hwf hO e hx.1 hx.2
  | turn j =>
   rw[e] at hx
   obtain⟨d,q,hd,e1,e2,e3⟩:=hx
   have hw:=azw hwf i
   rw[e] at hw
   simp only[aCQ,Bool.and_eq_true,ho] at hw
   obtain⟨ed,hed,hb,hon⟩:=SE.1 hw.2
   have hLj:=hdone ed hed hb
   rw[hon] at hLj
   have hv:=hhere j d hLj (UM hd (by simp))
   exact hJ.turned hwf hO hi hLj e (by rw[← hv];exact e1) e2 e3
 unfold Qs
 cases hg:o.guard with
 | none=>rw[hg] at h1;exact⟨fun _=>h1.mono' hleft,fun e=>by cases e⟩
 | some g =>
  obtain⟨j,want⟩:=g
  rw[hg] at h1
  obtain⟨d,hd,h1⟩:=h1
  simp only[hd]
  have hev:a.eval (.tmp d)=a.tmps.getD d undef:=rfl
  rcases h1 with ⟨hv,hy⟩ | ⟨hv,hs⟩
  ·rw[hev,hv];exact⟨fun _=>hy.mono' hleft,fun e=>by simp at e⟩
  ·refine⟨fun e=>?_,fun _=>hJ.more hwf hi (KR.refl _ _) (fun j hj=>by rw[hs] at hj;cases hj) (fun _ _ _ _ hj=>by rw[hs] at hj;cases hj) (by rw[hs];rfl) (by rw[hs];intro hb;cases hb)⟩
   rcases hv with hv|hv
   ·rw[hev,hv] at e;cases want <;> simp at e
   ·rw[hev,hv] at e;simp[undef] at e
theorem Sc.steps{S:Nat->Prop}{all:List Oper}{D:List (Option Tmp)}{Gs:List Pc}{w0:World}{a0:Act}(hwf:wfC all D Gs=true)(hO:Ub S w0 Gs)(ha:Fr N F a0):∀ {os:List Oper} {i:Nat},(∀ k o,os[k]? = some o->all[i+k]? = some o)->Sc S N P D Gs F w0 i os->QU all P D (JC S w0 Gs) a0 i os:=by
 intro os
 induction os with
 | nil=>intro i _ _;exact trivial
 | cons o r ih =>
  intro i hat h
  exact⟨h.1.step hwf hO (hat 0 o rfl) ha,ih (fun k o' hk=>by have:=hat (k+1) o' hk;rwa [show i+(k+1)=i+1+k by omega] at this) h.2⟩
def aF1(n0:Nat)(Gs:List Pc)(i:Nat)(v:Value)(w:World):Prop:=match Gs.getD i Pc.none with
 | .eq x=>v=x
 | .turn _=>True
 | .told p t _ us=>MJ w p t us
 | .blk t _ _ us=>∃ q,v = .pointer (some ⟨q,0,none⟩)/\n0<=q/\MJ w q t us
theorem aBL{S:Nat->Prop}{id:Nat}{ops:Array Oper}(D:List (Option Tmp))(Gs:List Pc)(hm:P.follows .mixedOrders=true)(hpl:plain N 0 D ops.toList=true)(hwf:wfC ops.toList D Gs=true)(hsz:Gs.length=ops.size)(hO:Ub S w Gs)(hsteps:Sc S N P D Gs F w 0 ops.toList)
  (hend:∀ (v:Nat->Value) (F':Nat->Value) (w':World),KR S w w'->(∀ i,i<ops.size->aF1 w.heap.size Gs i (v i) w')->(∀ i j,i≠j->i<ops.size->j<ops.size->Tw (Gs.getD i Pc.none)=true->Tw (Gs.getD j Pc.none)=true->v i≠v j)->(∀ t,F' t=Q9 v 0 D F t)->Q .normal F' w'):wq none P N (.region id ops true) Q F w:=by
 intro a ha
 refine wpIn_wide.2 ?_
 refine TA D (JC S w Gs) hm (by rw[ha.size];exact hpl) ⟨(KR.refl _ w).drew,fun i p t zs us e=>(by rw[if_neg (by simp)];exact(hO.at i p t zs us e).2.all ((KR.refl (fun _=>False) w).drew) (fun z=>z)),fun _ e=>(by cases e),fun _ _ _ e=>(by cases e),fun _ _ e=>(by cases e)⟩ (hsteps.steps hwf hO ha (fun k o hk=>by rw[Nat.zero_add];exact hk)) fun L v w' hJ hL=>?_
 refine⟨Q9 v 0 D F,Py v D 0 F a ha (OS hpl),hend v _ w' hJ.kept (fun i hi=>?_) (fun i j hij hi hj hI hJ'=>hJ.apart i j hij (hL i hi) (hL j hj) hI hJ') fun _=>rfl⟩
 have:=hJ.holds i (hL i hi)
 unfold aF1
 revert this
 cases e:Gs.getD i Pc.none with
 | eq y=>exact fun z=>z
 | turn y=>exact fun z=>z
 | told p t zs us =>
  intro _
  have:=hJ.olds i p t zs us e
  rw[if_pos (hL i hi)] at this
  exact this
 | blk t zs kk us =>
  rintro ⟨q,e1,e2,e3⟩
  have hk:=WH hwf e
  have hkk:kk<ops.size:=by
   rw[← hsz]
   rcases Nat.lt_or_ge kk Gs.length with h'|h'
   ·exact h'
   ·have:Gs.getD kk Pc.none=Pc.none:=by simp[List.getD,List.getElem?_eq_none h']
    rw[this] at hk;cases hk
  rw[if_pos (hL kk hkk)] at e3
  exact⟨q,e1,e2,e3⟩
end
open Go.RowKit
def NI(a b c d:Int):Bool:=decide (a=c) && decide (b=d)
theorem Yz(a b:Int):NI a b a b=true:=by unfold NI;simp
theorem Tryz.vecFields : (Tryz.prog.fieldsOf 67).toList.map (fun f => (f.name, f.type, f.offset)) = [("X", 3, 0), ("Y", 3, 1)] := by kernel_rfl
theorem Pk(w:World)(xs:Array Value)(i:Nat)(z:Int)(h:xs[i]? = some (.int .i64 z)):(part 3 xs i).run Tryz.prog w = .ok (.int .i64 z) w:=by
 simp[part,isAgg,run_underlying Tryz.underlying3,h]
theorem YP(w:World)(a b c d:Int):(Op.equalIn 10000 67 (.agg #[.int .i64 a,.int .i64 b]) (.agg #[.int .i64 c,.int .i64 d])).run Tryz.prog w = .ok (NI a b c d) w:=by
 rw[run_equalIn_struct w 9999 _ _ _ (by kernel_rfl) (by kernel_rfl)]
 have hf:=Tryz.vecFields
 generalize (Tryz.prog.fieldsOf 67).toList=fs at hf
 have hlen:fs.length=2:=by simpa using congrArg List.length hf
 have p1:=Pk w #[.int .i64 a,.int .i64 b] 0 a rfl
 have p2:=Pk w #[.int .i64 c,.int .i64 d] 0 c rfl
 have p3:=Pk w #[.int .i64 a,.int .i64 b] 1 b rfl
 have p4:=Pk w #[.int .i64 c,.int .i64 d] 1 d rfl
 match fs,hlen with
 | [f0,f1],_ =>
  simp only[List.map_cons,List.map_nil,List.cons.injEq,Prod.mk.injEq,and_true] at hf
  obtain⟨⟨n0,t0,o0⟩,⟨n1,t1,o1⟩⟩:=hf
  simp only[Op.eqFields,n0,t0,o0,n1,t1,o1]
  rw[if_pos (by decide),if_pos (by decide)]
  simp only[Sem.run_bind,p1,p2,Result.andThen_ok,run_equalIn_int w 9998 3 .i64 .i64 _ _ Tryz.underlying3]
  unfold NI
  by_cases h1:a=c
  ·subst h1
   simp only[beq_self_eq_true,Bool.not_true,Bool.false_eq_true,if_false,Sem.run_bind,p3,p4,Result.andThen_ok,run_equalIn_int w 9998 3 .i64 .i64 _ _ Tryz.underlying3]
   by_cases h2:b=d
   ·subst h2;simp
   ·have:(b==d)=false:=by simpa using h2
    simp[this,h2]
  ·have:(a==c)=false:=by simpa using h1
   simp[this,h1]
theorem Tryz.guard_vec:Tryz.prog.eqGuardType Tryz.prog.depth 67=false:=by kernel_rfl
section
variable {ρ:Operand->Value} {o:Oper} {w:World} {R:Value->World->Prop}
theorem aCn{t':TypeId}{x y:Operand}{a b c d:Int}{q:Bool}(ho:o.op = .binOp .eql 67 x y t')(hx:ρ x = .agg #[.int .i64 a,.int .i64 b])(hy:ρ y = .agg #[.int .i64 c,.int .i64 d])(hr:NI a b c d=q)(h:R (.bool q) w):Lg Tryz.prog ρ o w R :=
 OJ (v:=.bool (NI a b c d)) (w':=w) (by simp only[execOp,ho,hx,hy,Sem.run_bind,run_eqGuard_agg w .eql _ _ _ _ _ Tryz.guard_vec,run_eql_struct,YP,Result.andThen_ok,Sem.run_pure]) (by rw[hr];exact h)
end
theorem aFN:∀ k:Fin 513,bits .and .i64 ((k.1:Int)-256) 1=((k.1:Int)-256)%2:=by decide +kernel
theorem azY{u:Int}(h : -256<=u/\u<=256):bits .and .i64 u 1=u%2:=by
 have:=aFN ⟨(u+256).toNat,by omega⟩
 simp only at this
 rwa [show (((u+256).toNat:Nat):Int)-256=u by omega] at this
theorem Sh(n a b:Int)(w0:World) :
  Calls Tryz.prog 138 #[.int .i64 (n),.int .i64 (a),.int .i64 (b)] w0 fun e w'=>e = .returned (.int .i64 (max a (min n b)))/\KR (fun _=>False) w0 w':=by
 refine Ly (args:=[iv n,iv a,iv b]) 12 Tryz.func138 rfl rfl (Nat.le_of_ble_eq_true rfl) ?_
 refine KM (KL (Lb (iv 0) LE (KQ ?_)))
 have s3:=K4 (iv n)
 have s4:=K4 (iv a)
 have s5:=K4 (iv b)
 have s6:=K4 (undef)
 refine KK (KM (KL (K2 Lw s4 (K2 Lw s3 (K2 Lw s5 (KN (iv (min n b)) rr (RB rfl rfl rfl rfl rr) (KN (iv (max a (min n b))) rr (R9 rfl rfl rfl rfl rr) (Lb (iv (max a (min n b))) LE (KQ ?_)))))))))
 have af:=K4 (iv (max a (min n b)))
 refine KK (Le ?_)
 exact LC (v:=iv (max a (min n b))) s6 rfl rfl af ⟨rfl,(KR.refl (fun _=>False) w0)⟩
theorem S9(n:Int)(w0:World) :
  Calls Tryz.prog 134 #[.int .i64 (n)] w0 fun e w'=>e = .returned (.bool (decide (-31<=n/\n<=31)))/\KR (fun _=>False) w0 w':=by
 refine Ly (args:=[iv n]) 9 Tryz.func134 rfl rfl (Nat.le_of_ble_eq_true rfl) ?_
 have K0:=KR.refl (fun _=>False) w0
 refine KM (KL (Lb (.bool false) LE (KQ ?_)))
 have s3:=K4 (iv n)
 have s4:=K4 (undef)
 refine KK (KM ?_)
 by_cases d5:(-31)<=n
 ·skip
  refine KL (K2 Lw s3 (KN (.bool true) rr (NO rfl rfl rfl (decide_eq_true d5) rr) (KN (.bool true) rr (KT rfl rfl rr) (Lj (iv n) 2 true 5 Li (KT rfl s3 rr) (Lj (.bool (decide (n<=31))) 2 true 5 Li (Vx rfl rfl rfl rfl rr) (KN (.bool (decide (n<=31))) rr (LB rfl rfl rfl rr) (Lb (.bool (decide (n<=31))) LE (KQ ?_))))))))
  have s9:=K4 (.bool (decide (n<=31)))
  refine KK (Le ?_)
  exact LC (v:=.bool (decide (n<=31))) s4 rfl rfl s9 ⟨(PS (by first|exact(decide_eq_true (by omega)).symm|exact(decide_eq_false (by omega)).symm|exact decide_eq_decide.2 (by omega))),K0⟩
 ·skip
  refine KL (K2 Lw s3 (KN (.bool false) rr (NO rfl rfl rfl (decide_eq_false d5) rr) (KN (.bool false) rr (KT rfl rfl rr) (Lq 2 true 5 Li (Lq 2 true 5 Li (KN (.bool false) rr (Lt rfl rfl rfl rr) (Lb (.bool false) LE (KQ ?_))))))))
  have ah:=K4 (.bool false)
  refine KK (Le ?_)
  exact LC (v:=.bool false) s4 rfl rfl ah ⟨(PS (by first|exact(decide_eq_true (by omega)).symm|exact(decide_eq_false (by omega)).symm|exact decide_eq_decide.2 (by omega))),K0⟩
theorem Qf(n:Int)(w0:World) :
  Calls Tryz.prog 135 #[.int .i64 (n)] w0 fun e w'=>e = .returned (.bool (decide (0<=n/\n<=64)))/\KR (fun _=>False) w0 w':=by
 refine Ly (args:=[iv n]) 9 Tryz.func135 rfl rfl (Nat.le_of_ble_eq_true rfl) ?_
 have K0:=KR.refl (fun _=>False) w0
 refine KM (KL (Lb (.bool false) LE (KQ ?_)))
 have s3:=K4 (iv n)
 have s4:=K4 (undef)
 refine KK (KM ?_)
 by_cases d5:0<=n
 ·skip
  refine KL (K2 Lw s3 (KN (.bool true) rr (NO rfl rfl rfl (decide_eq_true d5) rr) (KN (.bool true) rr (KT rfl rfl rr) (Lj (iv n) 2 true 5 Li (KT rfl s3 rr) (Lj (.bool (decide (n<=64))) 2 true 5 Li (Vx rfl rfl rfl rfl rr) (KN (.bool (decide (n<=64))) rr (LB rfl rfl rfl rr) (Lb (.bool (decide (n<=64))) LE (KQ ?_))))))))
  have s9:=K4 (.bool (decide (n<=64)))
  refine KK (Le ?_)
  exact LC (v:=.bool (decide (n<=64))) s4 rfl rfl s9 ⟨(PS (by first|exact(decide_eq_true (by omega)).symm|exact(decide_eq_false (by omega)).symm|exact decide_eq_decide.2 (by omega))),K0⟩
 ·skip
  refine KL (K2 Lw s3 (KN (.bool false) rr (NO rfl rfl rfl (decide_eq_false d5) rr) (KN (.bool false) rr (KT rfl rfl rr) (Lq 2 true 5 Li (Lq 2 true 5 Li (KN (.bool false) rr (Lt rfl rfl rfl rr) (Lb (.bool false) LE (KQ ?_))))))))
  have ah:=K4 (.bool false)
  refine KK (Le ?_)
  exact LC (v:=.bool false) s4 rfl rfl ah ⟨(PS (by first|exact(decide_eq_true (by omega)).symm|exact(decide_eq_false (by omega)).symm|exact decide_eq_decide.2 (by omega))),K0⟩
theorem V0(s m:Int)(w0:World)(hs:0<=s/\s<=4000)(hm:m=1\/m=2\/m=4) :
  Calls Tryz.prog 137 #[.int .i64 (s),.int .i64 (m)] w0 fun e w'=>e = .returned (.int .i64 ((s+m/2)/m))/\KR (fun _=>False) w0 w':=by
 refine Ly (args:=[iv s,iv m]) 11 Tryz.func137 rfl rfl (Nat.le_of_ble_eq_true rfl) ?_
 refine KM (KL (Lb (iv 0) LE (KQ ?_)))
 have s3:=K4 (iv s)
 have s4:=K4 (iv m)
 have s5:=K4 (undef)
 refine KK (KM (KL (K2 Lw s3 (K2 Lw s4 (KN (iv (m/2)) rr (O8 rfl rfl rfl (by first|decide|omega) (Mn (PH (by omega)) (by omega)) rr) (KN (iv (s+m/2)) rr (LS rfl rfl rfl (Mn rfl (by omega)) rr) (K2 Lw s4 (KN (iv ((s+m/2)/m)) rr (O8 rfl rfl rfl (by first|decide|omega) (Mn (Int.tdiv_eq_ediv_of_nonneg (by omega)) (by rcases hm with rfl|rfl|rfl <;> omega)) rr) (Lb (iv ((s+m/2)/m)) LE (KQ ?_))))))))))
 have s9:=K4 (iv ((s+m/2)/m))
 refine KK (Le ?_)
 exact LC (v:=iv ((s+m/2)/m)) s5 rfl rfl s9 ⟨rfl,(KR.refl (fun _=>False) w0)⟩
theorem Wu(X Y:Int)(w0:World) :
  Calls Tryz.prog 103 #[.agg #[.int .i64 (X),.int .i64 (Y)]] w0 fun e w'=>e = .returned (.int .i64 (Qw X Y))/\KR (fun _=>False) w0 w':=by
 refine Ly (args:=[.agg #[iv X,iv Y]]) 13 Tryz.func103 rfl rfl (Nat.le_of_ble_eq_true rfl) ?_
 refine KM (KL (LJ (vs:=[iv X,iv Y]) rfl rfl rfl rfl fun p1 w2 B4 g5 k3=>?_))
 have K7:=(KR.refl (fun _=>False) w0).tr k3
 refine Lb (iv 0) LE (KQ ?_)
 have ah:=K4 (undef)
 have ac:=K4 (pt p1 0)
 refine KK (KM (KM ?_))
 by_cases ai : -31<=X/\X<=31
 ·skip
  by_cases aj : -31<=Y/\Y<=31
  ·skip
   refine KL (KN (pt p1 0) rr (KU (n:=1) rfl ac Tryz.underlying67 rfl (by kernel_rfl) (by decide) rfl rr) (KN (iv X) rr (KY rfl rfl Tryz.underlying3 B4 rfl rfl rr) (LH (R:=fun v_ w_=>v_ = .bool true/\KR (fun _=>False) w2 w_) rfl rfl (LQ rfl rfl rfl (fun _ _=>by kernel_rfl) (K6 _) (Lo rfl L5) (S9 X  _   ) (fun e_ w_ h_=>⟨_,h_.1,(congrArg Value.bool (decide_eq_true ai)),h_.2⟩)) ?_)))
   rintro _ ao ⟨rfl,ak⟩
   have ap:=B4.all ak id
   refine KN (.bool false) rr (Mq rfl rfl rfl rr) (KN (.bool false) rr (KT rfl rfl rr) (Lj (pt p1 1) 4 false 7 Li (KU (n:=1) rfl ac Tryz.underlying67 rfl (by kernel_rfl) (by decide) rfl rr) (Lj (iv Y) 4 false 7 Li (KY rfl rfl Tryz.underlying3 ap rfl rfl rr) (LZ (R:=fun v_ w_=>v_ = .bool true/\KR (fun _=>False) ao w_) 4 false 7 rfl rfl rfl rfl rfl (LQ rfl rfl rfl (fun _ _=>by kernel_rfl) (K6 _) (Lo rfl L5) (S9 Y  _   ) (fun e_ w_ h_=>⟨_,h_.1,(congrArg Value.bool (decide_eq_true aj)),h_.2⟩)) ?_))))
   rintro _ aG ⟨rfl,aq⟩
   refine Lj (.bool false) 4 false 7 Li (Mq rfl rfl rfl rr) (KN (.bool false) rr (Lt rfl rfl rfl rr) (KQ ?_))
   have ar:=K4 (.bool false)
   refine KK ?_
   refine K5 (t:=false) ar (fun e=>by cases e) (fun _=>?_)
   refine Lf (KK (KM (KL (Lb (iv 0) LE (KQ ?_)))))
   have au:=K4 (iv 0)
   refine KK (Le ?_)
   exact LC (v:=iv 0) ah rfl rfl au ⟨(by first|rw[PG (by unfold M1;omega)]|rw[Oa (by unfold M1;omega)]),((K7.tr ak).tr aq)⟩
  ·skip
   refine KL (KN (pt p1 0) rr (KU (n:=1) rfl ac Tryz.underlying67 rfl (by kernel_rfl) (by decide) rfl rr) (KN (iv X) rr (KY rfl rfl Tryz.underlying3 B4 rfl rfl rr) (LH (R:=fun v_ w_=>v_ = .bool true/\KR (fun _=>False) w2 w_) rfl rfl (LQ rfl rfl rfl (fun _ _=>by kernel_rfl) (K6 _) (Lo rfl L5) (S9 X  _   ) (fun e_ w_ h_=>⟨_,h_.1,(congrArg Value.bool (decide_eq_true ai)),h_.2⟩)) ?_)))
   rintro _ av ⟨rfl,am⟩
   have aw:=B4.all am id
   refine KN (.bool false) rr (Mq rfl rfl rfl rr) (KN (.bool false) rr (KT rfl rfl rr) (Lj (pt p1 1) 4 false 7 Li (KU (n:=1) rfl ac Tryz.underlying67 rfl (by kernel_rfl) (by decide) rfl rr) (Lj (iv Y) 4 false 7 Li (KY rfl rfl Tryz.underlying3 aw rfl rfl rr) (LZ (R:=fun v_ w_=>v_ = .bool false/\KR (fun _=>False) av w_) 4 false 7 rfl rfl rfl rfl rfl (LQ rfl rfl rfl (fun _ _=>by kernel_rfl) (K6 _) (Lo rfl L5) (S9 Y  _   ) (fun e_ w_ h_=>⟨_,h_.1,(congrArg Value.bool (decide_eq_false aj)),h_.2⟩)) ?_))))
   rintro _ aH ⟨rfl,az⟩
   refine Lj (.bool true) 4 false 7 Li (Mq rfl rfl rfl rr) (KN (.bool true) rr (Lt rfl rfl rfl rr) (KQ ?_))
   have aA:=K4 (.bool true)
   refine KK ?_
   refine K5 (t:=true) aA (fun _=>?_) (fun e=>by cases e)
   refine KM (KL (Lb (iv 90) LE (KQ ?_)))
   have aB:=K4 (iv 90)
   refine KK (Le (Lx ?_))
   exact LC (v:=iv 90) ah rfl rfl aB ⟨(by first|rw[PG (by unfold M1;omega)]|rw[Oa (by unfold M1;omega)]),((K7.tr am).tr az)⟩
 ·skip
  refine KL (KN (pt p1 0) rr (KU (n:=1) rfl ac Tryz.underlying67 rfl (by kernel_rfl) (by decide) rfl rr) (KN (iv X) rr (KY rfl rfl Tryz.underlying3 B4 rfl rfl rr) (LH (R:=fun v_ w_=>v_ = .bool false/\KR (fun _=>False) w2 w_) rfl rfl (LQ rfl rfl rfl (fun _ _=>by kernel_rfl) (K6 _) (Lo rfl L5) (S9 X  _   ) (fun e_ w_ h_=>⟨_,h_.1,(congrArg Value.bool (decide_eq_false ai)),h_.2⟩)) ?_)))
  rintro _ aI ⟨rfl,aC⟩
  refine KN (.bool true) rr (Mq rfl rfl rfl rr) (KN (.bool true) rr (KT rfl rfl rr) (Lq 4 false 7 Li (Lq 4 false 7 Li (Lq 4 false 7 Li (Lq 4 false 7 Li (KN (.bool true) rr (LB rfl rfl rfl rr) (KQ ?_)))))))
  have aD:=K4 (.bool true)
  refine KK ?_
  refine K5 (t:=true) aD (fun _=>?_) (fun e=>by cases e)
  refine KM (KL (Lb (iv 90) LE (KQ ?_)))
  have aE:=K4 (iv 90)
  refine KK (Le (Lx ?_))
  exact LC (v:=iv 90) ah rfl rfl aE ⟨(by first|rw[PG (by unfold M1;omega)]|rw[Oa (by unfold M1;omega)]),(K7.tr aC)⟩
theorem aD7(a b:Nat->Int)(w0:World) :
  Calls Tryz.prog 111 #[LW (a),LW (b)] w0 fun e w'=>e = .returned (LW (UD a b))/\KR (fun _=>False) w0 w':=by
 refine Ly (args:=[LW a,LW b]) 23 Tryz.func111 rfl rfl (Nat.le_of_ble_eq_true rfl) ?_
 have K0:=KR.refl (fun _=>False) w0
 refine KM (KL (Ny rfl rfl rfl rfl fun p1 w2 e5 B3 k4=>?_))
 refine Ny rfl rfl rfl rfl fun p9 bG av aN aw=>?_
 have af:=L7 (Nat.le_of_eq av.symm)
 have aO:=KO.new af (L8 B3.lt)
 clear av af
 have az:=B3.all aw id
 have aA:=(K0.tr k4).tr aw
 refine Mf rfl rfl rfl KW.2.2 fun ah bH aB aP aC=>?_
 have aD:=L7 (Nat.le_of_eq aB.symm)
 have aQ:=KO.new aD (L8 az.lt)
 clear aB
 obtain⟨aR,aS⟩:=Oe aC az aN
 refine KQ ?_
 have aT:=K4 (undef)
 have aU:=K4 (pt p1 0)
 have aV:=K4 (pt p9 0)
 have aW:=K4 (pt ah 0)
 refine KK (KM (KM (KL (KN (iv 0) rr (KT rfl rfl rr) (KQ ?_)))))
 have aX:=K4 (iv 0)
 refine KK (Lm (M8 (fun nn FF ww=>∃ (i:Nat),(i<=16)/\nn=16-i/\FF 2=pt p1 0/\FF 3=pt p9 0/\FF 4=pt ah 0/\FF 23=undef/\FF 6=iv ((i:Nat):Int)/\KR (fun _=>False) w0 ww/\Of ww p1 69 (upto i a (UD a b))/\Of ww p9 69 b/\Of ww ah 69 (fun _=>0)) (16-0) ⟨0,by omega,rfl,aU,aV,aW,aT,aX,(aA.tr aC),aR.first,aS,aP⟩ ?_))
 rintro bI bJ aY ⟨i,i48,hn47,ai,aE,ak,aF,am,aG,an,aH,aI⟩
 refine KM (KL (KN (.bool (decide (((i:Nat):Int)<16))) rr (Mc rfl am rfl rfl rr) (KQ ?_)))
 have aZ:=K4 (.bool (decide (((i:Nat):Int)<16)))
 refine KK (KM ?_)
 refine K5 aZ (fun ae=>?_) (fun ae=>?_)
 ·replace ae:=of_decide_eq_true ae
  refine Lf (KK (KM (Lm (KM (KL (K2 Lw am (Lb (iv ((i:Nat):Int)) LE (KQ ?_))))))))
  have ao:=K4 (iv ((i:Nat):Int))
  refine KK ?_
  have h1:=az0 (a i)
  have h2:=az0 (b i)
  refine NJ 12 [some 9,some 10,some 11,some 12,some 13,some 14,some 15,some 16,some 17,some 18,some 19,some 20] [Pd.eq (iv ((i:Nat):Int)),Pd.eq (iv ((i:Nat):Int)),Pd.eq (.pointer (some ⟨p1,i,none⟩)),Pd.eq (iv (a i)),Pd.eq (iv (c8 (a i))),Pd.eq (iv ((i:Nat):Int)),Pd.eq (.pointer (some ⟨p9,i,none⟩)),Pd.eq (iv (b i)),Pd.eq (iv (c8 (b i))),Pd.eq (iv ((c8 (a i))+(c8 (b i)))),Pd.eq (iv ((c8 (a i)+c8 (b i)+1)/2)),Pd.eq (.pointer (some ⟨p1,i,none⟩))] (by kernel_rfl) (by kernel_rfl) (by kernel_rfl) ?_ ?_
  ·refine KP ?_ ?_
   ·refine Ld.one rfl fun F_ w_ hR hout hD=>?_
    exact(KT rfl ((hout 5 rfl (by decide)).trans ao) ⟨rfl,KR.refl _ _⟩)
   refine KP ?_ ?_
   ·refine Ld.one rfl fun F_ w_ hR hout hD=>?_
    exact(KT rfl ((hout 5 rfl (by decide)).trans ao) ⟨rfl,KR.refl _ _⟩)
   refine KP ?_ ?_
   ·refine Ld.one rfl fun F_ w_ hR hout hD=>?_
    have a8:F_ 10=iv ((i:Nat):Int):=(hD.get 0 rfl rfl rfl)
    exact(L3 i (s:=1) rfl ((hout 2 rfl (by decide)).trans ai) a8 (by omega) Tryz.underlying69 (by omega) (by kernel_rfl) (by omega) ⟨rfl,KR.refl _ _⟩)
   refine KP ?_ ?_
   ·refine Ld.one rfl fun F_ w_ hR hout hD=>?_
    have a9:F_ 11 = .pointer (some ⟨p1,i,none⟩):=(hD.get 0 rfl rfl rfl)
    exact(Pj rfl a9 Tryz.underlying3 (((an.all hR id).cell (by omega)).trans (UC (V3 i _ _))) ⟨rfl,KR.refl _ _⟩)
   refine KP ?_ ?_
   ·refine Ld.one rfl fun F_ w_ hR hout hD=>?_
    have ba:F_ 12=iv (a i):=(hD.get 0 rfl rfl rfl)
    exact(LQ rfl rfl rfl (fun _ _=>by kernel_rfl) (K6 _) (Lo ba (Lo rfl (Lo rfl L5))) (Sh (a i) 0 255  _   ) (fun e_ w_ h_=>⟨_,h_.1,congrArg (Value.int .i64) (by unfold c8;omega),h_.2⟩))
   refine KP ?_ ?_
   ·refine Ld.one rfl fun F_ w_ hR hout hD=>?_
    exact(KT rfl ((hout 5 rfl (by decide)).trans ao) ⟨rfl,KR.refl _ _⟩)
   refine KP ?_ ?_
   ·refine Ld.one rfl fun F_ w_ hR hout hD=>?_
    have af:F_ 14=iv ((i:Nat):Int):=(hD.get 0 rfl rfl rfl)
    exact(L3 i (s:=1) rfl ((hout 3 rfl (by decide)).trans aE) af (by omega) Tryz.underlying69 (by omega) (by kernel_rfl) (by omega) ⟨rfl,KR.refl _ _⟩)
   refine KP ?_ ?_
   ·refine Ld.one rfl fun F_ w_ hR hout hD=>?_
    have bb:F_ 15 = .pointer (some ⟨p9,i,none⟩):=(hD.get 0 rfl rfl rfl)
    exact(Pj rfl bb Tryz.underlying3 ((aH.all hR id).cell (by omega)) ⟨rfl,KR.refl _ _⟩)
   refine KP ?_ ?_
   ·refine Ld.one rfl fun F_ w_ hR hout hD=>?_
    have bc:F_ 16=iv (b i):=(hD.get 0 rfl rfl rfl)
    exact(LQ rfl rfl rfl (fun _ _=>by kernel_rfl) (K6 _) (Lo bc (Lo rfl (Lo rfl L5))) (Sh (b i) 0 255  _   ) (fun e_ w_ h_=>⟨_,h_.1,congrArg (Value.int .i64) (by unfold c8;omega),h_.2⟩))
   refine KP ?_ ?_
   ·refine Ld.one rfl fun F_ w_ hR hout hD=>?_
    have bd:F_ 13=iv (c8 (a i)):=(hD.get 0 rfl rfl rfl)
    have be:F_ 17=iv (c8 (b i)):=(hD.get 1 rfl rfl rfl)
    exact(LS rfl bd be (Mn rfl (by omega)) ⟨rfl,KR.refl _ _⟩)
   refine KP ?_ ?_
   ·refine Ld.one rfl fun F_ w_ hR hout hD=>?_
    have bf:F_ 18=iv ((c8 (a i))+(c8 (b i))):=(hD.get 0 rfl rfl rfl)
    exact(LQ rfl rfl rfl (fun _ _=>by kernel_rfl) (K6 _) (Lo bf (Lo rfl L5)) (V0 ((c8 (a i))+(c8 (b i))) 2  _ (by omega) (by omega)  ) (fun e_ w_ h_=>⟨_,h_.1,congrArg (Value.int .i64) (by omega),h_.2⟩))
   refine KP ?_ ?_
   ·refine Ld.one rfl fun F_ w_ hR hout hD=>?_
    have g9:F_ 9=iv ((i:Nat):Int):=(hD.get 0 rfl rfl rfl)
    exact(L3 i (s:=1) rfl ((hout 2 rfl (by decide)).trans ai) g9 (by omega) Tryz.underlying69 (by omega) (by kernel_rfl) (by omega) ⟨rfl,KR.refl _ _⟩)
   exact Mj
  intro bK aJ bL aK ap aj
  obtain⟨bh,bi,bj⟩:=Od aK an aH aI
  obtain⟨bl,bm,bn,bo,bp⟩:=t5 aj 2 ai 3 aE 4 ak 23 aF 6 am
  have bq:aJ 19=iv ((c8 (a i)+c8 (b i)+1)/2):=(aj 19).trans (ap 10 (by decide))
  have bt:aJ 20 = .pointer (some ⟨p1,i,none⟩):=(aj 20).trans (ap 11 (by decide))
  clear ap aj
  refine Oh rfl rfl rfl bt bq bh (by omega) (by kernel_rfl) fun bN bu aq=>?_
  have bv:=bi.all aq (aO p9 rfl)
  have bz:=bj.all aq (aQ ah rfl)
  refine KQ ?_
  refine Lz (KK (KL (KN (iv ((i+1:Nat):Int)) rr (LS rfl bp rfl (LX (by omega) (by omega)) rr) (KN (iv ((i+1:Nat):Int)) rr (KT rfl rfl rr) (KQ ?_)))))
  have bA:=K4 (iv ((i+1:Nat):Int))
  exact KK ⟨(16-(i+1)),by omega,i+1,by omega,rfl,bl,bm,bn,bo,bA,((aG.tr aK).trans aq (KS.ok (S:=fun _=>False) (KS.new K0 (L7 (Nat.le_of_eq e5.symm))) KZ)),(bu.next (Y5 a b i).symm),bv,bz⟩
 ·replace ae:=of_decide_eq_false ae
  refine Mm (Lp (Lp ?_))
  have bB:16=i:=by omega
  subst bB
  have bC:Of aY p1 69 (UD a b):=(an.last)
  refine Mk (KK (KM (KL (KN (LW (UD a b)) rr (Me KW rfl ai bC rr) (Lu KW rfl rfl rfl ak rfl aI fun bO bD bE=>?_)))))
  refine KQ ?_
  refine KK (Le ?_)
  exact Rm KW aF rfl rfl ak bD ⟨rfl,(aG.trans bE (KS.ok (S:=fun _=>False) (KS.new aA aD) KZ))⟩
theorem aAY(p x y:Int)(f:FD)(f0 f1 f2:Value)(T_f0:Nat->Prop)(T_f1:Nat->Prop)(T_f2:Nat->Prop)(w0:World)(h_f0:Mv w0 T_f0 f0 ((f).p0))(h_f1:Mv w0 T_f1 f1 ((f).p1))(h_f2:Mv w0 T_f2 f2 ((f).p2)) :
  Calls Tryz.prog 136 #[.agg #[.int .i64 ((f).W),.int .i64 ((f).H),f0,f1,f2],.int .i64 (p),.int .i64 (x),.int .i64 (y)] w0 fun e w'=>e = .returned (.int .i64 (aD0 f p x y))/\KR (fun _=>False) w0 w':=by
 refine Ly (args:=[.agg #[iv (f.W),iv (f.H),f0,f1,f2],iv p,iv x,iv y]) 72 Tryz.func136 rfl rfl (Nat.le_of_ble_eq_true rfl) ?_
 have hb:PY f:=⟨h_f0.lt256,h_f1.lt256,h_f2.lt256⟩
 obtain⟨u,hu⟩:∃ u,u=Xg x:=⟨_,rfl⟩
 obtain⟨v,hv⟩:∃ v,v=Xg y:=⟨_,rfl⟩
 have hu2 : -256<=u/\u<=256:=by rw[hu];unfold Xg;omega
 have hv2 : -256<=v/\v<=256:=by rw[hv];unfold Xg;omega
 have hm:aD0 f p x y=Xd f p u v:=by rw[hu,hv];rfl
 have a1:=TP hb p (u/2) (v/2)
 have a2:=TP hb p ((u+1)/2) (v/2)
 have a3:=TP hb p (u/2) ((v+1)/2)
 have a4:=TP hb p ((u+1)/2) ((v+1)/2)
 obtain⟨N,hN⟩:∃ N:Nat,(N:Int)=u%2+v%2:=⟨(u%2+v%2).toNat,by omega⟩
 obtain⟨M,hM⟩:∃ M:Int,M=2 ^ N:=⟨_,rfl⟩
 have hM2:(N=0/\M=1)\/(N=1/\M=2)\/(N=2/\M=4):=by rcases (by omega:N=0\/N=1\/N=2) with h|h|h <;> subst h <;> simp[hM]
 have g_f0:=KS.refl w0 T_f0
 have g_f1:=KS.refl w0 T_f1
 have g_f2:=KS.refl w0 T_f2
 refine KM (KL (LJ (vs:=[iv (f.W),iv (f.H),f0,f1,f2]) rfl rfl rfl rfl fun p1 w2 B4 g5 k3=>?_))
 obtain⟨aU,aV,aW⟩:=Od k3 h_f0 h_f1 h_f2
 refine Lb (iv 0) LE (KQ ?_)
 have aa:=K4 (iv p)
 have aX:=K4 (iv x)
 have aY:=K4 (iv y)
 have ap:=K4 (undef)
 have ab:=K4 (pt p1 0)
 refine KK (KM (KL (K2 Lw aX (LH (R:=fun v_ w_=>v_=iv u/\KR (fun _=>False) w2 w_) rfl rfl (LQ rfl rfl rfl (fun _ _=>by kernel_rfl) (K6 _) (Lo rfl (Lo rfl (Lo rfl L5))) (Sh x (-256) 256  _   ) (fun e_ w_ h_=>⟨_,h_.1,congrArg (Value.int .i64) (by rw[hu];unfold Xg;omega),h_.2⟩)) ?_))))
 rintro _ aZ ⟨rfl,aw⟩
 obtain⟨a8,a9,ba,bb⟩:=Pg aw aU aV aW B4
 refine K2 Lw aY (LH (R:=fun v_ w_=>v_=iv v/\KR (fun _=>False) aZ w_) rfl rfl (LQ rfl rfl rfl (fun _ _=>by kernel_rfl) (K6 _) (Lo rfl (Lo rfl (Lo rfl L5))) (Sh y (-256) 256  _   ) (fun e_ w_ h_=>⟨_,h_.1,congrArg (Value.int .i64) (by rw[hv];unfold Xg;omega),h_.2⟩)) ?_)
 rintro _ b9 ⟨rfl,az⟩
 obtain⟨ac,ae,af,ah⟩:=Pg az a8 a9 ba bb
 have aq:=(((KR.refl (fun _=>False) w0).tr k3).tr aw).tr az
 refine Lb (iv u) LE (Lb (iv v) LE (KQ ?_))
 have aA:=K4 (iv u)
 have aB:=K4 (iv v)
 refine KK (KM (KL (K2 Lw aA (KN (iv (u/2)) rr (SD 1 rfl rfl rfl (by decide) (by simp) rr) (K2 Lw aB (KN (iv (v/2)) rr (SD 1 rfl rfl rfl (by decide) (by simp) rr) (Lb (iv (u/2)) LE (Lb (iv (v/2)) LE (KQ ?_)))))))))
 have ai:=K4 (iv (u/2))
 have aj:=K4 (iv (v/2))
 refine KK (KM (KL (K2 Lw aA (KN (iv (u%2)) rr (W0 rfl rfl rfl (azY hu2) rr) (K2 Lw aB (KN (iv (v%2)) rr (W0 rfl rfl rfl (azY hv2) rr) (Lb (iv (u%2)) LE (Lb (iv (v%2)) LE (KQ ?_)))))))))
 have ak:=K4 (iv (u%2))
 have am:=K4 (iv (v%2))
 refine KK (KM (KL (Lb (iv 0) LE (KQ ?_))))
 have ar:=K4 (iv 0)
 refine KK (KM (KM (KL (K2 Lw ak (K2 Lw am (KN (iv ((N:Nat):Int)) rr (LS rfl rfl rfl (Mn hN.symm (by omega)) rr) (KQ ?_)))))))
 have aC:=K4 (iv ((N:Nat):Int))
 refine KK (Lm (KM (Lm (KM (Lm (KM (Lm (KM (KM (KM (KL ?_)))))))))))
 refine KN (.bool (decide (((N:Nat):Int)=2))) rr (MA rfl aC rfl rfl rr) (Lb (.bool (decide (((N:Nat):Int)=2))) LE (KQ ?_))
 have bc:=K4 (.bool (decide (((N:Nat):Int)=2)))
 refine KK ?_
 refine K5 bc (fun an=>?_) (fun an=>?_)
 ·replace an:=of_decide_eq_true an
  refine Mm (Lp (Lp (Mk (KK ?_))))
  refine NJ 15 [some 33,some 34,some 35,some 36,some 37,some 38,some 39,some 40,some 41,some 42,some 43,some 44,some 45,some 46,some 47] [Pd.eq (iv 0),Pd.eq (.agg #[iv (f.W),iv (f.H),f0,f1,f2]),Pd.eq (iv p),Pd.eq (iv (u/2)),Pd.eq (iv ((u+1)/2)),Pd.eq (iv (v/2)),Pd.eq (iv (NY f p ((u+1)/2) (v/2))),Pd.eq (.agg #[iv (f.W),iv (f.H),f0,f1,f2]),Pd.eq (iv p),Pd.eq (iv (u/2)),Pd.eq (iv (v/2)),Pd.eq (iv ((v+1)/2)),Pd.eq (iv (NY f p (u/2) ((v+1)/2))),Pd.eq (iv ((NY f p ((u+1)/2) (v/2))+(NY f p (u/2) ((v+1)/2)))),Pd.eq (iv (0+((NY f p ((u+1)/2) (v/2))+(NY f p (u/2) ((v+1)/2)))))] (by kernel_rfl) (by kernel_rfl) (by kernel_rfl) ?_ ?_
  ·refine KP ?_ ?_
   ·refine Ld.one rfl fun F_ w_ hR hout hD=>?_
    exact(KT rfl ((hout 13 rfl (by decide)).trans ar) ⟨rfl,KR.refl _ _⟩)
   refine KP ?_ ?_
   ·refine Ld.one rfl fun F_ w_ hR hout hD=>?_
    exact(KX La rfl ((hout 4 rfl (by decide)).trans ab) (ah.all hR id) ⟨rfl,KR.refl _ _⟩)
   refine KP ?_ ?_
   ·refine Ld.one rfl fun F_ w_ hR hout hD=>?_
    exact(KT rfl ((hout 1 rfl (by decide)).trans aa) ⟨rfl,KR.refl _ _⟩)
   refine KP ?_ ?_
   ·refine Ld.one rfl fun F_ w_ hR hout hD=>?_
    exact(KT rfl ((hout 9 rfl (by decide)).trans ai) ⟨rfl,KR.refl _ _⟩)
   refine KP ?_ ?_
   ·refine Ld.one rfl fun F_ w_ hR hout hD=>?_
    have bd:F_ 36=iv (u/2):=(hD.get 0 rfl rfl rfl)
    exact(LS rfl bd rfl (Mn (by omega) (by omega)) ⟨rfl,KR.refl _ _⟩)
   refine KP ?_ ?_
   ·refine Ld.one rfl fun F_ w_ hR hout hD=>?_
    exact(KT rfl ((hout 10 rfl (by decide)).trans aj) ⟨rfl,KR.refl _ _⟩)
   refine KP ?_ ?_
   ·refine Ld.one rfl fun F_ w_ hR hout hD=>?_
    have be:F_ 34 = .agg #[iv (f.W),iv (f.H),f0,f1,f2]:=(hD.get 0 rfl rfl rfl)
    have bf:F_ 35=iv p:=(hD.get 1 rfl rfl rfl)
    have bg:F_ 37=iv ((u+1)/2):=(hD.get 2 rfl rfl rfl)
    have bh:F_ 38=iv (v/2):=(hD.get 3 rfl rfl rfl)
    exact(LQ rfl rfl rfl (fun _ _=>by kernel_rfl) (K6 _) (Lo be (Lo bf (Lo bg (Lo bh L5)))) (Uz p ((u+1)/2) (v/2) f f0 f1 f2 T_f0 T_f1 T_f2 _  (ac.all hR KO.none) (ae.all hR KO.none) (af.all hR KO.none) ) (fun e_ w_ h_=>⟨_,h_.1,rfl,h_.2⟩))
   refine KP ?_ ?_
   ·refine Ld.one rfl fun F_ w_ hR hout hD=>?_
    exact(KX La rfl ((hout 4 rfl (by decide)).trans ab) (ah.all hR id) ⟨rfl,KR.refl _ _⟩)
   refine KP ?_ ?_
   ·refine Ld.one rfl fun F_ w_ hR hout hD=>?_
    exact(KT rfl ((hout 1 rfl (by decide)).trans aa) ⟨rfl,KR.refl _ _⟩)
   refine KP ?_ ?_
   ·refine Ld.one rfl fun F_ w_ hR hout hD=>?_
    exact(KT rfl ((hout 9 rfl (by decide)).trans ai) ⟨rfl,KR.refl _ _⟩)
   refine KP ?_ ?_
   ·refine Ld.one rfl fun F_ w_ hR hout hD=>?_
    exact(KT rfl ((hout 10 rfl (by decide)).trans aj) ⟨rfl,KR.refl _ _⟩)
   refine KP ?_ ?_
   ·refine Ld.one rfl fun F_ w_ hR hout hD=>?_
    have bi:F_ 43=iv (v/2):=(hD.get 0 rfl rfl rfl)
    exact(LS rfl bi rfl (Mn (by omega) (by omega)) ⟨rfl,KR.refl _ _⟩)
   refine KP ?_ ?_
   ·refine Ld.one rfl fun F_ w_ hR hout hD=>?_
    have bj:F_ 40 = .agg #[iv (f.W),iv (f.H),f0,f1,f2]:=(hD.get 0 rfl rfl rfl)
    have bl:F_ 41=iv p:=(hD.get 1 rfl rfl rfl)
    have bm:F_ 42=iv (u/2):=(hD.get 2 rfl rfl rfl)
    have bn:F_ 44=iv ((v+1)/2):=(hD.get 3 rfl rfl rfl)
    exact(LQ rfl rfl rfl (fun _ _=>by kernel_rfl) (K6 _) (Lo bj (Lo bl (Lo bm (Lo bn L5)))) (Uz p (u/2) ((v+1)/2) f f0 f1 f2 T_f0 T_f1 T_f2 _  (ac.all hR KO.none) (ae.all hR KO.none) (af.all hR KO.none) ) (fun e_ w_ h_=>⟨_,h_.1,rfl,h_.2⟩))
   refine KP ?_ ?_
   ·refine Ld.one rfl fun F_ w_ hR hout hD=>?_
    have bo:F_ 39=iv (NY f p ((u+1)/2) (v/2)):=(hD.get 0 rfl rfl rfl)
    have bp:F_ 45=iv (NY f p (u/2) ((v+1)/2)):=(hD.get 1 rfl rfl rfl)
    exact(LS rfl bo bp (Mn rfl (by omega)) ⟨rfl,KR.refl _ _⟩)
   refine KP ?_ ?_
   ·refine Ld.one rfl fun F_ w_ hR hout hD=>?_
    have bq:F_ 33=iv 0:=(hD.get 0 rfl rfl rfl)
    have bt:F_ 46=iv ((NY f p ((u+1)/2) (v/2))+(NY f p (u/2) ((v+1)/2))):=(hD.get 1 rfl rfl rfl)
    exact(LS rfl bq bt (Mn rfl (by omega)) ⟨rfl,KR.refl _ _⟩)
   exact Mj
  intro cd bu ce aD aE au
  obtain⟨aF,aG,aH,aI⟩:=Pg aD ac ae af ah
  obtain⟨aJ,bv,aK,aL,aM,aN,aO⟩:=t7 au 1 aa 72 ap 4 ab 9 ai 10 aj 11 ak 12 am
  have bz:bu 47=iv (0+((NY f p ((u+1)/2) (v/2))+(NY f p (u/2) ((v+1)/2)))):=(au 47).trans (aE 14 (by decide))
  clear aE au
  refine aEv rfl rfl rfl bz (KQ ?_)
  have bA:=K4 (iv (0+((NY f p ((u+1)/2) (v/2))+(NY f p (u/2) ((v+1)/2)))))
  refine Lz (KK (KL (K2 Lw bA (KN (.agg #[iv (f.W),iv (f.H),f0,f1,f2]) rr (KX La rfl aK aI rr) (K2 Lw aJ (K2 Lw aL (K2 Lw aN (KN (iv ((u+1)/2)) rr (LS rfl rfl rfl (Mn (by omega) (by omega)) rr) (K2 Lw aM (K2 Lw aO (KN (iv ((v+1)/2)) rr (LS rfl rfl rfl (Mn (by omega) (by omega)) rr) ?_)))))))))))
  refine L9 rfl rfl rfl rfl rfl (fun _ _=>by kernel_rfl) (Lo rfl (Lo rfl (Lo rfl (Lo rfl L5)))) (Uz p ((u+1)/2) ((v+1)/2) f f0 f1 f2 T_f0 T_f1 T_f2 _  aF aG aH ) fun cg aP=>?_
  obtain⟨bB,bC,bD,bE⟩:=Pg aP aF aG aH aI
  refine KN (iv ((0+((NY f p ((u+1)/2) (v/2))+(NY f p (u/2) ((v+1)/2))))+(NY f p ((u+1)/2) ((v+1)/2)))) rr (LS rfl rfl rfl (Mn rfl (by omega)) rr) (Lb (iv ((0+((NY f p ((u+1)/2) (v/2))+(NY f p (u/2) ((v+1)/2))))+(NY f p ((u+1)/2) ((v+1)/2)))) LE (KQ ?_))
  have bF:=K4 (iv ((0+((NY f p ((u+1)/2) (v/2))+(NY f p (u/2) ((v+1)/2))))+(NY f p ((u+1)/2) ((v+1)/2))))
  refine Lz (KK (KM (KL (K2 Lw bF (KN (.agg #[iv (f.W),iv (f.H),f0,f1,f2]) rr (KX La rfl aK bE rr) (K2 Lw aJ (K2 Lw aL (K2 Lw aM (L9 rfl rfl rfl rfl rfl (fun _ _=>by kernel_rfl) (Lo rfl (Lo rfl (Lo rfl (Lo rfl L5)))) (Uz p (u/2) (v/2) f f0 f1 f2 T_f0 T_f1 T_f2 _  bB bC bD ) fun bG bH=>?_)))))))))
  refine KN (iv (((0+((NY f p ((u+1)/2) (v/2))+(NY f p (u/2) ((v+1)/2))))+(NY f p ((u+1)/2) ((v+1)/2)))+(NY f p (u/2) (v/2)))) rr (LS rfl rfl rfl (Mn rfl (by omega)) rr) (Lb (iv (((0+((NY f p ((u+1)/2) (v/2))+(NY f p (u/2) ((v+1)/2))))+(NY f p ((u+1)/2) ((v+1)/2)))+(NY f p (u/2) (v/2)))) LE (KQ ?_))
  have bI:=K4 (iv (((0+((NY f p ((u+1)/2) (v/2))+(NY f p (u/2) ((v+1)/2))))+(NY f p ((u+1)/2) ((v+1)/2)))+(NY f p (u/2) (v/2))))
  refine KK (Mm (Mk (KK (KM (KL (K2 Lw bI (K2 Lw aN (K2 Lw aO (KN (iv ((N:Nat):Int)) rr (LS rfl rfl rfl (Mn hN.symm (by omega)) rr) (KN (iv M) rr (ayV N rfl rfl rfl (by rcases hM2 with ⟨h1,h2⟩ | ⟨h1,h2⟩ | ⟨h1,h2⟩ <;> subst h1 <;> rw[h2] <;> rfl) rr) (LH (R:=fun v_ w_=>v_=iv (Xd f p u v)/\KR (fun _=>False) bG w_) rfl rfl (LQ rfl rfl rfl (fun _ _=>by kernel_rfl) (K6 _) (Lo rfl (Lo rfl L5)) (V0 (((0+((NY f p ((u+1)/2) (v/2))+(NY f p (u/2) ((v+1)/2))))+(NY f p ((u+1)/2) ((v+1)/2)))+(NY f p (u/2) (v/2))) M  _ (by omega) (by omega)  ) (fun e_ w_ h_=>⟨_,h_.1,congrArg (Value.int .i64) (by first|(rw[(by omega:M=4)];have e:=V5 (f:=f) (p:=p) (u:=u) (v:=v) (by omega) (by omega);omega)|(rw[(by omega:M=2)];rcases (by omega:u%2=0\/v%2=0) with h0|h0;(have e:=Wq (f:=f) (p:=p) (u:=u) (v:=v) (by omega) (by omega);rw[show (u+1)/2=u/2 by omega];omega);(have e:=WC (f:=f) (p:=p) (u:=u) (v:=v) (by omega) (by omega);rw[show (v+1)/2=v/2 by omega];omega))|(rw[(by omega:M=1)];have e:=UH (f:=f) (p:=p) (u:=u) (v:=v) (by omega) (by omega);omega)),h_.2⟩)) ?_)))))))))))
  rintro _ ci ⟨rfl,bJ⟩
  refine Lb (iv (Xd f p u v)) LE (KQ ?_)
  have bK:=K4 (iv (Xd f p u v))
  refine KK (Le ?_)
  exact LC (v:=iv (Xd f p u v)) bv rfl rfl bK ⟨(by rw[hm]),((((aq.tr aD).tr aP).tr bH).tr bJ)⟩
 ·replace an:=of_decide_eq_false an
  refine Lf (KK (KM (KL (KN (.bool (decide (((N:Nat):Int)=1))) rr (MA rfl aC rfl rfl rr) (Lb (.bool (decide (((N:Nat):Int)=1))) LE (KQ ?_))))))
  have bL:=K4 (.bool (decide (((N:Nat):Int)=1)))
  refine KK ?_
  refine K5 bL (fun ao=>?_) (fun ao=>?_)
  ·replace ao:=of_decide_eq_true ao
   refine Mm (Lp (RF (by decide) (Lp (Mk (KK (KL (K2 Lw ar (KN (.agg #[iv (f.W),iv (f.H),f0,f1,f2]) rr (KX La rfl ab ah rr) (K2 Lw aa (K2 Lw ai (K2 Lw ak ?_)))))))))))
   refine KN (iv ((u+1)/2)) rr (LS rfl rfl rfl (Mn (by omega) (by omega)) rr) (K2 Lw aj (K2 Lw am (KN (iv ((v+1)/2)) rr (LS rfl rfl rfl (Mn (by omega) (by omega)) rr) (L9 rfl rfl rfl rfl rfl (fun _ _=>by kernel_rfl) (Lo rfl (Lo rfl (Lo rfl (Lo rfl L5)))) (Uz p ((u+1)/2) ((v+1)/2) f f0 f1 f2 T_f0 T_f1 T_f2 _  ac ae af ) fun cj aQ=>?_))))
   obtain⟨bM,bN,bO,bP⟩:=Pg aQ ac ae af ah
   refine KN (iv (0+(NY f p ((u+1)/2) ((v+1)/2)))) rr (LS rfl rfl rfl (Mn rfl (by omega)) rr) (Lb (iv (0+(NY f p ((u+1)/2) ((v+1)/2)))) LE (KQ ?_))
   have bQ:=K4 (iv (0+(NY f p ((u+1)/2) ((v+1)/2))))
   refine Lz (KK (KM (KL (K2 Lw bQ (KN (.agg #[iv (f.W),iv (f.H),f0,f1,f2]) rr (KX La rfl ab bP rr) (K2 Lw aa (K2 Lw ai (K2 Lw aj (L9 rfl rfl rfl rfl rfl (fun _ _=>by kernel_rfl) (Lo rfl (Lo rfl (Lo rfl (Lo rfl L5)))) (Uz p (u/2) (v/2) f f0 f1 f2 T_f0 T_f1 T_f2 _  bM bN bO ) fun bR bS=>?_)))))))))
   refine KN (iv ((0+(NY f p ((u+1)/2) ((v+1)/2)))+(NY f p (u/2) (v/2)))) rr (LS rfl rfl rfl (Mn rfl (by omega)) rr) (Lb (iv ((0+(NY f p ((u+1)/2) ((v+1)/2)))+(NY f p (u/2) (v/2)))) LE (KQ ?_))
   have bT:=K4 (iv ((0+(NY f p ((u+1)/2) ((v+1)/2)))+(NY f p (u/2) (v/2))))
   refine KK (Mm (Mk (KK (KM (KL (K2 Lw bT (K2 Lw ak (K2 Lw am (KN (iv ((N:Nat):Int)) rr (LS rfl rfl rfl (Mn hN.symm (by omega)) rr) (KN (iv M) rr (ayV N rfl rfl rfl (by rcases hM2 with ⟨h1,h2⟩ | ⟨h1,h2⟩ | ⟨h1,h2⟩ <;> subst h1 <;> rw[h2] <;> rfl) rr) (LH (R:=fun v_ w_=>v_=iv (Xd f p u v)/\KR (fun _=>False) bR w_) rfl rfl (LQ rfl rfl rfl (fun _ _=>by kernel_rfl) (K6 _) (Lo rfl (Lo rfl L5)) (V0 ((0+(NY f p ((u+1)/2) ((v+1)/2)))+(NY f p (u/2) (v/2))) M  _ (by omega) (by omega)  ) (fun e_ w_ h_=>⟨_,h_.1,congrArg (Value.int .i64) (by first|(rw[(by omega:M=4)];have e:=V5 (f:=f) (p:=p) (u:=u) (v:=v) (by omega) (by omega);omega)|(rw[(by omega:M=2)];rcases (by omega:u%2=0\/v%2=0) with h0|h0;(have e:=Wq (f:=f) (p:=p) (u:=u) (v:=v) (by omega) (by omega);rw[show (u+1)/2=u/2 by omega];omega);(have e:=WC (f:=f) (p:=p) (u:=u) (v:=v) (by omega) (by omega);rw[show (v+1)/2=v/2 by omega];omega))|(rw[(by omega:M=1)];have e:=UH (f:=f) (p:=p) (u:=u) (v:=v) (by omega) (by omega);omega)),h_.2⟩)) ?_)))))))))))
   rintro _ cm ⟨rfl,bU⟩
   refine Lb (iv (Xd f p u v)) LE (KQ ?_)
   have bV:=K4 (iv (Xd f p u v))
   refine KK (Le ?_)
   exact LC (v:=iv (Xd f p u v)) ap rfl rfl bV ⟨(by rw[hm]),(((aq.tr aQ).tr bS).tr bU)⟩
  ·replace ao:=of_decide_eq_false ao
   refine Lf (KK (Mm (RF (by decide) (Lp (RF (by decide) (Lp (Mk (KK (KM (KL (K2 Lw ar ?_)))))))))))
   refine KN (.agg #[iv (f.W),iv (f.H),f0,f1,f2]) rr (KX La rfl ab ah rr) (K2 Lw aa (K2 Lw ai (K2 Lw aj (L9 rfl rfl rfl rfl rfl (fun _ _=>by kernel_rfl) (Lo rfl (Lo rfl (Lo rfl (Lo rfl L5)))) (Uz p (u/2) (v/2) f f0 f1 f2 T_f0 T_f1 T_f2 _  ac ae af ) fun bW bX=>?_))))
   refine KN (iv (0+(NY f p (u/2) (v/2)))) rr (LS rfl rfl rfl (Mn rfl (by omega)) rr) (Lb (iv (0+(NY f p (u/2) (v/2)))) LE (KQ ?_))
   have bY:=K4 (iv (0+(NY f p (u/2) (v/2))))
   refine KK (Mm (Mk (KK (KM (KL (K2 Lw bY (K2 Lw ak (K2 Lw am (KN (iv ((N:Nat):Int)) rr (LS rfl rfl rfl (Mn hN.symm (by omega)) rr) (KN (iv M) rr (ayV N rfl rfl rfl (by rcases hM2 with ⟨h1,h2⟩ | ⟨h1,h2⟩ | ⟨h1,h2⟩ <;> subst h1 <;> rw[h2] <;> rfl) rr) (LH (R:=fun v_ w_=>v_=iv (Xd f p u v)/\KR (fun _=>False) bW w_) rfl rfl (LQ rfl rfl rfl (fun _ _=>by kernel_rfl) (K6 _) (Lo rfl (Lo rfl L5)) (V0 (0+(NY f p (u/2) (v/2))) M  _ (by omega) (by omega)  ) (fun e_ w_ h_=>⟨_,h_.1,congrArg (Value.int .i64) (by first|(rw[(by omega:M=4)];have e:=V5 (f:=f) (p:=p) (u:=u) (v:=v) (by omega) (by omega);omega)|(rw[(by omega:M=2)];rcases (by omega:u%2=0\/v%2=0) with h0|h0;(have e:=Wq (f:=f) (p:=p) (u:=u) (v:=v) (by omega) (by omega);rw[show (u+1)/2=u/2 by omega];omega);(have e:=WC (f:=f) (p:=p) (u:=u) (v:=v) (by omega) (by omega);rw[show (v+1)/2=v/2 by omega];omega))|(rw[(by omega:M=1)];have e:=UH (f:=f) (p:=p) (u:=u) (v:=v) (by omega) (by omega);omega)),h_.2⟩)) ?_)))))))))))
   rintro _ cn ⟨rfl,bZ⟩
   refine Lb (iv (Xd f p u v)) LE (KQ ?_)
   have b7:=K4 (iv (Xd f p u v))
   refine KK (Le ?_)
   exact LC (v:=iv (Xd f p u v)) ap rfl rfl b7 ⟨(by rw[hm]),((aq.tr bX).tr bZ)⟩
theorem TZ(p x y X Y:Int)(f:FD)(f0 f1 f2:Value)(T_f0:Nat->Prop)(T_f1:Nat->Prop)(T_f2:Nat->Prop)(w0:World)(h_f0:Mv w0 T_f0 f0 ((f).p0))(h_f1:Mv w0 T_f1 f1 ((f).p1))(h_f2:Mv w0 T_f2 f2 ((f).p2)) :
  Calls Tryz.prog 110 #[.agg #[.int .i64 ((f).W),.int .i64 ((f).H),f0,f1,f2],.int .i64 (p),.int .i64 (x),.int .i64 (y),.agg #[.int .i64 (X),.int .i64 (Y)]] w0 fun e w'=>e = .returned (.tuple #[LW (U2 f p x y X Y),.int .i64 (PC f p x y X Y)])/\KR (fun _=>False) w0 w':=by
 refine Ly (args:=[.agg #[iv (f.W),iv (f.H),f0,f1,f2],iv p,iv x,iv y,.agg #[iv X,iv Y]]) 69 Tryz.func110 rfl rfl (Nat.le_of_ble_eq_true rfl) ?_
 have g_f0:=KS.refl w0 T_f0
 have g_f1:=KS.refl w0 T_f1
 have g_f2:=KS.refl w0 T_f2
 refine KM (KL (LJ (vs:=[iv (f.W),iv (f.H),f0,f1,f2]) rfl rfl rfl rfl fun p1 w2 B4 g5 k3=>?_))
 obtain⟨bJ,bK,bL⟩:=Od k3 h_f0 h_f1 h_f2
 refine LJ (vs:=[iv X,iv Y]) rfl rfl rfl rfl fun an dN bM dO aO=>?_
 obtain⟨bN,bO,bP,bQ⟩:=Pg aO bJ bK bL B4
 have aP:=((KR.refl (fun _=>False) w0).tr k3).tr aO
 refine Mf rfl rfl rfl KW.2.2 fun aA dP aQ ao aR=>?_
 have aS:=L7 (Nat.le_of_eq aQ.symm)
 have ac:=KS.new aP aS
 clear aQ aS
 obtain⟨ae,af,ah,ai,bR⟩:=O6 aR bN bO bP bQ bM
 have ap:=aP.tr aR
 refine Lb (iv 0) LE (KQ ?_)
 have ab:=K4 (iv p)
 have aB:=K4 (iv x)
 have aD:=K4 (iv y)
 have aj:=K4 (undef)
 have ak:=K4 (pt p1 0)
 have aT:=K4 (pt an 0)
 have aa:=K4 (pt aA 0)
 refine KK (KM (KM ?_))
 by_cases aq:(NU f)≠0
 ·skip
  refine KL (KN (.agg #[iv (f.W),iv (f.H),f0,f1,f2]) rr (KX La rfl ak ai rr) (L9 rfl rfl rfl rfl rfl (fun _ _=>by kernel_rfl) (Lo rfl L5) (NG f f0 f1 f2 T_f0 T_f1 T_f2 _  ae af ah ) fun dQ aU=>?_))
  have bS:=ao.all aU id
  refine KN (.bool true) rr (Mw rfl rfl rfl (decide_eq_true aq) rr) (KN (.bool true) rr (KT rfl rfl rr) (Lq 3 false 18 Li (Lq 3 false 18 Li (KN (.bool true) rr (LB rfl rfl rfl rr) (KN (.bool true) rr (KT rfl rfl rr) (Lq 7 false 22 Li (Lq 7 false 22 Li (KN (.bool true) rr (LB rfl rfl rfl rr) (KN (.bool true) rr (KT rfl rfl rr) (Lq 11 false 26 Li (Lq 11 false 26 Li ?_)))))))))))
  refine Lq 11 false 26 Li (KN (.bool true) rr (LB rfl rfl rfl rr) (KN (.bool true) rr (KT rfl rfl rr) (Lq 16 false 31 Li (Lq 16 false 31 Li (Lq 16 false 31 Li (KN (.bool true) rr (LB rfl rfl rfl rr) (KQ ?_)))))))
  have bT:=K4 (.bool true)
  refine KK ?_
  refine K5 (t:=true) bT (fun _=>?_) (fun e=>by cases e)
  refine KM ?_
  have hno:¬ Ni f p x y:=by rintro ⟨h1,h2,h3,h4,h5,h6,h7⟩;first|exact absurd ((MP f).2 h1) (by assumption)|omega
  refine KL (KN (LW (fun _=>0)) rr (MQ (cells:=(Mp 16 (fun _=>0)).toArray) rfl (by kernel_rfl) rfl rr) (Lu KW rfl rfl rfl aa rfl bS fun dR bU bV=>?_))
  refine Lb (iv 70) LE (KQ ?_)
  have bW:=K4 (iv 70)
  refine KK (Le (Lx ?_))
  exact Mo aj rfl (MH KW rfl aa bU) (LF (v:=iv 70) rfl bW) ⟨(by first|rw[(Q2 hno).1,(Q2 hno).2]|rw[(Oz hpl hvn).1,(Oz hpl hvn).2,Oa hvn]|rw[(O9 hpl hv).1,(O9 hpl hv).2]),((ap.tr aU).trans bV (KS.ok (S:=fun _=>False) ac KZ))⟩
 ·skip
  by_cases ar:p<0
  ·skip
   refine KL (KN (.agg #[iv (f.W),iv (f.H),f0,f1,f2]) rr (KX La rfl ak ai rr) (L9 rfl rfl rfl rfl rfl (fun _ _=>by kernel_rfl) (Lo rfl L5) (NG f f0 f1 f2 T_f0 T_f1 T_f2 _  ae af ah ) fun dS aV=>?_))
   have bX:=ao.all aV id
   refine KN (.bool false) rr (Mw rfl rfl rfl (decide_eq_false aq) rr) (KN (.bool false) rr (KT rfl rfl rr) (Lj (iv p) 3 false 18 Li (KT rfl ab rr) (Lj (.bool true) 3 false 18 Li (Mc rfl rfl rfl (decide_eq_true ar) rr) (KN (.bool true) rr (Lt rfl rfl rfl rr) (KN (.bool true) rr (KT rfl rfl rr) (Lq 7 false 22 Li (Lq 7 false 22 Li (KN (.bool true) rr (LB rfl rfl rfl rr) (KN (.bool true) rr (KT rfl rfl rr) (Lq 11 false 26 Li (Lq 11 false 26 Li ?_)))))))))))
   refine Lq 11 false 26 Li (KN (.bool true) rr (LB rfl rfl rfl rr) (KN (.bool true) rr (KT rfl rfl rr) (Lq 16 false 31 Li (Lq 16 false 31 Li (Lq 16 false 31 Li (KN (.bool true) rr (LB rfl rfl rfl rr) (KQ ?_)))))))
   have bY:=K4 (.bool true)
   refine KK ?_
   refine K5 (t:=true) bY (fun _=>?_) (fun e=>by cases e)
   refine KM ?_
   have hno:¬ Ni f p x y:=by rintro ⟨h1,h2,h3,h4,h5,h6,h7⟩;first|exact absurd ((MP f).2 h1) (by assumption)|omega
   refine KL (KN (LW (fun _=>0)) rr (MQ (cells:=(Mp 16 (fun _=>0)).toArray) rfl (by kernel_rfl) rfl rr) (Lu KW rfl rfl rfl aa rfl bX fun dT bZ b7=>?_))
   refine Lb (iv 70) LE (KQ ?_)
   have b8:=K4 (iv 70)
   refine KK (Le (Lx ?_))
   exact Mo aj rfl (MH KW rfl aa bZ) (LF (v:=iv 70) rfl b8) ⟨(by first|rw[(Q2 hno).1,(Q2 hno).2]|rw[(Oz hpl hvn).1,(Oz hpl hvn).2,Oa hvn]|rw[(O9 hpl hv).1,(O9 hpl hv).2]),((ap.tr aV).trans b7 (KS.ok (S:=fun _=>False) ac KZ))⟩
  ·skip
   by_cases aC:3<=p
   ·skip
    refine KL (KN (.agg #[iv (f.W),iv (f.H),f0,f1,f2]) rr (KX La rfl ak ai rr) (L9 rfl rfl rfl rfl rfl (fun _ _=>by kernel_rfl) (Lo rfl L5) (NG f f0 f1 f2 T_f0 T_f1 T_f2 _  ae af ah ) fun dU aW=>?_))
    have b9:=ao.all aW id
    refine KN (.bool false) rr (Mw rfl rfl rfl (decide_eq_false aq) rr) (KN (.bool false) rr (KT rfl rfl rr) (Lj (iv p) 3 false 18 Li (KT rfl ab rr) (Lj (.bool false) 3 false 18 Li (Mc rfl rfl rfl (decide_eq_false ar) rr) (KN (.bool false) rr (Lt rfl rfl rfl rr) (KN (.bool false) rr (KT rfl rfl rr) (Lj (iv p) 7 false 22 Li (KT rfl ab rr) (Lj (.bool true) 7 false 22 Li (NO rfl rfl rfl (decide_eq_true aC) rr) (KN (.bool true) rr (Lt rfl rfl rfl rr) (KN (.bool true) rr (KT rfl rfl rr) (Lq 11 false 26 Li (Lq 11 false 26 Li ?_)))))))))))
    refine Lq 11 false 26 Li (KN (.bool true) rr (LB rfl rfl rfl rr) (KN (.bool true) rr (KT rfl rfl rr) (Lq 16 false 31 Li (Lq 16 false 31 Li (Lq 16 false 31 Li (KN (.bool true) rr (LB rfl rfl rfl rr) (KQ ?_)))))))
    have cd:=K4 (.bool true)
    refine KK ?_
    refine K5 (t:=true) cd (fun _=>?_) (fun e=>by cases e)
    refine KM ?_
    have hno:¬ Ni f p x y:=by rintro ⟨h1,h2,h3,h4,h5,h6,h7⟩;first|exact absurd ((MP f).2 h1) (by assumption)|omega
    refine KL (KN (LW (fun _=>0)) rr (MQ (cells:=(Mp 16 (fun _=>0)).toArray) rfl (by kernel_rfl) rfl rr) (Lu KW rfl rfl rfl aa rfl b9 fun dV ce cf=>?_))
    refine Lb (iv 70) LE (KQ ?_)
    have cg:=K4 (iv 70)
    refine KK (Le (Lx ?_))
    exact Mo aj rfl (MH KW rfl aa ce) (LF (v:=iv 70) rfl cg) ⟨(by first|rw[(Q2 hno).1,(Q2 hno).2]|rw[(Oz hpl hvn).1,(Oz hpl hvn).2,Oa hvn]|rw[(O9 hpl hv).1,(O9 hpl hv).2]),((ap.tr aW).trans cf (KS.ok (S:=fun _=>False) ac KZ))⟩
   ·skip
    by_cases aE:0<=x/\x<=64
    ·skip
     by_cases aX:0<=y/\y<=64
     ·skip
      refine KL (KN (.agg #[iv (f.W),iv (f.H),f0,f1,f2]) rr (KX La rfl ak ai rr) (L9 rfl rfl rfl rfl rfl (fun _ _=>by kernel_rfl) (Lo rfl L5) (NG f f0 f1 f2 T_f0 T_f1 T_f2 _  ae af ah ) fun ci aY=>?_))
      obtain⟨cj,cm,cn,co,cq,cr⟩:=Qh aY ae af ah ai bR ao
      refine KN (.bool false) rr (Mw rfl rfl rfl (decide_eq_false aq) rr) (KN (.bool false) rr (KT rfl rfl rr) (Lj (iv p) 3 false 18 Li (KT rfl ab rr) (Lj (.bool false) 3 false 18 Li (Mc rfl rfl rfl (decide_eq_false ar) rr) (KN (.bool false) rr (Lt rfl rfl rfl rr) (KN (.bool false) rr (KT rfl rfl rr) (Lj (iv p) 7 false 22 Li (KT rfl ab rr) (Lj (.bool false) 7 false 22 Li (NO rfl rfl rfl (decide_eq_false aC) rr) (KN (.bool false) rr (Lt rfl rfl rfl rr) (KN (.bool false) rr (KT rfl rfl rr) (Lj (iv x) 11 false 26 Li (KT rfl aB rr) (LZ (R:=fun v_ w_=>v_ = .bool true/\KR (fun _=>False) ci w_) 11 false 26 rfl rfl rfl rfl rfl (LQ rfl rfl rfl (fun _ _=>by kernel_rfl) (K6 _) (Lo rfl L5) (Qf x  _   ) (fun e_ w_ h_=>⟨_,h_.1,(congrArg Value.bool (decide_eq_true aE)),h_.2⟩)) ?_)))))))))))
      rintro _ ct ⟨rfl,aZ⟩
      obtain⟨cu,cv,cw,cy,cz,cA⟩:=Qh aZ cj cm cn co cq cr
      refine Lj (.bool false) 11 false 26 Li (Mq rfl rfl rfl rr) (KN (.bool false) rr (Lt rfl rfl rfl rr) (KN (.bool false) rr (KT rfl rfl rr) (Lj (iv y) 16 false 31 Li (KT rfl aD rr) (LZ (R:=fun v_ w_=>v_ = .bool true/\KR (fun _=>False) ct w_) 16 false 31 rfl rfl rfl rfl rfl (LQ rfl rfl rfl (fun _ _=>by kernel_rfl) (K6 _) (Lo rfl L5) (Qf y  _   ) (fun e_ w_ h_=>⟨_,h_.1,(congrArg Value.bool (decide_eq_true aX)),h_.2⟩)) ?_))))
      rintro _ dW ⟨rfl,a8⟩
      obtain⟨cB,cC,cD,cE,a9,cF⟩:=Qh a8 cu cv cw cy cz cA
      refine Lj (.bool false) 16 false 31 Li (Mq rfl rfl rfl rr) (KN (.bool false) rr (Lt rfl rfl rfl rr) (KQ ?_))
      have cG:=K4 (.bool false)
      refine KK ?_
      refine K5 (t:=false) cG (fun e=>by cases e) (fun _=>?_)
      refine Lf (KK (KM (KM ?_)))
      have hpl:Ni f p x y:=⟨(MP f).1 (by first|assumption|(apply Decidable.byContradiction;assumption)),by omega,by omega,by omega,by omega,by omega,by omega⟩
      refine KL (KN (.agg #[iv X,iv Y]) rr (KX L0 rfl aT a9 rr) (L9 rfl rfl rfl rfl rfl (fun _ _=>by kernel_rfl) (Lo rfl L5) (Wu X Y  _   ) fun dX ba=>?_))
      obtain⟨bb,bc,bd,be,bf,aF⟩:=Qh ba cB cC cD cE a9 cF
      have aG:=(((ap.tr aY).tr aZ).tr a8).tr ba
      refine Lb (iv (Qw X Y)) LE (KQ ?_)
      have bg:=K4 (iv (Qw X Y))
      refine KK (KM (KL (K2 Lw bg (KN (.bool (decide ((Qw X Y)≠0))) rr (Mw rfl rfl rfl rfl rr) (KQ ?_)))))
      have cH:=K4 (.bool (decide ((Qw X Y)≠0)))
      refine KK ?_
      refine K5 cH (fun au=>?_) (fun au=>?_)
      ·replace au:=of_decide_eq_true au
       refine KM ?_
       have hvn:¬ M1 X Y:=fun h=>absurd ((SL X Y).2 h) (by assumption)
       refine KL (KN (LW (fun _=>0)) rr (MQ (cells:=(Mp 16 (fun _=>0)).toArray) rfl (by kernel_rfl) rfl rr) (K2 Lw bg (Lu KW rfl rfl rfl aa rfl aF fun dY cI cJ=>?_)))
       refine Lb (iv (Qw X Y)) LE (KQ ?_)
       have cK:=K4 (iv (Qw X Y))
       refine KK (Le (Lx ?_))
       exact Mo aj rfl (MH KW rfl aa cI) (LF (v:=iv (Qw X Y)) rfl cK) ⟨(by first|rw[(Q2 hno).1,(Q2 hno).2]|rw[(Oz hpl hvn).1,(Oz hpl hvn).2,Oa hvn]|rw[(O9 hpl hv).1,(O9 hpl hv).2]),(aG.trans cJ (KS.ok (S:=fun _=>False) ac KZ))⟩
      ·replace au:=of_decide_eq_false au
       refine Lf (KK (KM ?_))
       have hv:M1 X Y:=(SL X Y).1 (by first|assumption|(apply Decidable.byContradiction;assumption))
       obtain⟨hv1,hv2,hv3,hv4⟩:=(show M1 X Y from hv)
       refine KL (Mf rfl rfl rfl KW.2.2 fun av dZ bh cL bi=>?_)
       have bj:=L7 (Nat.le_of_eq bh.symm)
       obtain⟨cM,cN,cO,cP,cQ,cR⟩:=WS bj bb bc bd be bf aF
       clear bh
       obtain⟨cS,cT,cU,cV,cW,cX⟩:=Qh bi bb bc bd be bf aF
       refine KQ ?_
       have cY:=K4 (pt av 0)
       refine KK (KM (KM (KL (KN (iv 0) rr (KT rfl rfl rr) (KQ ?_)))))
       have cZ:=K4 (iv 0)
       refine KK (Lm (M8 (fun nn FF ww=>∃ (n:Nat),(n<=16)/\nn=16-n/\FF 1=iv p/\FF 2=iv x/\FF 3=iv y/\FF 5=pt p1 0/\FF 9=pt an 0/\FF 10=pt aA 0/\FF 13=pt av 0/\FF 69=undef/\FF 43=iv ((n:Nat):Int)/\KR (fun _=>False) w0 ww/\Mv ww T_f0 f0 (f.p0)/\Mv ww T_f1 f1 (f.p1)/\Mv ww T_f2 f2 (f.p2)/\MJ ww p1 29 [iv (f.W),iv (f.H),f0,f1,f2]/\MJ ww an 67 [iv X,iv Y]/\Of ww aA 69 (fun _=>0)/\Of ww av 69 (upto n (fun _=>0) (mvN f p x y X Y))) (16-0) ⟨0,by omega,rfl,ab,aB,aD,ak,aT,aa,cY,aj,cZ,(aG.tr bi),cS,cT,cU,cV,cW,cX,cL.first⟩ ?_))
       rintro d8 d9 c5 ⟨n,i287,hn286,bl,bm,bn,bo,aH,aI,aJ,bp,aK,bq,bt,bu,bv,bz,aL,bA,bB⟩
       refine KM (KL (KN (.bool (decide (((n:Nat):Int)<16))) rr (Mc rfl aK rfl rfl rr) (KQ ?_)))
       have c6:=K4 (.bool (decide (((n:Nat):Int)<16)))
       refine KK (KM ?_)
       refine K5 c6 (fun aw=>?_) (fun aw=>?_)
       ·replace aw:=of_decide_eq_true aw
        refine Lf (KK (KM (Lm (KM (KL (K2 Lw aK (Lb (iv ((n:Nat):Int)) LE (KQ ?_))))))))
        have aM:=K4 (iv ((n:Nat):Int))
        refine KK (KL (K2 Lw aM (KN (.agg #[iv (f.W),iv (f.H),f0,f1,f2]) rr (KX La rfl bo bz rr) (K2 Lw bl (K2 Lw bm (K2 Lw aM (KN (iv (((n%4):Nat):Int)) rr (Rh rfl rfl rfl (by first|decide|omega) (Pn n 4) rr) (KN (iv (x+(((n%4):Nat):Int))) rr (LS rfl rfl rfl (Mn rfl (by omega)) rr) (KN (iv (2*(x+(((n%4):Nat):Int)))) rr (Nb rfl rfl rfl (Mn rfl (by omega)) rr) (KN (pt an 0) rr (KU (n:=1) rfl aH Tryz.underlying67 rfl (by kernel_rfl) (by decide) rfl rr) (KN (iv X) rr (KY rfl rfl Tryz.underlying3 aL rfl rfl rr) ?_)))))))))))
        refine KN (iv ((2*(x+(((n%4):Nat):Int)))+X)) rr (LS rfl rfl rfl (Mn rfl (by omega)) rr) (K2 Lw bn (K2 Lw aM (KN (iv (((n/4):Nat):Int)) rr (O8 rfl rfl rfl (by first|decide|omega) (LX (Pl n 4) (by omega)) rr) (KN (iv (y+(((n/4):Nat):Int))) rr (LS rfl rfl rfl (Mn rfl (by omega)) rr) (KN (iv (2*(y+(((n/4):Nat):Int)))) rr (Nb rfl rfl rfl (Mn rfl (by omega)) rr) (KN (pt an 1) rr (KU (n:=1) rfl aH Tryz.underlying67 rfl (by kernel_rfl) (by decide) rfl rr) (KN (iv Y) rr (KY rfl rfl Tryz.underlying3 aL rfl rfl rr) (KN (iv ((2*(y+(((n/4):Nat):Int)))+Y)) rr (LS rfl rfl rfl (Mn rfl (by omega)) rr) (L9 rfl rfl rfl rfl rfl (fun _ _=>by kernel_rfl) (Lo rfl (Lo rfl (Lo rfl (Lo rfl L5)))) (aAY p ((2*(x+(((n%4):Nat):Int)))+X) ((2*(y+(((n/4):Nat):Int)))+Y) f f0 f1 f2 T_f0 T_f1 T_f2 _  bt bu bv ) fun eb bC=>?_)))))))))
        obtain⟨c7,c9,da,db,dc,dd,de⟩:=Uc bC bt bu bv bz aL bA bB
        refine KN (.pointer (some ⟨av,n,none⟩)) rr (L3 n (s:=1) rfl aJ rfl (by omega) Tryz.underlying69 (by omega) (by kernel_rfl) (by omega) rr) (Oh rfl rfl rfl rfl rfl de (by omega) (by kernel_rfl) fun ee df am=>?_)
        have dg:=c7.all am cM.symm
        have dh:=c9.all am cN.symm
        have di:=da.all am cO.symm
        have dj:=db.all am (cP.symm p1 rfl)
        have dk:=dc.all am (cQ.symm an rfl)
        have dl:=dd.all am (cR.symm aA rfl)
        refine KQ ?_
        refine Lz (KK (KL (KN (iv ((n+1:Nat):Int)) rr (LS rfl aK rfl (LX (by omega) (by omega)) rr) (KN (iv ((n+1:Nat):Int)) rr (KT rfl rfl rr) (KQ ?_)))))
        have dm:=K4 (iv ((n+1:Nat):Int))
        exact KK ⟨(16-(n+1)),by omega,n+1,by omega,rfl,bl,bm,bn,bo,aH,aI,aJ,bp,dm,((bq.tr bC).trans am (KS.ok (S:=fun _=>False) (KS.new aG bj) KZ)),dg,dh,di,dj,dk,dl,(df.next rfl)⟩
       ·replace aw:=of_decide_eq_false aw
        refine Mm (Lp (Lp ?_))
        have dn:16=n:=by omega
        subst dn
        have dp:Of c5 av 69 (mvN f p x y X Y):=(bB.last)
        refine Mk (KK (KM (KL (KN (LW (mvN f p x y X Y)) rr (Me KW rfl aJ dp rr) (Lu KW rfl rfl rfl aI rfl bA fun eh dq dr=>?_)))))
        refine Lb (iv 0) LE (KQ ?_)
        have dt:=K4 (iv 0)
        refine KK (Le ?_)
        exact Mo bp rfl (MH KW rfl aI dq) (LF (v:=iv 0) rfl dt) ⟨(by first|rw[(Q2 hno).1,(Q2 hno).2]|rw[(Oz hpl hvn).1,(Oz hpl hvn).2,Oa hvn]|rw[(O9 hpl hv).1,(O9 hpl hv).2]),(bq.trans dr (KS.ok (S:=fun _=>False) ac KZ))⟩
     ·skip
      refine KL (KN (.agg #[iv (f.W),iv (f.H),f0,f1,f2]) rr (KX La rfl ak ai rr) (L9 rfl rfl rfl rfl rfl (fun _ _=>by kernel_rfl) (Lo rfl L5) (NG f f0 f1 f2 T_f0 T_f1 T_f2 _  ae af ah ) fun du bD=>?_))
      have dv:=ao.all bD id
      refine KN (.bool false) rr (Mw rfl rfl rfl (decide_eq_false aq) rr) (KN (.bool false) rr (KT rfl rfl rr) (Lj (iv p) 3 false 18 Li (KT rfl ab rr) (Lj (.bool false) 3 false 18 Li (Mc rfl rfl rfl (decide_eq_false ar) rr) (KN (.bool false) rr (Lt rfl rfl rfl rr) (KN (.bool false) rr (KT rfl rfl rr) (Lj (iv p) 7 false 22 Li (KT rfl ab rr) (Lj (.bool false) 7 false 22 Li (NO rfl rfl rfl (decide_eq_false aC) rr) (KN (.bool false) rr (Lt rfl rfl rfl rr) (KN (.bool false) rr (KT rfl rfl rr) (Lj (iv x) 11 false 26 Li (KT rfl aB rr) (LZ (R:=fun v_ w_=>v_ = .bool true/\KR (fun _=>False) du w_) 11 false 26 rfl rfl rfl rfl rfl (LQ rfl rfl rfl (fun _ _=>by kernel_rfl) (K6 _) (Lo rfl L5) (Qf x  _   ) (fun e_ w_ h_=>⟨_,h_.1,(congrArg Value.bool (decide_eq_true aE)),h_.2⟩)) ?_)))))))))))
      rintro _ dw ⟨rfl,bE⟩
      have dy:=dv.all bE id
      refine Lj (.bool false) 11 false 26 Li (Mq rfl rfl rfl rr) (KN (.bool false) rr (Lt rfl rfl rfl rr) (KN (.bool false) rr (KT rfl rfl rr) (Lj (iv y) 16 false 31 Li (KT rfl aD rr) (LZ (R:=fun v_ w_=>v_ = .bool false/\KR (fun _=>False) dw w_) 16 false 31 rfl rfl rfl rfl rfl (LQ rfl rfl rfl (fun _ _=>by kernel_rfl) (K6 _) (Lo rfl L5) (Qf y  _   ) (fun e_ w_ h_=>⟨_,h_.1,(congrArg Value.bool (decide_eq_false aX)),h_.2⟩)) ?_))))
      rintro _ ei ⟨rfl,bF⟩
      have dz:=dy.all bF id
      refine Lj (.bool true) 16 false 31 Li (Mq rfl rfl rfl rr) (KN (.bool true) rr (Lt rfl rfl rfl rr) (KQ ?_))
      have dA:=K4 (.bool true)
      refine KK ?_
      refine K5 (t:=true) dA (fun _=>?_) (fun e=>by cases e)
      refine KM ?_
      have hno:¬ Ni f p x y:=by rintro ⟨h1,h2,h3,h4,h5,h6,h7⟩;first|exact absurd ((MP f).2 h1) (by assumption)|omega
      refine KL (KN (LW (fun _=>0)) rr (MQ (cells:=(Mp 16 (fun _=>0)).toArray) rfl (by kernel_rfl) rfl rr) (Lu KW rfl rfl rfl aa rfl dz fun en dB dC=>?_))
      refine Lb (iv 70) LE (KQ ?_)
      have dD:=K4 (iv 70)
      refine KK (Le (Lx ?_))
      exact Mo aj rfl (MH KW rfl aa dB) (LF (v:=iv 70) rfl dD) ⟨(by first|rw[(Q2 hno).1,(Q2 hno).2]|rw[(Oz hpl hvn).1,(Oz hpl hvn).2,Oa hvn]|rw[(O9 hpl hv).1,(O9 hpl hv).2]),((((ap.tr bD).tr bE).tr bF).trans dC (KS.ok (S:=fun _=>False) ac KZ))⟩
    ·skip
     refine KL (KN (.agg #[iv (f.W),iv (f.H),f0,f1,f2]) rr (KX La rfl ak ai rr) (L9 rfl rfl rfl rfl rfl (fun _ _=>by kernel_rfl) (Lo rfl L5) (NG f f0 f1 f2 T_f0 T_f1 T_f2 _  ae af ah ) fun dE bG=>?_))
     have dF:=ao.all bG id
     refine KN (.bool false) rr (Mw rfl rfl rfl (decide_eq_false aq) rr) (KN (.bool false) rr (KT rfl rfl rr) (Lj (iv p) 3 false 18 Li (KT rfl ab rr) (Lj (.bool false) 3 false 18 Li (Mc rfl rfl rfl (decide_eq_false ar) rr) (KN (.bool false) rr (Lt rfl rfl rfl rr) (KN (.bool false) rr (KT rfl rfl rr) (Lj (iv p) 7 false 22 Li (KT rfl ab rr) (Lj (.bool false) 7 false 22 Li (NO rfl rfl rfl (decide_eq_false aC) rr) (KN (.bool false) rr (Lt rfl rfl rfl rr) (KN (.bool false) rr (KT rfl rfl rr) (Lj (iv x) 11 false 26 Li (KT rfl aB rr) (LZ (R:=fun v_ w_=>v_ = .bool false/\KR (fun _=>False) dE w_) 11 false 26 rfl rfl rfl rfl rfl (LQ rfl rfl rfl (fun _ _=>by kernel_rfl) (K6 _) (Lo rfl L5) (Qf x  _   ) (fun e_ w_ h_=>⟨_,h_.1,(congrArg Value.bool (decide_eq_false aE)),h_.2⟩)) ?_)))))))))))
     rintro _ eo ⟨rfl,bH⟩
     have dG:=dF.all bH id
     refine Lj (.bool true) 11 false 26 Li (Mq rfl rfl rfl rr) (KN (.bool true) rr (Lt rfl rfl rfl rr) (KN (.bool true) rr (KT rfl rfl rr) (Lq 16 false 31 Li (Lq 16 false 31 Li (Lq 16 false 31 Li (KN (.bool true) rr (LB rfl rfl rfl rr) (KQ ?_)))))))
     have dH:=K4 (.bool true)
     refine KK ?_
     refine K5 (t:=true) dH (fun _=>?_) (fun e=>by cases e)
     refine KM ?_
     have hno:¬ Ni f p x y:=by rintro ⟨h1,h2,h3,h4,h5,h6,h7⟩;first|exact absurd ((MP f).2 h1) (by assumption)|omega
     refine KL (KN (LW (fun _=>0)) rr (MQ (cells:=(Mp 16 (fun _=>0)).toArray) rfl (by kernel_rfl) rfl rr) (Lu KW rfl rfl rfl aa rfl dG fun ep dI dJ=>?_))
     refine Lb (iv 70) LE (KQ ?_)
     have dK:=K4 (iv 70)
     refine KK (Le (Lx ?_))
     exact Mo aj rfl (MH KW rfl aa dI) (LF (v:=iv 70) rfl dK) ⟨(by first|rw[(Q2 hno).1,(Q2 hno).2]|rw[(Oz hpl hvn).1,(Oz hpl hvn).2,Oa hvn]|rw[(O9 hpl hv).1,(O9 hpl hv).2]),(((ap.tr bG).tr bH).trans dJ (KS.ok (S:=fun _=>False) ac KZ))⟩
open Go.RowKit
structure Ch where
  m:Int
  px:Int
  py:Int
  nx:Int
  ny:Int
  b:Nat->Int
def chV(c:Ch):List Value:=.int .i64 c.m :: .int .i64 c.px :: .int .i64 c.py :: .int .i64 c.nx :: .int .i64 c.ny::Mp 16 c.b
abbrev OP(m px py nx ny:Int)(b:Nat->Int):List Value:=[.int .i64 m,.int .i64 px,.int .i64 py,.int .i64 nx,.int .i64 ny,.int .i64 (b 0),.int .i64 (b 1),.int .i64 (b 2),.int .i64 (b 3),.int .i64 (b 4),.int .i64 (b 5),.int .i64 (b 6),.int .i64 (b 7),.int .i64 (b 8),.int .i64 (b 9),.int .i64 (b 10),.int .i64 (b 11),.int .i64 (b 12),.int .i64 (b 13),.int .i64 (b 14),.int .i64 (b 15)]
abbrev PN(c:Ch):List Value:=OP c.m c.px c.py c.nx c.ny c.b
theorem Tb(n:Nat)(b:Nat->Int):OT (Mp n b):=fun v h=>by
 obtain⟨i,_,rfl⟩:=List.mem_map.1 h;rfl
theorem aE0(c:Ch):OT (chV c):=L4 rfl (Yq LE (Tb 16 c.b))
theorem LM:Rf Tryz.prog 71 21:=⟨_,Tryz.underlying71,rfl,by kernel_rfl⟩
theorem Q3:Rf Tryz.prog 69 16:=⟨_,Tryz.underlying69,rfl,by kernel_rfl⟩
section
variable {P:Program} {ρ:Operand->Value} {o:Oper} {w:World} {R:Value->World->Prop}
theorem PO{ty t:TypeId}{x:Operand}{p k n:Nat}{vs us:List Value}(hT:Rf P ty n)(ho:o.op = .load ty x)(hx:ρ x = .pointer (some ⟨p,k,none⟩))(hB:MJ w p t vs)(hkn:k+n<=vs.length)(hu:(vs.drop k).take n=us)(h:R (.agg us.toArray) w):Lg P ρ o w R:=by
 subst hu
 obtain⟨d,hu,hd,hs⟩:=hT
 have hlen:((vs.drop k).take n).length=n:=by rw[List.length_take,List.length_drop];omega
 have e:=run_loadVar_mid (P:=P) w p k ty ((vs.drop k).take n) d (fun q u hq=>by
  have hqn:q<n:=by have:=(List.getElem?_eq_some_iff.1 hq).1;omega
  exact hB.cell (by rwa [List.getElem?_take,if_pos hqn,List.getElem?_drop] at hq)) hu hd (by rw[hlen];exact hs)
 exact Nf (v:=.agg ((vs.drop k).take n).toArray) (w':=w) (by simp only[execOp,ho,hx,Instr.loadAt,Instr.sureAddr,Sem.run_bind,Sem.run_pure,Result.andThen_ok,e]) h
theorem aAX{ty t:TypeId}{x y:Operand}{p k:Nat}{vs us ns:List Value}(hT:Rf P ty us.length)(ho:o.op = .store ty x y)(hx:ρ x = .pointer (some ⟨p,k,none⟩))(hy:ρ y = .agg us.toArray)(hB:MJ w p t vs)(hk:k+us.length<=vs.length)(h1:OT us)(hn:vs.take k++us++vs.drop (k+us.length)=ns)
  (h:∀ w',MJ w' p t ns->KR (fun k=>k=p) w w'->R undef w'):Lg P ρ o w R:=by
 subst hn
 obtain⟨d,_,_,hs⟩:=hT
 have hst:=run_storeCells_at P p k t us 0 vs.toArray w hB (by simpa using hk) h1
 simp only[Nat.add_zero] at hst
 cases hq:P.info? ty with
 | none=>rw[hq] at hs;cases hs
 | some i =>
  have hs':i.size=us.length:=by simpa [hq] using hs
  have hsv:(storeVar ty ⟨p,k,none⟩ (.agg us.toArray)).run P w = .ok () (w.setRow p (vs.take k++us++vs.drop (k+us.length)).toArray):=by
   simp[storeVar,sizeOf,typeInfo,hq,hs',Value.cells,hst]
  have e:(execOp ρ o).run P w = .ok .skip (w.setRow p (vs.take k++us++vs.drop (k+us.length)).toArray):=by
   simp only[execOp,ho,hx,hy,Instr.storeAt,Instr.sureAddr,Sem.run_bind,Sem.run_pure,Result.andThen_ok,hsv]
  unfold Lg
  rw[e]
  exact h _ (setRow_heap _ _ _ _ _ _ hB) ((KR.refl (fun k=>k=p) w).setRow p (fun _=>rfl) _)
end
section
variable {ro:Option Nat} {P:Program} {N:Nat} {Q:(Exit->(Nat->Value)->World->Prop)} {F:Nat->Value} {w:World} {o:Oper}
theorem Pp{ops:Array Oper}{rest:List Oper}{ty t:TypeId}{x y:Operand}{p k:Nat}{vs us ns:List Value}(hT:Rf P ty us.length)(hg:o.guard=none)(hdn:o.dst=none)(ho:o.op = .store ty x y)(hx:ev (M3 N F) x = .pointer (some ⟨p,k,none⟩))(hy:ev (M3 N F) y = .agg us.toArray)(hB:MJ w p t vs)(hk:k+us.length<=vs.length)(h1:OT us)(hn:vs.take k++us++vs.drop (k+us.length)=ns)
  (h:∀ w',MJ w' p t ns->KR (fun k=>k=p) w w'->wl ro P N ops Q rest F w'):wl ro P N ops Q (o::rest) F w:=by
 refine NV hg (by rw[hdn];rfl) (aAX hT ho hx hy hB hk h1 hn fun w' hw hk=>?_)
 rw[hdn]
 exact h w' hw hk
end
def NM(m:Int):Bool:=decide (m=4) || decide (m=6)
def Nv(m:Int):Bool:=decide (m=5) || decide (m=6)
def N3(k:Int):Int:=if k=0 then 3 else if k=1 then 4 else if k=2 then 6 else -1
def Vv(b:Nat->Int):Nat->Bool
 | 0=>false
 | i+1=>Vv b i || decide (b i < -1048576\/1048576<b i)
def azq(k:Int)(c:Ch):Prop:=c.m<0\/N3 k<c.m\/(NM c.m=false/\NI c.px c.py 0 0=false)\/(Nv c.m=false/\NI c.nx c.ny 0 0=false)
instance (k:Int) (c:Ch):Decidable (azq k c):=by unfold azq;infer_instance
def chE(k:Int)(c:Ch):Int:=if azq k c then 120 else if Vv c.b 16=true then 120 else if M1 c.px c.py/\M1 c.nx c.ny then 0 else 90
theorem aDO{k:Int}{c:Ch}(h:¬ azq k c)(hf:Vv c.b 16=false):chE k c=if M1 c.px c.py/\M1 c.nx c.ny then 0 else 90:=by unfold chE;rw[if_neg h,if_neg (by rw[hf];exact Bool.false_ne_true)]
def Qj(c:Ch)(gx gy:Int):List Bool:=if NM c.m=true then P3 c.px c.py gx gy else []
def RL(c:Ch)(gx gy:Int):List Bool:=if Nv c.m=true then P3 c.nx c.ny gx gy else []
def Nz(c:Ch)(ax ay bx yy:Int):List Bool:=LT c.m++Qj c ax ay++RL c bx yy++RV c.b
def ch0:Ch:=⟨0,0,0,0,0,fun _=>0⟩
def stV(has:Bool)(l:List Nat)(gx gy:Int)(s:Option Nat):Int×Int×Int×Option Nat:=if has=true then (Se l gx gy s,R2 l gx gy s,QN l gx gy s,vrS l s) else (0,0,0,s)
def rd4(l:List Nat)(m:Int)(p n:Int×Int×Int×Option Nat):Ch×Int×Option Nat :=
 if (LV l n.2.2.2).2.1=0 then (⟨m,p.1,p.2.1,n.1,n.2.1,(LV l n.2.2.2).1⟩,0,(LV l n.2.2.2).2.2) else (ch0,(LV l n.2.2.2).2.1,(LV l n.2.2.2).2.2)
def VV(l:List Nat)(m:Int)(p n:Int×Int×Int×Option Nat):Ch×Int×Option Nat:=if n.2.2.1=0 then rd4 l m p n else (ch0,n.2.2.1,n.2.2.2)
def YT(l:List Nat)(m:Int)(bx yy:Int)(p:Int×Int×Int×Option Nat):Ch×Int×Option Nat:=if p.2.2.1=0 then VV l m p (stV (Nv m) l bx yy p.2.2.2) else (ch0,p.2.2.1,p.2.2.2)
def rd1(l:List Nat)(ax ay bx yy:Int)(m:Int×Option Nat):Ch×Int×Option Nat:=if m.2.isNone=true then (ch0,120,m.2) else YT l m.1 bx yy (stV (NM m.1) l ax ay m.2)
def Sz(l:List Nat)(k ax ay bx yy:Int)(st:Option Nat):Ch×Int×Option Nat:=rd1 l ax ay bx yy (Ls (LD l (N3 k)) st)
theorem Um{has:Bool}{l:List Nat}{gx gy:Int}{s:Option Nat}(h:has=true):stV has l gx gy s=(Se l gx gy s,R2 l gx gy s,QN l gx gy s,vrS l s):=if_pos h
theorem S3{has:Bool}{l:List Nat}{gx gy:Int}{s:Option Nat}(h:has=false):stV has l gx gy s=(0,0,0,s):=if_neg (by rw[h];exact Bool.false_ne_true)
open Go.RowKit
def azK(xs ys:List Int):Bool:=decide (xs=ys)
theorem WO(xs:List Int):azK xs xs=true:=decide_eq_true rfl
theorem ZO{xs ys:List Int}(h:azK xs ys=true):xs=ys:=of_decide_eq_true h
open Go.RowKit
def X2(c d:Ch):Bool:=decide (c.m=d.m) && (azK [c.px,c.py] [d.px,d.py] && (azK [c.nx,c.ny] [d.nx,d.ny] && Tz c.b d.b))
def VM(f p n:FD)(k x y:Int)(c:Ch):Nat->Int :=
 if c.m<0\/6<c.m then fun _=>0 else if c.m<4 then Wc f k x y c.m else if c.m=5 then U2 n k x y c.nx c.ny
 else if PC p k x y c.px c.py≠0\/c.m=4 then U2 p k x y c.px c.py else if PC n k x y c.nx c.ny≠0 then fun _=>0 else UD (U2 p k x y c.px c.py) (U2 n k x y c.nx c.ny)
def UO(f p n:FD)(k x y:Int)(c:Ch):Int :=
 if c.m<0\/6<c.m then 120 else if c.m<4 then Sr f k x y c.m else if c.m=5 then PC n k x y c.nx c.ny
 else if PC p k x y c.px c.py≠0\/c.m=4 then PC p k x y c.px c.py else if PC n k x y c.nx c.ny≠0 then PC n k x y c.nx c.ny else 0
section
variable {f p n:FD} {k x y:Int} {c:Ch}
theorem ay1{f:FD}{p x y X Y:Int}(h:PC f p x y X Y≠0):U2 f p x y X Y=fun _=>0:=by
 by_cases hp:Ni f p x y
 ·by_cases hv:M1 X Y
  ·exact absurd (O9 hp hv).1 h
  ·exact(Oz hp hv).2
 ·exact(Q2 hp).2
theorem X7(h:c.m<0\/6<c.m):VM f p n k x y c=(fun _=>0)/\UO f p n k x y c=120:=⟨if_pos h,if_pos h⟩
theorem aB9(h:0<=c.m/\c.m<4):VM f p n k x y c=Wc f k x y c.m/\UO f p n k x y c=Sr f k x y c.m:=by
 have n1:¬ (c.m<0\/6<c.m):=by omega
 exact⟨(if_neg n1).trans (if_pos h.2),(if_neg n1).trans (if_pos h.2)⟩
theorem VZ(h:c.m=5):VM f p n k x y c=U2 n k x y c.nx c.ny/\UO f p n k x y c=PC n k x y c.nx c.ny:=by
 have n1:¬ (c.m<0\/6<c.m):=by omega
 have n2:¬ c.m<4:=by omega
 exact⟨(if_neg n1).trans ((if_neg n2).trans (if_pos h)),(if_neg n1).trans ((if_neg n2).trans (if_pos h))⟩
theorem Ua(h:c.m=4):VM f p n k x y c=U2 p k x y c.px c.py/\UO f p n k x y c=PC p k x y c.px c.py:=by
 have n1:¬ (c.m<0\/6<c.m):=by omega
 have n2:¬ c.m<4:=by omega
 have n3:¬ c.m=5:=by omega
 exact⟨(if_neg n1).trans ((if_neg n2).trans ((if_neg n3).trans (if_pos (Or.inr h)))),(if_neg n1).trans ((if_neg n2).trans ((if_neg n3).trans (if_pos (Or.inr h))))⟩
theorem Zo(h:c.m=6)(e:PC p k x y c.px c.py≠0):VM f p n k x y c=U2 p k x y c.px c.py/\UO f p n k x y c=PC p k x y c.px c.py:=by
 have n1:¬ (c.m<0\/6<c.m):=by omega
 have n2:¬ c.m<4:=by omega
 have n3:¬ c.m=5:=by omega
 exact⟨(if_neg n1).trans ((if_neg n2).trans ((if_neg n3).trans (if_pos (Or.inl e)))),(if_neg n1).trans ((if_neg n2).trans ((if_neg n3).trans (if_pos (Or.inl e))))⟩
theorem Uf(h:c.m=6)(e:PC p k x y c.px c.py=0)(e2:PC n k x y c.nx c.ny≠0):VM f p n k x y c=(fun _=>0)/\UO f p n k x y c=PC n k x y c.nx c.ny:=by
 have n1:¬ (c.m<0\/6<c.m):=by omega
 have n2:¬ c.m<4:=by omega
 have n3:¬ c.m=5:=by omega
 have n4:¬ (PC p k x y c.px c.py≠0\/c.m=4):=fun z=>z.elim (fun z=>z e) (fun z=>by omega)
 exact⟨(if_neg n1).trans ((if_neg n2).trans ((if_neg n3).trans ((if_neg n4).trans (if_pos e2)))),(if_neg n1).trans ((if_neg n2).trans ((if_neg n3).trans ((if_neg n4).trans (if_pos e2))))⟩
theorem X4(h:c.m=6)(e:PC p k x y c.px c.py=0)(e2:PC n k x y c.nx c.ny=0):VM f p n k x y c=UD (U2 p k x y c.px c.py) (U2 n k x y c.nx c.ny)/\UO f p n k x y c=0:=by
 have n1:¬ (c.m<0\/6<c.m):=by omega
 have n2:¬ c.m<4:=by omega
 have n3:¬ c.m=5:=by omega
 have n4:¬ (PC p k x y c.px c.py≠0\/c.m=4):=fun z=>z.elim (fun z=>z e) (fun z=>by omega)
 exact⟨(if_neg n1).trans ((if_neg n2).trans ((if_neg n3).trans ((if_neg n4).trans (if_neg (fun z=>z e2))))),(if_neg n1).trans ((if_neg n2).trans ((if_neg n3).trans ((if_neg n4).trans (if_neg (fun z=>z e2)))))⟩
theorem Ux(h:c.m=4\/c.m=6)(e:PC p k x y c.px c.py≠0):VM f p n k x y c=(fun _=>0)/\UO f p n k x y c=PC p k x y c.px c.py:=by
 rcases h with h|h
 ·exact⟨(Ua h).1.trans (ay1 e),(Ua h).2⟩
 ·exact⟨(Zo h e).1.trans (ay1 e),(Zo h e).2⟩
theorem UK(h:c.m=5)(e:PC n k x y c.nx c.ny≠0):VM f p n k x y c=(fun _=>0)/\UO f p n k x y c=PC n k x y c.nx c.ny :=
 ⟨(VZ h).1.trans (ay1 e),(VZ h).2⟩
end
theorem Rv{m:Int}(h:NM m=true):m=4\/m=6:=by unfold NM at h;simpa using h
theorem Vf{m:Int}(h:NM m=false):m≠4/\m≠6:=by unfold NM at h;simpa using h
theorem Rs{m:Int}(h:Nv m=true):m=5\/m=6:=by unfold Nv at h;simpa using h
theorem aCc{m:Int}(h:Nv m=false):m≠5/\m≠6:=by unfold Nv at h;simpa using h
def c8M(a:Nat->Int):Nat->Int:=fun i=>min (max (a i) 0) 255
def buB(b:Nat->Int)(l:Nat->Int)(q:Int):Nat->Int:=if Q5 q=0 then c8M (Pu b (Ov (TC l q))) else fun _=>0
theorem aDn{b l:Nat->Int}{q:Int}(h:Q5 q=0):buB b l q=c8M (Pu b (Ov (TC l q))):=if_pos h
theorem aF7{b l:Nat->Int}{q:Int}(h:Q5 q≠0):buB b l q=fun _=>0:=if_neg h
structure aFT (k:Int) (c:Ch):Prop where
  m:0<=c.m/\c.m<=N3 k
  past:NM c.m=false->c.px=0/\c.py=0
  next:Nv c.m=false->c.nx=0/\c.ny=0
  far:∀ i,i<16 → -1048576<=c.b i/\c.b i<=1048576
  p:M1 c.px c.py
  n:M1 c.nx c.ny
theorem Wl{a b c d:Int}(h:NI a b c d=true):a=c/\b=d:=by unfold NI at h;simpa using h
theorem aE5{b:Nat->Int}:∀ n,Vv b n=false->∀ i,i<n → -1048576<=b i/\b i<=1048576:=by
 intro n
 induction n with
 | zero=>intro _ i hi;omega
 | succ n ih =>
  intro h i hi
  unfold Vv at h
  obtain⟨h1,h2⟩:=Bool.or_eq_false_iff.1 h
  by_cases e:i=n
  ·subst e;have:=of_decide_eq_false h2;omega
  ·exact ih h1 i (by omega)
theorem aDE{b:Nat->Int}:∀ n,(∀ i,i<n → -1048576<=b i/\b i<=1048576)->Vv b n=false:=by
 intro n
 induction n with
 | zero=>intro _;rfl
 | succ n ih =>
  intro h
  unfold Vv
  rw[ih fun i hi=>h i (by omega),decide_eq_false (by have:=h n (by omega);omega)];rfl
theorem aFG{k:Int}{c:Ch}(h:chE k c=0):aFT k c:=by
 unfold chE at h
 split at h
 ·cases h
 ·rename_i hb
  split at h
  ·cases h
  ·rename_i hf
   split at h
   ·rename_i hv
    have hf':Vv c.b 16=false:=by simpa using hf
    refine⟨?_,fun z=>?_,fun z=>?_,aE5 16 hf',hv.1,hv.2⟩
    ·unfold azq at hb;omega
    ·have:¬ (NI c.px c.py 0 0=false):=fun e=>hb (Or.inr (Or.inr (Or.inl ⟨z,e⟩)))
     exact Wl (by simpa using this)
    ·have:¬ (NI c.nx c.ny 0 0=false):=fun e=>hb (Or.inr (Or.inr (Or.inr ⟨z,e⟩)))
     exact Wl (by simpa using this)
   ·cases h
theorem aEH{k:Int}{c:Ch}(h:aFT k c):chE k c=0:=by
 have h1:¬ azq k c:=by
  unfold azq
  rintro (z|z | ⟨z,e⟩ | ⟨z,e⟩)
  ·have:=h.m;omega
  ·have:=h.m;omega
  ·obtain⟨a,b⟩:=h.past z;rw[a,b] at e;exact absurd e (by decide)
  ·obtain⟨a,b⟩:=h.next z;rw[a,b] at e;exact absurd e (by decide)
 rw[aDO h1 (aDE 16 h.far),if_pos ⟨h.p,h.n⟩]
theorem Uw(k:Int):N3 k<=6:=by unfold N3;split;omega;split;omega;split <;> omega
theorem YY{has:Bool}{l:List Nat}{a:Nat}{X Y gx gy:Int}(hv:M1 X Y)(h0:has=false->X=0/\Y=0)(hb:Nn l a (if has=true then P3 X Y gx gy else [])) :
  stV has l gx gy (some a)=(X,Y,0,some (a+(if has=true then P3 X Y gx gy else []).length)):=by
 cases has with
 | true =>
  rw[if_pos rfl] at hb
  obtain⟨h1,h2,h3,h4⟩:=aEf l a X Y gx gy hv hb
  rw[Um rfl,h1,h2,h3,h4,if_pos rfl]
 | false =>
  obtain⟨rfl,rfl⟩:=h0 rfl
  rw[S3 rfl,if_neg Bool.false_ne_true];rfl
theorem aD2{l:List Nat}{a:Nat}{k:Int}{c:Ch}{ax ay bx yy:Int}(hk:chE k c=0)(hb:Nn l a (Nz c ax ay bx yy)) :
  ∃ d,Sz l k ax ay bx yy (some a)=(d,0,some (a+(Nz c ax ay bx yy).length))/\X2 d c=true:=by
 have ho:=aFG hk
 have hmk:=Uw k
 unfold Nz at hb
 have hw:=RY l a c.m (N3 k) ho.m.1 (by have:=ho.m;omega) ho.m.2 hb.left.left.left
 have hp:=YY (has:=NM c.m) ho.p ho.past (show Nn l (a+(LT c.m).length) (Qj c ax ay) from hb.left.left.right)
 have hn:=YY (has:=Nv c.m) ho.n ho.next (show Nn l (a+(LT c.m++Qj c ax ay).length) (RL c bx yy) from hb.left.right)
 obtain⟨d,hs,hd⟩:=aBh l _ c.b hb.right
 refine⟨⟨c.m,c.px,c.py,c.nx,c.ny,d⟩,?_,?_⟩
 ·have e1:Ls (LD l (N3 k)) (some a)=(c.m,some (a+(LT c.m).length)):=by simp only[Ls,hw]
  unfold Sz;rw[e1];unfold rd1;rw[if_neg (by simp)]
  show YT l c.m bx yy (stV (NM c.m) l ax ay (some (a+(LT c.m).length)))=_
  rw[hp]
  unfold YT;rw[if_pos rfl]
  rw[show a+(LT c.m).length+(if NM c.m=true then P3 c.px c.py ax ay else []).length=a+(LT c.m++Qj c ax ay).length from by rw[List.length_append];unfold Qj;omega,hn]
  unfold VV;rw[if_pos rfl]
  rw[show a+(LT c.m++Qj c ax ay).length+(if Nv c.m=true then P3 c.nx c.ny bx yy else []).length=a+(LT c.m++Qj c ax ay++RL c bx yy).length from by rw[List.length_append (bs:=RL c bx yy)];unfold RL;omega]
  unfold rd4;simp only;rw[hs];simp only[if_true]
  rw[show a+(LT c.m++Qj c ax ay++RL c bx yy).length+(RV c.b).length=a+(Nz c ax ay bx yy).length from by unfold Nz;rw[List.length_append (bs:=RV c.b)];omega]
 ·unfold X2
  rw[WO,WO,decide_eq_true rfl,ayG (fun i hi=>(hd i hi).trans (azD _ _ (ho.far i hi).1 (ho.far i hi).2))];rfl
def Nq(l:List Nat)(k ax ay bx yy:Int)(st:Option Nat):Option Nat:=if (Sz l k ax ay bx yy st).2.1=0 then (Sz l k ax ay bx yy st).2.2 else st
theorem XF(l:List Nat)(n:Int)(a:Nat):Ls (LD l n) (some a)=match MM l a with
  | some (v,a')=>if n<v then (0,none) else (v,some a')
  | none=>(0,none):=by
 cases hq:MM l a with
 | none=>simp[Ls,LD,hq]
 | some x =>
  obtain⟨v,a'⟩:=x
  by_cases h:n<v
  ·simp[Ls,LD,hq,h]
  ·simp[Ls,LD,hq,h]
theorem Vm{l:List Nat}{m n:Int}(h:m<=n)(st:Option Nat) :
  Ls (LD l m) st=if (Ls (LD l n) st).2.isNone=true\/m<(Ls (LD l n) st).1 then (0,none) else Ls (LD l n) st:=by
 cases st with
 | none=>rfl
 | some a =>
  rw[XF l m a,XF l n a]
  cases MM l a with
  | none=>rfl
  | some x =>
   obtain⟨v,a'⟩:=x
   simp only
   by_cases h1:n<v
   ·rw[if_pos h1,if_pos (show m<v by omega)];exact(if_pos (Or.inl rfl)).symm
   ·rw[if_neg h1]
    by_cases h2:m<v
    ·rw[if_pos h2,if_pos (Or.inr h2)]
    ·rw[if_neg h2,if_neg (by rintro (z|z);cases z;exact h2 z)]
open Go.RowKit
def P2.ty(e:TypeId):Prop:=e=106\/e=5
def Rfi.ty(e:TypeId):Prop:=e=80
instance (e:TypeId):Decidable (P2.ty e):=by unfold P2.ty;infer_instance
instance (e:TypeId):Decidable (Rfi.ty e):=by unfold Rfi.ty;infer_instance
theorem P2.at{w:World}{T:Nat->Prop}{p:Nat}{l:List Nat}{st:Option Nat}(h:P2 w T p l st)(x:Nat)(hx:T x):∃ c e f,w.heap[x]? = some (.cells c e f)/\P2.ty e:=by
 obtain⟨_,g,rfl,h⟩:=h
 have hr:∃ a b,N2 w p g l a b:=by
  cases st with
  | none=>obtain⟨a,h⟩:=h;exact⟨a,_,h⟩
  | some a=>exact⟨a,_,h.2⟩
 obtain⟨a,b,h1,h2,_⟩:=hr
 rcases hx with rfl|rfl
 ·exact⟨_,_,_,h1,.inl rfl⟩
 ·exact⟨_,_,_,h2,.inr rfl⟩
theorem MJ.types{w:World}{p:Nat}{t:TypeId}{vs:List Value}(h:MJ w p t vs):∀ x,x=p->∀ c e f,w.heap[x]? = some (.cells c e f)->e=t:=by
 intro x hx c e f hc
 subst hx
 unfold MJ at h
 rw[h] at hc;cases hc;rfl
open Go.RowKit
structure Uj (α:Type) where
  t:TypeId
  e:TypeId
  k:Nat
  by_:Nat
  enc:α->List Value
  d:α
  z:Value
class Uj.Ok {α:Type} (r:Uj α):Prop where
  slice:Tryz.prog.underlying r.t=some (.slice r.e)
  info:(Tryz.prog.info? r.e).map (fun i=>(i.zero,i.size,i.bytes))=some (some r.z,r.k,r.by_)
  cells:r.z.cells.toList=r.enc r.d
  pos:0<r.k
  len:∀ x,(r.enc x).length=r.k
  one:∀ x,∀ u∈r.enc x,u.oneCell'=true
  small:r.by_<=192
section
variable {α:Type} {r:Uj α}
theorem UF[h:r.Ok](l:List α):(l.flatMap r.enc).length=l.length*r.k:=by
 induction l with
 | nil=>simp
 | cons x l ih=>rw[List.flatMap_cons,List.length_append,ih,h.len,List.length_cons,Nat.add_mul];omega
theorem aD1[h:r.Ok](l:List α)(i j:Nat)(hi:i<l.length)(hj:j<r.k):(l.flatMap r.enc)[i*r.k+j]? = (r.enc (l.getD i r.d))[j]? := by
 induction l generalizing i with
 | nil=>simp at hi
 | cons x l ih =>
  rw[List.flatMap_cons]
  cases i with
  | zero=>rw[Nat.zero_mul,Nat.zero_add,List.getElem?_append_left (by rw[h.len];exact hj)];rfl
  | succ i =>
   have hi':i<l.length:=by simpa using hi
   rw[List.getElem?_append_right (by rw[h.len,Nat.add_mul];omega),h.len,show (i+1)*r.k+j-r.k=i*r.k+j by rw[Nat.add_mul];omega,ih i hi']
   rfl
theorem aBD[h:r.Ok](l:List α):∀ u∈l.flatMap r.enc,u.oneCell'=true:=fun u hu=>by
 obtain⟨x,_,hx⟩:=List.mem_flatMap.1 hu
 exact h.one x u hx
def RoA(r:Uj α)(w:World)(T:Nat->Prop)(v:Value)(l:List α):Prop :=
 ∃ a cap,v = .slice a l.length cap/\l.length<=cap/\cap<=maxLen/\(a=none->cap=0)/\PI w T ∧
  (0<l.length->∃ b off,a=some ⟨b,off,none⟩/\T b/\∀ j u,(l.flatMap r.enc)[j]? = some u->w.cell? ⟨b,off+j,none⟩=some u)
theorem RoA.oneC{w:World}{T:Nat->Prop}{v:Value}{l:List α}(h:RoA r w T v l):oneC v=true:=by obtain⟨a,cap,rfl,_⟩:=h;rfl
def RP(r:Uj α)(w:World)(T:Nat->Prop)(v:Value)(l:List α):Prop:=w.ownsRow 0 r.e r.k v l.length (l.flatMap r.enc)/\∀ i,T i↔v.ownBlock=some i
theorem RP.nil(r:Uj α)(w:World):RP r w Mb (.slice none 0 0) []:=⟨World.ownsRow_nil w 0 r.e r.k,fun i=>⟨fun h=>h.elim,fun h=>by cases h⟩⟩
theorem RP.live{w:World}{T:Nat->Prop}{v:Value}{l:List α}(h:RP r w T v l):PI w T:=fun i hi=>(h.1.lt i ((h.2 i).1 hi)).2
theorem RP.all{S:Nat->Prop}{w w':World}{T:Nat->Prop}{v:Value}{l:List α}(h:RP r w T v l)(k:KR S w w')(ha:KO T S):RP r w' T v l:=by
 refine⟨⟨h.1.1,?_⟩,h.2⟩
 rcases h.1.2 with hn | ⟨g,cap,cur,rfl,hb,hg,rest⟩
 ·exact .inl hn
 ·exact .inr ⟨g,cap,cur,rfl,hb,k.at hg (ha g ((h.2 g).2 rfl)),rest⟩
instance {w w':World} {α:Type} {r:Uj α} {T:Nat->Prop} {v:Value} {l:List α}:Cr w w' (RP r w T v l) (RP r w' T v l):=⟨fun h k=>h.all k KO.none⟩
instance {w:World} {α:Type} {r:Uj α} {T:Nat->Prop} {v:Value} {l:List α}:Lv w (RP r w T v l) (T):=⟨fun h=>h.live⟩
theorem RP.roa{w:World}{T:Nat->Prop}{v:Value}{l:List α}(h:RP r w T v l):RoA r w T v l:=by
 have hL:=h.live
 rcases h.1.2 with ⟨rfl,h0⟩ | ⟨g,cap,cur,rfl,hb,hg,h1,h2,h3,h4⟩
 ·have:l=[]:=List.eq_nil_of_length_eq_zero h0
  subst this
  exact⟨none,0,rfl,Nat.le_refl _,by unfold maxLen;omega,fun _=>rfl,hL,fun h=>absurd h (by simp)⟩
 ·refine⟨some ⟨g,0,none⟩,cap,rfl,h1,h2,by simp,hL,fun _=>⟨g,0,rfl,(h.2 g).2 rfl,fun j u hj=>?_⟩⟩
  have:=h.1.cells (g:=g) rfl j u hj
  rwa [Addr.add_lit] at this
theorem RP.cells{w:World}{T:Nat->Prop}{v:Value}{l:List α}(h:RP r w T v l):Pw w T:=fun i hi=>by
 have hv:=(h.2 i).1 hi
 rcases h.1.2 with ⟨rfl,_⟩ | ⟨g,cap,cur,rfl,_,hg,_⟩
 ·cases hv
 ·cases hv;exact⟨_,hg,rfl⟩
theorem RP.row{A B:World}{row:Option Nat}{n:Nat}{T:Nat->Prop}{v:Value}{l:List α}(h:RP r A T v l)(hg:A.grownBy B row)(hr:Rq n A row):RP r B T v l:=h.all (Qi hg) (h.cells.apart hr)
theorem RP.of{w:World}{v:Value}{l:List α}(h:w.ownsRow 0 r.e r.k v l.length (l.flatMap r.enc)):RP r w (fun i=>v.ownBlock=some i) v l:=⟨h,fun _=>Iff.rfl⟩
theorem RP.oneC{w:World}{T:Nat->Prop}{v:Value}{l:List α}(h:RP r w T v l):oneC v=true:=h.roa.oneC
end
section
variable {α:Type} {r:Uj α} {ρ:Operand->Value} {o:Oper} {w:World} {R:Value->World->Prop}
theorem aEU{x ix:Operand}{T:Nat->Prop}{v:Value}{l:List α}{k:IntKind}[hk:r.Ok](j:Nat){i:Int}(ho:o.op = .indexAddr r.t x ix)(hx:ρ x=v)(hi:ρ ix = .int k i)(hij:i=(j:Int))(hb:RoA r w T v l)(hj:j<l.length)(h:R (NC v (j*r.k)) w):Lg Tryz.prog ρ o w R:=by
 subst hij
 obtain⟨a,cap,rfl,_,_,_,_,hc⟩:=hb
 obtain⟨b,off,rfl,_,_⟩:=hc (by omega)
 obtain⟨i0,hi0,hz0,hz1,hz2⟩:=info_parts hk.info
 exact Nf (v:=NC (.slice (some ⟨b,off,none⟩) l.length cap) (j*r.k)) (w':=w) (by simp[execOp,ho,hx,hi,Instr.indexAt,run_underlying hk.slice,asIntOf,sizeOf,typeInfo,hi0,hz1,hj,NC]) h
theorem aDZ{x:Operand}{T:Nat->Prop}{v:Value}{l:List α}{ty:TypeId}{n:Nat}{us:List Value}[hk:r.Ok](j m:Nat)(hT:Rf Tryz.prog ty n)(ho:o.op = .load ty x)(hx:ρ x=NC v (j*r.k+m))(hb:RoA r w T v l)(hj:j<l.length)(hm:m+n<=r.k)(hu:((r.enc (l.getD j r.d)).drop m).take n=us)(h:R (.agg us.toArray) w):Lg Tryz.prog ρ o w R:=by
 subst hu
 obtain⟨a,cap,rfl,_,_,_,_,hc⟩:=hb
 obtain⟨b,off,rfl,_,hcell⟩:=hc (by omega)
 obtain⟨d,hu,hd,hs⟩:=hT
 have hlen:(((r.enc (l.getD j r.d)).drop m).take n).length=n:=by rw[List.length_take,List.length_drop,hk.len];omega
 have e:=run_loadVar_mid (P:=Tryz.prog) w b (off+(j*r.k+m)) ty (((r.enc (l.getD j r.d)).drop m).take n) d (fun q u hq=>by
  have hqn:q<n:=by have:=(List.getElem?_eq_some_iff.1 hq).1;omega
  rw[show off+(j*r.k+m)+q=off+(j*r.k+(m+q)) by omega]
  refine hcell (j*r.k+(m+q)) u ?_
  rw[aD1 (r:=r) l j (m+q) hj (by omega)]
  rwa [List.getElem?_take,if_pos hqn,List.getElem?_drop] at hq) hu hd (by rw[hlen];exact hs)
 have hx':ρ x = .pointer (some ⟨b,off+(j*r.k+m),none⟩):=by rw[hx,NC,Addr.add_lit]
 exact Nf (v:=.agg (((r.enc (l.getD j r.d)).drop m).take n).toArray) (w':=w) (by simp only[execOp,ho,hx',Instr.loadAt,Instr.sureAddr,Sem.run_bind,Sem.run_pure,Result.andThen_ok,e]) h
theorem aEq{c:Call}{x:Operand}{T:Nat->Prop}{v:Value}{l:List α}[hk:r.Ok](ho:o.op = .call c)(hc:c={ callee:=.builtin .len,args:=#[x],argTypes:=#[r.t] })(hx:ρ x=v)(hb:RoA r w T v l)(h:R (.int .i64 ((l.length:Nat):Int)) w):Lg Tryz.prog ρ o w R:=by
 subst hc
 obtain⟨a,cap,rfl,_⟩:=hb
 exact aC3 ho rfl rfl rfl hk.slice hx h
end
section
variable {α:Type} {r:Uj α} {ro:Option Nat} {N:Nat} {Q:(Exit->(Nat->Value)->World->Prop)} {F:Nat->Value} {w:World} {o:Oper}
theorem SS{ops:Array Oper}{rest:List Oper}{c:Call}{x y:Operand}{T U:Nat->Prop}{v u:Value}{l m:List α}[hk:r.Ok](hg:o.guard=none)(hd:OD N o.dst=true)(ho:o.op = .call c)(hc:c={ callee:=.builtin .append,args:=#[x,y],argTypes:=#[r.t,r.t] })(hx:ev (M3 N F) x=v)(hy:ev (M3 N F) y=u)(hv:RP r w T v l)(hu:RoA r w U u m)(hl:l.length+m.length<549755813888)
  (h:∀ v' w' T',RP r w' T' v' (l++m)->KS w T T'->KR T w w'->wl ro Tryz.prog N ops Q rest (OQ F o.dst v') w'):wl ro Tryz.prog N ops Q (o::rest) F w:=by
 subst hc
 obtain⟨i0,hi0,hz0,hz1,hz2⟩:=info_parts hk.info
 obtain⟨a,cap,rfl,h1,h2,h3,_,hcu⟩:=hu
 cases a with
 | none =>
  have hc0:=h3 rfl
  subst hc0
  have hm:m=[]:=List.eq_nil_of_length_eq_zero (by omega)
  subst hm
  have hr:=run_append_owned_none (P:=Tryz.prog) w 0 r.t o.type r.e i0 r.k hk.slice hi0 v _ _ hv.1
  refine NV hg hd (Nf (v:=v) (w':=w) (by simp[execOp,ho,resolve,invoke,builtin,hx,hy,hr]) (h v w T (by rw[List.append_nil];exact hv) (KS.refl w T) (KR.refl _ _)))
 | some ad =>
  have hzs:r.z.cells.size=r.k:=by rw[← Array.length_toList,hk.cells,hk.len]
  obtain⟨v',w',hr,hown,hgr,hw⟩:=RJ (P:=Tryz.prog) w r.t o.type r.e i0 r.z r.k r.by_ hk.slice hi0 hz0 hz1 hz2 hzs hk.pos v l.length (l.flatMap r.enc) hv.1 ad m.length cap (m.flatMap r.enc) (UF (r:=r) m) (fun j x hj=>by
   have hp:0<m.length:=by
    rcases Nat.eq_zero_or_pos m.length with e|e
    ·have:m=[]:=List.eq_nil_of_length_eq_zero e
     subst this;simp at hj
    ·exact e
   obtain⟨b,off,e,_,hcell⟩:=hcu hp
   cases e
   rw[Addr.add_lit];exact hcell j x hj) (aBD (r:=r) m) (by unfold maxLen;omega) (by
    have hsm:=hk.small
    have:(l.length+m.length)*r.by_<=549755813888*192:=Nat.mul_le_mul (by omega) hsm
    omega)
  refine NV hg hd (Nf (v:=v') (w':=w') (by simp[execOp,ho,resolve,invoke,builtin,hx,hy,hr]) (h v' w' _ (RP.of (by rw[List.length_append,List.flatMap_append];exact hown)) (fun i hi=>?_) ((KR.refl T w).grown hgr (fun k e _=>(hv.2 k).2 e))))
  rcases hw with hw | ⟨g,hw,hge⟩
  ·exact .inl ((hv.2 i).2 (hw ▸ hi))
  ·rw[hw] at hi;cases hi;exact .inr hge
theorem TO{ops:Array Oper}{rest:List Oper}{parts:Array (Nat×Operand)}{n:Nat}{xs:List Operand}{vs:List Value}{l:List α}[hk:r.Ok](hg:o.guard=none)(hd:OD N o.dst=true)(ho:o.op = .buildSlice r.t n parts)(hn:n=l.length)(hp:parts.toList=(xs.zipIdx 0).map fun x=>(x.2,x.1))(hx:xs.map (ev (M3 N F))=vs)(hv:(vs.map fun v=>v.cells.toList)=l.map r.enc)(h0:0<l.length)(hsz:l.length*r.k<=65536)
  (h:∀ v w' T,RP r w' T v l->KS w Mb T->KR (fun _=>False) w w'->wl ro Tryz.prog N ops Q rest (OQ F o.dst v) w'):wl ro Tryz.prog N ops Q (o::rest) F w:=by
 subst hn;subst hx
 obtain⟨i0,hi0,hz0,hz1,hz2⟩:=info_parts hk.info
 have hpos:=hk.pos
 have hlp:0<l.length*r.k:=Nat.mul_pos h0 hpos
 have hlen:xs.length=l.length:=by have:=congrArg List.length hv;simpa using this
 have hflat:(xs.map (ev (M3 N F))).flatMap (fun v=>v.cells.toList)=l.flatMap r.enc:=by
  rw[List.flatMap_def,List.flatMap_def,hv]
 have hsize:∀ v∈xs.map (ev (M3 N F)),v.cells.size=r.k:=by
  intro v hv'
  have:v.cells.toList∈l.map r.enc:=by rw[← hv];exact List.mem_map.2 ⟨v,hv',rfl⟩
  obtain⟨x,_,e⟩:=List.mem_map.1 this
  rw[← Array.length_toList,← e,hk.len]
 have hrun:=run_buildSlice (P:=Tryz.prog) w r.t r.e l.length (parts.map fun (i,x)=>(i,ev (M3 N F) x)) (l.flatMap r.enc).toArray i0 r.z hk.slice hi0 hz0 (by rw[hz1];omega) (by rw[hz1];omega) (by
  rw[hz1]
  have e:(parts.map fun (i,x)=>(i,ev (M3 N F) x)).toList=((xs.map (ev (M3 N F))).zipIdx 0).map fun x=>(x.2,x.1):=by
   rw[Array.toList_map,hp,List.zipIdx_map,List.map_map,List.map_map];rfl
  rw[e,Great.fill_whole hpos _ _ hsize (by rw[List.length_map,hlen];simp),hflat])
 refine NV hg hd (Nf (v:=.slice (some ⟨w.heap.size,0,none⟩) l.length l.length) (w':=w.alloc (.cells (l.flatMap r.enc).toArray r.e)) (by simp[execOp,ho,hrun]) (h _ _ _ (RP.of ⟨UF (r:=r) l,.inr ⟨w.heap.size,l.length,_,rfl,Nat.zero_le _,heap_alloc_new _ _,Nat.le_refl _,by unfold maxLen;have:=Nat.le_mul_of_pos_right l.length hpos;omega,by rw[List.size_toArray,UF (r:=r)],?_⟩⟩) (fun i hi=>.inr ?_) ((KR.refl _ _).alloc _)))
 ·rw[List.toList_toArray];exact List.take_of_length_le (by rw[UF (r:=r)];exact Nat.le_refl _)
 ·cases hi;exact Nat.le_refl _
end
open Go.RowKit
structure Vc where
  X:Int
  Y:Int
def aGp:Uj Vc:={ t:=111,e:=67,k:=2,by_:=16,enc:=fun x=>[.int .i64 x.X,.int .i64 x.Y],d:=⟨0,0⟩,z:=.agg #[.int .i64 0,.int .i64 0] }
theorem aDV{a b:Int}:∀ u ∈ [Value.int .i64 a,Value.int .i64 b],u.oneCell'=true:=fun u hu=>by
 rcases List.mem_cons.1 hu with rfl|hu
 ·rfl
 ·rcases List.mem_cons.1 hu with rfl|hu
  ·rfl
  ·cases hu
instance rVec_ok:Uj.Ok aGp:=⟨Tryz.underlying111,by kernel_rfl,rfl,by decide,fun _=>rfl,fun _=>aDV,by decide⟩
def Tm(m n:Int):Option VF:=if Ob m n then some (Qo m n) else none
def Ns(m n:Int):Int:=if Ob m n then 0 else 1
theorem Uk{m n:Int}(h:Ob m n):Tm m n=some (Qo m n):=if_pos h
theorem Ya{m n:Int}(h:¬ Ob m n):Tm m n=none:=if_neg h
theorem UP{m n:Int}(h:Ob m n):Ns m n=0:=if_pos h
theorem WD{m n:Int}(h:¬ Ob m n):Ns m n=1:=if_neg h
end Go.Proofs.YtknjpdcpmpfklaaGreatDoor
