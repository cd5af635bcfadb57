/- What PictureEnds reaches of my texts, part 3. -/
import Derived.Test.YtknjpdcpmpfklaaGreatDoorPictureEndsB
set_option maxRecDepth 100000
set_option maxHeartbeats 4000000
set_option maxRecDepth 100000
namespace Go.Proofs.YtknjpdcpmpfklaaGreatDoor
open Go.RowKit
theorem NY(n a b:Int)(w0:World) :
  Calls Tryz.prog 116 #[.int .i64 (n),.int .i64 (a),.int .i64 (b)] w0 fun e w'=>e = .returned (.int .i64 (max a (min n b)))/\KO (fun _=>False) w0 w':=by
 refine Lr (args:=[iv n,iv a,iv b]) 12 Tryz.func116 rfl rfl (Nat.le_of_ble_eq_true rfl) ?_
 refine KJ (KH (KI (iv 0) rfl rfl (KS rfl rfl rr) (KM ?_)))
 have s3:=K4 (iv n)
 have s4:=K4 (iv a)
 have s5:=K4 (iv b)
 have s6:=K4 (undef)
 refine KG (KJ (KH (KR rfl rfl rfl s4 (KR rfl rfl rfl s3 (KR rfl rfl rfl s5 (KI (iv (min n b)) rfl rfl (QS rfl rfl rfl rfl rr) (KI (iv (max a (min n b))) rfl rfl (QO rfl rfl rfl rfl rr) (KI (iv (max a (min n b))) rfl rfl (KS rfl rfl rr) (KM ?_)))))))))
 have af:=K4 (iv (max a (min n b)))
 refine KG (Lb ?_)
 exact Lu (v:=iv (max a (min n b))) s6 rfl rfl af ⟨rfl,(KO.refl (fun _=>False) w0)⟩
theorem Pp(n:Int)(w0:World) :
  Calls Tryz.prog 51 #[.int .i64 (n)] w0 fun e w'=>e = .returned (.bool (Mk n))/\KO (fun _=>False) w0 w':=by
 refine Lr (args:=[iv n]) 14 Tryz.func51 rfl rfl (Nat.le_of_ble_eq_true rfl) ?_
 have K0:=KO.refl (fun _=>False) w0
 refine KJ (KH (KI (.bool false) rfl rfl (KS rfl rfl rr) (KM ?_)))
 have s3:=K4 (iv n)
 have s4:=K4 (undef)
 refine KG (KJ ?_)
 by_cases d5:8<=n
 ·skip
  by_cases d6:n<=64
  ·skip
   refine KH (KR rfl rfl rfl s3 (KI (.bool true) rfl rfl (Nf rfl rfl rfl (decide_eq_true d5) rr) (KI (.bool true) rfl rfl (KQ rfl rfl rr) (KT (iv n) 2 true 5 rfl rfl rfl rfl rfl (KQ rfl s3 rr) (KT (.bool true) 2 true 5 rfl rfl rfl rfl rfl (PM rfl rfl rfl (decide_eq_true d6) rr) (KI (.bool true) rfl rfl (Lo rfl rfl rfl rr) (KI (.bool true) rfl rfl (KQ rfl rfl rr) (KT (iv n) 6 true 9 rfl rfl rfl rfl rfl (KQ rfl s3 rr) (KT (iv (Int.tmod n 8)) 6 true 9 rfl rfl rfl rfl rfl (XN rfl rfl rfl (by first|decide|omega) rfl rr) (KT (.bool (decide ((Int.tmod n 8)=0))) 6 true 9 rfl rfl rfl rfl rfl (Mj rfl rfl rfl rfl rr) (KI (.bool (decide ((Int.tmod n 8)=0))) rfl rfl (Lo rfl rfl rfl rr) ?_)))))))))))
   refine KI (.bool (decide ((Int.tmod n 8)=0))) rfl rfl (KS rfl rfl rr) (KM ?_)
   have ah:=K4 (.bool (decide ((Int.tmod n 8)=0)))
   refine KG (Lb ?_)
   exact Lu (v:=.bool (decide ((Int.tmod n 8)=0))) s4 rfl rfl ah ⟨(by first|rw[TO (by omega)]|rw[S4 (by omega)]|rw[TW (by omega) (by omega)]),K0⟩
  ·skip
   refine KH (KR rfl rfl rfl s3 (KI (.bool true) rfl rfl (Nf rfl rfl rfl (decide_eq_true d5) rr) (KI (.bool true) rfl rfl (KQ rfl rfl rr) (KT (iv n) 2 true 5 rfl rfl rfl rfl rfl (KQ rfl s3 rr) (KT (.bool false) 2 true 5 rfl rfl rfl rfl rfl (PM rfl rfl rfl (decide_eq_false d6) rr) (KI (.bool false) rfl rfl (Lo rfl rfl rfl rr) (KI (.bool false) rfl rfl (KQ rfl rfl rr) (KN 6 true 9 rfl rfl rfl (Or.inl rfl) rfl (KN 6 true 9 rfl rfl rfl (Or.inl rfl) rfl (KN 6 true 9 rfl rfl rfl (Or.inl rfl) rfl (KI (.bool false) rfl rfl (Li rfl rfl rfl rr) ?_)))))))))))
   refine KI (.bool false) rfl rfl (KS rfl rfl rr) (KM ?_)
   have ai:=K4 (.bool false)
   refine KG (Lb ?_)
   exact Lu (v:=.bool false) s4 rfl rfl ai ⟨(by first|rw[TO (by omega)]|rw[S4 (by omega)]|rw[TW (by omega) (by omega)]),K0⟩
 ·skip
  refine KH (KR rfl rfl rfl s3 (KI (.bool false) rfl rfl (Nf rfl rfl rfl (decide_eq_false d5) rr) (KI (.bool false) rfl rfl (KQ rfl rfl rr) (KN 2 true 5 rfl rfl rfl (Or.inl rfl) rfl (KN 2 true 5 rfl rfl rfl (Or.inl rfl) rfl (KI (.bool false) rfl rfl (Li rfl rfl rfl rr) (KI (.bool false) rfl rfl (KQ rfl rfl rr) (KN 6 true 9 rfl rfl rfl (Or.inl rfl) rfl (KN 6 true 9 rfl rfl rfl (Or.inl rfl) rfl (KN 6 true 9 rfl rfl rfl (Or.inl rfl) rfl (KI (.bool false) rfl rfl (Li rfl rfl rfl rr) ?_)))))))))))
  refine KI (.bool false) rfl rfl (KS rfl rfl rr) (KM ?_)
  have aj:=K4 (.bool false)
  refine KG (Lb ?_)
  exact Lu (v:=.bool false) s4 rfl rfl aj ⟨(by first|rw[TO (by omega)]|rw[S4 (by omega)]|rw[TW (by omega) (by omega)]),K0⟩
def LD(f:FD)(p:Int):Int×Int:=if p=0 then (f.W,f.H) else (Int.tdiv f.W 2,Int.tdiv f.H 2)
theorem Qj(p:Int)(f:FD)(f0 f1 f2:Value)(T_f0:Nat->Prop)(T_f1:Nat->Prop)(T_f2:Nat->Prop)(w0:World)(hw:0<=f.W/\f.W<=64)(hh:0<=f.H/\f.H<=64)(_h_f0:Mh w0 T_f0 f0 ((f).p0))(_h_f1:Mh w0 T_f1 f1 ((f).p1))(_h_f2:Mh w0 T_f2 f2 ((f).p2)) :
  Calls Tryz.prog 52 #[.agg #[.int .i64 ((f).W),.int .i64 ((f).H),f0,f1,f2],.int .i64 (p)] w0 fun e w'=>e = .returned (.tuple #[.int .i64 ((LD f p).1),.int .i64 ((LD f p).2)])/\KO (fun _=>False) w0 w':=by
 refine Lr (args:=[.agg #[iv (f.W),iv (f.H),f0,f1,f2],iv p]) 18 Tryz.func52 rfl rfl (Nat.le_of_ble_eq_true rfl) ?_
 have g_f0:=KP.refl w0 T_f0
 have g_f1:=KP.refl w0 T_f1
 have g_f2:=KP.refl w0 T_f2
 refine KJ (KH (Lz (vs:=[iv (f.W),iv (f.H),f0,f1,f2]) rfl rfl rfl rfl fun p1 w2 B4 g5 k3=>?_))
 have ak:=(KO.refl (fun _=>False) w0).tr k3
 refine KI (iv 0) rfl rfl (KS rfl rfl rr) (KI (iv 0) rfl rfl (KS rfl rfl rr) (KM ?_))
 have aq:=K4 (iv p)
 have am:=K4 (undef)
 have ae:=K4 (pt p1 0)
 refine KG (KJ (KJ (KH (KR rfl rfl rfl aq (KI (.bool (decide (p=0))) rfl rfl (Mj rfl rfl rfl rfl rr) (KM ?_))))))
 have ar:=K4 (.bool (decide (p=0)))
 refine KG ?_
 refine K6 ar (fun ab=>?_) (fun ab=>?_)
 ·replace ab:=of_decide_eq_true ab
  refine KJ ?_
  refine QI [some 8,some 9,some 10,some 11,some 4,some 5] [Pd.eq (pt p1 0),Pd.eq (iv (f.W)),Pd.eq (pt p1 1),Pd.eq (iv (f.H)),Pd.eq (iv (f.W)),Pd.eq (iv (f.H))] (by kernel_rfl) (by kernel_rfl) ?_ ?_
  ·refine KL ?_ ?_
   ·refine La.one rfl fun F_ w_ hR hout hD=>?_
    exact(KU (n:=1) rfl ((hout 2 rfl (by decide)).trans ae) Tryz.underlying29 rfl (by kernel_rfl) (by decide) rfl ⟨rfl,KO.refl _ _⟩)
   refine KL ?_ ?_
   ·refine La.one rfl fun F_ w_ hR hout hD=>?_
    have g8:F_ 8=pt p1 0:=(hD.get 0 rfl rfl rfl)
    exact(KY rfl g8 Tryz.underlying3 (B4.all hR id) rfl rfl ⟨rfl,KO.refl _ _⟩)
   refine KL ?_ ?_
   ·refine La.one rfl fun F_ w_ hR hout hD=>?_
    exact(KU (n:=1) rfl ((hout 2 rfl (by decide)).trans ae) Tryz.underlying29 rfl (by kernel_rfl) (by decide) rfl ⟨rfl,KO.refl _ _⟩)
   refine KL ?_ ?_
   ·refine La.one rfl fun F_ w_ hR hout hD=>?_
    have av:F_ 10=pt p1 1:=(hD.get 0 rfl rfl rfl)
    exact(KY rfl av Tryz.underlying3 (B4.all hR id) rfl rfl ⟨rfl,KO.refl _ _⟩)
   refine KL ?_ ?_
   ·refine La.one rfl fun F_ w_ hR hout hD=>?_
    have g9:F_ 9=iv (f.W):=(hD.get 0 rfl rfl rfl)
    exact(KS rfl g9 ⟨rfl,KO.refl _ _⟩)
   refine KL ?_ ?_
   ·refine La.one rfl fun F_ w_ hR hout hD=>?_
    have az:F_ 11=iv (f.H):=(hD.get 0 rfl rfl rfl)
    exact(KS rfl az ⟨rfl,KO.refl _ _⟩)
   exact L0
  intro aQ an aR aA ai af
  have aB:=(af 18).trans am
  have aC:an 4=iv (f.W):=(af 4).trans (ai 4 (by decide))
  have aD:an 5=iv (f.H):=(af 5).trans (ai 5 (by decide))
  clear ai af
  refine KG (Lb (Lq ?_))
  exact L7 aB rfl (Ly (v:=iv (f.W)) rfl aC) (Ly (v:=iv (f.H)) rfl aD) ⟨(by unfold LD;first|rw[if_pos (by assumption)]|rw[if_neg (by assumption)]),(ak.tr aA)⟩
 ·replace ab:=of_decide_eq_false ab
  refine Lg (KG (KJ ?_))
  refine QI [some 12,some 13,some 14,some 15,some 16,some 17,some 4,some 5] [Pd.eq (pt p1 0),Pd.eq (iv (f.W)),Pd.eq (iv (Int.tdiv f.W 2)),Pd.eq (pt p1 1),Pd.eq (iv (f.H)),Pd.eq (iv (Int.tdiv f.H 2)),Pd.eq (iv (Int.tdiv f.W 2)),Pd.eq (iv (Int.tdiv f.H 2))] (by kernel_rfl) (by kernel_rfl) ?_ ?_
  ·refine KL ?_ ?_
   ·refine La.one rfl fun F_ w_ hR hout hD=>?_
    exact(KU (n:=1) rfl ((hout 2 rfl (by decide)).trans ae) Tryz.underlying29 rfl (by kernel_rfl) (by decide) rfl ⟨rfl,KO.refl _ _⟩)
   refine KL ?_ ?_
   ·refine La.one rfl fun F_ w_ hR hout hD=>?_
    have aE:F_ 12=pt p1 0:=(hD.get 0 rfl rfl rfl)
    exact(KY rfl aE Tryz.underlying3 (B4.all hR id) rfl rfl ⟨rfl,KO.refl _ _⟩)
   refine KL ?_ ?_
   ·refine La.one rfl fun F_ w_ hR hout hD=>?_
    have aF:F_ 13=iv (f.W):=(hD.get 0 rfl rfl rfl)
    exact(Pv rfl aF rfl (by first|decide|omega) (L2 rfl (by rw[O8 (by omega)];omega)) ⟨rfl,KO.refl _ _⟩)
   refine KL ?_ ?_
   ·refine La.one rfl fun F_ w_ hR hout hD=>?_
    exact(KU (n:=1) rfl ((hout 2 rfl (by decide)).trans ae) Tryz.underlying29 rfl (by kernel_rfl) (by decide) rfl ⟨rfl,KO.refl _ _⟩)
   refine KL ?_ ?_
   ·refine La.one rfl fun F_ w_ hR hout hD=>?_
    have aG:F_ 15=pt p1 1:=(hD.get 0 rfl rfl rfl)
    exact(KY rfl aG Tryz.underlying3 (B4.all hR id) rfl rfl ⟨rfl,KO.refl _ _⟩)
   refine KL ?_ ?_
   ·refine La.one rfl fun F_ w_ hR hout hD=>?_
    have aH:F_ 16=iv (f.H):=(hD.get 0 rfl rfl rfl)
    exact(Pv rfl aH rfl (by first|decide|omega) (L2 rfl (by rw[O8 (by omega)];omega)) ⟨rfl,KO.refl _ _⟩)
   refine KL ?_ ?_
   ·refine La.one rfl fun F_ w_ hR hout hD=>?_
    have aI:F_ 14=iv (Int.tdiv f.W 2):=(hD.get 0 rfl rfl rfl)
    exact(KS rfl aI ⟨rfl,KO.refl _ _⟩)
   refine KL ?_ ?_
   ·refine La.one rfl fun F_ w_ hR hout hD=>?_
    have aJ:F_ 17=iv (Int.tdiv f.H 2):=(hD.get 0 rfl rfl rfl)
    exact(KS rfl aJ ⟨rfl,KO.refl _ _⟩)
   exact L0
  intro aS ao aT aK aj ah
  have aL:=(ah 18).trans am
  have aM:ao 4=iv (Int.tdiv f.W 2):=(ah 4).trans (aj 6 (by decide))
  have aN:ao 5=iv (Int.tdiv f.H 2):=(ah 5).trans (aj 7 (by decide))
  clear aj ah
  refine KG (Lb ?_)
  exact L7 aL rfl (Ly (v:=iv (Int.tdiv f.W 2)) rfl aM) (Ly (v:=iv (Int.tdiv f.H 2)) rfl aN) ⟨(by unfold LD;first|rw[if_pos (by assumption)]|rw[if_neg (by assumption)]),(ak.tr aK)⟩
theorem Xv{w h:Int}(h1:w%8=0)(h2:h%8=0)(hw:0<=w)(hh:0<=h):Int.tdiv w 2*Int.tdiv h 2=w*h/4:=by
 rw[O8 hw,O8 hh]
 obtain⟨a,rfl⟩:∃ a,w=2*a:=⟨w/2,by omega⟩
 obtain⟨b,rfl⟩:∃ b,h=2*b:=⟨h/2,by omega⟩
 rw[show 2*a/2=a by omega,show 2*b/2=b by omega,show 2*a*(2*b)=4*(a*b) by rw[Int.mul_assoc,Int.mul_left_comm a 2 b,← Int.mul_assoc];rfl]
 omega
theorem Rx{f:FD}(hw:Mk f.W=true)(hh:Mk f.H=true)(p:Int):0<=(LD f p).1*(LD f p).2/\(LD f p).1*(LD f p).2<=4096/\(LD f p).1*(LD f p).2=(if p=0 then f.W*f.H else f.W*f.H/4):=by
 have h:=Oo hw hh
 have h1:=(Mu _).1 hw
 have h2:=(Mu _).1 hh
 unfold LD
 by_cases hp:p=0
 ·rw[if_pos hp,if_pos hp];refine⟨?_,?_,rfl⟩ <;> (dsimp only;omega)
 ·rw[if_neg hp,if_neg hp]
  have q:=Xv h1.2.2 h2.2.2 (by omega) (by omega)
  dsimp only
  rw[q];refine⟨?_,?_,rfl⟩ <;> omega
theorem QE{f:FD}(hw:Mk f.W=true)(hh:Mk f.H=true):QY f↔(f.p0.length:Int)=(LD f ((0:Nat):Int)).1*(LD f ((0:Nat):Int)).2/\(f.p1.length:Int)=(LD f ((1:Nat):Int)).1*(LD f ((1:Nat):Int)).2/\(f.p2.length:Int)=(LD f ((2:Nat):Int)).1*(LD f ((2:Nat):Int)).2:=by
 have har:=Oo hw hh
 rw[(Rx hw hh _).2.2,(Rx hw hh _).2.2,(Rx hw hh _).2.2,if_pos (show ((0:Nat):Int)=0 from rfl),if_neg (by decide),if_neg (by decide)]
 unfold QY
 rw[X3 (by omega)]
 exact⟨fun h=>h.2.2,fun h=>⟨hw,hh,h⟩⟩
theorem Qa{f:FD}(hw:Mk f.W=true)(hh:Mk f.H=true)(h0:(f.p0.length:Int)=(LD f ((0:Nat):Int)).1*(LD f ((0:Nat):Int)).2)(h1:(f.p1.length:Int)=(LD f ((1:Nat):Int)).1*(LD f ((1:Nat):Int)).2)(h2:(f.p2.length:Int)=(LD f ((2:Nat):Int)).1*(LD f ((2:Nat):Int)).2):Nn f=0:=azp ((QE hw hh).2 ⟨h0,h1,h2⟩)
theorem P5{f:FD}(hw:Mk f.W=true)(hh:Mk f.H=true)(h:(f.p0.length:Int)≠(LD f ((0:Nat):Int)).1*(LD f ((0:Nat):Int)).2):Nn f=70:=Ow fun k=>h ((QE hw hh).1 k).1
theorem P8{f:FD}(hw:Mk f.W=true)(hh:Mk f.H=true)(h:(f.p1.length:Int)≠(LD f ((1:Nat):Int)).1*(LD f ((1:Nat):Int)).2):Nn f=70:=Ow fun k=>h ((QE hw hh).1 k).2.1
theorem P6{f:FD}(hw:Mk f.W=true)(hh:Mk f.H=true)(h:(f.p2.length:Int)≠(LD f ((2:Nat):Int)).1*(LD f ((2:Nat):Int)).2):Nn f=70:=Ow fun k=>h ((QE hw hh).1 k).2.2
theorem M6(f:FD)(f0 f1 f2:Value)(T_f0:Nat->Prop)(T_f1:Nat->Prop)(T_f2:Nat->Prop)(w0:World)(h_f0:Mh w0 T_f0 f0 ((f).p0))(h_f1:Mh w0 T_f1 f1 ((f).p1))(h_f2:Mh w0 T_f2 f2 ((f).p2)) :
  Calls Tryz.prog 19 #[.agg #[.int .i64 ((f).W),.int .i64 ((f).H),f0,f1,f2]] w0 fun e w'=>e = .returned (.int .i64 (Nn f))/\KO (fun _=>False) w0 w':=by
 refine Lr (args:=[.agg #[iv (f.W),iv (f.H),f0,f1,f2]]) 36 Tryz.func19 rfl rfl (Nat.le_of_ble_eq_true rfl) ?_
 have g_f0:=KP.refl w0 T_f0
 have g_f1:=KP.refl w0 T_f1
 have g_f2:=KP.refl w0 T_f2
 refine KJ (KH (Lz (vs:=[iv (f.W),iv (f.H),f0,f1,f2]) rfl rfl rfl rfl fun p1 w2 B4 g5 k3=>?_))
 obtain⟨aR,aS,aT⟩:=Nu k3 h_f0 h_f1 h_f2
 have ap:=(KO.refl (fun _=>False) w0).tr k3
 refine KI (iv 0) rfl rfl (KS rfl rfl rr) (KM ?_)
 have ac:=K4 (undef)
 have aa:=K4 (pt p1 0)
 refine KG (KJ (KJ ?_))
 rcases Bool.eq_false_or_eq_true (Mk (f.W)) with aj|aj
 ·skip
  rcases Bool.eq_false_or_eq_true (Mk (f.H)) with aq|aq
  ·skip
   refine KH (KI (pt p1 0) rfl rfl (KU (n:=1) rfl aa Tryz.underlying29 rfl (by kernel_rfl) (by decide) rfl rr) (KI (iv (f.W)) rfl rfl (KY rfl rfl Tryz.underlying3 B4 rfl rfl rr) (LB (R:=fun v_ w_=>v_ = .bool true/\KO (fun _=>False) w2 w_) rfl rfl (LH rfl rfl rfl (fun _ _=>by kernel_rfl) (K5 _) (Lk rfl LR) (Pp (f.W)  _   ) (fun e_ w_ h_=>⟨_,h_.1,(congrArg Value.bool aj),h_.2⟩)) ?_)))
   rintro _ aU ⟨rfl,az⟩
   obtain⟨aV,aW,aX,aA⟩:=OV az aR aS aT B4
   refine KI (.bool false) rfl rfl (L9 rfl rfl rfl rr) (KI (.bool false) rfl rfl (KQ rfl rfl rr) (KT (pt p1 1) 4 false 11 rfl rfl rfl rfl rfl (KU (n:=1) rfl aa Tryz.underlying29 rfl (by kernel_rfl) (by decide) rfl rr) (KT (iv (f.H)) 4 false 11 rfl rfl rfl rfl rfl (KY rfl rfl Tryz.underlying3 aA rfl rfl rr) (LN (R:=fun v_ w_=>v_ = .bool true/\KO (fun _=>False) aU w_) 4 false 11 rfl rfl rfl rfl rfl (LH rfl rfl rfl (fun _ _=>by kernel_rfl) (K5 _) (Lk rfl LR) (Pp (f.H)  _   ) (fun e_ w_ h_=>⟨_,h_.1,(congrArg Value.bool aq),h_.2⟩)) ?_))))
   rintro _ bN ⟨rfl,aB⟩
   obtain⟨aC,aD,aE,ar⟩:=OV aB aV aW aX aA
   refine KT (.bool false) 4 false 11 rfl rfl rfl rfl rfl (L9 rfl rfl rfl rr) (KI (.bool false) rfl rfl (Li rfl rfl rfl rr) (KM ?_))
   have aY:=K4 (.bool false)
   refine KG ?_
   refine K6 (t:=false) aY (fun e=>by cases e) (fun _=>?_)
   refine Lg (KG (KJ (KJ ?_)))
   have hsw:Mk f.W=true:=by assumption
   have hsh:Mk f.H=true:=by assumption
   have hws:=(Mu _).1 hsw
   have hhs:=(Mu _).1 hsh
   have hA:=Rx hsw hsh
   have har:=Oo hsw hsh
   refine KH (KI (pt p1 2) rfl rfl (KU (n:=3) rfl aa Tryz.underlying29 rfl (by kernel_rfl) (by decide) rfl rr) (KI (.agg #[f0,f1,f2]) rfl rfl (aDb rfl rfl ar rfl rfl rfl rr) (KI (iv 0) rfl rfl (KQ rfl rfl rr) (KM ?_))))
   have au:=K4 (.agg #[f0,f1,f2])
   have ak:=K4 (iv 0)
   refine KG (Lm (Oy 4 (Mc (KJ (KH (KI (.bool true) rfl rfl (L4 rfl ak rfl rfl rr) (KM ?_)))))))
   have aZ:=K4 (.bool true)
   refine KG (KJ ?_)
   refine K6 (t:=true) aZ (fun _=>?_) (fun e=>by cases e)
   refine Lg (KG (KJ (Lm (KJ (KH (KR rfl rfl rfl ak (KI f0 rfl rfl (YP 0 rfl au ak (by decide) rfl rr) (KI (iv 0) rfl rfl (KS rfl rfl rr) (KI f0 rfl rfl (KS rfl rfl rr) (KM ?_))))))))))
   have a8:=K4 (iv 0)
   have a9:=K4 (f0)
   refine KG (KJ (KH (KI (.agg #[iv (f.W),iv (f.H),f0,f1,f2]) rfl rfl (KZ Lc rfl aa ar rr) (KR rfl rfl rfl a8 (LW rfl rfl rfl rfl rfl (fun _ _=>by kernel_rfl) (Lk rfl (Lk rfl LR)) (Qj 0 f f0 f1 f2 T_f0 T_f1 T_f2 _ (by omega) (by omega) aC aD aE ) fun bO aF=>?_)))))
   obtain⟨av,aG,aH,aI⟩:=OV aF aC aD aE ar
   have aJ:=((ap.tr az).tr aB).tr aF
   refine KI (.tuple #[iv ((LD f 0).1),iv ((LD f 0).2)]) rfl rfl (KQ rfl rfl rr) (KI (iv ((LD f 0).1)) rfl rfl (LL rfl rfl rfl rr) (KI (iv ((LD f 0).2)) rfl rfl (LL rfl rfl rfl rr) (KI (iv ((LD f 0).1)) rfl rfl (KS rfl rfl rr) (KI (iv ((LD f 0).2)) rfl rfl (KS rfl rfl rr) (KM ?_)))))
   have ba:=K4 (iv ((LD f 0).1))
   have bb:=K4 (iv ((LD f 0).2))
   refine KG (KJ (KH (KR rfl rfl rfl a9 (KI (iv (((f.p0).length:Nat):Int)) rfl rfl (QL rfl rfl rfl av rr) (KR rfl rfl rfl ba (KR rfl rfl rfl bb (KI (iv ((LD f ((0:Nat):Int)).1*(LD f ((0:Nat):Int)).2)) rfl rfl (Nj rfl rfl rfl (L2 rfl ⟨Int.le_trans (by decide) (hA _).1,Int.le_trans (hA _).2.1 (by decide)⟩) rr) (KI (.bool (decide ((((f.p0).length:Nat):Int)≠((LD f ((0:Nat):Int)).1*(LD f ((0:Nat):Int)).2)))) rfl rfl (Mb rfl rfl rfl rfl rr) (KM ?_)))))))))
   have bc:=K4 (.bool (decide ((((f.p0).length:Nat):Int)≠((LD f ((0:Nat):Int)).1*(LD f ((0:Nat):Int)).2))))
   refine KG ?_
   refine K6 bc (fun af=>?_) (fun af=>?_)
   ·replace af:=of_decide_eq_true af
    refine KJ (KH (KI (iv 70) rfl rfl (KS rfl rfl rr) (KM ?_)))
    have bd:=K4 (iv 70)
    refine KG (Lb (NT (Lq (Lq (NT (Lq ?_))))))
    exact Lu (v:=iv 70) ac rfl rfl bd ⟨(by first|rw[Qa hsw hsh (by first|assumption|(apply Decidable.byContradiction;assumption)) (by first|assumption|(apply Decidable.byContradiction;assumption)) (by first|assumption|(apply Decidable.byContradiction;assumption))]|rw[P5 hsw hsh (by assumption)]|rw[P8 hsw hsh (by assumption)]|rw[P6 hsw hsh (by assumption)]|rw[Ow (by rintro ⟨h1,h2,h3,h4,h5⟩;simp_all;done)]),aJ⟩
   ·replace af:=of_decide_eq_false af
    refine Lg (LC (KG (KH (KI (iv ((1:Nat):Int)) rfl rfl (LP rfl ak rfl (L6 (by omega) (by omega)) rr) (KI (iv ((1:Nat):Int)) rfl rfl (KQ rfl rfl rr) (KM ?_))))))
    have am:=K4 (iv ((1:Nat):Int))
    refine KG (Mc (KJ (KH (KI (.bool true) rfl rfl (L4 rfl am rfl rfl rr) (KM ?_)))))
    have be:=K4 (.bool true)
    refine KG (KJ ?_)
    refine K6 (t:=true) be (fun _=>?_) (fun e=>by cases e)
    refine Lg (KG (KJ (Lm (KJ (KH (KR rfl rfl rfl am (KI f1 rfl rfl (YP 1 rfl au am (by decide) rfl rr) (KI (iv ((1:Nat):Int)) rfl rfl (KS rfl rfl rr) (KI f1 rfl rfl (KS rfl rfl rr) (KM ?_))))))))))
    have bf:=K4 (iv ((1:Nat):Int))
    have bg:=K4 (f1)
    refine KG (KJ (KH (KI (.agg #[iv (f.W),iv (f.H),f0,f1,f2]) rfl rfl (KZ Lc rfl aa aI rr) (KR rfl rfl rfl bf (LW rfl rfl rfl rfl rfl (fun _ _=>by kernel_rfl) (Lk rfl (Lk rfl LR)) (Qj ((1:Nat):Int) f f0 f1 f2 T_f0 T_f1 T_f2 _ (by omega) (by omega) av aG aH ) fun bP aK=>?_)))))
    obtain⟨bh,aL,aM,bi⟩:=OV aK av aG aH aI
    have aN:=aJ.tr aK
    refine KI (.tuple #[iv ((LD f ((1:Nat):Int)).1),iv ((LD f ((1:Nat):Int)).2)]) rfl rfl (KQ rfl rfl rr) (KI (iv ((LD f ((1:Nat):Int)).1)) rfl rfl (LL rfl rfl rfl rr) (KI (iv ((LD f ((1:Nat):Int)).2)) rfl rfl (LL rfl rfl rfl rr) (KI (iv ((LD f ((1:Nat):Int)).1)) rfl rfl (KS rfl rfl rr) (KI (iv ((LD f ((1:Nat):Int)).2)) rfl rfl (KS rfl rfl rr) (KM ?_)))))
    have bj:=K4 (iv ((LD f ((1:Nat):Int)).1))
    have bl:=K4 (iv ((LD f ((1:Nat):Int)).2))
    refine KG (KJ (KH (KR rfl rfl rfl bg (KI (iv (((f.p1).length:Nat):Int)) rfl rfl (QL rfl rfl rfl aL rr) (KR rfl rfl rfl bj (KR rfl rfl rfl bl (KI (iv ((LD f ((1:Nat):Int)).1*(LD f ((1:Nat):Int)).2)) rfl rfl (Nj rfl rfl rfl (L2 rfl ⟨Int.le_trans (by decide) (hA _).1,Int.le_trans (hA _).2.1 (by decide)⟩) rr) (KI (.bool (decide ((((f.p1).length:Nat):Int)≠((LD f ((1:Nat):Int)).1*(LD f ((1:Nat):Int)).2)))) rfl rfl (Mb rfl rfl rfl rfl rr) (KM ?_)))))))))
    have bm:=K4 (.bool (decide ((((f.p1).length:Nat):Int)≠((LD f ((1:Nat):Int)).1*(LD f ((1:Nat):Int)).2))))
    refine KG ?_
    refine K6 bm (fun ah=>?_) (fun ah=>?_)
    ·replace ah:=of_decide_eq_true ah
     refine KJ (KH (KI (iv 70) rfl rfl (KS rfl rfl rr) (KM ?_)))
     have bn:=K4 (iv 70)
     refine KG (Lb (NT (Lq (Lq (NT (Lq ?_))))))
     exact Lu (v:=iv 70) ac rfl rfl bn ⟨(by first|rw[Qa hsw hsh (by first|assumption|(apply Decidable.byContradiction;assumption)) (by first|assumption|(apply Decidable.byContradiction;assumption)) (by first|assumption|(apply Decidable.byContradiction;assumption))]|rw[P5 hsw hsh (by assumption)]|rw[P8 hsw hsh (by assumption)]|rw[P6 hsw hsh (by assumption)]|rw[Ow (by rintro ⟨h1,h2,h3,h4,h5⟩;simp_all;done)]),aN⟩
    ·replace ah:=of_decide_eq_false ah
     refine Lg (LC (KG (KH (KI (iv ((2:Nat):Int)) rfl rfl (LP rfl am rfl (L6 (by omega) (by omega)) rr) (KI (iv ((2:Nat):Int)) rfl rfl (KQ rfl rfl rr) (KM ?_))))))
     have an:=K4 (iv ((2:Nat):Int))
     refine KG (Mc (KJ (KH (KI (.bool true) rfl rfl (L4 rfl an rfl rfl rr) (KM ?_)))))
     have bo:=K4 (.bool true)
     refine KG (KJ ?_)
     refine K6 (t:=true) bo (fun _=>?_) (fun e=>by cases e)
     refine Lg (KG (KJ (Lm (KJ (KH (KR rfl rfl rfl an (KI f2 rfl rfl (YP 2 rfl au an (by decide) rfl rr) (KI (iv ((2:Nat):Int)) rfl rfl (KS rfl rfl rr) (KI f2 rfl rfl (KS rfl rfl rr) (KM ?_))))))))))
     have bp:=K4 (iv ((2:Nat):Int))
     have bq:=K4 (f2)
     refine KG (KJ (KH (KI (.agg #[iv (f.W),iv (f.H),f0,f1,f2]) rfl rfl (KZ Lc rfl aa bi rr) (KR rfl rfl rfl bp (LW rfl rfl rfl rfl rfl (fun _ _=>by kernel_rfl) (Lk rfl (Lk rfl LR)) (Qj ((2:Nat):Int) f f0 f1 f2 T_f0 T_f1 T_f2 _ (by omega) (by omega) bh aL aM ) fun bQ aO=>?_)))))
     have bt:=aM.all aO KK.none
     have aP:=aN.tr aO
     refine KI (.tuple #[iv ((LD f ((2:Nat):Int)).1),iv ((LD f ((2:Nat):Int)).2)]) rfl rfl (KQ rfl rfl rr) (KI (iv ((LD f ((2:Nat):Int)).1)) rfl rfl (LL rfl rfl rfl rr) (KI (iv ((LD f ((2:Nat):Int)).2)) rfl rfl (LL rfl rfl rfl rr) (KI (iv ((LD f ((2:Nat):Int)).1)) rfl rfl (KS rfl rfl rr) (KI (iv ((LD f ((2:Nat):Int)).2)) rfl rfl (KS rfl rfl rr) (KM ?_)))))
     have bu:=K4 (iv ((LD f ((2:Nat):Int)).1))
     have bv:=K4 (iv ((LD f ((2:Nat):Int)).2))
     refine KG (KJ (KH (KR rfl rfl rfl bq (KI (iv (((f.p2).length:Nat):Int)) rfl rfl (QL rfl rfl rfl bt rr) (KR rfl rfl rfl bu (KR rfl rfl rfl bv (KI (iv ((LD f ((2:Nat):Int)).1*(LD f ((2:Nat):Int)).2)) rfl rfl (Nj rfl rfl rfl (L2 rfl ⟨Int.le_trans (by decide) (hA _).1,Int.le_trans (hA _).2.1 (by decide)⟩) rr) (KI (.bool (decide ((((f.p2).length:Nat):Int)≠((LD f ((2:Nat):Int)).1*(LD f ((2:Nat):Int)).2)))) rfl rfl (Mb rfl rfl rfl rfl rr) (KM ?_)))))))))
     have bz:=K4 (.bool (decide ((((f.p2).length:Nat):Int)≠((LD f ((2:Nat):Int)).1*(LD f ((2:Nat):Int)).2))))
     refine KG ?_
     refine K6 bz (fun ai=>?_) (fun ai=>?_)
     ·replace ai:=of_decide_eq_true ai
      refine KJ (KH (KI (iv 70) rfl rfl (KS rfl rfl rr) (KM ?_)))
      have bA:=K4 (iv 70)
      refine KG (Lb (NT (Lq (Lq (NT (Lq ?_))))))
      exact Lu (v:=iv 70) ac rfl rfl bA ⟨(by first|rw[Qa hsw hsh (by first|assumption|(apply Decidable.byContradiction;assumption)) (by first|assumption|(apply Decidable.byContradiction;assumption)) (by first|assumption|(apply Decidable.byContradiction;assumption))]|rw[P5 hsw hsh (by assumption)]|rw[P8 hsw hsh (by assumption)]|rw[P6 hsw hsh (by assumption)]|rw[Ow (by rintro ⟨h1,h2,h3,h4,h5⟩;simp_all;done)]),aP⟩
     ·replace ai:=of_decide_eq_false ai
      refine Lg (LC (KG (KH (KI (iv ((3:Nat):Int)) rfl rfl (LP rfl an rfl (L6 (by omega) (by omega)) rr) (KI (iv ((3:Nat):Int)) rfl rfl (KQ rfl rfl rr) (KM ?_))))))
      have bB:=K4 (iv ((3:Nat):Int))
      refine KG (Mc (KJ (KH (KI (.bool false) rfl rfl (L4 rfl bB rfl rfl rr) (KM ?_)))))
      have bC:=K4 (.bool false)
      refine KG (KJ ?_)
      refine K6 (t:=false) bC (fun e=>by cases e) (fun _=>?_)
      refine Me (Ls (Ls (Mf (KG (KJ (KH (KI (iv 0) rfl rfl (KS rfl rfl rr) (KM ?_))))))))
      have bD:=K4 (iv 0)
      refine KG (Lb ?_)
      exact Lu (v:=iv 0) ac rfl rfl bD ⟨(by first|rw[Qa hsw hsh (by first|assumption|(apply Decidable.byContradiction;assumption)) (by first|assumption|(apply Decidable.byContradiction;assumption)) (by first|assumption|(apply Decidable.byContradiction;assumption))]|rw[P5 hsw hsh (by assumption)]|rw[P8 hsw hsh (by assumption)]|rw[P6 hsw hsh (by assumption)]|rw[Ow (by rintro ⟨h1,h2,h3,h4,h5⟩;simp_all;done)]),aP⟩
  ·skip
   refine KH (KI (pt p1 0) rfl rfl (KU (n:=1) rfl aa Tryz.underlying29 rfl (by kernel_rfl) (by decide) rfl rr) (KI (iv (f.W)) rfl rfl (KY rfl rfl Tryz.underlying3 B4 rfl rfl rr) (LB (R:=fun v_ w_=>v_ = .bool true/\KO (fun _=>False) w2 w_) rfl rfl (LH rfl rfl rfl (fun _ _=>by kernel_rfl) (K5 _) (Lk rfl LR) (Pp (f.W)  _   ) (fun e_ w_ h_=>⟨_,h_.1,(congrArg Value.bool aj),h_.2⟩)) ?_)))
   rintro _ bE ⟨rfl,aQ⟩
   have bF:=B4.all aQ id
   refine KI (.bool false) rfl rfl (L9 rfl rfl rfl rr) (KI (.bool false) rfl rfl (KQ rfl rfl rr) (KT (pt p1 1) 4 false 11 rfl rfl rfl rfl rfl (KU (n:=1) rfl aa Tryz.underlying29 rfl (by kernel_rfl) (by decide) rfl rr) (KT (iv (f.H)) 4 false 11 rfl rfl rfl rfl rfl (KY rfl rfl Tryz.underlying3 bF rfl rfl rr) (LN (R:=fun v_ w_=>v_ = .bool false/\KO (fun _=>False) bE w_) 4 false 11 rfl rfl rfl rfl rfl (LH rfl rfl rfl (fun _ _=>by kernel_rfl) (K5 _) (Lk rfl LR) (Pp (f.H)  _   ) (fun e_ w_ h_=>⟨_,h_.1,(congrArg Value.bool aq),h_.2⟩)) ?_))))
   rintro _ bR ⟨rfl,bG⟩
   refine KT (.bool true) 4 false 11 rfl rfl rfl rfl rfl (L9 rfl rfl rfl rr) (KI (.bool true) rfl rfl (Li rfl rfl rfl rr) (KM ?_))
   have bH:=K4 (.bool true)
   refine KG ?_
   refine K6 (t:=true) bH (fun _=>?_) (fun e=>by cases e)
   refine KJ (KH (KI (iv 70) rfl rfl (KS rfl rfl rr) (KM ?_)))
   have bI:=K4 (iv 70)
   refine KG (Lb (Lq ?_))
   exact Lu (v:=iv 70) ac rfl rfl bI ⟨(by first|rw[Qa hsw hsh (by first|assumption|(apply Decidable.byContradiction;assumption)) (by first|assumption|(apply Decidable.byContradiction;assumption)) (by first|assumption|(apply Decidable.byContradiction;assumption))]|rw[P5 hsw hsh (by assumption)]|rw[P8 hsw hsh (by assumption)]|rw[P6 hsw hsh (by assumption)]|rw[Ow (by rintro ⟨h1,h2,h3,h4,h5⟩;simp_all;done)]),((ap.tr aQ).tr bG)⟩
 ·skip
  refine KH (KI (pt p1 0) rfl rfl (KU (n:=1) rfl aa Tryz.underlying29 rfl (by kernel_rfl) (by decide) rfl rr) (KI (iv (f.W)) rfl rfl (KY rfl rfl Tryz.underlying3 B4 rfl rfl rr) (LB (R:=fun v_ w_=>v_ = .bool false/\KO (fun _=>False) w2 w_) rfl rfl (LH rfl rfl rfl (fun _ _=>by kernel_rfl) (K5 _) (Lk rfl LR) (Pp (f.W)  _   ) (fun e_ w_ h_=>⟨_,h_.1,(congrArg Value.bool aj),h_.2⟩)) ?_)))
  rintro _ bS ⟨rfl,bJ⟩
  refine KI (.bool true) rfl rfl (L9 rfl rfl rfl rr) (KI (.bool true) rfl rfl (KQ rfl rfl rr) (KN 4 false 11 rfl rfl rfl (Or.inl rfl) rfl (KN 4 false 11 rfl rfl rfl (Or.inl rfl) rfl (KN 4 false 11 rfl rfl rfl (Or.inl rfl) rfl (KN 4 false 11 rfl rfl rfl (Or.inl rfl) rfl (KI (.bool true) rfl rfl (Lo rfl rfl rfl rr) (KM ?_)))))))
  have bK:=K4 (.bool true)
  refine KG ?_
  refine K6 (t:=true) bK (fun _=>?_) (fun e=>by cases e)
  refine KJ (KH (KI (iv 70) rfl rfl (KS rfl rfl rr) (KM ?_)))
  have bL:=K4 (iv 70)
  refine KG (Lb (Lq ?_))
  exact Lu (v:=iv 70) ac rfl rfl bL ⟨(by first|rw[Qa hsw hsh (by first|assumption|(apply Decidable.byContradiction;assumption)) (by first|assumption|(apply Decidable.byContradiction;assumption)) (by first|assumption|(apply Decidable.byContradiction;assumption))]|rw[P5 hsw hsh (by assumption)]|rw[P8 hsw hsh (by assumption)]|rw[P6 hsw hsh (by assumption)]|rw[Ow (by rintro ⟨h1,h2,h3,h4,h5⟩;simp_all;done)]),(ap.tr bJ)⟩
theorem SU(v:Value)(l:List Nat)(w y:Int)(T_s:Nat->Prop)(w0:World)(hw:0<=w/\w<=64)(hy:0<=y/\y<=64)(hl:y*w+w<=(l.length:Int))(hyw:0<=y*w/\y*w<=4096)(h_s:Mh w0 T_s v (l)) :
  Calls Tryz.prog 56 #[v,.int .i64 (w),.int .i64 (y)] w0 fun e w'=>e = .returned (Mr (v) ((y*w).toNat) ((y*w+w).toNat) ((y*w+w).toNat))/\KO (fun _=>False) w0 w':=by
 refine Lr (args:=[v,iv w,iv y]) 20 Tryz.func56 rfl rfl (Nat.le_of_ble_eq_true rfl) ?_
 have g_s:=KP.refl w0 T_s
 refine KJ (KH (KI (.slice none 0 0) rfl rfl (KS rfl rfl rr) (KM ?_)))
 have s3:=K4 (v)
 have s4:=K4 (iv w)
 have s5:=K4 (iv y)
 have s6:=K4 (undef)
 refine KG (KJ (KH (KR rfl rfl rfl s3 (KR rfl rfl rfl s5 (KR rfl rfl rfl s4 (KI (iv (y*w)) rfl rfl (Nj rfl rfl rfl (L2 rfl (by omega)) rr) (KR rfl rfl rfl s5 (KI (iv (y+1)) rfl rfl (LP rfl rfl rfl (L2 rfl (by omega)) rr) (KR rfl rfl rfl s4 (KI (iv (y*w+w)) rfl rfl (Nj rfl rfl rfl (L2 (by rw[Int.add_mul,Int.one_mul]) (by omega)) rr) (KR rfl rfl rfl s5 ?_)))))))))))
 refine KI (iv (y+1)) rfl rfl (LP rfl rfl rfl (L2 rfl (by omega)) rr) (KR rfl rfl rfl s4 (KI (iv (y*w+w)) rfl rfl (Nj rfl rfl rfl (L2 (by rw[Int.add_mul,Int.one_mul]) (by omega)) rr) (KI (Mr v ((y*w).toNat) ((y*w+w).toNat) ((y*w+w).toNat)) rfl rfl (aCS ((y*w).toNat) ((y*w+w).toNat) ((y*w+w).toNat) rfl rfl rfl rfl rfl (by omega) (by omega) (by omega) h_s (by omega) (by omega) (by omega) rr) (KI (Mr v ((y*w).toNat) ((y*w+w).toNat) ((y*w+w).toNat)) rfl rfl (KS rfl rfl rr) (KM ?_)))))
 have af:=K4 (Mr v ((y*w).toNat) ((y*w+w).toNat) ((y*w+w).toNat))
 refine KG (Lb ?_)
 exact Lu (v:=Mr v ((y*w).toNat) ((y*w+w).toNat) ((y*w+w).toNat)) s6 rfl rfl af ⟨rfl,(KO.refl (fun _=>False) w0)⟩
def RJ(l:List Nat)(w h x y:Int):Int:=((l.getD ((max 0 (min y (h-1))*w).toNat+(max 0 (min x (w-1))).toNat) 0:Nat):Int)
theorem SV(v:Value)(l:List Nat)(w h x y:Int)(T_s:Nat->Prop)(w0:World)(hw:0<w/\w<=64)(hh:0<h/\h<=64)(hl:max 0 (min y (h-1))*w+w<=(l.length:Int))(hyw:0<=max 0 (min y (h-1))*w/\max 0 (min y (h-1))*w<=4096)(h_s:Mh w0 T_s v (l)) :
  Calls Tryz.prog 169 #[v,.int .i64 (w),.int .i64 (h),.int .i64 (x),.int .i64 (y)] w0 fun e w'=>e = .returned (.int .i64 (RJ l w h x y))/\KO (fun _=>False) w0 w':=by
 refine Lr (args:=[v,iv w,iv h,iv x,iv y]) 25 Tryz.func169 rfl rfl (Nat.le_of_ble_eq_true rfl) ?_
 have g_s:=KP.refl w0 T_s
 refine KJ (KH (KI (iv 0) rfl rfl (KS rfl rfl rr) (KM ?_)))
 have s3:=K4 (v)
 have s4:=K4 (iv w)
 have s5:=K4 (iv h)
 have s6:=K4 (iv x)
 have s7:=K4 (iv y)
 have s8:=K4 (undef)
 refine KG (KJ (KH (KR rfl rfl rfl s3 (KR rfl rfl rfl s4 (KR rfl rfl rfl s7 (KR rfl rfl rfl s5 (KI (iv (h-1)) rfl rfl (UA rfl rfl rfl (L2 rfl (by omega)) rr) (LW rfl rfl rfl rfl rfl (fun _ _=>by kernel_rfl) (Lk rfl (Lk rfl (Lk rfl LR))) (NY y 0 (h-1)  _   ) fun w9 ac=>?_))))))))
 have ae:=h_s.all ac KK.none
 refine LW rfl rfl rfl rfl rfl (fun _ _=>by kernel_rfl) (Lk rfl (Lk rfl (Lk rfl LR))) (SU v l w (max 0 (min y (h-1))) T_s _ (by omega) (by omega) (by exact hl) (by exact hyw) ae ) fun ao af=>?_
 have ap:=ae.all af KK.none
 refine KR rfl rfl rfl s6 (KR rfl rfl rfl s4 (KI (iv (w-1)) rfl rfl (UA rfl rfl rfl (L2 rfl (by omega)) rr) (LB (R:=fun v_ w_=>v_=iv (((max 0 (min x (w-1))).toNat:Nat):Int)/\KO (fun _=>False) ao w_) rfl rfl (LH rfl rfl rfl (fun _ _=>by kernel_rfl) (K5 _) (Lk rfl (Lk rfl (Lk rfl LR))) (NY x 0 (w-1)  _   ) (fun e_ w_ h_=>⟨_,h_.1,congrArg (Value.int .i64) (by omega),h_.2⟩)) ?_)))
 rintro _ au ⟨rfl,ah⟩
 have aa:=ap.all ah KK.none
 refine KI (Nt v (((max 0 (min y (h-1)))*w).toNat+(max 0 (min x (w-1))).toNat)) rfl rfl (aD1 ((max 0 (min x (w-1))).toNat) rfl rfl rfl (by omega) aa (by omega) (by have hc_:=aa.cap;omega) (by omega) (by have hc_:=aa.cap;omega) (by omega) rr) ?_
 have av:=UZ aa.lt256 (((max 0 (min y (h-1)))*w).toNat+(max 0 (min x (w-1))).toNat)
 refine KI (.int .u8 ((l.getD (((max 0 (min y (h-1)))*w).toNat+(max 0 (min x (w-1))).toNat) 0:Nat):Int)) rfl rfl (aEh rfl rfl aa (by omega) rr) (KI (iv ((l.getD (((max 0 (min y (h-1)))*w).toNat+(max 0 (min x (w-1))).toNat) 0:Nat):Int)) rfl rfl (QD rfl rfl Tryz.underlying5 Tryz.underlying3 (L2 rfl (by omega)) rr) (KI (iv ((l.getD (((max 0 (min y (h-1)))*w).toNat+(max 0 (min x (w-1))).toNat) 0:Nat):Int)) rfl rfl (KS rfl rfl rr) (KM ?_)))
 have aq:=K4 (iv ((l.getD (((max 0 (min y (h-1)))*w).toNat+(max 0 (min x (w-1))).toNat) 0:Nat):Int))
 refine KG (Lb ?_)
 exact Lu (v:=iv ((l.getD (((max 0 (min y (h-1)))*w).toNat+(max 0 (min x (w-1))).toNat) 0:Nat):Int)) s8 rfl rfl aq ⟨rfl,((((KO.refl (fun _=>False) w0).tr ac).tr af).tr ah)⟩
theorem Z3(n:Int)(w0:World) :
  Calls Tryz.prog 77 #[.int .i64 (n)] w0 fun e w'=>e = .returned (.int .i64 (LM n))/\KO (fun _=>False) w0 w':=by
 refine Lr (args:=[iv n]) 5 Tryz.func77 rfl rfl (Nat.le_of_ble_eq_true rfl) ?_
 refine KJ (KH (KI (iv 0) rfl rfl (KS rfl rfl rr) (KM ?_)))
 have s3:=K4 (iv n)
 have s4:=K4 (undef)
 refine KG (KJ (KH (KR rfl rfl rfl s3 (LB (R:=fun v_ w_=>v_=iv (LM n)/\KO (fun _=>False) w0 w_) rfl rfl (LH rfl rfl rfl (fun _ _=>by kernel_rfl) (K5 _) (Lk rfl (Lk rfl (Lk rfl LR))) (NY n (-64) 128  _   ) (fun e_ w_ h_=>⟨_,h_.1,congrArg (Value.int .i64) (by unfold LM;omega),h_.2⟩)) ?_))))
 rintro _ w5 ⟨rfl,k6⟩
 refine KI (iv (LM n)) rfl rfl (KS rfl rfl rr) (KM ?_)
 have ae:=K4 (iv (LM n))
 refine KG (Lb ?_)
 exact Lu (v:=iv (LM n)) s4 rfl rfl ae ⟨rfl,((KO.refl (fun _=>False) w0).tr k6)⟩
theorem YQ{f:FD}{p:Int}(y:Int)(h:(Ld f p).1≠0):max 0 (min y ((Ld f p).2-1))*(Ld f p).1+(Ld f p).1<=((f.pl p).length:Int)/\0<=max 0 (min y ((Ld f p).2-1))*(Ld f p).1/\max 0 (min y ((Ld f p).2-1))*(Ld f p).1<=4096:=by
 have h2:=UG (Ld f p).1 y h
 have hb:=Ni f p
 have hs:=Oh (NC h)
 rw[show max 0 (min y ((Ld f p).2-1))=min (max y 0) ((Ld f p).2-1) by omega]
 unfold SJ at h2
 omega
theorem UW{f:FD}{p:Int}(x y:Int)(h:(Ld f p).1≠0):RJ (f.pl p) (Ld f p).1 (Ld f p).2 x y=Nq f p x y:=by
 have hc:=UG x y h
 have hb:=Ni f p
 have hs:=Oh (NC h)
 rw[X5 x y h]
 unfold RJ
 have e:(SJ f p x y).toNat=(max 0 (min y ((Ld f p).2-1))*(Ld f p).1).toNat+(max 0 (min x ((Ld f p).1-1))).toNat:=by
  rw[show max 0 (min y ((Ld f p).2-1))=min (max y 0) ((Ld f p).2-1) by omega,show max 0 (min x ((Ld f p).1-1))=min (max x 0) ((Ld f p).1-1) by omega]
  unfold SJ at *
  rw[Int.toNat_add (by omega) (by omega)]
 rw[e]
theorem Tb(p:Int)(f:FD)(f0 f1 f2:Value)(T_f0:Nat->Prop)(T_f1:Nat->Prop)(T_f2:Nat->Prop)(w0:World)(h_f0:Mh w0 T_f0 f0 ((f).p0))(h_f1:Mh w0 T_f1 f1 ((f).p1))(h_f2:Mh w0 T_f2 f2 ((f).p2)) :
  Calls Tryz.prog 55 #[.agg #[.int .i64 ((f).W),.int .i64 ((f).H),f0,f1,f2],.int .i64 (p)] w0 fun e w'=>e = .returned (.tuple #[.int .i64 ((Ld f p).1),.int .i64 ((Ld f p).2)])/\KO (fun _=>False) w0 w':=by
 refine Lr (args:=[.agg #[iv (f.W),iv (f.H),f0,f1,f2],iv p]) 22 Tryz.func55 rfl rfl (Nat.le_of_ble_eq_true rfl) ?_
 have g_f0:=KP.refl w0 T_f0
 have g_f1:=KP.refl w0 T_f1
 have g_f2:=KP.refl w0 T_f2
 refine KJ (KH (Lz (vs:=[iv (f.W),iv (f.H),f0,f1,f2]) rfl rfl rfl rfl fun p1 w2 B4 g5 k3=>?_))
 obtain⟨aj,ak,am⟩:=Nu k3 h_f0 h_f1 h_f2
 have ae:=(KO.refl (fun _=>False) w0).tr k3
 refine KI (iv 0) rfl rfl (KS rfl rfl rr) (KI (iv 0) rfl rfl (KS rfl rfl rr) (KM ?_))
 have aa:=K4 (iv p)
 have ac:=K4 (undef)
 have an:=K4 (pt p1 0)
 refine KG (KJ (KJ ?_))
 by_cases af:p<0
 ·skip
  refine KH (KR rfl rfl rfl aa (KI (.bool true) rfl rfl (L4 rfl rfl rfl (decide_eq_true af) rr) (KI (.bool true) rfl rfl (KQ rfl rfl rr) (KN 2 false 8 rfl rfl rfl (Or.inl rfl) rfl (KN 2 false 8 rfl rfl rfl (Or.inl rfl) rfl (KI (.bool true) rfl rfl (Lo rfl rfl rfl rr) (KI (.bool true) rfl rfl (KQ rfl rfl rr) (KN 6 false 12 rfl rfl rfl (Or.inl rfl) rfl (KN 6 false 12 rfl rfl rfl (Or.inl rfl) rfl (KN 6 false 12 rfl rfl rfl (Or.inl rfl) rfl (KI (.bool true) rfl rfl (Lo rfl rfl rfl rr) ?_)))))))))))
  refine KM ?_
  have av:=K4 (.bool true)
  refine KG ?_
  refine K6 (t:=true) av (fun _=>?_) (fun e=>by cases e)
  refine KJ (KH (KI (iv 0) rfl rfl (KS rfl rfl rr) (KI (iv 0) rfl rfl (KS rfl rfl rr) (KM ?_))))
  have aw:=K4 (iv 0)
  have az:=K4 (iv 0)
  refine KG (Lb (Lq ?_))
  exact L7 ac rfl (Ly (v:=iv 0) rfl aw) (Ly (v:=iv 0) rfl az) ⟨(by first|rw[he]|rw[Px (by rintro ⟨h1,h2,h3⟩;first|exact absurd ((Mv f).2 h1) (by assumption)|omega)]),ae⟩
 ·skip
  by_cases ao:3<=p
  ·skip
   refine KH (KR rfl rfl rfl aa (KI (.bool false) rfl rfl (L4 rfl rfl rfl (decide_eq_false af) rr) (KI (.bool false) rfl rfl (KQ rfl rfl rr) (KT (iv p) 2 false 8 rfl rfl rfl rfl rfl (KQ rfl aa rr) (KT (.bool true) 2 false 8 rfl rfl rfl rfl rfl (Nf rfl rfl rfl (decide_eq_true ao) rr) (KI (.bool true) rfl rfl (Li rfl rfl rfl rr) (KI (.bool true) rfl rfl (KQ rfl rfl rr) (KN 6 false 12 rfl rfl rfl (Or.inl rfl) rfl (KN 6 false 12 rfl rfl rfl (Or.inl rfl) rfl (KN 6 false 12 rfl rfl rfl (Or.inl rfl) rfl (KI (.bool true) rfl rfl (Lo rfl rfl rfl rr) ?_)))))))))))
   refine KM ?_
   have aA:=K4 (.bool true)
   refine KG ?_
   refine K6 (t:=true) aA (fun _=>?_) (fun e=>by cases e)
   refine KJ (KH (KI (iv 0) rfl rfl (KS rfl rfl rr) (KI (iv 0) rfl rfl (KS rfl rfl rr) (KM ?_))))
   have aB:=K4 (iv 0)
   have aC:=K4 (iv 0)
   refine KG (Lb (Lq ?_))
   exact L7 ac rfl (Ly (v:=iv 0) rfl aB) (Ly (v:=iv 0) rfl aC) ⟨(by first|rw[he]|rw[Px (by rintro ⟨h1,h2,h3⟩;first|exact absurd ((Mv f).2 h1) (by assumption)|omega)]),ae⟩
  ·skip
   refine KH (KR rfl rfl rfl aa (KI (.bool false) rfl rfl (L4 rfl rfl rfl (decide_eq_false af) rr) (KI (.bool false) rfl rfl (KQ rfl rfl rr) (KT (iv p) 2 false 8 rfl rfl rfl rfl rfl (KQ rfl aa rr) (KT (.bool false) 2 false 8 rfl rfl rfl rfl rfl (Nf rfl rfl rfl (decide_eq_false ao) rr) (KI (.bool false) rfl rfl (Li rfl rfl rfl rr) (KI (.bool false) rfl rfl (KQ rfl rfl rr) (KT (.agg #[iv (f.W),iv (f.H),f0,f1,f2]) 6 false 12 rfl rfl rfl rfl rfl (KZ Lc rfl an B4 rr) (LN (R:=fun v_ w_=>v_=iv (Nn f)/\KO (fun _=>False) w2 w_) 6 false 12 rfl rfl rfl rfl rfl (LH rfl rfl rfl (fun _ _=>by kernel_rfl) (K5 _) (Lk rfl LR) (M6 f f0 f1 f2 T_f0 T_f1 T_f2 _  aj ak am ) (fun e_ w_ h_=>⟨_,h_.1,rfl,h_.2⟩)) ?_)))))))))
   rintro _ aO ⟨rfl,ap⟩
   obtain⟨aD,aE,aF,aG⟩:=OV ap aj ak am B4
   have aq:=ae.tr ap
   refine KT (.bool (decide ((Nn f)≠0))) 6 false 12 rfl rfl rfl rfl rfl (Mb rfl rfl rfl rfl rr) (KI (.bool (decide ((Nn f)≠0))) rfl rfl (Li rfl rfl rfl rr) (KM ?_))
   have aH:=K4 (.bool (decide ((Nn f)≠0)))
   refine KG ?_
   refine K6 aH (fun ab=>?_) (fun ab=>?_)
   ·replace ab:=of_decide_eq_true ab
    refine KJ (KH (KI (iv 0) rfl rfl (KS rfl rfl rr) (KI (iv 0) rfl rfl (KS rfl rfl rr) (KM ?_))))
    have aI:=K4 (iv 0)
    have aJ:=K4 (iv 0)
    refine KG (Lb (Lq ?_))
    exact L7 ac rfl (Ly (v:=iv 0) rfl aI) (Ly (v:=iv 0) rfl aJ) ⟨(by first|rw[he]|rw[Px (by rintro ⟨h1,h2,h3⟩;first|exact absurd ((Mv f).2 h1) (by assumption)|omega)]),aq⟩
   ·replace ab:=of_decide_eq_false ab
    refine Lg (KG (KJ ?_))
    have hok:=(Mv f).1 (by first|assumption|(apply Decidable.byContradiction;assumption))
    have hws:=(Mu _).1 hok.1
    have hhs:=(Mu _).1 hok.2.1
    have he:Ld f p=LD f p:=by unfold Ld LD;rw[if_pos ⟨hok,by omega,by omega⟩]
    refine KH (KI (.agg #[iv (f.W),iv (f.H),f0,f1,f2]) rfl rfl (KZ Lc rfl an aG rr) (KR rfl rfl rfl aa (LW rfl rfl rfl rfl rfl (fun _ _=>by kernel_rfl) (Lk rfl (Lk rfl LR)) (Qj p f f0 f1 f2 T_f0 T_f1 T_f2 _ (by omega) (by omega) aD aE aF ) fun aP aK=>?_)))
    refine KI (iv ((LD f p).1)) rfl rfl (LL rfl rfl rfl rr) (KI (iv ((LD f p).2)) rfl rfl (LL rfl rfl rfl rr) (KI (iv ((LD f p).1)) rfl rfl (KS rfl rfl rr) (KI (iv ((LD f p).2)) rfl rfl (KS rfl rfl rr) (KM ?_))))
    have aL:=K4 (iv ((LD f p).1))
    have aM:=K4 (iv ((LD f p).2))
    refine KG (Lb ?_)
    exact L7 ac rfl (Ly (v:=iv ((LD f p).1)) rfl aL) (Ly (v:=iv ((LD f p).2)) rfl aM) ⟨(by first|rw[he]|rw[Px (by rintro ⟨h1,h2,h3⟩;first|exact absurd ((Mv f).2 h1) (by assumption)|omega)]),(aq.tr aK)⟩
theorem Ty(p x y:Int)(f:FD)(f0 f1 f2:Value)(T_f0:Nat->Prop)(T_f1:Nat->Prop)(T_f2:Nat->Prop)(w0:World)(h_f0:Mh w0 T_f0 f0 ((f).p0))(h_f1:Mh w0 T_f1 f1 ((f).p1))(h_f2:Mh w0 T_f2 f2 ((f).p2)) :
  Calls Tryz.prog 157 #[.agg #[.int .i64 ((f).W),.int .i64 ((f).H),f0,f1,f2],.int .i64 (p),.int .i64 (x),.int .i64 (y)] w0 fun e w'=>e = .returned (.int .i64 (Nq f p x y))/\KO (fun _=>False) w0 w':=by
 refine Lr (args:=[.agg #[iv (f.W),iv (f.H),f0,f1,f2],iv p,iv x,iv y]) 28 Tryz.func157 rfl rfl (Nat.le_of_ble_eq_true rfl) ?_
 have g_f0:=KP.refl w0 T_f0
 have g_f1:=KP.refl w0 T_f1
 have g_f2:=KP.refl w0 T_f2
 refine KJ (KH (Lz (vs:=[iv (f.W),iv (f.H),f0,f1,f2]) rfl rfl rfl rfl fun p1 w2 B4 g5 k3=>?_))
 obtain⟨aq,ar,au⟩:=Nu k3 h_f0 h_f1 h_f2
 refine KI (iv 0) rfl rfl (KS rfl rfl rr) (KM ?_)
 have ac:=K4 (iv p)
 have aj:=K4 (iv x)
 have ak:=K4 (iv y)
 have ae:=K4 (undef)
 have af:=K4 (pt p1 0)
 refine KG (KJ (KH (KI (.agg #[iv (f.W),iv (f.H),f0,f1,f2]) rfl rfl (KZ Lc rfl af B4 rr) (KR rfl rfl rfl ac (LW rfl rfl rfl rfl rfl (fun _ _=>by kernel_rfl) (Lk rfl (Lk rfl LR)) (Tb p f f0 f1 f2 T_f0 T_f1 T_f2 _  aq ar au ) fun aL av=>?_)))))
 obtain⟨aw,az,aA,am⟩:=OV av aq ar au B4
 have ah:=((KO.refl (fun _=>False) w0).tr k3).tr av
 refine KI (.tuple #[iv ((Ld f p).1),iv ((Ld f p).2)]) rfl rfl (KQ rfl rfl rr) (KI (iv ((Ld f p).1)) rfl rfl (LL rfl rfl rfl rr) (KI (iv ((Ld f p).2)) rfl rfl (LL rfl rfl rfl rr) (KI (iv ((Ld f p).1)) rfl rfl (KS rfl rfl rr) (KI (iv ((Ld f p).2)) rfl rfl (KS rfl rfl rr) (KM ?_)))))
 have ai:=K4 (iv ((Ld f p).1))
 have an:=K4 (iv ((Ld f p).2))
 refine KG (KJ (KJ (KH (KR rfl rfl rfl ai (KI (.bool (decide (((Ld f p).1)=0))) rfl rfl (Mj rfl rfl rfl rfl rr) (KM ?_))))))
 have aB:=K4 (.bool (decide (((Ld f p).1)=0)))
 refine KG ?_
 refine K6 aB (fun ab=>?_) (fun ab=>?_)
 ·replace ab:=of_decide_eq_true ab
  refine KJ (KH (KI (iv 0) rfl rfl (KS rfl rfl rr) (KM ?_)))
  have aC:=K4 (iv 0)
  refine KG (Lb (Lq ?_))
  exact Lu (v:=iv 0) ae rfl rfl aC ⟨(by first|rw[Sk x y (by assumption)]|(rw[← UW x y hsz];rfl)),ah⟩
 ·replace ab:=of_decide_eq_false ab
  refine Lg (KG (KJ ?_))
  rcases (show p=0\/p=1\/p=2 from SX (f:=f) (by assumption)) with rfl|rfl|rfl
  ·skip
   have hsz:(Ld f 0).1≠0:=by assumption
   have hb:=Ni f 0
   have hsp:=Oh (NC hsz)
   have hr:=YQ y hsz
   refine KH (KR rfl rfl rfl ac (KI (pt p1 2) rfl rfl (KU (n:=3) rfl af Tryz.underlying29 rfl (by kernel_rfl) (by decide) rfl rr) (KI (pt p1 2) rfl rfl (LV 0 (s:=1) rfl rfl rfl (by omega) Tryz.underlying27 (by omega) (by kernel_rfl) (by omega) rr) (KI f0 rfl rfl (KY rfl rfl Tryz.underlying26 am rfl rfl rr) (KR rfl rfl rfl ai (KR rfl rfl rfl an (KR rfl rfl rfl aj (KR rfl rfl rfl ak (LW rfl rfl rfl rfl rfl (fun _ _=>by kernel_rfl) (Lk rfl (Lk rfl (Lk rfl (Lk rfl (Lk rfl LR))))) (SV f0 (f.p0) ((Ld f 0).1) ((Ld f 0).2) x y T_f0 _ (by omega) (by omega) (by exact hr.1) (by exact hr.2) aw ) fun aM aD=>?_)))))))))
   refine KI (iv (RJ (f.p0) ((Ld f 0).1) ((Ld f 0).2) x y)) rfl rfl (KS rfl rfl rr) (KM ?_)
   have aE:=K4 (iv (RJ (f.p0) ((Ld f 0).1) ((Ld f 0).2) x y))
   refine KG (Lb ?_)
   exact Lu (v:=iv (RJ (f.p0) ((Ld f 0).1) ((Ld f 0).2) x y)) ae rfl rfl aE ⟨(by first|rw[Sk x y (by assumption)]|(rw[← UW x y hsz];rfl)),(ah.tr aD)⟩
  ·skip
   have hsz:(Ld f 1).1≠0:=by assumption
   have hb:=Ni f 1
   have hsp:=Oh (NC hsz)
   have hr:=YQ y hsz
   refine KH (KR rfl rfl rfl ac (KI (pt p1 2) rfl rfl (KU (n:=3) rfl af Tryz.underlying29 rfl (by kernel_rfl) (by decide) rfl rr) (KI (pt p1 3) rfl rfl (LV 1 (s:=1) rfl rfl rfl (by omega) Tryz.underlying27 (by omega) (by kernel_rfl) (by omega) rr) (KI f1 rfl rfl (KY rfl rfl Tryz.underlying26 am rfl rfl rr) (KR rfl rfl rfl ai (KR rfl rfl rfl an (KR rfl rfl rfl aj (KR rfl rfl rfl ak (LW rfl rfl rfl rfl rfl (fun _ _=>by kernel_rfl) (Lk rfl (Lk rfl (Lk rfl (Lk rfl (Lk rfl LR))))) (SV f1 (f.p1) ((Ld f 1).1) ((Ld f 1).2) x y T_f1 _ (by omega) (by omega) (by exact hr.1) (by exact hr.2) az ) fun aN aF=>?_)))))))))
   refine KI (iv (RJ (f.p1) ((Ld f 1).1) ((Ld f 1).2) x y)) rfl rfl (KS rfl rfl rr) (KM ?_)
   have aG:=K4 (iv (RJ (f.p1) ((Ld f 1).1) ((Ld f 1).2) x y))
   refine KG (Lb ?_)
   exact Lu (v:=iv (RJ (f.p1) ((Ld f 1).1) ((Ld f 1).2) x y)) ae rfl rfl aG ⟨(by first|rw[Sk x y (by assumption)]|(rw[← UW x y hsz];rfl)),(ah.tr aF)⟩
  ·skip
   have hsz:(Ld f 2).1≠0:=by assumption
   have hb:=Ni f 2
   have hsp:=Oh (NC hsz)
   have hr:=YQ y hsz
   refine KH (KR rfl rfl rfl ac (KI (pt p1 2) rfl rfl (KU (n:=3) rfl af Tryz.underlying29 rfl (by kernel_rfl) (by decide) rfl rr) (KI (pt p1 4) rfl rfl (LV 2 (s:=1) rfl rfl rfl (by omega) Tryz.underlying27 (by omega) (by kernel_rfl) (by omega) rr) (KI f2 rfl rfl (KY rfl rfl Tryz.underlying26 am rfl rfl rr) (KR rfl rfl rfl ai (KR rfl rfl rfl an (KR rfl rfl rfl aj (KR rfl rfl rfl ak (LW rfl rfl rfl rfl rfl (fun _ _=>by kernel_rfl) (Lk rfl (Lk rfl (Lk rfl (Lk rfl (Lk rfl LR))))) (SV f2 (f.p2) ((Ld f 2).1) ((Ld f 2).2) x y T_f2 _ (by omega) (by omega) (by exact hr.1) (by exact hr.2) aA ) fun aO aH=>?_)))))))))
   refine KI (iv (RJ (f.p2) ((Ld f 2).1) ((Ld f 2).2) x y)) rfl rfl (KS rfl rfl rr) (KM ?_)
   have aI:=K4 (iv (RJ (f.p2) ((Ld f 2).1) ((Ld f 2).2) x y))
   refine KG (Lb ?_)
   exact Lu (v:=iv (RJ (f.p2) ((Ld f 2).1) ((Ld f 2).2) x y)) ae rfl rfl aI ⟨(by first|rw[Sk x y (by assumption)]|(rw[← UW x y hsz];rfl)),(ah.tr aH)⟩
def Qv(a b:Nat):Nat->Nat
 | 0=>a
 | _=>b
theorem Rs(a b k:Nat):Qv a b k=a\/Qv a b k=b:=by cases k <;> simp[Qv]
theorem Ml{w h:Int}(s:Nat)(hw:Mk w=true)(hh:Mk h=true):(LG w h s).W=w/\(LG w h s).H=h:=by rw[Q2 s hw hh];exact⟨rfl,rfl⟩
theorem Zw{f:FD}(h:QY f):(LG f.W f.H 0).p0.length=f.p0.length/\(LG f.W f.H 0).p1.length=f.p1.length/\(LG f.W f.H 0).p2.length=f.p2.length:=by
 have h3:=h.2.2
 have hw:=Y3 0 h.1 h.2.1
 have h4:=hw.2.2
 have e:=Ml 0 h.1 h.2.1
 rw[e.1,e.2] at h4
 omega
theorem Yg(w h:Int)(w0:World)(hsw:Mk w=true)(hsh:Mk h=true) :
  Calls Tryz.prog 50 #[.int .i64 (w),.int .i64 (h)] w0 fun e w'=>∃ (v1:Value) (T1:Nat->Prop) (v2:Value) (T2:Nat->Prop) (v3:Value) (T3:Nat->Prop),e = .returned (.agg #[.int .i64 ((LG w h 0).W),.int .i64 ((LG w h 0).H),v1,v2,v3])/\KO (fun _=>False) w0 w'/\(L3 w' T1 v1 ((LG w h 0).p0)/\KP w0 LX T1)/\(L3 w' T2 v2 ((LG w h 0).p1)/\KP w0 LX T2)/\(L3 w' T3 v3 ((LG w h 0).p2)/\KP w0 LX T3)/\KK T1 T2/\KK T1 T3/\KK T2 T3:=by
 refine Lr (args:=[iv w,iv h]) 30 Tryz.func50 rfl rfl (Nat.le_of_ble_eq_true rfl) ?_
 have K0:=KO.refl (fun _=>False) w0
 have hws:=(Mu _).1 hsw
 have hhs:=(Mu _).1 hsh
 have har:=Oo hsw hsh
 obtain⟨n0,hn0⟩:∃ n:Nat,(n:Int)=w*h:=⟨(w*h).toNat,by omega⟩
 obtain⟨n1,hn1⟩:∃ n:Nat,(n:Int)=Int.tdiv w 2*Int.tdiv h 2:=⟨(Int.tdiv w 2*Int.tdiv h 2).toNat,Int.toNat_of_nonneg (Int.mul_nonneg (by rw[O8 (by omega)];omega) (by rw[O8 (by omega)];omega))⟩
 have hq:(n1:Int)=w*h/4:=by rw[hn1];exact Xv hws.2.2 hhs.2.2 (by omega) (by omega)
 have hF:LG w h 0=⟨w,h,List.replicate n0 0,List.replicate n1 0,List.replicate n1 0⟩:=by rw[Q2 0 hsw hsh,← hq,← hn0,Int.toNat_natCast,Int.toNat_natCast]
 refine KJ (KH (LF (n:=5) (vs:=[iv 0,iv 0,.slice none 0 0,.slice none 0 0,.slice none 0 0]) rfl rfl rfl (by kernel_rfl) fun p1 w2 B4 g5 k3=>?_))
 have K7:=K0.tr k3
 refine KM ?_
 have bA:=K4 (iv w)
 have bB:=K4 (iv h)
 have bC:=K4 (undef)
 have aG:=K4 (pt p1 0)
 refine KG (KJ (KH (KR rfl rfl rfl bA (KR rfl rfl rfl bB (KI (.agg #[iv w,iv h,.slice none 0 0,.slice none 0 0,.slice none 0 0]) rfl rfl (LZ (l':=[(0,iv w),(1,iv h)]) (cells:=#[iv w,iv h,.slice none 0 0,.slice none 0 0,.slice none 0 0]) rfl (S7 rfl (S7 rfl Rv)) (by kernel_rfl) rfl rr) (LF (n:=5) (vs:=[iv 0,iv 0,.slice none 0 0,.slice none 0 0,.slice none 0 0]) rfl rfl rfl (by kernel_rfl) fun ae cz bD aH aI=>?_))))))
 have am:=KP.new K7 aH
 have an:=KK.new aH (LT B4.lt)
 have bE:=B4.all aI id
 refine Lj (us:=[iv w,iv h,.slice none 0 0,.slice none 0 0,.slice none 0 0]) Lc rfl rfl rfl rfl rfl bD rfl (KX rfl (KX rfl (KX rfl (KX rfl (KX rfl MG))))) fun cA aJ aK=>?_
 have bF:=bE.all aK (an.symm p1 rfl)
 refine KM ?_
 have ah:=K4 (pt ae 0)
 refine KG (KJ (KJ (KH (KI (iv 0) rfl rfl (KQ rfl rfl rr) (KM ?_)))))
 have au:=K4 (iv 0)
 refine KG (Lm (Oy 4 (Mc (KJ (KH (KI (.bool true) rfl rfl (L4 rfl au rfl rfl rr) (KM ?_)))))))
 have bG:=K4 (.bool true)
 refine KG (KJ ?_)
 refine K6 (t:=true) bG (fun _=>?_) (fun e=>by cases e)
 refine Lg (KG (KJ (Lm (KJ (KH (KR rfl rfl rfl au (KI (iv 0) rfl rfl (KS rfl rfl rr) (KM ?_))))))))
 have aL:=K4 (iv 0)
 refine KG (KJ (KH (KI (.agg #[iv w,iv h,.slice none 0 0,.slice none 0 0,.slice none 0 0]) rfl rfl (KZ Lc rfl ah aJ rr) (KR rfl rfl rfl aL (LW rfl rfl rfl rfl rfl (fun _ _=>by kernel_rfl) (Lk rfl (Lk rfl LR)) (Qj 0 (FD.mk w h ([]) ([]) ([])) (.slice none 0 0) (.slice none 0 0) (.slice none 0 0) LX LX LX _ (by dsimp only;omega) (by dsimp only;omega) (Mh.nil _) (Mh.nil _) (Mh.nil _) ) fun cB aM=>?_)))))
 obtain⟨aN,aO⟩:=NA aM bF aJ
 have aP:=((K7.tr aI).trans aK (KP.ok (S:=fun _=>False) am K3)).tr aM
 refine KI (.tuple #[iv ((LD (FD.mk w h ([]) ([]) ([])) 0).1),iv ((LD (FD.mk w h ([]) ([]) ([])) 0).2)]) rfl rfl (KQ rfl rfl rr) (KI (iv ((LD (FD.mk w h ([]) ([]) ([])) 0).1)) rfl rfl (LL rfl rfl rfl rr) (KI (iv ((LD (FD.mk w h ([]) ([]) ([])) 0).2)) rfl rfl (LL rfl rfl rfl rr) (KI (iv ((LD (FD.mk w h ([]) ([]) ([])) 0).1)) rfl rfl (KS rfl rfl rr) (KI (iv ((LD (FD.mk w h ([]) ([]) ([])) 0).2)) rfl rfl (KS rfl rfl rr) (KM ?_)))))
 have bH:=K4 (iv ((LD (FD.mk w h ([]) ([]) ([])) 0).1))
 have bI:=K4 (iv ((LD (FD.mk w h ([]) ([]) ([])) 0).2))
 refine KG ?_
 have hpq:=Rs n0 n1 0
 refine KH (KR rfl rfl rfl aL (KR rfl rfl rfl bH (KR rfl rfl rfl bI (KI (iv (((Qv n0 n1 0):Nat):Int)) rfl rfl (Nj rfl rfl rfl (by first|exact(L2 rfl (by show _<=w*h/\w*h<=_;omega)).trans (hn0.symm)|exact(L2 rfl (by show _<=Int.tdiv w 2*Int.tdiv h 2/\Int.tdiv w 2*Int.tdiv h 2<=_;omega)).trans hn1.symm) rr) (Vo (n:=(Qv n0 n1 0)) rfl rfl rfl rfl rfl (by omega) (by omega) (by omega) fun ac cC av aQ aR aS=>?_)))))
 obtain⟨bJ,aw⟩:=TQ aR aN aO
 obtain⟨bK,bL⟩:=NA aS aN aO
 refine KI (pt ae 2) rfl rfl (KU (n:=3) rfl ah Tryz.underlying29 rfl (by kernel_rfl) (by decide) rfl rr) (KI (pt ae 2) rfl rfl (LV 0 (s:=1) rfl rfl rfl (by omega) Tryz.underlying27 (by omega) (by kernel_rfl) (by omega) rr) (OJ rfl rfl rfl rfl rfl bL rfl aQ.oneC (by kernel_rfl) fun bM ao az=>?_))
 replace ao:Mz bM ae 29 [iv w,iv h,ac,.slice none 0 0,.slice none 0 0]:=ao
 have bN:=bK.all az (an.symm p1 rfl)
 have aT:=aQ.all az aw
 refine KM ?_
 refine LC (KG (KH (KI (iv ((1:Nat):Int)) rfl rfl (LP rfl au rfl (L6 (by omega) (by omega)) rr) (KI (iv ((1:Nat):Int)) rfl rfl (KQ rfl rfl rr) (KM ?_)))))
 have aA:=K4 (iv ((1:Nat):Int))
 refine KG (Mc (KJ (KH (KI (.bool true) rfl rfl (L4 rfl aA rfl rfl rr) (KM ?_)))))
 have bO:=K4 (.bool true)
 refine KG (KJ ?_)
 refine K6 (t:=true) bO (fun _=>?_) (fun e=>by cases e)
 refine Lg (KG (KJ (Lm (KJ (KH (KR rfl rfl rfl aA (KI (iv ((1:Nat):Int)) rfl rfl (KS rfl rfl rr) (KM ?_))))))))
 have aU:=K4 (iv ((1:Nat):Int))
 refine KG (KJ (KH (KI (.agg #[iv w,iv h,ac,.slice none 0 0,.slice none 0 0]) rfl rfl (KZ Lc rfl ah ao rr) (KR rfl rfl rfl aU (LW rfl rfl rfl rfl rfl (fun _ _=>by kernel_rfl) (Lk rfl (Lk rfl LR)) (Qj ((1:Nat):Int) (FD.mk w h (List.replicate (Qv n0 n1 0) 0) ([]) ([])) ac (.slice none 0 0) (.slice none 0 0) av LX LX _ (by dsimp only;omega) (by dsimp only;omega) aT.byt (Mh.nil _) (Mh.nil _) ) fun cD aV=>?_)))))
 obtain⟨aW,aX,aY⟩:=Nu aV bN ao aT
 have aZ:=((aP.tr aS).trans az (KP.ok (S:=fun _=>False) am K3)).tr aV
 refine KI (.tuple #[iv ((LD (FD.mk w h (List.replicate (Qv n0 n1 0) 0) ([]) ([])) ((1:Nat):Int)).1),iv ((LD (FD.mk w h (List.replicate (Qv n0 n1 0) 0) ([]) ([])) ((1:Nat):Int)).2)]) rfl rfl (KQ rfl rfl rr) (KI (iv ((LD (FD.mk w h (List.replicate (Qv n0 n1 0) 0) ([]) ([])) ((1:Nat):Int)).1)) rfl rfl (LL rfl rfl rfl rr) (KI (iv ((LD (FD.mk w h (List.replicate (Qv n0 n1 0) 0) ([]) ([])) ((1:Nat):Int)).2)) rfl rfl (LL rfl rfl rfl rr) (KI (iv ((LD (FD.mk w h (List.replicate (Qv n0 n1 0) 0) ([]) ([])) ((1:Nat):Int)).1)) rfl rfl (KS rfl rfl rr) (KI (iv ((LD (FD.mk w h (List.replicate (Qv n0 n1 0) 0) ([]) ([])) ((1:Nat):Int)).2)) rfl rfl (KS rfl rfl rr) (KM ?_)))))
 have bP:=K4 (iv ((LD (FD.mk w h (List.replicate (Qv n0 n1 0) 0) ([]) ([])) ((1:Nat):Int)).1))
 have bQ:=K4 (iv ((LD (FD.mk w h (List.replicate (Qv n0 n1 0) 0) ([]) ([])) ((1:Nat):Int)).2))
 refine KG ?_
 have hpq:=Rs n0 n1 1
 refine KH (KR rfl rfl rfl aU (KR rfl rfl rfl bP (KR rfl rfl rfl bQ (KI (iv (((Qv n0 n1 1):Nat):Int)) rfl rfl (Nj rfl rfl rfl (by first|exact(L2 rfl (by show _<=w*h/\w*h<=_;omega)).trans (hn0.symm)|exact(L2 rfl (by show _<=Int.tdiv w 2*Int.tdiv h 2/\Int.tdiv w 2*Int.tdiv h 2<=_;omega)).trans hn1.symm) rr) (Vo (n:=(Qv n0 n1 1)) rfl rfl rfl rfl rfl (by omega) (by omega) (by omega) fun af cE a8 a9 ba bb=>?_)))))
 obtain⟨bR,bc,bS⟩:=TD ba aW aX aY
 obtain⟨bT,bU,bV⟩:=Nu bb aW aX aY
 refine KI (pt ae 2) rfl rfl (KU (n:=3) rfl ah Tryz.underlying29 rfl (by kernel_rfl) (by decide) rfl rr) (KI (pt ae 3) rfl rfl (LV 1 (s:=1) rfl rfl rfl (by omega) Tryz.underlying27 (by omega) (by kernel_rfl) (by omega) rr) (OJ rfl rfl rfl rfl rfl bU rfl a9.oneC (by kernel_rfl) fun bW ap aq=>?_))
 replace ap:Mz bW ae 29 [iv w,iv h,ac,af,.slice none 0 0]:=ap
 have bX:=bT.all aq (an.symm p1 rfl)
 have bd:=bV.all aq aw
 have be:=a9.all aq bc
 refine KM ?_
 refine LC (KG (KH (KI (iv ((2:Nat):Int)) rfl rfl (LP rfl aA rfl (L6 (by omega) (by omega)) rr) (KI (iv ((2:Nat):Int)) rfl rfl (KQ rfl rfl rr) (KM ?_)))))
 have aB:=K4 (iv ((2:Nat):Int))
 refine KG (Mc (KJ (KH (KI (.bool true) rfl rfl (L4 rfl aB rfl rfl rr) (KM ?_)))))
 have bY:=K4 (.bool true)
 refine KG (KJ ?_)
 refine K6 (t:=true) bY (fun _=>?_) (fun e=>by cases e)
 refine Lg (KG (KJ (Lm (KJ (KH (KR rfl rfl rfl aB (KI (iv ((2:Nat):Int)) rfl rfl (KS rfl rfl rr) (KM ?_))))))))
 have bf:=K4 (iv ((2:Nat):Int))
 refine KG (KJ (KH (KI (.agg #[iv w,iv h,ac,af,.slice none 0 0]) rfl rfl (KZ Lc rfl ah ap rr) (KR rfl rfl rfl bf (LW rfl rfl rfl rfl rfl (fun _ _=>by kernel_rfl) (Lk rfl (Lk rfl LR)) (Qj ((2:Nat):Int) (FD.mk w h (List.replicate (Qv n0 n1 0) 0) (List.replicate (Qv n0 n1 1) 0) ([])) ac af (.slice none 0 0) av a8 LX _ (by dsimp only;omega) (by dsimp only;omega) bd.byt be.byt (Mh.nil _) ) fun cF bg=>?_)))))
 obtain⟨bh,bi,bj,bl⟩:=OV bg bX ap bd be
 have bm:=((aZ.tr bb).trans aq (KP.ok (S:=fun _=>False) am K3)).tr bg
 refine KI (.tuple #[iv ((LD (FD.mk w h (List.replicate (Qv n0 n1 0) 0) (List.replicate (Qv n0 n1 1) 0) ([])) ((2:Nat):Int)).1),iv ((LD (FD.mk w h (List.replicate (Qv n0 n1 0) 0) (List.replicate (Qv n0 n1 1) 0) ([])) ((2:Nat):Int)).2)]) rfl rfl (KQ rfl rfl rr) (KI (iv ((LD (FD.mk w h (List.replicate (Qv n0 n1 0) 0) (List.replicate (Qv n0 n1 1) 0) ([])) ((2:Nat):Int)).1)) rfl rfl (LL rfl rfl rfl rr) (KI (iv ((LD (FD.mk w h (List.replicate (Qv n0 n1 0) 0) (List.replicate (Qv n0 n1 1) 0) ([])) ((2:Nat):Int)).2)) rfl rfl (LL rfl rfl rfl rr) (KI (iv ((LD (FD.mk w h (List.replicate (Qv n0 n1 0) 0) (List.replicate (Qv n0 n1 1) 0) ([])) ((2:Nat):Int)).1)) rfl rfl (KS rfl rfl rr) (KI (iv ((LD (FD.mk w h (List.replicate (Qv n0 n1 0) 0) (List.replicate (Qv n0 n1 1) 0) ([])) ((2:Nat):Int)).2)) rfl rfl (KS rfl rfl rr) (KM ?_)))))
 have bZ:=K4 (iv ((LD (FD.mk w h (List.replicate (Qv n0 n1 0) 0) (List.replicate (Qv n0 n1 1) 0) ([])) ((2:Nat):Int)).1))
 have b7:=K4 (iv ((LD (FD.mk w h (List.replicate (Qv n0 n1 0) 0) (List.replicate (Qv n0 n1 1) 0) ([])) ((2:Nat):Int)).2))
 refine KG ?_
 have hpq:=Rs n0 n1 2
 refine KH (KR rfl rfl rfl bf (KR rfl rfl rfl bZ (KR rfl rfl rfl b7 (KI (iv (((Qv n0 n1 2):Nat):Int)) rfl rfl (Nj rfl rfl rfl (by first|exact(L2 rfl (by show _<=w*h/\w*h<=_;omega)).trans (hn0.symm)|exact(L2 rfl (by show _<=Int.tdiv w 2*Int.tdiv h 2/\Int.tdiv w 2*Int.tdiv h 2<=_;omega)).trans hn1.symm) rr) (Vo (n:=(Qv n0 n1 2)) rfl rfl rfl rfl rfl (by omega) (by omega) (by omega) fun aj cG b8 bn bo bp=>?_)))))
 obtain⟨b9,cd,ce,cf⟩:=Wj bo bh bi bj bl
 obtain⟨cg,ci,cj,cm⟩:=OV bp bh bi bj bl
 refine KI (pt ae 2) rfl rfl (KU (n:=3) rfl ah Tryz.underlying29 rfl (by kernel_rfl) (by decide) rfl rr) (KI (pt ae 4) rfl rfl (LV 2 (s:=1) rfl rfl rfl (by omega) Tryz.underlying27 (by omega) (by kernel_rfl) (by omega) rr) (OJ rfl rfl rfl rfl rfl ci rfl bn.oneC (by kernel_rfl) fun cn aC ak=>?_))
 replace aC:Mz cn ae 29 [iv w,iv h,ac,af,aj]:=aC
 have co:=cg.all ak (an.symm p1 rfl)
 have bq:=cj.all ak aw
 have bt:=cm.all ak bc
 have bu:=bn.all ak cd
 refine KM ?_
 refine LC (KG (KH (KI (iv ((3:Nat):Int)) rfl rfl (LP rfl aB rfl (L6 (by omega) (by omega)) rr) (KI (iv ((3:Nat):Int)) rfl rfl (KQ rfl rfl rr) (KM ?_)))))
 have cq:=K4 (iv ((3:Nat):Int))
 refine KG (Mc (KJ (KH (KI (.bool false) rfl rfl (L4 rfl cq rfl rfl rr) (KM ?_)))))
 have cr:=K4 (.bool false)
 refine KG (KJ ?_)
 refine K6 (t:=false) cr (fun e=>by cases e) (fun _=>?_)
 refine Me (Ls (Ls (Mf (KG (KJ (KH (KI (.agg #[iv w,iv h,ac,af,aj]) rfl rfl (KZ Lc rfl ah aC rr) (Lj (us:=[iv w,iv h,ac,af,aj]) Lc rfl rfl rfl aG rfl co rfl (KX rfl (KX rfl (KX bq.one (KX bt.one (KX bu.one MG))))) fun cH ct ar=>?_))))))))
 have cu:=bq.all ar bJ
 have cv:=bt.all ar bR
 have cw:=bu.all ar b9
 refine KM ?_
 refine KG (Lb ?_)
 exact O2 (vs:=[iv w,iv h,ac,af,aj]) Lc bC rfl rfl aG ct ⟨ac,av,af,a8,aj,b8,(by rw[hF]),(((bm.tr bp).trans ak (KP.ok (S:=fun _=>False) am K3)).trans ar (KP.ok (S:=fun _=>False) (KP.new K0 g5) K3)),⟨(by rw[hF];exact cu),(KP.new aP aR)⟩,⟨(by rw[hF];exact cv),(KP.new aZ ba)⟩,⟨(by rw[hF];exact cw),(KP.new bm bo)⟩,bS.symm,ce.symm,cf.symm⟩
theorem aB8(f:FD)(f0 f1 f2:Value)(T_f0:Nat->Prop)(T_f1:Nat->Prop)(T_f2:Nat->Prop)(w0:World)(h_f0:Mh w0 T_f0 f0 ((f).p0))(h_f1:Mh w0 T_f1 f1 ((f).p1))(h_f2:Mh w0 T_f2 f2 ((f).p2)) :
  Calls Tryz.prog 18 #[.agg #[.int .i64 ((f).W),.int .i64 ((f).H),f0,f1,f2]] w0 fun e w'=>∃ (v1:Value) (T1:Nat->Prop) (v2:Value) (T2:Nat->Prop) (v3:Value) (T3:Nat->Prop),e = .returned (.agg #[.int .i64 ((MR f).W),.int .i64 ((MR f).H),v1,v2,v3])/\KO (fun _=>False) w0 w'/\(L3 w' T1 v1 ((MR f).p0)/\KP w0 LX T1)/\(L3 w' T2 v2 ((MR f).p1)/\KP w0 LX T2)/\(L3 w' T3 v3 ((MR f).p2)/\KP w0 LX T3)/\KK T1 T2/\KK T1 T3/\KK T2 T3:=by
 refine Lr (args:=[.agg #[iv (f.W),iv (f.H),f0,f1,f2]]) 28 Tryz.func18 rfl rfl (Nat.le_of_ble_eq_true rfl) ?_
 have g_f0:=KP.refl w0 T_f0
 have g_f1:=KP.refl w0 T_f1
 have g_f2:=KP.refl w0 T_f2
 refine KJ (KH (Lz (vs:=[iv (f.W),iv (f.H),f0,f1,f2]) rfl rfl rfl rfl fun p1 w2 B4 g5 k3=>?_))
 obtain⟨co,cq,cr⟩:=Nu k3 h_f0 h_f1 h_f2
 have aW:=(KO.refl (fun _=>False) w0).tr k3
 refine LF (n:=5) (vs:=[iv 0,iv 0,.slice none 0 0,.slice none 0 0,.slice none 0 0]) rfl rfl rfl (by kernel_rfl) fun ap ek ct aj aX=>?_
 have aY:=KP.new aW aj
 obtain⟨aZ,a8,a9,ba⟩:=OV aX co cq cr B4
 refine KM ?_
 have bb:=K4 (undef)
 have aq:=K4 (pt p1 0)
 have aK:=K4 (pt ap 0)
 refine KG (KJ (KJ (KH (KI (.agg #[iv (f.W),iv (f.H),f0,f1,f2]) rfl rfl (KZ Lc rfl aq ba rr) (LW rfl rfl rfl rfl rfl (fun _ _=>by kernel_rfl) (Lk rfl LR) (M6 f f0 f1 f2 T_f0 T_f1 T_f2 _  aZ a8 a9 ) fun aF bc=>?_)))))
 obtain⟨cu,bd,aL,ar,au⟩:=OU bc aZ a8 a9 ba ct
 have av:=(aW.tr aX).tr bc
 refine KI (.bool (decide ((Nn f)≠0))) rfl rfl (Mb rfl rfl rfl rfl rr) (KM ?_)
 have cv:=K4 (.bool (decide ((Nn f)≠0)))
 refine KG ?_
 refine K6 cv (fun aw=>?_) (fun aw=>?_)
 ·replace aw:=of_decide_eq_true aw
  refine KJ ?_
  have hno:¬ QY f:=fun h=>absurd ((Mv f).2 h) (by assumption)
  refine KH (KI (.agg #[iv 0,iv 0,.slice none 0 0,.slice none 0 0,.slice none 0 0]) rfl rfl (LZ (l':=[]) (cells:=#[iv 0,iv 0,.slice none 0 0,.slice none 0 0,.slice none 0 0]) rfl Rv (by kernel_rfl) rfl rr) (Lj (us:=[iv 0,iv 0,.slice none 0 0,.slice none 0 0,.slice none 0 0]) Lc rfl rfl rfl aK rfl au rfl (KX rfl (KX rfl (KX rfl (KX rfl (KX rfl MG))))) fun en cw cy=>?_))
  refine KM ?_
  refine KG (Lb (Lq ?_))
  exact O2 (vs:=[iv 0,iv 0,.slice none 0 0,.slice none 0 0,.slice none 0 0]) Lc bb rfl rfl aK cw ⟨(.slice none 0 0),LX,(.slice none 0 0),LX,(.slice none 0 0),LX,(by first|rw[NB hok,(Ml 0 hok.1 hok.2.1).1,(Ml 0 hok.1 hok.2.1).2]|rw[OY hno];rfl),(av.trans cy (KP.ok (S:=fun _=>False) aY K3)),⟨(by first|(rw[NB hok];exact(L3.nil _))|(rw[OY hno];exact(L3.nil _))),(KP.refl _ _)⟩,⟨(by first|(rw[NB hok];exact(L3.nil _))|(rw[OY hno];exact(L3.nil _))),(KP.refl _ _)⟩,⟨(by first|(rw[NB hok];exact(L3.nil _))|(rw[OY hno];exact(L3.nil _))),(KP.refl _ _)⟩,KK.none,KK.none,KK.none⟩
 ·replace aw:=of_decide_eq_false aw
  refine Lg (KG (KJ ?_))
  have hok:=(Mv f).1 (by first|assumption|(apply Decidable.byContradiction;assumption))
  have hmost:=aBG hok
  have hnl:=Zw hok
  refine KH (KI (pt p1 0) rfl rfl (KU (n:=1) rfl aq Tryz.underlying29 rfl (by kernel_rfl) (by decide) rfl rr) (KI (iv (f.W)) rfl rfl (KY rfl rfl Tryz.underlying3 ar rfl rfl rr) (KI (pt p1 1) rfl rfl (KU (n:=1) rfl aq Tryz.underlying29 rfl (by kernel_rfl) (by decide) rfl rr) (KI (iv (f.H)) rfl rfl (KY rfl rfl Tryz.underlying3 ar rfl rfl rr) (LB (R:=fun v_ w_=>∃ (ac:Value) (am:Nat->Prop) (ae:Value) (an:Nat->Prop) (af:Value) (ao:Nat->Prop),.agg #[iv ((LG (f.W) (f.H) 0).W),iv ((LG (f.W) (f.H) 0).H),ac,ae,af]=v_/\KO (fun _=>False) aF w_/\(L3 w_ am ac ((LG (f.W) (f.H) 0).p0)/\KP aF LX am)/\(L3 w_ an ae ((LG (f.W) (f.H) 0).p1)/\KP aF LX an)/\(L3 w_ ao af ((LG (f.W) (f.H) 0).p2)/\KP aF LX ao)/\KK am an/\KK am ao/\KK an ao) rfl rfl (LH rfl rfl rfl (fun _ _=>by kernel_rfl) (K5 _) (Lk rfl (Lk rfl LR)) (Yg (f.W) (f.H)  _ hok.1 hok.2.1  ) (fun e_ w_ h_=>by obtain⟨v61_,T66_,v62_,T67_,v63_,T68_,he_,hr_⟩:=h_;exact⟨_,he_,v61_,T66_,v62_,T67_,v63_,T68_,rfl,hr_⟩)) ?_)))))
  rintro _ eo ⟨ac,am,ae,an,af,ao,rfl,be,⟨bf,bg⟩,⟨bh,bi⟩,⟨bj,bl⟩,aM,aN,aO⟩
  obtain⟨bm,bn,bo,bp,bq⟩:=OU be cu bd aL ar au
  have bt:=av.tr be
  have bu:=KP.new av bg
  obtain⟨cz,cA,cB,bv⟩:=Wj bg bd aL ar au
  have bz:=KP.new av bi
  obtain⟨cC,cD,bA⟩:=TD bi aL ar au
  have bB:=KP.new av bl
  have bC:=KK.new bl (LT au.lt)
  refine LF (n:=5) (vs:=[iv 0,iv 0,.slice none 0 0,.slice none 0 0,.slice none 0 0]) rfl rfl rfl (by kernel_rfl) fun ab ep cE bD bE=>?_
  obtain⟨cF,cG,cH,cI,cJ,bF,bG,bH⟩:=XJ bD bm bn bo bp bq bf bh bj
  obtain⟨cK,cL,cM,cN,cO,bI,bJ,bK⟩:=YR bE bm bn bo bp bq bf bh bj
  refine Lj (us:=[iv ((LG (f.W) (f.H) 0).W),iv ((LG (f.W) (f.H) 0).H),ac,ae,af]) Lc rfl rfl rfl rfl rfl cE rfl (KX rfl (KX rfl (KX bI.one (KX bJ.one (KX bK.one MG))))) fun er bL ah=>?_
  have cP:=cK.all ah cF.symm
  have cQ:=cL.all ah cG.symm
  have cR:=cM.all ah cH.symm
  have bM:=cN.all ah (cI.symm p1 rfl)
  have cS:=cO.all ah (cJ.symm ap rfl)
  have cT:=bI.all ah bF.symm
  have cU:=bJ.all ah bG.symm
  have cV:=bK.all ah bH.symm
  refine KM ?_
  have bN:=K4 (pt ab 0)
  refine KG (KJ (KJ (KH (KI (iv 0) rfl rfl (KQ rfl rfl rr) (KM ?_)))))
  have aP:=K4 (iv 0)
  refine KG (Lm (Oy 4 (Mc (KJ (KH (KI (.bool true) rfl rfl (L4 rfl aP rfl rfl rr) (KM ?_)))))))
  have cW:=K4 (.bool true)
  refine KG (KJ ?_)
  refine K6 (t:=true) cW (fun _=>?_) (fun e=>by cases e)
  refine Lg (KG (KJ (Lm (KJ (KH (KR rfl rfl rfl aP (KI (iv 0) rfl rfl (KS rfl rfl rr) (KM ?_))))))))
  have bO:=K4 (iv 0)
  refine KG ?_
  refine Na 8 [some 17,some 18,some 19,some 20,some 21,some 22,some 23,some 24] [Pd.eq (iv 0),Pd.eq (pt ab 2),Pd.eq (pt ab 2),Pd.eq ac,Pd.eq (iv 0),Pd.eq (pt p1 2),Pd.eq (pt p1 2),Pd.eq f0] (by kernel_rfl) (by kernel_rfl) (by kernel_rfl) ?_ ?_
  ·refine KL ?_ ?_
   ·refine La.one rfl fun F_ w_ hR hout hD=>?_
    exact(KQ rfl ((hout 4 rfl (by decide)).trans bO) ⟨rfl,KO.refl _ _⟩)
   refine KL ?_ ?_
   ·refine La.one rfl fun F_ w_ hR hout hD=>?_
    exact(KU (n:=3) rfl ((hout 3 rfl (by decide)).trans bN) Tryz.underlying29 rfl (by kernel_rfl) (by decide) rfl ⟨rfl,KO.refl _ _⟩)
   refine KL ?_ ?_
   ·refine La.one rfl fun F_ w_ hR hout hD=>?_
    have aj:F_ 18=pt ab 2:=(hD.get 0 rfl rfl rfl)
    have az:F_ 17=iv 0:=(hD.get 1 rfl rfl rfl)
    exact(LV 0 (s:=1) rfl aj az (by omega) Tryz.underlying27 (by omega) (by kernel_rfl) (by omega) ⟨rfl,KO.refl _ _⟩)
   refine KL ?_ ?_
   ·refine La.one rfl fun F_ w_ hR hout hD=>?_
    have aA:F_ 19=pt ab 2:=(hD.get 0 rfl rfl rfl)
    exact(KY rfl aA Tryz.underlying26 (bL.all hR id) rfl rfl ⟨rfl,KO.refl _ _⟩)
   refine KL ?_ ?_
   ·refine La.one rfl fun F_ w_ hR hout hD=>?_
    exact(KQ rfl ((hout 4 rfl (by decide)).trans bO) ⟨rfl,KO.refl _ _⟩)
   refine KL ?_ ?_
   ·refine La.one rfl fun F_ w_ hR hout hD=>?_
    exact(KU (n:=3) rfl ((hout 1 rfl (by decide)).trans aq) Tryz.underlying29 rfl (by kernel_rfl) (by decide) rfl ⟨rfl,KO.refl _ _⟩)
   refine KL ?_ ?_
   ·refine La.one rfl fun F_ w_ hR hout hD=>?_
    have aB:F_ 22=pt p1 2:=(hD.get 0 rfl rfl rfl)
    have aC:F_ 21=iv 0:=(hD.get 1 rfl rfl rfl)
    exact(LV 0 (s:=1) rfl aB aC (by omega) Tryz.underlying27 (by omega) (by kernel_rfl) (by omega) ⟨rfl,KO.refl _ _⟩)
   refine KL ?_ ?_
   ·refine La.one rfl fun F_ w_ hR hout hD=>?_
    have aD:F_ 23=pt p1 2:=(hD.get 0 rfl rfl rfl)
    exact(KY rfl aD Tryz.underlying26 (bM.all hR id) rfl rfl ⟨rfl,KO.refl _ _⟩)
   exact L0
  intro et bP eu bQ aQ aG
  obtain⟨cX,cY,cZ,c5,c6,c7,c9,da,db⟩:=ayQ bQ cP cQ cR bM cS cT cU cV bL
  obtain⟨dc,bR,dd,bS,de⟩:=t5 aG 28 bb 1 aq 2 aK 3 bN 14 aP
  have dg:bP 20=ac:=(aG 20).trans (aQ 3 (by decide))
  have dh:bP 24=f0:=(aG 24).trans (aQ 7 (by decide))
  clear aQ aG
  refine VL rfl rfl rfl rfl dg dh c7 cX (by first|exact hnl.1|exact hnl.2.1|exact hnl.2.2) fun ew di ai=>?_
  have dj:=cY.all ai cz.symm
  have dk:=cZ.all ai cA.symm
  have bT:=c5.all ai (cB.symm p1 rfl)
  have dl:=c6.all ai (bv.symm ap rfl)
  have dm:=c9.all ai aM.symm
  have dn:=da.all ai aN.symm
  have bU:=db.all ai (bF ab rfl)
  refine KM ?_
  refine LC (KG (KH (KI (iv ((1:Nat):Int)) rfl rfl (LP rfl de rfl (L6 (by omega) (by omega)) rr) (KI (iv ((1:Nat):Int)) rfl rfl (KQ rfl rfl rr) (KM ?_)))))
  have aR:=K4 (iv ((1:Nat):Int))
  refine KG (Mc (KJ (KH (KI (.bool true) rfl rfl (L4 rfl aR rfl rfl rr) (KM ?_)))))
  have dp:=K4 (.bool true)
  refine KG (KJ ?_)
  refine K6 (t:=true) dp (fun _=>?_) (fun e=>by cases e)
  refine Lg (KG (KJ (Lm (KJ (KH (KR rfl rfl rfl aR (KI (iv ((1:Nat):Int)) rfl rfl (KS rfl rfl rr) (KM ?_))))))))
  have bV:=K4 (iv ((1:Nat):Int))
  refine KG ?_
  refine Na 8 [some 17,some 18,some 19,some 20,some 21,some 22,some 23,some 24] [Pd.eq (iv ((1:Nat):Int)),Pd.eq (pt ab 2),Pd.eq (pt ab 3),Pd.eq ae,Pd.eq (iv ((1:Nat):Int)),Pd.eq (pt p1 2),Pd.eq (pt p1 3),Pd.eq f1] (by kernel_rfl) (by kernel_rfl) (by kernel_rfl) ?_ ?_
  ·refine KL ?_ ?_
   ·refine La.one rfl fun F_ w_ hR hout hD=>?_
    exact(KQ rfl ((hout 4 rfl (by decide)).trans bV) ⟨rfl,KO.refl _ _⟩)
   refine KL ?_ ?_
   ·refine La.one rfl fun F_ w_ hR hout hD=>?_
    exact(KU (n:=3) rfl ((hout 3 rfl (by decide)).trans bS) Tryz.underlying29 rfl (by kernel_rfl) (by decide) rfl ⟨rfl,KO.refl _ _⟩)
   refine KL ?_ ?_
   ·refine La.one rfl fun F_ w_ hR hout hD=>?_
    have aj:F_ 18=pt ab 2:=(hD.get 0 rfl rfl rfl)
    have az:F_ 17=iv ((1:Nat):Int):=(hD.get 1 rfl rfl rfl)
    exact(LV 1 (s:=1) rfl aj az (by omega) Tryz.underlying27 (by omega) (by kernel_rfl) (by omega) ⟨rfl,KO.refl _ _⟩)
   refine KL ?_ ?_
   ·refine La.one rfl fun F_ w_ hR hout hD=>?_
    have aA:F_ 19=pt ab 3:=(hD.get 0 rfl rfl rfl)
    exact(KY rfl aA Tryz.underlying26 (bU.all hR id) rfl rfl ⟨rfl,KO.refl _ _⟩)
   refine KL ?_ ?_
   ·refine La.one rfl fun F_ w_ hR hout hD=>?_
    exact(KQ rfl ((hout 4 rfl (by decide)).trans bV) ⟨rfl,KO.refl _ _⟩)
   refine KL ?_ ?_
   ·refine La.one rfl fun F_ w_ hR hout hD=>?_
    exact(KU (n:=3) rfl ((hout 1 rfl (by decide)).trans bR) Tryz.underlying29 rfl (by kernel_rfl) (by decide) rfl ⟨rfl,KO.refl _ _⟩)
   refine KL ?_ ?_
   ·refine La.one rfl fun F_ w_ hR hout hD=>?_
    have aB:F_ 22=pt p1 2:=(hD.get 0 rfl rfl rfl)
    have aC:F_ 21=iv ((1:Nat):Int):=(hD.get 1 rfl rfl rfl)
    exact(LV 1 (s:=1) rfl aB aC (by omega) Tryz.underlying27 (by omega) (by kernel_rfl) (by omega) ⟨rfl,KO.refl _ _⟩)
   refine KL ?_ ?_
   ·refine La.one rfl fun F_ w_ hR hout hD=>?_
    have aD:F_ 23=pt p1 3:=(hD.get 0 rfl rfl rfl)
    exact(KY rfl aD Tryz.underlying26 (bT.all hR id) rfl rfl ⟨rfl,KO.refl _ _⟩)
   exact L0
  intro ex bW ey bX aS aH
  obtain⟨dq,dr,dt,du,dv,dw,dy,dz⟩:=YR bX dj dk bT dl di dm dn bU
  obtain⟨dA,dB,dC,bY,dD⟩:=t5 aH 28 dc 1 bR 2 dd 3 bS 14 aR
  have dE:bW 20=ae:=(aH 20).trans (aS 3 (by decide))
  have dF:bW 24=f1:=(aH 24).trans (aS 7 (by decide))
  clear aS aH
  refine VL rfl rfl rfl rfl dE dF dw dq (by first|exact hnl.1|exact hnl.2.1|exact hnl.2.2) fun ez dG ak=>?_
  have dH:=dr.all ak cC.symm
  have dI:=dt.all ak (cD.symm p1 rfl)
  have dJ:=du.all ak (bA.symm ap rfl)
  have dK:=dv.all ak aM
  have dL:=dy.all ak aO.symm
  have bZ:=dz.all ak (bG ab rfl)
  have dM:=(((((bt.tr bE).trans ah (KP.ok (S:=fun _=>False) (KP.new bt bD) K3)).tr bQ).trans ai (KP.ok (S:=fun _=>False) bu K3)).tr bX).trans ak (KP.ok (S:=fun _=>False) bz K3)
  refine KM ?_
  refine LC (KG (KH (KI (iv ((2:Nat):Int)) rfl rfl (LP rfl dD rfl (L6 (by omega) (by omega)) rr) (KI (iv ((2:Nat):Int)) rfl rfl (KQ rfl rfl rr) (KM ?_)))))
  have aT:=K4 (iv ((2:Nat):Int))
  refine KG (Mc (KJ (KH (KI (.bool true) rfl rfl (L4 rfl aT rfl rfl rr) (KM ?_)))))
  have dN:=K4 (.bool true)
  refine KG (KJ ?_)
  refine K6 (t:=true) dN (fun _=>?_) (fun e=>by cases e)
  refine Lg (KG (KJ (Lm (KJ (KH (KR rfl rfl rfl aT (KI (iv ((2:Nat):Int)) rfl rfl (KS rfl rfl rr) (KM ?_))))))))
  have b7:=K4 (iv ((2:Nat):Int))
  refine KG ?_
  refine Na 8 [some 17,some 18,some 19,some 20,some 21,some 22,some 23,some 24] [Pd.eq (iv ((2:Nat):Int)),Pd.eq (pt ab 2),Pd.eq (pt ab 4),Pd.eq af,Pd.eq (iv ((2:Nat):Int)),Pd.eq (pt p1 2),Pd.eq (pt p1 4),Pd.eq f2] (by kernel_rfl) (by kernel_rfl) (by kernel_rfl) ?_ ?_
  ·refine KL ?_ ?_
   ·refine La.one rfl fun F_ w_ hR hout hD=>?_
    exact(KQ rfl ((hout 4 rfl (by decide)).trans b7) ⟨rfl,KO.refl _ _⟩)
   refine KL ?_ ?_
   ·refine La.one rfl fun F_ w_ hR hout hD=>?_
    exact(KU (n:=3) rfl ((hout 3 rfl (by decide)).trans bY) Tryz.underlying29 rfl (by kernel_rfl) (by decide) rfl ⟨rfl,KO.refl _ _⟩)
   refine KL ?_ ?_
   ·refine La.one rfl fun F_ w_ hR hout hD=>?_
    have aj:F_ 18=pt ab 2:=(hD.get 0 rfl rfl rfl)
    have az:F_ 17=iv ((2:Nat):Int):=(hD.get 1 rfl rfl rfl)
    exact(LV 2 (s:=1) rfl aj az (by omega) Tryz.underlying27 (by omega) (by kernel_rfl) (by omega) ⟨rfl,KO.refl _ _⟩)
   refine KL ?_ ?_
   ·refine La.one rfl fun F_ w_ hR hout hD=>?_
    have aA:F_ 19=pt ab 4:=(hD.get 0 rfl rfl rfl)
    exact(KY rfl aA Tryz.underlying26 (bZ.all hR id) rfl rfl ⟨rfl,KO.refl _ _⟩)
   refine KL ?_ ?_
   ·refine La.one rfl fun F_ w_ hR hout hD=>?_
    exact(KQ rfl ((hout 4 rfl (by decide)).trans b7) ⟨rfl,KO.refl _ _⟩)
   refine KL ?_ ?_
   ·refine La.one rfl fun F_ w_ hR hout hD=>?_
    exact(KU (n:=3) rfl ((hout 1 rfl (by decide)).trans dB) Tryz.underlying29 rfl (by kernel_rfl) (by decide) rfl ⟨rfl,KO.refl _ _⟩)
   refine KL ?_ ?_
   ·refine La.one rfl fun F_ w_ hR hout hD=>?_
    have aB:F_ 22=pt p1 2:=(hD.get 0 rfl rfl rfl)
    have aC:F_ 21=iv ((2:Nat):Int):=(hD.get 1 rfl rfl rfl)
    exact(LV 2 (s:=1) rfl aB aC (by omega) Tryz.underlying27 (by omega) (by kernel_rfl) (by omega) ⟨rfl,KO.refl _ _⟩)
   refine KL ?_ ?_
   ·refine La.one rfl fun F_ w_ hR hout hD=>?_
    have aD:F_ 23=pt p1 4:=(hD.get 0 rfl rfl rfl)
    exact(KY rfl aD Tryz.underlying26 (dI.all hR id) rfl rfl ⟨rfl,KO.refl _ _⟩)
   exact L0
  intro eA b8 eB b9 aU aI
  obtain⟨dO,dP,dQ,dR,dS,dT⟩:=QB b9 dH dJ dK dG dL bZ
  obtain⟨dU,cd,dV,dW⟩:=t4 aI 28 dA 2 dC 3 bY 14 aT
  have dX:b8 20=af:=(aI 20).trans (aU 3 (by decide))
  have dY:b8 24=f2:=(aI 24).trans (aU 7 (by decide))
  clear aU aI
  refine VL rfl rfl rfl rfl dX dY dS dO (by first|exact hnl.1|exact hnl.2.1|exact hnl.2.2) fun eD ce aE=>?_
  have dZ:=dP.all aE (bC.symm ap rfl)
  have cf:=dQ.all aE aN
  have cg:=dR.all aE aO
  have d8:=dT.all aE (bH ab rfl)
  refine KM ?_
  refine LC (KG (KH (KI (iv ((3:Nat):Int)) rfl rfl (LP rfl dW rfl (L6 (by omega) (by omega)) rr) (KI (iv ((3:Nat):Int)) rfl rfl (KQ rfl rfl rr) (KM ?_)))))
  have d9:=K4 (iv ((3:Nat):Int))
  refine KG (Mc (KJ (KH (KI (.bool false) rfl rfl (L4 rfl d9 rfl rfl rr) (KM ?_)))))
  have eb:=K4 (.bool false)
  refine KG (KJ ?_)
  refine K6 (t:=false) eb (fun e=>by cases e) (fun _=>?_)
  refine Me (Ls (Ls (Mf (KG (KJ (KH (KI (.agg #[iv ((LG (f.W) (f.H) 0).W),iv ((LG (f.W) (f.H) 0).H),ac,ae,af]) rfl rfl (KZ Lc rfl dV d8 rr) (Lj (us:=[iv ((LG (f.W) (f.H) 0).W),iv ((LG (f.W) (f.H) 0).H),ac,ae,af]) Lc rfl rfl rfl cd rfl dZ rfl (KX rfl (KX rfl (KX cf.one (KX cg.one (KX ce.one MG))))) fun eE ee aJ=>?_))))))))
  have ci:=cf.all aJ bv
  have cj:=cg.all aJ bA
  have cm:=ce.all aJ bC
  refine KM ?_
  refine KG (Lb ?_)
  exact O2 (vs:=[iv ((LG (f.W) (f.H) 0).W),iv ((LG (f.W) (f.H) 0).H),ac,ae,af]) Lc dU rfl rfl cd ee ⟨ac,am,ae,an,af,ao,(by first|rw[NB hok,(Ml 0 hok.1 hok.2.1).1,(Ml 0 hok.1 hok.2.1).2]|rw[OY hno];rfl),(((dM.tr b9).trans aE (KP.ok (S:=fun _=>False) bB K3)).trans aJ (KP.ok (S:=fun _=>False) aY K3)),⟨(by first|(rw[NB hok];exact ci)|(rw[OY hno];exact ci)),bu⟩,⟨(by first|(rw[NB hok];exact cj)|(rw[OY hno];exact cj)),bz⟩,⟨(by first|(rw[NB hok];exact cm)|(rw[OY hno];exact cm)),bB⟩,aM,aN,aO⟩
end Go.Proofs.YtknjpdcpmpfklaaGreatDoor
set_option maxRecDepth 100000
namespace Go.Proofs.YtknjpdcpmpfklaaGreatDoor
open Go.RowKit
theorem Pb{a b:Bool}(h:a=b):Ending.returned (.bool a) = .returned (.bool b):=by rw[h]
def Zq(w:World)(n:Nat)(v:Value)(g:Nat->Int):Prop :=
 ∃ (f:FuncId) (cs:List Value),v = .func (.func f) #[] cs.toArray/\(∀ args w,(callFunc f args).run Tryz.prog w = .ok (.enter f args) w) ∧
  ∀ w',KO (fun _=>False) w w'->∀ k:Nat,k<n->Calls Tryz.prog f (.int .i64 (k:Int)::cs).toArray w' fun e w''=>e = .returned (.int .i64 (g k))/\KO (fun _=>False) w' w''
theorem Zq.all{w w':World}{n:Nat}{v:Value}{g:Nat->Int}(h:Zq w n v g)(k:KO (fun _=>False) w w'):Zq w' n v g:=by
 obtain⟨f,cs,e,hf,h⟩:=h
 exact⟨f,cs,e,hf,fun w2 k2=>h w2 (k.trans k2 (fun _ _ x=>x))⟩
def Ym(w:World)(n:Nat)(v:Value)(g:Nat->Nat->Int):Prop :=
 ∃ (f:FuncId) (cs:List Value),v = .func (.func f) #[] cs.toArray/\(∀ args w,(callFunc f args).run Tryz.prog w = .ok (.enter f args) w) ∧
  ∀ w',KO (fun _=>False) w w'->∀ i k:Nat,i<n->k<n->Calls Tryz.prog f (.int .i64 (i:Int) :: .int .i64 (k:Int)::cs).toArray w' fun e w''=>e = .returned (.int .i64 (g i k))/\KO (fun _=>False) w' w''
theorem Ym.all{w w':World}{n:Nat}{v:Value}{g:Nat->Nat->Int}(h:Ym w n v g)(k:KO (fun _=>False) w w'):Ym w' n v g:=by
 obtain⟨f,cs,e,hf,h⟩:=h
 exact⟨f,cs,e,hf,fun w2 k2=>h w2 (k.trans k2 (fun _ _ x=>x))⟩
def Pd.ask2(n:Nat)(g:Nat->Nat->Int):Pd:=⟨fun v w=>Ym w n v g,fun _ _ _ h k=>h.all k⟩
section
variable {ρ:Operand->Value} {o:Oper} {w:World} {R:Value->World->Prop}
theorem WG{P:Program}{f:FuncId}{xs:List Operand}{vs:List Value}(ho:o.op = .makeFunc (.func f) #[] xs.toArray)(hx:xs.map ρ=vs)(h:R (.func (.func f) #[] vs.toArray) w):Le P ρ o w R:=by
 subst hx
 exact N1 (v:=.func (.func f) #[] (xs.map ρ).toArray) (w':=w) (by simp[execOp,ho,show ∀ cap,(Instr.makeFunc (.func f) #[] cap).run P w = .ok (.func (.func f) #[] cap) w from fun _=>rfl]) h
theorem aDq{c:Call}{cx x:Operand}{v:Value}{n k:Nat}{g:Nat->Int}(ho:o.op = .call c)(hc:c.callee = .value cx)(hcx:ρ cx=v)(hx:c.args = #[x])(hv:ρ x = .int .i64 (k:Int))(ha:Zq w n v g)(hk:k<n)
  (hS:∀ (e:Ending) w',(e = .returned (.int .i64 (g k))/\KO (fun _=>False) w w')->∃ v,e = .returned v/\R v w'):Le Tryz.prog ρ o w R:=by
 obtain⟨f,cs,rfl,hf,h⟩:=ha
 obtain⟨cl,ag,ts⟩:=c
 simp only at hc hx
 subst hc;subst hx
 unfold Le
 have e:(execOp ρ o).run Tryz.prog w = .ok (.enter f (.int .i64 (k:Int)::cs).toArray) w:=by simp[execOp,ho,resolve,hcx,hv,Deferred.ofValue,invoke,hf]
 rw[e]
 exact(h w (KO.refl _ _) k hk).mono hS
theorem aDD{c:Call}{cx x y:Operand}{v:Value}{n i k:Nat}{g:Nat->Nat->Int}(ho:o.op = .call c)(hc:c.callee = .value cx)(hcx:ρ cx=v)(hx:c.args = #[x,y])(hv:ρ x = .int .i64 (i:Int))(hv2:ρ y = .int .i64 (k:Int))(ha:Ym w n v g)(hi:i<n)(hk:k<n)
  (hS:∀ (e:Ending) w',(e = .returned (.int .i64 (g i k))/\KO (fun _=>False) w w')->∃ v,e = .returned v/\R v w'):Le Tryz.prog ρ o w R:=by
 obtain⟨f,cs,rfl,hf,h⟩:=ha
 obtain⟨cl,ag,ts⟩:=c
 simp only at hc hx
 subst hc;subst hx
 unfold Le
 have e:(execOp ρ o).run Tryz.prog w = .ok (.enter f (.int .i64 (i:Int) :: .int .i64 (k:Int)::cs).toArray) w:=by simp[execOp,ho,resolve,hcx,hv,hv2,Deferred.ofValue,invoke,hf]
 rw[e]
 exact(h w (KO.refl _ _) i k hi hk).mono hS
theorem aB5{t:TypeId}{x y:Operand}{k:IntKind}{n:Nat}(j:Nat){a:Nat->Int}{r:Int}(ht:Wi t n)(ho:o.op = .index t x y)(hx:ρ x = .agg (L8 n a).toArray)(hy:ρ y = .int k (j:Int))(hj:j<n)(hr:a j=r)(h:R (.int .i64 r) w):Le Tryz.prog ρ o w R:=by
 subst hr
 have h1:(L8 n a).toArray[j]? = some (.int .i64 (a j)):=by rw[List.getElem?_toArray];exact RB hj
 cases hq:Tryz.prog.info? 3 with
 | none=>have:=Tryz.size_int;simp[hq] at this
 | some i =>
  have hs':i.size=1:=by have:=Tryz.size_int;simpa [hq] using this
  have hp:(part 3 (L8 n a).toArray j).run Tryz.prog w = .ok (.int .i64 (a j)) w:=by simp[part,isAgg,run_underlying Tryz.underlying3,h1]
  have h2:(j:Int)<(n:Int):=by omega
  exact N1 (v:=.int .i64 (a j)) (w':=w) (by simp[execOp,ho,hx,hy,Instr.index,run_underlying ht.1,asIntOf,sizeOf,typeInfo,hq,hs',hj,hp]) h
theorem Xi{N n:Nat}{F:Nat->Value}{fn:Func}{p:Tmp}{ty t:TypeId}{q:Nat}{b:Nat->Int}{R:Ending->World->Prop}(hT:Wi ty n)(hm:F N=undef)(ht:Nat.blt p N=true)(h:fn.results = #[.cell p ty])(hp:F p = .pointer (some ⟨q,0,none⟩))(hB:Ps w q t n b)(hR:R (.returned (.agg (L8 n b).toArray)) w):Yj Tryz.prog fn N R .ret F w :=
 ⟨hm,fun a ha=>⟨_,Rn h _ _ q (by rw[ha.at' p ht];exact hp) _ t (0,0) _ hB hT.1 rfl (hT.size b),hR⟩⟩
def Pd.cel(n:Nat)(t:TypeId)(v:Value):Pd:=⟨fun u w=>∃ p,u = .pointer (some ⟨p,0,none⟩)/\n<=p/\PO w p t v,fun _ _ _ ⟨p,e,hn,h⟩ k=>⟨p,e,hn,h.all k id⟩⟩
theorem Yh{P:Program}{t:TypeId}{v:Value}(ho:o.op = .alloc t)(hi:(P.info? t).map (fun i=>(i.zero,i.size))=some (some v,1))(hv:oneC v=true)(h:R (.pointer (some ⟨w.heap.size,0,none⟩)) (w.alloc (.cells #[v] t))):Le P ρ o w R :=
 N1 (v:=.pointer (some ⟨w.heap.size,0,none⟩)) (w':=w.alloc (.cells #[v] t)) (by simp[execOp,ho,(zero_of_info hi).1,go_sem];cases v <;> first|rfl|(simp[oneC] at hv;done)) h
end
end Go.Proofs.YtknjpdcpmpfklaaGreatDoor
set_option maxRecDepth 100000
namespace Go.Proofs.YtknjpdcpmpfklaaGreatDoor
open Go.RowKit
theorem M1:Wi 172 4:=Wi.of Tryz.underlying172 (by kernel_rfl)
theorem Yc:QC Tryz.prog 169 4:=⟨_,Tryz.underlying169,rfl,by kernel_rfl⟩
theorem Ps.first{w:World}{p n:Nat}{t:TypeId}{b c:Nat->Int}(h:Ps w p t n b):Ps w p t n (upto 0 b c):=by rw[WH];exact h
theorem Ps.next{w:World}{p n:Nat}{t:TypeId}{b c:Nat->Int}{k:Nat}{x:Int}(h:Ps w p t n (V9 (upto k b c) k x))(e:x=c k):Ps w p t n (upto (k+1) b c):=by rw[← YA,← e];exact h
theorem ayI(b:Nat->Int)(k:Nat)(x y:Int):V9 (V9 b k x) k y=V9 b k y:=by funext i;unfold V9;split <;> rfl
theorem Ps.next2{w:World}{p n:Nat}{t:TypeId}{b c:Nat->Int}{k:Nat}{x y:Int}(h:Ps w p t n (V9 (V9 (upto k b c) k x) k y))(e:y=c k):Ps w p t n (upto (k+1) b c):=by rw[ayI] at h;exact h.next e
theorem Ps.last{w:World}{p n:Nat}{t:TypeId}{b c:Nat->Int}(h:Ps w p t n (upto n b c)):Ps w p t n c:=h.congr (fun i hi=>by simp[upto,hi])
theorem Sr(n:Int)(w0:World) :
  Calls Tryz.prog 139 #[.int .i64 (n)] w0 fun e w'=>e = .returned (.bool (decide (0<=n/\n<=64)))/\KO (fun _=>False) w0 w':=by
 refine Lr (args:=[iv n]) 9 Tryz.func139 rfl rfl (Nat.le_of_ble_eq_true rfl) ?_
 have K0:=KO.refl (fun _=>False) w0
 refine KJ (KH (KI (.bool false) rfl rfl (KS rfl rfl rr) (KM ?_)))
 have s3:=K4 (iv n)
 have s4:=K4 (undef)
 refine KG (KJ ?_)
 by_cases d5:0<=n
 ·skip
  refine KH (KR rfl rfl rfl s3 (KI (.bool true) rfl rfl (Nf rfl rfl rfl (decide_eq_true d5) rr) (KI (.bool true) rfl rfl (KQ rfl rfl rr) (KT (iv n) 2 true 5 rfl rfl rfl rfl rfl (KQ rfl s3 rr) (KT (.bool (decide (n<=64))) 2 true 5 rfl rfl rfl rfl rfl (PM rfl rfl rfl rfl rr) (KI (.bool (decide (n<=64))) rfl rfl (Lo rfl rfl rfl rr) (KI (.bool (decide (n<=64))) rfl rfl (KS rfl rfl rr) (KM ?_))))))))
  have s9:=K4 (.bool (decide (n<=64)))
  refine KG (Lb ?_)
  exact Lu (v:=.bool (decide (n<=64))) s4 rfl rfl s9 ⟨(Pb (by first|exact(decide_eq_true (by omega)).symm|exact(decide_eq_false (by omega)).symm|exact decide_eq_decide.2 (by omega))),K0⟩
 ·skip
  refine KH (KR rfl rfl rfl s3 (KI (.bool false) rfl rfl (Nf rfl rfl rfl (decide_eq_false d5) rr) (KI (.bool false) rfl rfl (KQ rfl rfl rr) (KN 2 true 5 rfl rfl rfl (Or.inl rfl) rfl (KN 2 true 5 rfl rfl rfl (Or.inl rfl) rfl (KI (.bool false) rfl rfl (Li rfl rfl rfl rr) (KI (.bool false) rfl rfl (KS rfl rfl rr) (KM ?_))))))))
  have ah:=K4 (.bool false)
  refine KG (Lb ?_)
  exact Lu (v:=.bool false) s4 rfl rfl ah ⟨(Pb (by first|exact(decide_eq_true (by omega)).symm|exact(decide_eq_false (by omega)).symm|exact decide_eq_decide.2 (by omega))),K0⟩
theorem ay5(p x y:Int)(k:Nat)(f:FD)(f0 f1 f2:Value)(b1:Nat)(b2:Nat)(b3:Nat)(b4:Nat)(T_f0:Nat->Prop)(T_f1:Nat->Prop)(T_f2:Nat->Prop)(w0:World)(hx:0<=x/\x<=64)(hy:0<=y/\y<=64)(hk:k<4)(h_f0:Mh w0 T_f0 f0 ((f).p0))(h_f1:Mh w0 T_f1 f1 ((f).p1))(h_f2:Mh w0 T_f2 f2 ((f).p2))(h_b1:Mz w0 b1 29 [.int .i64 ((f).W),.int .i64 ((f).H),f0,f1,f2])(h_b2:PO w0 b2 3 (.int .i64 (p)))(h_b3:PO w0 b3 3 (.int .i64 (x)))(h_b4:PO w0 b4 3 (.int .i64 (y))) :
  Calls Tryz.prog 164 #[.int .i64 (((k:Nat):Int)),.pointer (some ⟨b1,0,none⟩),.pointer (some ⟨b2,0,none⟩),.pointer (some ⟨b3,0,none⟩),.pointer (some ⟨b4,0,none⟩)] w0 fun e w'=>e = .returned (.int .i64 (Nq f p (x+(k:Int)) (y-1)))/\KO (fun _=>False) w0 w':=by
 refine Lr (args:=[iv ((k:Nat):Int),pt b1 0,pt b2 0,pt b3 0,pt b4 0]) 15 Tryz.func164 rfl rfl (Nat.le_of_ble_eq_true rfl) ?_
 have g_f0:=KP.refl w0 T_f0
 have g_f1:=KP.refl w0 T_f1
 have g_f2:=KP.refl w0 T_f2
 refine KJ (KH (KI (iv 0) rfl rfl (KS rfl rfl rr) (KM ?_)))
 have s3:=K4 (iv ((k:Nat):Int))
 have s4:=K4 (pt b1 0)
 have s5:=K4 (pt b2 0)
 have s6:=K4 (pt b3 0)
 have s7:=K4 (pt b4 0)
 have s8:=K4 (undef)
 refine KG (KJ (KH (KI (.agg #[iv (f.W),iv (f.H),f0,f1,f2]) rfl rfl (KZ Lc rfl s4 h_b1 rr) (KI (iv p) rfl rfl (MC rfl s5 Tryz.underlying3 h_b2 rfl rr) (KI (iv x) rfl rfl (MC rfl s6 Tryz.underlying3 h_b3 rfl rr) (KR rfl rfl rfl s3 (KI (iv (x+((k:Nat):Int))) rfl rfl (LP rfl rfl rfl (L2 rfl (by omega)) rr) (KI (iv y) rfl rfl (MC rfl s7 Tryz.underlying3 h_b4 rfl rr) (KI (iv (y-1)) rfl rfl (UA rfl rfl rfl (L2 rfl (by omega)) rr) (LW rfl rfl rfl rfl rfl (fun _ _=>by kernel_rfl) (Lk rfl (Lk rfl (Lk rfl (Lk rfl LR)))) (Ty p (x+((k:Nat):Int)) (y-1) f f0 f1 f2 T_f0 T_f1 T_f2 _  h_f0 h_f1 h_f2 ) fun w9 ai=>?_))))))))))
 refine KI (iv (Nq f p (x+((k:Nat):Int)) (y-1))) rfl rfl (KS rfl rfl rr) (KM ?_)
 have aj:=K4 (iv (Nq f p (x+((k:Nat):Int)) (y-1)))
 refine KG (Lb ?_)
 exact Lu (v:=iv (Nq f p (x+((k:Nat):Int)) (y-1))) s8 rfl rfl aj ⟨rfl,((KO.refl (fun _=>False) w0).tr ai)⟩
theorem aA4(p x y:Int)(k:Nat)(f:FD)(f0 f1 f2:Value)(b1:Nat)(b2:Nat)(b3:Nat)(b4:Nat)(T_f0:Nat->Prop)(T_f1:Nat->Prop)(T_f2:Nat->Prop)(w0:World)(hx:0<=x/\x<=64)(hy:0<=y/\y<=64)(hk:k<4)(h_f0:Mh w0 T_f0 f0 ((f).p0))(h_f1:Mh w0 T_f1 f1 ((f).p1))(h_f2:Mh w0 T_f2 f2 ((f).p2))(h_b1:Mz w0 b1 29 [.int .i64 ((f).W),.int .i64 ((f).H),f0,f1,f2])(h_b2:PO w0 b2 3 (.int .i64 (p)))(h_b3:PO w0 b3 3 (.int .i64 (x)))(h_b4:PO w0 b4 3 (.int .i64 (y))) :
  Calls Tryz.prog 165 #[.int .i64 (((k:Nat):Int)),.pointer (some ⟨b1,0,none⟩),.pointer (some ⟨b2,0,none⟩),.pointer (some ⟨b3,0,none⟩),.pointer (some ⟨b4,0,none⟩)] w0 fun e w'=>e = .returned (.int .i64 (Nq f p (x-1) (y+(k:Int))))/\KO (fun _=>False) w0 w':=by
 refine Lr (args:=[iv ((k:Nat):Int),pt b1 0,pt b2 0,pt b3 0,pt b4 0]) 15 Tryz.func165 rfl rfl (Nat.le_of_ble_eq_true rfl) ?_
 have g_f0:=KP.refl w0 T_f0
 have g_f1:=KP.refl w0 T_f1
 have g_f2:=KP.refl w0 T_f2
 refine KJ (KH (KI (iv 0) rfl rfl (KS rfl rfl rr) (KM ?_)))
 have s3:=K4 (iv ((k:Nat):Int))
 have s4:=K4 (pt b1 0)
 have s5:=K4 (pt b2 0)
 have s6:=K4 (pt b3 0)
 have s7:=K4 (pt b4 0)
 have s8:=K4 (undef)
 refine KG (KJ (KH (KI (.agg #[iv (f.W),iv (f.H),f0,f1,f2]) rfl rfl (KZ Lc rfl s4 h_b1 rr) (KI (iv p) rfl rfl (MC rfl s5 Tryz.underlying3 h_b2 rfl rr) (KI (iv x) rfl rfl (MC rfl s6 Tryz.underlying3 h_b3 rfl rr) (KI (iv (x-1)) rfl rfl (UA rfl rfl rfl (L2 rfl (by omega)) rr) (KI (iv y) rfl rfl (MC rfl s7 Tryz.underlying3 h_b4 rfl rr) (KR rfl rfl rfl s3 (KI (iv (y+((k:Nat):Int))) rfl rfl (LP rfl rfl rfl (L2 rfl (by omega)) rr) (LW rfl rfl rfl rfl rfl (fun _ _=>by kernel_rfl) (Lk rfl (Lk rfl (Lk rfl (Lk rfl LR)))) (Ty p (x-1) (y+((k:Nat):Int)) f f0 f1 f2 T_f0 T_f1 T_f2 _  h_f0 h_f1 h_f2 ) fun w9 ai=>?_))))))))))
 refine KI (iv (Nq f p (x-1) (y+((k:Nat):Int)))) rfl rfl (KS rfl rfl rr) (KM ?_)
 have aj:=K4 (iv (Nq f p (x-1) (y+((k:Nat):Int))))
 refine KG (Lb ?_)
 exact Lu (v:=iv (Nq f p (x-1) (y+((k:Nat):Int)))) s8 rfl rfl aj ⟨rfl,((KO.refl (fun _=>False) w0).tr ai)⟩
def QW(ahead:Int)(g:Nat->Int):Nat->Int:=fun i=>if ahead > 0 then g i else 128
theorem XS{a:Int}{g:Nat->Int}{k:Nat}(h:a > 0):g k=QW a g k:=(if_pos h).symm
theorem ZU{a:Int}{g:Nat->Int}{k:Nat}(h:¬ a > 0):128=QW a g k:=(if_neg h).symm
theorem Yx(ahead:Int)(fv:Value)(g:Nat->Int)(w0:World)(hg:Zq w0 4 fv g) :
  Calls Tryz.prog 163 #[.int .i64 (ahead),fv] w0 fun e w'=>e = .returned (.agg (L8 4 (QW ahead g)).toArray)/\KO (fun _=>False) w0 w':=by
 refine Lr (args:=[iv ahead,fv]) 21 Tryz.func163 rfl rfl (Nat.le_of_ble_eq_true rfl) ?_
 have K0:=KO.refl (fun _=>False) w0
 refine KJ (KH (P3 rfl rfl rfl M1.2.2 fun p1 w2 e5 B3 k4=>?_))
 have K8:=K0.tr k4
 refine KM ?_
 have aM:=K4 (iv ahead)
 have aN:=K4 (fv)
 have aO:=K4 (undef)
 have aP:=K4 (pt p1 0)
 refine KG (KJ (KH (P3 rfl rfl rfl M1.2.2 fun aa bg aw aQ az=>?_)))
 have aj:=LS (Nat.le_of_eq aw.symm)
 have aA:=KP.new K8 aj
 have aB:=KK.new aj (LT B3.lt)
 clear aw aj
 have aR:=B3.all az id
 refine KM ?_
 have aS:=K4 (pt aa 0)
 refine KG (KJ (KJ (KH (KI (iv 0) rfl rfl (KQ rfl rfl rr) (KM ?_)))))
 have aT:=K4 (iv 0)
 refine KG (Lm (MZ (fun nn FF ww=>∃ (k:Nat),(k<=4)/\nn=4-k/\FF 0=iv ahead/\FF 1=fv/\FF 4=pt p1 0/\FF 5=pt aa 0/\FF 21=undef/\FF 7=iv ((k:Nat):Int)/\KO (fun _=>False) w0 ww/\Ps ww p1 172 4 (fun _=>0)/\Ps ww aa 172 4 (upto k (fun _=>0) (QW ahead g))) (4-0) ⟨0,by omega,rfl,aM,aN,aP,aS,aO,aT,(K8.tr az),aR,aQ.first⟩ ?_))
 rintro bh bi aU ⟨k,i44,hn43,ak,am,ah,ac,an,ai,aC,aD,aE⟩
 refine KJ (KH (KI (.bool (decide (((k:Nat):Int)<4))) rfl rfl (L4 rfl ai rfl rfl rr) (KM ?_)))
 have aV:=K4 (.bool (decide (((k:Nat):Int)<4)))
 refine KG (KJ ?_)
 refine K6 aV (fun ae=>?_) (fun ae=>?_)
 ·replace ae:=of_decide_eq_true ae
  refine Lg (KG (KJ (Lm (KJ (KH (KR rfl rfl rfl ai (KI (iv ((k:Nat):Int)) rfl rfl (KS rfl rfl rr) (KM ?_))))))))
  have ao:=K4 (iv ((k:Nat):Int))
  refine KG (KJ (KH (KR rfl rfl rfl ao (KI (.pointer (some ⟨aa,k,none⟩)) rfl rfl (LV k (s:=1) rfl ac rfl (by omega) Tryz.underlying172 (by omega) (by kernel_rfl) (by omega) rr) (Ve rfl rfl rfl rfl rfl aE (by omega) (by kernel_rfl) fun aW ap aF=>?_)))))
  have aG:=aD.all aF (aB.symm p1 rfl)
  have aq:=aC.trans aF (KP.ok (S:=fun _=>False) aA K3)
  refine KM ?_
  refine KG (KJ (KH (KR rfl rfl rfl ak (KI (.bool (decide (0<ahead))) rfl rfl (Og rfl rfl rfl rfl rr) (KM ?_)))))
  have aX:=K4 (.bool (decide (0<ahead)))
  refine KG ?_
  refine K6 aX (fun af=>?_) (fun af=>?_)
  ·replace af:=of_decide_eq_true af
   refine KH (KR rfl rfl rfl ao (KR rfl rfl rfl am (KR rfl rfl rfl ao (LB (R:=fun v_ w_=>v_=iv (g k)/\KO (fun _=>False) aW w_) rfl rfl (aDq rfl rfl rfl rfl rfl (hg.all aq) (by omega) (fun e_ w_ h_=>⟨_,h_.1,rfl,h_.2⟩)) ?_))))
   rintro _ bj ⟨rfl,aH⟩
   obtain⟨aY,aZ⟩:=NA aH aG ap
   refine KI (.pointer (some ⟨aa,k,none⟩)) rfl rfl (LV k (s:=1) rfl ac rfl (by omega) Tryz.underlying172 (by omega) (by kernel_rfl) (by omega) rr) (Ve rfl rfl rfl rfl rfl aZ (by omega) (by kernel_rfl) fun bl aI aJ=>?_)
   have a8:=aY.all aJ (aB.symm p1 rfl)
   refine KM ?_
   refine LC (KG (KH (KI (iv ((k+1:Nat):Int)) rfl rfl (LP rfl ai rfl (L6 (by omega) (by omega)) rr) (KI (iv ((k+1:Nat):Int)) rfl rfl (KQ rfl rfl rr) (KM ?_)))))
   have a9:=K4 (iv ((k+1:Nat):Int))
   exact KG ⟨(4-(k+1)),by omega,k+1,by omega,rfl,ak,am,ah,ac,an,a9,((aq.tr aH).trans aJ (KP.ok (S:=fun _=>False) aA K3)),a8,(by first|exact aI.next2 (XS (by omega))|exact aI.next (ZU (by omega)))⟩
  ·replace af:=of_decide_eq_false af
   refine Lg (LC (KG (KH (KI (iv ((k+1:Nat):Int)) rfl rfl (LP rfl ai rfl (L6 (by omega) (by omega)) rr) (KI (iv ((k+1:Nat):Int)) rfl rfl (KQ rfl rfl rr) (KM ?_))))))
   have ba:=K4 (iv ((k+1:Nat):Int))
   exact KG ⟨(4-(k+1)),by omega,k+1,by omega,rfl,ak,am,ah,ac,an,ba,aq,aG,(by first|exact ap.next2 (XS (by omega))|exact ap.next (ZU (by omega)))⟩
 ·replace ae:=of_decide_eq_false ae
  refine Me (Ls (Ls ?_))
  have bb:4=k:=by omega
  subst bb
  have bc:Ps aU aa 172 4 (QW ahead g):=(aE.last)
  refine Mf (KG (KJ (KH (KI (.agg (L8 4 (QW ahead g)).toArray) rfl rfl (Rp M1 rfl ac bc rr) (Rr M1 rfl rfl rfl ah rfl aD fun bm bd be=>?_)))))
  refine KM ?_
  refine KG (Lb ?_)
  exact Xi M1 an rfl rfl ah bd ⟨rfl,(aC.trans be (KP.ok (S:=fun _=>False) (KP.new K0 (LS (Nat.le_of_eq e5.symm))) K3))⟩
theorem ayO{p x y:Int}{f:FD}{f0 f1 f2:Value}{b1 b2 b3 b4:Nat}{T0 T1 T2:Nat->Prop}{w:World}(hx:0<=x/\x<=64)(hy:0<=y/\y<=64)(h0:Mh w T0 f0 f.p0)(h1:Mh w T1 f1 f.p1)(h2:Mh w T2 f2 f.p2)
  (g1:Mz w b1 29 [.int .i64 f.W,.int .i64 f.H,f0,f1,f2]) (g2:PO w b2 3 (.int .i64 p)) (g3:PO w b3 3 (.int .i64 x)) (g4:PO w b4 3 (.int .i64 y)) :
  Zq w 4 (.func (.func 164) #[] #[.pointer (some ⟨b1,0,none⟩),.pointer (some ⟨b2,0,none⟩),.pointer (some ⟨b3,0,none⟩),.pointer (some ⟨b4,0,none⟩)]) (fun k=>Nq f p (x+(k:Int)) (y-1)) :=
 ⟨_,[.pointer (some ⟨b1,0,none⟩),.pointer (some ⟨b2,0,none⟩),.pointer (some ⟨b3,0,none⟩),.pointer (some ⟨b4,0,none⟩)],rfl,fun _ _=>by kernel_rfl,fun w' k i hi =>
  ay5 p x y i f f0 f1 f2 b1 b2 b3 b4 T0 T1 T2 w' hx hy hi (h0.all k KK.none) (h1.all k KK.none) (h2.all k KK.none) (g1.all k id) (g2.all k id) (g3.all k id) (g4.all k id)⟩
theorem aAu{p x y:Int}{f:FD}{f0 f1 f2:Value}{b1 b2 b3 b4:Nat}{T0 T1 T2:Nat->Prop}{w:World}(hx:0<=x/\x<=64)(hy:0<=y/\y<=64)(h0:Mh w T0 f0 f.p0)(h1:Mh w T1 f1 f.p1)(h2:Mh w T2 f2 f.p2)
  (g1:Mz w b1 29 [.int .i64 f.W,.int .i64 f.H,f0,f1,f2]) (g2:PO w b2 3 (.int .i64 p)) (g3:PO w b3 3 (.int .i64 x)) (g4:PO w b4 3 (.int .i64 y)) :
  Zq w 4 (.func (.func 165) #[] #[.pointer (some ⟨b1,0,none⟩),.pointer (some ⟨b2,0,none⟩),.pointer (some ⟨b3,0,none⟩),.pointer (some ⟨b4,0,none⟩)]) (fun k=>Nq f p (x-1) (y+(k:Int))) :=
 ⟨_,[.pointer (some ⟨b1,0,none⟩),.pointer (some ⟨b2,0,none⟩),.pointer (some ⟨b3,0,none⟩),.pointer (some ⟨b4,0,none⟩)],rfl,fun _ _=>by kernel_rfl,fun w' k i hi =>
  aA4 p x y i f f0 f1 f2 b1 b2 b3 b4 T0 T1 T2 w' hx hy hi (h0.all k KK.none) (h1.all k KK.none) (h2.all k KK.none) (g1.all k id) (g2.all k id) (g3.all k id) (g4.all k id)⟩
theorem Zm(f:FD)(p x y:Int):QW y (fun k=>Nq f p (x+(k:Int)) (y-1))=fun k=>NV f p x y ((k:Nat):Int):=by
 funext k;unfold QW NV;by_cases h:y<=0
 ·rw[if_neg (by omega),if_pos h]
 ·rw[if_pos (by omega),if_neg h]
theorem ay7(f:FD)(p x y:Int):QW x (fun k=>Nq f p (x-1) (y+(k:Int)))=fun k=>O5 f p x y ((k:Nat):Int):=by
 funext k;unfold QW O5;by_cases h:x<=0
 ·rw[if_neg (by omega),if_pos h]
 ·rw[if_pos (by omega),if_neg h]
theorem aAA(p x y:Int)(f:FD)(f0 f1 f2:Value)(T_f0:Nat->Prop)(T_f1:Nat->Prop)(T_f2:Nat->Prop)(w0:World)(hx:0<=x/\x<=64)(hy:0<=y/\y<=64)(h_f0:Mh w0 T_f0 f0 ((f).p0))(h_f1:Mh w0 T_f1 f1 ((f).p1))(h_f2:Mh w0 T_f2 f2 ((f).p2)) :
  Calls Tryz.prog 142 #[.agg #[.int .i64 ((f).W),.int .i64 ((f).H),f0,f1,f2],.int .i64 (p),.int .i64 (x),.int .i64 (y)] w0 fun e w'=>e = .returned (.agg (L8 4 (fun k=>NV f p x y ((k:Nat):Int))).toArray)/\KO (fun _=>False) w0 w':=by
 refine Lr (args:=[.agg #[iv (f.W),iv (f.H),f0,f1,f2],iv p,iv x,iv y]) 12 Tryz.func142 rfl rfl (Nat.le_of_ble_eq_true rfl) ?_
 have g_f0:=KP.refl w0 T_f0
 have g_f1:=KP.refl w0 T_f1
 have g_f2:=KP.refl w0 T_f2
 refine KJ (KH (Lz (vs:=[iv (f.W),iv (f.H),f0,f1,f2]) rfl rfl rfl rfl fun p1 w2 B4 g5 k3=>?_))
 obtain⟨au,av,aw⟩:=Nu k3 h_f0 h_f1 h_f2
 refine Pn rfl rfl rfl rfl (by rfl) fun ab bi az bj ah=>?_
 obtain⟨aA,aB,aC,aD⟩:=OV ah au av aw B4
 refine Pn rfl rfl rfl rfl (by rfl) fun ac bl aE bm ai=>?_
 obtain⟨aF,aG,aH,aI,aJ⟩:=OU ai aA aB aC aD az
 refine Pn rfl rfl rfl rfl (by rfl) fun ae bn aK bo aj=>?_
 obtain⟨aL,aM,aN,aO,aP,aQ⟩:=QB aj aF aG aH aI aJ aE
 have ak:=((((KO.refl (fun _=>False) w0).tr k3).tr ah).tr ai).tr aj
 refine P3 rfl rfl rfl M1.2.2 fun aR aS aT aU am=>?_
 obtain⟨aV,aW,aX,aY,aZ,a8,an⟩:=Tz am aL aM aN aO aP aQ aK
 refine KM ?_
 have a9:=K4 (undef)
 have ba:=K4 (pt p1 0)
 have bb:=K4 (pt ab 0)
 have bc:=K4 (pt ac 0)
 have ao:=K4 (pt ae 0)
 have ap:=K4 (pt aR 0)
 refine KG (KJ (KH (KI (iv y) rfl rfl (MC rfl ao Tryz.underlying3 an rfl rr) (KI (.func (.func 164) #[] #[pt p1 0,pt ab 0,pt ac 0,pt ae 0]) rfl rfl (WG rfl (Lk ba (Lk bb (Lk bc (Lk ao LR)))) rr) (LB (R:=fun v_ w_=>v_ = .agg (L8 4 (fun k=>NV f p x y ((k:Nat):Int))).toArray/\KO (fun _=>False) aS w_) rfl rfl (LH rfl rfl rfl (fun _ _=>by kernel_rfl) (K5 _) (Lk rfl (Lk rfl LR)) (Yx y (.func (.func 164) #[] #[pt p1 0,pt ab 0,pt ac 0,pt ae 0]) (fun k=>Nq f p (x+(k:Int)) (y-1))  _ (ayO hx hy aV aW aX aY aZ a8 an)  ) (fun e_ w_ h_=>⟨_,h_.1,congrArg (fun z=>Value.agg (L8 4 z).toArray) (Zm f p x y),h_.2⟩)) ?_)))))
 rintro _ bp ⟨rfl,aq⟩
 have bd:=aU.all aq id
 refine Rr M1 rfl rfl rfl ap rfl bd fun bq be bf=>?_
 refine KM ?_
 refine KG (Lb ?_)
 exact Xi M1 a9 rfl rfl ap be ⟨rfl,(((ak.tr am).tr aq).trans bf (KP.ok (S:=fun _=>False) (KP.new ak (LS (Nat.le_of_eq aT.symm))) K3))⟩
theorem aB6(p x y:Int)(f:FD)(f0 f1 f2:Value)(T_f0:Nat->Prop)(T_f1:Nat->Prop)(T_f2:Nat->Prop)(w0:World)(hx:0<=x/\x<=64)(hy:0<=y/\y<=64)(h_f0:Mh w0 T_f0 f0 ((f).p0))(h_f1:Mh w0 T_f1 f1 ((f).p1))(h_f2:Mh w0 T_f2 f2 ((f).p2)) :
  Calls Tryz.prog 143 #[.agg #[.int .i64 ((f).W),.int .i64 ((f).H),f0,f1,f2],.int .i64 (p),.int .i64 (x),.int .i64 (y)] w0 fun e w'=>e = .returned (.agg (L8 4 (fun k=>O5 f p x y ((k:Nat):Int))).toArray)/\KO (fun _=>False) w0 w':=by
 refine Lr (args:=[.agg #[iv (f.W),iv (f.H),f0,f1,f2],iv p,iv x,iv y]) 12 Tryz.func143 rfl rfl (Nat.le_of_ble_eq_true rfl) ?_
 have g_f0:=KP.refl w0 T_f0
 have g_f1:=KP.refl w0 T_f1
 have g_f2:=KP.refl w0 T_f2
 refine KJ (KH (Lz (vs:=[iv (f.W),iv (f.H),f0,f1,f2]) rfl rfl rfl rfl fun p1 w2 B4 g5 k3=>?_))
 obtain⟨au,av,aw⟩:=Nu k3 h_f0 h_f1 h_f2
 refine Pn rfl rfl rfl rfl (by rfl) fun ab bi az bj ah=>?_
 obtain⟨aA,aB,aC,aD⟩:=OV ah au av aw B4
 refine Pn rfl rfl rfl rfl (by rfl) fun ac bl aE bm ai=>?_
 obtain⟨aF,aG,aH,aI,aJ⟩:=OU ai aA aB aC aD az
 refine Pn rfl rfl rfl rfl (by rfl) fun ae bn aK bo aj=>?_
 obtain⟨aL,aM,aN,aO,aP,aQ⟩:=QB aj aF aG aH aI aJ aE
 have ak:=((((KO.refl (fun _=>False) w0).tr k3).tr ah).tr ai).tr aj
 refine P3 rfl rfl rfl M1.2.2 fun aR aS aT aU am=>?_
 obtain⟨aV,aW,aX,aY,aZ,an,a8⟩:=Tz am aL aM aN aO aP aQ aK
 refine KM ?_
 have a9:=K4 (undef)
 have ba:=K4 (pt p1 0)
 have bb:=K4 (pt ab 0)
 have ao:=K4 (pt ac 0)
 have bc:=K4 (pt ae 0)
 have ap:=K4 (pt aR 0)
 refine KG (KJ (KH (KI (iv x) rfl rfl (MC rfl ao Tryz.underlying3 an rfl rr) (KI (.func (.func 165) #[] #[pt p1 0,pt ab 0,pt ac 0,pt ae 0]) rfl rfl (WG rfl (Lk ba (Lk bb (Lk ao (Lk bc LR)))) rr) (LB (R:=fun v_ w_=>v_ = .agg (L8 4 (fun k=>O5 f p x y ((k:Nat):Int))).toArray/\KO (fun _=>False) aS w_) rfl rfl (LH rfl rfl rfl (fun _ _=>by kernel_rfl) (K5 _) (Lk rfl (Lk rfl LR)) (Yx x (.func (.func 165) #[] #[pt p1 0,pt ab 0,pt ac 0,pt ae 0]) (fun k=>Nq f p (x-1) (y+(k:Int)))  _ (aAu hx hy aV aW aX aY aZ an a8)  ) (fun e_ w_ h_=>⟨_,h_.1,congrArg (fun z=>Value.agg (L8 4 z).toArray) (ay7 f p x y),h_.2⟩)) ?_)))))
 rintro _ bp ⟨rfl,aq⟩
 have bd:=aU.all aq id
 refine Rr M1 rfl rfl rfl ap rfl bd fun bq be bf=>?_
 refine KM ?_
 refine KG (Lb ?_)
 exact Xi M1 a9 rfl rfl ap be ⟨rfl,(((ak.tr am).tr aq).trans bf (KP.ok (S:=fun _=>False) (KP.new ak (LS (Nat.le_of_eq aT.symm))) K3))⟩
def Nb(e:Nat->Int):Nat->Int
 | 0=>0
 | k+1=>Nb e k+e k
theorem VP{e:Nat->Int}(h:∀ i,0<=e i/\e i<=255)(k:Nat):0<=Nb e k/\Nb e k<=255*k:=by
 induction k with
 | zero=>simp[Nb]
 | succ k ih=>have:=h k;rw[Nb];omega
theorem YL(s:Nat->Int)(w0:World)(he:∀ i,0<=s i/\s i<=255) :
  Calls Tryz.prog 158 #[.agg (L8 4 (s)).toArray] w0 fun e w'=>e = .returned (.int .i64 (Nb s 4))/\KO (fun _=>False) w0 w':=by
 refine Lr (args:=[.agg (L8 4 s).toArray]) 15 Tryz.func158 rfl rfl (Nat.le_of_ble_eq_true rfl) ?_
 refine KJ (KH (SM rfl rfl rfl rfl fun p1 w2 e5 B3 k4=>?_))
 have g6:=LS (Nat.le_of_eq e5.symm)
 clear e5 g6
 refine KI (iv 0) rfl rfl (KS rfl rfl rr) (KM ?_)
 have ao:=K4 (undef)
 have ap:=K4 (pt p1 0)
 refine KG (KJ (KH (KI (iv 0) rfl rfl (KS rfl rfl rr) (KM ?_))))
 have aq:=K4 (iv 0)
 refine KG (KJ (KJ (KH (KI (.agg (L8 4 s).toArray) rfl rfl (Rp M1 rfl ap B3 rr) (KI (iv 0) rfl rfl (KQ rfl rfl rr) (KM ?_))))))
 have ar:=K4 (.agg (L8 4 s).toArray)
 have au:=K4 (iv 0)
 refine KG (Lm (MZ (fun nn FF ww=>∃ (k:Nat),(k<=4)/\nn=4-k/\FF 6 = .agg (L8 4 s).toArray/\FF 15=undef/\FF 3=iv (Nb s k)/\FF 7=iv ((k:Nat):Int)/\KO (fun _=>False) w0 ww/\Ps ww p1 172 4 s) (4-0) ⟨0,by omega,rfl,ar,ao,aq,au,((KO.refl (fun _=>False) w0).tr k4),B3⟩ ?_))
 rintro aF aG aH ⟨k,i28,hn27,ah,ai,aj,ab,ak,av⟩
 refine KJ (KH (KI (.bool (decide (((k:Nat):Int)<4))) rfl rfl (L4 rfl ab rfl rfl rr) (KM ?_)))
 have aw:=K4 (.bool (decide (((k:Nat):Int)<4)))
 refine KG (KJ ?_)
 refine K6 aw (fun aa=>?_) (fun aa=>?_)
 ·replace aa:=of_decide_eq_true aa
  refine Lg (KG (KJ (Lm (KJ (KH (KI (iv (s k)) rfl rfl (aB5 k M1 rfl ah ab (by omega) rfl rr) (KI (iv (s k)) rfl rfl (KS rfl rfl rr) (KM ?_))))))))
  have az:=K4 (iv (s k))
  refine KG ?_
  have ht:=VP he k
  have hk:=he k
  refine KH (KR rfl rfl rfl aj (KR rfl rfl rfl az (KI (iv ((Nb s k)+(s k))) rfl rfl (LP rfl rfl rfl (L2 rfl (by omega)) rr) (KI (iv ((Nb s k)+(s k))) rfl rfl (KS rfl rfl rr) (KM ?_)))))
  have aA:=K4 (iv ((Nb s k)+(s k)))
  refine LC (KG (KH (KI (iv ((k+1:Nat):Int)) rfl rfl (LP rfl ab rfl (L6 (by omega) (by omega)) rr) (KI (iv ((k+1:Nat):Int)) rfl rfl (KQ rfl rfl rr) (KM ?_)))))
  have aB:=K4 (iv ((k+1:Nat):Int))
  exact KG ⟨(4-(k+1)),by omega,k+1,by omega,rfl,ah,ai,aA,aB,ak,av⟩
 ·replace aa:=of_decide_eq_false aa
  refine Me (Ls (Ls ?_))
  have aC:4=k:=by omega
  subst aC
  refine Mf (KG (KJ (KH (KR rfl rfl rfl aj (KI (iv (Nb s 4)) rfl rfl (KS rfl rfl rr) (KM ?_))))))
  have aD:=K4 (iv (Nb s 4))
  refine KG (Lb ?_)
  exact Lu (v:=iv (Nb s 4)) ai rfl rfl aD ⟨rfl,ak⟩
def Ur(a l:Nat->Int)(m i k:Nat):Int :=
 if m=0 then Int.tdiv (Nb a 4+Nb l 4+4) 8 else if m=1 then a k else if m=2 then l i else Int.tdiv (a k+l i+1) 2
theorem aDZ(i k:Nat)(n:Int)(b1:Nat)(w0:World)(h_b1:PO w0 b1 3 (.int .i64 (n))) :
  Calls Tryz.prog 159 #[.int .i64 (((i:Nat):Int)),.int .i64 (((k:Nat):Int)),.pointer (some ⟨b1,0,none⟩)] w0 fun e w'=>e = .returned (.int .i64 (n))/\KO (fun _=>False) w0 w':=by
 refine Lr (args:=[iv ((i:Nat):Int),iv ((k:Nat):Int),pt b1 0]) 7 Tryz.func159 rfl rfl (Nat.le_of_ble_eq_true rfl) ?_
 refine KJ (KH (KI (iv 0) rfl rfl (KS rfl rfl rr) (KM ?_)))
 have s3:=K4 (pt b1 0)
 have s4:=K4 (undef)
 refine KG (KJ (KH (KI (iv n) rfl rfl (MC rfl s3 Tryz.underlying3 h_b1 rfl rr) (KI (iv n) rfl rfl (KS rfl rfl rr) (KM ?_)))))
 have s8:=K4 (iv n)
 refine KG (Lb ?_)
 exact Lu (v:=iv n) s4 rfl rfl s8 ⟨rfl,(KO.refl (fun _=>False) w0)⟩
theorem aEm(i k:Nat)(a:Nat->Int)(b1:Nat)(w0:World)(hk:k<4)(h_b1:Ps w0 b1 172 4 (a)) :
  Calls Tryz.prog 160 #[.int .i64 (((i:Nat):Int)),.int .i64 (((k:Nat):Int)),.pointer (some ⟨b1,0,none⟩)] w0 fun e w'=>e = .returned (.int .i64 (a k))/\KO (fun _=>False) w0 w':=by
 refine Lr (args:=[iv ((i:Nat):Int),iv ((k:Nat):Int),pt b1 0]) 9 Tryz.func160 rfl rfl (Nat.le_of_ble_eq_true rfl) ?_
 refine KJ (KH (KI (iv 0) rfl rfl (KS rfl rfl rr) (KM ?_)))
 have s3:=K4 (iv ((k:Nat):Int))
 have s4:=K4 (pt b1 0)
 have s5:=K4 (undef)
 refine KG (KJ (KH (KR rfl rfl rfl s3 (KI (.pointer (some ⟨b1,k,none⟩)) rfl rfl (LV k (s:=1) rfl s4 rfl (by omega) Tryz.underlying172 (by omega) (by kernel_rfl) (by omega) rr) (KI (iv (a k)) rfl rfl (OD rfl rfl Tryz.underlying3 (h_b1.cell (by omega)) rr) (KI (iv (a k)) rfl rfl (KS rfl rfl rr) (KM ?_)))))))
 have s9:=K4 (iv (a k))
 refine KG (Lb ?_)
 exact Lu (v:=iv (a k)) s5 rfl rfl s9 ⟨rfl,(KO.refl (fun _=>False) w0)⟩
theorem aDW(i k:Nat)(l:Nat->Int)(b1:Nat)(w0:World)(hi:i<4)(h_b1:Ps w0 b1 172 4 (l)) :
  Calls Tryz.prog 161 #[.int .i64 (((i:Nat):Int)),.int .i64 (((k:Nat):Int)),.pointer (some ⟨b1,0,none⟩)] w0 fun e w'=>e = .returned (.int .i64 (l i))/\KO (fun _=>False) w0 w':=by
 refine Lr (args:=[iv ((i:Nat):Int),iv ((k:Nat):Int),pt b1 0]) 9 Tryz.func161 rfl rfl (Nat.le_of_ble_eq_true rfl) ?_
 refine KJ (KH (KI (iv 0) rfl rfl (KS rfl rfl rr) (KM ?_)))
 have s3:=K4 (iv ((i:Nat):Int))
 have s4:=K4 (pt b1 0)
 have s5:=K4 (undef)
 refine KG (KJ (KH (KR rfl rfl rfl s3 (KI (.pointer (some ⟨b1,i,none⟩)) rfl rfl (LV i (s:=1) rfl s4 rfl (by omega) Tryz.underlying172 (by omega) (by kernel_rfl) (by omega) rr) (KI (iv (l i)) rfl rfl (OD rfl rfl Tryz.underlying3 (h_b1.cell (by omega)) rr) (KI (iv (l i)) rfl rfl (KS rfl rfl rr) (KM ?_)))))))
 have s9:=K4 (iv (l i))
 refine KG (Lb ?_)
 exact Lu (v:=iv (l i)) s5 rfl rfl s9 ⟨rfl,(KO.refl (fun _=>False) w0)⟩
theorem aEr(i k:Nat)(a l:Nat->Int)(b1:Nat)(b2:Nat)(w0:World)(hi:i<4)(hk:k<4)(ha:∀ i,0<=a i/\a i<=255)(hl:∀ i,0<=l i/\l i<=255)(h_b1:Ps w0 b1 172 4 (a))(h_b2:Ps w0 b2 172 4 (l)) :
  Calls Tryz.prog 162 #[.int .i64 (((i:Nat):Int)),.int .i64 (((k:Nat):Int)),.pointer (some ⟨b1,0,none⟩),.pointer (some ⟨b2,0,none⟩)] w0 fun e w'=>e = .returned (.int .i64 (Int.tdiv (a k+l i+1) 2))/\KO (fun _=>False) w0 w':=by
 refine Lr (args:=[iv ((i:Nat):Int),iv ((k:Nat):Int),pt b1 0,pt b2 0]) 16 Tryz.func162 rfl rfl (Nat.le_of_ble_eq_true rfl) ?_
 refine KJ (KH (KI (iv 0) rfl rfl (KS rfl rfl rr) (KM ?_)))
 have s3:=K4 (iv ((i:Nat):Int))
 have s4:=K4 (iv ((k:Nat):Int))
 have s5:=K4 (pt b1 0)
 have s6:=K4 (pt b2 0)
 have s7:=K4 (undef)
 refine KG (KJ ?_)
 have h1:=ha k
 have h2:=hl i
 refine QI [some 7,some 8,some 9,some 10,some 11,some 12,some 13,some 14,some 15,some 6] [Pd.eq (iv ((k:Nat):Int)),Pd.eq (.pointer (some ⟨b1,k,none⟩)),Pd.eq (iv (a k)),Pd.eq (iv ((i:Nat):Int)),Pd.eq (.pointer (some ⟨b2,i,none⟩)),Pd.eq (iv (l i)),Pd.eq (iv ((a k)+(l i))),Pd.eq (iv (((a k)+(l i))+1)),Pd.eq (iv (Int.tdiv (a k+l i+1) 2)),Pd.eq (iv (Int.tdiv (a k+l i+1) 2))] (by kernel_rfl) (by kernel_rfl) ?_ ?_
 ·refine KL ?_ ?_
  ·refine La.one rfl fun F_ w_ hR hout hD=>?_
   exact(KQ rfl ((hout 1 rfl (by decide)).trans s4) ⟨rfl,KO.refl _ _⟩)
  refine KL ?_ ?_
  ·refine La.one rfl fun F_ w_ hR hout hD=>?_
   have g7:F_ 7=iv ((k:Nat):Int):=(hD.get 0 rfl rfl rfl)
   exact(LV k (s:=1) rfl ((hout 2 rfl (by decide)).trans s5) g7 (by omega) Tryz.underlying172 (by omega) (by kernel_rfl) (by omega) ⟨rfl,KO.refl _ _⟩)
  refine KL ?_ ?_
  ·refine La.one rfl fun F_ w_ hR hout hD=>?_
   have g8:F_ 8 = .pointer (some ⟨b1,k,none⟩):=(hD.get 0 rfl rfl rfl)
   exact(OD rfl g8 Tryz.underlying3 ((h_b1.all hR id).cell (by omega)) ⟨rfl,KO.refl _ _⟩)
  refine KL ?_ ?_
  ·refine La.one rfl fun F_ w_ hR hout hD=>?_
   exact(KQ rfl ((hout 0 rfl (by decide)).trans s3) ⟨rfl,KO.refl _ _⟩)
  refine KL ?_ ?_
  ·refine La.one rfl fun F_ w_ hR hout hD=>?_
   have am:F_ 10=iv ((i:Nat):Int):=(hD.get 0 rfl rfl rfl)
   exact(LV i (s:=1) rfl ((hout 3 rfl (by decide)).trans s6) am (by omega) Tryz.underlying172 (by omega) (by kernel_rfl) (by omega) ⟨rfl,KO.refl _ _⟩)
  refine KL ?_ ?_
  ·refine La.one rfl fun F_ w_ hR hout hD=>?_
   have an:F_ 11 = .pointer (some ⟨b2,i,none⟩):=(hD.get 0 rfl rfl rfl)
   exact(OD rfl an Tryz.underlying3 ((h_b2.all hR id).cell (by omega)) ⟨rfl,KO.refl _ _⟩)
  refine KL ?_ ?_
  ·refine La.one rfl fun F_ w_ hR hout hD=>?_
   have g9:F_ 9=iv (a k):=(hD.get 0 rfl rfl rfl)
   have ap:F_ 12=iv (l i):=(hD.get 1 rfl rfl rfl)
   exact(LP rfl g9 ap (L2 rfl (by omega)) ⟨rfl,KO.refl _ _⟩)
  refine KL ?_ ?_
  ·refine La.one rfl fun F_ w_ hR hout hD=>?_
   have aq:F_ 13=iv ((a k)+(l i)):=(hD.get 0 rfl rfl rfl)
   exact(LP rfl aq rfl (L2 rfl (by omega)) ⟨rfl,KO.refl _ _⟩)
  refine KL ?_ ?_
  ·refine La.one rfl fun F_ w_ hR hout hD=>?_
   have ar:F_ 14=iv (((a k)+(l i))+1):=(hD.get 0 rfl rfl rfl)
   exact(Pv rfl ar rfl (by first|decide|omega) (L2 rfl (by rw[O8 (by omega)];omega)) ⟨rfl,KO.refl _ _⟩)
  refine KL ?_ ?_
  ·refine La.one rfl fun F_ w_ hR hout hD=>?_
   have au:F_ 15=iv (Int.tdiv (a k+l i+1) 2):=(hD.get 0 rfl rfl rfl)
   exact(KS rfl au ⟨rfl,KO.refl _ _⟩)
  exact L0
 intro v8 F9 aC aw ab aa
 have az:=(aa 16).trans s7
 have aA:F9 6=iv (Int.tdiv (a k+l i+1) 2):=(aa 6).trans (ab 9 (by decide))
 clear ab aa
 refine KG (Lb ?_)
 exact Lu (v:=iv (Int.tdiv (a k+l i+1) 2)) az rfl rfl aA ⟨rfl,((KO.refl (fun _=>False) w0).tr aw)⟩
def Fns(w:World)(v:Value)(g:Nat->Nat->Nat->Int):Prop:=∃ c:Nat->Value,v = .agg #[c 0,c 1,c 2,c 3]/\∀ m,m<4->Ym w 4 (c m) (g m)
theorem Fns.all{w w':World}{v:Value}{g:Nat->Nat->Nat->Int}(h:Fns w v g)(k:KO (fun _=>False) w w'):Fns w' v g:=by
 obtain⟨c,e,h⟩:=h;exact⟨c,e,fun m hm=>(h m hm).all k⟩
def Pd.fns(g:Nat->Nat->Nat->Int):Pd:=⟨fun v w=>Fns w v g,fun _ _ _ h k=>h.all k⟩
theorem aDT{ρ:Operand->Value}{o:Oper}{w:World}{R:Value->World->Prop}{x y:Operand}{k:IntKind}{v:Value}{g:Nat->Nat->Nat->Int}(j:Nat){i:Int}(ho:o.op = .index 169 x y)(hx:ρ x=v)(hb:Fns w v g)(hy:ρ y = .int k i)(hi:i=(j:Int))(hj:j<4)(h:∀ c,Ym w 4 c (g j)->R c w):Le Tryz.prog ρ o w R:=by
 obtain⟨c,rfl,hc⟩:=hb
 subst hi
 have hs:(Tryz.prog.info? 167).map (·.size)=some 1:=by kernel_rfl
 have hv : #[c 0,c 1,c 2,c 3][j]? = some (c j):=by
  rcases (by omega:j=0\/j=1\/j=2\/j=3) with rfl|rfl|rfl|rfl <;> rfl
 cases hq:Tryz.prog.info? 167 with
 | none=>simp[hq] at hs
 | some i =>
  have hs':i.size=1:=by simpa [hq] using hs
  have hp:(part 167 #[c 0,c 1,c 2,c 3] j).run Tryz.prog w = .ok (c j) w:=by simp[part,isAgg,run_underlying Tryz.underlying167,hv]
  have h1:(0:Int)<=(j:Int):=by omega
  exact N1 (v:=c j) (w':=w) (by simp[execOp,ho,hx,hy,Instr.index,run_underlying Tryz.underlying169,asIntOf,sizeOf,typeInfo,hq,hs',hp,h1,hj]) (h _ (hc j hj))
theorem aCX{w:World}{a l:Nat->Int}{b2 b3 b5:Nat}(ha:∀ i,0<=a i/\a i<=255)(hl:∀ i,0<=l i/\l i<=255)(h2:Ps w b2 172 4 a)(h3:Ps w b3 172 4 l)(h5:PO w b5 3 (.int .i64 (Int.tdiv (Nb a 4+Nb l 4+4) 8))) :
  Fns w (.agg [.func (.func 159) #[] #[.pointer (some ⟨b5,0,none⟩)],.func (.func 160) #[] #[.pointer (some ⟨b2,0,none⟩)],.func (.func 161) #[] #[.pointer (some ⟨b3,0,none⟩)],.func (.func 162) #[] #[.pointer (some ⟨b2,0,none⟩),.pointer (some ⟨b3,0,none⟩)]].toArray) (Ur a l):=by
 refine⟨fun m=>match m with
  | 0=>.func (.func 159) #[] #[.pointer (some ⟨b5,0,none⟩)]
  | 1=>.func (.func 160) #[] #[.pointer (some ⟨b2,0,none⟩)]
  | 2=>.func (.func 161) #[] #[.pointer (some ⟨b3,0,none⟩)]
  | _=>.func (.func 162) #[] #[.pointer (some ⟨b2,0,none⟩),.pointer (some ⟨b3,0,none⟩)],rfl,fun m hm=>?_⟩
 rcases (by omega:m=0\/m=1\/m=2\/m=3) with rfl|rfl|rfl|rfl
 ·exact⟨_,[_],rfl,fun _ _=>by kernel_rfl,fun w' k i j hi hj=>aDZ i j _ b5 w' (h5.all k id)⟩
 ·exact⟨_,[_],rfl,fun _ _=>by kernel_rfl,fun w' k i j hi hj=>aEm i j a b2 w' hj (h2.all k id)⟩
 ·exact⟨_,[_],rfl,fun _ _=>by kernel_rfl,fun w' k i j hi hj=>aDW i j l b3 w' hi (h3.all k id)⟩
 ·exact⟨_,[_,_],rfl,fun _ _=>by kernel_rfl,fun w' k i j hi hj=>aEr i j a l b2 b3 w' hi hj ha hl (h2.all k id) (h3.all k id)⟩
theorem V5(a l:Nat->Int)(w0:World)(ha:∀ i,0<=a i/\a i<=255)(hl:∀ i,0<=l i/\l i<=255) :
  Calls Tryz.prog 141 #[.agg (L8 4 (a)).toArray,.agg (L8 4 (l)).toArray] w0 fun e w'=>∃ (v1:Value),e = .returned v1/\KO (fun _=>False) w0 w'/\(Pd.fns (Ur a l)).says v1 w':=by
 refine Lr (args:=[.agg (L8 4 a).toArray,.agg (L8 4 l).toArray]) 18 Tryz.func141 rfl rfl (Nat.le_of_ble_eq_true rfl) ?_
 refine KJ (KH (SM rfl rfl rfl rfl fun p1 w2 e5 B3 k4=>?_))
 have g6:=LS (Nat.le_of_eq e5.symm)
 clear e5 g6
 refine SM rfl rfl rfl rfl fun p9 bt aq ar au=>?_
 have aP:=LS (Nat.le_of_eq aq.symm)
 clear aq aP
 have av:=B3.all au id
 have aw:=((KO.refl (fun _=>False) w0).tr k4).tr au
 refine LF (n:=4) (vs:=[Value.nilFunc,Value.nilFunc,Value.nilFunc,Value.nilFunc]) rfl rfl rfl (by kernel_rfl) fun az aQ aA aB aC=>?_
 obtain⟨aR,aS⟩:=TQ aB av ar
 obtain⟨ak,am⟩:=NA aC av ar
 have aD:=aw.tr aC
 refine KM ?_
 have aT:=K4 (undef)
 have aE:=K4 (pt p1 0)
 have aF:=K4 (pt p9 0)
 have aU:=K4 (pt az 0)
 refine KG (KJ ?_)
 have h1:=VP ha 4
 have h2:=VP hl 4
 refine Na 8 [some 6,some 7,some 8,some 9,some 10,some 11,some 12,some 5] [Pd.eq (.agg (L8 4 a).toArray),Pd.eq (iv (Nb a 4)),Pd.eq (.agg (L8 4 l).toArray),Pd.eq (iv (Nb l 4)),Pd.eq (iv ((Nb a 4)+(Nb l 4))),Pd.eq (iv (((Nb a 4)+(Nb l 4))+4)),Pd.eq (iv (Int.tdiv (Nb a 4+Nb l 4+4) 8)),Pd.cel aQ.heap.size 3 (iv 0)] (by kernel_rfl) (by kernel_rfl) (by kernel_rfl) ?_ ?_
 ·refine KL ?_ ?_
  ·refine La.one rfl fun F_ w_ hR hout hD=>?_
   exact(Rp M1 rfl ((hout 2 rfl (by decide)).trans aE) (ak.all hR id) ⟨rfl,KO.refl _ _⟩)
  refine KL ?_ ?_
  ·refine La.one rfl fun F_ w_ hR hout hD=>?_
   have g6:F_ 6 = .agg (L8 4 a).toArray:=(hD.get 0 rfl rfl rfl)
   exact(LH rfl rfl rfl (fun _ _=>by kernel_rfl) (K5 _) (Lk g6 LR) (YL a  _ ha  ) (fun e_ w_ h_=>⟨_,h_.1,rfl,h_.2⟩))
  refine KL ?_ ?_
  ·refine La.one rfl fun F_ w_ hR hout hD=>?_
   exact(Rp M1 rfl ((hout 3 rfl (by decide)).trans aF) (am.all hR id) ⟨rfl,KO.refl _ _⟩)
  refine KL ?_ ?_
  ·refine La.one rfl fun F_ w_ hR hout hD=>?_
   have g8:F_ 8 = .agg (L8 4 l).toArray:=(hD.get 0 rfl rfl rfl)
   exact(LH rfl rfl rfl (fun _ _=>by kernel_rfl) (K5 _) (Lk g8 LR) (YL l  _ hl  ) (fun e_ w_ h_=>⟨_,h_.1,rfl,h_.2⟩))
  refine KL ?_ ?_
  ·refine La.one rfl fun F_ w_ hR hout hD=>?_
   have g7:F_ 7=iv (Nb a 4):=(hD.get 0 rfl rfl rfl)
   have g9:F_ 9=iv (Nb l 4):=(hD.get 1 rfl rfl rfl)
   exact(LP rfl g7 g9 (L2 rfl (by omega)) ⟨rfl,KO.refl _ _⟩)
  refine KL ?_ ?_
  ·refine La.one rfl fun F_ w_ hR hout hD=>?_
   have aY:F_ 10=iv ((Nb a 4)+(Nb l 4)):=(hD.get 0 rfl rfl rfl)
   exact(LP rfl aY rfl (L2 rfl (by omega)) ⟨rfl,KO.refl _ _⟩)
  refine KL ?_ ?_
  ·refine La.one rfl fun F_ w_ hR hout hD=>?_
   have aZ:F_ 11=iv (((Nb a 4)+(Nb l 4))+4):=(hD.get 0 rfl rfl rfl)
   exact(Pv rfl aZ rfl (by first|decide|omega) (L2 rfl (by rw[aD0 (by omega)];omega)) ⟨rfl,KO.refl _ _⟩)
  refine KL ?_ ?_
  ·refine La.one rfl fun F_ w_ hR hout hD=>?_
   exact Yh (v:=iv 0) rfl (by kernel_rfl) rfl ⟨⟨_,rfl,hR.size,heap_alloc_new _ _⟩,(KO.refl _ _).alloc _⟩
  exact L0
 intro bu aG a8 aH an ae
 obtain⟨a9,ba,bb⟩:=Nu aH ak am aA
 obtain⟨bc,aI,aJ,aK⟩:=t4 ae 18 aT 2 aE 3 aF 4 aU
 obtain⟨ac,bd,af,ao⟩:=an 7 (by decide)
 replace ao:PO a8 ac 3 (iv 0):=ao
 have be:=KK.new (LS af) (LT ak.lt)
 have bf:=KK.new (LS af) (LT am.lt)
 have aL:=KK.new (LS af) (LT aA.lt)
 have aM:aG 5=pt ac 0:=(ae 5).trans bd
 have bg:aG 12=iv (Int.tdiv (Nb a 4+Nb l 4+4) 8):=(ae 12).trans (an 6 (by decide))
 clear an ae
 refine L5 rfl rfl rfl aM bg ao (by rfl) (by kernel_rfl) fun bz bh ah=>?_
 have bi:=a9.all ah (be.symm p1 rfl)
 have bj:=ba.all ah (bf.symm p9 rfl)
 have bl:=bb.all ah (aL.symm az rfl)
 refine KM ?_
 refine KG (KJ (KH (KI (.func (.func 159) #[] #[pt ac 0]) rfl rfl (WG rfl (Lk aM LR) rr) (KI (.func (.func 160) #[] #[pt p1 0]) rfl rfl (WG rfl (Lk aI LR) rr) (KI (.func (.func 161) #[] #[pt p9 0]) rfl rfl (WG rfl (Lk aJ LR) rr) (KI (.func (.func 162) #[] #[pt p1 0,pt p9 0]) rfl rfl (WG rfl (Lk aI (Lk aJ LR)) rr) (KI (.agg #[.func (.func 159) #[] #[pt ac 0],.func (.func 160) #[] #[pt p1 0],.func (.func 161) #[] #[pt p9 0],.func (.func 162) #[] #[pt p1 0,pt p9 0]]) rfl rfl (LZ (l':=[(0,.func (.func 159) #[] #[pt ac 0]),(1,.func (.func 160) #[] #[pt p1 0]),(2,.func (.func 161) #[] #[pt p9 0]),(3,.func (.func 162) #[] #[pt p1 0,pt p9 0])]) (cells:=#[.func (.func 159) #[] #[pt ac 0],.func (.func 160) #[] #[pt p1 0],.func (.func 161) #[] #[pt p9 0],.func (.func 162) #[] #[pt p1 0,pt p9 0]]) rfl (S7 rfl (S7 rfl (S7 rfl (S7 rfl Rv)))) (by kernel_rfl) rfl rr) (Lj (us:=[.func (.func 159) #[] #[pt ac 0],.func (.func 160) #[] #[pt p1 0],.func (.func 161) #[] #[pt p9 0],.func (.func 162) #[] #[pt p1 0,pt p9 0]]) Yc rfl rfl rfl aK rfl bl rfl (KX rfl (KX rfl (KX rfl (KX rfl MG)))) fun bA bm ai=>?_))))))))
 have bn:=bi.all ai (aR.symm p1 rfl)
 have bo:=bj.all ai (aS.symm p9 rfl)
 have bp:=bh.all ai (aL ac rfl)
 refine KM ?_
 refine KG (Lb ?_)
 exact O2 (vs:=[.func (.func 159) #[] #[pt ac 0],.func (.func 160) #[] #[pt p1 0],.func (.func 161) #[] #[pt p9 0],.func (.func 162) #[] #[pt p1 0,pt p9 0]]) Yc bc rfl rfl aK bm ⟨_,rfl,(((aD.tr aH).trans ah (KP.ok (S:=fun _=>False) (KP.new aD (LS af)) K3)).trans ai (KP.ok (S:=fun _=>False) (KP.new aw aB) K3)),aCX ha hl bn bo bp⟩
theorem azA(fv:Value)(g:Nat->Nat->Int)(w0:World)(hg:Ym w0 4 fv g) :
  Calls Tryz.prog 140 #[fv] w0 fun e w'=>e = .returned (LJ (fun n=>g (n/4) (n%4)))/\KO (fun _=>False) w0 w':=by
 refine Lr (args:=[fv]) 18 Tryz.func140 rfl rfl (Nat.le_of_ble_eq_true rfl) ?_
 have K0:=KO.refl (fun _=>False) w0
 refine KJ (KH (L1 rfl rfl rfl KW.2.2 fun p1 w2 e5 B3 k4=>?_))
 have K8:=K0.tr k4
 refine KM ?_
 have aE:=K4 (fv)
 have aF:=K4 (undef)
 have aG:=K4 (pt p1 0)
 refine KG (KJ (KH (L1 rfl rfl rfl KW.2.2 fun aa aX ao aH ap=>?_)))
 have aq:=LS (Nat.le_of_eq ao.symm)
 have aI:=KK.new aq (LT B3.lt)
 clear ao
 have aJ:=B3.all ap id
 refine KM ?_
 have aK:=K4 (pt aa 0)
 refine KG (KJ (KJ (KH (KI (iv 0) rfl rfl (KQ rfl rfl rr) (KM ?_)))))
 have aL:=K4 (iv 0)
 refine KG (Lm (MZ (fun nn FF ww=>∃ (n:Nat),(n<=16)/\nn=16-n/\FF 0=fv/\FF 2=pt p1 0/\FF 3=pt aa 0/\FF 18=undef/\FF 5=iv ((n:Nat):Int)/\KO (fun _=>False) w0 ww/\NL ww p1 69 (fun _=>0)/\NL ww aa 69 (upto n (fun _=>0) (fun n=>g (n/4) (n%4)))) (16-0) ⟨0,by omega,rfl,aE,aG,aK,aF,aL,(K8.tr ap),aJ,aH.first⟩ ?_))
 rintro aY aZ ar ⟨n,i41,hn40,au,ae,af,av,ah,ai,aw,az⟩
 refine KJ (KH (KI (.bool (decide (((n:Nat):Int)<16))) rfl rfl (L4 rfl ah rfl rfl rr) (KM ?_)))
 have aM:=K4 (.bool (decide (((n:Nat):Int)<16)))
 refine KG (KJ ?_)
 refine K6 aM (fun ab=>?_) (fun ab=>?_)
 ·replace ab:=of_decide_eq_true ab
  refine Lg (KG (KJ (Lm (KJ (KH (KR rfl rfl rfl ah (KI (iv ((n:Nat):Int)) rfl rfl (KS rfl rfl rr) (KM ?_))))))))
  have aj:=K4 (iv ((n:Nat):Int))
  refine KG (KH (KR rfl rfl rfl aj (KR rfl rfl rfl au (KR rfl rfl rfl aj (KI (iv (((n/4):Nat):Int)) rfl rfl (Pv rfl rfl rfl (by first|decide|omega) (L6 (WT n 4) (by omega)) rr) (KR rfl rfl rfl aj (KI (iv (((n%4):Nat):Int)) rfl rfl (XN rfl rfl rfl (by first|decide|omega) (Xw n 4) rr) (LB (R:=fun v_ w_=>v_=iv (g (n/4) (n%4))/\KO (fun _=>False) ar w_) rfl rfl (aDD rfl rfl rfl rfl rfl rfl (hg.all ai) (by omega) (by omega) (fun e_ w_ h_=>⟨_,h_.1,rfl,h_.2⟩)) ?_))))))))
  rintro _ a8 ⟨rfl,aA⟩
  obtain⟨aN,aO⟩:=NA aA aw az
  refine KI (.pointer (some ⟨aa,n,none⟩)) rfl rfl (LV n (s:=1) rfl af rfl (by omega) Tryz.underlying69 (by omega) (by kernel_rfl) (by omega) rr) (NM rfl rfl rfl rfl rfl aO (by omega) (by kernel_rfl) fun a9 aP aB=>?_)
  have aQ:=aN.all aB (aI.symm p1 rfl)
  refine KM ?_
  refine LC (KG (KH (KI (iv ((n+1:Nat):Int)) rfl rfl (LP rfl ah rfl (L6 (by omega) (by omega)) rr) (KI (iv ((n+1:Nat):Int)) rfl rfl (KQ rfl rfl rr) (KM ?_)))))
  have aR:=K4 (iv ((n+1:Nat):Int))
  exact KG ⟨(16-(n+1)),by omega,n+1,by omega,rfl,au,ae,af,av,aR,((ai.tr aA).trans aB (KP.ok (S:=fun _=>False) (KP.new K8 aq) K3)),aQ,(aP.next rfl)⟩
 ·replace ab:=of_decide_eq_false ab
  refine Me (Ls (Ls ?_))
  have aS:16=n:=by omega
  subst aS
  have aT:NL ar aa 69 (fun n=>g (n/4) (n%4)):=(az.last)
  refine Mf (KG (KJ (KH (KI (LJ (fun n=>g (n/4) (n%4))) rfl rfl (LY KW rfl af aT rr) (Lp KW rfl rfl rfl ae rfl aw fun ba aU aV=>?_)))))
  refine KM ?_
  refine KG (Lb ?_)
  exact QH KW av rfl rfl ae aU ⟨rfl,(ai.trans aV (KP.ok (S:=fun _=>False) (KP.new K0 (LS (Nat.le_of_eq e5.symm))) K3))⟩
theorem az1{f:FD}{p x y mode:Int}(hm:0<=mode/\mode<=3):(fun n=>Ur (fun k=>NV f p x y ((k:Nat):Int)) (fun k=>O5 f p x y ((k:Nat):Int)) mode.toNat (n/4) (n%4))=XV f p x y mode:=by
 funext n
 rcases (by omega:mode=0\/mode=1\/mode=2\/mode=3) with rfl|rfl|rfl|rfl
 ·show Int.tdiv _ 8=Int.tdiv _ 8
  congr 1
  simp only[Nb,az6];omega
 ·rfl
 ·rfl
 ·rfl
theorem YY(p x y mode:Int)(f:FD)(f0 f1 f2:Value)(T_f0:Nat->Prop)(T_f1:Nat->Prop)(T_f2:Nat->Prop)(w0:World)(h_f0:Mh w0 T_f0 f0 ((f).p0))(h_f1:Mh w0 T_f1 f1 ((f).p1))(h_f2:Mh w0 T_f2 f2 ((f).p2)) :
  Calls Tryz.prog 112 #[.agg #[.int .i64 ((f).W),.int .i64 ((f).H),f0,f1,f2],.int .i64 (p),.int .i64 (x),.int .i64 (y),.int .i64 (mode)] w0 fun e w'=>e = .returned (.tuple #[LJ (Vj f p x y mode),.int .i64 (RK f p x y mode)])/\KO (fun _=>False) w0 w':=by
 refine Lr (args:=[.agg #[iv (f.W),iv (f.H),f0,f1,f2],iv p,iv x,iv y,iv mode]) 55 Tryz.func112 rfl rfl (Nat.le_of_ble_eq_true rfl) ?_
 have hb:VH f:=⟨h_f0.lt256,h_f1.lt256,h_f2.lt256⟩
 have g_f0:=KP.refl w0 T_f0
 have g_f1:=KP.refl w0 T_f1
 have g_f2:=KP.refl w0 T_f2
 refine KJ (KH (Lz (vs:=[iv (f.W),iv (f.H),f0,f1,f2]) rfl rfl rfl rfl fun p1 w2 B4 g5 k3=>?_))
 obtain⟨bc,bd,be⟩:=Nu k3 h_f0 h_f1 h_f2
 have aE:=(KO.refl (fun _=>False) w0).tr k3
 refine L1 rfl rfl rfl KW.2.2 fun bf cO aF am aG=>?_
 have aH:=LS (Nat.le_of_eq aF.symm)
 have ac:=KP.new aE aH
 clear aF aH
 obtain⟨ah,ai,aj,ak⟩:=OV aG bc bd be B4
 have an:=aE.tr aG
 refine KI (iv 0) rfl rfl (KS rfl rfl rr) (KM ?_)
 have ab:=K4 (iv p)
 have ap:=K4 (iv x)
 have au:=K4 (iv y)
 have av:=K4 (iv mode)
 have ae:=K4 (undef)
 have af:=K4 (pt p1 0)
 have aa:=K4 (pt bf 0)
 refine KG (KJ (KJ ?_))
 by_cases ao:(Nn f)≠0
 ·skip
  refine KH (KI (.agg #[iv (f.W),iv (f.H),f0,f1,f2]) rfl rfl (KZ Lc rfl af ak rr) (LW rfl rfl rfl rfl rfl (fun _ _=>by kernel_rfl) (Lk rfl LR) (M6 f f0 f1 f2 T_f0 T_f1 T_f2 _  ah ai aj ) fun cP aI=>?_))
  have bg:=am.all aI id
  refine KI (.bool true) rfl rfl (Mb rfl rfl rfl (decide_eq_true ao) rr) (KI (.bool true) rfl rfl (KQ rfl rfl rr) (KN 3 false 15 rfl rfl rfl (Or.inl rfl) rfl (KN 3 false 15 rfl rfl rfl (Or.inl rfl) rfl (KI (.bool true) rfl rfl (Lo rfl rfl rfl rr) (KI (.bool true) rfl rfl (KQ rfl rfl rr) (KN 7 false 19 rfl rfl rfl (Or.inl rfl) rfl (KN 7 false 19 rfl rfl rfl (Or.inl rfl) rfl (KI (.bool true) rfl rfl (Lo rfl rfl rfl rr) (KI (.bool true) rfl rfl (KQ rfl rfl rr) (KN 11 false 23 rfl rfl rfl (Or.inl rfl) rfl (KN 11 false 23 rfl rfl rfl (Or.inl rfl) rfl ?_)))))))))))
  refine KN 11 false 23 rfl rfl rfl (Or.inl rfl) rfl (KI (.bool true) rfl rfl (Lo rfl rfl rfl rr) (KI (.bool true) rfl rfl (KQ rfl rfl rr) (KN 16 false 28 rfl rfl rfl (Or.inl rfl) rfl (KN 16 false 28 rfl rfl rfl (Or.inl rfl) rfl (KN 16 false 28 rfl rfl rfl (Or.inl rfl) rfl (KI (.bool true) rfl rfl (Lo rfl rfl rfl rr) (KM ?_)))))))
  have bh:=K4 (.bool true)
  refine KG ?_
  refine K6 (t:=true) bh (fun _=>?_) (fun e=>by cases e)
  refine KJ ?_
  have hno:¬ MU f p x y:=by rintro ⟨h1,h2,h3,h4,h5,h6,h7⟩;first|exact absurd ((Mv f).2 h1) (by assumption)|omega
  refine KH (KI (LJ (fun _=>0)) rfl rfl (Mx (cells:=(L8 16 (fun _=>0)).toArray) rfl (by kernel_rfl) rfl rr) (Lp KW rfl rfl rfl aa rfl bg fun cQ bi bj=>?_))
  refine KI (iv 70) rfl rfl (KS rfl rfl rr) (KM ?_)
  have bl:=K4 (iv 70)
  refine KG (Lb (Lq ?_))
  exact L7 ae rfl (Mq KW rfl aa bi) (Ly (v:=iv 70) rfl bl) ⟨(by first|rw[(NQ hno).1,(NQ hno).2]|rw[(MY hpl hm).1,(MY hpl hm).2]|rw[(Nd hpl hm).1,(Nd hpl hm).2]),((an.tr aI).trans bj (KP.ok (S:=fun _=>False) ac K3))⟩
 ·skip
  by_cases aq:p<0
  ·skip
   refine KH (KI (.agg #[iv (f.W),iv (f.H),f0,f1,f2]) rfl rfl (KZ Lc rfl af ak rr) (LW rfl rfl rfl rfl rfl (fun _ _=>by kernel_rfl) (Lk rfl LR) (M6 f f0 f1 f2 T_f0 T_f1 T_f2 _  ah ai aj ) fun cR aJ=>?_))
   have bm:=am.all aJ id
   refine KI (.bool false) rfl rfl (Mb rfl rfl rfl (decide_eq_false ao) rr) (KI (.bool false) rfl rfl (KQ rfl rfl rr) (KT (iv p) 3 false 15 rfl rfl rfl rfl rfl (KQ rfl ab rr) (KT (.bool true) 3 false 15 rfl rfl rfl rfl rfl (L4 rfl rfl rfl (decide_eq_true aq) rr) (KI (.bool true) rfl rfl (Li rfl rfl rfl rr) (KI (.bool true) rfl rfl (KQ rfl rfl rr) (KN 7 false 19 rfl rfl rfl (Or.inl rfl) rfl (KN 7 false 19 rfl rfl rfl (Or.inl rfl) rfl (KI (.bool true) rfl rfl (Lo rfl rfl rfl rr) (KI (.bool true) rfl rfl (KQ rfl rfl rr) (KN 11 false 23 rfl rfl rfl (Or.inl rfl) rfl (KN 11 false 23 rfl rfl rfl (Or.inl rfl) rfl ?_)))))))))))
   refine KN 11 false 23 rfl rfl rfl (Or.inl rfl) rfl (KI (.bool true) rfl rfl (Lo rfl rfl rfl rr) (KI (.bool true) rfl rfl (KQ rfl rfl rr) (KN 16 false 28 rfl rfl rfl (Or.inl rfl) rfl (KN 16 false 28 rfl rfl rfl (Or.inl rfl) rfl (KN 16 false 28 rfl rfl rfl (Or.inl rfl) rfl (KI (.bool true) rfl rfl (Lo rfl rfl rfl rr) (KM ?_)))))))
   have bn:=K4 (.bool true)
   refine KG ?_
   refine K6 (t:=true) bn (fun _=>?_) (fun e=>by cases e)
   refine KJ ?_
   have hno:¬ MU f p x y:=by rintro ⟨h1,h2,h3,h4,h5,h6,h7⟩;first|exact absurd ((Mv f).2 h1) (by assumption)|omega
   refine KH (KI (LJ (fun _=>0)) rfl rfl (Mx (cells:=(L8 16 (fun _=>0)).toArray) rfl (by kernel_rfl) rfl rr) (Lp KW rfl rfl rfl aa rfl bm fun cS bo bp=>?_))
   refine KI (iv 70) rfl rfl (KS rfl rfl rr) (KM ?_)
   have bq:=K4 (iv 70)
   refine KG (Lb (Lq ?_))
   exact L7 ae rfl (Mq KW rfl aa bo) (Ly (v:=iv 70) rfl bq) ⟨(by first|rw[(NQ hno).1,(NQ hno).2]|rw[(MY hpl hm).1,(MY hpl hm).2]|rw[(Nd hpl hm).1,(Nd hpl hm).2]),((an.tr aJ).trans bp (KP.ok (S:=fun _=>False) ac K3))⟩
  ·skip
   by_cases aw:3<=p
   ·skip
    refine KH (KI (.agg #[iv (f.W),iv (f.H),f0,f1,f2]) rfl rfl (KZ Lc rfl af ak rr) (LW rfl rfl rfl rfl rfl (fun _ _=>by kernel_rfl) (Lk rfl LR) (M6 f f0 f1 f2 T_f0 T_f1 T_f2 _  ah ai aj ) fun cT aK=>?_))
    have bt:=am.all aK id
    refine KI (.bool false) rfl rfl (Mb rfl rfl rfl (decide_eq_false ao) rr) (KI (.bool false) rfl rfl (KQ rfl rfl rr) (KT (iv p) 3 false 15 rfl rfl rfl rfl rfl (KQ rfl ab rr) (KT (.bool false) 3 false 15 rfl rfl rfl rfl rfl (L4 rfl rfl rfl (decide_eq_false aq) rr) (KI (.bool false) rfl rfl (Li rfl rfl rfl rr) (KI (.bool false) rfl rfl (KQ rfl rfl rr) (KT (iv p) 7 false 19 rfl rfl rfl rfl rfl (KQ rfl ab rr) (KT (.bool true) 7 false 19 rfl rfl rfl rfl rfl (Nf rfl rfl rfl (decide_eq_true aw) rr) (KI (.bool true) rfl rfl (Li rfl rfl rfl rr) (KI (.bool true) rfl rfl (KQ rfl rfl rr) (KN 11 false 23 rfl rfl rfl (Or.inl rfl) rfl (KN 11 false 23 rfl rfl rfl (Or.inl rfl) rfl ?_)))))))))))
    refine KN 11 false 23 rfl rfl rfl (Or.inl rfl) rfl (KI (.bool true) rfl rfl (Lo rfl rfl rfl rr) (KI (.bool true) rfl rfl (KQ rfl rfl rr) (KN 16 false 28 rfl rfl rfl (Or.inl rfl) rfl (KN 16 false 28 rfl rfl rfl (Or.inl rfl) rfl (KN 16 false 28 rfl rfl rfl (Or.inl rfl) rfl (KI (.bool true) rfl rfl (Lo rfl rfl rfl rr) (KM ?_)))))))
    have bu:=K4 (.bool true)
    refine KG ?_
    refine K6 (t:=true) bu (fun _=>?_) (fun e=>by cases e)
    refine KJ ?_
    have hno:¬ MU f p x y:=by rintro ⟨h1,h2,h3,h4,h5,h6,h7⟩;first|exact absurd ((Mv f).2 h1) (by assumption)|omega
    refine KH (KI (LJ (fun _=>0)) rfl rfl (Mx (cells:=(L8 16 (fun _=>0)).toArray) rfl (by kernel_rfl) rfl rr) (Lp KW rfl rfl rfl aa rfl bt fun cU bv bz=>?_))
    refine KI (iv 70) rfl rfl (KS rfl rfl rr) (KM ?_)
    have bA:=K4 (iv 70)
    refine KG (Lb (Lq ?_))
    exact L7 ae rfl (Mq KW rfl aa bv) (Ly (v:=iv 70) rfl bA) ⟨(by first|rw[(NQ hno).1,(NQ hno).2]|rw[(MY hpl hm).1,(MY hpl hm).2]|rw[(Nd hpl hm).1,(Nd hpl hm).2]),((an.tr aK).trans bz (KP.ok (S:=fun _=>False) ac K3))⟩
   ·skip
    by_cases az:0<=x/\x<=64
    ·skip
     by_cases aL:0<=y/\y<=64
     ·skip
      refine KH (KI (.agg #[iv (f.W),iv (f.H),f0,f1,f2]) rfl rfl (KZ Lc rfl af ak rr) (LW rfl rfl rfl rfl rfl (fun _ _=>by kernel_rfl) (Lk rfl LR) (M6 f f0 f1 f2 T_f0 T_f1 T_f2 _  ah ai aj ) fun bB aM=>?_))
      obtain⟨bC,bD,bE,bF,bG⟩:=OU aM ah ai aj ak am
      refine KI (.bool false) rfl rfl (Mb rfl rfl rfl (decide_eq_false ao) rr) (KI (.bool false) rfl rfl (KQ rfl rfl rr) (KT (iv p) 3 false 15 rfl rfl rfl rfl rfl (KQ rfl ab rr) (KT (.bool false) 3 false 15 rfl rfl rfl rfl rfl (L4 rfl rfl rfl (decide_eq_false aq) rr) (KI (.bool false) rfl rfl (Li rfl rfl rfl rr) (KI (.bool false) rfl rfl (KQ rfl rfl rr) (KT (iv p) 7 false 19 rfl rfl rfl rfl rfl (KQ rfl ab rr) (KT (.bool false) 7 false 19 rfl rfl rfl rfl rfl (Nf rfl rfl rfl (decide_eq_false aw) rr) (KI (.bool false) rfl rfl (Li rfl rfl rfl rr) (KI (.bool false) rfl rfl (KQ rfl rfl rr) (KT (iv x) 11 false 23 rfl rfl rfl rfl rfl (KQ rfl ap rr) (LN (R:=fun v_ w_=>v_ = .bool true/\KO (fun _=>False) bB w_) 11 false 23 rfl rfl rfl rfl rfl (LH rfl rfl rfl (fun _ _=>by kernel_rfl) (K5 _) (Lk rfl LR) (Sr x  _   ) (fun e_ w_ h_=>⟨_,h_.1,(congrArg Value.bool (decide_eq_true az)),h_.2⟩)) ?_)))))))))))
      rintro _ bH ⟨rfl,aN⟩
      obtain⟨bI,bJ,bK,bL,bM⟩:=OU aN bC bD bE bF bG
      refine KT (.bool false) 11 false 23 rfl rfl rfl rfl rfl (L9 rfl rfl rfl rr) (KI (.bool false) rfl rfl (Li rfl rfl rfl rr) (KI (.bool false) rfl rfl (KQ rfl rfl rr) (KT (iv y) 16 false 28 rfl rfl rfl rfl rfl (KQ rfl au rr) (LN (R:=fun v_ w_=>v_ = .bool true/\KO (fun _=>False) bH w_) 16 false 28 rfl rfl rfl rfl rfl (LH rfl rfl rfl (fun _ _=>by kernel_rfl) (K5 _) (Lk rfl LR) (Sr y  _   ) (fun e_ w_ h_=>⟨_,h_.1,(congrArg Value.bool (decide_eq_true aL)),h_.2⟩)) ?_))))
      rintro _ cV ⟨rfl,aO⟩
      obtain⟨aP,aQ,aR,aS,aA⟩:=OU aO bI bJ bK bL bM
      have aB:=((an.tr aM).tr aN).tr aO
      refine KT (.bool false) 16 false 28 rfl rfl rfl rfl rfl (L9 rfl rfl rfl rr) (KI (.bool false) rfl rfl (Li rfl rfl rfl rr) (KM ?_))
      have bN:=K4 (.bool false)
      refine KG ?_
      refine K6 (t:=false) bN (fun e=>by cases e) (fun _=>?_)
      refine Lg (KG (KJ (KJ ?_)))
      have hpl:MU f p x y:=⟨(Mv f).1 (by first|assumption|(apply Decidable.byContradiction;assumption)),by omega,by omega,by omega,by omega,by omega,by omega⟩
      by_cases aT:mode<0
      ·skip
       refine KH (KR rfl rfl rfl av (KI (.bool true) rfl rfl (L4 rfl rfl rfl (decide_eq_true aT) rr) (KI (.bool true) rfl rfl (KQ rfl rfl rr) (KN 2 false 36 rfl rfl rfl (Or.inl rfl) rfl (KN 2 false 36 rfl rfl rfl (Or.inl rfl) rfl (KI (.bool true) rfl rfl (Lo rfl rfl rfl rr) (KM ?_)))))))
       have bO:=K4 (.bool true)
       refine KG ?_
       refine K6 (t:=true) bO (fun _=>?_) (fun e=>by cases e)
       refine KJ ?_
       have hm:¬ (0<=mode/\mode<=3):=by omega
       refine KH (KI (LJ (fun _=>0)) rfl rfl (Mx (cells:=(L8 16 (fun _=>0)).toArray) rfl (by kernel_rfl) rfl rr) (Lp KW rfl rfl rfl aa rfl aA fun cW bP bQ=>?_))
       refine KI (iv 80) rfl rfl (KS rfl rfl rr) (KM ?_)
       have bR:=K4 (iv 80)
       refine KG (Lb (Lq ?_))
       exact L7 ae rfl (Mq KW rfl aa bP) (Ly (v:=iv 80) rfl bR) ⟨(by first|rw[(NQ hno).1,(NQ hno).2]|rw[(MY hpl hm).1,(MY hpl hm).2]|rw[(Nd hpl hm).1,(Nd hpl hm).2]),(aB.trans bQ (KP.ok (S:=fun _=>False) ac K3))⟩
      ·skip
       refine KH (KR rfl rfl rfl av (KI (.bool false) rfl rfl (L4 rfl rfl rfl (decide_eq_false aT) rr) (KI (.bool false) rfl rfl (KQ rfl rfl rr) (KT (iv mode) 2 false 36 rfl rfl rfl rfl rfl (KQ rfl av rr) (KT (.bool (decide (4<=mode))) 2 false 36 rfl rfl rfl rfl rfl (Nf rfl rfl rfl rfl rr) (KI (.bool (decide (4<=mode))) rfl rfl (Li rfl rfl rfl rr) (KM ?_)))))))
       have bS:=K4 (.bool (decide (4<=mode)))
       refine KG ?_
       refine K6 bS (fun ar=>?_) (fun ar=>?_)
       ·replace ar:=of_decide_eq_true ar
        refine KJ ?_
        have hm:¬ (0<=mode/\mode<=3):=by omega
        refine KH (KI (LJ (fun _=>0)) rfl rfl (Mx (cells:=(L8 16 (fun _=>0)).toArray) rfl (by kernel_rfl) rfl rr) (Lp KW rfl rfl rfl aa rfl aA fun cX bT bU=>?_))
        refine KI (iv 80) rfl rfl (KS rfl rfl rr) (KM ?_)
        have bV:=K4 (iv 80)
        refine KG (Lb (Lq ?_))
        exact L7 ae rfl (Mq KW rfl aa bT) (Ly (v:=iv 80) rfl bV) ⟨(by first|rw[(NQ hno).1,(NQ hno).2]|rw[(MY hpl hm).1,(MY hpl hm).2]|rw[(Nd hpl hm).1,(Nd hpl hm).2]),(aB.trans bU (KP.ok (S:=fun _=>False) ac K3))⟩
       ·replace ar:=of_decide_eq_false ar
        refine Lg (KG (KJ ?_))
        have hm:0<=mode/\mode<=3:=by omega
        refine Na 14 [some 41,some 42,some 43,some 44,some 45,some 46,some 47,some 48,some 49,some 50,some 51,some 52,some 53,some 54] [Pd.eq (.agg #[iv (f.W),iv (f.H),f0,f1,f2]),Pd.eq (iv p),Pd.eq (iv x),Pd.eq (iv y),Pd.eq (.agg (L8 4 (fun k=>NV f p x y ((k:Nat):Int))).toArray),Pd.eq (.agg #[iv (f.W),iv (f.H),f0,f1,f2]),Pd.eq (iv p),Pd.eq (iv x),Pd.eq (iv y),Pd.eq (.agg (L8 4 (fun k=>O5 f p x y ((k:Nat):Int))).toArray),Pd.fns (Ur (fun k=>NV f p x y ((k:Nat):Int)) (fun k=>O5 f p x y ((k:Nat):Int))),Pd.eq (iv mode),Pd.ask2 4 (Ur (fun k=>NV f p x y ((k:Nat):Int)) (fun k=>O5 f p x y ((k:Nat):Int)) mode.toNat),Pd.eq (LJ (XV f p x y mode))] (by kernel_rfl) (by kernel_rfl) (by kernel_rfl) ?_ ?_
        ·refine KL ?_ ?_
         ·refine La.one rfl fun F_ w_ hR hout hD=>?_
          exact(KZ Lc rfl ((hout 5 rfl (by decide)).trans af) (aS.all hR id) ⟨rfl,KO.refl _ _⟩)
         refine KL ?_ ?_
         ·refine La.one rfl fun F_ w_ hR hout hD=>?_
          exact(KQ rfl ((hout 1 rfl (by decide)).trans ab) ⟨rfl,KO.refl _ _⟩)
         refine KL ?_ ?_
         ·refine La.one rfl fun F_ w_ hR hout hD=>?_
          exact(KQ rfl ((hout 2 rfl (by decide)).trans ap) ⟨rfl,KO.refl _ _⟩)
         refine KL ?_ ?_
         ·refine La.one rfl fun F_ w_ hR hout hD=>?_
          exact(KQ rfl ((hout 3 rfl (by decide)).trans au) ⟨rfl,KO.refl _ _⟩)
         refine KL ?_ ?_
         ·refine La.one rfl fun F_ w_ hR hout hD=>?_
          have bW:F_ 41 = .agg #[iv (f.W),iv (f.H),f0,f1,f2]:=(hD.get 0 rfl rfl rfl)
          have bX:F_ 42=iv p:=(hD.get 1 rfl rfl rfl)
          have bY:F_ 43=iv x:=(hD.get 2 rfl rfl rfl)
          have bZ:F_ 44=iv y:=(hD.get 3 rfl rfl rfl)
          exact(LH rfl rfl rfl (fun _ _=>by kernel_rfl) (K5 _) (Lk bW (Lk bX (Lk bY (Lk bZ LR)))) (aAA p x y f f0 f1 f2 T_f0 T_f1 T_f2 _ (by omega) (by omega) (aP.all hR KK.none) (aQ.all hR KK.none) (aR.all hR KK.none) ) (fun e_ w_ h_=>⟨_,h_.1,rfl,h_.2⟩))
         refine KL ?_ ?_
         ·refine La.one rfl fun F_ w_ hR hout hD=>?_
          exact(KZ Lc rfl ((hout 5 rfl (by decide)).trans af) (aS.all hR id) ⟨rfl,KO.refl _ _⟩)
         refine KL ?_ ?_
         ·refine La.one rfl fun F_ w_ hR hout hD=>?_
          exact(KQ rfl ((hout 1 rfl (by decide)).trans ab) ⟨rfl,KO.refl _ _⟩)
         refine KL ?_ ?_
         ·refine La.one rfl fun F_ w_ hR hout hD=>?_
          exact(KQ rfl ((hout 2 rfl (by decide)).trans ap) ⟨rfl,KO.refl _ _⟩)
         refine KL ?_ ?_
         ·refine La.one rfl fun F_ w_ hR hout hD=>?_
          exact(KQ rfl ((hout 3 rfl (by decide)).trans au) ⟨rfl,KO.refl _ _⟩)
         refine KL ?_ ?_
         ·refine La.one rfl fun F_ w_ hR hout hD=>?_
          have b7:F_ 46 = .agg #[iv (f.W),iv (f.H),f0,f1,f2]:=(hD.get 0 rfl rfl rfl)
          have b8:F_ 47=iv p:=(hD.get 1 rfl rfl rfl)
          have b9:F_ 48=iv x:=(hD.get 2 rfl rfl rfl)
          have cd:F_ 49=iv y:=(hD.get 3 rfl rfl rfl)
          exact(LH rfl rfl rfl (fun _ _=>by kernel_rfl) (K5 _) (Lk b7 (Lk b8 (Lk b9 (Lk cd LR)))) (aB6 p x y f f0 f1 f2 T_f0 T_f1 T_f2 _ (by omega) (by omega) (aP.all hR KK.none) (aQ.all hR KK.none) (aR.all hR KK.none) ) (fun e_ w_ h_=>⟨_,h_.1,rfl,h_.2⟩))
         refine KL ?_ ?_
         ·refine La.one rfl fun F_ w_ hR hout hD=>?_
          have ce:F_ 45 = .agg (L8 4 (fun k=>NV f p x y ((k:Nat):Int))).toArray:=(hD.get 0 rfl rfl rfl)
          have cf:F_ 50 = .agg (L8 4 (fun k=>O5 f p x y ((k:Nat):Int))).toArray:=(hD.get 1 rfl rfl rfl)
          exact(LH rfl rfl rfl (fun _ _=>by kernel_rfl) (K5 _) (Lk ce (Lk cf LR)) (V5 (fun k=>NV f p x y ((k:Nat):Int)) (fun k=>O5 f p x y ((k:Nat):Int))  _ (fun i=>aAM hb p x y _) (fun i=>aCd hb p x y _)  ) (fun e_ w_ h_=>by obtain⟨v_,he_,k_,hb_⟩:=h_;exact⟨v_,he_,hb_,k_⟩))
         refine KL ?_ ?_
         ·refine La.one rfl fun F_ w_ hR hout hD=>?_
          exact(KQ rfl ((hout 4 rfl (by decide)).trans av) ⟨rfl,KO.refl _ _⟩)
         refine KL ?_ ?_
         ·refine La.one rfl fun F_ w_ hR hout hD=>?_
          have cg:(Pd.fns (Ur (fun k=>NV f p x y ((k:Nat):Int)) (fun k=>O5 f p x y ((k:Nat):Int)))).says (F_ 51) w_:=hD.get 0 rfl rfl rfl
          have ci:F_ 52=iv mode:=(hD.get 1 rfl rfl rfl)
          exact aDT (mode.toNat) rfl rfl cg ci (by omega) (by omega) fun c_ hc_=>⟨hc_,KO.refl _ _⟩
         refine KL ?_ ?_
         ·refine La.one rfl fun F_ w_ hR hout hD=>?_
          have cj:(Pd.ask2 4 (Ur (fun k=>NV f p x y ((k:Nat):Int)) (fun k=>O5 f p x y ((k:Nat):Int)) mode.toNat)).says (F_ 53) w_:=hD.get 0 rfl rfl rfl
          exact(LH rfl rfl rfl (fun _ _=>by kernel_rfl) (K5 _) (Lk rfl LR) (azA (F_ 53) (Ur (fun k=>NV f p x y ((k:Nat):Int)) (fun k=>O5 f p x y ((k:Nat):Int)) mode.toNat)  _ cj  ) (fun e_ w_ h_=>⟨_,h_.1,congrArg LJ (az1 hm),h_.2⟩))
         exact L0
        intro cY cm cZ aU aV aC
        have cn:=aA.all aU id
        obtain⟨co,aW⟩:=t2 aC 55 ae 10 aa
        have cq:cm 54=LJ (XV f p x y mode):=(aC 54).trans (aV 13 (by decide))
        clear aV aC
        refine Lp KW rfl rfl rfl aW cq cn fun c6 cr ct=>?_
        refine KI (iv 0) rfl rfl (KS rfl rfl rr) (KM ?_)
        have cu:=K4 (iv 0)
        refine KG (Lb ?_)
        exact L7 co rfl (Mq KW rfl aW cr) (Ly (v:=iv 0) rfl cu) ⟨(by first|rw[(NQ hno).1,(NQ hno).2]|rw[(MY hpl hm).1,(MY hpl hm).2]|rw[(Nd hpl hm).1,(Nd hpl hm).2]),((aB.tr aU).trans ct (KP.ok (S:=fun _=>False) ac K3))⟩
     ·skip
      refine KH (KI (.agg #[iv (f.W),iv (f.H),f0,f1,f2]) rfl rfl (KZ Lc rfl af ak rr) (LW rfl rfl rfl rfl rfl (fun _ _=>by kernel_rfl) (Lk rfl LR) (M6 f f0 f1 f2 T_f0 T_f1 T_f2 _  ah ai aj ) fun cv aX=>?_))
      have cw:=am.all aX id
      refine KI (.bool false) rfl rfl (Mb rfl rfl rfl (decide_eq_false ao) rr) (KI (.bool false) rfl rfl (KQ rfl rfl rr) (KT (iv p) 3 false 15 rfl rfl rfl rfl rfl (KQ rfl ab rr) (KT (.bool false) 3 false 15 rfl rfl rfl rfl rfl (L4 rfl rfl rfl (decide_eq_false aq) rr) (KI (.bool false) rfl rfl (Li rfl rfl rfl rr) (KI (.bool false) rfl rfl (KQ rfl rfl rr) (KT (iv p) 7 false 19 rfl rfl rfl rfl rfl (KQ rfl ab rr) (KT (.bool false) 7 false 19 rfl rfl rfl rfl rfl (Nf rfl rfl rfl (decide_eq_false aw) rr) (KI (.bool false) rfl rfl (Li rfl rfl rfl rr) (KI (.bool false) rfl rfl (KQ rfl rfl rr) (KT (iv x) 11 false 23 rfl rfl rfl rfl rfl (KQ rfl ap rr) (LN (R:=fun v_ w_=>v_ = .bool true/\KO (fun _=>False) cv w_) 11 false 23 rfl rfl rfl rfl rfl (LH rfl rfl rfl (fun _ _=>by kernel_rfl) (K5 _) (Lk rfl LR) (Sr x  _   ) (fun e_ w_ h_=>⟨_,h_.1,(congrArg Value.bool (decide_eq_true az)),h_.2⟩)) ?_)))))))))))
      rintro _ cy ⟨rfl,aY⟩
      have cz:=cw.all aY id
      refine KT (.bool false) 11 false 23 rfl rfl rfl rfl rfl (L9 rfl rfl rfl rr) (KI (.bool false) rfl rfl (Li rfl rfl rfl rr) (KI (.bool false) rfl rfl (KQ rfl rfl rr) (KT (iv y) 16 false 28 rfl rfl rfl rfl rfl (KQ rfl au rr) (LN (R:=fun v_ w_=>v_ = .bool false/\KO (fun _=>False) cy w_) 16 false 28 rfl rfl rfl rfl rfl (LH rfl rfl rfl (fun _ _=>by kernel_rfl) (K5 _) (Lk rfl LR) (Sr y  _   ) (fun e_ w_ h_=>⟨_,h_.1,(congrArg Value.bool (decide_eq_false aL)),h_.2⟩)) ?_))))
      rintro _ c7 ⟨rfl,aZ⟩
      have cA:=cz.all aZ id
      refine KT (.bool true) 16 false 28 rfl rfl rfl rfl rfl (L9 rfl rfl rfl rr) (KI (.bool true) rfl rfl (Li rfl rfl rfl rr) (KM ?_))
      have cB:=K4 (.bool true)
      refine KG ?_
      refine K6 (t:=true) cB (fun _=>?_) (fun e=>by cases e)
      refine KJ ?_
      have hno:¬ MU f p x y:=by rintro ⟨h1,h2,h3,h4,h5,h6,h7⟩;first|exact absurd ((Mv f).2 h1) (by assumption)|omega
      refine KH (KI (LJ (fun _=>0)) rfl rfl (Mx (cells:=(L8 16 (fun _=>0)).toArray) rfl (by kernel_rfl) rfl rr) (Lp KW rfl rfl rfl aa rfl cA fun c9 cC cD=>?_))
      refine KI (iv 70) rfl rfl (KS rfl rfl rr) (KM ?_)
      have cE:=K4 (iv 70)
      refine KG (Lb (Lq ?_))
      exact L7 ae rfl (Mq KW rfl aa cC) (Ly (v:=iv 70) rfl cE) ⟨(by first|rw[(NQ hno).1,(NQ hno).2]|rw[(MY hpl hm).1,(MY hpl hm).2]|rw[(Nd hpl hm).1,(Nd hpl hm).2]),((((an.tr aX).tr aY).tr aZ).trans cD (KP.ok (S:=fun _=>False) ac K3))⟩
    ·skip
     refine KH (KI (.agg #[iv (f.W),iv (f.H),f0,f1,f2]) rfl rfl (KZ Lc rfl af ak rr) (LW rfl rfl rfl rfl rfl (fun _ _=>by kernel_rfl) (Lk rfl LR) (M6 f f0 f1 f2 T_f0 T_f1 T_f2 _  ah ai aj ) fun cF a8=>?_))
     have cG:=am.all a8 id
     refine KI (.bool false) rfl rfl (Mb rfl rfl rfl (decide_eq_false ao) rr) (KI (.bool false) rfl rfl (KQ rfl rfl rr) (KT (iv p) 3 false 15 rfl rfl rfl rfl rfl (KQ rfl ab rr) (KT (.bool false) 3 false 15 rfl rfl rfl rfl rfl (L4 rfl rfl rfl (decide_eq_false aq) rr) (KI (.bool false) rfl rfl (Li rfl rfl rfl rr) (KI (.bool false) rfl rfl (KQ rfl rfl rr) (KT (iv p) 7 false 19 rfl rfl rfl rfl rfl (KQ rfl ab rr) (KT (.bool false) 7 false 19 rfl rfl rfl rfl rfl (Nf rfl rfl rfl (decide_eq_false aw) rr) (KI (.bool false) rfl rfl (Li rfl rfl rfl rr) (KI (.bool false) rfl rfl (KQ rfl rfl rr) (KT (iv x) 11 false 23 rfl rfl rfl rfl rfl (KQ rfl ap rr) (LN (R:=fun v_ w_=>v_ = .bool false/\KO (fun _=>False) cF w_) 11 false 23 rfl rfl rfl rfl rfl (LH rfl rfl rfl (fun _ _=>by kernel_rfl) (K5 _) (Lk rfl LR) (Sr x  _   ) (fun e_ w_ h_=>⟨_,h_.1,(congrArg Value.bool (decide_eq_false az)),h_.2⟩)) ?_)))))))))))
     rintro _ da ⟨rfl,a9⟩
     have cH:=cG.all a9 id
     refine KT (.bool true) 11 false 23 rfl rfl rfl rfl rfl (L9 rfl rfl rfl rr) (KI (.bool true) rfl rfl (Li rfl rfl rfl rr) (KI (.bool true) rfl rfl (KQ rfl rfl rr) (KN 16 false 28 rfl rfl rfl (Or.inl rfl) rfl (KN 16 false 28 rfl rfl rfl (Or.inl rfl) rfl (KN 16 false 28 rfl rfl rfl (Or.inl rfl) rfl (KI (.bool true) rfl rfl (Lo rfl rfl rfl rr) (KM ?_)))))))
     have cI:=K4 (.bool true)
     refine KG ?_
     refine K6 (t:=true) cI (fun _=>?_) (fun e=>by cases e)
     refine KJ ?_
     have hno:¬ MU f p x y:=by rintro ⟨h1,h2,h3,h4,h5,h6,h7⟩;first|exact absurd ((Mv f).2 h1) (by assumption)|omega
     refine KH (KI (LJ (fun _=>0)) rfl rfl (Mx (cells:=(L8 16 (fun _=>0)).toArray) rfl (by kernel_rfl) rfl rr) (Lp KW rfl rfl rfl aa rfl cH fun db cJ cK=>?_))
     refine KI (iv 70) rfl rfl (KS rfl rfl rr) (KM ?_)
     have cL:=K4 (iv 70)
     refine KG (Lb (Lq ?_))
     exact L7 ae rfl (Mq KW rfl aa cJ) (Ly (v:=iv 70) rfl cL) ⟨(by first|rw[(NQ hno).1,(NQ hno).2]|rw[(MY hpl hm).1,(MY hpl hm).2]|rw[(Nd hpl hm).1,(Nd hpl hm).2]),(((an.tr a8).tr a9).trans cK (KP.ok (S:=fun _=>False) ac K3))⟩
end Go.Proofs.YtknjpdcpmpfklaaGreatDoor
set_option maxRecDepth 100000
namespace Go.Proofs.YtknjpdcpmpfklaaGreatDoor
open Go.RowKit
theorem LO:QC Tryz.prog 67 2:=⟨_,Tryz.underlying67,rfl,by kernel_rfl⟩
end Go.Proofs.YtknjpdcpmpfklaaGreatDoor
set_option maxRecDepth 100000
namespace Go.Proofs.YtknjpdcpmpfklaaGreatDoor
def c34(n:Int):Int:=max (-34) (min n 34)
def nx(a:Int)(k:Nat):Int:=a-2+((k%5:Nat):Int)
def ny(c:Int)(k:Nat):Int:=c-2+((k/5:Nat):Int)
end Go.Proofs.YtknjpdcpmpfklaaGreatDoor
set_option maxRecDepth 100000
namespace Go.Proofs.YtknjpdcpmpfklaaGreatDoor
open Go.RowKit
inductive Pc where
  | eq (v:Value)
  | turn (j:Nat)
  | blk (t:TypeId) (zs:List Value) (k:Nat) (us:List Value)
  | told (p:Nat) (t:TypeId) (zs us:List Value)
def Pc.none:Pc:=.eq undef
def SF:Pc->Bool
 | .blk _ _ _ _=>true
 | _=>false
def aBl(n0:Nat)(p:Pc)(L:Nat->Bool)(v:Value)(w:World):Prop:=match p with
 | .eq x=>v=x
 | .turn _=>True
 | .told _ _ _ _=>True
 | .blk t zs k us=>∃ q,v = .pointer (some ⟨q,0,none⟩)/\n0<=q/\Mz w q t (if L k=true then us else zs)
def Rl(p:Nat):List Pc->Prop
 | []=>True
 | .told q _ _ _::r=>p≠q/\Rl p r
 | .eq _::r=>Rl p r
 | .turn _::r=>Rl p r
 | .blk _ _ _ _::r=>Rl p r
def Th(S:Nat->Prop)(w0:World):List Pc->Prop
 | []=>True
 | .told p t zs _::r=>(S p/\Mz w0 p t zs/\Rl p r)/\Th S w0 r
 | .eq _::r=>Th S w0 r
 | .turn _::r=>Th S w0 r
 | .blk _ _ _ _::r=>Th S w0 r
theorem Rl.at{p:Nat}:∀ {Gs:List Pc},Rl p Gs->∀ i q t zs us,Gs.getD i Pc.none = .told q t zs us->p≠q:=by
 intro Gs
 induction Gs with
 | nil=>intro _ i q t zs us h;cases h
 | cons g r ih =>
  intro h i q t zs us e
  cases i with
  | zero =>
   have e:g = .told q t zs us:=by simpa using e
   subst e;exact h.1
  | succ i =>
   have e:r.getD i Pc.none = .told q t zs us:=by simpa using e
   cases g <;> first|exact ih h.2 i q t zs us e|exact ih h i q t zs us e
theorem Th.at{S:Nat->Prop}{w0:World}:∀ {Gs:List Pc},Th S w0 Gs->∀ i p t zs us,Gs.getD i Pc.none = .told p t zs us->S p/\Mz w0 p t zs:=by
 intro Gs
 induction Gs with
 | nil=>intro _ i q t zs us h;cases h
 | cons g r ih =>
  intro h i q t zs us e
  cases i with
  | zero =>
   have e:g = .told q t zs us:=by simpa using e
   subst e;exact⟨h.1.1,h.1.2.1⟩
  | succ i =>
   have e:r.getD i Pc.none = .told q t zs us:=by simpa using e
   cases g <;> first|exact ih h.2 i q t zs us e|exact ih h i q t zs us e
theorem Th.ne{S:Nat->Prop}{w0:World}:∀ {Gs:List Pc},Th S w0 Gs->∀ i j p t zs us p' t' zs' us',i≠j->Gs.getD i Pc.none = .told p t zs us->Gs.getD j Pc.none = .told p' t' zs' us'->p≠p':=by
 intro Gs
 induction Gs with
 | nil=>intro _ i j p t zs us p' t' zs' us' _ h;cases h
 | cons g r ih =>
  intro h i j p t zs us p' t' zs' us' hij e1 e2
  cases i with
  | zero =>
   have e1:g = .told p t zs us:=by simpa using e1
   subst e1
   cases j with
   | zero=>exact absurd rfl hij
   | succ j=>exact h.1.2.2.at j p' t' zs' us' (by simpa using e2)
  | succ i =>
   cases j with
   | zero =>
    have e2:g = .told p' t' zs' us':=by simpa using e2
    subst e2
    exact fun e=>h.1.2.2.at i p t zs us (by simpa using e1) e.symm
   | succ j =>
    have hr:Th S w0 r:=by cases g <;> first|exact h.2|exact h
    exact ih hr i j p t zs us p' t' zs' us' (fun e=>hij (by rw[e])) (by simpa using e1) (by simpa using e2)
structure JC (S:Nat->Prop) (w0:World) (Gs:List Pc) (L:Nat->Bool) (v:Nat->Value) (w:World):Prop where
  kept:KO S w0 w
  olds:∀ i p t zs us,Gs.getD i Pc.none = .told p t zs us->Mz w p t (if L i=true then us else zs)
  holds:∀ i,L i=true->aBl w0.heap.size (Gs.getD i Pc.none) L (v i) w
  apart:∀ i j,i≠j->L i=true->L j=true->SF (Gs.getD i Pc.none)=true->SF (Gs.getD j Pc.none)=true->v i≠v j
  clos:∀ k j,L k=true->Gs.getD k Pc.none = .turn j->L j=true
def aBw(os:List Oper)(D:List (Option Tmp))(Gs:List Pc)(i:Nat):Pc->Bool
 | .eq _=>true
 | .told _ _ _ _=>true
 | .turn j=>(match Gs.getD j Pc.none with | .blk _ _ k _=>k==i|_=>false) && (match D.getD j none with|some _=>true|none=>false) && (match os[i]? with|some o=>Tt o j|none=>false)
 | .blk _ _ k _=>match Gs.getD k Pc.none with | .turn j=>j==i|_=>false
def wfC(os:List Oper)(D:List (Option Tmp))(Gs:List Pc):Bool:=(List.range Gs.length).all fun i=>aBw os D Gs i (Gs.getD i Pc.none)
theorem Zp{os:List Oper}{D:List (Option Tmp)}{Gs:List Pc}(h:wfC os D Gs=true)(i:Nat):aBw os D Gs i (Gs.getD i Pc.none)=true:=by
 by_cases hi:i<Gs.length
 ·exact List.all_eq_true.1 h i (List.mem_range.2 hi)
 ·have:Gs.getD i Pc.none=Pc.none:=by simp[List.getD,List.getElem?_eq_none (show Gs.length<=i by omega)]
  rw[this];rfl
theorem VG{os:List Oper}{D:List (Option Tmp)}{Gs:List Pc}(h:wfC os D Gs=true){i k:Nat}{t:TypeId}{zs us:List Value}(e:Gs.getD i Pc.none = .blk t zs k us):Gs.getD k Pc.none = .turn i:=by
 have:=Zp h i
 rw[e] at this
 simp only[aBw] at this
 split at this
 ·rename_i j hj;rw[hj];have:j=i:=by simpa using this
  rw[this]
 ·cases this
def Z8(n0:Nat)(Gs:List Pc)(i:Nat):Nat->Value->World->Prop:=fun j v w=>match Gs.getD j Pc.none with
 | .eq x=>v=x
 | .turn _=>True
 | .told _ _ _ _=>True
 | .blk t zs k _=>k=i->∃ q,v = .pointer (some ⟨q,0,none⟩)/\n0<=q/\Mz w q t zs
def YJ(Gs:List Pc)(D:List (Option Tmp))(i:Nat)(ρ:Operand->Value)(w:World)(v:Value)(w':World):Prop:=match Gs.getD i Pc.none with
 | .eq x=>v=x/\KO (fun _=>False) w w'
 | .blk t zs _ _=>∃ q,v = .pointer (some ⟨q,0,none⟩)/\w.heap.size<=q/\Mz w' q t zs/\KO (fun _=>False) w w'
 | .told p t _ us=>Mz w' p t us/\KO (Lf p) w w'
 | .turn j=>∃ d q,D.getD j none=some d/\ρ (.tmp d) = .pointer (some ⟨q,0,none⟩)/\(∀ t zs us,Gs.getD j Pc.none = .blk t zs i us->Mz w' q t us)/\KO (Lf q) w w'
section
variable {P:Program} {N:Nat} {F:Nat->Value} {w:World} {Q:Exit->(Nat->Value)->World->Prop}
def Nh(S:Nat->Prop)(N:Nat)(P:Program)(D:List (Option Tmp))(Gs:List Pc)(F0:Nat->Value)(w0:World)(i:Nat)(o:Oper):Prop :=
 ∀ (F:Nat->Value) (w:World),KO S w0 w->(∀ t,Nat.blt t N=true->some t∉D->F t=F0 t)->N3 D (Z8 w0.heap.size Gs i) F w o.after.toList->(∀ p t zs us,Gs.getD i Pc.none = .told p t zs us->Mz w p t zs) →
  match o.guard with
  | none=>Le P (ev F) o w (YJ Gs D i (ev F) w)
  | some (j,want)=>∃ d,D.getD j none=some d ∧
   ((F d = .bool want/\Le P (ev F) o w (YJ Gs D i (ev F) w))\/((F d = .bool (!want)\/F d=undef)/\Gs.getD i Pc.none = .eq undef))
def Ro(S:Nat->Prop)(N:Nat)(P:Program)(D:List (Option Tmp))(Gs:List Pc)(F0:Nat->Value)(w0:World):Nat->List Oper->Prop
 | _,[]=>True
 | i,o::r=>Nh S N P D Gs F0 w0 i o/\Ro S N P D Gs F0 w0 (i+1) r
theorem XZ{S:Nat->Prop}{D:List (Option Tmp)}{Gs:List Pc}{F0:Nat->Value}{w0:World}{i:Nat}:Ro S N P D Gs F0 w0 i []:=trivial
theorem Mm{S:Nat->Prop}{D:List (Option Tmp)}{Gs:List Pc}{F0:Nat->Value}{w0:World}{i:Nat}{o:Oper}{r:List Oper}(h:Nh S N P D Gs F0 w0 i o)(k:Ro S N P D Gs F0 w0 (i+1) r):Ro S N P D Gs F0 w0 i (o::r):=⟨h,k⟩
theorem Nh.one{S:Nat->Prop}{D:List (Option Tmp)}{Gs:List Pc}{F0:Nat->Value}{w0:World}{i:Nat}{o:Oper}(hg:o.guard=none)
  (h:∀ (F:Nat->Value) (w:World),KO S w0 w->(∀ t,Nat.blt t N=true->some t∉D->F t=F0 t)->N3 D (Z8 w0.heap.size Gs i) F w o.after.toList->Le P (ev F) o w (YJ Gs D i (ev F) w)):Nh S N P D Gs F0 w0 i o:=by
 intro F w h1 h2 h3 _
 rw[hg]
 exact h F w h1 h2 h3
theorem Rf{L:Nat->Bool}{i:Nat}:Py L i i=true:=if_pos rfl
theorem Ng{L:Nat->Bool}{i j:Nat}(h:j≠i):Py L i j=L j:=if_neg h
theorem RV{v:Nat->Value}{i:Nat}{x:Value}:SE v i x i=x:=if_pos rfl
theorem QN{v:Nat->Value}{i j:Nat}{x:Value}(h:j≠i):SE v i x j=v j:=if_neg h
theorem S8{α:Type}{l:List α}{d x:α}{i:Nat}(h:l.getD i d=x)(hn:x≠d):l[i]? = some x:=by
 unfold List.getD at h
 cases hq:l[i]? with
 | none=>rw[hq] at h;exact absurd h.symm hn
 | some y=>rw[hq] at h;simpa using h
theorem JC.more{S:Nat->Prop}{os:List Oper}{D:List (Option Tmp)}{Gs:List Pc}{w0 w w':World}{L:Nat->Bool}{v:Nat->Value}{i:Nat}{x:Value}(hwf:wfC os D Gs=true)(h:JC S w0 Gs L v w)(hi:L i=false)(k:KO (fun _=>False) w w')
  (hnt:∀ j,Gs.getD i Pc.none ≠ .turn j) (hnd:∀ p t zs us,Gs.getD i Pc.none ≠ .told p t zs us) (hx:aBl w0.heap.size (Gs.getD i Pc.none) (Py L i) x w') (hb:SF (Gs.getD i Pc.none)=true->∃ q,x = .pointer (some ⟨q,0,none⟩)/\w.heap.size<=q):JC S w0 Gs (Py L i) (SE v i x) w':=by
 have hkeep:∀ j,L j=true->aBl w0.heap.size (Gs.getD j Pc.none) (Py L i) (v j) w':=by
  intro j hj
  have:=h.holds j hj
  revert this
  cases e:Gs.getD j Pc.none with
  | eq y=>exact id
  | turn y=>exact id
  | told y1 y2 y3 y4=>exact id
  | blk t zs kk us =>
   rintro ⟨q,e1,e2,e3⟩
   have hki:kk≠i:=fun e'=>hnt j (by rw[← e'];exact VG hwf e)
   refine⟨q,e1,e2,?_⟩
   rw[Ng hki]
   exact e3.all k id
 refine⟨h.kept.trans k (fun _ _ x=>x.elim),fun j p t zs us hj=>?_,fun j hj=>?_,fun a b hab ha hb' hA hB=>?_,fun a b ha hab=>?_⟩
 ·have hji:j≠i:=fun e=>hnd p t zs us (by rw[← e];exact hj)
  rw[Ng hji]
  exact(h.olds j p t zs us hj).all k id
 ·by_cases hji:j=i
  ·subst hji;rw[RV];exact hx
  ·rw[Ng hji] at hj;rw[QN hji];exact hkeep j hj
 ·have hnew:∀ c,c≠i->L c=true->SF (Gs.getD c Pc.none)=true->SF (Gs.getD i Pc.none)=true->v c≠x:=by
   intro c _ hc hC hI e
   obtain⟨q,e1,e2⟩:=hb hI
   have:=h.holds c hc
   revert this hC
   cases e':Gs.getD c Pc.none with
   | eq y=>intro hC;cases hC
   | turn y=>intro hC;cases hC
   | told y1 y2 y3 y4=>intro hC;cases hC
   | blk t zs kk us =>
    rintro - ⟨q',f1,f2,f3⟩
    rw[f1,e1] at e
    cases e
    have:=f3.lt
    omega
  by_cases hai:a=i
  ·subst hai
   have hba:b≠a:=fun e=>hab e.symm
   rw[Ng hba] at hb'
   rw[RV,QN hba]
   exact fun e=>hnew b hba hb' hB hA e.symm
  ·rw[Ng hai] at ha
   rw[QN hai]
   by_cases hbi:b=i
   ·subst hbi;rw[RV];exact hnew a hai ha hA hB
   ·rw[Ng hbi] at hb';rw[QN hbi];exact h.apart a b hab ha hb' hA hB
 ·by_cases hai:a=i
  ·subst hai;exact absurd hab (hnt b)
  ·rw[Ng hai] at ha
   have:=h.clos a b ha hab
   by_cases hbi:b=i
   ·subst hbi;exact Rf
   ·rw[Ng hbi];exact this
theorem JC.turned{S:Nat->Prop}{os:List Oper}{D:List (Option Tmp)}{Gs:List Pc}{w0 w w':World}{L:Nat->Bool}{v:Nat->Value}{i j q:Nat}{x:Value}(hwf:wfC os D Gs=true)(hO:Th S w0 Gs)(h:JC S w0 Gs L v w)(hi:L i=false)(hj:L j=true)(he:Gs.getD i Pc.none = .turn j)
  (hv:v j = .pointer (some ⟨q,0,none⟩)) (hq:∀ t zs us,Gs.getD j Pc.none = .blk t zs i us->Mz w' q t us) (k:KO (Lf q) w w'):JC S w0 Gs (Py L i) (SE v i x) w':=by
 have hw:=Zp hwf i
 rw[he] at hw
 simp only[aBw,Bool.and_eq_true] at hw
 have hn0:w0.heap.size<=q:=by
  have:=h.holds j hj
  revert this
  obtain⟨⟨h1,_⟩,_⟩:=hw
  cases e:Gs.getD j Pc.none with
  | eq y=>rw[e] at h1;cases h1
  | turn y=>rw[e] at h1;cases h1
  | told y1 y2 y3 y4=>rw[e] at h1;cases h1
  | blk t zs kk us =>
   rintro ⟨q',e1,e2,_⟩
   rw[hv] at e1;cases e1;exact e2
 have hjB:SF (Gs.getD j Pc.none)=true:=by
  obtain⟨⟨h1,_⟩,_⟩:=hw
  cases e:Gs.getD j Pc.none with
  | eq y=>rw[e] at h1;cases h1
  | turn y=>rw[e] at h1;cases h1
  | told y1 y2 y3 y4=>rw[e] at h1;cases h1
  | blk t zs kk us=>rfl
 refine⟨h.kept.trans k (fun b hb e=>by cases e;omega),fun a p t zs us ha=>?_,fun a ha=>?_,fun a b hab ha hb hA hB=>?_,fun a b ha hab=>?_⟩
 ·have hai:a≠i:=fun e=>by rw[e,he] at ha;cases ha
  rw[Ng hai]
  exact(h.olds a p t zs us ha).all k (fun e=>by have:=(hO.at a p t zs us ha).2.lt;rw[show p=q from e] at this;omega)
 ·by_cases hai:a=i
  ·subst hai;rw[RV,he];exact trivial
  ·rw[Ng hai] at ha;rw[QN hai]
   have:=h.holds a ha
   revert this
   cases e:Gs.getD a Pc.none with
   | eq y=>exact id
   | turn y=>exact id
   | told y1 y2 y3 y4=>exact id
   | blk t zs kk us =>
    rintro ⟨q',e1,e2,e3⟩
    have hk:=VG hwf e
    by_cases haj:a=j
    ·subst haj
     have hki:kk=i:=by
      obtain⟨⟨h1,_⟩,_⟩:=hw
      rw[e] at h1;simpa using h1
     subst hki
     rw[hv] at e1;cases e1
     refine⟨q,hv,hn0,?_⟩
     rw[if_pos Rf]
     exact hq t zs us e
    ·have hki:kk≠i:=fun e'=>by rw[e',he] at hk;cases hk;exact haj rfl
     refine⟨q',e1,e2,?_⟩
     rw[Ng hki]
     refine e3.all k (fun e'=>?_)
     have:=h.apart a j haj ha hj (by rw[e];rfl) hjB
     rw[e1,hv] at this
     exact this (by rw[show q'=q from e'])
 ·have hni:∀ c,SF (Gs.getD c Pc.none)=true->c≠i:=fun c hc e=>by rw[e,he] at hc;cases hc
  rw[QN (hni a hA),QN (hni b hB)]
  rw[Ng (hni a hA)] at ha
  rw[Ng (hni b hB)] at hb
  exact h.apart a b hab ha hb hA hB
 ·by_cases hai:a=i
  ·subst hai
   rw[he] at hab;cases hab
   by_cases hji:j=a
   ·subst hji;exact Rf
   ·rw[Ng hji];exact hj
  ·rw[Ng hai] at ha
   have:=h.clos a b ha hab
   by_cases hbi:b=i
   ·subst hbi;exact Rf
   ·rw[Ng hbi];exact this
theorem JC.oldTurned{S:Nat->Prop}{os:List Oper}{D:List (Option Tmp)}{Gs:List Pc}{w0 w w':World}{L:Nat->Bool}{v:Nat->Value}{i p:Nat}{t:TypeId}{zs us:List Value}{x:Value}(hwf:wfC os D Gs=true)(hO:Th S w0 Gs)(h:JC S w0 Gs L v w)(he:Gs.getD i Pc.none = .told p t zs us)
  (hq:Mz w' p t us) (k:KO (Lf p) w w'):JC S w0 Gs (Py L i) (SE v i x) w':=by
 have hp:=hO.at i p t zs us he
 have hni:∀ c,SF (Gs.getD c Pc.none)=true->c≠i:=fun c hc e=>by rw[e,he] at hc;cases hc
 refine⟨h.kept.trans k (fun b hb e=>by cases e;exact hp.1),fun a p' t' zs' us' ha=>?_,fun a ha=>?_,fun a b hab ha hb hA hB=>?_,fun a b ha hab=>?_⟩
 ·by_cases hai:a=i
  ·subst hai
   rw[he] at ha;cases ha
   rw[if_pos Rf];exact hq
  ·rw[Ng hai]
   exact(h.olds a p' t' zs' us' ha).all k (fun e=>hO.ne a i p' t' zs' us' p t zs us hai ha he e)
 ·by_cases hai:a=i
  ·subst hai;rw[RV,he];exact trivial
  ·rw[Ng hai] at ha;rw[QN hai]
   have:=h.holds a ha
   revert this
   cases e:Gs.getD a Pc.none with
   | eq y=>exact id
   | turn y=>exact id
   | told y1 y2 y3 y4=>exact id
   | blk t zs kk us =>
    rintro ⟨q',e1,e2,e3⟩
    have hk:=VG hwf e
    have hki:kk≠i:=fun e'=>by rw[e',he] at hk;cases hk
    refine⟨q',e1,e2,?_⟩
    rw[Ng hki]
    exact e3.all k (fun e'=>by have:=hp.2.lt;rw[show q'=p from e'] at e2;omega)
 ·rw[QN (hni a hA),QN (hni b hB)]
  rw[Ng (hni a hA)] at ha
  rw[Ng (hni b hB)] at hb
  exact h.apart a b hab ha hb hA hB
 ·have hai:a≠i:=fun e=>by rw[e,he] at hab;cases hab
  rw[Ng hai] at ha
  have:=h.clos a b ha hab
  by_cases hbi:b=i
  ·subst hbi;exact Rf
  ·rw[Ng hbi];exact this
theorem Nh.step{S:Nat->Prop}{os:List Oper}{D:List (Option Tmp)}{Gs:List Pc}{w0:World}{i:Nat}{o:Oper}{a0:Act}(hwf:wfC os D Gs=true)(hO:Th S w0 Gs)(ho:os[i]? = some o)(ha:Fr N F a0)(h:Nh S N P D Gs F w0 i o):Wu os P D (JC S w0 Gs) a0 i o:=by
 intro L v a w hJ hi hdone hout hhere _
 have hdeps:N3 D (Z8 w0.heap.size Gs i) (fun t=>a.tmps.getD t undef) w o.after.toList:=by
  refine Q3.toF (Q3.mk fun e he hb d hd=>?_)
  have hl:=hdone e he hb
  have hDe:=S8 hd (by simp)
  have hv:=hhere e.on d hl hDe
  rw[hv]
  have:=hJ.holds e.on hl
  unfold Z8
  revert this
  cases e':Gs.getD e.on Pc.none with
  | eq y=>exact id
  | turn y=>exact id
  | told y1 y2 y3 y4=>exact id
  | blk t zs kk us =>
   rintro ⟨q,e1,e2,e3⟩ hk
   refine⟨q,e1,e2,?_⟩
   subst hk
   rw[hi,if_neg (by simp)] at e3
   exact e3
 have h1:=h (fun t=>a.tmps.getD t undef) w hJ.kept (fun t hb ht=>by rw[← ha.at' t hb];exact hout t ht) hdeps (fun p t zs us e=>by have:=hJ.olds i p t zs us e;rw[hi,if_neg (by simp)] at this;exact this)
 rw[← Rq a] at h1
 have hleft:∀ x w',YJ Gs D i a.eval w x w'->JC S w0 Gs (Py L i) (SE v i x) w':=by
  intro x w' hx
  unfold YJ at hx
  cases e:Gs.getD i Pc.none with
  | eq y =>
   rw[e] at hx
   exact hJ.more hwf hi hx.2 (fun j hj=>by rw[e] at hj;cases hj) (fun _ _ _ _ hj=>by rw[e] at hj;cases hj) (by rw[e];exact hx.1) (by rw[e];intro hb;cases hb)
  | blk t zs kk us =>
   rw[e] at hx
   obtain⟨q,e1,e2,e3,e4⟩:=hx
   have hk:=VG hwf e
   have hki:kk≠i:=fun e'=>by rw[e',e] at hk;cases hk
   have hLk:L kk=false:=by
    cases hq:L kk with
    | false=>rfl
    | true=>have:=hJ.clos kk i hq hk;rw[hi] at this;cases this
   refine hJ.more hwf hi e4 (fun j hj=>by rw[e] at hj;cases hj) (fun _ _ _ _ hj=>by rw[e] at hj;cases hj) ?_ (fun _=>⟨q,e1,e2⟩)
   rw[e]
   refine⟨q,e1,Nat.le_trans hJ.kept.size e2,?_⟩
   rw[Ng hki,hLk,if_neg (by simp)]
   exact e3
  | told p t zs us =>
   rw[e] at hx
   exact hJ.oldTurned hwf hO e hx.1 hx.2
  | turn j =>
   rw[e] at hx
   obtain⟨d,q,hd,e1,e2,e3⟩:=hx
   have hw:=Zp hwf i
   rw[e] at hw
   simp only[aBw,Bool.and_eq_true,ho] at hw
   obtain⟨ed,hed,hb,hon⟩:=R9.1 hw.2
   have hLj:=hdone ed hed hb
   rw[hon] at hLj
   have hv:=hhere j d hLj (S8 hd (by simp))
   exact hJ.turned hwf hO hi hLj e (by rw[← hv];exact e1) e2 e3
 unfold PH
 cases hg:o.guard with
 | none=>rw[hg] at h1;exact⟨fun _=>h1.mono' hleft,fun e=>by cases e⟩
 | some g =>
  obtain⟨j,want⟩:=g
  rw[hg] at h1
  obtain⟨d,hd,h1⟩:=h1
  simp only[hd]
  have hev:a.eval (.tmp d)=a.tmps.getD d undef:=rfl
  rcases h1 with ⟨hv,hy⟩ | ⟨hv,hs⟩
  ·rw[hev,hv];exact⟨fun _=>hy.mono' hleft,fun e=>by simp at e⟩
  ·refine⟨fun e=>?_,fun _=>hJ.more hwf hi (KO.refl _ _) (fun j hj=>by rw[hs] at hj;cases hj) (fun _ _ _ _ hj=>by rw[hs] at hj;cases hj) (by rw[hs];rfl) (by rw[hs];intro hb;cases hb)⟩
   rcases hv with hv|hv
   ·rw[hev,hv] at e;cases want <;> simp at e
   ·rw[hev,hv] at e;simp[undef] at e
theorem Ro.steps{S:Nat->Prop}{all:List Oper}{D:List (Option Tmp)}{Gs:List Pc}{w0:World}{a0:Act}(hwf:wfC all D Gs=true)(hO:Th S w0 Gs)(ha:Fr N F a0):∀ {os:List Oper} {i:Nat},(∀ k o,os[k]? = some o->all[i+k]? = some o)->Ro S N P D Gs F w0 i os->Qm all P D (JC S w0 Gs) a0 i os:=by
 intro os
 induction os with
 | nil=>intro i _ _;exact trivial
 | cons o r ih =>
  intro i hat h
  exact⟨h.1.step hwf hO (hat 0 o rfl) ha,ih (fun k o' hk=>by have:=hat (k+1) o' hk;rwa [show i+(k+1)=i+1+k by omega] at this) h.2⟩
def aEi(n0:Nat)(Gs:List Pc)(i:Nat)(v:Value)(w:World):Prop:=match Gs.getD i Pc.none with
 | .eq x=>v=x
 | .turn _=>True
 | .told p t _ us=>Mz w p t us
 | .blk t _ _ us=>∃ q,v = .pointer (some ⟨q,0,none⟩)/\n0<=q/\Mz w q t us
theorem aBu{S:Nat->Prop}{id:Nat}{ops:Array Oper}(D:List (Option Tmp))(Gs:List Pc)(hm:P.follows .mixedOrders=true)(hpl:plain N 0 D ops.toList=true)(hwf:wfC ops.toList D Gs=true)(hsz:Gs.length=ops.size)(hO:Th S w Gs)(hsteps:Ro S N P D Gs F w 0 ops.toList)
  (hend:∀ (v:Nat->Value) (F':Nat->Value) (w':World),KO S w w'->(∀ i,i<ops.size->aEi w.heap.size Gs i (v i) w')->(∀ i j,i≠j->i<ops.size->j<ops.size->SF (Gs.getD i Pc.none)=true->SF (Gs.getD j Pc.none)=true->v i≠v j)->(∀ t,F' t=Ql v 0 D F t)->Q .normal F' w'):wq none P N (.region id ops true) Q F w:=by
 intro a ha
 refine wpIn_wide.2 ?_
 refine QP D (JC S w Gs) hm (by rw[ha.size];exact hpl) ⟨(KO.refl _ w).drew,fun i p t zs us e=>(by rw[if_neg (by simp)];exact(hO.at i p t zs us e).2.all ((KO.refl (fun _=>False) w).drew) (fun z=>z)),fun _ e=>(by cases e),fun _ _ _ e=>(by cases e),fun _ _ e=>(by cases e)⟩ (hsteps.steps hwf hO ha (fun k o hk=>by rw[Nat.zero_add];exact hk)) fun L v w' hJ hL=>?_
 refine⟨Ql v 0 D F,OM v D 0 F a ha (Oj hpl),hend v _ w' hJ.kept (fun i hi=>?_) (fun i j hij hi hj hI hJ'=>hJ.apart i j hij (hL i hi) (hL j hj) hI hJ') fun _=>rfl⟩
 have:=hJ.holds i (hL i hi)
 unfold aEi
 revert this
 cases e:Gs.getD i Pc.none with
 | eq y=>exact fun z=>z
 | turn y=>exact fun z=>z
 | told p t zs us =>
  intro _
  have:=hJ.olds i p t zs us e
  rw[if_pos (hL i hi)] at this
  exact this
 | blk t zs kk us =>
  rintro ⟨q,e1,e2,e3⟩
  have hk:=VG hwf e
  have hkk:kk<ops.size:=by
   rw[← hsz]
   rcases Nat.lt_or_ge kk Gs.length with h'|h'
   ·exact h'
   ·have:Gs.getD kk Pc.none=Pc.none:=by simp[List.getD,List.getElem?_eq_none h']
    rw[this] at hk;cases hk
  rw[if_pos (hL kk hkk)] at e3
  exact⟨q,e1,e2,e3⟩
end
end Go.Proofs.YtknjpdcpmpfklaaGreatDoor
