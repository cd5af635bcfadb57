/- What PictureStill reaches of my texts, part 3. -/
import Derived.Test.YtknjpdcpmpfklaaGreatDoorPictureStillB
set_option maxRecDepth 100000
set_option maxHeartbeats 4000000
set_option maxRecDepth 100000
namespace Go.Proofs.YtknjpdcpmpfklaaGreatDoor
open Go.RowKit
theorem aDx(n:Int):IntKind.u8.wrap (min (max n 0) 255)=((L6 n:Nat):Int):=by
 unfold L6 IntKind.wrap;simp[IntKind.signed,IntKind.bits];omega
theorem Vh(a:FD)(a0 a1 a2:Value)(b:FD)(b0 b1 b2:Value)(T_a0:Nat->Prop)(T_a1:Nat->Prop)(T_a2:Nat->Prop)(T_b0:Nat->Prop)(T_b1:Nat->Prop)(T_b2:Nat->Prop)(w0:World)(h_a0:Mv w0 T_a0 a0 ((a).p0))(h_a1:Mv w0 T_a1 a1 ((a).p1))(h_a2:Mv w0 T_a2 a2 ((a).p2))(h_b0:Mv w0 T_b0 b0 ((b).p0))(h_b1:Mv w0 T_b1 b1 ((b).p1))(h_b2:Mv w0 T_b2 b2 ((b).p2)) :
  Calls Tryz.prog 15 #[.agg #[.int .i64 ((a).W),.int .i64 ((a).H),a0,a1,a2],.agg #[.int .i64 ((b).W),.int .i64 ((b).H),b0,b1,b2]] w0 fun e w'=>e = .returned (.bool (Q6 a b))/\KR (fun _=>False) w0 w':=by
 refine Ly (args:=[.agg #[iv (a.W),iv (a.H),a0,a1,a2],.agg #[iv (b.W),iv (b.H),b0,b1,b2]]) 52 Tryz.func15 rfl rfl (Nat.le_of_ble_eq_true rfl) ?_
 have g_a0:=KS.refl w0 T_a0
 have g_a1:=KS.refl w0 T_a1
 have g_a2:=KS.refl w0 T_a2
 have g_b0:=KS.refl w0 T_b0
 have g_b1:=KS.refl w0 T_b1
 have g_b2:=KS.refl w0 T_b2
 refine KM (KL (LJ (vs:=[iv (a.W),iv (a.H),a0,a1,a2]) rfl rfl rfl rfl fun p1 w2 B4 g5 k3=>?_))
 obtain⟨aE,aF,aG,aH,aI,aJ⟩:=Qh k3 h_a0 h_a1 h_a2 h_b0 h_b1 h_b2
 refine LJ (vs:=[iv (b.W),iv (b.H),b0,b1,b2]) rfl rfl rfl rfl fun ab a8 ac a9 av=>?_
 obtain⟨am,aw,aK,an,az,aL,ae⟩:=Uc av aE aF aG aH aI aJ B4
 have ai:=((KR.refl (fun _=>False) w0).tr k3).tr av
 refine Lb (.bool false) LE (KQ ?_)
 have aj:=K4 (undef)
 have af:=K4 (pt p1 0)
 have ah:=K4 (pt ab 0)
 refine KK (KM ?_)
 rcases Bool.eq_false_or_eq_true ((Mx (a.p0)).toList==(Mx (b.p0)).toList) with ak|ak
 ·skip
  rcases Bool.eq_false_or_eq_true ((Mx (a.p1)).toList==(Mx (b.p1)).toList) with ao|ao
  ·skip
   refine KL (KN (pt p1 2) rr (KU (n:=3) rfl af Tryz.underlying29 rfl (by kernel_rfl) (by decide) rfl rr) (KN (pt p1 2) rr (L3 0 (s:=1) rfl rfl rfl (by omega) Tryz.underlying27 (by omega) (by kernel_rfl) (by omega) rr) (KN a0 rr (KY rfl rfl Tryz.underlying26 ae rfl rfl rr) (KN (.string (Mx (a.p0))) rr (Qp rfl (OK rfl am) rr) (KN (pt ab 2) rr (KU (n:=3) rfl ah Tryz.underlying29 rfl (by kernel_rfl) (by decide) rfl rr) (KN (pt ab 2) rr (L3 0 (s:=1) rfl rfl rfl (by omega) Tryz.underlying27 (by omega) (by kernel_rfl) (by omega) rr) (KN b0 rr (KY rfl rfl Tryz.underlying26 ac rfl rfl rr) (KN (.string (Mx (b.p0))) rr (Qp rfl (OK rfl an) rr) (KN (.bool true) rr (Vb rfl rfl rfl ak rr) (KN (.bool true) rr (KT rfl rfl rr) (Lj (pt p1 2) 9 true 15 Li (KU (n:=3) rfl af Tryz.underlying29 rfl (by kernel_rfl) (by decide) rfl rr) ?_)))))))))))
   refine Lj (pt p1 3) 9 true 15 Li (L3 1 (s:=1) rfl rfl rfl (by omega) Tryz.underlying27 (by omega) (by kernel_rfl) (by omega) rr) (Lj a1 9 true 15 Li (KY rfl rfl Tryz.underlying26 ae rfl rfl rr) (Lj (.string (Mx (a.p1))) 9 true 15 Li (Qp rfl (OK rfl aw) rr) (Lj (pt ab 2) 9 true 15 Li (KU (n:=3) rfl ah Tryz.underlying29 rfl (by kernel_rfl) (by decide) rfl rr) (Lj (pt ab 3) 9 true 15 Li (L3 1 (s:=1) rfl rfl rfl (by omega) Tryz.underlying27 (by omega) (by kernel_rfl) (by omega) rr) (Lj b1 9 true 15 Li (KY rfl rfl Tryz.underlying26 ac rfl rfl rr) (Lj (.string (Mx (b.p1))) 9 true 15 Li (Qp rfl (OK rfl az) rr) (Lj (.bool true) 9 true 15 Li (Vb rfl rfl rfl ao rr) (KN (.bool true) rr (LB rfl rfl rfl rr) (KN (.bool true) rr (KT rfl rfl rr) (Lj (pt p1 2) 20 true 26 Li (KU (n:=3) rfl af Tryz.underlying29 rfl (by kernel_rfl) (by decide) rfl rr) (Lj (pt p1 4) 20 true 26 Li (L3 2 (s:=1) rfl rfl rfl (by omega) Tryz.underlying27 (by omega) (by kernel_rfl) (by omega) rr) ?_)))))))))))
   refine Lj a2 20 true 26 Li (KY rfl rfl Tryz.underlying26 ae rfl rfl rr) (Lj (.string (Mx (a.p2))) 20 true 26 Li (Qp rfl (OK rfl aK) rr) (Lj (pt ab 2) 20 true 26 Li (KU (n:=3) rfl ah Tryz.underlying29 rfl (by kernel_rfl) (by decide) rfl rr) (Lj (pt ab 4) 20 true 26 Li (L3 2 (s:=1) rfl rfl rfl (by omega) Tryz.underlying27 (by omega) (by kernel_rfl) (by omega) rr) (Lj b2 20 true 26 Li (KY rfl rfl Tryz.underlying26 ac rfl rfl rr) (Lj (.string (Mx (b.p2))) 20 true 26 Li (Qp rfl (OK rfl aL) rr) (Lj (.bool ((Mx (a.p2)).toList==(Mx (b.p2)).toList)) 20 true 26 Li (Vb rfl rfl rfl rfl rr) (KN (.bool ((Mx (a.p2)).toList==(Mx (b.p2)).toList)) rr (LB rfl rfl rfl rr) (Lb (.bool ((Mx (a.p2)).toList==(Mx (b.p2)).toList)) LE (KQ ?_)))))))))
   have aM:=K4 (.bool ((Mx (a.p2)).toList==(Mx (b.p2)).toList))
   refine KK (KM ?_)
   by_cases ap:(a.W)=(b.W)
   ·skip
    by_cases aA:(a.H)=(b.H)
    ·skip
     refine KL (KN (pt p1 0) rr (KU (n:=1) rfl af Tryz.underlying29 rfl (by kernel_rfl) (by decide) rfl rr) (KN (iv (a.W)) rr (KY rfl rfl Tryz.underlying3 ae rfl rfl rr) (KN (pt ab 0) rr (KU (n:=1) rfl ah Tryz.underlying29 rfl (by kernel_rfl) (by decide) rfl rr) (KN (iv (b.W)) rr (KY rfl rfl Tryz.underlying3 ac rfl rfl rr) (KN (.bool true) rr (MA rfl rfl rfl (decide_eq_true ap) rr) (KN (.bool true) rr (KT rfl rfl rr) (Lj (pt p1 1) 5 true 42 Li (KU (n:=1) rfl af Tryz.underlying29 rfl (by kernel_rfl) (by decide) rfl rr) (Lj (iv (a.H)) 5 true 42 Li (KY rfl rfl Tryz.underlying3 ae rfl rfl rr) (Lj (pt ab 1) 5 true 42 Li (KU (n:=1) rfl ah Tryz.underlying29 rfl (by kernel_rfl) (by decide) rfl rr) (Lj (iv (b.H)) 5 true 42 Li (KY rfl rfl Tryz.underlying3 ac rfl rfl rr) (Lj (.bool true) 5 true 42 Li (MA rfl rfl rfl (decide_eq_true aA) rr) ?_)))))))))))
     refine KN (.bool true) rr (LB rfl rfl rfl rr) (KN (.bool true) rr (KT rfl rfl rr) (Lj (.bool ((Mx (a.p2)).toList==(Mx (b.p2)).toList)) 12 true 49 Li (KT rfl aM rr) (KN (.bool ((Mx (a.p2)).toList==(Mx (b.p2)).toList)) rr (LB rfl rfl rfl rr) (Lb (.bool ((Mx (a.p2)).toList==(Mx (b.p2)).toList)) LE (KQ ?_)))))
     have aN:=K4 (.bool ((Mx (a.p2)).toList==(Mx (b.p2)).toList))
     refine KK (Le ?_)
     exact LC (v:=.bool ((Mx (a.p2)).toList==(Mx (b.p2)).toList)) aj rfl rfl aN ⟨(by first|rw[QF (by assumption)]|rw[QD (by assumption)]|rw[Qz (by assumption)]|rw[QG (by assumption)]|rw[QJ (by assumption) (by assumption) (by assumption) (by assumption)]),ai⟩
    ·skip
     refine KL (KN (pt p1 0) rr (KU (n:=1) rfl af Tryz.underlying29 rfl (by kernel_rfl) (by decide) rfl rr) (KN (iv (a.W)) rr (KY rfl rfl Tryz.underlying3 ae rfl rfl rr) (KN (pt ab 0) rr (KU (n:=1) rfl ah Tryz.underlying29 rfl (by kernel_rfl) (by decide) rfl rr) (KN (iv (b.W)) rr (KY rfl rfl Tryz.underlying3 ac rfl rfl rr) (KN (.bool true) rr (MA rfl rfl rfl (decide_eq_true ap) rr) (KN (.bool true) rr (KT rfl rfl rr) (Lj (pt p1 1) 5 true 42 Li (KU (n:=1) rfl af Tryz.underlying29 rfl (by kernel_rfl) (by decide) rfl rr) (Lj (iv (a.H)) 5 true 42 Li (KY rfl rfl Tryz.underlying3 ae rfl rfl rr) (Lj (pt ab 1) 5 true 42 Li (KU (n:=1) rfl ah Tryz.underlying29 rfl (by kernel_rfl) (by decide) rfl rr) (Lj (iv (b.H)) 5 true 42 Li (KY rfl rfl Tryz.underlying3 ac rfl rfl rr) (Lj (.bool false) 5 true 42 Li (MA rfl rfl rfl (decide_eq_false aA) rr) ?_)))))))))))
     refine KN (.bool false) rr (LB rfl rfl rfl rr) (KN (.bool false) rr (KT rfl rfl rr) (Lq 12 true 49 Li (KN (.bool false) rr (Lt rfl rfl rfl rr) (Lb (.bool false) LE (KQ ?_)))))
     have aO:=K4 (.bool false)
     refine KK (Le ?_)
     exact LC (v:=.bool false) aj rfl rfl aO ⟨(by first|rw[QF (by assumption)]|rw[QD (by assumption)]|rw[Qz (by assumption)]|rw[QG (by assumption)]|rw[QJ (by assumption) (by assumption) (by assumption) (by assumption)]),ai⟩
   ·skip
    refine KL (KN (pt p1 0) rr (KU (n:=1) rfl af Tryz.underlying29 rfl (by kernel_rfl) (by decide) rfl rr) (KN (iv (a.W)) rr (KY rfl rfl Tryz.underlying3 ae rfl rfl rr) (KN (pt ab 0) rr (KU (n:=1) rfl ah Tryz.underlying29 rfl (by kernel_rfl) (by decide) rfl rr) (KN (iv (b.W)) rr (KY rfl rfl Tryz.underlying3 ac rfl rfl rr) (KN (.bool false) rr (MA rfl rfl rfl (decide_eq_false ap) rr) (KN (.bool false) rr (KT rfl rfl rr) (Lq 5 true 42 Li (Lq 5 true 42 Li (Lq 5 true 42 Li (Lq 5 true 42 Li (Lq 5 true 42 Li ?_)))))))))))
    refine KN (.bool false) rr (Lt rfl rfl rfl rr) (KN (.bool false) rr (KT rfl rfl rr) (Lq 12 true 49 Li (KN (.bool false) rr (Lt rfl rfl rfl rr) (Lb (.bool false) LE (KQ ?_)))))
    have aP:=K4 (.bool false)
    refine KK (Le ?_)
    exact LC (v:=.bool false) aj rfl rfl aP ⟨(by first|rw[QF (by assumption)]|rw[QD (by assumption)]|rw[Qz (by assumption)]|rw[QG (by assumption)]|rw[QJ (by assumption) (by assumption) (by assumption) (by assumption)]),ai⟩
  ·skip
   refine KL (KN (pt p1 2) rr (KU (n:=3) rfl af Tryz.underlying29 rfl (by kernel_rfl) (by decide) rfl rr) (KN (pt p1 2) rr (L3 0 (s:=1) rfl rfl rfl (by omega) Tryz.underlying27 (by omega) (by kernel_rfl) (by omega) rr) (KN a0 rr (KY rfl rfl Tryz.underlying26 ae rfl rfl rr) (KN (.string (Mx (a.p0))) rr (Qp rfl (OK rfl am) rr) (KN (pt ab 2) rr (KU (n:=3) rfl ah Tryz.underlying29 rfl (by kernel_rfl) (by decide) rfl rr) (KN (pt ab 2) rr (L3 0 (s:=1) rfl rfl rfl (by omega) Tryz.underlying27 (by omega) (by kernel_rfl) (by omega) rr) (KN b0 rr (KY rfl rfl Tryz.underlying26 ac rfl rfl rr) (KN (.string (Mx (b.p0))) rr (Qp rfl (OK rfl an) rr) (KN (.bool true) rr (Vb rfl rfl rfl ak rr) (KN (.bool true) rr (KT rfl rfl rr) (Lj (pt p1 2) 9 true 15 Li (KU (n:=3) rfl af Tryz.underlying29 rfl (by kernel_rfl) (by decide) rfl rr) ?_)))))))))))
   refine Lj (pt p1 3) 9 true 15 Li (L3 1 (s:=1) rfl rfl rfl (by omega) Tryz.underlying27 (by omega) (by kernel_rfl) (by omega) rr) (Lj a1 9 true 15 Li (KY rfl rfl Tryz.underlying26 ae rfl rfl rr) (Lj (.string (Mx (a.p1))) 9 true 15 Li (Qp rfl (OK rfl aw) rr) (Lj (pt ab 2) 9 true 15 Li (KU (n:=3) rfl ah Tryz.underlying29 rfl (by kernel_rfl) (by decide) rfl rr) (Lj (pt ab 3) 9 true 15 Li (L3 1 (s:=1) rfl rfl rfl (by omega) Tryz.underlying27 (by omega) (by kernel_rfl) (by omega) rr) (Lj b1 9 true 15 Li (KY rfl rfl Tryz.underlying26 ac rfl rfl rr) (Lj (.string (Mx (b.p1))) 9 true 15 Li (Qp rfl (OK rfl az) rr) (Lj (.bool false) 9 true 15 Li (Vb rfl rfl rfl ao rr) (KN (.bool false) rr (LB rfl rfl rfl rr) (KN (.bool false) rr (KT rfl rfl rr) (Lq 20 true 26 Li (Lq 20 true 26 Li ?_)))))))))))
   refine Lq 20 true 26 Li (Lq 20 true 26 Li (Lq 20 true 26 Li (Lq 20 true 26 Li (Lq 20 true 26 Li (Lq 20 true 26 Li (Lq 20 true 26 Li (KN (.bool false) rr (Lt rfl rfl rfl rr) (Lb (.bool false) LE (KQ ?_)))))))))
   have aQ:=K4 (.bool false)
   refine KK (KM ?_)
   by_cases aq:(a.W)=(b.W)
   ·skip
    by_cases aB:(a.H)=(b.H)
    ·skip
     refine KL (KN (pt p1 0) rr (KU (n:=1) rfl af Tryz.underlying29 rfl (by kernel_rfl) (by decide) rfl rr) (KN (iv (a.W)) rr (KY rfl rfl Tryz.underlying3 ae rfl rfl rr) (KN (pt ab 0) rr (KU (n:=1) rfl ah Tryz.underlying29 rfl (by kernel_rfl) (by decide) rfl rr) (KN (iv (b.W)) rr (KY rfl rfl Tryz.underlying3 ac rfl rfl rr) (KN (.bool true) rr (MA rfl rfl rfl (decide_eq_true aq) rr) (KN (.bool true) rr (KT rfl rfl rr) (Lj (pt p1 1) 5 true 42 Li (KU (n:=1) rfl af Tryz.underlying29 rfl (by kernel_rfl) (by decide) rfl rr) (Lj (iv (a.H)) 5 true 42 Li (KY rfl rfl Tryz.underlying3 ae rfl rfl rr) (Lj (pt ab 1) 5 true 42 Li (KU (n:=1) rfl ah Tryz.underlying29 rfl (by kernel_rfl) (by decide) rfl rr) (Lj (iv (b.H)) 5 true 42 Li (KY rfl rfl Tryz.underlying3 ac rfl rfl rr) (Lj (.bool true) 5 true 42 Li (MA rfl rfl rfl (decide_eq_true aB) rr) ?_)))))))))))
     refine KN (.bool true) rr (LB rfl rfl rfl rr) (KN (.bool true) rr (KT rfl rfl rr) (Lj (.bool false) 12 true 49 Li (KT rfl aQ rr) (KN (.bool false) rr (LB rfl rfl rfl rr) (Lb (.bool false) LE (KQ ?_)))))
     have aR:=K4 (.bool false)
     refine KK (Le ?_)
     exact LC (v:=.bool false) aj rfl rfl aR ⟨(by first|rw[QF (by assumption)]|rw[QD (by assumption)]|rw[Qz (by assumption)]|rw[QG (by assumption)]|rw[QJ (by assumption) (by assumption) (by assumption) (by assumption)]),ai⟩
    ·skip
     refine KL (KN (pt p1 0) rr (KU (n:=1) rfl af Tryz.underlying29 rfl (by kernel_rfl) (by decide) rfl rr) (KN (iv (a.W)) rr (KY rfl rfl Tryz.underlying3 ae rfl rfl rr) (KN (pt ab 0) rr (KU (n:=1) rfl ah Tryz.underlying29 rfl (by kernel_rfl) (by decide) rfl rr) (KN (iv (b.W)) rr (KY rfl rfl Tryz.underlying3 ac rfl rfl rr) (KN (.bool true) rr (MA rfl rfl rfl (decide_eq_true aq) rr) (KN (.bool true) rr (KT rfl rfl rr) (Lj (pt p1 1) 5 true 42 Li (KU (n:=1) rfl af Tryz.underlying29 rfl (by kernel_rfl) (by decide) rfl rr) (Lj (iv (a.H)) 5 true 42 Li (KY rfl rfl Tryz.underlying3 ae rfl rfl rr) (Lj (pt ab 1) 5 true 42 Li (KU (n:=1) rfl ah Tryz.underlying29 rfl (by kernel_rfl) (by decide) rfl rr) (Lj (iv (b.H)) 5 true 42 Li (KY rfl rfl Tryz.underlying3 ac rfl rfl rr) (Lj (.bool false) 5 true 42 Li (MA rfl rfl rfl (decide_eq_false aB) rr) ?_)))))))))))
     refine KN (.bool false) rr (LB rfl rfl rfl rr) (KN (.bool false) rr (KT rfl rfl rr) (Lq 12 true 49 Li (KN (.bool false) rr (Lt rfl rfl rfl rr) (Lb (.bool false) LE (KQ ?_)))))
     have aS:=K4 (.bool false)
     refine KK (Le ?_)
     exact LC (v:=.bool false) aj rfl rfl aS ⟨(by first|rw[QF (by assumption)]|rw[QD (by assumption)]|rw[Qz (by assumption)]|rw[QG (by assumption)]|rw[QJ (by assumption) (by assumption) (by assumption) (by assumption)]),ai⟩
   ·skip
    refine KL (KN (pt p1 0) rr (KU (n:=1) rfl af Tryz.underlying29 rfl (by kernel_rfl) (by decide) rfl rr) (KN (iv (a.W)) rr (KY rfl rfl Tryz.underlying3 ae rfl rfl rr) (KN (pt ab 0) rr (KU (n:=1) rfl ah Tryz.underlying29 rfl (by kernel_rfl) (by decide) rfl rr) (KN (iv (b.W)) rr (KY rfl rfl Tryz.underlying3 ac rfl rfl rr) (KN (.bool false) rr (MA rfl rfl rfl (decide_eq_false aq) rr) (KN (.bool false) rr (KT rfl rfl rr) (Lq 5 true 42 Li (Lq 5 true 42 Li (Lq 5 true 42 Li (Lq 5 true 42 Li (Lq 5 true 42 Li ?_)))))))))))
    refine KN (.bool false) rr (Lt rfl rfl rfl rr) (KN (.bool false) rr (KT rfl rfl rr) (Lq 12 true 49 Li (KN (.bool false) rr (Lt rfl rfl rfl rr) (Lb (.bool false) LE (KQ ?_)))))
    have aT:=K4 (.bool false)
    refine KK (Le ?_)
    exact LC (v:=.bool false) aj rfl rfl aT ⟨(by first|rw[QF (by assumption)]|rw[QD (by assumption)]|rw[Qz (by assumption)]|rw[QG (by assumption)]|rw[QJ (by assumption) (by assumption) (by assumption) (by assumption)]),ai⟩
 ·skip
  refine KL (KN (pt p1 2) rr (KU (n:=3) rfl af Tryz.underlying29 rfl (by kernel_rfl) (by decide) rfl rr) (KN (pt p1 2) rr (L3 0 (s:=1) rfl rfl rfl (by omega) Tryz.underlying27 (by omega) (by kernel_rfl) (by omega) rr) (KN a0 rr (KY rfl rfl Tryz.underlying26 ae rfl rfl rr) (KN (.string (Mx (a.p0))) rr (Qp rfl (OK rfl am) rr) (KN (pt ab 2) rr (KU (n:=3) rfl ah Tryz.underlying29 rfl (by kernel_rfl) (by decide) rfl rr) (KN (pt ab 2) rr (L3 0 (s:=1) rfl rfl rfl (by omega) Tryz.underlying27 (by omega) (by kernel_rfl) (by omega) rr) (KN b0 rr (KY rfl rfl Tryz.underlying26 ac rfl rfl rr) (KN (.string (Mx (b.p0))) rr (Qp rfl (OK rfl an) rr) (KN (.bool false) rr (Vb rfl rfl rfl ak rr) (KN (.bool false) rr (KT rfl rfl rr) (Lq 9 true 15 Li ?_)))))))))))
  refine Lq 9 true 15 Li (Lq 9 true 15 Li (Lq 9 true 15 Li (Lq 9 true 15 Li (Lq 9 true 15 Li (Lq 9 true 15 Li (Lq 9 true 15 Li (Lq 9 true 15 Li (KN (.bool false) rr (Lt rfl rfl rfl rr) (KN (.bool false) rr (KT rfl rfl rr) (Lq 20 true 26 Li (Lq 20 true 26 Li ?_)))))))))))
  refine Lq 20 true 26 Li (Lq 20 true 26 Li (Lq 20 true 26 Li (Lq 20 true 26 Li (Lq 20 true 26 Li (Lq 20 true 26 Li (Lq 20 true 26 Li (KN (.bool false) rr (Lt rfl rfl rfl rr) (Lb (.bool false) LE (KQ ?_)))))))))
  have aU:=K4 (.bool false)
  refine KK (KM ?_)
  by_cases ar:(a.W)=(b.W)
  ·skip
   by_cases aC:(a.H)=(b.H)
   ·skip
    refine KL (KN (pt p1 0) rr (KU (n:=1) rfl af Tryz.underlying29 rfl (by kernel_rfl) (by decide) rfl rr) (KN (iv (a.W)) rr (KY rfl rfl Tryz.underlying3 ae rfl rfl rr) (KN (pt ab 0) rr (KU (n:=1) rfl ah Tryz.underlying29 rfl (by kernel_rfl) (by decide) rfl rr) (KN (iv (b.W)) rr (KY rfl rfl Tryz.underlying3 ac rfl rfl rr) (KN (.bool true) rr (MA rfl rfl rfl (decide_eq_true ar) rr) (KN (.bool true) rr (KT rfl rfl rr) (Lj (pt p1 1) 5 true 42 Li (KU (n:=1) rfl af Tryz.underlying29 rfl (by kernel_rfl) (by decide) rfl rr) (Lj (iv (a.H)) 5 true 42 Li (KY rfl rfl Tryz.underlying3 ae rfl rfl rr) (Lj (pt ab 1) 5 true 42 Li (KU (n:=1) rfl ah Tryz.underlying29 rfl (by kernel_rfl) (by decide) rfl rr) (Lj (iv (b.H)) 5 true 42 Li (KY rfl rfl Tryz.underlying3 ac rfl rfl rr) (Lj (.bool true) 5 true 42 Li (MA rfl rfl rfl (decide_eq_true aC) rr) ?_)))))))))))
    refine KN (.bool true) rr (LB rfl rfl rfl rr) (KN (.bool true) rr (KT rfl rfl rr) (Lj (.bool false) 12 true 49 Li (KT rfl aU rr) (KN (.bool false) rr (LB rfl rfl rfl rr) (Lb (.bool false) LE (KQ ?_)))))
    have aV:=K4 (.bool false)
    refine KK (Le ?_)
    exact LC (v:=.bool false) aj rfl rfl aV ⟨(by first|rw[QF (by assumption)]|rw[QD (by assumption)]|rw[Qz (by assumption)]|rw[QG (by assumption)]|rw[QJ (by assumption) (by assumption) (by assumption) (by assumption)]),ai⟩
   ·skip
    refine KL (KN (pt p1 0) rr (KU (n:=1) rfl af Tryz.underlying29 rfl (by kernel_rfl) (by decide) rfl rr) (KN (iv (a.W)) rr (KY rfl rfl Tryz.underlying3 ae rfl rfl rr) (KN (pt ab 0) rr (KU (n:=1) rfl ah Tryz.underlying29 rfl (by kernel_rfl) (by decide) rfl rr) (KN (iv (b.W)) rr (KY rfl rfl Tryz.underlying3 ac rfl rfl rr) (KN (.bool true) rr (MA rfl rfl rfl (decide_eq_true ar) rr) (KN (.bool true) rr (KT rfl rfl rr) (Lj (pt p1 1) 5 true 42 Li (KU (n:=1) rfl af Tryz.underlying29 rfl (by kernel_rfl) (by decide) rfl rr) (Lj (iv (a.H)) 5 true 42 Li (KY rfl rfl Tryz.underlying3 ae rfl rfl rr) (Lj (pt ab 1) 5 true 42 Li (KU (n:=1) rfl ah Tryz.underlying29 rfl (by kernel_rfl) (by decide) rfl rr) (Lj (iv (b.H)) 5 true 42 Li (KY rfl rfl Tryz.underlying3 ac rfl rfl rr) (Lj (.bool false) 5 true 42 Li (MA rfl rfl rfl (decide_eq_false aC) rr) ?_)))))))))))
    refine KN (.bool false) rr (LB rfl rfl rfl rr) (KN (.bool false) rr (KT rfl rfl rr) (Lq 12 true 49 Li (KN (.bool false) rr (Lt rfl rfl rfl rr) (Lb (.bool false) LE (KQ ?_)))))
    have aW:=K4 (.bool false)
    refine KK (Le ?_)
    exact LC (v:=.bool false) aj rfl rfl aW ⟨(by first|rw[QF (by assumption)]|rw[QD (by assumption)]|rw[Qz (by assumption)]|rw[QG (by assumption)]|rw[QJ (by assumption) (by assumption) (by assumption) (by assumption)]),ai⟩
  ·skip
   refine KL (KN (pt p1 0) rr (KU (n:=1) rfl af Tryz.underlying29 rfl (by kernel_rfl) (by decide) rfl rr) (KN (iv (a.W)) rr (KY rfl rfl Tryz.underlying3 ae rfl rfl rr) (KN (pt ab 0) rr (KU (n:=1) rfl ah Tryz.underlying29 rfl (by kernel_rfl) (by decide) rfl rr) (KN (iv (b.W)) rr (KY rfl rfl Tryz.underlying3 ac rfl rfl rr) (KN (.bool false) rr (MA rfl rfl rfl (decide_eq_false ar) rr) (KN (.bool false) rr (KT rfl rfl rr) (Lq 5 true 42 Li (Lq 5 true 42 Li (Lq 5 true 42 Li (Lq 5 true 42 Li (Lq 5 true 42 Li ?_)))))))))))
   refine KN (.bool false) rr (Lt rfl rfl rfl rr) (KN (.bool false) rr (KT rfl rfl rr) (Lq 12 true 49 Li (KN (.bool false) rr (Lt rfl rfl rfl rr) (Lb (.bool false) LE (KQ ?_)))))
   have aX:=K4 (.bool false)
   refine KK (Le ?_)
   exact LC (v:=.bool false) aj rfl rfl aX ⟨(by first|rw[QF (by assumption)]|rw[QD (by assumption)]|rw[Qz (by assumption)]|rw[QG (by assumption)]|rw[QJ (by assumption) (by assumption) (by assumption) (by assumption)]),ai⟩
open Go.RowKit
theorem OY{P:Program}{ρ:Operand->Value}{o:Oper}{w:World}{R:Value->World->Prop}{t:TypeId}{n:Nat}{vs:List Value}(ho:o.op = .alloc t)(hi:(P.info? t).map (fun i=>(i.zero,i.size))=some (some (.agg vs.toArray),n))(h:R (.pointer (some ⟨w.heap.size,0,none⟩)) (w.alloc (.cells vs.toArray t))):Lg P ρ o w R :=
 OJ (v:=.pointer (some ⟨w.heap.size,0,none⟩)) (w':=w.alloc (.cells vs.toArray t)) (by simp[execOp,ho,(zero_of_info hi).1,go_sem]) h
theorem TI(n:Nat):IntKind.u8.wrap ((n:Nat):Int)=((n%256:Nat):Int):=by
 unfold IntKind.wrap;simp[IntKind.signed,IntKind.bits]
theorem WJ{n:Nat}(h:n<256):IntKind.u8.wrap ((n:Nat):Int)=((n:Nat):Int):=by rw[TI,Nat.mod_eq_of_lt h]
theorem azi(w h:Nat)(v:Value)(l:List Nat)(T_b:Nat->Prop)(w0:World)(hw:w<256)(hh:h<256)(h_b:Mv w0 T_b v (l)) :
  Calls Tryz.prog 20 #[.int .u8 (((w:Nat):Int)),.int .u8 (((h:Nat):Int)),v] w0 fun e w'=>∃ (v1:Value) (T1:Nat->Prop) (v2:Value) (T2:Nat->Prop) (v3:Value) (T3:Nat->Prop),e = .returned (.agg #[.int .i64 ((LP w h l).W),.int .i64 ((LP w h l).H),v1,v2,v3])/\KR (fun _=>False) w0 w'/\(Md w' T1 v1 ((LP w h l).p0)/\KS w0 Mb T1)/\(Md w' T2 v2 ((LP w h l).p1)/\KS w0 Mb T2)/\(Md w' T3 v3 ((LP w h l).p2)/\KS w0 Mb T3)/\KO T1 T2/\KO T1 T3/\KO T2 T3:=by
 refine Ly (args:=[.int .u8 ((w:Nat):Int),.int .u8 ((h:Nat):Int),v]) 72 Tryz.func20 rfl rfl (Nat.le_of_ble_eq_true rfl) ?_
 have K0:=KR.refl (fun _=>False) w0
 obtain⟨A,hA⟩:∃ A,A=sd w:=⟨_,rfl⟩
 obtain⟨B,hB⟩:∃ B,B=sd h:=⟨_,rfl⟩
 obtain⟨N,hN⟩:∃ N,N=A*B:=⟨_,rfl⟩
 have hF:LP w h l=⟨(A:Nat),(B:Nat),SA l 0 N,SA l 1 (N/4),SA l 2 (N/4)⟩:=by rw[hN,hA,hB];rfl
 have iN:A=8*(1+w%3):=hA
 have hB2:B=8*(1+h%3):=hB
 have iO:N<=24*24:=by rw[hN];exact Nat.mul_le_mul (by omega) (by omega)
 have g_b:=KS.refl w0 T_b
 refine KM (KL (LN (n:=5) (vs:=[iv 0,iv 0,.slice none 0 0,.slice none 0 0,.slice none 0 0]) rfl rfl rfl (by kernel_rfl) fun p1 w2 B4 g5 k3=>?_))
 have B8:=h_b.all k3 KO.none
 have K9:=K0.tr k3
 refine KQ ?_
 have ee:=K4 (.int .u8 ((w:Nat):Int))
 have eh:=K4 (.int .u8 ((h:Nat):Int))
 have ei:=K4 (v)
 have en:=K4 (undef)
 have eo:=K4 (pt p1 0)
 refine KK (KM (KL (K2 Lw ee (KN (iv ((w:Nat):Int)) rr (N1 rfl rfl Tryz.underlying5 Tryz.underlying3 (Mn rfl (by omega)) rr) (KN (iv (((w%3):Nat):Int)) rr (Rh rfl rfl rfl (by first|decide|omega) (Pn w 3) rr) (KN (iv ((1+(w%3):Nat):Int)) rr (LS rfl rfl rfl (LX (by omega) (by omega)) rr) (KN (iv ((A:Nat):Int)) rr (Nb rfl rfl rfl (LX (by omega) (by omega)) rr) (K2 Lw eh (KN (iv ((h:Nat):Int)) rr (N1 rfl rfl Tryz.underlying5 Tryz.underlying3 (Mn rfl (by omega)) rr) (KN (iv (((h%3):Nat):Int)) rr (Rh rfl rfl rfl (by first|decide|omega) (Pn h 3) rr) (KN (iv ((1+(h%3):Nat):Int)) rr (LS rfl rfl rfl (LX (by omega) (by omega)) rr) ?_)))))))))))
 refine KN (iv ((B:Nat):Int)) rr (Nb rfl rfl rfl (LX (by omega) (by omega)) rr) (KN (.agg #[iv ((A:Nat):Int),iv ((B:Nat):Int),.slice none 0 0,.slice none 0 0,.slice none 0 0]) rr (Ma (l':=[(0,iv ((A:Nat):Int)),(1,iv ((B:Nat):Int))]) (cells:=#[iv ((A:Nat):Int),iv ((B:Nat):Int),.slice none 0 0,.slice none 0 0,.slice none 0 0]) rfl (RW rfl (RW rfl Rj)) (by kernel_rfl) rfl rr) (LN (n:=5) (vs:=[iv 0,iv 0,.slice none 0 0,.slice none 0 0,.slice none 0 0]) rfl rfl rfl (by kernel_rfl) fun aa iQ ep cn co=>?_))
 have ak:=KS.new K9 cn
 obtain⟨am,an⟩:=UJ cn B8 B4
 obtain⟨er,et⟩:=Oe co B8 B4
 refine Ll (us:=[iv ((A:Nat):Int),iv ((B:Nat):Int),.slice none 0 0,.slice none 0 0,.slice none 0 0]) La rfl rfl rfl rfl rfl ep rfl (Yq LE (L4 rfl MX)) fun iR bv bz=>?_
 have eu:=er.all bz am.symm
 have ew:=et.all bz (an.symm p1 rfl)
 refine KQ ?_
 have bA:=K4 (pt aa 0)
 refine KK (KM (KM (KL (Lb (iv 0) LE (KQ ?_)))))
 have bB:=K4 (iv 0)
 refine KK (Lm (OL 4 (Mh (KM (KM (KL (K2 Lw bB (KN (.bool true) rr (Mc rfl rfl rfl rfl rr) (KQ ?_)))))))))
 have ex:=K4 (.bool true)
 refine KK ?_
 refine K5 (t:=true) ex (fun _=>?_) (fun e=>by cases e)
 refine Lf (KK (KM (Lm (KM (KL (KN (pt aa 0) rr (KU (n:=1) rfl bA Tryz.underlying29 rfl (by kernel_rfl) (by decide) rfl rr) (KN (iv ((A:Nat):Int)) rr (KY rfl rfl Tryz.underlying3 bv rfl rfl rr) (KN (pt aa 1) rr (KU (n:=1) rfl bA Tryz.underlying29 rfl (by kernel_rfl) (by decide) rfl rr) (KN (iv ((B:Nat):Int)) rr (KY rfl rfl Tryz.underlying3 bv rfl rfl rr) (KN (iv ((N:Nat):Int)) rr (Nb rfl rfl rfl (LX (by rw[hN,Int.natCast_mul]) (by omega)) rr) (Lb (iv ((N:Nat):Int)) LE ?_)))))))))))
 refine KQ ?_
 have ey:=K4 (iv ((N:Nat):Int))
 refine KK (KM (KM (KL (K2 Lw bB (KN (.bool false) rr (RN rfl rfl rfl rfl rr) (PQ fun cq bC=>?_))))))
 obtain⟨ez,eA,eB,eC,eD,eE⟩:=t6 bC 2 ei 72 en 6 eo 7 bA 8 bB 9 ey
 have eF:cq 33 = .bool false:=(bC 33).trans rfl
 clear bC
 refine KK ?_
 refine K5 (t:=false) eF (fun e=>by cases e) (fun _=>?_)
 refine Lf (KK (KM ?_))
 have hpn:=aCN N 0
 have eG:cq 9=iv (((pn N 0):Nat):Int):=eE.trans (congrArg (Value.int .i64) rfl)
 refine KL (Lb (iv 0) LE (KQ ?_))
 have eH:=K4 (iv 0)
 refine KK (Lm (M8 (fun nn FF ww=>∃ (i:Nat),∃ (q0:Value),∃ (ac:Nat->Prop),(i<=(pn N 0))/\nn=(pn N 0)-i/\FF 2=v/\FF 6=pt p1 0/\FF 7=pt aa 0/\FF 8=iv 0/\FF 9=iv (((pn N 0):Nat):Int)/\FF 72=undef/\FF 10=iv ((i:Nat):Int)/\KR (fun _=>False) w0 ww/\Mv ww T_b v l/\MJ ww p1 29 [iv 0,iv 0,.slice none 0 0,.slice none 0 0,.slice none 0 0]/\MJ ww aa 29 [iv ((A:Nat):Int),iv ((B:Nat):Int),q0,.slice none 0 0,.slice none 0 0]/\Md ww ac q0 (SA l 0 i)/\KS w0 Mb ac/\KO ac T_b/\KO ac (Lh p1)/\KO ac (Lh aa)) ((pn N 0)-0) ⟨0,(.slice none 0 0),Mb,by omega,rfl,ez,eB,eC,eD,eG,eA,eH,((K9.tr co).trans bz (KS.ok (S:=fun _=>False) ak KZ)),eu,ew,bv,(Md.nil _),(KS.refl _ _),KO.none.symm,KO.none.symm,KO.none.symm⟩ ?_))
 rintro iT iU iV ⟨i,q0,ac,i87,hn86,bD,cr,a8,ct,cu,cv,bE,bF,ah,bG,ao,bH,aG,a9,aH,ai⟩
 refine KM (KM (KL (K2 Lw bE (K2 Lw cu (KN (.bool (decide (((i:Nat):Int)<(((pn N 0):Nat):Int)))) rr (Mc rfl rfl rfl rfl rr) (KQ ?_))))))
 have eI:=K4 (.bool (decide (((i:Nat):Int)<(((pn N 0):Nat):Int))))
 refine KK ?_
 refine K5 eI (fun aI=>?_) (fun aI=>?_)
 ·replace aI:=of_decide_eq_true aI
  refine Lf (KK (KM (Lm (KM (KL (K2 Lw bE (KN (iv ((i*3:Nat):Int)) rr (Nb rfl rfl rfl (LX (by omega) (by omega)) rr) (KN (.int .u8 (((i*3%256):Nat):Int)) rr (N1 rfl rfl Tryz.underlying3 Tryz.underlying5 (TI (i*3)) rr) (Lb (.int .u8 (((i*3%256):Nat):Int)) LE (KQ ?_))))))))))
  have eJ:=K4 (.int .u8 (((i*3%256):Nat):Int))
  refine KK (KM (KM (KL (K2 Lw bD (KN (iv ((l.length:Nat):Int)) rr (Qv rfl rfl rfl ah rr) (KN (.bool (decide (0<((l.length:Nat):Int)))) rr (RN rfl rfl rfl rfl rr) (PQ fun cw bI=>?_)))))))
  obtain⟨ba,cy,aw,ap,cz,cA,bb,eK⟩:=t8 bI 2 bD 6 cr 7 a8 8 ct 9 cu 72 cv 10 bE 11 eJ
  have eL:cw 46 = .bool (decide (0<((l.length:Nat):Int))):=(bI 46).trans rfl
  clear bI
  refine KK ?_
  refine K5 eL (fun aJ=>?_) (fun aJ=>?_)
  ·replace aJ:=of_decide_eq_true aJ
   refine KL (K2 Lw ba (K2 Lw bb (K2 Lw ap (KN (iv ((0:Nat):Int)) rr (Nb rfl rfl rfl (LX (by omega) (by omega)) rr) (KN (iv ((i+0:Nat):Int)) rr (LS rfl rfl rfl (LX (by omega) (by omega)) rr) (K2 Lw ba (KN (iv ((l.length:Nat):Int)) rr (Qv rfl rfl rfl ah rr) (KN (iv ((((i+7*0)%l.length):Nat):Int)) rr (Rh rfl rfl rfl (by first|decide|omega) (Pn (i+7*0) l.length) rr) (KN (NC v ((i+7*0)%l.length)) rr (azC ((i+7*0)%l.length) rfl rfl rfl (by omega) ah (Nat.mod_lt _ (by omega)) rr) ?_)))))))))
   have iW:=Rk ah.lt256 ((i+7*0)%l.length)
   refine KN (.int .u8 ((l.getD ((i+7*0)%l.length) 0:Nat):Int)) rr (azW rfl rfl ah (Nat.mod_lt _ (by omega)) rr) (K2 Lw bb (KN (iv (((i/16):Nat):Int)) rr (O8 rfl rfl rfl (by first|decide|omega) (LX (Pl i 16) (by omega)) rr) (KN (.int .u8 (((i/16):Nat):Int)) rr (N1 rfl rfl Tryz.underlying3 Tryz.underlying5 (WJ (by omega)) rr) (KN (.int .u8 ((VW l 0 i:Nat):Int)) rr (LS rfl rfl rfl (by rw[Wm (by omega)];exact TI _) rr) (Lb (.int .u8 ((VW l 0 i:Nat):Int)) LE (KQ ?_))))))
   have eM:=K4 (.int .u8 ((VW l 0 i:Nat):Int))
   refine KK ?_
   have hsm:=TX l 0 i
   have hsl:=N9 l 0 i
   refine KL (K2 Lw ap (K2 Lw ap (KN (pt aa 2) rr (KU (n:=3) rfl aw Tryz.underlying29 rfl (by kernel_rfl) (by decide) rfl rr) (KN (pt aa 2) rr (L3 0 (s:=1) rfl rfl rfl (by omega) Tryz.underlying27 (by omega) (by kernel_rfl) (by omega) rr) (KN q0 rr (KY rfl rfl Tryz.underlying26 ao rfl rfl rr) (K2 Lw eM (O0 (n:=VW l 0 i) rfl rfl rfl rfl (by omega) (by omega) fun iX iY iZ eN ja cC=>?_)))))))
   obtain⟨cD,cE,cF,eO⟩:=Pg cC ah bG ao bH
   have cG:=bF.tr cC
   refine OR rfl rfl rfl rfl rfl rfl eO eN.byt (by first|omega|(simp;done)|(simp;omega)) fun cH jb eP cI cJ bc=>?_
   obtain⟨eQ,eR,cK⟩:=aCy cJ a9 cD aH cE ai cF
   have eS:=cD.all bc a9.symm
   have eT:=cE.all bc (aH.symm p1 rfl)
   have eU:=cF.all bc (ai.symm aa rfl)
   refine KN (pt aa 2) rr (KU (n:=3) rfl aw Tryz.underlying29 rfl (by kernel_rfl) (by decide) rfl rr) (KN (pt aa 2) rr (L3 0 (s:=1) rfl rfl rfl (by omega) Tryz.underlying27 (by omega) (by kernel_rfl) (by omega) rr) (Nx rfl rfl rfl rfl rfl eU rfl cI.oneC (by kernel_rfl) fun eV bJ bd=>?_))
   replace bJ:MJ eV aa 29 [iv ((A:Nat):Int),iv ((B:Nat):Int),cH,.slice none 0 0,.slice none 0 0]:=bJ
   have eW:=eS.all bd am.symm
   have eX:=eT.all bd (an.symm p1 rfl)
   have eY:=cI.all bd cK
   refine KQ ?_
   refine Lz (KK (KL (K2 Lw bb (KN (iv ((i+1:Nat):Int)) rr (LS rfl rfl rfl (LX (by omega) (by omega)) rr) (Lb (iv ((i+1:Nat):Int)) LE (KQ ?_))))))
   have eZ:=K4 (iv ((i+1:Nat):Int))
   exact KK ⟨((pn N 0)-(i+1)),by omega,i+1,cH,eP,by omega,rfl,ba,cy,aw,ap,cz,cA,eZ,((cG.trans bc (KS.ok (S:=fun _=>False) aG KZ)).trans bd (KS.ok (S:=fun _=>False) ak KZ)),eW,eX,bJ,(by rw[QP];exact eY),(KS.trans aG cG cJ),eQ,eR,cK⟩
  ·replace aJ:=of_decide_eq_false aJ
   refine Lf (KK ?_)
   have hsm:=TX l 0 i
   have hsl:=N9 l 0 i
   have e6:cw 11 = .int .u8 ((VW l 0 i:Nat):Int):=eK.trans (congrArg (Value.int .u8) (by rw[Wa (by omega)]))
   refine KL (K2 Lw ap (K2 Lw ap (KN (pt aa 2) rr (KU (n:=3) rfl aw Tryz.underlying29 rfl (by kernel_rfl) (by decide) rfl rr) (KN (pt aa 2) rr (L3 0 (s:=1) rfl rfl rfl (by omega) Tryz.underlying27 (by omega) (by kernel_rfl) (by omega) rr) (KN q0 rr (KY rfl rfl Tryz.underlying26 ao rfl rfl rr) (K2 Lw e6 (O0 (n:=VW l 0 i) rfl rfl rfl rfl (by omega) (by omega) fun jc jd je e7 jf cL=>?_)))))))
   obtain⟨cM,cN,cO,e8⟩:=Pg cL ah bG ao bH
   have cP:=bF.tr cL
   refine OR rfl rfl rfl rfl rfl rfl e8 e7.byt (by first|omega|(simp;done)|(simp;omega)) fun cQ jg e9 cR cS be=>?_
   obtain⟨fa,fb,cT⟩:=aCy cS a9 cM aH cN ai cO
   have fc:=cM.all be a9.symm
   have fd:=cN.all be (aH.symm p1 rfl)
   have fe:=cO.all be (ai.symm aa rfl)
   refine KN (pt aa 2) rr (KU (n:=3) rfl aw Tryz.underlying29 rfl (by kernel_rfl) (by decide) rfl rr) (KN (pt aa 2) rr (L3 0 (s:=1) rfl rfl rfl (by omega) Tryz.underlying27 (by omega) (by kernel_rfl) (by omega) rr) (Nx rfl rfl rfl rfl rfl fe rfl cR.oneC (by kernel_rfl) fun ff bK bf=>?_))
   replace bK:MJ ff aa 29 [iv ((A:Nat):Int),iv ((B:Nat):Int),cQ,.slice none 0 0,.slice none 0 0]:=bK
   have fg:=fc.all bf am.symm
   have fh:=fd.all bf (an.symm p1 rfl)
   have fi:=cR.all bf cT
   refine KQ ?_
   refine Lz (KK (KL (K2 Lw bb (KN (iv ((i+1:Nat):Int)) rr (LS rfl rfl rfl (LX (by omega) (by omega)) rr) (Lb (iv ((i+1:Nat):Int)) LE (KQ ?_))))))
   have fj:=K4 (iv ((i+1:Nat):Int))
   exact KK ⟨((pn N 0)-(i+1)),by omega,i+1,cQ,e9,by omega,rfl,ba,cy,aw,ap,cz,cA,fj,((cP.trans be (KS.ok (S:=fun _=>False) aG KZ)).trans bf (KS.ok (S:=fun _=>False) ak KZ)),fg,fh,bK,(by rw[QP];exact fi),(KS.trans aG cP cS),fa,fb,cT⟩
 ·replace aI:=of_decide_eq_false aI
  refine Mm (Lp (Lp ?_))
  have fk:(pn N 0)=i:=by omega
  subst fk
  refine Mk (Lz (KK (KL (K2 Lw ct (KN (iv ((1:Nat):Int)) rr (LS rfl rfl rfl (LX (by omega) (by omega)) rr) (Lb (iv ((1:Nat):Int)) LE (KQ ?_)))))))
  have bL:=K4 (iv ((1:Nat):Int))
  refine KK (Mh (KM (KM (KL (K2 Lw bL (KN (.bool true) rr (Mc rfl rfl rfl rfl rr) (KQ ?_)))))))
  have fm:=K4 (.bool true)
  refine KK ?_
  refine K5 (t:=true) fm (fun _=>?_) (fun e=>by cases e)
  refine Lf (KK (KM (Lm (KM (KL (KN (pt aa 0) rr (KU (n:=1) rfl a8 Tryz.underlying29 rfl (by kernel_rfl) (by decide) rfl rr) (KN (iv ((A:Nat):Int)) rr (KY rfl rfl Tryz.underlying3 ao rfl rfl rr) (KN (pt aa 1) rr (KU (n:=1) rfl a8 Tryz.underlying29 rfl (by kernel_rfl) (by decide) rfl rr) (KN (iv ((B:Nat):Int)) rr (KY rfl rfl Tryz.underlying3 ao rfl rfl rr) (KN (iv ((N:Nat):Int)) rr (Nb rfl rfl rfl (LX (by rw[hN,Int.natCast_mul]) (by omega)) rr) (Lb (iv ((N:Nat):Int)) LE ?_)))))))))))
  refine KQ ?_
  have fo:=K4 (iv ((N:Nat):Int))
  refine KK (KM (KM (KL (K2 Lw bL (KN (.bool true) rr (RN rfl rfl rfl rfl rr) (KQ ?_))))))
  have fp:=K4 (.bool true)
  refine KK ?_
  refine K5 (t:=true) fp (fun _=>?_) (fun e=>by cases e)
  refine KL (K2 Lw fo (KN (iv (((N/4):Nat):Int)) rr (O8 rfl rfl rfl (by first|decide|omega) (LX (Pl N 4) (by omega)) rr) (Lb (iv (((N/4):Nat):Int)) LE (PQ fun cU bM=>?_))))
  obtain⟨fq,ft,fu,fw,fx⟩:=t5 bM 2 bD 6 cr 7 a8 72 cv 8 bL
  have fA:cU 9=iv (((N/4):Nat):Int):=(bM 9).trans rfl
  clear bM
  refine KK (KM ?_)
  have hpn:=aCN N 1
  have fB:cU 9=iv (((pn N 1):Nat):Int):=fA.trans (congrArg (Value.int .i64) rfl)
  refine KL (Lb (iv 0) LE (KQ ?_))
  have fC:=K4 (iv 0)
  refine KK (Lm (M8 (fun nn FF ww=>∃ (i:Nat),∃ (q1:Value),∃ (ae:Nat->Prop),(i<=(pn N 1))/\nn=(pn N 1)-i/\FF 2=v/\FF 6=pt p1 0/\FF 7=pt aa 0/\FF 8=iv ((1:Nat):Int)/\FF 9=iv (((pn N 1):Nat):Int)/\FF 72=undef/\FF 10=iv ((i:Nat):Int)/\KR (fun _=>False) w0 ww/\Mv ww T_b v l/\MJ ww p1 29 [iv 0,iv 0,.slice none 0 0,.slice none 0 0,.slice none 0 0]/\MJ ww aa 29 [iv ((A:Nat):Int),iv ((B:Nat):Int),q0,q1,.slice none 0 0]/\Md ww ac q0 (SA l 0 (pn N 0))/\Md ww ae q1 (SA l 1 i)/\KS w0 Mb ae/\KO ae T_b/\KO ae (Lh p1)/\KO ae (Lh aa)/\KO ae ac) ((pn N 1)-0) ⟨0,(.slice none 0 0),Mb,by omega,rfl,fq,ft,fu,fx,fB,fw,fC,bF,ah,bG,ao,bH,(Md.nil _),(KS.refl _ _),KO.none.symm,KO.none.symm,KO.none.symm,KO.none.symm⟩ ?_))
  rintro jh ji jj ⟨i,q1,ae,i320,hn319,bN,cV,bg,cW,cX,cY,bO,bP,aj,bQ,aq,bR,bS,aK,bh,aL,az,aM⟩
  refine KM (KM (KL (K2 Lw bO (K2 Lw cX (KN (.bool (decide (((i:Nat):Int)<(((pn N 1):Nat):Int)))) rr (Mc rfl rfl rfl rfl rr) (KQ ?_))))))
  have fD:=K4 (.bool (decide (((i:Nat):Int)<(((pn N 1):Nat):Int))))
  refine KK ?_
  refine K5 fD (fun aN=>?_) (fun aN=>?_)
  ·replace aN:=of_decide_eq_true aN
   refine Lf (KK (KM (Lm (KM (KL (K2 Lw bO (KN (iv ((i*3:Nat):Int)) rr (Nb rfl rfl rfl (LX (by omega) (by omega)) rr) (KN (.int .u8 (((i*3%256):Nat):Int)) rr (N1 rfl rfl Tryz.underlying3 Tryz.underlying5 (TI (i*3)) rr) (Lb (.int .u8 (((i*3%256):Nat):Int)) LE (KQ ?_))))))))))
   have fE:=K4 (.int .u8 (((i*3%256):Nat):Int))
   refine KK (KM (KM (KL (K2 Lw bN (KN (iv ((l.length:Nat):Int)) rr (Qv rfl rfl rfl aj rr) (KN (.bool (decide (0<((l.length:Nat):Int)))) rr (RN rfl rfl rfl rfl rr) (PQ fun cZ bT=>?_)))))))
   obtain⟨bi,c5,aA,ar,c6,c7,bj,fF⟩:=t8 bT 2 bN 6 cV 7 bg 8 cW 9 cX 72 cY 10 bO 11 fE
   have fG:cZ 46 = .bool (decide (0<((l.length:Nat):Int))):=(bT 46).trans rfl
   clear bT
   refine KK ?_
   refine K5 fG (fun aO=>?_) (fun aO=>?_)
   ·replace aO:=of_decide_eq_true aO
    refine KL (K2 Lw bi (K2 Lw bj (K2 Lw ar (KN (iv ((7:Nat):Int)) rr (Nb rfl rfl rfl (LX (by omega) (by omega)) rr) (KN (iv ((i+7:Nat):Int)) rr (LS rfl rfl rfl (LX (by omega) (by omega)) rr) (K2 Lw bi (KN (iv ((l.length:Nat):Int)) rr (Qv rfl rfl rfl aj rr) (KN (iv ((((i+7*1)%l.length):Nat):Int)) rr (Rh rfl rfl rfl (by first|decide|omega) (Pn (i+7*1) l.length) rr) (KN (NC v ((i+7*1)%l.length)) rr (azC ((i+7*1)%l.length) rfl rfl rfl (by omega) aj (Nat.mod_lt _ (by omega)) rr) ?_)))))))))
    have jk:=Rk aj.lt256 ((i+7*1)%l.length)
    refine KN (.int .u8 ((l.getD ((i+7*1)%l.length) 0:Nat):Int)) rr (azW rfl rfl aj (Nat.mod_lt _ (by omega)) rr) (K2 Lw bj (KN (iv (((i/16):Nat):Int)) rr (O8 rfl rfl rfl (by first|decide|omega) (LX (Pl i 16) (by omega)) rr) (KN (.int .u8 (((i/16):Nat):Int)) rr (N1 rfl rfl Tryz.underlying3 Tryz.underlying5 (WJ (by omega)) rr) (KN (.int .u8 ((VW l 1 i:Nat):Int)) rr (LS rfl rfl rfl (by rw[Wm (by omega)];exact TI _) rr) (Lb (.int .u8 ((VW l 1 i:Nat):Int)) LE (KQ ?_))))))
    have fH:=K4 (.int .u8 ((VW l 1 i:Nat):Int))
    refine KK ?_
    have hsm:=TX l 1 i
    have hsl:=N9 l 1 i
    refine KL (K2 Lw ar (K2 Lw ar (KN (pt aa 2) rr (KU (n:=3) rfl aA Tryz.underlying29 rfl (by kernel_rfl) (by decide) rfl rr) (KN (pt aa 3) rr (L3 1 (s:=1) rfl rfl rfl (by omega) Tryz.underlying27 (by omega) (by kernel_rfl) (by omega) rr) (KN q1 rr (KY rfl rfl Tryz.underlying26 aq rfl rfl rr) (K2 Lw fH (O0 (n:=VW l 1 i) rfl rfl rfl rfl (by omega) (by omega) fun jl jm jn fI jo c9=>?_)))))))
    obtain⟨da,db,dc,dd,fJ⟩:=O6 c9 aj bQ aq bR bS
    have de:=bP.tr c9
    refine OR rfl rfl rfl rfl rfl rfl fJ fI.byt (by first|omega|(simp;done)|(simp;omega)) fun df jp fK dg dh aP=>?_
    obtain⟨fL,fM,di,fN⟩:=aFz dh bh da aL db az dc aM dd
    have fO:=da.all aP bh.symm
    have fP:=db.all aP (aL.symm p1 rfl)
    have fQ:=dc.all aP (az.symm aa rfl)
    have fR:=dd.all aP aM.symm
    refine KN (pt aa 2) rr (KU (n:=3) rfl aA Tryz.underlying29 rfl (by kernel_rfl) (by decide) rfl rr) (KN (pt aa 3) rr (L3 1 (s:=1) rfl rfl rfl (by omega) Tryz.underlying27 (by omega) (by kernel_rfl) (by omega) rr) (Nx rfl rfl rfl rfl rfl fQ rfl dg.oneC (by kernel_rfl) fun fS bU aQ=>?_))
    replace bU:MJ fS aa 29 [iv ((A:Nat):Int),iv ((B:Nat):Int),q0,df,.slice none 0 0]:=bU
    have fT:=fO.all aQ am.symm
    have fU:=fP.all aQ (an.symm p1 rfl)
    have fV:=fR.all aQ ai
    have fW:=dg.all aQ di
    refine KQ ?_
    refine Lz (KK (KL (K2 Lw bj (KN (iv ((i+1:Nat):Int)) rr (LS rfl rfl rfl (LX (by omega) (by omega)) rr) (Lb (iv ((i+1:Nat):Int)) LE (KQ ?_))))))
    have fX:=K4 (iv ((i+1:Nat):Int))
    exact KK ⟨((pn N 1)-(i+1)),by omega,i+1,df,fK,by omega,rfl,bi,c5,aA,ar,c6,c7,fX,((de.trans aP (KS.ok (S:=fun _=>False) aK KZ)).trans aQ (KS.ok (S:=fun _=>False) ak KZ)),fT,fU,bU,fV,(by rw[QP];exact fW),(KS.trans aK de dh),fL,fM,di,fN⟩
   ·replace aO:=of_decide_eq_false aO
    refine Lf (KK ?_)
    have hsm:=TX l 1 i
    have hsl:=N9 l 1 i
    have fY:cZ 11 = .int .u8 ((VW l 1 i:Nat):Int):=fF.trans (congrArg (Value.int .u8) (by rw[Wa (by omega)]))
    refine KL (K2 Lw ar (K2 Lw ar (KN (pt aa 2) rr (KU (n:=3) rfl aA Tryz.underlying29 rfl (by kernel_rfl) (by decide) rfl rr) (KN (pt aa 3) rr (L3 1 (s:=1) rfl rfl rfl (by omega) Tryz.underlying27 (by omega) (by kernel_rfl) (by omega) rr) (KN q1 rr (KY rfl rfl Tryz.underlying26 aq rfl rfl rr) (K2 Lw fY (O0 (n:=VW l 1 i) rfl rfl rfl rfl (by omega) (by omega) fun jq jr js fZ jt dj=>?_)))))))
    obtain⟨dk,dl,dm,dn,f5⟩:=O6 dj aj bQ aq bR bS
    have dp:=bP.tr dj
    refine OR rfl rfl rfl rfl rfl rfl f5 fZ.byt (by first|omega|(simp;done)|(simp;omega)) fun dq ju f7 dr dt aR=>?_
    obtain⟨f8,f9,du,ga⟩:=aFz dt bh dk aL dl az dm aM dn
    have gb:=dk.all aR bh.symm
    have gc:=dl.all aR (aL.symm p1 rfl)
    have gd:=dm.all aR (az.symm aa rfl)
    have ge:=dn.all aR aM.symm
    refine KN (pt aa 2) rr (KU (n:=3) rfl aA Tryz.underlying29 rfl (by kernel_rfl) (by decide) rfl rr) (KN (pt aa 3) rr (L3 1 (s:=1) rfl rfl rfl (by omega) Tryz.underlying27 (by omega) (by kernel_rfl) (by omega) rr) (Nx rfl rfl rfl rfl rfl gd rfl dr.oneC (by kernel_rfl) fun gh bV aS=>?_))
    replace bV:MJ gh aa 29 [iv ((A:Nat):Int),iv ((B:Nat):Int),q0,dq,.slice none 0 0]:=bV
    have gi:=gb.all aS am.symm
    have gj:=gc.all aS (an.symm p1 rfl)
    have gl:=ge.all aS ai
    have gm:=dr.all aS du
    refine KQ ?_
    refine Lz (KK (KL (K2 Lw bj (KN (iv ((i+1:Nat):Int)) rr (LS rfl rfl rfl (LX (by omega) (by omega)) rr) (Lb (iv ((i+1:Nat):Int)) LE (KQ ?_))))))
    have gn:=K4 (iv ((i+1:Nat):Int))
    exact KK ⟨((pn N 1)-(i+1)),by omega,i+1,dq,f7,by omega,rfl,bi,c5,aA,ar,c6,c7,gn,((dp.trans aR (KS.ok (S:=fun _=>False) aK KZ)).trans aS (KS.ok (S:=fun _=>False) ak KZ)),gi,gj,bV,gl,(by rw[QP];exact gm),(KS.trans aK dp dt),f8,f9,du,ga⟩
  ·replace aN:=of_decide_eq_false aN
   refine Mm (Lp (Lp ?_))
   have go:(pn N 1)=i:=by omega
   subst go
   refine Mk (Lz (KK (KL (K2 Lw cW (KN (iv ((2:Nat):Int)) rr (LS rfl rfl rfl (LX (by omega) (by omega)) rr) (Lb (iv ((2:Nat):Int)) LE (KQ ?_)))))))
   have bW:=K4 (iv ((2:Nat):Int))
   refine KK (Mh (KM (KM (KL (K2 Lw bW (KN (.bool true) rr (Mc rfl rfl rfl rfl rr) (KQ ?_)))))))
   have gp:=K4 (.bool true)
   refine KK ?_
   refine K5 (t:=true) gp (fun _=>?_) (fun e=>by cases e)
   refine Lf (KK (KM (Lm (KM (KL (KN (pt aa 0) rr (KU (n:=1) rfl bg Tryz.underlying29 rfl (by kernel_rfl) (by decide) rfl rr) (KN (iv ((A:Nat):Int)) rr (KY rfl rfl Tryz.underlying3 aq rfl rfl rr) (KN (pt aa 1) rr (KU (n:=1) rfl bg Tryz.underlying29 rfl (by kernel_rfl) (by decide) rfl rr) (KN (iv ((B:Nat):Int)) rr (KY rfl rfl Tryz.underlying3 aq rfl rfl rr) (KN (iv ((N:Nat):Int)) rr (Nb rfl rfl rfl (LX (by rw[hN,Int.natCast_mul]) (by omega)) rr) (Lb (iv ((N:Nat):Int)) LE ?_)))))))))))
   refine KQ ?_
   have gq:=K4 (iv ((N:Nat):Int))
   refine KK (KM (KM (KL (K2 Lw bW (KN (.bool true) rr (RN rfl rfl rfl rfl rr) (KQ ?_))))))
   have gr:=K4 (.bool true)
   refine KK ?_
   refine K5 (t:=true) gr (fun _=>?_) (fun e=>by cases e)
   refine KL (K2 Lw gq (KN (iv (((N/4):Nat):Int)) rr (O8 rfl rfl rfl (by first|decide|omega) (LX (Pl N 4) (by omega)) rr) (Lb (iv (((N/4):Nat):Int)) LE (PQ fun dv bX=>?_))))
   obtain⟨gt,gu,gv,gw,gz⟩:=t5 bX 2 bN 6 cV 7 bg 72 cY 8 bW
   have gA:dv 9=iv (((N/4):Nat):Int):=(bX 9).trans rfl
   clear bX
   refine KK (KM ?_)
   have hpn:=aCN N 2
   have gB:dv 9=iv (((pn N 2):Nat):Int):=gA.trans (congrArg (Value.int .i64) rfl)
   refine KL (Lb (iv 0) LE (KQ ?_))
   have gC:=K4 (iv 0)
   refine KK (Lm (M8 (fun nn FF ww=>∃ (i:Nat),∃ (q2:Value),∃ (af:Nat->Prop),(i<=(pn N 2))/\nn=(pn N 2)-i/\FF 2=v/\FF 6=pt p1 0/\FF 7=pt aa 0/\FF 8=iv ((2:Nat):Int)/\FF 9=iv (((pn N 2):Nat):Int)/\FF 72=undef/\FF 10=iv ((i:Nat):Int)/\KR (fun _=>False) w0 ww/\Mv ww T_b v l/\MJ ww p1 29 [iv 0,iv 0,.slice none 0 0,.slice none 0 0,.slice none 0 0]/\MJ ww aa 29 [iv ((A:Nat):Int),iv ((B:Nat):Int),q0,q1,q2]/\Md ww ac q0 (SA l 0 (pn N 0))/\Md ww ae q1 (SA l 1 (pn N 1))/\Md ww af q2 (SA l 2 i)/\KS w0 Mb af/\KO af T_b/\KO af (Lh p1)/\KO af (Lh aa)/\KO af ac/\KO af ae) ((pn N 2)-0) ⟨0,(.slice none 0 0),Mb,by omega,rfl,gt,gu,gv,gz,gB,gw,gC,bP,aj,bQ,aq,bR,bS,(Md.nil _),(KS.refl _ _),KO.none.symm,KO.none.symm,KO.none.symm,KO.none.symm,KO.none.symm⟩ ?_))
   rintro jv jw jx ⟨i,q2,af,i565,hn564,dw,bY,dy,dz,dA,dB,bZ,b7,au,b8,aT,bl,bm,bn,aU,bo,aV,bp,aW,aX⟩
   refine KM (KM (KL (K2 Lw bZ (K2 Lw dA (KN (.bool (decide (((i:Nat):Int)<(((pn N 2):Nat):Int)))) rr (Mc rfl rfl rfl rfl rr) (KQ ?_))))))
   have gD:=K4 (.bool (decide (((i:Nat):Int)<(((pn N 2):Nat):Int))))
   refine KK ?_
   refine K5 gD (fun aY=>?_) (fun aY=>?_)
   ·replace aY:=of_decide_eq_true aY
    refine Lf (KK (KM (Lm (KM (KL (K2 Lw bZ (KN (iv ((i*3:Nat):Int)) rr (Nb rfl rfl rfl (LX (by omega) (by omega)) rr) (KN (.int .u8 (((i*3%256):Nat):Int)) rr (N1 rfl rfl Tryz.underlying3 Tryz.underlying5 (TI (i*3)) rr) (Lb (.int .u8 (((i*3%256):Nat):Int)) LE (KQ ?_))))))))))
    have gE:=K4 (.int .u8 (((i*3%256):Nat):Int))
    refine KK (KM (KM (KL (K2 Lw dw (KN (iv ((l.length:Nat):Int)) rr (Qv rfl rfl rfl au rr) (KN (.bool (decide (0<((l.length:Nat):Int)))) rr (RN rfl rfl rfl rfl rr) (PQ fun dC b9=>?_)))))))
    obtain⟨bq,dD,aB,av,dE,dF,bt,gF⟩:=t8 b9 2 dw 6 bY 7 dy 8 dz 9 dA 72 dB 10 bZ 11 gE
    have gG:dC 46 = .bool (decide (0<((l.length:Nat):Int))):=(b9 46).trans rfl
    clear b9
    refine KK ?_
    refine K5 gG (fun aZ=>?_) (fun aZ=>?_)
    ·replace aZ:=of_decide_eq_true aZ
     refine KL (K2 Lw bq (K2 Lw bt (K2 Lw av (KN (iv ((14:Nat):Int)) rr (Nb rfl rfl rfl (LX (by omega) (by omega)) rr) (KN (iv ((i+14:Nat):Int)) rr (LS rfl rfl rfl (LX (by omega) (by omega)) rr) (K2 Lw bq (KN (iv ((l.length:Nat):Int)) rr (Qv rfl rfl rfl au rr) (KN (iv ((((i+7*2)%l.length):Nat):Int)) rr (Rh rfl rfl rfl (by first|decide|omega) (Pn (i+7*2) l.length) rr) (KN (NC v ((i+7*2)%l.length)) rr (azC ((i+7*2)%l.length) rfl rfl rfl (by omega) au (Nat.mod_lt _ (by omega)) rr) ?_)))))))))
     have jy:=Rk au.lt256 ((i+7*2)%l.length)
     refine KN (.int .u8 ((l.getD ((i+7*2)%l.length) 0:Nat):Int)) rr (azW rfl rfl au (Nat.mod_lt _ (by omega)) rr) (K2 Lw bt (KN (iv (((i/16):Nat):Int)) rr (O8 rfl rfl rfl (by first|decide|omega) (LX (Pl i 16) (by omega)) rr) (KN (.int .u8 (((i/16):Nat):Int)) rr (N1 rfl rfl Tryz.underlying3 Tryz.underlying5 (WJ (by omega)) rr) (KN (.int .u8 ((VW l 2 i:Nat):Int)) rr (LS rfl rfl rfl (by rw[Wm (by omega)];exact TI _) rr) (Lb (.int .u8 ((VW l 2 i:Nat):Int)) LE (KQ ?_))))))
     have gH:=K4 (.int .u8 ((VW l 2 i:Nat):Int))
     refine KK ?_
     have hsm:=TX l 2 i
     have hsl:=N9 l 2 i
     refine KL (K2 Lw av (K2 Lw av (KN (pt aa 2) rr (KU (n:=3) rfl aB Tryz.underlying29 rfl (by kernel_rfl) (by decide) rfl rr) (KN (pt aa 4) rr (L3 2 (s:=1) rfl rfl rfl (by omega) Tryz.underlying27 (by omega) (by kernel_rfl) (by omega) rr) (KN q2 rr (KY rfl rfl Tryz.underlying26 aT rfl rfl rr) (K2 Lw gH (O0 (n:=VW l 2 i) rfl rfl rfl rfl (by omega) (by omega) fun jz jA jB gI jC dG=>?_)))))))
     obtain⟨dH,dI,dJ,dK,dL,gJ⟩:=Qh dG au b8 aT bl bm bn
     have dM:=b7.tr dG
     refine OR rfl rfl rfl rfl rfl rfl gJ gI.byt (by first|omega|(simp;done)|(simp;omega)) fun dN jD gK dO dP aC=>?_
     obtain⟨gL,gM,dQ,gN,gO⟩:=aEV dP bo dH aV dI bp dJ aW dK aX dL
     have gP:=dH.all aC bo.symm
     have gQ:=dI.all aC (aV.symm p1 rfl)
     have gR:=dJ.all aC (bp.symm aa rfl)
     have gS:=dK.all aC aW.symm
     have gT:=dL.all aC aX.symm
     refine KN (pt aa 2) rr (KU (n:=3) rfl aB Tryz.underlying29 rfl (by kernel_rfl) (by decide) rfl rr) (KN (pt aa 4) rr (L3 2 (s:=1) rfl rfl rfl (by omega) Tryz.underlying27 (by omega) (by kernel_rfl) (by omega) rr) (Nx rfl rfl rfl rfl rfl gR rfl dO.oneC (by kernel_rfl) fun gU cd aD=>?_))
     replace cd:MJ gU aa 29 [iv ((A:Nat):Int),iv ((B:Nat):Int),q0,q1,dN]:=cd
     have gV:=gP.all aD am.symm
     have gW:=gQ.all aD (an.symm p1 rfl)
     have gZ:=gS.all aD ai
     have hQ:=gT.all aD az
     have hZ:=dO.all aD dQ
     refine KQ ?_
     refine Lz (KK (KL (K2 Lw bt (KN (iv ((i+1:Nat):Int)) rr (LS rfl rfl rfl (LX (by omega) (by omega)) rr) (Lb (iv ((i+1:Nat):Int)) LE (KQ ?_))))))
     have ia:=K4 (iv ((i+1:Nat):Int))
     exact KK ⟨((pn N 2)-(i+1)),by omega,i+1,dN,gK,by omega,rfl,bq,dD,aB,av,dE,dF,ia,((dM.trans aC (KS.ok (S:=fun _=>False) aU KZ)).trans aD (KS.ok (S:=fun _=>False) ak KZ)),gV,gW,cd,gZ,hQ,(by rw[QP];exact hZ),(KS.trans aU dM dP),gL,gM,dQ,gN,gO⟩
    ·replace aZ:=of_decide_eq_false aZ
     refine Lf (KK ?_)
     have hsm:=TX l 2 i
     have hsl:=N9 l 2 i
     have ib:dC 11 = .int .u8 ((VW l 2 i:Nat):Int):=gF.trans (congrArg (Value.int .u8) (by rw[Wa (by omega)]))
     refine KL (K2 Lw av (K2 Lw av (KN (pt aa 2) rr (KU (n:=3) rfl aB Tryz.underlying29 rfl (by kernel_rfl) (by decide) rfl rr) (KN (pt aa 4) rr (L3 2 (s:=1) rfl rfl rfl (by omega) Tryz.underlying27 (by omega) (by kernel_rfl) (by omega) rr) (KN q2 rr (KY rfl rfl Tryz.underlying26 aT rfl rfl rr) (K2 Lw ib (O0 (n:=VW l 2 i) rfl rfl rfl rfl (by omega) (by omega) fun jE jF jG ie jH dR=>?_)))))))
     obtain⟨dS,dT,dU,dV,dW,ig⟩:=Qh dR au b8 aT bl bm bn
     have dX:=b7.tr dR
     refine OR rfl rfl rfl rfl rfl rfl ig ie.byt (by first|omega|(simp;done)|(simp;omega)) fun dY jI ii dZ d8 aE=>?_
     obtain⟨ij,ik,d9,io,ip⟩:=aEV d8 bo dS aV dT bp dU aW dV aX dW
     have iq:=dS.all aE bo.symm
     have ir:=dT.all aE (aV.symm p1 rfl)
     have iu:=dU.all aE (bp.symm aa rfl)
     have iw:=dV.all aE aW.symm
     have iy:=dW.all aE aX.symm
     refine KN (pt aa 2) rr (KU (n:=3) rfl aB Tryz.underlying29 rfl (by kernel_rfl) (by decide) rfl rr) (KN (pt aa 4) rr (L3 2 (s:=1) rfl rfl rfl (by omega) Tryz.underlying27 (by omega) (by kernel_rfl) (by omega) rr) (Nx rfl rfl rfl rfl rfl iu rfl dZ.oneC (by kernel_rfl) fun iz ce aF=>?_))
     replace ce:MJ iz aa 29 [iv ((A:Nat):Int),iv ((B:Nat):Int),q0,q1,dY]:=ce
     have iA:=iq.all aF am.symm
     have iB:=ir.all aF (an.symm p1 rfl)
     have iC:=iw.all aF ai
     have iD:=iy.all aF az
     have iE:=dZ.all aF d9
     refine KQ ?_
     refine Lz (KK (KL (K2 Lw bt (KN (iv ((i+1:Nat):Int)) rr (LS rfl rfl rfl (LX (by omega) (by omega)) rr) (Lb (iv ((i+1:Nat):Int)) LE (KQ ?_))))))
     have iF:=K4 (iv ((i+1:Nat):Int))
     exact KK ⟨((pn N 2)-(i+1)),by omega,i+1,dY,ii,by omega,rfl,bq,dD,aB,av,dE,dF,iF,((dX.trans aE (KS.ok (S:=fun _=>False) aU KZ)).trans aF (KS.ok (S:=fun _=>False) ak KZ)),iA,iB,ce,iC,iD,(by rw[QP];exact iE),(KS.trans aU dX d8),ij,ik,d9,io,ip⟩
   ·replace aY:=of_decide_eq_false aY
    refine Mm (Lp (Lp ?_))
    have iG:(pn N 2)=i:=by omega
    subst iG
    refine Mk (Lz (KK (KL (K2 Lw dz (KN (iv ((3:Nat):Int)) rr (LS rfl rfl rfl (LX (by omega) (by omega)) rr) (Lb (iv ((3:Nat):Int)) LE (KQ ?_)))))))
    have iH:=K4 (iv ((3:Nat):Int))
    refine KK (Mh (KM (KM (KL (K2 Lw iH (KN (.bool false) rr (Mc rfl rfl rfl rfl rr) (KQ ?_)))))))
    have iI:=K4 (.bool false)
    refine KK ?_
    refine K5 (t:=false) iI (fun e=>by cases e) (fun _=>?_)
    refine Mm (Lp (Lp (Mk (KK (KM (KL (KN (.agg #[iv ((A:Nat):Int),iv ((B:Nat):Int),q0,q1,q2]) rr (KX La rfl dy aT rr) (Ll (us:=[iv ((A:Nat):Int),iv ((B:Nat):Int),q0,q1,q2]) La rfl rfl rfl bY rfl b8 rfl (Qc rr (L4 bl.one (L4 bm.one (L4 bn.one MX)))) fun jJ iJ bu=>?_))))))))
    have iK:=bl.all bu aH
    have iL:=bm.all bu aL
    have iM:=bn.all bu aV
    refine KQ ?_
    refine KK (Le ?_)
    exact Po (vs:=[iv ((A:Nat):Int),iv ((B:Nat):Int),q0,q1,q2]) La dB rfl rfl bY iJ ⟨q0,ac,q1,ae,q2,af,(by rw[hF]),(b7.trans bu (KS.ok (S:=fun _=>False) (KS.new K0 g5) KZ)),⟨(by rw[hF];exact iK),aG⟩,⟨(by rw[hF];exact iL),aK⟩,⟨(by rw[hF];exact iM),aU⟩,aM.symm,aW.symm,aX.symm⟩
open Go.RowKit
def MO(v:Value)(l h m:Nat):Value:=match v with
 | .slice a _ _=>.slice (if m=l then a else a.map (·.add l)) (h-l) (m-l)
 | _=>undef
def aCv:Value->Nat
 | .slice _ _ c=>c
 | _=>0
theorem Mv.cap{w:World}{T:Nat->Prop}{v:Value}{l:List Nat}(h:Mv w T v l):l.length<=aCv v/\aCv v<=maxLen:=by
 obtain⟨⟨a,cap,rfl,h1,h2,_⟩,_⟩:=h;exact⟨h1,h2⟩
theorem Mv.sub{w:World}{T:Nat->Prop}{v:Value}{l:List Nat}(hb:Mv w T v l){i j m:Nat}(h1:i<=j)(h2:j<=m)(h3:j<=l.length)(h4:m<=aCv v):Mv w T (MO v i j m) ((l.drop i).take (j-i)):=by
 have hc:=hb.cap
 obtain⟨hB,hL,hT⟩:=hb
 obtain⟨a,cap,rfl,k1,k2,k3,k4,k5⟩:=hB
 have hB:MG w (.slice a l.length cap) l:=⟨a,cap,rfl,k1,k2,k3,k4,k5⟩
 have hm:m<=cap:=h4
 refine⟨hB.cut i j (m-i) h1 h3 (by omega) (by omega) (if m=i then a else a.map (fun z:Addr=>z.add i)) (fun hp=>by rw[if_neg (by omega)]) (fun h0=>?_),hL,fun hp a' n c e=>?_⟩
 ·split at h0
  ·omega
  ·have:a=none:=by cases a <;> simp_all
   have:=k3 this;omega
 ·have hlen:0<j-i:=by
   have:((l.drop i).take (j-i)).length=j-i:=by simp;omega
   omega
  simp only[MO] at e
  rw[if_neg (by omega)] at e
  cases a with
  | none=>simp at e
  | some a0 =>
   simp at e
   obtain⟨e1,_,_⟩:=e
   have hblk:a'.block=a0.block:=by rw[← e1];unfold Addr.add;split <;> rfl
   rw[hblk]
   exact hT (by omega) a0 _ _ rfl
theorem aC6{w:World}{T:Nat->Prop}{v:Value}{l:List Nat}(hb:Mv w T v l){i j m:Nat}(t:Nat)(h2:j<=m)(h3:j<=l.length)(ht:t<j-i):NC (MO v i j m) t=NC v (i+t):=by
 obtain⟨⟨a,cap,rfl,_,_,_,_,k5⟩,_⟩:=hb
 obtain⟨b,off,rfl,_,_⟩:=k5 (by omega)
 simp only[MO,NC]
 rw[if_neg (by omega)]
 simp[Addr.add_lit,Nat.add_assoc]
section
variable {ρ:Operand->Value} {o:Oper} {w:World} {R:Value->World->Prop}
theorem aEJ{x lo hi mx:Operand}{T:Nat->Prop}{v:Value}{l:List Nat}{kl kh km:IntKind}(i j m:Nat){il ih im:Int}(ho:o.op = .slice 26 x (some lo) (some hi) (some mx))(hx:ρ x=v)(hl:ρ lo = .int kl il)(hh:ρ hi = .int kh ih)(hm:ρ mx = .int km im)(e1:il=(i:Int))(e2:ih=(j:Int))(e3:im=(m:Int))(hb:Mv w T v l)(h1:i<=j)(h2:j<=m)(h3:m<=l.length)(h:R (MO v i j m) w):Lg Tryz.prog ρ o w R:=by
 subst e1;subst e2;subst e3
 have hc:=hb.cap
 obtain⟨⟨a,cap,rfl,k1,_⟩,_⟩:=hb
 obtain⟨i0,hi0,hz0,hz1,hz2⟩:=info_parts Tryz.info_u8
 have hmc:m<=cap:=by omega
 refine Nf (v:=MO (.slice a l.length cap) i j m) (w':=w) ?_ h
 have b1:(Instr.sliceBounds true l.length cap (some (.int kl (i:Int))) (some (.int kh (j:Int))) (some (.int km (m:Int)))).run Tryz.prog w = .ok (i,j,m) w:=by
  simp[Instr.sliceBounds,Instr.sliceBound,asIntOf,hmc,h1,h2]
 simp[execOp,ho,hx,hl,hh,hm,Instr.sliceAt,Instr.slice,run_underlying Tryz.underlying26,b1,sizeOf,typeInfo,hi0,hz1,MO]
theorem aGb{x ix:Operand}{T:Nat->Prop}{v:Value}{l:List Nat}{k:IntKind}{i j m:Nat}(t:Nat){it:Int}(ho:o.op = .indexAddr 26 x ix)(hx:ρ x=MO v i j m)(hi:ρ ix = .int k it)(hij:it=(t:Int))(hb:Mv w T v l)(h1:i<=j)(h2:j<=m)(h3:j<=l.length)(h4:m<=aCv v)(ht:t<j-i)(h:R (NC v (i+t)) w):Lg Tryz.prog ρ o w R:=by
 have hl:((l.drop i).take (j-i)).length=j-i:=by simp;omega
 refine azC t ho hx hi hij (hb.sub h1 h2 h3 h4) (by rw[hl];exact ht) ?_
 rw[aC6 hb t h2 h3 ht];exact h
theorem VN{w:World}{T:Nat->Prop}{v:Value}{l:List Nat}(hb:Mv w T v l)(i j m:Nat):∃ a,MO v i j m = .slice a (j-i) (m-i):=by
 obtain⟨⟨a,cap,rfl,_⟩,_⟩:=hb
 exact⟨_,rfl⟩
theorem aEK{c:Call}{x:Operand}{T:Nat->Prop}{v:Value}{l:List Nat}{i j m:Nat}(ho:o.op = .call c)(hc:c={ callee:=.builtin .len,args:=#[x],argTypes:=#[26] })(hx:ρ x=MO v i j m)(hb:Mv w T v l)(h:R (.int .i64 ((j-i:Nat):Int)) w):Lg Tryz.prog ρ o w R:=by
 subst hc
 obtain⟨a,e⟩:=VN hb i j m
 rw[e] at hx
 exact aC3 ho rfl rfl rfl Tryz.underlying26 hx h
end
open Go.RowKit
section
variable {ρ:Operand->Value} {o:Oper} {w:World} {R:Value->World->Prop}
theorem aFk {t : TypeId} {x : Operand} {p k : Nat} {vs : List Value} {a b c : Value} (ho : o.op = .load 27 x) (hx : ρ x = .pointer (some ⟨p, k, none⟩)) (hB : MJ w p t vs) (h0 : vs[k]? = some a) (h1 : vs[k + 1]? = some b) (h2 : vs[k + 2]? = some c) (h : R (.agg #[a, b, c]) w) : Lg Tryz.prog ρ o w R := by
  have hr : w.rangeAt p k [a, b, c] := by
    intro j v hj
    match j, hj with
    | 0, hj => obtain rfl : a = v := by simpa using hj
               exact hB.cell h0
    | 1, hj => obtain rfl : b = v := by simpa using hj
               exact hB.cell h1
    | 2, hj => obtain rfl : c = v := by simpa using hj
               exact hB.cell h2
    | n + 3, hj => simp at hj
  refine Nf (v := .agg #[a, b, c]) (w' := w) ?_ h
  simp only [execOp, ho, hx, Sem.run_bind, run_loadAt_mid w p k 27 [a, b, c] _ hr Tryz.underlying27 rfl (by kernel_rfl), Result.andThen_ok, Sem.run_pure]
theorem ayN{x y:Operand}{k:IntKind}{cs:Array Value}{v:Value}(j:Nat)(ho:o.op = .index 27 x y)(hx:ρ x = .agg cs)(hy:ρ y = .int k (j:Int))(hj:j<3)(hv:cs[j]? = some v)(h:R v w):Lg Tryz.prog ρ o w R:=by
 have hs:(Tryz.prog.info? 26).map (·.size)=some 1:=by kernel_rfl
 cases hq:Tryz.prog.info? 26 with
 | none=>simp[hq] at hs
 | some i =>
  have hs':i.size=1:=by simpa [hq] using hs
  have hp:(part 26 cs j).run Tryz.prog w = .ok v w:=by simp[part,isAgg,run_underlying Tryz.underlying26,hv]
  have h1:(0:Int)<=(j:Int):=by omega
  have h2:(j:Int)<3:=by omega
  exact Nf (v:=v) (w':=w) (by simp[execOp,ho,hx,hy,Instr.index,run_underlying Tryz.underlying27,asIntOf,sizeOf,typeInfo,hq,hs',hj,hp]) h
theorem Yp{x lo:Operand}{T:Nat->Prop}{v:Value}{l:List Nat}{kl:IntKind}{i j m:Nat}(k:Nat){il:Int}(ho:o.op = .slice 26 x (some lo) none none)(hx:ρ x=MO v i j m)(hl:ρ lo = .int kl il)(e1:il=(k:Int))(hb:Mv w T v l)(h1:k<=j-i)(h:R (MO (MO v i j m) k (j-i) (m-i)) w):Lg Tryz.prog ρ o w R:=by
 subst e1
 obtain⟨a,e⟩:=VN hb i j m
 obtain⟨i0,hi0,hz0,hz1,hz2⟩:=info_parts Tryz.info_u8
 refine Nf (v:=MO (MO v i j m) k (j-i) (m-i)) (w':=w) ?_ h
 rw[e] at hx ⊢
 have b1:(Instr.sliceBounds true (j-i) (m-i) (some (.int kl (k:Int))) none none).run Tryz.prog w = .ok (k,j-i,m-i) w:=by
  simp[Instr.sliceBounds,Instr.sliceBound,asIntOf,h1]
 simp[execOp,ho,hx,hl,Instr.sliceAt,Instr.slice,run_underlying Tryz.underlying26,b1,sizeOf,typeInfo,hi0,hz1,MO]
theorem aAm{x hi:Operand}{T:Nat->Prop}{v:Value}{l:List Nat}{kl:IntKind}{i j m:Nat}(k:Nat){il:Int}(ho:o.op = .slice 26 x none (some hi) none)(hx:ρ x=MO v i j m)(hl:ρ hi = .int kl il)(e1:il=(k:Int))(hb:Mv w T v l)(h1:k<=m-i)(h:R (MO (MO v i j m) 0 k (m-i)) w):Lg Tryz.prog ρ o w R:=by
 subst e1
 obtain⟨a,e⟩:=VN hb i j m
 obtain⟨i0,hi0,hz0,hz1,hz2⟩:=info_parts Tryz.info_u8
 refine Nf (v:=MO (MO v i j m) 0 k (m-i)) (w':=w) ?_ h
 rw[e] at hx ⊢
 have b1:(Instr.sliceBounds true (j-i) (m-i) none (some (.int kl (k:Int))) none).run Tryz.prog w = .ok (0,k,m-i) w:=by
  simp[Instr.sliceBounds,Instr.sliceBound,asIntOf,h1]
 simp[execOp,ho,hx,hl,Instr.sliceAt,Instr.slice,run_underlying Tryz.underlying26,b1,sizeOf,typeInfo,hi0,hz1,MO]
theorem aDz{x hi mx:Operand}{T:Nat->Prop}{v:Value}{l:List Nat}{kh km:IntKind}(j m:Nat){ih im:Int}(ho:o.op = .slice 26 x none (some hi) (some mx))(hx:ρ x=v)(hh:ρ hi = .int kh ih)(hm:ρ mx = .int km im)(e2:ih=(j:Int))(e3:im=(m:Int))(hb:Mv w T v l)(h2:j<=m)(h4:m<=l.length)(h:R (MO v 0 j m) w):Lg Tryz.prog ρ o w R:=by
 subst e2;subst e3
 obtain⟨⟨a,cap,rfl,k1,_⟩,_⟩:=hb
 obtain⟨i0,hi0,hz0,hz1,hz2⟩:=info_parts Tryz.info_u8
 have hmc:m<=cap:=by omega
 refine Nf (v:=MO (.slice a l.length cap) 0 j m) (w':=w) ?_ h
 have b1:(Instr.sliceBounds true l.length cap none (some (.int kh (j:Int))) (some (.int km (m:Int)))).run Tryz.prog w = .ok (0,j,m) w:=by
  simp[Instr.sliceBounds,Instr.sliceBound,asIntOf,hmc,h2]
 simp[execOp,ho,hx,hh,hm,Instr.sliceAt,Instr.slice,run_underlying Tryz.underlying26,b1,sizeOf,typeInfo,hi0,hz1,MO]
end
def Yl(x v:Value)(off n:Nat):Prop:=∃ d cp,x = .slice d n cp/\(0<n->∀ g nn cc,v = .slice (some ⟨g,0,none⟩) nn cc->d=some ⟨g,off,none⟩)
theorem Ul{w:World}{T:Nat->Prop}{v:Value}{l:List Nat}(hb:Mv w T v l){i j m:Nat}(h2:j<=m):Yl (MO v i j m) v i (j-i):=by
 obtain⟨⟨a,cap,rfl,k1,k2,k3,k4,k5⟩,k6⟩:=hb
 clear k3 k4 k5 k6
 refine⟨_,_,rfl,fun hp g nn cc e=>?_⟩
 cases e
 rw[if_neg (by omega)]
 simp[Addr.add_lit]
theorem XY{w:World}{T:Nat->Prop}{v:Value}{l:List Nat}(hb:Mv w T v l){i j m k q r:Nat}(h2:j<=m)(h3:q<=j-i)(hr:r=i+k):Yl (MO (MO v i j m) k q (m-i)) v r (q-k):=by
 subst hr
 obtain⟨⟨a,cap,rfl,k1,k2,k3,k4,k5⟩,k6⟩:=hb
 clear k3 k4 k5 k6
 refine⟨_,_,rfl,fun hp g nn cc e=>?_⟩
 cases e
 rw[if_neg (by omega),if_neg (by omega)]
 simp[Addr.add_lit]
section
variable {ro:Option Nat} {N:Nat} {Q:(Exit->(Nat->Value)->World->Prop)} {F:Nat->Value} {w:World} {o:Oper}
theorem XJ{ρ:Operand->Value}{c:Call}{x y:Operand}{T U:Nat->Prop}{v u:Value}{l m:List Nat}{off n:Nat}(ho:o.op = .call c)(hc:c={ callee:=.builtin .copy,args:=#[x,y],argTypes:=#[26,26] })(hx:Yl (ρ x) v off n)(hy:ρ y=u)(hv:Md w T v l)(hu:Mv w U u m)(hoff:off+n<=l.length) :
  ∃ w',(execOp ρ o).run Tryz.prog w = .ok (.value (.int .i64 ((min n m.length:Nat):Int))) w'/\Md w' T v (l.take off++(m.take n++l.drop (off+min n m.length)))/\KR T w w':=by
 subst hc
 have hsz:(Tryz.prog.info? 5).map (·.size)=some 1:=by
  obtain⟨i0,hi0,hz0,hz1,hz2⟩:=info_parts Tryz.info_u8
  rw[hi0];simp[hz1]
 have hlen:(l.take off++(m.take n++l.drop (off+min n m.length))).length=l.length:=by simp;omega
 have hml:(m.take n).length=min n m.length:=by simp
 have hall:∀ y∈l.take off++(m.take n++l.drop (off+min n m.length)),y<256:=by
  intro y hy
  rcases List.mem_append.1 hy with h'|h'
  ·exact hv.lt256 y (List.mem_of_mem_take h')
  ·rcases List.mem_append.1 h' with h'|h'
   ·exact hu.lt256 y (List.mem_of_mem_take h')
   ·exact hv.lt256 y (List.mem_of_mem_drop h')
 obtain⟨d,cp,hxx,hd⟩:=hx
 by_cases h0:min n m.length=0
 ·have h0':min m.length n=0:=by omega
  obtain⟨⟨a,cap,rfl,k1,k2,k3,h256,hcu⟩,_⟩:=hu
  clear hcu hd
  have hm:m.take n=[]:=List.eq_nil_of_length_eq_zero (by omega)
  have hrun:=run_copy_none (P:=Tryz.prog) w 26 26 o.type 5 d a n cp m.length cap Tryz.underlying26 hsz h0'
  refine⟨w,by rw[h0];simp[execOp,ho,resolve,invoke,builtin,hxx,hy,hrun,Result.andThen];rfl,?_,KR.refl _ _⟩
  rw[h0,hm,List.nil_append,Nat.add_zero,List.take_append_drop];exact hv
 ·have hm0:0<m.length:=by omega
  have hn0:0<n:=by omega
  obtain⟨⟨a,cap,rfl,k1,k2,k3,h256,hcu⟩,hu2⟩:=hu
  clear k3 hu2
  obtain⟨b,o1,rfl,hb1,hcell⟩:=hcu hm0
  clear hcu
  replace hd:=hd hn0
  rcases hv.1.1.2 with ⟨rfl,hz⟩ | ⟨g,cp2,cur,rfl,hb,hgg,hnc,hcm,hcs,htake⟩
  ·omega
  ·obtain rfl:=hd g _ _ rfl
   have hbl:(LK (m.take n)).length=min n m.length:=by rw[LI,hml]
   have hrun:=run_copy_row (P:=Tryz.prog) w 26 26 o.type 5 g off n cp ⟨b,o1,none⟩ m.length cap cur 5 (LK (m.take n)) Tryz.underlying26 hsz hgg (by rw[hbl];show min n m.length=min m.length n;omega) (fun t u ht=>by
    have hjl:t<(m.take n).length:=by
     have:=(List.getElem?_eq_some_iff.1 ht).1
     rwa [LI] at this
    rw[Addr.add_lit,hcell t (by omega),← ht,Pz (m.take n) t hjl]
    rw[show (m.take n).getD t 0=m.getD t 0 by simp[List.getD,show t<n by omega]]) (by rw[hbl];omega) (QB _)
   refine⟨w.setRow g (cur.toList.take off++LK (m.take n)++cur.toList.drop (off+(LK (m.take n)).length)).toArray,by simp[execOp,ho,resolve,invoke,builtin,hxx,hy,hrun,Result.andThen,hbl];rfl,⟨⟨⟨?_,.inr ⟨g,cp2,_,?_,hb,setRow_heap w g cur _ _ _ hgg,?_,hcm,?_,?_⟩⟩,hall⟩,hv.2⟩,(KR.refl T w).setRow g (fun _=>(hv.2 g).2 rfl) _⟩
   ·rw[LI];omega
   ·rw[hlen]
   ·omega
   ·simp[LI];omega
   ·have htk:cur.toList.take l.length=LK l:=by simpa using htake
    have hcl:cur.toList=LK l++cur.toList.drop l.length:=by rw[← htk,List.take_append_drop]
    rw[hcl]
    generalize cur.toList.drop l.length=rest2
    have hli:off<=(LK l).length:=by rw[LI];omega
    have hlj:off+(LK (m.take n)).length<=(LK l).length:=by rw[hbl,LI];omega
    rw[List.take_append_of_le_length hli,List.drop_append_of_le_length hlj,hlen,Nat.mul_one]
    have e2:LK (l.take off++(m.take n++l.drop (off+min n m.length)))=(LK l).take off++(LK (m.take n)++(LK l).drop (off+(LK (m.take n)).length)):=by
     rw[hbl]
     simp[LK,List.map_take,List.map_drop]
    rw[e2]
    have e3:((LK l).take off++LK (m.take n)++((LK l).drop (off+(LK (m.take n)).length)++rest2))=((LK l).take off++(LK (m.take n)++(LK l).drop (off+(LK (m.take n)).length)))++rest2:=by simp
    rw[e3,List.take_append_of_le_length (by simp[LI];omega)]
    rw[List.take_of_length_le (by simp[LI];omega)]
theorem Ta{ops:Array Oper}{rest:List Oper}{c:Call}{x y:Operand}{T U:Nat->Prop}{v u:Value}{l m:List Nat}{off n:Nat}{X:Value}(hg:o.guard=none)(hd:OD N o.dst=true)(ho:o.op = .call c)(hc:c={ callee:=.builtin .copy,args:=#[x,y],argTypes:=#[26,26] })(hxX:ev (M3 N F) x=X)(hp:Yl X v off n)(hy:ev (M3 N F) y=u)(hv:Md w T v l)(hu:Mv w U u m)(hoff:off+n<=l.length)
  (h:∀ w',Md w' T v (l.take off++(m.take n++l.drop (off+min n m.length)))->KR T w w'->wl ro Tryz.prog N ops Q rest (OQ F o.dst (.int .i64 ((min n m.length:Nat):Int))) w'):wl ro Tryz.prog N ops Q (o::rest) F w:=by
 obtain⟨w',hr,h1,h2⟩:=XJ ho hc (by rw[hxX];exact hp) hy hv hu hoff
 exact NV hg hd (Nf hr (h w' h1 h2))
end
theorem Wp:Rf Tryz.prog 123 4:=⟨_,Tryz.underlying123,rfl,by kernel_rfl⟩
def azp(p k:Nat):Value:=.slice (some (if 4=k then ⟨p,0,none⟩ else ⟨p,k,none⟩)) (4-k) (4-k)
theorem MJ.bytes{w:World}{p t:Nat}{a b c d:Nat}(h:MJ w p t [.int .u8 (a:Int),.int .u8 (b:Int),.int .u8 (c:Int),.int .u8 (d:Int)])(ha:a<256)(hb:b<256)(hc:c<256)(hd:d<256){k:Nat}(hk:k<=4):Mv w (Lh p) (azp p k) ([a,b,c,d].drop k):=by
 have hl:([a,b,c,d].drop k).length=4-k:=by simp
 refine⟨⟨some (if 4=k then ⟨p,0,none⟩ else ⟨p,k,none⟩),4-k,by rw[hl];rfl,by omega,Nat.le_trans (Nat.sub_le 4 k) (by decide),(fun e=>by cases e),?_,fun hp=>⟨p,k,by rw[if_neg (by omega)],h.lt,fun i hi=>?_⟩⟩,L8 h.lt,fun _ a' n c' e=>?_⟩
 ·intro x hx
  have:=List.mem_of_mem_drop hx
  simp at this
  omega
 ·rw[hl] at hi
  have hc:=h.cell (i:=k+i) (v:=.int .u8 (([a,b,c,d].drop k).getD i 0:Nat)) (by
   have:k=0\/k=1\/k=2\/k=3:=by omega
   have hi4:i=0\/i=1\/i=2\/i=3:=by omega
   rcases this with rfl|rfl|rfl|rfl <;> rcases hi4 with rfl|rfl|rfl|rfl <;> first|rfl|omega)
  exact hc
 ·unfold azp at e
  simp only[Value.slice.injEq,Option.some.injEq] at e
  rw[← e.1]
  split <;> rfl
section
variable {ρ:Operand->Value} {o:Oper} {w:World} {R:Value->World->Prop}
theorem aFa{x lo:Operand}{p:Nat}{kl:IntKind}(k:Nat){il:Int}(ho:o.op = .slice 123 x (some lo) none none)(hx:ρ x = .pointer (some ⟨p,0,none⟩))(hl:ρ lo = .int kl il)(e1:il=(k:Int))(hk:k<=4)(h:R (azp p k) w):Lg Tryz.prog ρ o w R:=by
 subst e1
 obtain⟨i0,hi0,hz0,hz1,hz2⟩:=info_parts Tryz.info_u8
 refine Nf (v:=azp p k) (w':=w) ?_ h
 have b1:(Instr.sliceBounds false 4 4 (some (.int kl (k:Int))) none none).run Tryz.prog w = .ok (k,4,4) w:=by
  simp[Instr.sliceBounds,Instr.sliceBound,asIntOf,hk]
 simp[execOp,ho,hx,hl,Instr.sliceAt,Instr.sureAddr,run_underlying Tryz.underlying123,b1,sizeOf,typeInfo,hi0,hz1,azp,Addr.add_lit]
end
theorem Ur:∀ (n t:Nat) (acc:List Nat),(∀ x∈acc,x<256)->∃ l:List Nat,Extern.BytealgMakeNoZero.digits n t (LK acc).toArray=(LK l).toArray/\(∀ x∈l,x<256)/\l.length=acc.length+n
 | 0,_,acc,h=>⟨acc,rfl,h,rfl⟩
 | n+1,t,acc,h=>by
  obtain⟨l,h1,h2,h3⟩:=Ur n (t/256) (acc ++ [t%256]) (by
   intro x hx
   rcases List.mem_append.1 hx with hx|hx
   ·exact h x hx
   ·simp at hx;omega)
  refine⟨l,?_,h2,by simp at h3;omega⟩
  rw[Extern.BytealgMakeNoZero.digits,← h1]
  congr 1
  simp[LK]
theorem SR(w:World)(n:Nat)(hn:n<1099511627776) :
  ∃ cs:Array Value,(Extern.BytealgMakeNoZero.makeNoZero #[3] #[26] #[.int .i64 n]).run Tryz.prog w = .ok (.slice (some ⟨w.heap.size,0,none⟩) n cs.size) (w.drew.drew.alloc (.cells cs 5))/\n<=cs.size/\cs.size<=maxLen/\∃ l:List Nat,cs=(LK l).toArray/\(∀ x∈l,x<256)/\l.length=cs.size:=by
 obtain⟨cs,hr,h1,h2⟩:=Lib.run_makeNoZero (P:=Tryz.prog) w #[3] 26 5 Tryz.underlying26 n (by omega)
 refine⟨cs,hr,h1,h2 (Nat.le_trans (Nat.le_of_lt hn) (by decide)),?_⟩
 have h0:¬ (n:Int)<0:=by omega
 have h3:¬ (281474976710656:Int)<(n:Int):=by omega
 have hd:Extern.BytealgMakeNoZero.makeNoZero #[3] #[26] #[.int .i64 n]=underlying 26 >>= _:=rfl
 have hr2:=hr
 rw[hd] at hr2
 simp[run_underlying Tryz.underlying26,h0,h3,Question.forced,newRow] at hr2
 have e:=congrArg (fun W:World=>W.heap[w.drew.drew.heap.size]?) hr2.2
 simp only[heap_alloc_new] at e
 have e2:=(Obj.cells.inj (Option.some.inj e)).1
 rw[hr2.1] at e2
 obtain⟨T,hT⟩:∃ T,Extern.BytealgMakeNoZero.digits cs.size T #[]=cs:=⟨_,e2⟩
 obtain⟨l,k1,k2,k3⟩:=Ur cs.size T [] (by simp)
 exact⟨l,hT.symm.trans k1,k2,by simpa using k3⟩
theorem aE4{ro:Option Nat}{N:Nat}{Q:(Exit->(Nat->Value)->World->Prop)}{F:Nat->Value}{w:World}{o:Oper}{ops:Array Oper}{rest:List Oper}{c:Call}{x:Operand}{f:FuncId}{fn:Func}{n:Nat}{i:Int}(hg:o.guard=none)(hd:OD N o.dst=true)(ho:o.op = .call c)(hc:c={ callee:=.value (.func f),args:=#[x],argTypes:=#[3] })(hx:ev (M3 N F) x = .int .i64 i)(hi:i=(n:Int))(hn:n<1099511627776)
  (hf : Tryz.prog.funcs[f]? = some fn) (hname : (fn.name == "runtime.NumGoroutine") = false) (hb : fn.body.isNone = true) (hnx : Extern.findNext fn = none) (he : Extern.find fn = some (Extern.BytealgMakeNoZero.makeNoZero #[3] #[26]))
  (h:∀ v w' T (l:List Nat),Md w' T v l->l.length=n->KS w Mb T->KR (fun _=>False) w w'->wl ro Tryz.prog N ops Q rest (OQ F o.dst v) w'):wl ro Tryz.prog N ops Q (o::rest) F w:=by
 subst hc;subst hi
 obtain⟨cs,hrun,hle,hmx,hcap⟩:=SR w n hn
 obtain⟨J,hJ,hJ2,hJ3⟩:=hcap
 have hcall:(callFunc f #[.int .i64 (n:Int)]).run Tryz.prog w = .ok (.value (.slice (some ⟨w.heap.size,0,none⟩) n cs.size)) (w.drew.drew.alloc (.cells cs 5)):=by
  rw[run_callFunc_extern hf hname hb hnx he,hrun];rfl
 have hsz:cs.size=J.length:=by rw[hJ];simp[LI]
 refine NV hg hd (Nf (v:=.slice (some ⟨w.heap.size,0,none⟩) n cs.size) (w':=w.drew.drew.alloc (.cells cs 5)) (by simp[execOp,ho,resolve,K6,Deferred.ofValue,invoke,hx,hcall]) (h _ _ _ (J.take n) (Md.of ⟨⟨by rw[LI];omega,.inr ⟨w.heap.size,cs.size,cs,by rw[List.length_take,Nat.min_eq_left (by omega)],Nat.zero_le _,?_,by rw[List.length_take];omega,hmx,by omega,?_⟩⟩,fun y hy=>hJ2 y (List.mem_of_mem_take hy)⟩) (by rw[List.length_take];omega) (fun i hi=>.inr ?_) (((KR.refl _ w).drew.drew).alloc _)))
 ·exact heap_alloc_new w.drew.drew _
 ·rw[hJ,List.length_take,Nat.min_eq_left (by omega),Nat.mul_one]
  simp[LK,List.map_take]
 ·cases hi;exact Nat.le_refl _
open Go.RowKit
theorem OA(n a b:Int)(w0:World) :
  Calls Tryz.prog 116 #[.int .i64 (n),.int .i64 (a),.int .i64 (b)] w0 fun e w'=>e = .returned (.int .i64 (max a (min n b)))/\KR (fun _=>False) w0 w':=by
 refine Ly (args:=[iv n,iv a,iv b]) 12 Tryz.func116 rfl rfl (Nat.le_of_ble_eq_true rfl) ?_
 refine KM (KL (Lb (iv 0) LE (KQ ?_)))
 have s3:=K4 (iv n)
 have s4:=K4 (iv a)
 have s5:=K4 (iv b)
 have s6:=K4 (undef)
 refine KK (KM (KL (K2 Lw s4 (K2 Lw s3 (K2 Lw s5 (KN (iv (min n b)) rr (RB rfl rfl rfl rfl rr) (KN (iv (max a (min n b))) rr (R9 rfl rfl rfl rfl rr) (Lb (iv (max a (min n b))) LE (KQ ?_)))))))))
 have af:=K4 (iv (max a (min n b)))
 refine KK (Le ?_)
 exact LC (v:=iv (max a (min n b))) s6 rfl rfl af ⟨rfl,(KR.refl (fun _=>False) w0)⟩
theorem P0(n:Int)(w0:World) :
  Calls Tryz.prog 51 #[.int .i64 (n)] w0 fun e w'=>e = .returned (.bool (Mz n))/\KR (fun _=>False) w0 w':=by
 refine Ly (args:=[iv n]) 14 Tryz.func51 rfl rfl (Nat.le_of_ble_eq_true rfl) ?_
 have K0:=KR.refl (fun _=>False) w0
 refine KM (KL (Lb (.bool false) LE (KQ ?_)))
 have s3:=K4 (iv n)
 have s4:=K4 (undef)
 refine KK (KM ?_)
 by_cases d5:8<=n
 ·skip
  by_cases d6:n<=64
  ·skip
   refine KL (K2 Lw s3 (KN (.bool true) rr (NO rfl rfl rfl (decide_eq_true d5) rr) (KN (.bool true) rr (KT rfl rfl rr) (Lj (iv n) 2 true 5 Li (KT rfl s3 rr) (Lj (.bool true) 2 true 5 Li (Vx rfl rfl rfl (decide_eq_true d6) rr) (KN (.bool true) rr (LB rfl rfl rfl rr) (KN (.bool true) rr (KT rfl rfl rr) (Lj (iv n) 6 true 9 Li (KT rfl s3 rr) (Lj (iv (Int.tmod n 8)) 6 true 9 Li (Rh rfl rfl rfl (by first|decide|omega) rfl rr) (Lj (.bool (decide ((Int.tmod n 8)=0))) 6 true 9 Li (MA rfl rfl rfl rfl rr) (KN (.bool (decide ((Int.tmod n 8)=0))) rr (LB rfl rfl rfl rr) ?_)))))))))))
   refine Lb (.bool (decide ((Int.tmod n 8)=0))) LE (KQ ?_)
   have ah:=K4 (.bool (decide ((Int.tmod n 8)=0)))
   refine KK (Le ?_)
   exact LC (v:=.bool (decide ((Int.tmod n 8)=0))) s4 rfl rfl ah ⟨(by first|rw[Vi (by omega)]|rw[TE (by omega)]|rw[U3 (by omega) (by omega)]),K0⟩
  ·skip
   refine KL (K2 Lw s3 (KN (.bool true) rr (NO rfl rfl rfl (decide_eq_true d5) rr) (KN (.bool true) rr (KT rfl rfl rr) (Lj (iv n) 2 true 5 Li (KT rfl s3 rr) (Lj (.bool false) 2 true 5 Li (Vx rfl rfl rfl (decide_eq_false d6) rr) (KN (.bool false) rr (LB rfl rfl rfl rr) (KN (.bool false) rr (KT rfl rfl rr) (Lq 6 true 9 Li (Lq 6 true 9 Li (Lq 6 true 9 Li (KN (.bool false) rr (Lt rfl rfl rfl rr) ?_)))))))))))
   refine Lb (.bool false) LE (KQ ?_)
   have ai:=K4 (.bool false)
   refine KK (Le ?_)
   exact LC (v:=.bool false) s4 rfl rfl ai ⟨(by first|rw[Vi (by omega)]|rw[TE (by omega)]|rw[U3 (by omega) (by omega)]),K0⟩
 ·skip
  refine KL (K2 Lw s3 (KN (.bool false) rr (NO rfl rfl rfl (decide_eq_false d5) rr) (KN (.bool false) rr (KT rfl rfl rr) (Lq 2 true 5 Li (Lq 2 true 5 Li (KN (.bool false) rr (Lt rfl rfl rfl rr) (KN (.bool false) rr (KT rfl rfl rr) (Lq 6 true 9 Li (Lq 6 true 9 Li (Lq 6 true 9 Li (KN (.bool false) rr (Lt rfl rfl rfl rr) ?_)))))))))))
  refine Lb (.bool false) LE (KQ ?_)
  have aj:=K4 (.bool false)
  refine KK (Le ?_)
  exact LC (v:=.bool false) s4 rfl rfl aj ⟨(by first|rw[Vi (by omega)]|rw[TE (by omega)]|rw[U3 (by omega) (by omega)]),K0⟩
def LL(f:FD)(p:Int):Int×Int:=if p=0 then (f.W,f.H) else (Int.tdiv f.W 2,Int.tdiv f.H 2)
theorem Rd(p:Int)(f:FD)(f0 f1 f2:Value)(T_f0:Nat->Prop)(T_f1:Nat->Prop)(T_f2:Nat->Prop)(w0:World)(hw:0<=f.W/\f.W<=64)(hh:0<=f.H/\f.H<=64)(_h_f0:Mv w0 T_f0 f0 ((f).p0))(_h_f1:Mv w0 T_f1 f1 ((f).p1))(_h_f2:Mv w0 T_f2 f2 ((f).p2)) :
  Calls Tryz.prog 52 #[.agg #[.int .i64 ((f).W),.int .i64 ((f).H),f0,f1,f2],.int .i64 (p)] w0 fun e w'=>e = .returned (.tuple #[.int .i64 ((LL f p).1),.int .i64 ((LL f p).2)])/\KR (fun _=>False) w0 w':=by
 refine Ly (args:=[.agg #[iv (f.W),iv (f.H),f0,f1,f2],iv p]) 18 Tryz.func52 rfl rfl (Nat.le_of_ble_eq_true rfl) ?_
 have g_f0:=KS.refl w0 T_f0
 have g_f1:=KS.refl w0 T_f1
 have g_f2:=KS.refl w0 T_f2
 refine KM (KL (LJ (vs:=[iv (f.W),iv (f.H),f0,f1,f2]) rfl rfl rfl rfl fun p1 w2 B4 g5 k3=>?_))
 have ak:=(KR.refl (fun _=>False) w0).tr k3
 refine Lb (iv 0) LE (Lb (iv 0) LE (KQ ?_))
 have aq:=K4 (iv p)
 have am:=K4 (undef)
 have ae:=K4 (pt p1 0)
 refine KK (KM (KM (KL (K2 Lw aq (KN (.bool (decide (p=0))) rr (MA rfl rfl rfl rfl rr) (KQ ?_))))))
 have ar:=K4 (.bool (decide (p=0)))
 refine KK ?_
 refine K5 ar (fun ab=>?_) (fun ab=>?_)
 ·replace ab:=of_decide_eq_true ab
  refine KM ?_
  refine RZ [some 8,some 9,some 10,some 11,some 4,some 5] [Pd.eq (pt p1 0),Pd.eq (iv (f.W)),Pd.eq (pt p1 1),Pd.eq (iv (f.H)),Pd.eq (iv (f.W)),Pd.eq (iv (f.H))] (by kernel_rfl) (by kernel_rfl) ?_ ?_
  ·refine KP ?_ ?_
   ·refine Ld.one rfl fun F_ w_ hR hout hD=>?_
    exact(KU (n:=1) rfl ((hout 2 rfl (by decide)).trans ae) Tryz.underlying29 rfl (by kernel_rfl) (by decide) rfl ⟨rfl,KR.refl _ _⟩)
   refine KP ?_ ?_
   ·refine Ld.one rfl fun F_ w_ hR hout hD=>?_
    have g8:F_ 8=pt p1 0:=(hD.get 0 rfl rfl rfl)
    exact(KY rfl g8 Tryz.underlying3 (B4.all hR id) rfl rfl ⟨rfl,KR.refl _ _⟩)
   refine KP ?_ ?_
   ·refine Ld.one rfl fun F_ w_ hR hout hD=>?_
    exact(KU (n:=1) rfl ((hout 2 rfl (by decide)).trans ae) Tryz.underlying29 rfl (by kernel_rfl) (by decide) rfl ⟨rfl,KR.refl _ _⟩)
   refine KP ?_ ?_
   ·refine Ld.one rfl fun F_ w_ hR hout hD=>?_
    have av:F_ 10=pt p1 1:=(hD.get 0 rfl rfl rfl)
    exact(KY rfl av Tryz.underlying3 (B4.all hR id) rfl rfl ⟨rfl,KR.refl _ _⟩)
   refine KP ?_ ?_
   ·refine Ld.one rfl fun F_ w_ hR hout hD=>?_
    have g9:F_ 9=iv (f.W):=(hD.get 0 rfl rfl rfl)
    exact(Pv rfl g9 ⟨rfl,KR.refl _ _⟩)
   refine KP ?_ ?_
   ·refine Ld.one rfl fun F_ w_ hR hout hD=>?_
    have az:F_ 11=iv (f.H):=(hD.get 0 rfl rfl rfl)
    exact(Pv rfl az ⟨rfl,KR.refl _ _⟩)
   exact Mj
  intro aQ an aR aA ai af
  have aB:=(af 18).trans am
  have aC:an 4=iv (f.W):=(af 4).trans (ai 4 (by decide))
  have aD:an 5=iv (f.H):=(af 5).trans (ai 5 (by decide))
  clear ai af
  refine KK (Le (Lx ?_))
  exact Mo aB rfl (LF (v:=iv (f.W)) rfl aC) (LF (v:=iv (f.H)) rfl aD) ⟨(by unfold LL;first|rw[if_pos (by assumption)]|rw[if_neg (by assumption)]),(ak.tr aA)⟩
 ·replace ab:=of_decide_eq_false ab
  refine Lf (KK (KM ?_))
  refine RZ [some 12,some 13,some 14,some 15,some 16,some 17,some 4,some 5] [Pd.eq (pt p1 0),Pd.eq (iv (f.W)),Pd.eq (iv (Int.tdiv f.W 2)),Pd.eq (pt p1 1),Pd.eq (iv (f.H)),Pd.eq (iv (Int.tdiv f.H 2)),Pd.eq (iv (Int.tdiv f.W 2)),Pd.eq (iv (Int.tdiv f.H 2))] (by kernel_rfl) (by kernel_rfl) ?_ ?_
  ·refine KP ?_ ?_
   ·refine Ld.one rfl fun F_ w_ hR hout hD=>?_
    exact(KU (n:=1) rfl ((hout 2 rfl (by decide)).trans ae) Tryz.underlying29 rfl (by kernel_rfl) (by decide) rfl ⟨rfl,KR.refl _ _⟩)
   refine KP ?_ ?_
   ·refine Ld.one rfl fun F_ w_ hR hout hD=>?_
    have aE:F_ 12=pt p1 0:=(hD.get 0 rfl rfl rfl)
    exact(KY rfl aE Tryz.underlying3 (B4.all hR id) rfl rfl ⟨rfl,KR.refl _ _⟩)
   refine KP ?_ ?_
   ·refine Ld.one rfl fun F_ w_ hR hout hD=>?_
    have aF:F_ 13=iv (f.W):=(hD.get 0 rfl rfl rfl)
    exact(O8 rfl aF rfl (by first|decide|omega) (Mn rfl (by rw[PH (by omega)];omega)) ⟨rfl,KR.refl _ _⟩)
   refine KP ?_ ?_
   ·refine Ld.one rfl fun F_ w_ hR hout hD=>?_
    exact(KU (n:=1) rfl ((hout 2 rfl (by decide)).trans ae) Tryz.underlying29 rfl (by kernel_rfl) (by decide) rfl ⟨rfl,KR.refl _ _⟩)
   refine KP ?_ ?_
   ·refine Ld.one rfl fun F_ w_ hR hout hD=>?_
    have aG:F_ 15=pt p1 1:=(hD.get 0 rfl rfl rfl)
    exact(KY rfl aG Tryz.underlying3 (B4.all hR id) rfl rfl ⟨rfl,KR.refl _ _⟩)
   refine KP ?_ ?_
   ·refine Ld.one rfl fun F_ w_ hR hout hD=>?_
    have aH:F_ 16=iv (f.H):=(hD.get 0 rfl rfl rfl)
    exact(O8 rfl aH rfl (by first|decide|omega) (Mn rfl (by rw[PH (by omega)];omega)) ⟨rfl,KR.refl _ _⟩)
   refine KP ?_ ?_
   ·refine Ld.one rfl fun F_ w_ hR hout hD=>?_
    have aI:F_ 14=iv (Int.tdiv f.W 2):=(hD.get 0 rfl rfl rfl)
    exact(Pv rfl aI ⟨rfl,KR.refl _ _⟩)
   refine KP ?_ ?_
   ·refine Ld.one rfl fun F_ w_ hR hout hD=>?_
    have aJ:F_ 17=iv (Int.tdiv f.H 2):=(hD.get 0 rfl rfl rfl)
    exact(Pv rfl aJ ⟨rfl,KR.refl _ _⟩)
   exact Mj
  intro aS ao aT aK aj ah
  have aL:=(ah 18).trans am
  have aM:ao 4=iv (Int.tdiv f.W 2):=(ah 4).trans (aj 6 (by decide))
  have aN:ao 5=iv (Int.tdiv f.H 2):=(ah 5).trans (aj 7 (by decide))
  clear aj ah
  refine KK (Le ?_)
  exact Mo aL rfl (LF (v:=iv (Int.tdiv f.W 2)) rfl aM) (LF (v:=iv (Int.tdiv f.H 2)) rfl aN) ⟨(by unfold LL;first|rw[if_pos (by assumption)]|rw[if_neg (by assumption)]),(ak.tr aK)⟩
theorem Yx{w h:Int}(h1:w%8=0)(h2:h%8=0)(hw:0<=w)(hh:0<=h):Int.tdiv w 2*Int.tdiv h 2=w*h/4:=by
 rw[PH hw,PH hh]
 obtain⟨a,rfl⟩:∃ a,w=2*a:=⟨w/2,by omega⟩
 obtain⟨b,rfl⟩:∃ b,h=2*b:=⟨h/2,by omega⟩
 rw[show 2*a/2=a by omega,show 2*b/2=b by omega,show 2*a*(2*b)=4*(a*b) by rw[Int.mul_assoc,Int.mul_left_comm a 2 b,← Int.mul_assoc];rfl]
 omega
theorem Sf{f:FD}(hw:Mz f.W=true)(hh:Mz f.H=true)(p:Int):0<=(LL f p).1*(LL f p).2/\(LL f p).1*(LL f p).2<=4096/\(LL f p).1*(LL f p).2=(if p=0 then f.W*f.H else f.W*f.H/4):=by
 have h:=OU hw hh
 have h1:=(MK _).1 hw
 have h2:=(MK _).1 hh
 unfold LL
 by_cases hp:p=0
 ·rw[if_pos hp,if_pos hp];refine⟨?_,?_,rfl⟩ <;> (dsimp only;omega)
 ·rw[if_neg hp,if_neg hp]
  have q:=Yx h1.2.2 h2.2.2 (by omega) (by omega)
  dsimp only
  rw[q];refine⟨?_,?_,rfl⟩ <;> omega
theorem Rl{f:FD}(hw:Mz f.W=true)(hh:Mz f.H=true):PD f↔(f.p0.length:Int)=(LL f ((0:Nat):Int)).1*(LL f ((0:Nat):Int)).2/\(f.p1.length:Int)=(LL f ((1:Nat):Int)).1*(LL f ((1:Nat):Int)).2/\(f.p2.length:Int)=(LL f ((2:Nat):Int)).1*(LL f ((2:Nat):Int)).2:=by
 have har:=OU hw hh
 rw[(Sf hw hh _).2.2,(Sf hw hh _).2.2,(Sf hw hh _).2.2,if_pos (show ((0:Nat):Int)=0 from rfl),if_neg (by decide),if_neg (by decide)]
 unfold PD
 rw[Zu (by omega)]
 exact⟨fun h=>h.2.2,fun h=>⟨hw,hh,h⟩⟩
theorem QT{f:FD}(hw:Mz f.W=true)(hh:Mz f.H=true)(h0:(f.p0.length:Int)=(LL f ((0:Nat):Int)).1*(LL f ((0:Nat):Int)).2)(h1:(f.p1.length:Int)=(LL f ((1:Nat):Int)).1*(LL f ((1:Nat):Int)).2)(h2:(f.p2.length:Int)=(LL f ((2:Nat):Int)).1*(LL f ((2:Nat):Int)).2):NU f=0:=aAL ((Rl hw hh).2 ⟨h0,h1,h2⟩)
theorem QM{f:FD}(hw:Mz f.W=true)(hh:Mz f.H=true)(h:(f.p0.length:Int)≠(LL f ((0:Nat):Int)).1*(LL f ((0:Nat):Int)).2):NU f=70:=O4 fun k=>h ((Rl hw hh).1 k).1
theorem QL{f:FD}(hw:Mz f.W=true)(hh:Mz f.H=true)(h:(f.p1.length:Int)≠(LL f ((1:Nat):Int)).1*(LL f ((1:Nat):Int)).2):NU f=70:=O4 fun k=>h ((Rl hw hh).1 k).2.1
theorem QO{f:FD}(hw:Mz f.W=true)(hh:Mz f.H=true)(h:(f.p2.length:Int)≠(LL f ((2:Nat):Int)).1*(LL f ((2:Nat):Int)).2):NU f=70:=O4 fun k=>h ((Rl hw hh).1 k).2.2
theorem NG(f:FD)(f0 f1 f2:Value)(T_f0:Nat->Prop)(T_f1:Nat->Prop)(T_f2:Nat->Prop)(w0:World)(h_f0:Mv w0 T_f0 f0 ((f).p0))(h_f1:Mv w0 T_f1 f1 ((f).p1))(h_f2:Mv w0 T_f2 f2 ((f).p2)) :
  Calls Tryz.prog 19 #[.agg #[.int .i64 ((f).W),.int .i64 ((f).H),f0,f1,f2]] w0 fun e w'=>e = .returned (.int .i64 (NU f))/\KR (fun _=>False) w0 w':=by
 refine Ly (args:=[.agg #[iv (f.W),iv (f.H),f0,f1,f2]]) 36 Tryz.func19 rfl rfl (Nat.le_of_ble_eq_true rfl) ?_
 have g_f0:=KS.refl w0 T_f0
 have g_f1:=KS.refl w0 T_f1
 have g_f2:=KS.refl w0 T_f2
 refine KM (KL (LJ (vs:=[iv (f.W),iv (f.H),f0,f1,f2]) rfl rfl rfl rfl fun p1 w2 B4 g5 k3=>?_))
 obtain⟨aR,aS,aT⟩:=Od k3 h_f0 h_f1 h_f2
 have ap:=(KR.refl (fun _=>False) w0).tr k3
 refine Lb (iv 0) LE (KQ ?_)
 have ac:=K4 (undef)
 have aa:=K4 (pt p1 0)
 refine KK (KM (KM ?_))
 rcases Bool.eq_false_or_eq_true (Mz (f.W)) with aj|aj
 ·skip
  rcases Bool.eq_false_or_eq_true (Mz (f.H)) with aq|aq
  ·skip
   refine KL (KN (pt p1 0) rr (KU (n:=1) rfl aa Tryz.underlying29 rfl (by kernel_rfl) (by decide) rfl rr) (KN (iv (f.W)) rr (KY rfl rfl Tryz.underlying3 B4 rfl rfl rr) (LH (R:=fun v_ w_=>v_ = .bool true/\KR (fun _=>False) w2 w_) rfl rfl (LQ rfl rfl rfl (fun _ _=>by kernel_rfl) (K6 _) (Lo rfl L5) (P0 (f.W)  _   ) (fun e_ w_ h_=>⟨_,h_.1,(congrArg Value.bool aj),h_.2⟩)) ?_)))
   rintro _ aU ⟨rfl,az⟩
   obtain⟨aV,aW,aX,aA⟩:=Pg az aR aS aT B4
   refine KN (.bool false) rr (Mq rfl rfl rfl rr) (KN (.bool false) rr (KT rfl rfl rr) (Lj (pt p1 1) 4 false 11 Li (KU (n:=1) rfl aa Tryz.underlying29 rfl (by kernel_rfl) (by decide) rfl rr) (Lj (iv (f.H)) 4 false 11 Li (KY rfl rfl Tryz.underlying3 aA rfl rfl rr) (LZ (R:=fun v_ w_=>v_ = .bool true/\KR (fun _=>False) aU w_) 4 false 11 rfl rfl rfl rfl rfl (LQ rfl rfl rfl (fun _ _=>by kernel_rfl) (K6 _) (Lo rfl L5) (P0 (f.H)  _   ) (fun e_ w_ h_=>⟨_,h_.1,(congrArg Value.bool aq),h_.2⟩)) ?_))))
   rintro _ bN ⟨rfl,aB⟩
   obtain⟨aC,aD,aE,ar⟩:=Pg aB aV aW aX aA
   refine Lj (.bool false) 4 false 11 Li (Mq rfl rfl rfl rr) (KN (.bool false) rr (Lt rfl rfl rfl rr) (KQ ?_))
   have aY:=K4 (.bool false)
   refine KK ?_
   refine K5 (t:=false) aY (fun e=>by cases e) (fun _=>?_)
   refine Lf (KK (KM (KM ?_)))
   have hsw:Mz f.W=true:=by assumption
   have hsh:Mz f.H=true:=by assumption
   have hws:=(MK _).1 hsw
   have hhs:=(MK _).1 hsh
   have hA:=Sf hsw hsh
   have har:=OU hsw hsh
   refine KL (KN (pt p1 2) rr (KU (n:=3) rfl aa Tryz.underlying29 rfl (by kernel_rfl) (by decide) rfl rr) (KN (.agg #[f0,f1,f2]) rr (aFk rfl rfl ar rfl rfl rfl rr) (KN (iv 0) rr (KT rfl rfl rr) (KQ ?_))))
   have au:=K4 (.agg #[f0,f1,f2])
   have ak:=K4 (iv 0)
   refine KK (Lm (OL 4 (Mh (KM (KL (KN (.bool true) rr (Mc rfl ak rfl rfl rr) (KQ ?_)))))))
   have aZ:=K4 (.bool true)
   refine KK (KM ?_)
   refine K5 (t:=true) aZ (fun _=>?_) (fun e=>by cases e)
   refine Lf (KK (KM (Lm (KM (KL (K2 Lw ak (KN f0 rr (ayN 0 rfl au ak (by decide) rfl rr) (Lb (iv 0) LE (Lb f0 LE (KQ ?_))))))))))
   have a8:=K4 (iv 0)
   have a9:=K4 (f0)
   refine KK (KM (KL (KN (.agg #[iv (f.W),iv (f.H),f0,f1,f2]) rr (KX La rfl aa ar rr) (K2 Lw a8 (L9 rfl rfl rfl rfl rfl (fun _ _=>by kernel_rfl) (Lo rfl (Lo rfl L5)) (Rd 0 f f0 f1 f2 T_f0 T_f1 T_f2 _ (by omega) (by omega) aC aD aE ) fun bO aF=>?_)))))
   obtain⟨av,aG,aH,aI⟩:=Pg aF aC aD aE ar
   have aJ:=((ap.tr az).tr aB).tr aF
   refine KN (.tuple #[iv ((LL f 0).1),iv ((LL f 0).2)]) rr (KT rfl rfl rr) (KN (iv ((LL f 0).1)) rr (LY rfl rfl rfl rr) (KN (iv ((LL f 0).2)) rr (LY rfl rfl rfl rr) (Lb (iv ((LL f 0).1)) LE (Lb (iv ((LL f 0).2)) LE (KQ ?_)))))
   have ba:=K4 (iv ((LL f 0).1))
   have bb:=K4 (iv ((LL f 0).2))
   refine KK (KM (KL (K2 Lw a9 (KN (iv (((f.p0).length:Nat):Int)) rr (Qv rfl rfl rfl av rr) (K2 Lw ba (K2 Lw bb (KN (iv ((LL f ((0:Nat):Int)).1*(LL f ((0:Nat):Int)).2)) rr (Nb rfl rfl rfl (Mn rfl ⟨Int.le_trans (by decide) (hA _).1,Int.le_trans (hA _).2.1 (by decide)⟩) rr) (KN (.bool (decide ((((f.p0).length:Nat):Int)≠((LL f ((0:Nat):Int)).1*(LL f ((0:Nat):Int)).2)))) rr (Mw rfl rfl rfl rfl rr) (KQ ?_)))))))))
   have bc:=K4 (.bool (decide ((((f.p0).length:Nat):Int)≠((LL f ((0:Nat):Int)).1*(LL f ((0:Nat):Int)).2))))
   refine KK ?_
   refine K5 bc (fun af=>?_) (fun af=>?_)
   ·replace af:=of_decide_eq_true af
    refine KM (KL (Lb (iv 70) LE (KQ ?_)))
    have bd:=K4 (iv 70)
    refine KK (Le (Ot (Lx (Lx (Ot (Lx ?_))))))
    exact LC (v:=iv 70) ac rfl rfl bd ⟨(by first|rw[QT hsw hsh (by first|assumption|(apply Decidable.byContradiction;assumption)) (by first|assumption|(apply Decidable.byContradiction;assumption)) (by first|assumption|(apply Decidable.byContradiction;assumption))]|rw[QM hsw hsh (by assumption)]|rw[QL hsw hsh (by assumption)]|rw[QO hsw hsh (by assumption)]|rw[O4 (by rintro ⟨h1,h2,h3,h4,h5⟩;simp_all;done)]),aJ⟩
   ·replace af:=of_decide_eq_false af
    refine Lf (Lz (KK (KL (KN (iv ((1:Nat):Int)) rr (LS rfl ak rfl (LX (by omega) (by omega)) rr) (KN (iv ((1:Nat):Int)) rr (KT rfl rfl rr) (KQ ?_))))))
    have am:=K4 (iv ((1:Nat):Int))
    refine KK (Mh (KM (KL (KN (.bool true) rr (Mc rfl am rfl rfl rr) (KQ ?_)))))
    have be:=K4 (.bool true)
    refine KK (KM ?_)
    refine K5 (t:=true) be (fun _=>?_) (fun e=>by cases e)
    refine Lf (KK (KM (Lm (KM (KL (K2 Lw am (KN f1 rr (ayN 1 rfl au am (by decide) rfl rr) (Lb (iv ((1:Nat):Int)) LE (Lb f1 LE (KQ ?_))))))))))
    have bf:=K4 (iv ((1:Nat):Int))
    have bg:=K4 (f1)
    refine KK (KM (KL (KN (.agg #[iv (f.W),iv (f.H),f0,f1,f2]) rr (KX La rfl aa aI rr) (K2 Lw bf (L9 rfl rfl rfl rfl rfl (fun _ _=>by kernel_rfl) (Lo rfl (Lo rfl L5)) (Rd ((1:Nat):Int) f f0 f1 f2 T_f0 T_f1 T_f2 _ (by omega) (by omega) av aG aH ) fun bP aK=>?_)))))
    obtain⟨bh,aL,aM,bi⟩:=Pg aK av aG aH aI
    have aN:=aJ.tr aK
    refine KN (.tuple #[iv ((LL f ((1:Nat):Int)).1),iv ((LL f ((1:Nat):Int)).2)]) rr (KT rfl rfl rr) (KN (iv ((LL f ((1:Nat):Int)).1)) rr (LY rfl rfl rfl rr) (KN (iv ((LL f ((1:Nat):Int)).2)) rr (LY rfl rfl rfl rr) (Lb (iv ((LL f ((1:Nat):Int)).1)) LE (Lb (iv ((LL f ((1:Nat):Int)).2)) LE (KQ ?_)))))
    have bj:=K4 (iv ((LL f ((1:Nat):Int)).1))
    have bl:=K4 (iv ((LL f ((1:Nat):Int)).2))
    refine KK (KM (KL (K2 Lw bg (KN (iv (((f.p1).length:Nat):Int)) rr (Qv rfl rfl rfl aL rr) (K2 Lw bj (K2 Lw bl (KN (iv ((LL f ((1:Nat):Int)).1*(LL f ((1:Nat):Int)).2)) rr (Nb rfl rfl rfl (Mn rfl ⟨Int.le_trans (by decide) (hA _).1,Int.le_trans (hA _).2.1 (by decide)⟩) rr) (KN (.bool (decide ((((f.p1).length:Nat):Int)≠((LL f ((1:Nat):Int)).1*(LL f ((1:Nat):Int)).2)))) rr (Mw rfl rfl rfl rfl rr) (KQ ?_)))))))))
    have bm:=K4 (.bool (decide ((((f.p1).length:Nat):Int)≠((LL f ((1:Nat):Int)).1*(LL f ((1:Nat):Int)).2))))
    refine KK ?_
    refine K5 bm (fun ah=>?_) (fun ah=>?_)
    ·replace ah:=of_decide_eq_true ah
     refine KM (KL (Lb (iv 70) LE (KQ ?_)))
     have bn:=K4 (iv 70)
     refine KK (Le (Ot (Lx (Lx (Ot (Lx ?_))))))
     exact LC (v:=iv 70) ac rfl rfl bn ⟨(by first|rw[QT hsw hsh (by first|assumption|(apply Decidable.byContradiction;assumption)) (by first|assumption|(apply Decidable.byContradiction;assumption)) (by first|assumption|(apply Decidable.byContradiction;assumption))]|rw[QM hsw hsh (by assumption)]|rw[QL hsw hsh (by assumption)]|rw[QO hsw hsh (by assumption)]|rw[O4 (by rintro ⟨h1,h2,h3,h4,h5⟩;simp_all;done)]),aN⟩
    ·replace ah:=of_decide_eq_false ah
     refine Lf (Lz (KK (KL (KN (iv ((2:Nat):Int)) rr (LS rfl am rfl (LX (by omega) (by omega)) rr) (KN (iv ((2:Nat):Int)) rr (KT rfl rfl rr) (KQ ?_))))))
     have an:=K4 (iv ((2:Nat):Int))
     refine KK (Mh (KM (KL (KN (.bool true) rr (Mc rfl an rfl rfl rr) (KQ ?_)))))
     have bo:=K4 (.bool true)
     refine KK (KM ?_)
     refine K5 (t:=true) bo (fun _=>?_) (fun e=>by cases e)
     refine Lf (KK (KM (Lm (KM (KL (K2 Lw an (KN f2 rr (ayN 2 rfl au an (by decide) rfl rr) (Lb (iv ((2:Nat):Int)) LE (Lb f2 LE (KQ ?_))))))))))
     have bp:=K4 (iv ((2:Nat):Int))
     have bq:=K4 (f2)
     refine KK (KM (KL (KN (.agg #[iv (f.W),iv (f.H),f0,f1,f2]) rr (KX La rfl aa bi rr) (K2 Lw bp (L9 rfl rfl rfl rfl rfl (fun _ _=>by kernel_rfl) (Lo rfl (Lo rfl L5)) (Rd ((2:Nat):Int) f f0 f1 f2 T_f0 T_f1 T_f2 _ (by omega) (by omega) bh aL aM ) fun bQ aO=>?_)))))
     have bt:=aM.all aO KO.none
     have aP:=aN.tr aO
     refine KN (.tuple #[iv ((LL f ((2:Nat):Int)).1),iv ((LL f ((2:Nat):Int)).2)]) rr (KT rfl rfl rr) (KN (iv ((LL f ((2:Nat):Int)).1)) rr (LY rfl rfl rfl rr) (KN (iv ((LL f ((2:Nat):Int)).2)) rr (LY rfl rfl rfl rr) (Lb (iv ((LL f ((2:Nat):Int)).1)) LE (Lb (iv ((LL f ((2:Nat):Int)).2)) LE (KQ ?_)))))
     have bu:=K4 (iv ((LL f ((2:Nat):Int)).1))
     have bv:=K4 (iv ((LL f ((2:Nat):Int)).2))
     refine KK (KM (KL (K2 Lw bq (KN (iv (((f.p2).length:Nat):Int)) rr (Qv rfl rfl rfl bt rr) (K2 Lw bu (K2 Lw bv (KN (iv ((LL f ((2:Nat):Int)).1*(LL f ((2:Nat):Int)).2)) rr (Nb rfl rfl rfl (Mn rfl ⟨Int.le_trans (by decide) (hA _).1,Int.le_trans (hA _).2.1 (by decide)⟩) rr) (KN (.bool (decide ((((f.p2).length:Nat):Int)≠((LL f ((2:Nat):Int)).1*(LL f ((2:Nat):Int)).2)))) rr (Mw rfl rfl rfl rfl rr) (KQ ?_)))))))))
     have bz:=K4 (.bool (decide ((((f.p2).length:Nat):Int)≠((LL f ((2:Nat):Int)).1*(LL f ((2:Nat):Int)).2))))
     refine KK ?_
     refine K5 bz (fun ai=>?_) (fun ai=>?_)
     ·replace ai:=of_decide_eq_true ai
      refine KM (KL (Lb (iv 70) LE (KQ ?_)))
      have bA:=K4 (iv 70)
      refine KK (Le (Ot (Lx (Lx (Ot (Lx ?_))))))
      exact LC (v:=iv 70) ac rfl rfl bA ⟨(by first|rw[QT hsw hsh (by first|assumption|(apply Decidable.byContradiction;assumption)) (by first|assumption|(apply Decidable.byContradiction;assumption)) (by first|assumption|(apply Decidable.byContradiction;assumption))]|rw[QM hsw hsh (by assumption)]|rw[QL hsw hsh (by assumption)]|rw[QO hsw hsh (by assumption)]|rw[O4 (by rintro ⟨h1,h2,h3,h4,h5⟩;simp_all;done)]),aP⟩
     ·replace ai:=of_decide_eq_false ai
      refine Lf (Lz (KK (KL (KN (iv ((3:Nat):Int)) rr (LS rfl an rfl (LX (by omega) (by omega)) rr) (KN (iv ((3:Nat):Int)) rr (KT rfl rfl rr) (KQ ?_))))))
      have bB:=K4 (iv ((3:Nat):Int))
      refine KK (Mh (KM (KL (KN (.bool false) rr (Mc rfl bB rfl rfl rr) (KQ ?_)))))
      have bC:=K4 (.bool false)
      refine KK (KM ?_)
      refine K5 (t:=false) bC (fun e=>by cases e) (fun _=>?_)
      refine Mm (Lp (Lp (Mk (KK (KM (KL (Lb (iv 0) LE (KQ ?_))))))))
      have bD:=K4 (iv 0)
      refine KK (Le ?_)
      exact LC (v:=iv 0) ac rfl rfl bD ⟨(by first|rw[QT hsw hsh (by first|assumption|(apply Decidable.byContradiction;assumption)) (by first|assumption|(apply Decidable.byContradiction;assumption)) (by first|assumption|(apply Decidable.byContradiction;assumption))]|rw[QM hsw hsh (by assumption)]|rw[QL hsw hsh (by assumption)]|rw[QO hsw hsh (by assumption)]|rw[O4 (by rintro ⟨h1,h2,h3,h4,h5⟩;simp_all;done)]),aP⟩
  ·skip
   refine KL (KN (pt p1 0) rr (KU (n:=1) rfl aa Tryz.underlying29 rfl (by kernel_rfl) (by decide) rfl rr) (KN (iv (f.W)) rr (KY rfl rfl Tryz.underlying3 B4 rfl rfl rr) (LH (R:=fun v_ w_=>v_ = .bool true/\KR (fun _=>False) w2 w_) rfl rfl (LQ rfl rfl rfl (fun _ _=>by kernel_rfl) (K6 _) (Lo rfl L5) (P0 (f.W)  _   ) (fun e_ w_ h_=>⟨_,h_.1,(congrArg Value.bool aj),h_.2⟩)) ?_)))
   rintro _ bE ⟨rfl,aQ⟩
   have bF:=B4.all aQ id
   refine KN (.bool false) rr (Mq rfl rfl rfl rr) (KN (.bool false) rr (KT rfl rfl rr) (Lj (pt p1 1) 4 false 11 Li (KU (n:=1) rfl aa Tryz.underlying29 rfl (by kernel_rfl) (by decide) rfl rr) (Lj (iv (f.H)) 4 false 11 Li (KY rfl rfl Tryz.underlying3 bF rfl rfl rr) (LZ (R:=fun v_ w_=>v_ = .bool false/\KR (fun _=>False) bE w_) 4 false 11 rfl rfl rfl rfl rfl (LQ rfl rfl rfl (fun _ _=>by kernel_rfl) (K6 _) (Lo rfl L5) (P0 (f.H)  _   ) (fun e_ w_ h_=>⟨_,h_.1,(congrArg Value.bool aq),h_.2⟩)) ?_))))
   rintro _ bR ⟨rfl,bG⟩
   refine Lj (.bool true) 4 false 11 Li (Mq rfl rfl rfl rr) (KN (.bool true) rr (Lt rfl rfl rfl rr) (KQ ?_))
   have bH:=K4 (.bool true)
   refine KK ?_
   refine K5 (t:=true) bH (fun _=>?_) (fun e=>by cases e)
   refine KM (KL (Lb (iv 70) LE (KQ ?_)))
   have bI:=K4 (iv 70)
   refine KK (Le (Lx ?_))
   exact LC (v:=iv 70) ac rfl rfl bI ⟨(by first|rw[QT hsw hsh (by first|assumption|(apply Decidable.byContradiction;assumption)) (by first|assumption|(apply Decidable.byContradiction;assumption)) (by first|assumption|(apply Decidable.byContradiction;assumption))]|rw[QM hsw hsh (by assumption)]|rw[QL hsw hsh (by assumption)]|rw[QO hsw hsh (by assumption)]|rw[O4 (by rintro ⟨h1,h2,h3,h4,h5⟩;simp_all;done)]),((ap.tr aQ).tr bG)⟩
 ·skip
  refine KL (KN (pt p1 0) rr (KU (n:=1) rfl aa Tryz.underlying29 rfl (by kernel_rfl) (by decide) rfl rr) (KN (iv (f.W)) rr (KY rfl rfl Tryz.underlying3 B4 rfl rfl rr) (LH (R:=fun v_ w_=>v_ = .bool false/\KR (fun _=>False) w2 w_) rfl rfl (LQ rfl rfl rfl (fun _ _=>by kernel_rfl) (K6 _) (Lo rfl L5) (P0 (f.W)  _   ) (fun e_ w_ h_=>⟨_,h_.1,(congrArg Value.bool aj),h_.2⟩)) ?_)))
  rintro _ bS ⟨rfl,bJ⟩
  refine KN (.bool true) rr (Mq rfl rfl rfl rr) (KN (.bool true) rr (KT rfl rfl rr) (Lq 4 false 11 Li (Lq 4 false 11 Li (Lq 4 false 11 Li (Lq 4 false 11 Li (KN (.bool true) rr (LB rfl rfl rfl rr) (KQ ?_)))))))
  have bK:=K4 (.bool true)
  refine KK ?_
  refine K5 (t:=true) bK (fun _=>?_) (fun e=>by cases e)
  refine KM (KL (Lb (iv 70) LE (KQ ?_)))
  have bL:=K4 (iv 70)
  refine KK (Le (Lx ?_))
  exact LC (v:=iv 70) ac rfl rfl bL ⟨(by first|rw[QT hsw hsh (by first|assumption|(apply Decidable.byContradiction;assumption)) (by first|assumption|(apply Decidable.byContradiction;assumption)) (by first|assumption|(apply Decidable.byContradiction;assumption))]|rw[QM hsw hsh (by assumption)]|rw[QL hsw hsh (by assumption)]|rw[QO hsw hsh (by assumption)]|rw[O4 (by rintro ⟨h1,h2,h3,h4,h5⟩;simp_all;done)]),(ap.tr bJ)⟩
theorem TT(v:Value)(l:List Nat)(w y:Int)(T_s:Nat->Prop)(w0:World)(hw:0<=w/\w<=64)(hy:0<=y/\y<=64)(hl:y*w+w<=(l.length:Int))(hyw:0<=y*w/\y*w<=4096)(h_s:Mv w0 T_s v (l)) :
  Calls Tryz.prog 56 #[v,.int .i64 (w),.int .i64 (y)] w0 fun e w'=>e = .returned (MO (v) ((y*w).toNat) ((y*w+w).toNat) ((y*w+w).toNat))/\KR (fun _=>False) w0 w':=by
 refine Ly (args:=[v,iv w,iv y]) 20 Tryz.func56 rfl rfl (Nat.le_of_ble_eq_true rfl) ?_
 have g_s:=KS.refl w0 T_s
 refine KM (KL (Lb (.slice none 0 0) LE (KQ ?_)))
 have s3:=K4 (v)
 have s4:=K4 (iv w)
 have s5:=K4 (iv y)
 have s6:=K4 (undef)
 refine KK (KM (KL (K2 Lw s3 (K2 Lw s5 (K2 Lw s4 (KN (iv (y*w)) rr (Nb rfl rfl rfl (Mn rfl (by omega)) rr) (K2 Lw s5 (KN (iv (y+1)) rr (LS rfl rfl rfl (Mn rfl (by omega)) rr) (K2 Lw s4 (KN (iv (y*w+w)) rr (Nb rfl rfl rfl (Mn (by rw[Int.add_mul,Int.one_mul]) (by omega)) rr) (K2 Lw s5 ?_)))))))))))
 refine KN (iv (y+1)) rr (LS rfl rfl rfl (Mn rfl (by omega)) rr) (K2 Lw s4 (KN (iv (y*w+w)) rr (Nb rfl rfl rfl (Mn (by rw[Int.add_mul,Int.one_mul]) (by omega)) rr) (KN (MO v ((y*w).toNat) ((y*w+w).toNat) ((y*w+w).toNat)) rr (aEJ ((y*w).toNat) ((y*w+w).toNat) ((y*w+w).toNat) rfl rfl rfl rfl rfl (by omega) (by omega) (by omega) h_s (by omega) (by omega) (by omega) rr) (Lb (MO v ((y*w).toNat) ((y*w+w).toNat) ((y*w+w).toNat)) LE (KQ ?_)))))
 have af:=K4 (MO v ((y*w).toNat) ((y*w+w).toNat) ((y*w+w).toNat))
 refine KK (Le ?_)
 exact LC (v:=MO v ((y*w).toNat) ((y*w+w).toNat) ((y*w+w).toNat)) s6 rfl rfl af ⟨rfl,(KR.refl (fun _=>False) w0)⟩
def St(l:List Nat)(w h x y:Int):Int:=((l.getD ((max 0 (min y (h-1))*w).toNat+(max 0 (min x (w-1))).toNat) 0:Nat):Int)
theorem TU(v:Value)(l:List Nat)(w h x y:Int)(T_s:Nat->Prop)(w0:World)(hw:0<w/\w<=64)(hh:0<h/\h<=64)(hl:max 0 (min y (h-1))*w+w<=(l.length:Int))(hyw:0<=max 0 (min y (h-1))*w/\max 0 (min y (h-1))*w<=4096)(h_s:Mv w0 T_s v (l)) :
  Calls Tryz.prog 169 #[v,.int .i64 (w),.int .i64 (h),.int .i64 (x),.int .i64 (y)] w0 fun e w'=>e = .returned (.int .i64 (St l w h x y))/\KR (fun _=>False) w0 w':=by
 refine Ly (args:=[v,iv w,iv h,iv x,iv y]) 25 Tryz.func169 rfl rfl (Nat.le_of_ble_eq_true rfl) ?_
 have g_s:=KS.refl w0 T_s
 refine KM (KL (Lb (iv 0) LE (KQ ?_)))
 have s3:=K4 (v)
 have s4:=K4 (iv w)
 have s5:=K4 (iv h)
 have s6:=K4 (iv x)
 have s7:=K4 (iv y)
 have s8:=K4 (undef)
 refine KK (KM (KL (K2 Lw s3 (K2 Lw s4 (K2 Lw s7 (K2 Lw s5 (KN (iv (h-1)) rr (V8 rfl rfl rfl (Mn rfl (by omega)) rr) (L9 rfl rfl rfl rfl rfl (fun _ _=>by kernel_rfl) (Lo rfl (Lo rfl (Lo rfl L5))) (OA y 0 (h-1)  _   ) fun w9 ac=>?_))))))))
 have ae:=h_s.all ac KO.none
 refine L9 rfl rfl rfl rfl rfl (fun _ _=>by kernel_rfl) (Lo rfl (Lo rfl (Lo rfl L5))) (TT v l w (max 0 (min y (h-1))) T_s _ (by omega) (by omega) (by exact hl) (by exact hyw) ae ) fun ao af=>?_
 have ap:=ae.all af KO.none
 refine K2 Lw s6 (K2 Lw s4 (KN (iv (w-1)) rr (V8 rfl rfl rfl (Mn rfl (by omega)) rr) (LH (R:=fun v_ w_=>v_=iv (((max 0 (min x (w-1))).toNat:Nat):Int)/\KR (fun _=>False) ao w_) rfl rfl (LQ rfl rfl rfl (fun _ _=>by kernel_rfl) (K6 _) (Lo rfl (Lo rfl (Lo rfl L5))) (OA x 0 (w-1)  _   ) (fun e_ w_ h_=>⟨_,h_.1,congrArg (Value.int .i64) (by omega),h_.2⟩)) ?_)))
 rintro _ au ⟨rfl,ah⟩
 have aa:=ap.all ah KO.none
 refine KN (NC v (((max 0 (min y (h-1)))*w).toNat+(max 0 (min x (w-1))).toNat)) rr (aGb ((max 0 (min x (w-1))).toNat) rfl rfl rfl (by omega) aa (by omega) (by have hc_:=aa.cap;omega) (by omega) (by have hc_:=aa.cap;omega) (by omega) rr) ?_
 have av:=Rk aa.lt256 (((max 0 (min y (h-1)))*w).toNat+(max 0 (min x (w-1))).toNat)
 refine KN (.int .u8 ((l.getD (((max 0 (min y (h-1)))*w).toNat+(max 0 (min x (w-1))).toNat) 0:Nat):Int)) rr (azW rfl rfl aa (by omega) rr) (KN (iv ((l.getD (((max 0 (min y (h-1)))*w).toNat+(max 0 (min x (w-1))).toNat) 0:Nat):Int)) rr (N1 rfl rfl Tryz.underlying5 Tryz.underlying3 (Mn rfl (by omega)) rr) (Lb (iv ((l.getD (((max 0 (min y (h-1)))*w).toNat+(max 0 (min x (w-1))).toNat) 0:Nat):Int)) LE (KQ ?_)))
 have aq:=K4 (iv ((l.getD (((max 0 (min y (h-1)))*w).toNat+(max 0 (min x (w-1))).toNat) 0:Nat):Int))
 refine KK (Le ?_)
 exact LC (v:=iv ((l.getD (((max 0 (min y (h-1)))*w).toNat+(max 0 (min x (w-1))).toNat) 0:Nat):Int)) s8 rfl rfl aq ⟨rfl,((((KR.refl (fun _=>False) w0).tr ac).tr af).tr ah)⟩
theorem azJ(n:Int)(w0:World) :
  Calls Tryz.prog 77 #[.int .i64 (n)] w0 fun e w'=>e = .returned (.int .i64 (LU n))/\KR (fun _=>False) w0 w':=by
 refine Ly (args:=[iv n]) 5 Tryz.func77 rfl rfl (Nat.le_of_ble_eq_true rfl) ?_
 refine KM (KL (Lb (iv 0) LE (KQ ?_)))
 have s3:=K4 (iv n)
 have s4:=K4 (undef)
 refine KK (KM (KL (K2 Lw s3 (LH (R:=fun v_ w_=>v_=iv (LU n)/\KR (fun _=>False) w0 w_) rfl rfl (LQ rfl rfl rfl (fun _ _=>by kernel_rfl) (K6 _) (Lo rfl (Lo rfl (Lo rfl L5))) (OA n (-64) 128  _   ) (fun e_ w_ h_=>⟨_,h_.1,congrArg (Value.int .i64) (by unfold LU;omega),h_.2⟩)) ?_))))
 rintro _ w5 ⟨rfl,k6⟩
 refine Lb (iv (LU n)) LE (KQ ?_)
 have ae:=K4 (iv (LU n))
 refine KK (Le ?_)
 exact LC (v:=iv (LU n)) s4 rfl rfl ae ⟨rfl,((KR.refl (fun _=>False) w0).tr k6)⟩
theorem azo{f:FD}{p:Int}(y:Int)(h:(Lc f p).1≠0):max 0 (min y ((Lc f p).2-1))*(Lc f p).1+(Lc f p).1<=((f.pl p).length:Int)/\0<=max 0 (min y ((Lc f p).2-1))*(Lc f p).1/\max 0 (min y ((Lc f p).2-1))*(Lc f p).1<=4096:=by
 have h2:=Vr (Lc f p).1 y h
 have hb:=NF f p
 have hs:=NW (N7 h)
 rw[show max 0 (min y ((Lc f p).2-1))=min (max y 0) ((Lc f p).2-1) by omega]
 unfold Sv at h2
 omega
theorem VT{f:FD}{p:Int}(x y:Int)(h:(Lc f p).1≠0):St (f.pl p) (Lc f p).1 (Lc f p).2 x y=NY f p x y:=by
 have hc:=Vr x y h
 have hb:=NF f p
 have hs:=NW (N7 h)
 rw[W6 x y h]
 unfold St
 have e:(Sv f p x y).toNat=(max 0 (min y ((Lc f p).2-1))*(Lc f p).1).toNat+(max 0 (min x ((Lc f p).1-1))).toNat:=by
  rw[show max 0 (min y ((Lc f p).2-1))=min (max y 0) ((Lc f p).2-1) by omega,show max 0 (min x ((Lc f p).1-1))=min (max x 0) ((Lc f p).1-1) by omega]
  unfold Sv at *
  rw[Int.toNat_add (by omega) (by omega)]
 rw[e]
theorem Uh(p:Int)(f:FD)(f0 f1 f2:Value)(T_f0:Nat->Prop)(T_f1:Nat->Prop)(T_f2:Nat->Prop)(w0:World)(h_f0:Mv w0 T_f0 f0 ((f).p0))(h_f1:Mv w0 T_f1 f1 ((f).p1))(h_f2:Mv w0 T_f2 f2 ((f).p2)) :
  Calls Tryz.prog 55 #[.agg #[.int .i64 ((f).W),.int .i64 ((f).H),f0,f1,f2],.int .i64 (p)] w0 fun e w'=>e = .returned (.tuple #[.int .i64 ((Lc f p).1),.int .i64 ((Lc f p).2)])/\KR (fun _=>False) w0 w':=by
 refine Ly (args:=[.agg #[iv (f.W),iv (f.H),f0,f1,f2],iv p]) 22 Tryz.func55 rfl rfl (Nat.le_of_ble_eq_true rfl) ?_
 have g_f0:=KS.refl w0 T_f0
 have g_f1:=KS.refl w0 T_f1
 have g_f2:=KS.refl w0 T_f2
 refine KM (KL (LJ (vs:=[iv (f.W),iv (f.H),f0,f1,f2]) rfl rfl rfl rfl fun p1 w2 B4 g5 k3=>?_))
 obtain⟨aj,ak,am⟩:=Od k3 h_f0 h_f1 h_f2
 have ae:=(KR.refl (fun _=>False) w0).tr k3
 refine Lb (iv 0) LE (Lb (iv 0) LE (KQ ?_))
 have aa:=K4 (iv p)
 have ac:=K4 (undef)
 have an:=K4 (pt p1 0)
 refine KK (KM (KM ?_))
 by_cases af:p<0
 ·skip
  refine KL (K2 Lw aa (KN (.bool true) rr (Mc rfl rfl rfl (decide_eq_true af) rr) (KN (.bool true) rr (KT rfl rfl rr) (Lq 2 false 8 Li (Lq 2 false 8 Li (KN (.bool true) rr (LB rfl rfl rfl rr) (KN (.bool true) rr (KT rfl rfl rr) (Lq 6 false 12 Li (Lq 6 false 12 Li (Lq 6 false 12 Li (KN (.bool true) rr (LB rfl rfl rfl rr) ?_)))))))))))
  refine KQ ?_
  have av:=K4 (.bool true)
  refine KK ?_
  refine K5 (t:=true) av (fun _=>?_) (fun e=>by cases e)
  refine KM (KL (Lb (iv 0) LE (Lb (iv 0) LE (KQ ?_))))
  have aw:=K4 (iv 0)
  have az:=K4 (iv 0)
  refine KK (Le (Lx ?_))
  exact Mo ac rfl (LF (v:=iv 0) rfl aw) (LF (v:=iv 0) rfl az) ⟨(by first|rw[he]|rw[Qa (by rintro ⟨h1,h2,h3⟩;first|exact absurd ((MP f).2 h1) (by assumption)|omega)]),ae⟩
 ·skip
  by_cases ao:3<=p
  ·skip
   refine KL (K2 Lw aa (KN (.bool false) rr (Mc rfl rfl rfl (decide_eq_false af) rr) (KN (.bool false) rr (KT rfl rfl rr) (Lj (iv p) 2 false 8 Li (KT rfl aa rr) (Lj (.bool true) 2 false 8 Li (NO rfl rfl rfl (decide_eq_true ao) rr) (KN (.bool true) rr (Lt rfl rfl rfl rr) (KN (.bool true) rr (KT rfl rfl rr) (Lq 6 false 12 Li (Lq 6 false 12 Li (Lq 6 false 12 Li (KN (.bool true) rr (LB rfl rfl rfl rr) ?_)))))))))))
   refine KQ ?_
   have aA:=K4 (.bool true)
   refine KK ?_
   refine K5 (t:=true) aA (fun _=>?_) (fun e=>by cases e)
   refine KM (KL (Lb (iv 0) LE (Lb (iv 0) LE (KQ ?_))))
   have aB:=K4 (iv 0)
   have aC:=K4 (iv 0)
   refine KK (Le (Lx ?_))
   exact Mo ac rfl (LF (v:=iv 0) rfl aB) (LF (v:=iv 0) rfl aC) ⟨(by first|rw[he]|rw[Qa (by rintro ⟨h1,h2,h3⟩;first|exact absurd ((MP f).2 h1) (by assumption)|omega)]),ae⟩
  ·skip
   refine KL (K2 Lw aa (KN (.bool false) rr (Mc rfl rfl rfl (decide_eq_false af) rr) (KN (.bool false) rr (KT rfl rfl rr) (Lj (iv p) 2 false 8 Li (KT rfl aa rr) (Lj (.bool false) 2 false 8 Li (NO rfl rfl rfl (decide_eq_false ao) rr) (KN (.bool false) rr (Lt rfl rfl rfl rr) (KN (.bool false) rr (KT rfl rfl rr) (Lj (.agg #[iv (f.W),iv (f.H),f0,f1,f2]) 6 false 12 Li (KX La rfl an B4 rr) (LZ (R:=fun v_ w_=>v_=iv (NU f)/\KR (fun _=>False) w2 w_) 6 false 12 rfl rfl rfl rfl rfl (LQ rfl rfl rfl (fun _ _=>by kernel_rfl) (K6 _) (Lo rfl L5) (NG f f0 f1 f2 T_f0 T_f1 T_f2 _  aj ak am ) (fun e_ w_ h_=>⟨_,h_.1,rfl,h_.2⟩)) ?_)))))))))
   rintro _ aO ⟨rfl,ap⟩
   obtain⟨aD,aE,aF,aG⟩:=Pg ap aj ak am B4
   have aq:=ae.tr ap
   refine Lj (.bool (decide ((NU f)≠0))) 6 false 12 Li (Mw rfl rfl rfl rfl rr) (KN (.bool (decide ((NU f)≠0))) rr (Lt rfl rfl rfl rr) (KQ ?_))
   have aH:=K4 (.bool (decide ((NU f)≠0)))
   refine KK ?_
   refine K5 aH (fun ab=>?_) (fun ab=>?_)
   ·replace ab:=of_decide_eq_true ab
    refine KM (KL (Lb (iv 0) LE (Lb (iv 0) LE (KQ ?_))))
    have aI:=K4 (iv 0)
    have aJ:=K4 (iv 0)
    refine KK (Le (Lx ?_))
    exact Mo ac rfl (LF (v:=iv 0) rfl aI) (LF (v:=iv 0) rfl aJ) ⟨(by first|rw[he]|rw[Qa (by rintro ⟨h1,h2,h3⟩;first|exact absurd ((MP f).2 h1) (by assumption)|omega)]),aq⟩
   ·replace ab:=of_decide_eq_false ab
    refine Lf (KK (KM ?_))
    have hok:=(MP f).1 (by first|assumption|(apply Decidable.byContradiction;assumption))
    have hws:=(MK _).1 hok.1
    have hhs:=(MK _).1 hok.2.1
    have he:Lc f p=LL f p:=by unfold Lc LL;rw[if_pos ⟨hok,by omega,by omega⟩]
    refine KL (KN (.agg #[iv (f.W),iv (f.H),f0,f1,f2]) rr (KX La rfl an aG rr) (K2 Lw aa (L9 rfl rfl rfl rfl rfl (fun _ _=>by kernel_rfl) (Lo rfl (Lo rfl L5)) (Rd p f f0 f1 f2 T_f0 T_f1 T_f2 _ (by omega) (by omega) aD aE aF ) fun aP aK=>?_)))
    refine KN (iv ((LL f p).1)) rr (LY rfl rfl rfl rr) (KN (iv ((LL f p).2)) rr (LY rfl rfl rfl rr) (Lb (iv ((LL f p).1)) LE (Lb (iv ((LL f p).2)) LE (KQ ?_))))
    have aL:=K4 (iv ((LL f p).1))
    have aM:=K4 (iv ((LL f p).2))
    refine KK (Le ?_)
    exact Mo ac rfl (LF (v:=iv ((LL f p).1)) rfl aL) (LF (v:=iv ((LL f p).2)) rfl aM) ⟨(by first|rw[he]|rw[Qa (by rintro ⟨h1,h2,h3⟩;first|exact absurd ((MP f).2 h1) (by assumption)|omega)]),(aq.tr aK)⟩
theorem Uz(p x y:Int)(f:FD)(f0 f1 f2:Value)(T_f0:Nat->Prop)(T_f1:Nat->Prop)(T_f2:Nat->Prop)(w0:World)(h_f0:Mv w0 T_f0 f0 ((f).p0))(h_f1:Mv w0 T_f1 f1 ((f).p1))(h_f2:Mv w0 T_f2 f2 ((f).p2)) :
  Calls Tryz.prog 157 #[.agg #[.int .i64 ((f).W),.int .i64 ((f).H),f0,f1,f2],.int .i64 (p),.int .i64 (x),.int .i64 (y)] w0 fun e w'=>e = .returned (.int .i64 (NY f p x y))/\KR (fun _=>False) w0 w':=by
 refine Ly (args:=[.agg #[iv (f.W),iv (f.H),f0,f1,f2],iv p,iv x,iv y]) 28 Tryz.func157 rfl rfl (Nat.le_of_ble_eq_true rfl) ?_
 have g_f0:=KS.refl w0 T_f0
 have g_f1:=KS.refl w0 T_f1
 have g_f2:=KS.refl w0 T_f2
 refine KM (KL (LJ (vs:=[iv (f.W),iv (f.H),f0,f1,f2]) rfl rfl rfl rfl fun p1 w2 B4 g5 k3=>?_))
 obtain⟨aq,ar,au⟩:=Od k3 h_f0 h_f1 h_f2
 refine Lb (iv 0) LE (KQ ?_)
 have ac:=K4 (iv p)
 have aj:=K4 (iv x)
 have ak:=K4 (iv y)
 have ae:=K4 (undef)
 have af:=K4 (pt p1 0)
 refine KK (KM (KL (KN (.agg #[iv (f.W),iv (f.H),f0,f1,f2]) rr (KX La rfl af B4 rr) (K2 Lw ac (L9 rfl rfl rfl rfl rfl (fun _ _=>by kernel_rfl) (Lo rfl (Lo rfl L5)) (Uh p f f0 f1 f2 T_f0 T_f1 T_f2 _  aq ar au ) fun aL av=>?_)))))
 obtain⟨aw,az,aA,am⟩:=Pg av aq ar au B4
 have ah:=((KR.refl (fun _=>False) w0).tr k3).tr av
 refine KN (.tuple #[iv ((Lc f p).1),iv ((Lc f p).2)]) rr (KT rfl rfl rr) (KN (iv ((Lc f p).1)) rr (LY rfl rfl rfl rr) (KN (iv ((Lc f p).2)) rr (LY rfl rfl rfl rr) (Lb (iv ((Lc f p).1)) LE (Lb (iv ((Lc f p).2)) LE (KQ ?_)))))
 have ai:=K4 (iv ((Lc f p).1))
 have an:=K4 (iv ((Lc f p).2))
 refine KK (KM (KM (KL (K2 Lw ai (KN (.bool (decide (((Lc f p).1)=0))) rr (MA rfl rfl rfl rfl rr) (KQ ?_))))))
 have aB:=K4 (.bool (decide (((Lc f p).1)=0)))
 refine KK ?_
 refine K5 aB (fun ab=>?_) (fun ab=>?_)
 ·replace ab:=of_decide_eq_true ab
  refine KM (KL (Lb (iv 0) LE (KQ ?_)))
  have aC:=K4 (iv 0)
  refine KK (Le (Lx ?_))
  exact LC (v:=iv 0) ae rfl rfl aC ⟨(by first|rw[SW x y (by assumption)]|(rw[← VT x y hsz];rfl)),ah⟩
 ·replace ab:=of_decide_eq_false ab
  refine Lf (KK (KM ?_))
  rcases (show p=0\/p=1\/p=2 from TY (f:=f) (by assumption)) with rfl|rfl|rfl
  ·skip
   have hsz:(Lc f 0).1≠0:=by assumption
   have hb:=NF f 0
   have hsp:=NW (N7 hsz)
   have hr:=azo y hsz
   refine KL (K2 Lw ac (KN (pt p1 2) rr (KU (n:=3) rfl af Tryz.underlying29 rfl (by kernel_rfl) (by decide) rfl rr) (KN (pt p1 2) rr (L3 0 (s:=1) rfl rfl rfl (by omega) Tryz.underlying27 (by omega) (by kernel_rfl) (by omega) rr) (KN f0 rr (KY rfl rfl Tryz.underlying26 am rfl rfl rr) (K2 Lw ai (K2 Lw an (K2 Lw aj (K2 Lw ak (L9 rfl rfl rfl rfl rfl (fun _ _=>by kernel_rfl) (Lo rfl (Lo rfl (Lo rfl (Lo rfl (Lo rfl L5))))) (TU f0 (f.p0) ((Lc f 0).1) ((Lc f 0).2) x y T_f0 _ (by omega) (by omega) (by exact hr.1) (by exact hr.2) aw ) fun aM aD=>?_)))))))))
   refine Lb (iv (St (f.p0) ((Lc f 0).1) ((Lc f 0).2) x y)) LE (KQ ?_)
   have aE:=K4 (iv (St (f.p0) ((Lc f 0).1) ((Lc f 0).2) x y))
   refine KK (Le ?_)
   exact LC (v:=iv (St (f.p0) ((Lc f 0).1) ((Lc f 0).2) x y)) ae rfl rfl aE ⟨(by first|rw[SW x y (by assumption)]|(rw[← VT x y hsz];rfl)),(ah.tr aD)⟩
  ·skip
   have hsz:(Lc f 1).1≠0:=by assumption
   have hb:=NF f 1
   have hsp:=NW (N7 hsz)
   have hr:=azo y hsz
   refine KL (K2 Lw ac (KN (pt p1 2) rr (KU (n:=3) rfl af Tryz.underlying29 rfl (by kernel_rfl) (by decide) rfl rr) (KN (pt p1 3) rr (L3 1 (s:=1) rfl rfl rfl (by omega) Tryz.underlying27 (by omega) (by kernel_rfl) (by omega) rr) (KN f1 rr (KY rfl rfl Tryz.underlying26 am rfl rfl rr) (K2 Lw ai (K2 Lw an (K2 Lw aj (K2 Lw ak (L9 rfl rfl rfl rfl rfl (fun _ _=>by kernel_rfl) (Lo rfl (Lo rfl (Lo rfl (Lo rfl (Lo rfl L5))))) (TU f1 (f.p1) ((Lc f 1).1) ((Lc f 1).2) x y T_f1 _ (by omega) (by omega) (by exact hr.1) (by exact hr.2) az ) fun aN aF=>?_)))))))))
   refine Lb (iv (St (f.p1) ((Lc f 1).1) ((Lc f 1).2) x y)) LE (KQ ?_)
   have aG:=K4 (iv (St (f.p1) ((Lc f 1).1) ((Lc f 1).2) x y))
   refine KK (Le ?_)
   exact LC (v:=iv (St (f.p1) ((Lc f 1).1) ((Lc f 1).2) x y)) ae rfl rfl aG ⟨(by first|rw[SW x y (by assumption)]|(rw[← VT x y hsz];rfl)),(ah.tr aF)⟩
  ·skip
   have hsz:(Lc f 2).1≠0:=by assumption
   have hb:=NF f 2
   have hsp:=NW (N7 hsz)
   have hr:=azo y hsz
   refine KL (K2 Lw ac (KN (pt p1 2) rr (KU (n:=3) rfl af Tryz.underlying29 rfl (by kernel_rfl) (by decide) rfl rr) (KN (pt p1 4) rr (L3 2 (s:=1) rfl rfl rfl (by omega) Tryz.underlying27 (by omega) (by kernel_rfl) (by omega) rr) (KN f2 rr (KY rfl rfl Tryz.underlying26 am rfl rfl rr) (K2 Lw ai (K2 Lw an (K2 Lw aj (K2 Lw ak (L9 rfl rfl rfl rfl rfl (fun _ _=>by kernel_rfl) (Lo rfl (Lo rfl (Lo rfl (Lo rfl (Lo rfl L5))))) (TU f2 (f.p2) ((Lc f 2).1) ((Lc f 2).2) x y T_f2 _ (by omega) (by omega) (by exact hr.1) (by exact hr.2) aA ) fun aO aH=>?_)))))))))
   refine Lb (iv (St (f.p2) ((Lc f 2).1) ((Lc f 2).2) x y)) LE (KQ ?_)
   have aI:=K4 (iv (St (f.p2) ((Lc f 2).1) ((Lc f 2).2) x y))
   refine KK (Le ?_)
   exact LC (v:=iv (St (f.p2) ((Lc f 2).1) ((Lc f 2).2) x y)) ae rfl rfl aI ⟨(by first|rw[SW x y (by assumption)]|(rw[← VT x y hsz];rfl)),(ah.tr aH)⟩
def Rc(a b:Nat):Nat->Nat
 | 0=>a
 | _=>b
theorem Si(a b k:Nat):Rc a b k=a\/Rc a b k=b:=by cases k <;> simp[Rc]
theorem MC{w h:Int}(s:Nat)(hw:Mz w=true)(hh:Mz h=true):(LR w h s).W=w/\(LR w h s).H=h:=by rw[Qe s hw hh];exact⟨rfl,rfl⟩
theorem ayH{f:FD}(h:PD f):(LR f.W f.H 0).p0.length=f.p0.length/\(LR f.W f.H 0).p1.length=f.p1.length/\(LR f.W f.H 0).p2.length=f.p2.length:=by
 have h3:=h.2.2
 have hw:=YE 0 h.1 h.2.1
 have h4:=hw.2.2
 have e:=MC 0 h.1 h.2.1
 rw[e.1,e.2] at h4
 omega
theorem Zf(w h:Int)(w0:World)(hsw:Mz w=true)(hsh:Mz h=true) :
  Calls Tryz.prog 50 #[.int .i64 (w),.int .i64 (h)] w0 fun e w'=>∃ (v1:Value) (T1:Nat->Prop) (v2:Value) (T2:Nat->Prop) (v3:Value) (T3:Nat->Prop),e = .returned (.agg #[.int .i64 ((LR w h 0).W),.int .i64 ((LR w h 0).H),v1,v2,v3])/\KR (fun _=>False) w0 w'/\(Md w' T1 v1 ((LR w h 0).p0)/\KS w0 Mb T1)/\(Md w' T2 v2 ((LR w h 0).p1)/\KS w0 Mb T2)/\(Md w' T3 v3 ((LR w h 0).p2)/\KS w0 Mb T3)/\KO T1 T2/\KO T1 T3/\KO T2 T3:=by
 refine Ly (args:=[iv w,iv h]) 30 Tryz.func50 rfl rfl (Nat.le_of_ble_eq_true rfl) ?_
 have K0:=KR.refl (fun _=>False) w0
 have hws:=(MK _).1 hsw
 have hhs:=(MK _).1 hsh
 have har:=OU hsw hsh
 obtain⟨n0,hn0⟩:∃ n:Nat,(n:Int)=w*h:=⟨(w*h).toNat,by omega⟩
 obtain⟨n1,hn1⟩:∃ n:Nat,(n:Int)=Int.tdiv w 2*Int.tdiv h 2:=⟨(Int.tdiv w 2*Int.tdiv h 2).toNat,Int.toNat_of_nonneg (Int.mul_nonneg (by rw[PH (by omega)];omega) (by rw[PH (by omega)];omega))⟩
 have hq:(n1:Int)=w*h/4:=by rw[hn1];exact Yx hws.2.2 hhs.2.2 (by omega) (by omega)
 have hF:LR w h 0=⟨w,h,List.replicate n0 0,List.replicate n1 0,List.replicate n1 0⟩:=by rw[Qe 0 hsw hsh,← hq,← hn0,Int.toNat_natCast,Int.toNat_natCast]
 refine KM (KL (LN (n:=5) (vs:=[iv 0,iv 0,.slice none 0 0,.slice none 0 0,.slice none 0 0]) rfl rfl rfl (by kernel_rfl) fun p1 w2 B4 g5 k3=>?_))
 have K7:=K0.tr k3
 refine KQ ?_
 have bA:=K4 (iv w)
 have bB:=K4 (iv h)
 have bC:=K4 (undef)
 have aG:=K4 (pt p1 0)
 refine KK (KM (KL (K2 Lw bA (K2 Lw bB (KN (.agg #[iv w,iv h,.slice none 0 0,.slice none 0 0,.slice none 0 0]) rr (Ma (l':=[(0,iv w),(1,iv h)]) (cells:=#[iv w,iv h,.slice none 0 0,.slice none 0 0,.slice none 0 0]) rfl (RW rfl (RW rfl Rj)) (by kernel_rfl) rfl rr) (LN (n:=5) (vs:=[iv 0,iv 0,.slice none 0 0,.slice none 0 0,.slice none 0 0]) rfl rfl rfl (by kernel_rfl) fun ae cz bD aH aI=>?_))))))
 have am:=KS.new K7 aH
 have an:=KO.new aH (L8 B4.lt)
 have bE:=B4.all aI id
 refine Ll (us:=[iv w,iv h,.slice none 0 0,.slice none 0 0,.slice none 0 0]) La rfl rfl rfl rfl rfl bD rfl (Yq LE (L4 rfl MX)) fun cA aJ aK=>?_
 have bF:=bE.all aK (an.symm p1 rfl)
 refine KQ ?_
 have ah:=K4 (pt ae 0)
 refine KK (KM (KM (KL (KN (iv 0) rr (KT rfl rfl rr) (KQ ?_)))))
 have au:=K4 (iv 0)
 refine KK (Lm (OL 4 (Mh (KM (KL (KN (.bool true) rr (Mc rfl au rfl rfl rr) (KQ ?_)))))))
 have bG:=K4 (.bool true)
 refine KK (KM ?_)
 refine K5 (t:=true) bG (fun _=>?_) (fun e=>by cases e)
 refine Lf (KK (KM (Lm (KM (KL (K2 Lw au (Lb (iv 0) LE (KQ ?_))))))))
 have aL:=K4 (iv 0)
 refine KK (KM (KL (KN (.agg #[iv w,iv h,.slice none 0 0,.slice none 0 0,.slice none 0 0]) rr (KX La rfl ah aJ rr) (K2 Lw aL (L9 rfl rfl rfl rfl rfl (fun _ _=>by kernel_rfl) (Lo rfl (Lo rfl L5)) (Rd 0 (FD.mk w h ([]) ([]) ([])) (.slice none 0 0) (.slice none 0 0) (.slice none 0 0) Mb Mb Mb _ (by dsimp only;omega) (by dsimp only;omega) (Mv.nil _) (Mv.nil _) (Mv.nil _) ) fun cB aM=>?_)))))
 obtain⟨aN,aO⟩:=Oe aM bF aJ
 have aP:=((K7.tr aI).trans aK (KS.ok (S:=fun _=>False) am KZ)).tr aM
 refine KN (.tuple #[iv ((LL (FD.mk w h ([]) ([]) ([])) 0).1),iv ((LL (FD.mk w h ([]) ([]) ([])) 0).2)]) rr (KT rfl rfl rr) (KN (iv ((LL (FD.mk w h ([]) ([]) ([])) 0).1)) rr (LY rfl rfl rfl rr) (KN (iv ((LL (FD.mk w h ([]) ([]) ([])) 0).2)) rr (LY rfl rfl rfl rr) (Lb (iv ((LL (FD.mk w h ([]) ([]) ([])) 0).1)) LE (Lb (iv ((LL (FD.mk w h ([]) ([]) ([])) 0).2)) LE (KQ ?_)))))
 have bH:=K4 (iv ((LL (FD.mk w h ([]) ([]) ([])) 0).1))
 have bI:=K4 (iv ((LL (FD.mk w h ([]) ([]) ([])) 0).2))
 refine KK ?_
 have hpq:=Si n0 n1 0
 refine KL (K2 Lw aL (K2 Lw bH (K2 Lw bI (KN (iv (((Rc n0 n1 0):Nat):Int)) rr (Nb rfl rfl rfl (by first|exact(Mn rfl (by show _<=w*h/\w*h<=_;omega)).trans (hn0.symm)|exact(Mn rfl (by show _<=Int.tdiv w 2*Int.tdiv h 2/\Int.tdiv w 2*Int.tdiv h 2<=_;omega)).trans hn1.symm) rr) (Wn (n:=(Rc n0 n1 0)) rfl rfl rfl rfl rfl (by omega) (by omega) (by omega) fun ac cC av aQ aR aS=>?_)))))
 obtain⟨bJ,aw⟩:=UJ aR aN aO
 obtain⟨bK,bL⟩:=Oe aS aN aO
 refine KN (pt ae 2) rr (KU (n:=3) rfl ah Tryz.underlying29 rfl (by kernel_rfl) (by decide) rfl rr) (KN (pt ae 2) rr (L3 0 (s:=1) rfl rfl rfl (by omega) Tryz.underlying27 (by omega) (by kernel_rfl) (by omega) rr) (Nx rfl rfl rfl rfl rfl bL rfl aQ.oneC (by kernel_rfl) fun bM ao az=>?_))
 replace ao:MJ bM ae 29 [iv w,iv h,ac,.slice none 0 0,.slice none 0 0]:=ao
 have bN:=bK.all az (an.symm p1 rfl)
 have aT:=aQ.all az aw
 refine KQ ?_
 refine Lz (KK (KL (KN (iv ((1:Nat):Int)) rr (LS rfl au rfl (LX (by omega) (by omega)) rr) (KN (iv ((1:Nat):Int)) rr (KT rfl rfl rr) (KQ ?_)))))
 have aA:=K4 (iv ((1:Nat):Int))
 refine KK (Mh (KM (KL (KN (.bool true) rr (Mc rfl aA rfl rfl rr) (KQ ?_)))))
 have bO:=K4 (.bool true)
 refine KK (KM ?_)
 refine K5 (t:=true) bO (fun _=>?_) (fun e=>by cases e)
 refine Lf (KK (KM (Lm (KM (KL (K2 Lw aA (Lb (iv ((1:Nat):Int)) LE (KQ ?_))))))))
 have aU:=K4 (iv ((1:Nat):Int))
 refine KK (KM (KL (KN (.agg #[iv w,iv h,ac,.slice none 0 0,.slice none 0 0]) rr (KX La rfl ah ao rr) (K2 Lw aU (L9 rfl rfl rfl rfl rfl (fun _ _=>by kernel_rfl) (Lo rfl (Lo rfl L5)) (Rd ((1:Nat):Int) (FD.mk w h (List.replicate (Rc n0 n1 0) 0) ([]) ([])) ac (.slice none 0 0) (.slice none 0 0) av Mb Mb _ (by dsimp only;omega) (by dsimp only;omega) aT.byt (Mv.nil _) (Mv.nil _) ) fun cD aV=>?_)))))
 obtain⟨aW,aX,aY⟩:=Od aV bN ao aT
 have aZ:=((aP.tr aS).trans az (KS.ok (S:=fun _=>False) am KZ)).tr aV
 refine KN (.tuple #[iv ((LL (FD.mk w h (List.replicate (Rc n0 n1 0) 0) ([]) ([])) ((1:Nat):Int)).1),iv ((LL (FD.mk w h (List.replicate (Rc n0 n1 0) 0) ([]) ([])) ((1:Nat):Int)).2)]) rr (KT rfl rfl rr) (KN (iv ((LL (FD.mk w h (List.replicate (Rc n0 n1 0) 0) ([]) ([])) ((1:Nat):Int)).1)) rr (LY rfl rfl rfl rr) (KN (iv ((LL (FD.mk w h (List.replicate (Rc n0 n1 0) 0) ([]) ([])) ((1:Nat):Int)).2)) rr (LY rfl rfl rfl rr) (Lb (iv ((LL (FD.mk w h (List.replicate (Rc n0 n1 0) 0) ([]) ([])) ((1:Nat):Int)).1)) LE (Lb (iv ((LL (FD.mk w h (List.replicate (Rc n0 n1 0) 0) ([]) ([])) ((1:Nat):Int)).2)) LE (KQ ?_)))))
 have bP:=K4 (iv ((LL (FD.mk w h (List.replicate (Rc n0 n1 0) 0) ([]) ([])) ((1:Nat):Int)).1))
 have bQ:=K4 (iv ((LL (FD.mk w h (List.replicate (Rc n0 n1 0) 0) ([]) ([])) ((1:Nat):Int)).2))
 refine KK ?_
 have hpq:=Si n0 n1 1
 refine KL (K2 Lw aU (K2 Lw bP (K2 Lw bQ (KN (iv (((Rc n0 n1 1):Nat):Int)) rr (Nb rfl rfl rfl (by first|exact(Mn rfl (by show _<=w*h/\w*h<=_;omega)).trans (hn0.symm)|exact(Mn rfl (by show _<=Int.tdiv w 2*Int.tdiv h 2/\Int.tdiv w 2*Int.tdiv h 2<=_;omega)).trans hn1.symm) rr) (Wn (n:=(Rc n0 n1 1)) rfl rfl rfl rfl rfl (by omega) (by omega) (by omega) fun af cE a8 a9 ba bb=>?_)))))
 obtain⟨bR,bc,bS⟩:=Us ba aW aX aY
 obtain⟨bT,bU,bV⟩:=Od bb aW aX aY
 refine KN (pt ae 2) rr (KU (n:=3) rfl ah Tryz.underlying29 rfl (by kernel_rfl) (by decide) rfl rr) (KN (pt ae 3) rr (L3 1 (s:=1) rfl rfl rfl (by omega) Tryz.underlying27 (by omega) (by kernel_rfl) (by omega) rr) (Nx rfl rfl rfl rfl rfl bU rfl a9.oneC (by kernel_rfl) fun bW ap aq=>?_))
 replace ap:MJ bW ae 29 [iv w,iv h,ac,af,.slice none 0 0]:=ap
 have bX:=bT.all aq (an.symm p1 rfl)
 have bd:=bV.all aq aw
 have be:=a9.all aq bc
 refine KQ ?_
 refine Lz (KK (KL (KN (iv ((2:Nat):Int)) rr (LS rfl aA rfl (LX (by omega) (by omega)) rr) (KN (iv ((2:Nat):Int)) rr (KT rfl rfl rr) (KQ ?_)))))
 have aB:=K4 (iv ((2:Nat):Int))
 refine KK (Mh (KM (KL (KN (.bool true) rr (Mc rfl aB rfl rfl rr) (KQ ?_)))))
 have bY:=K4 (.bool true)
 refine KK (KM ?_)
 refine K5 (t:=true) bY (fun _=>?_) (fun e=>by cases e)
 refine Lf (KK (KM (Lm (KM (KL (K2 Lw aB (Lb (iv ((2:Nat):Int)) LE (KQ ?_))))))))
 have bf:=K4 (iv ((2:Nat):Int))
 refine KK (KM (KL (KN (.agg #[iv w,iv h,ac,af,.slice none 0 0]) rr (KX La rfl ah ap rr) (K2 Lw bf (L9 rfl rfl rfl rfl rfl (fun _ _=>by kernel_rfl) (Lo rfl (Lo rfl L5)) (Rd ((2:Nat):Int) (FD.mk w h (List.replicate (Rc n0 n1 0) 0) (List.replicate (Rc n0 n1 1) 0) ([])) ac af (.slice none 0 0) av a8 Mb _ (by dsimp only;omega) (by dsimp only;omega) bd.byt be.byt (Mv.nil _) ) fun cF bg=>?_)))))
 obtain⟨bh,bi,bj,bl⟩:=Pg bg bX ap bd be
 have bm:=((aZ.tr bb).trans aq (KS.ok (S:=fun _=>False) am KZ)).tr bg
 refine KN (.tuple #[iv ((LL (FD.mk w h (List.replicate (Rc n0 n1 0) 0) (List.replicate (Rc n0 n1 1) 0) ([])) ((2:Nat):Int)).1),iv ((LL (FD.mk w h (List.replicate (Rc n0 n1 0) 0) (List.replicate (Rc n0 n1 1) 0) ([])) ((2:Nat):Int)).2)]) rr (KT rfl rfl rr) (KN (iv ((LL (FD.mk w h (List.replicate (Rc n0 n1 0) 0) (List.replicate (Rc n0 n1 1) 0) ([])) ((2:Nat):Int)).1)) rr (LY rfl rfl rfl rr) (KN (iv ((LL (FD.mk w h (List.replicate (Rc n0 n1 0) 0) (List.replicate (Rc n0 n1 1) 0) ([])) ((2:Nat):Int)).2)) rr (LY rfl rfl rfl rr) (Lb (iv ((LL (FD.mk w h (List.replicate (Rc n0 n1 0) 0) (List.replicate (Rc n0 n1 1) 0) ([])) ((2:Nat):Int)).1)) LE (Lb (iv ((LL (FD.mk w h (List.replicate (Rc n0 n1 0) 0) (List.replicate (Rc n0 n1 1) 0) ([])) ((2:Nat):Int)).2)) LE (KQ ?_)))))
 have bZ:=K4 (iv ((LL (FD.mk w h (List.replicate (Rc n0 n1 0) 0) (List.replicate (Rc n0 n1 1) 0) ([])) ((2:Nat):Int)).1))
 have b7:=K4 (iv ((LL (FD.mk w h (List.replicate (Rc n0 n1 0) 0) (List.replicate (Rc n0 n1 1) 0) ([])) ((2:Nat):Int)).2))
 refine KK ?_
 have hpq:=Si n0 n1 2
 refine KL (K2 Lw bf (K2 Lw bZ (K2 Lw b7 (KN (iv (((Rc n0 n1 2):Nat):Int)) rr (Nb rfl rfl rfl (by first|exact(Mn rfl (by show _<=w*h/\w*h<=_;omega)).trans (hn0.symm)|exact(Mn rfl (by show _<=Int.tdiv w 2*Int.tdiv h 2/\Int.tdiv w 2*Int.tdiv h 2<=_;omega)).trans hn1.symm) rr) (Wn (n:=(Rc n0 n1 2)) rfl rfl rfl rfl rfl (by omega) (by omega) (by omega) fun aj cG b8 bn bo bp=>?_)))))
 obtain⟨b9,cd,ce,cf⟩:=WI bo bh bi bj bl
 obtain⟨cg,ci,cj,cm⟩:=Pg bp bh bi bj bl
 refine KN (pt ae 2) rr (KU (n:=3) rfl ah Tryz.underlying29 rfl (by kernel_rfl) (by decide) rfl rr) (KN (pt ae 4) rr (L3 2 (s:=1) rfl rfl rfl (by omega) Tryz.underlying27 (by omega) (by kernel_rfl) (by omega) rr) (Nx rfl rfl rfl rfl rfl ci rfl bn.oneC (by kernel_rfl) fun cn aC ak=>?_))
 replace aC:MJ cn ae 29 [iv w,iv h,ac,af,aj]:=aC
 have co:=cg.all ak (an.symm p1 rfl)
 have bq:=cj.all ak aw
 have bt:=cm.all ak bc
 have bu:=bn.all ak cd
 refine KQ ?_
 refine Lz (KK (KL (KN (iv ((3:Nat):Int)) rr (LS rfl aB rfl (LX (by omega) (by omega)) rr) (KN (iv ((3:Nat):Int)) rr (KT rfl rfl rr) (KQ ?_)))))
 have cq:=K4 (iv ((3:Nat):Int))
 refine KK (Mh (KM (KL (KN (.bool false) rr (Mc rfl cq rfl rfl rr) (KQ ?_)))))
 have cr:=K4 (.bool false)
 refine KK (KM ?_)
 refine K5 (t:=false) cr (fun e=>by cases e) (fun _=>?_)
 refine Mm (Lp (Lp (Mk (KK (KM (KL (KN (.agg #[iv w,iv h,ac,af,aj]) rr (KX La rfl ah aC rr) (Ll (us:=[iv w,iv h,ac,af,aj]) La rfl rfl rfl aG rfl co rfl (Qc rr (L4 bq.one (L4 bt.one (L4 bu.one MX)))) fun cH ct ar=>?_))))))))
 have cu:=bq.all ar bJ
 have cv:=bt.all ar bR
 have cw:=bu.all ar b9
 refine KQ ?_
 refine KK (Le ?_)
 exact Po (vs:=[iv w,iv h,ac,af,aj]) La bC rfl rfl aG ct ⟨ac,av,af,a8,aj,b8,(by rw[hF]),(((bm.tr bp).trans ak (KS.ok (S:=fun _=>False) am KZ)).trans ar (KS.ok (S:=fun _=>False) (KS.new K0 g5) KZ)),⟨(by rw[hF];exact cu),(KS.new aP aR)⟩,⟨(by rw[hF];exact cv),(KS.new aZ ba)⟩,⟨(by rw[hF];exact cw),(KS.new bm bo)⟩,bS.symm,ce.symm,cf.symm⟩
theorem aDC(f:FD)(f0 f1 f2:Value)(T_f0:Nat->Prop)(T_f1:Nat->Prop)(T_f2:Nat->Prop)(w0:World)(h_f0:Mv w0 T_f0 f0 ((f).p0))(h_f1:Mv w0 T_f1 f1 ((f).p1))(h_f2:Mv w0 T_f2 f2 ((f).p2)) :
  Calls Tryz.prog 18 #[.agg #[.int .i64 ((f).W),.int .i64 ((f).H),f0,f1,f2]] w0 fun e w'=>∃ (v1:Value) (T1:Nat->Prop) (v2:Value) (T2:Nat->Prop) (v3:Value) (T3:Nat->Prop),e = .returned (.agg #[.int .i64 ((Nj f).W),.int .i64 ((Nj f).H),v1,v2,v3])/\KR (fun _=>False) w0 w'/\(Md w' T1 v1 ((Nj f).p0)/\KS w0 Mb T1)/\(Md w' T2 v2 ((Nj f).p1)/\KS w0 Mb T2)/\(Md w' T3 v3 ((Nj f).p2)/\KS w0 Mb T3)/\KO T1 T2/\KO T1 T3/\KO T2 T3:=by
 refine Ly (args:=[.agg #[iv (f.W),iv (f.H),f0,f1,f2]]) 28 Tryz.func18 rfl rfl (Nat.le_of_ble_eq_true rfl) ?_
 have g_f0:=KS.refl w0 T_f0
 have g_f1:=KS.refl w0 T_f1
 have g_f2:=KS.refl w0 T_f2
 refine KM (KL (LJ (vs:=[iv (f.W),iv (f.H),f0,f1,f2]) rfl rfl rfl rfl fun p1 w2 B4 g5 k3=>?_))
 obtain⟨co,cq,cr⟩:=Od k3 h_f0 h_f1 h_f2
 have aW:=(KR.refl (fun _=>False) w0).tr k3
 refine LN (n:=5) (vs:=[iv 0,iv 0,.slice none 0 0,.slice none 0 0,.slice none 0 0]) rfl rfl rfl (by kernel_rfl) fun ap en ct aj aX=>?_
 have aY:=KS.new aW aj
 obtain⟨aZ,a8,a9,ba⟩:=Pg aX co cq cr B4
 refine KQ ?_
 have bb:=K4 (undef)
 have aq:=K4 (pt p1 0)
 have aK:=K4 (pt ap 0)
 refine KK (KM (KM (KL (KN (.agg #[iv (f.W),iv (f.H),f0,f1,f2]) rr (KX La rfl aq ba rr) (L9 rfl rfl rfl rfl rfl (fun _ _=>by kernel_rfl) (Lo rfl L5) (NG f f0 f1 f2 T_f0 T_f1 T_f2 _  aZ a8 a9 ) fun aF bc=>?_)))))
 obtain⟨cu,bd,aL,ar,au⟩:=O6 bc aZ a8 a9 ba ct
 have av:=(aW.tr aX).tr bc
 refine KN (.bool (decide ((NU f)≠0))) rr (Mw rfl rfl rfl rfl rr) (KQ ?_)
 have cv:=K4 (.bool (decide ((NU f)≠0)))
 refine KK ?_
 refine K5 cv (fun aw=>?_) (fun aw=>?_)
 ·replace aw:=of_decide_eq_true aw
  refine KM ?_
  have hno:¬ PD f:=fun h=>absurd ((MP f).2 h) (by assumption)
  refine KL (KN (.agg #[iv 0,iv 0,.slice none 0 0,.slice none 0 0,.slice none 0 0]) rr (Ma (l':=[]) (cells:=#[iv 0,iv 0,.slice none 0 0,.slice none 0 0,.slice none 0 0]) rfl Rj (by kernel_rfl) rfl rr) (Ll (us:=[iv 0,iv 0,.slice none 0 0,.slice none 0 0,.slice none 0 0]) La rfl rfl rfl aK rfl au rfl (Yq LE (L4 rfl MX)) fun eo cw cy=>?_))
  refine KQ ?_
  refine KK (Le (Lx ?_))
  exact Po (vs:=[iv 0,iv 0,.slice none 0 0,.slice none 0 0,.slice none 0 0]) La bb rfl rfl aK cw ⟨(.slice none 0 0),Mb,(.slice none 0 0),Mb,(.slice none 0 0),Mb,(by first|rw[NL hok,(MC 0 hok.1 hok.2.1).1,(MC 0 hok.1 hok.2.1).2]|rw[PP hno];rfl),(av.trans cy (KS.ok (S:=fun _=>False) aY KZ)),⟨(by first|(rw[NL hok];exact(Md.nil _))|(rw[PP hno];exact(Md.nil _))),(KS.refl _ _)⟩,⟨(by first|(rw[NL hok];exact(Md.nil _))|(rw[PP hno];exact(Md.nil _))),(KS.refl _ _)⟩,⟨(by first|(rw[NL hok];exact(Md.nil _))|(rw[PP hno];exact(Md.nil _))),(KS.refl _ _)⟩,KO.none,KO.none,KO.none⟩
 ·replace aw:=of_decide_eq_false aw
  refine Lf (KK (KM ?_))
  have hok:=(MP f).1 (by first|assumption|(apply Decidable.byContradiction;assumption))
  have hmost:=aEa hok
  have hnl:=ayH hok
  refine KL (KN (pt p1 0) rr (KU (n:=1) rfl aq Tryz.underlying29 rfl (by kernel_rfl) (by decide) rfl rr) (KN (iv (f.W)) rr (KY rfl rfl Tryz.underlying3 ar rfl rfl rr) (KN (pt p1 1) rr (KU (n:=1) rfl aq Tryz.underlying29 rfl (by kernel_rfl) (by decide) rfl rr) (KN (iv (f.H)) rr (KY rfl rfl Tryz.underlying3 ar rfl rfl rr) (LH (R:=fun v_ w_=>∃ (ac:Value) (am:Nat->Prop) (ae:Value) (an:Nat->Prop) (af:Value) (ao:Nat->Prop),.agg #[iv ((LR (f.W) (f.H) 0).W),iv ((LR (f.W) (f.H) 0).H),ac,ae,af]=v_/\KR (fun _=>False) aF w_/\(Md w_ am ac ((LR (f.W) (f.H) 0).p0)/\KS aF Mb am)/\(Md w_ an ae ((LR (f.W) (f.H) 0).p1)/\KS aF Mb an)/\(Md w_ ao af ((LR (f.W) (f.H) 0).p2)/\KS aF Mb ao)/\KO am an/\KO am ao/\KO an ao) rfl rfl (LQ rfl rfl rfl (fun _ _=>by kernel_rfl) (K6 _) (Lo rfl (Lo rfl L5)) (Zf (f.W) (f.H)  _ hok.1 hok.2.1  ) (fun e_ w_ h_=>by obtain⟨v61_,T66_,v62_,T67_,v63_,T68_,he_,hr_⟩:=h_;exact⟨_,he_,v61_,T66_,v62_,T67_,v63_,T68_,rfl,hr_⟩)) ?_)))))
  rintro _ ep ⟨ac,am,ae,an,af,ao,rfl,be,⟨bf,bg⟩,⟨bh,bi⟩,⟨bj,bl⟩,aM,aN,aO⟩
  obtain⟨bm,bn,bo,bp,bq⟩:=O6 be cu bd aL ar au
  have bt:=av.tr be
  have bu:=KS.new av bg
  obtain⟨cz,cA,cB,bv⟩:=WI bg bd aL ar au
  have bz:=KS.new av bi
  obtain⟨cC,cD,bA⟩:=Us bi aL ar au
  have bB:=KS.new av bl
  have bC:=KO.new bl (L8 au.lt)
  refine LN (n:=5) (vs:=[iv 0,iv 0,.slice none 0 0,.slice none 0 0,.slice none 0 0]) rfl rfl rfl (by kernel_rfl) fun ab er cE bD bE=>?_
  obtain⟨cF,cG,cH,cI,cJ,bF,bG,bH⟩:=Zp bD bm bn bo bp bq bf bh bj
  obtain⟨cK,cL,cM,cN,cO,bI,bJ,bK⟩:=Yf bE bm bn bo bp bq bf bh bj
  refine Ll (us:=[iv ((LR (f.W) (f.H) 0).W),iv ((LR (f.W) (f.H) 0).H),ac,ae,af]) La rfl rfl rfl rfl rfl cE rfl (Qc rr (L4 bI.one (L4 bJ.one (L4 bK.one MX)))) fun et bL ah=>?_
  have cP:=cK.all ah cF.symm
  have cQ:=cL.all ah cG.symm
  have cR:=cM.all ah cH.symm
  have bM:=cN.all ah (cI.symm p1 rfl)
  have cS:=cO.all ah (cJ.symm ap rfl)
  have cT:=bI.all ah bF.symm
  have cU:=bJ.all ah bG.symm
  have cV:=bK.all ah bH.symm
  refine KQ ?_
  have bN:=K4 (pt ab 0)
  refine KK (KM (KM (KL (KN (iv 0) rr (KT rfl rfl rr) (KQ ?_)))))
  have aP:=K4 (iv 0)
  refine KK (Lm (OL 4 (Mh (KM (KL (KN (.bool true) rr (Mc rfl aP rfl rfl rr) (KQ ?_)))))))
  have cW:=K4 (.bool true)
  refine KK (KM ?_)
  refine K5 (t:=true) cW (fun _=>?_) (fun e=>by cases e)
  refine Lf (KK (KM (Lm (KM (KL (K2 Lw aP (Lb (iv 0) LE (KQ ?_))))))))
  have bO:=K4 (iv 0)
  refine KK ?_
  refine NJ 8 [some 17,some 18,some 19,some 20,some 21,some 22,some 23,some 24] [Pd.eq (iv 0),Pd.eq (pt ab 2),Pd.eq (pt ab 2),Pd.eq ac,Pd.eq (iv 0),Pd.eq (pt p1 2),Pd.eq (pt p1 2),Pd.eq f0] (by kernel_rfl) (by kernel_rfl) (by kernel_rfl) ?_ ?_
  ·refine KP ?_ ?_
   ·refine Ld.one rfl fun F_ w_ hR hout hD=>?_
    exact(KT rfl ((hout 4 rfl (by decide)).trans bO) ⟨rfl,KR.refl _ _⟩)
   refine KP ?_ ?_
   ·refine Ld.one rfl fun F_ w_ hR hout hD=>?_
    exact(KU (n:=3) rfl ((hout 3 rfl (by decide)).trans bN) Tryz.underlying29 rfl (by kernel_rfl) (by decide) rfl ⟨rfl,KR.refl _ _⟩)
   refine KP ?_ ?_
   ·refine Ld.one rfl fun F_ w_ hR hout hD=>?_
    have aj:F_ 18=pt ab 2:=(hD.get 0 rfl rfl rfl)
    have az:F_ 17=iv 0:=(hD.get 1 rfl rfl rfl)
    exact(L3 0 (s:=1) rfl aj az (by omega) Tryz.underlying27 (by omega) (by kernel_rfl) (by omega) ⟨rfl,KR.refl _ _⟩)
   refine KP ?_ ?_
   ·refine Ld.one rfl fun F_ w_ hR hout hD=>?_
    have aA:F_ 19=pt ab 2:=(hD.get 0 rfl rfl rfl)
    exact(KY rfl aA Tryz.underlying26 (bL.all hR id) rfl rfl ⟨rfl,KR.refl _ _⟩)
   refine KP ?_ ?_
   ·refine Ld.one rfl fun F_ w_ hR hout hD=>?_
    exact(KT rfl ((hout 4 rfl (by decide)).trans bO) ⟨rfl,KR.refl _ _⟩)
   refine KP ?_ ?_
   ·refine Ld.one rfl fun F_ w_ hR hout hD=>?_
    exact(KU (n:=3) rfl ((hout 1 rfl (by decide)).trans aq) Tryz.underlying29 rfl (by kernel_rfl) (by decide) rfl ⟨rfl,KR.refl _ _⟩)
   refine KP ?_ ?_
   ·refine Ld.one rfl fun F_ w_ hR hout hD=>?_
    have aB:F_ 22=pt p1 2:=(hD.get 0 rfl rfl rfl)
    have aC:F_ 21=iv 0:=(hD.get 1 rfl rfl rfl)
    exact(L3 0 (s:=1) rfl aB aC (by omega) Tryz.underlying27 (by omega) (by kernel_rfl) (by omega) ⟨rfl,KR.refl _ _⟩)
   refine KP ?_ ?_
   ·refine Ld.one rfl fun F_ w_ hR hout hD=>?_
    have aD:F_ 23=pt p1 2:=(hD.get 0 rfl rfl rfl)
    exact(KY rfl aD Tryz.underlying26 (bM.all hR id) rfl rfl ⟨rfl,KR.refl _ _⟩)
   exact Mj
  intro eu bP ew bQ aQ aG
  obtain⟨cX,cY,cZ,c5,c6,c7,c9,da,db⟩:=aA9 bQ cP cQ cR bM cS cT cU cV bL
  obtain⟨dc,bR,dd,bS,de⟩:=t5 aG 28 bb 1 aq 2 aK 3 bN 14 aP
  have dg:bP 20=ac:=(aG 20).trans (aQ 3 (by decide))
  have dh:bP 24=f0:=(aG 24).trans (aQ 7 (by decide))
  clear aQ aG
  refine WA rfl rfl rfl rfl dg dh c7 cX (by first|exact hnl.1|exact hnl.2.1|exact hnl.2.2) fun ex di ai=>?_
  have dj:=cY.all ai cz.symm
  have dk:=cZ.all ai cA.symm
  have bT:=c5.all ai (cB.symm p1 rfl)
  have dl:=c6.all ai (bv.symm ap rfl)
  have dm:=c9.all ai aM.symm
  have dn:=da.all ai aN.symm
  have bU:=db.all ai (bF ab rfl)
  refine KQ ?_
  refine Lz (KK (KL (KN (iv ((1:Nat):Int)) rr (LS rfl de rfl (LX (by omega) (by omega)) rr) (KN (iv ((1:Nat):Int)) rr (KT rfl rfl rr) (KQ ?_)))))
  have aR:=K4 (iv ((1:Nat):Int))
  refine KK (Mh (KM (KL (KN (.bool true) rr (Mc rfl aR rfl rfl rr) (KQ ?_)))))
  have dp:=K4 (.bool true)
  refine KK (KM ?_)
  refine K5 (t:=true) dp (fun _=>?_) (fun e=>by cases e)
  refine Lf (KK (KM (Lm (KM (KL (K2 Lw aR (Lb (iv ((1:Nat):Int)) LE (KQ ?_))))))))
  have bV:=K4 (iv ((1:Nat):Int))
  refine KK ?_
  refine NJ 8 [some 17,some 18,some 19,some 20,some 21,some 22,some 23,some 24] [Pd.eq (iv ((1:Nat):Int)),Pd.eq (pt ab 2),Pd.eq (pt ab 3),Pd.eq ae,Pd.eq (iv ((1:Nat):Int)),Pd.eq (pt p1 2),Pd.eq (pt p1 3),Pd.eq f1] (by kernel_rfl) (by kernel_rfl) (by kernel_rfl) ?_ ?_
  ·refine KP ?_ ?_
   ·refine Ld.one rfl fun F_ w_ hR hout hD=>?_
    exact(KT rfl ((hout 4 rfl (by decide)).trans bV) ⟨rfl,KR.refl _ _⟩)
   refine KP ?_ ?_
   ·refine Ld.one rfl fun F_ w_ hR hout hD=>?_
    exact(KU (n:=3) rfl ((hout 3 rfl (by decide)).trans bS) Tryz.underlying29 rfl (by kernel_rfl) (by decide) rfl ⟨rfl,KR.refl _ _⟩)
   refine KP ?_ ?_
   ·refine Ld.one rfl fun F_ w_ hR hout hD=>?_
    have aj:F_ 18=pt ab 2:=(hD.get 0 rfl rfl rfl)
    have az:F_ 17=iv ((1:Nat):Int):=(hD.get 1 rfl rfl rfl)
    exact(L3 1 (s:=1) rfl aj az (by omega) Tryz.underlying27 (by omega) (by kernel_rfl) (by omega) ⟨rfl,KR.refl _ _⟩)
   refine KP ?_ ?_
   ·refine Ld.one rfl fun F_ w_ hR hout hD=>?_
    have aA:F_ 19=pt ab 3:=(hD.get 0 rfl rfl rfl)
    exact(KY rfl aA Tryz.underlying26 (bU.all hR id) rfl rfl ⟨rfl,KR.refl _ _⟩)
   refine KP ?_ ?_
   ·refine Ld.one rfl fun F_ w_ hR hout hD=>?_
    exact(KT rfl ((hout 4 rfl (by decide)).trans bV) ⟨rfl,KR.refl _ _⟩)
   refine KP ?_ ?_
   ·refine Ld.one rfl fun F_ w_ hR hout hD=>?_
    exact(KU (n:=3) rfl ((hout 1 rfl (by decide)).trans bR) Tryz.underlying29 rfl (by kernel_rfl) (by decide) rfl ⟨rfl,KR.refl _ _⟩)
   refine KP ?_ ?_
   ·refine Ld.one rfl fun F_ w_ hR hout hD=>?_
    have aB:F_ 22=pt p1 2:=(hD.get 0 rfl rfl rfl)
    have aC:F_ 21=iv ((1:Nat):Int):=(hD.get 1 rfl rfl rfl)
    exact(L3 1 (s:=1) rfl aB aC (by omega) Tryz.underlying27 (by omega) (by kernel_rfl) (by omega) ⟨rfl,KR.refl _ _⟩)
   refine KP ?_ ?_
   ·refine Ld.one rfl fun F_ w_ hR hout hD=>?_
    have aD:F_ 23=pt p1 3:=(hD.get 0 rfl rfl rfl)
    exact(KY rfl aD Tryz.underlying26 (bT.all hR id) rfl rfl ⟨rfl,KR.refl _ _⟩)
   exact Mj
  intro ey bW ez bX aS aH
  obtain⟨dq,dr,dt,du,dv,dw,dy,dz⟩:=Yf bX dj dk bT dl di dm dn bU
  obtain⟨dA,dB,dC,bY,dD⟩:=t5 aH 28 dc 1 bR 2 dd 3 bS 14 aR
  have dE:bW 20=ae:=(aH 20).trans (aS 3 (by decide))
  have dF:bW 24=f1:=(aH 24).trans (aS 7 (by decide))
  clear aS aH
  refine WA rfl rfl rfl rfl dE dF dw dq (by first|exact hnl.1|exact hnl.2.1|exact hnl.2.2) fun eA dG ak=>?_
  have dH:=dr.all ak cC.symm
  have dI:=dt.all ak (cD.symm p1 rfl)
  have dJ:=du.all ak (bA.symm ap rfl)
  have dK:=dv.all ak aM
  have dL:=dy.all ak aO.symm
  have bZ:=dz.all ak (bG ab rfl)
  have dM:=(((((bt.tr bE).trans ah (KS.ok (S:=fun _=>False) (KS.new bt bD) KZ)).tr bQ).trans ai (KS.ok (S:=fun _=>False) bu KZ)).tr bX).trans ak (KS.ok (S:=fun _=>False) bz KZ)
  refine KQ ?_
  refine Lz (KK (KL (KN (iv ((2:Nat):Int)) rr (LS rfl dD rfl (LX (by omega) (by omega)) rr) (KN (iv ((2:Nat):Int)) rr (KT rfl rfl rr) (KQ ?_)))))
  have aT:=K4 (iv ((2:Nat):Int))
  refine KK (Mh (KM (KL (KN (.bool true) rr (Mc rfl aT rfl rfl rr) (KQ ?_)))))
  have dN:=K4 (.bool true)
  refine KK (KM ?_)
  refine K5 (t:=true) dN (fun _=>?_) (fun e=>by cases e)
  refine Lf (KK (KM (Lm (KM (KL (K2 Lw aT (Lb (iv ((2:Nat):Int)) LE (KQ ?_))))))))
  have b7:=K4 (iv ((2:Nat):Int))
  refine KK ?_
  refine NJ 8 [some 17,some 18,some 19,some 20,some 21,some 22,some 23,some 24] [Pd.eq (iv ((2:Nat):Int)),Pd.eq (pt ab 2),Pd.eq (pt ab 4),Pd.eq af,Pd.eq (iv ((2:Nat):Int)),Pd.eq (pt p1 2),Pd.eq (pt p1 4),Pd.eq f2] (by kernel_rfl) (by kernel_rfl) (by kernel_rfl) ?_ ?_
  ·refine KP ?_ ?_
   ·refine Ld.one rfl fun F_ w_ hR hout hD=>?_
    exact(KT rfl ((hout 4 rfl (by decide)).trans b7) ⟨rfl,KR.refl _ _⟩)
   refine KP ?_ ?_
   ·refine Ld.one rfl fun F_ w_ hR hout hD=>?_
    exact(KU (n:=3) rfl ((hout 3 rfl (by decide)).trans bY) Tryz.underlying29 rfl (by kernel_rfl) (by decide) rfl ⟨rfl,KR.refl _ _⟩)
   refine KP ?_ ?_
   ·refine Ld.one rfl fun F_ w_ hR hout hD=>?_
    have aj:F_ 18=pt ab 2:=(hD.get 0 rfl rfl rfl)
    have az:F_ 17=iv ((2:Nat):Int):=(hD.get 1 rfl rfl rfl)
    exact(L3 2 (s:=1) rfl aj az (by omega) Tryz.underlying27 (by omega) (by kernel_rfl) (by omega) ⟨rfl,KR.refl _ _⟩)
   refine KP ?_ ?_
   ·refine Ld.one rfl fun F_ w_ hR hout hD=>?_
    have aA:F_ 19=pt ab 4:=(hD.get 0 rfl rfl rfl)
    exact(KY rfl aA Tryz.underlying26 (bZ.all hR id) rfl rfl ⟨rfl,KR.refl _ _⟩)
   refine KP ?_ ?_
   ·refine Ld.one rfl fun F_ w_ hR hout hD=>?_
    exact(KT rfl ((hout 4 rfl (by decide)).trans b7) ⟨rfl,KR.refl _ _⟩)
   refine KP ?_ ?_
   ·refine Ld.one rfl fun F_ w_ hR hout hD=>?_
    exact(KU (n:=3) rfl ((hout 1 rfl (by decide)).trans dB) Tryz.underlying29 rfl (by kernel_rfl) (by decide) rfl ⟨rfl,KR.refl _ _⟩)
   refine KP ?_ ?_
   ·refine Ld.one rfl fun F_ w_ hR hout hD=>?_
    have aB:F_ 22=pt p1 2:=(hD.get 0 rfl rfl rfl)
    have aC:F_ 21=iv ((2:Nat):Int):=(hD.get 1 rfl rfl rfl)
    exact(L3 2 (s:=1) rfl aB aC (by omega) Tryz.underlying27 (by omega) (by kernel_rfl) (by omega) ⟨rfl,KR.refl _ _⟩)
   refine KP ?_ ?_
   ·refine Ld.one rfl fun F_ w_ hR hout hD=>?_
    have aD:F_ 23=pt p1 4:=(hD.get 0 rfl rfl rfl)
    exact(KY rfl aD Tryz.underlying26 (dI.all hR id) rfl rfl ⟨rfl,KR.refl _ _⟩)
   exact Mj
  intro eB b8 eC b9 aU aI
  obtain⟨dO,dP,dQ,dR,dS,dT⟩:=Qh b9 dH dJ dK dG dL bZ
  obtain⟨dU,cd,dV,dW⟩:=t4 aI 28 dA 2 dC 3 bY 14 aT
  have dX:b8 20=af:=(aI 20).trans (aU 3 (by decide))
  have dY:b8 24=f2:=(aI 24).trans (aU 7 (by decide))
  clear aU aI
  refine WA rfl rfl rfl rfl dX dY dS dO (by first|exact hnl.1|exact hnl.2.1|exact hnl.2.2) fun eE ce aE=>?_
  have dZ:=dP.all aE (bC.symm ap rfl)
  have cf:=dQ.all aE aN
  have cg:=dR.all aE aO
  have d8:=dT.all aE (bH ab rfl)
  refine KQ ?_
  refine Lz (KK (KL (KN (iv ((3:Nat):Int)) rr (LS rfl dW rfl (LX (by omega) (by omega)) rr) (KN (iv ((3:Nat):Int)) rr (KT rfl rfl rr) (KQ ?_)))))
  have d9:=K4 (iv ((3:Nat):Int))
  refine KK (Mh (KM (KL (KN (.bool false) rr (Mc rfl d9 rfl rfl rr) (KQ ?_)))))
  have eb:=K4 (.bool false)
  refine KK (KM ?_)
  refine K5 (t:=false) eb (fun e=>by cases e) (fun _=>?_)
  refine Mm (Lp (Lp (Mk (KK (KM (KL (KN (.agg #[iv ((LR (f.W) (f.H) 0).W),iv ((LR (f.W) (f.H) 0).H),ac,ae,af]) rr (KX La rfl dV d8 rr) (Ll (us:=[iv ((LR (f.W) (f.H) 0).W),iv ((LR (f.W) (f.H) 0).H),ac,ae,af]) La rfl rfl rfl cd rfl dZ rfl (Qc rr (L4 cf.one (L4 cg.one (L4 ce.one MX)))) fun eF ee aJ=>?_))))))))
  have ci:=cf.all aJ bv
  have cj:=cg.all aJ bA
  have cm:=ce.all aJ bC
  refine KQ ?_
  refine KK (Le ?_)
  exact Po (vs:=[iv ((LR (f.W) (f.H) 0).W),iv ((LR (f.W) (f.H) 0).H),ac,ae,af]) La dU rfl rfl cd ee ⟨ac,am,ae,an,af,ao,(by first|rw[NL hok,(MC 0 hok.1 hok.2.1).1,(MC 0 hok.1 hok.2.1).2]|rw[PP hno];rfl),(((dM.tr b9).trans aE (KS.ok (S:=fun _=>False) bB KZ)).trans aJ (KS.ok (S:=fun _=>False) aY KZ)),⟨(by first|(rw[NL hok];exact ci)|(rw[PP hno];exact ci)),bu⟩,⟨(by first|(rw[NL hok];exact cj)|(rw[PP hno];exact cj)),bz⟩,⟨(by first|(rw[NL hok];exact cm)|(rw[PP hno];exact cm)),bB⟩,aM,aN,aO⟩
open Go.RowKit
theorem PS{a b:Bool}(h:a=b):Ending.returned (.bool a) = .returned (.bool b):=by rw[h]
def ayM(w:World)(n:Nat)(v:Value)(g:Nat->Int):Prop :=
 ∃ (f:FuncId) (cs:List Value),v = .func (.func f) #[] cs.toArray/\(∀ args w,(callFunc f args).run Tryz.prog w = .ok (.enter f args) w) ∧
  ∀ w',KR (fun _=>False) w w'->∀ k:Nat,k<n->Calls Tryz.prog f (.int .i64 (k:Int)::cs).toArray w' fun e w''=>e = .returned (.int .i64 (g k))/\KR (fun _=>False) w' w''
theorem ayM.all{w w':World}{n:Nat}{v:Value}{g:Nat->Int}(h:ayM w n v g)(k:KR (fun _=>False) w w'):ayM w' n v g:=by
 obtain⟨f,cs,e,hf,h⟩:=h
 exact⟨f,cs,e,hf,fun w2 k2=>h w2 (k.trans k2 (fun _ _ x=>x))⟩
def ZE(w:World)(n:Nat)(v:Value)(g:Nat->Nat->Int):Prop :=
 ∃ (f:FuncId) (cs:List Value),v = .func (.func f) #[] cs.toArray/\(∀ args w,(callFunc f args).run Tryz.prog w = .ok (.enter f args) w) ∧
  ∀ w',KR (fun _=>False) w w'->∀ i k:Nat,i<n->k<n->Calls Tryz.prog f (.int .i64 (i:Int) :: .int .i64 (k:Int)::cs).toArray w' fun e w''=>e = .returned (.int .i64 (g i k))/\KR (fun _=>False) w' w''
theorem ZE.all{w w':World}{n:Nat}{v:Value}{g:Nat->Nat->Int}(h:ZE w n v g)(k:KR (fun _=>False) w w'):ZE w' n v g:=by
 obtain⟨f,cs,e,hf,h⟩:=h
 exact⟨f,cs,e,hf,fun w2 k2=>h w2 (k.trans k2 (fun _ _ x=>x))⟩
def Pd.ask2(n:Nat)(g:Nat->Nat->Int):Pd:=⟨fun v w=>ZE w n v g,fun _ _ _ h k=>h.all k⟩
section
variable {ρ:Operand->Value} {o:Oper} {w:World} {R:Value->World->Prop}
theorem Xt{P:Program}{f:FuncId}{xs:List Operand}{vs:List Value}(ho:o.op = .makeFunc (.func f) #[] xs.toArray)(hx:xs.map ρ=vs)(h:R (.func (.func f) #[] vs.toArray) w):Lg P ρ o w R:=by
 subst hx
 exact OJ (v:=.func (.func f) #[] (xs.map ρ).toArray) (w':=w) (by simp[execOp,ho,show ∀ cap,(Instr.makeFunc (.func f) #[] cap).run P w = .ok (.func (.func f) #[] cap) w from fun _=>rfl]) h
theorem aFu{c:Call}{cx x:Operand}{v:Value}{n k:Nat}{g:Nat->Int}(ho:o.op = .call c)(hc:c.callee = .value cx)(hcx:ρ cx=v)(hx:c.args = #[x])(hv:ρ x = .int .i64 (k:Int))(ha:ayM w n v g)(hk:k<n)
  (hS:∀ (e:Ending) w',(e = .returned (.int .i64 (g k))/\KR (fun _=>False) w w')->∃ v,e = .returned v/\R v w'):Lg Tryz.prog ρ o w R:=by
 obtain⟨f,cs,rfl,hf,h⟩:=ha
 obtain⟨cl,ag,ts⟩:=c
 simp only at hc hx
 subst hc;subst hx
 unfold Lg
 have e:(execOp ρ o).run Tryz.prog w = .ok (.enter f (.int .i64 (k:Int)::cs).toArray) w:=by simp[execOp,ho,resolve,hcx,hv,Deferred.ofValue,invoke,hf]
 rw[e]
 exact(h w (KR.refl _ _) k hk).mono hS
theorem aE6{c:Call}{cx x y:Operand}{v:Value}{n i k:Nat}{g:Nat->Nat->Int}(ho:o.op = .call c)(hc:c.callee = .value cx)(hcx:ρ cx=v)(hx:c.args = #[x,y])(hv:ρ x = .int .i64 (i:Int))(hv2:ρ y = .int .i64 (k:Int))(ha:ZE w n v g)(hi:i<n)(hk:k<n)
  (hS:∀ (e:Ending) w',(e = .returned (.int .i64 (g i k))/\KR (fun _=>False) w w')->∃ v,e = .returned v/\R v w'):Lg Tryz.prog ρ o w R:=by
 obtain⟨f,cs,rfl,hf,h⟩:=ha
 obtain⟨cl,ag,ts⟩:=c
 simp only at hc hx
 subst hc;subst hx
 unfold Lg
 have e:(execOp ρ o).run Tryz.prog w = .ok (.enter f (.int .i64 (i:Int) :: .int .i64 (k:Int)::cs).toArray) w:=by simp[execOp,ho,resolve,hcx,hv,hv2,Deferred.ofValue,invoke,hf]
 rw[e]
 exact(h w (KR.refl _ _) i k hi hk).mono hS
theorem aEe{t:TypeId}{x y:Operand}{k:IntKind}{n:Nat}(j:Nat){a:Nat->Int}{r:Int}(ht:Xp t n)(ho:o.op = .index t x y)(hx:ρ x = .agg (Mp n a).toArray)(hy:ρ y = .int k (j:Int))(hj:j<n)(hr:a j=r)(h:R (.int .i64 r) w):Lg Tryz.prog ρ o w R:=by
 subst hr
 have h1:(Mp n a).toArray[j]? = some (.int .i64 (a j)):=by rw[List.getElem?_toArray];exact R3 hj
 cases hq:Tryz.prog.info? 3 with
 | none=>have:=Tryz.size_int;simp[hq] at this
 | some i =>
  have hs':i.size=1:=by have:=Tryz.size_int;simpa [hq] using this
  have hp:(part 3 (Mp n a).toArray j).run Tryz.prog w = .ok (.int .i64 (a j)) w:=by simp[part,isAgg,run_underlying Tryz.underlying3,h1]
  have h2:(j:Int)<(n:Int):=by omega
  exact OJ (v:=.int .i64 (a j)) (w':=w) (by simp[execOp,ho,hx,hy,Instr.index,run_underlying ht.1,asIntOf,sizeOf,typeInfo,hq,hs',hj,hp]) h
theorem YL{N n:Nat}{F:Nat->Value}{fn:Func}{p:Tmp}{ty t:TypeId}{q:Nat}{b:Nat->Int}{R:Ending->World->Prop}(hT:Xp ty n)(hm:F N=undef)(ht:Nat.blt p N=true)(h:fn.results = #[.cell p ty])(hp:F p = .pointer (some ⟨q,0,none⟩))(hB:P5 w q t n b)(hR:R (.returned (.agg (Mp n b).toArray)) w):Z5 Tryz.prog fn N R .ret F w :=
 ⟨hm,fun a ha=>⟨_,Sd h _ _ q (by rw[ha.at' p ht];exact hp) _ t (0,0) _ hB hT.1 rfl (hT.size b),hR⟩⟩
def Pd.cel(n:Nat)(t:TypeId)(v:Value):Pd:=⟨fun u w=>∃ p,u = .pointer (some ⟨p,0,none⟩)/\n<=p/\Qx w p t v,fun _ _ _ ⟨p,e,hn,h⟩ k=>⟨p,e,hn,h.all k id⟩⟩
theorem Zy{P:Program}{t:TypeId}{v:Value}(ho:o.op = .alloc t)(hi:(P.info? t).map (fun i=>(i.zero,i.size))=some (some v,1))(hv:oneC v=true)(h:R (.pointer (some ⟨w.heap.size,0,none⟩)) (w.alloc (.cells #[v] t))):Lg P ρ o w R :=
 OJ (v:=.pointer (some ⟨w.heap.size,0,none⟩)) (w':=w.alloc (.cells #[v] t)) (by simp[execOp,ho,(zero_of_info hi).1,go_sem];cases v <;> first|rfl|(simp[oneC] at hv;done)) h
end
end Go.Proofs.YtknjpdcpmpfklaaGreatDoor
