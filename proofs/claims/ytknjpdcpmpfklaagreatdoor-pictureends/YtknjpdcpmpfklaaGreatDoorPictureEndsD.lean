/- What PictureEnds reaches of my texts, part 4. -/
import Derived.Test.YtknjpdcpmpfklaaGreatDoorPictureEndsC
set_option maxRecDepth 100000
set_option maxHeartbeats 4000000
set_option maxRecDepth 100000
namespace Go.Proofs.YtknjpdcpmpfklaaGreatDoor
open Go.RowKit
def NP(a b c d:Int):Bool:=decide (a=c) && decide (b=d)
theorem Xu(a b:Int):NP a b a b=true:=by unfold NP;simp
theorem Tryz.vecFields : (Tryz.prog.fieldsOf 67).toList.map (fun f => (f.name, f.type, f.offset)) = [("X", 3, 0), ("Y", 3, 1)] := by kernel_rfl
theorem OG(w:World)(xs:Array Value)(i:Nat)(z:Int)(h:xs[i]? = some (.int .i64 z)):(part 3 xs i).run Tryz.prog w = .ok (.int .i64 z) w:=by
 simp[part,isAgg,run_underlying Tryz.underlying3,h]
theorem Xl(w:World)(a b c d:Int):(Op.equalIn 10000 67 (.agg #[.int .i64 a,.int .i64 b]) (.agg #[.int .i64 c,.int .i64 d])).run Tryz.prog w = .ok (NP a b c d) w:=by
 rw[run_equalIn_struct w 9999 _ _ _ (by kernel_rfl) (by kernel_rfl)]
 have hf:=Tryz.vecFields
 generalize (Tryz.prog.fieldsOf 67).toList=fs at hf
 have hlen:fs.length=2:=by simpa using congrArg List.length hf
 have p1:=OG w #[.int .i64 a,.int .i64 b] 0 a rfl
 have p2:=OG w #[.int .i64 c,.int .i64 d] 0 c rfl
 have p3:=OG w #[.int .i64 a,.int .i64 b] 1 b rfl
 have p4:=OG w #[.int .i64 c,.int .i64 d] 1 d rfl
 match fs,hlen with
 | [f0,f1],_ =>
  simp only[List.map_cons,List.map_nil,List.cons.injEq,Prod.mk.injEq,and_true] at hf
  obtain⟨⟨n0,t0,o0⟩,⟨n1,t1,o1⟩⟩:=hf
  simp only[Op.eqFields,n0,t0,o0,n1,t1,o1]
  rw[if_pos (by decide),if_pos (by decide)]
  simp only[Sem.run_bind,p1,p2,Result.andThen_ok,run_equalIn_int w 9998 3 .i64 .i64 _ _ Tryz.underlying3]
  unfold NP
  by_cases h1:a=c
  ·subst h1
   simp only[beq_self_eq_true,Bool.not_true,Bool.false_eq_true,if_false,Sem.run_bind,p3,p4,Result.andThen_ok,run_equalIn_int w 9998 3 .i64 .i64 _ _ Tryz.underlying3]
   by_cases h2:b=d
   ·subst h2;simp
   ·have:(b==d)=false:=by simpa using h2
    simp[this,h2]
  ·have:(a==c)=false:=by simpa using h1
   simp[this,h1]
theorem Tryz.guard_vec:Tryz.prog.eqGuardType Tryz.prog.depth 67=false:=by kernel_rfl
section
variable {ρ:Operand->Value} {o:Oper} {w:World} {R:Value->World->Prop}
theorem aBb{t':TypeId}{x y:Operand}{a b c d:Int}{q:Bool}(ho:o.op = .binOp .eql 67 x y t')(hx:ρ x = .agg #[.int .i64 a,.int .i64 b])(hy:ρ y = .agg #[.int .i64 c,.int .i64 d])(hr:NP a b c d=q)(h:R (.bool q) w):Le Tryz.prog ρ o w R :=
 N1 (v:=.bool (NP a b c d)) (w':=w) (by simp only[execOp,ho,hx,hy,Sem.run_bind,run_eqGuard_agg w .eql _ _ _ _ _ Tryz.guard_vec,run_eql_struct,Xl,Result.andThen_ok,Sem.run_pure]) (by rw[hr];exact h)
end
theorem aEk:∀ k:Fin 513,bits .and .i64 ((k.1:Int)-256) 1=((k.1:Int)-256)%2:=by decide +kernel
theorem ZR{u:Int}(h : -256<=u/\u<=256):bits .and .i64 u 1=u%2:=by
 have:=aEk ⟨(u+256).toNat,by omega⟩
 simp only at this
 rwa [show (((u+256).toNat:Nat):Int)-256=u by omega] at this
theorem Ru(n a b:Int)(w0:World) :
  Calls Tryz.prog 138 #[.int .i64 (n),.int .i64 (a),.int .i64 (b)] w0 fun e w'=>e = .returned (.int .i64 (max a (min n b)))/\KO (fun _=>False) w0 w':=by
 refine Lr (args:=[iv n,iv a,iv b]) 12 Tryz.func138 rfl rfl (Nat.le_of_ble_eq_true rfl) ?_
 refine KJ (KH (KI (iv 0) rfl rfl (KS rfl rfl rr) (KM ?_)))
 have s3:=K4 (iv n)
 have s4:=K4 (iv a)
 have s5:=K4 (iv b)
 have s6:=K4 (undef)
 refine KG (KJ (KH (KR rfl rfl rfl s4 (KR rfl rfl rfl s3 (KR rfl rfl rfl s5 (KI (iv (min n b)) rfl rfl (QS rfl rfl rfl rfl rr) (KI (iv (max a (min n b))) rfl rfl (QO rfl rfl rfl rfl rr) (KI (iv (max a (min n b))) rfl rfl (KS rfl rfl rr) (KM ?_)))))))))
 have af:=K4 (iv (max a (min n b)))
 refine KG (Lb ?_)
 exact Lu (v:=iv (max a (min n b))) s6 rfl rfl af ⟨rfl,(KO.refl (fun _=>False) w0)⟩
theorem RZ(n:Int)(w0:World) :
  Calls Tryz.prog 134 #[.int .i64 (n)] w0 fun e w'=>e = .returned (.bool (decide (-31<=n/\n<=31)))/\KO (fun _=>False) w0 w':=by
 refine Lr (args:=[iv n]) 9 Tryz.func134 rfl rfl (Nat.le_of_ble_eq_true rfl) ?_
 have K0:=KO.refl (fun _=>False) w0
 refine KJ (KH (KI (.bool false) rfl rfl (KS rfl rfl rr) (KM ?_)))
 have s3:=K4 (iv n)
 have s4:=K4 (undef)
 refine KG (KJ ?_)
 by_cases d5:(-31)<=n
 ·skip
  refine KH (KR rfl rfl rfl s3 (KI (.bool true) rfl rfl (Nf rfl rfl rfl (decide_eq_true d5) rr) (KI (.bool true) rfl rfl (KQ rfl rfl rr) (KT (iv n) 2 true 5 rfl rfl rfl rfl rfl (KQ rfl s3 rr) (KT (.bool (decide (n<=31))) 2 true 5 rfl rfl rfl rfl rfl (PM rfl rfl rfl rfl rr) (KI (.bool (decide (n<=31))) rfl rfl (Lo rfl rfl rfl rr) (KI (.bool (decide (n<=31))) rfl rfl (KS rfl rfl rr) (KM ?_))))))))
  have s9:=K4 (.bool (decide (n<=31)))
  refine KG (Lb ?_)
  exact Lu (v:=.bool (decide (n<=31))) s4 rfl rfl s9 ⟨(Pb (by first|exact(decide_eq_true (by omega)).symm|exact(decide_eq_false (by omega)).symm|exact decide_eq_decide.2 (by omega))),K0⟩
 ·skip
  refine KH (KR rfl rfl rfl s3 (KI (.bool false) rfl rfl (Nf rfl rfl rfl (decide_eq_false d5) rr) (KI (.bool false) rfl rfl (KQ rfl rfl rr) (KN 2 true 5 rfl rfl rfl (Or.inl rfl) rfl (KN 2 true 5 rfl rfl rfl (Or.inl rfl) rfl (KI (.bool false) rfl rfl (Li rfl rfl rfl rr) (KI (.bool false) rfl rfl (KS rfl rfl rr) (KM ?_))))))))
  have ah:=K4 (.bool false)
  refine KG (Lb ?_)
  exact Lu (v:=.bool false) s4 rfl rfl ah ⟨(Pb (by first|exact(decide_eq_true (by omega)).symm|exact(decide_eq_false (by omega)).symm|exact decide_eq_decide.2 (by omega))),K0⟩
theorem Pz(n:Int)(w0:World) :
  Calls Tryz.prog 135 #[.int .i64 (n)] w0 fun e w'=>e = .returned (.bool (decide (0<=n/\n<=64)))/\KO (fun _=>False) w0 w':=by
 refine Lr (args:=[iv n]) 9 Tryz.func135 rfl rfl (Nat.le_of_ble_eq_true rfl) ?_
 have K0:=KO.refl (fun _=>False) w0
 refine KJ (KH (KI (.bool false) rfl rfl (KS rfl rfl rr) (KM ?_)))
 have s3:=K4 (iv n)
 have s4:=K4 (undef)
 refine KG (KJ ?_)
 by_cases d5:0<=n
 ·skip
  refine KH (KR rfl rfl rfl s3 (KI (.bool true) rfl rfl (Nf rfl rfl rfl (decide_eq_true d5) rr) (KI (.bool true) rfl rfl (KQ rfl rfl rr) (KT (iv n) 2 true 5 rfl rfl rfl rfl rfl (KQ rfl s3 rr) (KT (.bool (decide (n<=64))) 2 true 5 rfl rfl rfl rfl rfl (PM rfl rfl rfl rfl rr) (KI (.bool (decide (n<=64))) rfl rfl (Lo rfl rfl rfl rr) (KI (.bool (decide (n<=64))) rfl rfl (KS rfl rfl rr) (KM ?_))))))))
  have s9:=K4 (.bool (decide (n<=64)))
  refine KG (Lb ?_)
  exact Lu (v:=.bool (decide (n<=64))) s4 rfl rfl s9 ⟨(Pb (by first|exact(decide_eq_true (by omega)).symm|exact(decide_eq_false (by omega)).symm|exact decide_eq_decide.2 (by omega))),K0⟩
 ·skip
  refine KH (KR rfl rfl rfl s3 (KI (.bool false) rfl rfl (Nf rfl rfl rfl (decide_eq_false d5) rr) (KI (.bool false) rfl rfl (KQ rfl rfl rr) (KN 2 true 5 rfl rfl rfl (Or.inl rfl) rfl (KN 2 true 5 rfl rfl rfl (Or.inl rfl) rfl (KI (.bool false) rfl rfl (Li rfl rfl rfl rr) (KI (.bool false) rfl rfl (KS rfl rfl rr) (KM ?_))))))))
  have ah:=K4 (.bool false)
  refine KG (Lb ?_)
  exact Lu (v:=.bool false) s4 rfl rfl ah ⟨(Pb (by first|exact(decide_eq_true (by omega)).symm|exact(decide_eq_false (by omega)).symm|exact decide_eq_decide.2 (by omega))),K0⟩
theorem U2(s m:Int)(w0:World)(hs:0<=s/\s<=4000)(hm:m=1\/m=2\/m=4) :
  Calls Tryz.prog 137 #[.int .i64 (s),.int .i64 (m)] w0 fun e w'=>e = .returned (.int .i64 ((s+m/2)/m))/\KO (fun _=>False) w0 w':=by
 refine Lr (args:=[iv s,iv m]) 11 Tryz.func137 rfl rfl (Nat.le_of_ble_eq_true rfl) ?_
 refine KJ (KH (KI (iv 0) rfl rfl (KS rfl rfl rr) (KM ?_)))
 have s3:=K4 (iv s)
 have s4:=K4 (iv m)
 have s5:=K4 (undef)
 refine KG (KJ (KH (KR rfl rfl rfl s3 (KR rfl rfl rfl s4 (KI (iv (m/2)) rfl rfl (Pv rfl rfl rfl (by first|decide|omega) (L2 (O8 (by omega)) (by omega)) rr) (KI (iv (s+m/2)) rfl rfl (LP rfl rfl rfl (L2 rfl (by omega)) rr) (KR rfl rfl rfl s4 (KI (iv ((s+m/2)/m)) rfl rfl (Pv rfl rfl rfl (by first|decide|omega) (L2 (Int.tdiv_eq_ediv_of_nonneg (by omega)) (by rcases hm with rfl|rfl|rfl <;> omega)) rr) (KI (iv ((s+m/2)/m)) rfl rfl (KS rfl rfl rr) (KM ?_))))))))))
 have s9:=K4 (iv ((s+m/2)/m))
 refine KG (Lb ?_)
 exact Lu (v:=iv ((s+m/2)/m)) s5 rfl rfl s9 ⟨rfl,(KO.refl (fun _=>False) w0)⟩
theorem VT(X Y:Int)(w0:World) :
  Calls Tryz.prog 103 #[.agg #[.int .i64 (X),.int .i64 (Y)]] w0 fun e w'=>e = .returned (.int .i64 (PK X Y))/\KO (fun _=>False) w0 w':=by
 refine Lr (args:=[.agg #[iv X,iv Y]]) 13 Tryz.func103 rfl rfl (Nat.le_of_ble_eq_true rfl) ?_
 refine KJ (KH (Lz (vs:=[iv X,iv Y]) rfl rfl rfl rfl fun p1 w2 B4 g5 k3=>?_))
 have K7:=(KO.refl (fun _=>False) w0).tr k3
 refine KI (iv 0) rfl rfl (KS rfl rfl rr) (KM ?_)
 have ah:=K4 (undef)
 have ac:=K4 (pt p1 0)
 refine KG (KJ (KJ ?_))
 by_cases ai : -31<=X/\X<=31
 ·skip
  by_cases aj : -31<=Y/\Y<=31
  ·skip
   refine KH (KI (pt p1 0) rfl rfl (KU (n:=1) rfl ac Tryz.underlying67 rfl (by kernel_rfl) (by decide) rfl rr) (KI (iv X) rfl rfl (KY rfl rfl Tryz.underlying3 B4 rfl rfl rr) (LB (R:=fun v_ w_=>v_ = .bool true/\KO (fun _=>False) w2 w_) rfl rfl (LH rfl rfl rfl (fun _ _=>by kernel_rfl) (K5 _) (Lk rfl LR) (RZ X  _   ) (fun e_ w_ h_=>⟨_,h_.1,(congrArg Value.bool (decide_eq_true ai)),h_.2⟩)) ?_)))
   rintro _ ao ⟨rfl,ak⟩
   have ap:=B4.all ak id
   refine KI (.bool false) rfl rfl (L9 rfl rfl rfl rr) (KI (.bool false) rfl rfl (KQ rfl rfl rr) (KT (pt p1 1) 4 false 7 rfl rfl rfl rfl rfl (KU (n:=1) rfl ac Tryz.underlying67 rfl (by kernel_rfl) (by decide) rfl rr) (KT (iv Y) 4 false 7 rfl rfl rfl rfl rfl (KY rfl rfl Tryz.underlying3 ap rfl rfl rr) (LN (R:=fun v_ w_=>v_ = .bool true/\KO (fun _=>False) ao w_) 4 false 7 rfl rfl rfl rfl rfl (LH rfl rfl rfl (fun _ _=>by kernel_rfl) (K5 _) (Lk rfl LR) (RZ Y  _   ) (fun e_ w_ h_=>⟨_,h_.1,(congrArg Value.bool (decide_eq_true aj)),h_.2⟩)) ?_))))
   rintro _ aG ⟨rfl,aq⟩
   refine KT (.bool false) 4 false 7 rfl rfl rfl rfl rfl (L9 rfl rfl rfl rr) (KI (.bool false) rfl rfl (Li rfl rfl rfl rr) (KM ?_))
   have ar:=K4 (.bool false)
   refine KG ?_
   refine K6 (t:=false) ar (fun e=>by cases e) (fun _=>?_)
   refine Lg (KG (KJ (KH (KI (iv 0) rfl rfl (KS rfl rfl rr) (KM ?_)))))
   have au:=K4 (iv 0)
   refine KG (Lb ?_)
   exact Lu (v:=iv 0) ah rfl rfl au ⟨(by first|rw[O6 (by unfold M9;omega)]|rw[ND (by unfold M9;omega)]),((K7.tr ak).tr aq)⟩
  ·skip
   refine KH (KI (pt p1 0) rfl rfl (KU (n:=1) rfl ac Tryz.underlying67 rfl (by kernel_rfl) (by decide) rfl rr) (KI (iv X) rfl rfl (KY rfl rfl Tryz.underlying3 B4 rfl rfl rr) (LB (R:=fun v_ w_=>v_ = .bool true/\KO (fun _=>False) w2 w_) rfl rfl (LH rfl rfl rfl (fun _ _=>by kernel_rfl) (K5 _) (Lk rfl LR) (RZ X  _   ) (fun e_ w_ h_=>⟨_,h_.1,(congrArg Value.bool (decide_eq_true ai)),h_.2⟩)) ?_)))
   rintro _ av ⟨rfl,am⟩
   have aw:=B4.all am id
   refine KI (.bool false) rfl rfl (L9 rfl rfl rfl rr) (KI (.bool false) rfl rfl (KQ rfl rfl rr) (KT (pt p1 1) 4 false 7 rfl rfl rfl rfl rfl (KU (n:=1) rfl ac Tryz.underlying67 rfl (by kernel_rfl) (by decide) rfl rr) (KT (iv Y) 4 false 7 rfl rfl rfl rfl rfl (KY rfl rfl Tryz.underlying3 aw rfl rfl rr) (LN (R:=fun v_ w_=>v_ = .bool false/\KO (fun _=>False) av w_) 4 false 7 rfl rfl rfl rfl rfl (LH rfl rfl rfl (fun _ _=>by kernel_rfl) (K5 _) (Lk rfl LR) (RZ Y  _   ) (fun e_ w_ h_=>⟨_,h_.1,(congrArg Value.bool (decide_eq_false aj)),h_.2⟩)) ?_))))
   rintro _ aH ⟨rfl,az⟩
   refine KT (.bool true) 4 false 7 rfl rfl rfl rfl rfl (L9 rfl rfl rfl rr) (KI (.bool true) rfl rfl (Li rfl rfl rfl rr) (KM ?_))
   have aA:=K4 (.bool true)
   refine KG ?_
   refine K6 (t:=true) aA (fun _=>?_) (fun e=>by cases e)
   refine KJ (KH (KI (iv 90) rfl rfl (KS rfl rfl rr) (KM ?_)))
   have aB:=K4 (iv 90)
   refine KG (Lb (Lq ?_))
   exact Lu (v:=iv 90) ah rfl rfl aB ⟨(by first|rw[O6 (by unfold M9;omega)]|rw[ND (by unfold M9;omega)]),((K7.tr am).tr az)⟩
 ·skip
  refine KH (KI (pt p1 0) rfl rfl (KU (n:=1) rfl ac Tryz.underlying67 rfl (by kernel_rfl) (by decide) rfl rr) (KI (iv X) rfl rfl (KY rfl rfl Tryz.underlying3 B4 rfl rfl rr) (LB (R:=fun v_ w_=>v_ = .bool false/\KO (fun _=>False) w2 w_) rfl rfl (LH rfl rfl rfl (fun _ _=>by kernel_rfl) (K5 _) (Lk rfl LR) (RZ X  _   ) (fun e_ w_ h_=>⟨_,h_.1,(congrArg Value.bool (decide_eq_false ai)),h_.2⟩)) ?_)))
  rintro _ aI ⟨rfl,aC⟩
  refine KI (.bool true) rfl rfl (L9 rfl rfl rfl rr) (KI (.bool true) rfl rfl (KQ rfl rfl rr) (KN 4 false 7 rfl rfl rfl (Or.inl rfl) rfl (KN 4 false 7 rfl rfl rfl (Or.inl rfl) rfl (KN 4 false 7 rfl rfl rfl (Or.inl rfl) rfl (KN 4 false 7 rfl rfl rfl (Or.inl rfl) rfl (KI (.bool true) rfl rfl (Lo rfl rfl rfl rr) (KM ?_)))))))
  have aD:=K4 (.bool true)
  refine KG ?_
  refine K6 (t:=true) aD (fun _=>?_) (fun e=>by cases e)
  refine KJ (KH (KI (iv 90) rfl rfl (KS rfl rfl rr) (KM ?_)))
  have aE:=K4 (iv 90)
  refine KG (Lb (Lq ?_))
  exact Lu (v:=iv 90) ah rfl rfl aE ⟨(by first|rw[O6 (by unfold M9;omega)]|rw[ND (by unfold M9;omega)]),(K7.tr aC)⟩
theorem aCh(a b:Nat->Int)(w0:World) :
  Calls Tryz.prog 111 #[LJ (a),LJ (b)] w0 fun e w'=>e = .returned (LJ (UE a b))/\KO (fun _=>False) w0 w':=by
 refine Lr (args:=[LJ a,LJ b]) 23 Tryz.func111 rfl rfl (Nat.le_of_ble_eq_true rfl) ?_
 have K0:=KO.refl (fun _=>False) w0
 refine KJ (KH (M3 rfl rfl rfl rfl fun p1 w2 e5 B3 k4=>?_))
 refine M3 rfl rfl rfl rfl fun p9 bG av aN aw=>?_
 have af:=LS (Nat.le_of_eq av.symm)
 have aO:=KK.new af (LT B3.lt)
 clear av af
 have az:=B3.all aw id
 have aA:=(K0.tr k4).tr aw
 refine L1 rfl rfl rfl KW.2.2 fun ah bH aB aP aC=>?_
 have aD:=LS (Nat.le_of_eq aB.symm)
 have aQ:=KK.new aD (LT az.lt)
 clear aB
 obtain⟨aR,aS⟩:=NA aC az aN
 refine KM ?_
 have aT:=K4 (undef)
 have aU:=K4 (pt p1 0)
 have aV:=K4 (pt p9 0)
 have aW:=K4 (pt ah 0)
 refine KG (KJ (KJ (KH (KI (iv 0) rfl rfl (KQ rfl rfl rr) (KM ?_)))))
 have aX:=K4 (iv 0)
 refine KG (Lm (MZ (fun nn FF ww=>∃ (i:Nat),(i<=16)/\nn=16-i/\FF 2=pt p1 0/\FF 3=pt p9 0/\FF 4=pt ah 0/\FF 23=undef/\FF 6=iv ((i:Nat):Int)/\KO (fun _=>False) w0 ww/\NL ww p1 69 (upto i a (UE a b))/\NL ww p9 69 b/\NL ww ah 69 (fun _=>0)) (16-0) ⟨0,by omega,rfl,aU,aV,aW,aT,aX,(aA.tr aC),aR.first,aS,aP⟩ ?_))
 rintro bI bJ aY ⟨i,i48,hn47,ai,aE,ak,aF,am,aG,an,aH,aI⟩
 refine KJ (KH (KI (.bool (decide (((i:Nat):Int)<16))) rfl rfl (L4 rfl am rfl rfl rr) (KM ?_)))
 have aZ:=K4 (.bool (decide (((i:Nat):Int)<16)))
 refine KG (KJ ?_)
 refine K6 aZ (fun ae=>?_) (fun ae=>?_)
 ·replace ae:=of_decide_eq_true ae
  refine Lg (KG (KJ (Lm (KJ (KH (KR rfl rfl rfl am (KI (iv ((i:Nat):Int)) rfl rfl (KS rfl rfl rr) (KM ?_))))))))
  have ao:=K4 (iv ((i:Nat):Int))
  refine KG ?_
  have h1:=ZA (a i)
  have h2:=ZA (b i)
  refine Na 12 [some 9,some 10,some 11,some 12,some 13,some 14,some 15,some 16,some 17,some 18,some 19,some 20] [Pd.eq (iv ((i:Nat):Int)),Pd.eq (iv ((i:Nat):Int)),Pd.eq (.pointer (some ⟨p1,i,none⟩)),Pd.eq (iv (a i)),Pd.eq (iv (c8 (a i))),Pd.eq (iv ((i:Nat):Int)),Pd.eq (.pointer (some ⟨p9,i,none⟩)),Pd.eq (iv (b i)),Pd.eq (iv (c8 (b i))),Pd.eq (iv ((c8 (a i))+(c8 (b i)))),Pd.eq (iv ((c8 (a i)+c8 (b i)+1)/2)),Pd.eq (.pointer (some ⟨p1,i,none⟩))] (by kernel_rfl) (by kernel_rfl) (by kernel_rfl) ?_ ?_
  ·refine KL ?_ ?_
   ·refine La.one rfl fun F_ w_ hR hout hD=>?_
    exact(KQ rfl ((hout 5 rfl (by decide)).trans ao) ⟨rfl,KO.refl _ _⟩)
   refine KL ?_ ?_
   ·refine La.one rfl fun F_ w_ hR hout hD=>?_
    exact(KQ rfl ((hout 5 rfl (by decide)).trans ao) ⟨rfl,KO.refl _ _⟩)
   refine KL ?_ ?_
   ·refine La.one rfl fun F_ w_ hR hout hD=>?_
    have a8:F_ 10=iv ((i:Nat):Int):=(hD.get 0 rfl rfl rfl)
    exact(LV i (s:=1) rfl ((hout 2 rfl (by decide)).trans ai) a8 (by omega) Tryz.underlying69 (by omega) (by kernel_rfl) (by omega) ⟨rfl,KO.refl _ _⟩)
   refine KL ?_ ?_
   ·refine La.one rfl fun F_ w_ hR hout hD=>?_
    have a9:F_ 11 = .pointer (some ⟨p1,i,none⟩):=(hD.get 0 rfl rfl rfl)
    exact(OD rfl a9 Tryz.underlying3 (((an.all hR id).cell (by omega)).trans (Ta (UV i _ _))) ⟨rfl,KO.refl _ _⟩)
   refine KL ?_ ?_
   ·refine La.one rfl fun F_ w_ hR hout hD=>?_
    have ba:F_ 12=iv (a i):=(hD.get 0 rfl rfl rfl)
    exact(LH rfl rfl rfl (fun _ _=>by kernel_rfl) (K5 _) (Lk ba (Lk rfl (Lk rfl LR))) (Ru (a i) 0 255  _   ) (fun e_ w_ h_=>⟨_,h_.1,congrArg (Value.int .i64) (by unfold c8;omega),h_.2⟩))
   refine KL ?_ ?_
   ·refine La.one rfl fun F_ w_ hR hout hD=>?_
    exact(KQ rfl ((hout 5 rfl (by decide)).trans ao) ⟨rfl,KO.refl _ _⟩)
   refine KL ?_ ?_
   ·refine La.one rfl fun F_ w_ hR hout hD=>?_
    have af:F_ 14=iv ((i:Nat):Int):=(hD.get 0 rfl rfl rfl)
    exact(LV i (s:=1) rfl ((hout 3 rfl (by decide)).trans aE) af (by omega) Tryz.underlying69 (by omega) (by kernel_rfl) (by omega) ⟨rfl,KO.refl _ _⟩)
   refine KL ?_ ?_
   ·refine La.one rfl fun F_ w_ hR hout hD=>?_
    have bb:F_ 15 = .pointer (some ⟨p9,i,none⟩):=(hD.get 0 rfl rfl rfl)
    exact(OD rfl bb Tryz.underlying3 ((aH.all hR id).cell (by omega)) ⟨rfl,KO.refl _ _⟩)
   refine KL ?_ ?_
   ·refine La.one rfl fun F_ w_ hR hout hD=>?_
    have bc:F_ 16=iv (b i):=(hD.get 0 rfl rfl rfl)
    exact(LH rfl rfl rfl (fun _ _=>by kernel_rfl) (K5 _) (Lk bc (Lk rfl (Lk rfl LR))) (Ru (b i) 0 255  _   ) (fun e_ w_ h_=>⟨_,h_.1,congrArg (Value.int .i64) (by unfold c8;omega),h_.2⟩))
   refine KL ?_ ?_
   ·refine La.one rfl fun F_ w_ hR hout hD=>?_
    have bd:F_ 13=iv (c8 (a i)):=(hD.get 0 rfl rfl rfl)
    have be:F_ 17=iv (c8 (b i)):=(hD.get 1 rfl rfl rfl)
    exact(LP rfl bd be (L2 rfl (by omega)) ⟨rfl,KO.refl _ _⟩)
   refine KL ?_ ?_
   ·refine La.one rfl fun F_ w_ hR hout hD=>?_
    have bf:F_ 18=iv ((c8 (a i))+(c8 (b i))):=(hD.get 0 rfl rfl rfl)
    exact(LH rfl rfl rfl (fun _ _=>by kernel_rfl) (K5 _) (Lk bf (Lk rfl LR)) (U2 ((c8 (a i))+(c8 (b i))) 2  _ (by omega) (by omega)  ) (fun e_ w_ h_=>⟨_,h_.1,congrArg (Value.int .i64) (by omega),h_.2⟩))
   refine KL ?_ ?_
   ·refine La.one rfl fun F_ w_ hR hout hD=>?_
    have g9:F_ 9=iv ((i:Nat):Int):=(hD.get 0 rfl rfl rfl)
    exact(LV i (s:=1) rfl ((hout 2 rfl (by decide)).trans ai) g9 (by omega) Tryz.underlying69 (by omega) (by kernel_rfl) (by omega) ⟨rfl,KO.refl _ _⟩)
   exact L0
  intro bK aJ bL aK ap aj
  obtain⟨bh,bi,bj⟩:=Nu aK an aH aI
  obtain⟨bl,bm,bn,bo,bp⟩:=t5 aj 2 ai 3 aE 4 ak 23 aF 6 am
  have bq:aJ 19=iv ((c8 (a i)+c8 (b i)+1)/2):=(aj 19).trans (ap 10 (by decide))
  have bt:aJ 20 = .pointer (some ⟨p1,i,none⟩):=(aj 20).trans (ap 11 (by decide))
  clear ap aj
  refine NM rfl rfl rfl bt bq bh (by omega) (by kernel_rfl) fun bN bu aq=>?_
  have bv:=bi.all aq (aO p9 rfl)
  have bz:=bj.all aq (aQ ah rfl)
  refine KM ?_
  refine LC (KG (KH (KI (iv ((i+1:Nat):Int)) rfl rfl (LP rfl bp rfl (L6 (by omega) (by omega)) rr) (KI (iv ((i+1:Nat):Int)) rfl rfl (KQ rfl rfl rr) (KM ?_)))))
  have bA:=K4 (iv ((i+1:Nat):Int))
  exact KG ⟨(16-(i+1)),by omega,i+1,by omega,rfl,bl,bm,bn,bo,bA,((aG.tr aK).trans aq (KP.ok (S:=fun _=>False) (KP.new K0 (LS (Nat.le_of_eq e5.symm))) K3)),(bu.next (aBp a b i).symm),bv,bz⟩
 ·replace ae:=of_decide_eq_false ae
  refine Me (Ls (Ls ?_))
  have bB:16=i:=by omega
  subst bB
  have bC:NL aY p1 69 (UE a b):=(an.last)
  refine Mf (KG (KJ (KH (KI (LJ (UE a b)) rfl rfl (LY KW rfl ai bC rr) (Lp KW rfl rfl rfl ak rfl aI fun bO bD bE=>?_)))))
  refine KM ?_
  refine KG (Lb ?_)
  exact QH KW aF rfl rfl ak bD ⟨rfl,(aG.trans bE (KP.ok (S:=fun _=>False) (KP.new aA aD) K3))⟩
theorem azw(p x y:Int)(f:FD)(f0 f1 f2:Value)(T_f0:Nat->Prop)(T_f1:Nat->Prop)(T_f2:Nat->Prop)(w0:World)(h_f0:Mh w0 T_f0 f0 ((f).p0))(h_f1:Mh w0 T_f1 f1 ((f).p1))(h_f2:Mh w0 T_f2 f2 ((f).p2)) :
  Calls Tryz.prog 136 #[.agg #[.int .i64 ((f).W),.int .i64 ((f).H),f0,f1,f2],.int .i64 (p),.int .i64 (x),.int .i64 (y)] w0 fun e w'=>e = .returned (.int .i64 (aDa f p x y))/\KO (fun _=>False) w0 w':=by
 refine Lr (args:=[.agg #[iv (f.W),iv (f.H),f0,f1,f2],iv p,iv x,iv y]) 72 Tryz.func136 rfl rfl (Nat.le_of_ble_eq_true rfl) ?_
 have hb:VH f:=⟨h_f0.lt256,h_f1.lt256,h_f2.lt256⟩
 obtain⟨u,hu⟩:∃ u,u=XL x:=⟨_,rfl⟩
 obtain⟨v,hv⟩:∃ v,v=XL y:=⟨_,rfl⟩
 have hu2 : -256<=u/\u<=256:=by rw[hu];unfold XL;omega
 have hv2 : -256<=v/\v<=256:=by rw[hv];unfold XL;omega
 have hm:aDa f p x y=Wa f p u v:=by rw[hu,hv];rfl
 have a1:=TZ hb p (u/2) (v/2)
 have a2:=TZ hb p ((u+1)/2) (v/2)
 have a3:=TZ hb p (u/2) ((v+1)/2)
 have a4:=TZ hb p ((u+1)/2) ((v+1)/2)
 obtain⟨N,hN⟩:∃ N:Nat,(N:Int)=u%2+v%2:=⟨(u%2+v%2).toNat,by omega⟩
 obtain⟨M,hM⟩:∃ M:Int,M=2 ^ N:=⟨_,rfl⟩
 have hM2:(N=0/\M=1)\/(N=1/\M=2)\/(N=2/\M=4):=by rcases (by omega:N=0\/N=1\/N=2) with h|h|h <;> subst h <;> simp[hM]
 have g_f0:=KP.refl w0 T_f0
 have g_f1:=KP.refl w0 T_f1
 have g_f2:=KP.refl w0 T_f2
 refine KJ (KH (Lz (vs:=[iv (f.W),iv (f.H),f0,f1,f2]) rfl rfl rfl rfl fun p1 w2 B4 g5 k3=>?_))
 obtain⟨aU,aV,aW⟩:=Nu k3 h_f0 h_f1 h_f2
 refine KI (iv 0) rfl rfl (KS rfl rfl rr) (KM ?_)
 have aa:=K4 (iv p)
 have aX:=K4 (iv x)
 have aY:=K4 (iv y)
 have ap:=K4 (undef)
 have ab:=K4 (pt p1 0)
 refine KG (KJ (KH (KR rfl rfl rfl aX (LB (R:=fun v_ w_=>v_=iv u/\KO (fun _=>False) w2 w_) rfl rfl (LH rfl rfl rfl (fun _ _=>by kernel_rfl) (K5 _) (Lk rfl (Lk rfl (Lk rfl LR))) (Ru x (-256) 256  _   ) (fun e_ w_ h_=>⟨_,h_.1,congrArg (Value.int .i64) (by rw[hu];unfold XL;omega),h_.2⟩)) ?_))))
 rintro _ aZ ⟨rfl,aw⟩
 obtain⟨a8,a9,ba,bb⟩:=OV aw aU aV aW B4
 refine KR rfl rfl rfl aY (LB (R:=fun v_ w_=>v_=iv v/\KO (fun _=>False) aZ w_) rfl rfl (LH rfl rfl rfl (fun _ _=>by kernel_rfl) (K5 _) (Lk rfl (Lk rfl (Lk rfl LR))) (Ru y (-256) 256  _   ) (fun e_ w_ h_=>⟨_,h_.1,congrArg (Value.int .i64) (by rw[hv];unfold XL;omega),h_.2⟩)) ?_)
 rintro _ b9 ⟨rfl,az⟩
 obtain⟨ac,ae,af,ah⟩:=OV az a8 a9 ba bb
 have aq:=(((KO.refl (fun _=>False) w0).tr k3).tr aw).tr az
 refine KI (iv u) rfl rfl (KS rfl rfl rr) (KI (iv v) rfl rfl (KS rfl rfl rr) (KM ?_))
 have aA:=K4 (iv u)
 have aB:=K4 (iv v)
 refine KG (KJ (KH (KR rfl rfl rfl aA (KI (iv (u/2)) rfl rfl (Sj 1 rfl rfl rfl (by decide) (by simp) rr) (KR rfl rfl rfl aB (KI (iv (v/2)) rfl rfl (Sj 1 rfl rfl rfl (by decide) (by simp) rr) (KI (iv (u/2)) rfl rfl (KS rfl rfl rr) (KI (iv (v/2)) rfl rfl (KS rfl rfl rr) (KM ?_)))))))))
 have ai:=K4 (iv (u/2))
 have aj:=K4 (iv (v/2))
 refine KG (KJ (KH (KR rfl rfl rfl aA (KI (iv (u%2)) rfl rfl (Vq rfl rfl rfl (ZR hu2) rr) (KR rfl rfl rfl aB (KI (iv (v%2)) rfl rfl (Vq rfl rfl rfl (ZR hv2) rr) (KI (iv (u%2)) rfl rfl (KS rfl rfl rr) (KI (iv (v%2)) rfl rfl (KS rfl rfl rr) (KM ?_)))))))))
 have ak:=K4 (iv (u%2))
 have am:=K4 (iv (v%2))
 refine KG (KJ (KH (KI (iv 0) rfl rfl (KS rfl rfl rr) (KM ?_))))
 have ar:=K4 (iv 0)
 refine KG (KJ (KJ (KH (KR rfl rfl rfl ak (KR rfl rfl rfl am (KI (iv ((N:Nat):Int)) rfl rfl (LP rfl rfl rfl (L2 hN.symm (by omega)) rr) (KM ?_)))))))
 have aC:=K4 (iv ((N:Nat):Int))
 refine KG (Lm (KJ (Lm (KJ (Lm (KJ (Lm (KJ (KJ (KJ (KH ?_)))))))))))
 refine KI (.bool (decide (((N:Nat):Int)=2))) rfl rfl (Mj rfl aC rfl rfl rr) (KI (.bool (decide (((N:Nat):Int)=2))) rfl rfl (KS rfl rfl rr) (KM ?_))
 have bc:=K4 (.bool (decide (((N:Nat):Int)=2)))
 refine KG ?_
 refine K6 bc (fun an=>?_) (fun an=>?_)
 ·replace an:=of_decide_eq_true an
  refine Me (Ls (Ls (Mf (KG ?_))))
  refine Na 15 [some 33,some 34,some 35,some 36,some 37,some 38,some 39,some 40,some 41,some 42,some 43,some 44,some 45,some 46,some 47] [Pd.eq (iv 0),Pd.eq (.agg #[iv (f.W),iv (f.H),f0,f1,f2]),Pd.eq (iv p),Pd.eq (iv (u/2)),Pd.eq (iv ((u+1)/2)),Pd.eq (iv (v/2)),Pd.eq (iv (Nq f p ((u+1)/2) (v/2))),Pd.eq (.agg #[iv (f.W),iv (f.H),f0,f1,f2]),Pd.eq (iv p),Pd.eq (iv (u/2)),Pd.eq (iv (v/2)),Pd.eq (iv ((v+1)/2)),Pd.eq (iv (Nq f p (u/2) ((v+1)/2))),Pd.eq (iv ((Nq f p ((u+1)/2) (v/2))+(Nq f p (u/2) ((v+1)/2)))),Pd.eq (iv (0+((Nq f p ((u+1)/2) (v/2))+(Nq f p (u/2) ((v+1)/2)))))] (by kernel_rfl) (by kernel_rfl) (by kernel_rfl) ?_ ?_
  ·refine KL ?_ ?_
   ·refine La.one rfl fun F_ w_ hR hout hD=>?_
    exact(KQ rfl ((hout 13 rfl (by decide)).trans ar) ⟨rfl,KO.refl _ _⟩)
   refine KL ?_ ?_
   ·refine La.one rfl fun F_ w_ hR hout hD=>?_
    exact(KZ Lc rfl ((hout 4 rfl (by decide)).trans ab) (ah.all hR id) ⟨rfl,KO.refl _ _⟩)
   refine KL ?_ ?_
   ·refine La.one rfl fun F_ w_ hR hout hD=>?_
    exact(KQ rfl ((hout 1 rfl (by decide)).trans aa) ⟨rfl,KO.refl _ _⟩)
   refine KL ?_ ?_
   ·refine La.one rfl fun F_ w_ hR hout hD=>?_
    exact(KQ rfl ((hout 9 rfl (by decide)).trans ai) ⟨rfl,KO.refl _ _⟩)
   refine KL ?_ ?_
   ·refine La.one rfl fun F_ w_ hR hout hD=>?_
    have bd:F_ 36=iv (u/2):=(hD.get 0 rfl rfl rfl)
    exact(LP rfl bd rfl (L2 (by omega) (by omega)) ⟨rfl,KO.refl _ _⟩)
   refine KL ?_ ?_
   ·refine La.one rfl fun F_ w_ hR hout hD=>?_
    exact(KQ rfl ((hout 10 rfl (by decide)).trans aj) ⟨rfl,KO.refl _ _⟩)
   refine KL ?_ ?_
   ·refine La.one rfl fun F_ w_ hR hout hD=>?_
    have be:F_ 34 = .agg #[iv (f.W),iv (f.H),f0,f1,f2]:=(hD.get 0 rfl rfl rfl)
    have bf:F_ 35=iv p:=(hD.get 1 rfl rfl rfl)
    have bg:F_ 37=iv ((u+1)/2):=(hD.get 2 rfl rfl rfl)
    have bh:F_ 38=iv (v/2):=(hD.get 3 rfl rfl rfl)
    exact(LH rfl rfl rfl (fun _ _=>by kernel_rfl) (K5 _) (Lk be (Lk bf (Lk bg (Lk bh LR)))) (Ty p ((u+1)/2) (v/2) f f0 f1 f2 T_f0 T_f1 T_f2 _  (ac.all hR KK.none) (ae.all hR KK.none) (af.all hR KK.none) ) (fun e_ w_ h_=>⟨_,h_.1,rfl,h_.2⟩))
   refine KL ?_ ?_
   ·refine La.one rfl fun F_ w_ hR hout hD=>?_
    exact(KZ Lc rfl ((hout 4 rfl (by decide)).trans ab) (ah.all hR id) ⟨rfl,KO.refl _ _⟩)
   refine KL ?_ ?_
   ·refine La.one rfl fun F_ w_ hR hout hD=>?_
    exact(KQ rfl ((hout 1 rfl (by decide)).trans aa) ⟨rfl,KO.refl _ _⟩)
   refine KL ?_ ?_
   ·refine La.one rfl fun F_ w_ hR hout hD=>?_
    exact(KQ rfl ((hout 9 rfl (by decide)).trans ai) ⟨rfl,KO.refl _ _⟩)
   refine KL ?_ ?_
   ·refine La.one rfl fun F_ w_ hR hout hD=>?_
    exact(KQ rfl ((hout 10 rfl (by decide)).trans aj) ⟨rfl,KO.refl _ _⟩)
   refine KL ?_ ?_
   ·refine La.one rfl fun F_ w_ hR hout hD=>?_
    have bi:F_ 43=iv (v/2):=(hD.get 0 rfl rfl rfl)
    exact(LP rfl bi rfl (L2 (by omega) (by omega)) ⟨rfl,KO.refl _ _⟩)
   refine KL ?_ ?_
   ·refine La.one rfl fun F_ w_ hR hout hD=>?_
    have bj:F_ 40 = .agg #[iv (f.W),iv (f.H),f0,f1,f2]:=(hD.get 0 rfl rfl rfl)
    have bl:F_ 41=iv p:=(hD.get 1 rfl rfl rfl)
    have bm:F_ 42=iv (u/2):=(hD.get 2 rfl rfl rfl)
    have bn:F_ 44=iv ((v+1)/2):=(hD.get 3 rfl rfl rfl)
    exact(LH rfl rfl rfl (fun _ _=>by kernel_rfl) (K5 _) (Lk bj (Lk bl (Lk bm (Lk bn LR)))) (Ty p (u/2) ((v+1)/2) f f0 f1 f2 T_f0 T_f1 T_f2 _  (ac.all hR KK.none) (ae.all hR KK.none) (af.all hR KK.none) ) (fun e_ w_ h_=>⟨_,h_.1,rfl,h_.2⟩))
   refine KL ?_ ?_
   ·refine La.one rfl fun F_ w_ hR hout hD=>?_
    have bo:F_ 39=iv (Nq f p ((u+1)/2) (v/2)):=(hD.get 0 rfl rfl rfl)
    have bp:F_ 45=iv (Nq f p (u/2) ((v+1)/2)):=(hD.get 1 rfl rfl rfl)
    exact(LP rfl bo bp (L2 rfl (by omega)) ⟨rfl,KO.refl _ _⟩)
   refine KL ?_ ?_
   ·refine La.one rfl fun F_ w_ hR hout hD=>?_
    have bq:F_ 33=iv 0:=(hD.get 0 rfl rfl rfl)
    have bt:F_ 46=iv ((Nq f p ((u+1)/2) (v/2))+(Nq f p (u/2) ((v+1)/2))):=(hD.get 1 rfl rfl rfl)
    exact(LP rfl bq bt (L2 rfl (by omega)) ⟨rfl,KO.refl _ _⟩)
   exact L0
  intro cd bu ce aD aE au
  obtain⟨aF,aG,aH,aI⟩:=OV aD ac ae af ah
  obtain⟨aJ,bv,aK,aL,aM,aN,aO⟩:=t7 au 1 aa 72 ap 4 ab 9 ai 10 aj 11 ak 12 am
  have bz:bu 47=iv (0+((Nq f p ((u+1)/2) (v/2))+(Nq f p (u/2) ((v+1)/2)))):=(au 47).trans (aE 14 (by decide))
  clear aE au
  refine aCO rfl rfl rfl bz (KM ?_)
  have bA:=K4 (iv (0+((Nq f p ((u+1)/2) (v/2))+(Nq f p (u/2) ((v+1)/2)))))
  refine LC (KG (KH (KR rfl rfl rfl bA (KI (.agg #[iv (f.W),iv (f.H),f0,f1,f2]) rfl rfl (KZ Lc rfl aK aI rr) (KR rfl rfl rfl aJ (KR rfl rfl rfl aL (KR rfl rfl rfl aN (KI (iv ((u+1)/2)) rfl rfl (LP rfl rfl rfl (L2 (by omega) (by omega)) rr) (KR rfl rfl rfl aM (KR rfl rfl rfl aO (KI (iv ((v+1)/2)) rfl rfl (LP rfl rfl rfl (L2 (by omega) (by omega)) rr) ?_)))))))))))
  refine LW rfl rfl rfl rfl rfl (fun _ _=>by kernel_rfl) (Lk rfl (Lk rfl (Lk rfl (Lk rfl LR)))) (Ty p ((u+1)/2) ((v+1)/2) f f0 f1 f2 T_f0 T_f1 T_f2 _  aF aG aH ) fun cg aP=>?_
  obtain⟨bB,bC,bD,bE⟩:=OV aP aF aG aH aI
  refine KI (iv ((0+((Nq f p ((u+1)/2) (v/2))+(Nq f p (u/2) ((v+1)/2))))+(Nq f p ((u+1)/2) ((v+1)/2)))) rfl rfl (LP rfl rfl rfl (L2 rfl (by omega)) rr) (KI (iv ((0+((Nq f p ((u+1)/2) (v/2))+(Nq f p (u/2) ((v+1)/2))))+(Nq f p ((u+1)/2) ((v+1)/2)))) rfl rfl (KS rfl rfl rr) (KM ?_))
  have bF:=K4 (iv ((0+((Nq f p ((u+1)/2) (v/2))+(Nq f p (u/2) ((v+1)/2))))+(Nq f p ((u+1)/2) ((v+1)/2))))
  refine LC (KG (KJ (KH (KR rfl rfl rfl bF (KI (.agg #[iv (f.W),iv (f.H),f0,f1,f2]) rfl rfl (KZ Lc rfl aK bE rr) (KR rfl rfl rfl aJ (KR rfl rfl rfl aL (KR rfl rfl rfl aM (LW rfl rfl rfl rfl rfl (fun _ _=>by kernel_rfl) (Lk rfl (Lk rfl (Lk rfl (Lk rfl LR)))) (Ty p (u/2) (v/2) f f0 f1 f2 T_f0 T_f1 T_f2 _  bB bC bD ) fun bG bH=>?_)))))))))
  refine KI (iv (((0+((Nq f p ((u+1)/2) (v/2))+(Nq f p (u/2) ((v+1)/2))))+(Nq f p ((u+1)/2) ((v+1)/2)))+(Nq f p (u/2) (v/2)))) rfl rfl (LP rfl rfl rfl (L2 rfl (by omega)) rr) (KI (iv (((0+((Nq f p ((u+1)/2) (v/2))+(Nq f p (u/2) ((v+1)/2))))+(Nq f p ((u+1)/2) ((v+1)/2)))+(Nq f p (u/2) (v/2)))) rfl rfl (KS rfl rfl rr) (KM ?_))
  have bI:=K4 (iv (((0+((Nq f p ((u+1)/2) (v/2))+(Nq f p (u/2) ((v+1)/2))))+(Nq f p ((u+1)/2) ((v+1)/2)))+(Nq f p (u/2) (v/2))))
  refine KG (Me (Mf (KG (KJ (KH (KR rfl rfl rfl bI (KR rfl rfl rfl aN (KR rfl rfl rfl aO (KI (iv ((N:Nat):Int)) rfl rfl (LP rfl rfl rfl (L2 hN.symm (by omega)) rr) (KI (iv M) rfl rfl (YW N rfl rfl rfl (by rcases hM2 with ⟨h1,h2⟩ | ⟨h1,h2⟩ | ⟨h1,h2⟩ <;> subst h1 <;> rw[h2] <;> rfl) rr) (LB (R:=fun v_ w_=>v_=iv (Wa f p u v)/\KO (fun _=>False) bG w_) rfl rfl (LH rfl rfl rfl (fun _ _=>by kernel_rfl) (K5 _) (Lk rfl (Lk rfl LR)) (U2 (((0+((Nq f p ((u+1)/2) (v/2))+(Nq f p (u/2) ((v+1)/2))))+(Nq f p ((u+1)/2) ((v+1)/2)))+(Nq f p (u/2) (v/2))) M  _ (by omega) (by omega)  ) (fun e_ w_ h_=>⟨_,h_.1,congrArg (Value.int .i64) (by first|(rw[(by omega:M=4)];have e:=VS (f:=f) (p:=p) (u:=u) (v:=v) (by omega) (by omega);omega)|(rw[(by omega:M=2)];rcases (by omega:u%2=0\/v%2=0) with h0|h0;(have e:=Vl (f:=f) (p:=p) (u:=u) (v:=v) (by omega) (by omega);rw[show (u+1)/2=u/2 by omega];omega);(have e:=V1 (f:=f) (p:=p) (u:=u) (v:=v) (by omega) (by omega);rw[show (v+1)/2=v/2 by omega];omega))|(rw[(by omega:M=1)];have e:=Vt (f:=f) (p:=p) (u:=u) (v:=v) (by omega) (by omega);omega)),h_.2⟩)) ?_)))))))))))
  rintro _ ci ⟨rfl,bJ⟩
  refine KI (iv (Wa f p u v)) rfl rfl (KS rfl rfl rr) (KM ?_)
  have bK:=K4 (iv (Wa f p u v))
  refine KG (Lb ?_)
  exact Lu (v:=iv (Wa f p u v)) bv rfl rfl bK ⟨(by rw[hm]),((((aq.tr aD).tr aP).tr bH).tr bJ)⟩
 ·replace an:=of_decide_eq_false an
  refine Lg (KG (KJ (KH (KI (.bool (decide (((N:Nat):Int)=1))) rfl rfl (Mj rfl aC rfl rfl rr) (KI (.bool (decide (((N:Nat):Int)=1))) rfl rfl (KS rfl rfl rr) (KM ?_))))))
  have bL:=K4 (.bool (decide (((N:Nat):Int)=1)))
  refine KG ?_
  refine K6 bL (fun ao=>?_) (fun ao=>?_)
  ·replace ao:=of_decide_eq_true ao
   refine Me (Ls (Ra (by decide) (Ls (Mf (KG (KH (KR rfl rfl rfl ar (KI (.agg #[iv (f.W),iv (f.H),f0,f1,f2]) rfl rfl (KZ Lc rfl ab ah rr) (KR rfl rfl rfl aa (KR rfl rfl rfl ai (KR rfl rfl rfl ak ?_)))))))))))
   refine KI (iv ((u+1)/2)) rfl rfl (LP rfl rfl rfl (L2 (by omega) (by omega)) rr) (KR rfl rfl rfl aj (KR rfl rfl rfl am (KI (iv ((v+1)/2)) rfl rfl (LP rfl rfl rfl (L2 (by omega) (by omega)) rr) (LW rfl rfl rfl rfl rfl (fun _ _=>by kernel_rfl) (Lk rfl (Lk rfl (Lk rfl (Lk rfl LR)))) (Ty p ((u+1)/2) ((v+1)/2) f f0 f1 f2 T_f0 T_f1 T_f2 _  ac ae af ) fun cj aQ=>?_))))
   obtain⟨bM,bN,bO,bP⟩:=OV aQ ac ae af ah
   refine KI (iv (0+(Nq f p ((u+1)/2) ((v+1)/2)))) rfl rfl (LP rfl rfl rfl (L2 rfl (by omega)) rr) (KI (iv (0+(Nq f p ((u+1)/2) ((v+1)/2)))) rfl rfl (KS rfl rfl rr) (KM ?_))
   have bQ:=K4 (iv (0+(Nq f p ((u+1)/2) ((v+1)/2))))
   refine LC (KG (KJ (KH (KR rfl rfl rfl bQ (KI (.agg #[iv (f.W),iv (f.H),f0,f1,f2]) rfl rfl (KZ Lc rfl ab bP rr) (KR rfl rfl rfl aa (KR rfl rfl rfl ai (KR rfl rfl rfl aj (LW rfl rfl rfl rfl rfl (fun _ _=>by kernel_rfl) (Lk rfl (Lk rfl (Lk rfl (Lk rfl LR)))) (Ty p (u/2) (v/2) f f0 f1 f2 T_f0 T_f1 T_f2 _  bM bN bO ) fun bR bS=>?_)))))))))
   refine KI (iv ((0+(Nq f p ((u+1)/2) ((v+1)/2)))+(Nq f p (u/2) (v/2)))) rfl rfl (LP rfl rfl rfl (L2 rfl (by omega)) rr) (KI (iv ((0+(Nq f p ((u+1)/2) ((v+1)/2)))+(Nq f p (u/2) (v/2)))) rfl rfl (KS rfl rfl rr) (KM ?_))
   have bT:=K4 (iv ((0+(Nq f p ((u+1)/2) ((v+1)/2)))+(Nq f p (u/2) (v/2))))
   refine KG (Me (Mf (KG (KJ (KH (KR rfl rfl rfl bT (KR rfl rfl rfl ak (KR rfl rfl rfl am (KI (iv ((N:Nat):Int)) rfl rfl (LP rfl rfl rfl (L2 hN.symm (by omega)) rr) (KI (iv M) rfl rfl (YW N rfl rfl rfl (by rcases hM2 with ⟨h1,h2⟩ | ⟨h1,h2⟩ | ⟨h1,h2⟩ <;> subst h1 <;> rw[h2] <;> rfl) rr) (LB (R:=fun v_ w_=>v_=iv (Wa f p u v)/\KO (fun _=>False) bR w_) rfl rfl (LH rfl rfl rfl (fun _ _=>by kernel_rfl) (K5 _) (Lk rfl (Lk rfl LR)) (U2 ((0+(Nq f p ((u+1)/2) ((v+1)/2)))+(Nq f p (u/2) (v/2))) M  _ (by omega) (by omega)  ) (fun e_ w_ h_=>⟨_,h_.1,congrArg (Value.int .i64) (by first|(rw[(by omega:M=4)];have e:=VS (f:=f) (p:=p) (u:=u) (v:=v) (by omega) (by omega);omega)|(rw[(by omega:M=2)];rcases (by omega:u%2=0\/v%2=0) with h0|h0;(have e:=Vl (f:=f) (p:=p) (u:=u) (v:=v) (by omega) (by omega);rw[show (u+1)/2=u/2 by omega];omega);(have e:=V1 (f:=f) (p:=p) (u:=u) (v:=v) (by omega) (by omega);rw[show (v+1)/2=v/2 by omega];omega))|(rw[(by omega:M=1)];have e:=Vt (f:=f) (p:=p) (u:=u) (v:=v) (by omega) (by omega);omega)),h_.2⟩)) ?_)))))))))))
   rintro _ cm ⟨rfl,bU⟩
   refine KI (iv (Wa f p u v)) rfl rfl (KS rfl rfl rr) (KM ?_)
   have bV:=K4 (iv (Wa f p u v))
   refine KG (Lb ?_)
   exact Lu (v:=iv (Wa f p u v)) ap rfl rfl bV ⟨(by rw[hm]),(((aq.tr aQ).tr bS).tr bU)⟩
  ·replace ao:=of_decide_eq_false ao
   refine Lg (KG (Me (Ra (by decide) (Ls (Ra (by decide) (Ls (Mf (KG (KJ (KH (KR rfl rfl rfl ar ?_)))))))))))
   refine KI (.agg #[iv (f.W),iv (f.H),f0,f1,f2]) rfl rfl (KZ Lc rfl ab ah rr) (KR rfl rfl rfl aa (KR rfl rfl rfl ai (KR rfl rfl rfl aj (LW rfl rfl rfl rfl rfl (fun _ _=>by kernel_rfl) (Lk rfl (Lk rfl (Lk rfl (Lk rfl LR)))) (Ty p (u/2) (v/2) f f0 f1 f2 T_f0 T_f1 T_f2 _  ac ae af ) fun bW bX=>?_))))
   refine KI (iv (0+(Nq f p (u/2) (v/2)))) rfl rfl (LP rfl rfl rfl (L2 rfl (by omega)) rr) (KI (iv (0+(Nq f p (u/2) (v/2)))) rfl rfl (KS rfl rfl rr) (KM ?_))
   have bY:=K4 (iv (0+(Nq f p (u/2) (v/2))))
   refine KG (Me (Mf (KG (KJ (KH (KR rfl rfl rfl bY (KR rfl rfl rfl ak (KR rfl rfl rfl am (KI (iv ((N:Nat):Int)) rfl rfl (LP rfl rfl rfl (L2 hN.symm (by omega)) rr) (KI (iv M) rfl rfl (YW N rfl rfl rfl (by rcases hM2 with ⟨h1,h2⟩ | ⟨h1,h2⟩ | ⟨h1,h2⟩ <;> subst h1 <;> rw[h2] <;> rfl) rr) (LB (R:=fun v_ w_=>v_=iv (Wa f p u v)/\KO (fun _=>False) bW w_) rfl rfl (LH rfl rfl rfl (fun _ _=>by kernel_rfl) (K5 _) (Lk rfl (Lk rfl LR)) (U2 (0+(Nq f p (u/2) (v/2))) M  _ (by omega) (by omega)  ) (fun e_ w_ h_=>⟨_,h_.1,congrArg (Value.int .i64) (by first|(rw[(by omega:M=4)];have e:=VS (f:=f) (p:=p) (u:=u) (v:=v) (by omega) (by omega);omega)|(rw[(by omega:M=2)];rcases (by omega:u%2=0\/v%2=0) with h0|h0;(have e:=Vl (f:=f) (p:=p) (u:=u) (v:=v) (by omega) (by omega);rw[show (u+1)/2=u/2 by omega];omega);(have e:=V1 (f:=f) (p:=p) (u:=u) (v:=v) (by omega) (by omega);rw[show (v+1)/2=v/2 by omega];omega))|(rw[(by omega:M=1)];have e:=Vt (f:=f) (p:=p) (u:=u) (v:=v) (by omega) (by omega);omega)),h_.2⟩)) ?_)))))))))))
   rintro _ cn ⟨rfl,bZ⟩
   refine KI (iv (Wa f p u v)) rfl rfl (KS rfl rfl rr) (KM ?_)
   have b7:=K4 (iv (Wa f p u v))
   refine KG (Lb ?_)
   exact Lu (v:=iv (Wa f p u v)) ap rfl rfl b7 ⟨(by rw[hm]),((aq.tr bX).tr bZ)⟩
theorem S6(p x y X Y:Int)(f:FD)(f0 f1 f2:Value)(T_f0:Nat->Prop)(T_f1:Nat->Prop)(T_f2:Nat->Prop)(w0:World)(h_f0:Mh w0 T_f0 f0 ((f).p0))(h_f1:Mh w0 T_f1 f1 ((f).p1))(h_f2:Mh w0 T_f2 f2 ((f).p2)) :
  Calls Tryz.prog 110 #[.agg #[.int .i64 ((f).W),.int .i64 ((f).H),f0,f1,f2],.int .i64 (p),.int .i64 (x),.int .i64 (y),.agg #[.int .i64 (X),.int .i64 (Y)]] w0 fun e w'=>e = .returned (.tuple #[LJ (UH f p x y X Y),.int .i64 (OW f p x y X Y)])/\KO (fun _=>False) w0 w':=by
 refine Lr (args:=[.agg #[iv (f.W),iv (f.H),f0,f1,f2],iv p,iv x,iv y,.agg #[iv X,iv Y]]) 69 Tryz.func110 rfl rfl (Nat.le_of_ble_eq_true rfl) ?_
 have g_f0:=KP.refl w0 T_f0
 have g_f1:=KP.refl w0 T_f1
 have g_f2:=KP.refl w0 T_f2
 refine KJ (KH (Lz (vs:=[iv (f.W),iv (f.H),f0,f1,f2]) rfl rfl rfl rfl fun p1 w2 B4 g5 k3=>?_))
 obtain⟨bJ,bK,bL⟩:=Nu k3 h_f0 h_f1 h_f2
 refine Lz (vs:=[iv X,iv Y]) rfl rfl rfl rfl fun an dN bM dO aO=>?_
 obtain⟨bN,bO,bP,bQ⟩:=OV aO bJ bK bL B4
 have aP:=((KO.refl (fun _=>False) w0).tr k3).tr aO
 refine L1 rfl rfl rfl KW.2.2 fun aA dP aQ ao aR=>?_
 have aS:=LS (Nat.le_of_eq aQ.symm)
 have ac:=KP.new aP aS
 clear aQ aS
 obtain⟨ae,af,ah,ai,bR⟩:=OU aR bN bO bP bQ bM
 have ap:=aP.tr aR
 refine KI (iv 0) rfl rfl (KS rfl rfl rr) (KM ?_)
 have ab:=K4 (iv p)
 have aB:=K4 (iv x)
 have aD:=K4 (iv y)
 have aj:=K4 (undef)
 have ak:=K4 (pt p1 0)
 have aT:=K4 (pt an 0)
 have aa:=K4 (pt aA 0)
 refine KG (KJ (KJ ?_))
 by_cases aq:(Nn f)≠0
 ·skip
  refine KH (KI (.agg #[iv (f.W),iv (f.H),f0,f1,f2]) rfl rfl (KZ Lc rfl ak ai rr) (LW rfl rfl rfl rfl rfl (fun _ _=>by kernel_rfl) (Lk rfl LR) (M6 f f0 f1 f2 T_f0 T_f1 T_f2 _  ae af ah ) fun dQ aU=>?_))
  have bS:=ao.all aU id
  refine KI (.bool true) rfl rfl (Mb rfl rfl rfl (decide_eq_true aq) rr) (KI (.bool true) rfl rfl (KQ rfl rfl rr) (KN 3 false 18 rfl rfl rfl (Or.inl rfl) rfl (KN 3 false 18 rfl rfl rfl (Or.inl rfl) rfl (KI (.bool true) rfl rfl (Lo rfl rfl rfl rr) (KI (.bool true) rfl rfl (KQ rfl rfl rr) (KN 7 false 22 rfl rfl rfl (Or.inl rfl) rfl (KN 7 false 22 rfl rfl rfl (Or.inl rfl) rfl (KI (.bool true) rfl rfl (Lo rfl rfl rfl rr) (KI (.bool true) rfl rfl (KQ rfl rfl rr) (KN 11 false 26 rfl rfl rfl (Or.inl rfl) rfl (KN 11 false 26 rfl rfl rfl (Or.inl rfl) rfl ?_)))))))))))
  refine KN 11 false 26 rfl rfl rfl (Or.inl rfl) rfl (KI (.bool true) rfl rfl (Lo rfl rfl rfl rr) (KI (.bool true) rfl rfl (KQ rfl rfl rr) (KN 16 false 31 rfl rfl rfl (Or.inl rfl) rfl (KN 16 false 31 rfl rfl rfl (Or.inl rfl) rfl (KN 16 false 31 rfl rfl rfl (Or.inl rfl) rfl (KI (.bool true) rfl rfl (Lo rfl rfl rfl rr) (KM ?_)))))))
  have bT:=K4 (.bool true)
  refine KG ?_
  refine K6 (t:=true) bT (fun _=>?_) (fun e=>by cases e)
  refine KJ ?_
  have hno:¬ MU f p x y:=by rintro ⟨h1,h2,h3,h4,h5,h6,h7⟩;first|exact absurd ((Mv f).2 h1) (by assumption)|omega
  refine KH (KI (LJ (fun _=>0)) rfl rfl (Mx (cells:=(L8 16 (fun _=>0)).toArray) rfl (by kernel_rfl) rfl rr) (Lp KW rfl rfl rfl aa rfl bS fun dR bU bV=>?_))
  refine KI (iv 70) rfl rfl (KS rfl rfl rr) (KM ?_)
  have bW:=K4 (iv 70)
  refine KG (Lb (Lq ?_))
  exact L7 aj rfl (Mq KW rfl aa bU) (Ly (v:=iv 70) rfl bW) ⟨(by first|rw[(Qp hno).1,(Qp hno).2]|rw[(NW hpl hvn).1,(NW hpl hvn).2,ND hvn]|rw[(OK hpl hv).1,(OK hpl hv).2]),((ap.tr aU).trans bV (KP.ok (S:=fun _=>False) ac K3))⟩
 ·skip
  by_cases ar:p<0
  ·skip
   refine KH (KI (.agg #[iv (f.W),iv (f.H),f0,f1,f2]) rfl rfl (KZ Lc rfl ak ai rr) (LW rfl rfl rfl rfl rfl (fun _ _=>by kernel_rfl) (Lk rfl LR) (M6 f f0 f1 f2 T_f0 T_f1 T_f2 _  ae af ah ) fun dS aV=>?_))
   have bX:=ao.all aV id
   refine KI (.bool false) rfl rfl (Mb rfl rfl rfl (decide_eq_false aq) rr) (KI (.bool false) rfl rfl (KQ rfl rfl rr) (KT (iv p) 3 false 18 rfl rfl rfl rfl rfl (KQ rfl ab rr) (KT (.bool true) 3 false 18 rfl rfl rfl rfl rfl (L4 rfl rfl rfl (decide_eq_true ar) rr) (KI (.bool true) rfl rfl (Li rfl rfl rfl rr) (KI (.bool true) rfl rfl (KQ rfl rfl rr) (KN 7 false 22 rfl rfl rfl (Or.inl rfl) rfl (KN 7 false 22 rfl rfl rfl (Or.inl rfl) rfl (KI (.bool true) rfl rfl (Lo rfl rfl rfl rr) (KI (.bool true) rfl rfl (KQ rfl rfl rr) (KN 11 false 26 rfl rfl rfl (Or.inl rfl) rfl (KN 11 false 26 rfl rfl rfl (Or.inl rfl) rfl ?_)))))))))))
   refine KN 11 false 26 rfl rfl rfl (Or.inl rfl) rfl (KI (.bool true) rfl rfl (Lo rfl rfl rfl rr) (KI (.bool true) rfl rfl (KQ rfl rfl rr) (KN 16 false 31 rfl rfl rfl (Or.inl rfl) rfl (KN 16 false 31 rfl rfl rfl (Or.inl rfl) rfl (KN 16 false 31 rfl rfl rfl (Or.inl rfl) rfl (KI (.bool true) rfl rfl (Lo rfl rfl rfl rr) (KM ?_)))))))
   have bY:=K4 (.bool true)
   refine KG ?_
   refine K6 (t:=true) bY (fun _=>?_) (fun e=>by cases e)
   refine KJ ?_
   have hno:¬ MU f p x y:=by rintro ⟨h1,h2,h3,h4,h5,h6,h7⟩;first|exact absurd ((Mv f).2 h1) (by assumption)|omega
   refine KH (KI (LJ (fun _=>0)) rfl rfl (Mx (cells:=(L8 16 (fun _=>0)).toArray) rfl (by kernel_rfl) rfl rr) (Lp KW rfl rfl rfl aa rfl bX fun dT bZ b7=>?_))
   refine KI (iv 70) rfl rfl (KS rfl rfl rr) (KM ?_)
   have b8:=K4 (iv 70)
   refine KG (Lb (Lq ?_))
   exact L7 aj rfl (Mq KW rfl aa bZ) (Ly (v:=iv 70) rfl b8) ⟨(by first|rw[(Qp hno).1,(Qp hno).2]|rw[(NW hpl hvn).1,(NW hpl hvn).2,ND hvn]|rw[(OK hpl hv).1,(OK hpl hv).2]),((ap.tr aV).trans b7 (KP.ok (S:=fun _=>False) ac K3))⟩
  ·skip
   by_cases aC:3<=p
   ·skip
    refine KH (KI (.agg #[iv (f.W),iv (f.H),f0,f1,f2]) rfl rfl (KZ Lc rfl ak ai rr) (LW rfl rfl rfl rfl rfl (fun _ _=>by kernel_rfl) (Lk rfl LR) (M6 f f0 f1 f2 T_f0 T_f1 T_f2 _  ae af ah ) fun dU aW=>?_))
    have b9:=ao.all aW id
    refine KI (.bool false) rfl rfl (Mb rfl rfl rfl (decide_eq_false aq) rr) (KI (.bool false) rfl rfl (KQ rfl rfl rr) (KT (iv p) 3 false 18 rfl rfl rfl rfl rfl (KQ rfl ab rr) (KT (.bool false) 3 false 18 rfl rfl rfl rfl rfl (L4 rfl rfl rfl (decide_eq_false ar) rr) (KI (.bool false) rfl rfl (Li rfl rfl rfl rr) (KI (.bool false) rfl rfl (KQ rfl rfl rr) (KT (iv p) 7 false 22 rfl rfl rfl rfl rfl (KQ rfl ab rr) (KT (.bool true) 7 false 22 rfl rfl rfl rfl rfl (Nf rfl rfl rfl (decide_eq_true aC) rr) (KI (.bool true) rfl rfl (Li rfl rfl rfl rr) (KI (.bool true) rfl rfl (KQ rfl rfl rr) (KN 11 false 26 rfl rfl rfl (Or.inl rfl) rfl (KN 11 false 26 rfl rfl rfl (Or.inl rfl) rfl ?_)))))))))))
    refine KN 11 false 26 rfl rfl rfl (Or.inl rfl) rfl (KI (.bool true) rfl rfl (Lo rfl rfl rfl rr) (KI (.bool true) rfl rfl (KQ rfl rfl rr) (KN 16 false 31 rfl rfl rfl (Or.inl rfl) rfl (KN 16 false 31 rfl rfl rfl (Or.inl rfl) rfl (KN 16 false 31 rfl rfl rfl (Or.inl rfl) rfl (KI (.bool true) rfl rfl (Lo rfl rfl rfl rr) (KM ?_)))))))
    have cd:=K4 (.bool true)
    refine KG ?_
    refine K6 (t:=true) cd (fun _=>?_) (fun e=>by cases e)
    refine KJ ?_
    have hno:¬ MU f p x y:=by rintro ⟨h1,h2,h3,h4,h5,h6,h7⟩;first|exact absurd ((Mv f).2 h1) (by assumption)|omega
    refine KH (KI (LJ (fun _=>0)) rfl rfl (Mx (cells:=(L8 16 (fun _=>0)).toArray) rfl (by kernel_rfl) rfl rr) (Lp KW rfl rfl rfl aa rfl b9 fun dV ce cf=>?_))
    refine KI (iv 70) rfl rfl (KS rfl rfl rr) (KM ?_)
    have cg:=K4 (iv 70)
    refine KG (Lb (Lq ?_))
    exact L7 aj rfl (Mq KW rfl aa ce) (Ly (v:=iv 70) rfl cg) ⟨(by first|rw[(Qp hno).1,(Qp hno).2]|rw[(NW hpl hvn).1,(NW hpl hvn).2,ND hvn]|rw[(OK hpl hv).1,(OK hpl hv).2]),((ap.tr aW).trans cf (KP.ok (S:=fun _=>False) ac K3))⟩
   ·skip
    by_cases aE:0<=x/\x<=64
    ·skip
     by_cases aX:0<=y/\y<=64
     ·skip
      refine KH (KI (.agg #[iv (f.W),iv (f.H),f0,f1,f2]) rfl rfl (KZ Lc rfl ak ai rr) (LW rfl rfl rfl rfl rfl (fun _ _=>by kernel_rfl) (Lk rfl LR) (M6 f f0 f1 f2 T_f0 T_f1 T_f2 _  ae af ah ) fun ci aY=>?_))
      obtain⟨cj,cm,cn,co,cq,cr⟩:=QB aY ae af ah ai bR ao
      refine KI (.bool false) rfl rfl (Mb rfl rfl rfl (decide_eq_false aq) rr) (KI (.bool false) rfl rfl (KQ rfl rfl rr) (KT (iv p) 3 false 18 rfl rfl rfl rfl rfl (KQ rfl ab rr) (KT (.bool false) 3 false 18 rfl rfl rfl rfl rfl (L4 rfl rfl rfl (decide_eq_false ar) rr) (KI (.bool false) rfl rfl (Li rfl rfl rfl rr) (KI (.bool false) rfl rfl (KQ rfl rfl rr) (KT (iv p) 7 false 22 rfl rfl rfl rfl rfl (KQ rfl ab rr) (KT (.bool false) 7 false 22 rfl rfl rfl rfl rfl (Nf rfl rfl rfl (decide_eq_false aC) rr) (KI (.bool false) rfl rfl (Li rfl rfl rfl rr) (KI (.bool false) rfl rfl (KQ rfl rfl rr) (KT (iv x) 11 false 26 rfl rfl rfl rfl rfl (KQ rfl aB rr) (LN (R:=fun v_ w_=>v_ = .bool true/\KO (fun _=>False) ci w_) 11 false 26 rfl rfl rfl rfl rfl (LH rfl rfl rfl (fun _ _=>by kernel_rfl) (K5 _) (Lk rfl LR) (Pz x  _   ) (fun e_ w_ h_=>⟨_,h_.1,(congrArg Value.bool (decide_eq_true aE)),h_.2⟩)) ?_)))))))))))
      rintro _ ct ⟨rfl,aZ⟩
      obtain⟨cu,cv,cw,cy,cz,cA⟩:=QB aZ cj cm cn co cq cr
      refine KT (.bool false) 11 false 26 rfl rfl rfl rfl rfl (L9 rfl rfl rfl rr) (KI (.bool false) rfl rfl (Li rfl rfl rfl rr) (KI (.bool false) rfl rfl (KQ rfl rfl rr) (KT (iv y) 16 false 31 rfl rfl rfl rfl rfl (KQ rfl aD rr) (LN (R:=fun v_ w_=>v_ = .bool true/\KO (fun _=>False) ct w_) 16 false 31 rfl rfl rfl rfl rfl (LH rfl rfl rfl (fun _ _=>by kernel_rfl) (K5 _) (Lk rfl LR) (Pz y  _   ) (fun e_ w_ h_=>⟨_,h_.1,(congrArg Value.bool (decide_eq_true aX)),h_.2⟩)) ?_))))
      rintro _ dW ⟨rfl,a8⟩
      obtain⟨cB,cC,cD,cE,a9,cF⟩:=QB a8 cu cv cw cy cz cA
      refine KT (.bool false) 16 false 31 rfl rfl rfl rfl rfl (L9 rfl rfl rfl rr) (KI (.bool false) rfl rfl (Li rfl rfl rfl rr) (KM ?_))
      have cG:=K4 (.bool false)
      refine KG ?_
      refine K6 (t:=false) cG (fun e=>by cases e) (fun _=>?_)
      refine Lg (KG (KJ (KJ ?_)))
      have hpl:MU f p x y:=⟨(Mv f).1 (by first|assumption|(apply Decidable.byContradiction;assumption)),by omega,by omega,by omega,by omega,by omega,by omega⟩
      refine KH (KI (.agg #[iv X,iv Y]) rfl rfl (KZ LO rfl aT a9 rr) (LW rfl rfl rfl rfl rfl (fun _ _=>by kernel_rfl) (Lk rfl LR) (VT X Y  _   ) fun dX ba=>?_))
      obtain⟨bb,bc,bd,be,bf,aF⟩:=QB ba cB cC cD cE a9 cF
      have aG:=(((ap.tr aY).tr aZ).tr a8).tr ba
      refine KI (iv (PK X Y)) rfl rfl (KS rfl rfl rr) (KM ?_)
      have bg:=K4 (iv (PK X Y))
      refine KG (KJ (KH (KR rfl rfl rfl bg (KI (.bool (decide ((PK X Y)≠0))) rfl rfl (Mb rfl rfl rfl rfl rr) (KM ?_)))))
      have cH:=K4 (.bool (decide ((PK X Y)≠0)))
      refine KG ?_
      refine K6 cH (fun au=>?_) (fun au=>?_)
      ·replace au:=of_decide_eq_true au
       refine KJ ?_
       have hvn:¬ M9 X Y:=fun h=>absurd ((RY X Y).2 h) (by assumption)
       refine KH (KI (LJ (fun _=>0)) rfl rfl (Mx (cells:=(L8 16 (fun _=>0)).toArray) rfl (by kernel_rfl) rfl rr) (KR rfl rfl rfl bg (Lp KW rfl rfl rfl aa rfl aF fun dY cI cJ=>?_)))
       refine KI (iv (PK X Y)) rfl rfl (KS rfl rfl rr) (KM ?_)
       have cK:=K4 (iv (PK X Y))
       refine KG (Lb (Lq ?_))
       exact L7 aj rfl (Mq KW rfl aa cI) (Ly (v:=iv (PK X Y)) rfl cK) ⟨(by first|rw[(Qp hno).1,(Qp hno).2]|rw[(NW hpl hvn).1,(NW hpl hvn).2,ND hvn]|rw[(OK hpl hv).1,(OK hpl hv).2]),(aG.trans cJ (KP.ok (S:=fun _=>False) ac K3))⟩
      ·replace au:=of_decide_eq_false au
       refine Lg (KG (KJ ?_))
       have hv:M9 X Y:=(RY X Y).1 (by first|assumption|(apply Decidable.byContradiction;assumption))
       obtain⟨hv1,hv2,hv3,hv4⟩:=(show M9 X Y from hv)
       refine KH (L1 rfl rfl rfl KW.2.2 fun av dZ bh cL bi=>?_)
       have bj:=LS (Nat.le_of_eq bh.symm)
       obtain⟨cM,cN,cO,cP,cQ,cR⟩:=Vr bj bb bc bd be bf aF
       clear bh
       obtain⟨cS,cT,cU,cV,cW,cX⟩:=QB bi bb bc bd be bf aF
       refine KM ?_
       have cY:=K4 (pt av 0)
       refine KG (KJ (KJ (KH (KI (iv 0) rfl rfl (KQ rfl rfl rr) (KM ?_)))))
       have cZ:=K4 (iv 0)
       refine KG (Lm (MZ (fun nn FF ww=>∃ (n:Nat),(n<=16)/\nn=16-n/\FF 1=iv p/\FF 2=iv x/\FF 3=iv y/\FF 5=pt p1 0/\FF 9=pt an 0/\FF 10=pt aA 0/\FF 13=pt av 0/\FF 69=undef/\FF 43=iv ((n:Nat):Int)/\KO (fun _=>False) w0 ww/\Mh ww T_f0 f0 (f.p0)/\Mh ww T_f1 f1 (f.p1)/\Mh ww T_f2 f2 (f.p2)/\Mz ww p1 29 [iv (f.W),iv (f.H),f0,f1,f2]/\Mz ww an 67 [iv X,iv Y]/\NL ww aA 69 (fun _=>0)/\NL ww av 69 (upto n (fun _=>0) (mvN f p x y X Y))) (16-0) ⟨0,by omega,rfl,ab,aB,aD,ak,aT,aa,cY,aj,cZ,(aG.tr bi),cS,cT,cU,cV,cW,cX,cL.first⟩ ?_))
       rintro d8 d9 c5 ⟨n,i287,hn286,bl,bm,bn,bo,aH,aI,aJ,bp,aK,bq,bt,bu,bv,bz,aL,bA,bB⟩
       refine KJ (KH (KI (.bool (decide (((n:Nat):Int)<16))) rfl rfl (L4 rfl aK rfl rfl rr) (KM ?_)))
       have c6:=K4 (.bool (decide (((n:Nat):Int)<16)))
       refine KG (KJ ?_)
       refine K6 c6 (fun aw=>?_) (fun aw=>?_)
       ·replace aw:=of_decide_eq_true aw
        refine Lg (KG (KJ (Lm (KJ (KH (KR rfl rfl rfl aK (KI (iv ((n:Nat):Int)) rfl rfl (KS rfl rfl rr) (KM ?_))))))))
        have aM:=K4 (iv ((n:Nat):Int))
        refine KG (KH (KR rfl rfl rfl aM (KI (.agg #[iv (f.W),iv (f.H),f0,f1,f2]) rfl rfl (KZ Lc rfl bo bz rr) (KR rfl rfl rfl bl (KR rfl rfl rfl bm (KR rfl rfl rfl aM (KI (iv (((n%4):Nat):Int)) rfl rfl (XN rfl rfl rfl (by first|decide|omega) (Xw n 4) rr) (KI (iv (x+(((n%4):Nat):Int))) rfl rfl (LP rfl rfl rfl (L2 rfl (by omega)) rr) (KI (iv (2*(x+(((n%4):Nat):Int)))) rfl rfl (Nj rfl rfl rfl (L2 rfl (by omega)) rr) (KI (pt an 0) rfl rfl (KU (n:=1) rfl aH Tryz.underlying67 rfl (by kernel_rfl) (by decide) rfl rr) (KI (iv X) rfl rfl (KY rfl rfl Tryz.underlying3 aL rfl rfl rr) ?_)))))))))))
        refine KI (iv ((2*(x+(((n%4):Nat):Int)))+X)) rfl rfl (LP rfl rfl rfl (L2 rfl (by omega)) rr) (KR rfl rfl rfl bn (KR rfl rfl rfl aM (KI (iv (((n/4):Nat):Int)) rfl rfl (Pv rfl rfl rfl (by first|decide|omega) (L6 (WT n 4) (by omega)) rr) (KI (iv (y+(((n/4):Nat):Int))) rfl rfl (LP rfl rfl rfl (L2 rfl (by omega)) rr) (KI (iv (2*(y+(((n/4):Nat):Int)))) rfl rfl (Nj rfl rfl rfl (L2 rfl (by omega)) rr) (KI (pt an 1) rfl rfl (KU (n:=1) rfl aH Tryz.underlying67 rfl (by kernel_rfl) (by decide) rfl rr) (KI (iv Y) rfl rfl (KY rfl rfl Tryz.underlying3 aL rfl rfl rr) (KI (iv ((2*(y+(((n/4):Nat):Int)))+Y)) rfl rfl (LP rfl rfl rfl (L2 rfl (by omega)) rr) (LW rfl rfl rfl rfl rfl (fun _ _=>by kernel_rfl) (Lk rfl (Lk rfl (Lk rfl (Lk rfl LR)))) (azw p ((2*(x+(((n%4):Nat):Int)))+X) ((2*(y+(((n/4):Nat):Int)))+Y) f f0 f1 f2 T_f0 T_f1 T_f2 _  bt bu bv ) fun eb bC=>?_)))))))))
        obtain⟨c7,c9,da,db,dc,dd,de⟩:=Tz bC bt bu bv bz aL bA bB
        refine KI (.pointer (some ⟨av,n,none⟩)) rfl rfl (LV n (s:=1) rfl aJ rfl (by omega) Tryz.underlying69 (by omega) (by kernel_rfl) (by omega) rr) (NM rfl rfl rfl rfl rfl de (by omega) (by kernel_rfl) fun ee df am=>?_)
        have dg:=c7.all am cM.symm
        have dh:=c9.all am cN.symm
        have di:=da.all am cO.symm
        have dj:=db.all am (cP.symm p1 rfl)
        have dk:=dc.all am (cQ.symm an rfl)
        have dl:=dd.all am (cR.symm aA rfl)
        refine KM ?_
        refine LC (KG (KH (KI (iv ((n+1:Nat):Int)) rfl rfl (LP rfl aK rfl (L6 (by omega) (by omega)) rr) (KI (iv ((n+1:Nat):Int)) rfl rfl (KQ rfl rfl rr) (KM ?_)))))
        have dm:=K4 (iv ((n+1:Nat):Int))
        exact KG ⟨(16-(n+1)),by omega,n+1,by omega,rfl,bl,bm,bn,bo,aH,aI,aJ,bp,dm,((bq.tr bC).trans am (KP.ok (S:=fun _=>False) (KP.new aG bj) K3)),dg,dh,di,dj,dk,dl,(df.next rfl)⟩
       ·replace aw:=of_decide_eq_false aw
        refine Me (Ls (Ls ?_))
        have dn:16=n:=by omega
        subst dn
        have dp:NL c5 av 69 (mvN f p x y X Y):=(bB.last)
        refine Mf (KG (KJ (KH (KI (LJ (mvN f p x y X Y)) rfl rfl (LY KW rfl aJ dp rr) (Lp KW rfl rfl rfl aI rfl bA fun eh dq dr=>?_)))))
        refine KI (iv 0) rfl rfl (KS rfl rfl rr) (KM ?_)
        have dt:=K4 (iv 0)
        refine KG (Lb ?_)
        exact L7 bp rfl (Mq KW rfl aI dq) (Ly (v:=iv 0) rfl dt) ⟨(by first|rw[(Qp hno).1,(Qp hno).2]|rw[(NW hpl hvn).1,(NW hpl hvn).2,ND hvn]|rw[(OK hpl hv).1,(OK hpl hv).2]),(bq.trans dr (KP.ok (S:=fun _=>False) ac K3))⟩
     ·skip
      refine KH (KI (.agg #[iv (f.W),iv (f.H),f0,f1,f2]) rfl rfl (KZ Lc rfl ak ai rr) (LW rfl rfl rfl rfl rfl (fun _ _=>by kernel_rfl) (Lk rfl LR) (M6 f f0 f1 f2 T_f0 T_f1 T_f2 _  ae af ah ) fun du bD=>?_))
      have dv:=ao.all bD id
      refine KI (.bool false) rfl rfl (Mb rfl rfl rfl (decide_eq_false aq) rr) (KI (.bool false) rfl rfl (KQ rfl rfl rr) (KT (iv p) 3 false 18 rfl rfl rfl rfl rfl (KQ rfl ab rr) (KT (.bool false) 3 false 18 rfl rfl rfl rfl rfl (L4 rfl rfl rfl (decide_eq_false ar) rr) (KI (.bool false) rfl rfl (Li rfl rfl rfl rr) (KI (.bool false) rfl rfl (KQ rfl rfl rr) (KT (iv p) 7 false 22 rfl rfl rfl rfl rfl (KQ rfl ab rr) (KT (.bool false) 7 false 22 rfl rfl rfl rfl rfl (Nf rfl rfl rfl (decide_eq_false aC) rr) (KI (.bool false) rfl rfl (Li rfl rfl rfl rr) (KI (.bool false) rfl rfl (KQ rfl rfl rr) (KT (iv x) 11 false 26 rfl rfl rfl rfl rfl (KQ rfl aB rr) (LN (R:=fun v_ w_=>v_ = .bool true/\KO (fun _=>False) du w_) 11 false 26 rfl rfl rfl rfl rfl (LH rfl rfl rfl (fun _ _=>by kernel_rfl) (K5 _) (Lk rfl LR) (Pz x  _   ) (fun e_ w_ h_=>⟨_,h_.1,(congrArg Value.bool (decide_eq_true aE)),h_.2⟩)) ?_)))))))))))
      rintro _ dw ⟨rfl,bE⟩
      have dy:=dv.all bE id
      refine KT (.bool false) 11 false 26 rfl rfl rfl rfl rfl (L9 rfl rfl rfl rr) (KI (.bool false) rfl rfl (Li rfl rfl rfl rr) (KI (.bool false) rfl rfl (KQ rfl rfl rr) (KT (iv y) 16 false 31 rfl rfl rfl rfl rfl (KQ rfl aD rr) (LN (R:=fun v_ w_=>v_ = .bool false/\KO (fun _=>False) dw w_) 16 false 31 rfl rfl rfl rfl rfl (LH rfl rfl rfl (fun _ _=>by kernel_rfl) (K5 _) (Lk rfl LR) (Pz y  _   ) (fun e_ w_ h_=>⟨_,h_.1,(congrArg Value.bool (decide_eq_false aX)),h_.2⟩)) ?_))))
      rintro _ ei ⟨rfl,bF⟩
      have dz:=dy.all bF id
      refine KT (.bool true) 16 false 31 rfl rfl rfl rfl rfl (L9 rfl rfl rfl rr) (KI (.bool true) rfl rfl (Li rfl rfl rfl rr) (KM ?_))
      have dA:=K4 (.bool true)
      refine KG ?_
      refine K6 (t:=true) dA (fun _=>?_) (fun e=>by cases e)
      refine KJ ?_
      have hno:¬ MU f p x y:=by rintro ⟨h1,h2,h3,h4,h5,h6,h7⟩;first|exact absurd ((Mv f).2 h1) (by assumption)|omega
      refine KH (KI (LJ (fun _=>0)) rfl rfl (Mx (cells:=(L8 16 (fun _=>0)).toArray) rfl (by kernel_rfl) rfl rr) (Lp KW rfl rfl rfl aa rfl dz fun ek dB dC=>?_))
      refine KI (iv 70) rfl rfl (KS rfl rfl rr) (KM ?_)
      have dD:=K4 (iv 70)
      refine KG (Lb (Lq ?_))
      exact L7 aj rfl (Mq KW rfl aa dB) (Ly (v:=iv 70) rfl dD) ⟨(by first|rw[(Qp hno).1,(Qp hno).2]|rw[(NW hpl hvn).1,(NW hpl hvn).2,ND hvn]|rw[(OK hpl hv).1,(OK hpl hv).2]),((((ap.tr bD).tr bE).tr bF).trans dC (KP.ok (S:=fun _=>False) ac K3))⟩
    ·skip
     refine KH (KI (.agg #[iv (f.W),iv (f.H),f0,f1,f2]) rfl rfl (KZ Lc rfl ak ai rr) (LW rfl rfl rfl rfl rfl (fun _ _=>by kernel_rfl) (Lk rfl LR) (M6 f f0 f1 f2 T_f0 T_f1 T_f2 _  ae af ah ) fun dE bG=>?_))
     have dF:=ao.all bG id
     refine KI (.bool false) rfl rfl (Mb rfl rfl rfl (decide_eq_false aq) rr) (KI (.bool false) rfl rfl (KQ rfl rfl rr) (KT (iv p) 3 false 18 rfl rfl rfl rfl rfl (KQ rfl ab rr) (KT (.bool false) 3 false 18 rfl rfl rfl rfl rfl (L4 rfl rfl rfl (decide_eq_false ar) rr) (KI (.bool false) rfl rfl (Li rfl rfl rfl rr) (KI (.bool false) rfl rfl (KQ rfl rfl rr) (KT (iv p) 7 false 22 rfl rfl rfl rfl rfl (KQ rfl ab rr) (KT (.bool false) 7 false 22 rfl rfl rfl rfl rfl (Nf rfl rfl rfl (decide_eq_false aC) rr) (KI (.bool false) rfl rfl (Li rfl rfl rfl rr) (KI (.bool false) rfl rfl (KQ rfl rfl rr) (KT (iv x) 11 false 26 rfl rfl rfl rfl rfl (KQ rfl aB rr) (LN (R:=fun v_ w_=>v_ = .bool false/\KO (fun _=>False) dE w_) 11 false 26 rfl rfl rfl rfl rfl (LH rfl rfl rfl (fun _ _=>by kernel_rfl) (K5 _) (Lk rfl LR) (Pz x  _   ) (fun e_ w_ h_=>⟨_,h_.1,(congrArg Value.bool (decide_eq_false aE)),h_.2⟩)) ?_)))))))))))
     rintro _ en ⟨rfl,bH⟩
     have dG:=dF.all bH id
     refine KT (.bool true) 11 false 26 rfl rfl rfl rfl rfl (L9 rfl rfl rfl rr) (KI (.bool true) rfl rfl (Li rfl rfl rfl rr) (KI (.bool true) rfl rfl (KQ rfl rfl rr) (KN 16 false 31 rfl rfl rfl (Or.inl rfl) rfl (KN 16 false 31 rfl rfl rfl (Or.inl rfl) rfl (KN 16 false 31 rfl rfl rfl (Or.inl rfl) rfl (KI (.bool true) rfl rfl (Lo rfl rfl rfl rr) (KM ?_)))))))
     have dH:=K4 (.bool true)
     refine KG ?_
     refine K6 (t:=true) dH (fun _=>?_) (fun e=>by cases e)
     refine KJ ?_
     have hno:¬ MU f p x y:=by rintro ⟨h1,h2,h3,h4,h5,h6,h7⟩;first|exact absurd ((Mv f).2 h1) (by assumption)|omega
     refine KH (KI (LJ (fun _=>0)) rfl rfl (Mx (cells:=(L8 16 (fun _=>0)).toArray) rfl (by kernel_rfl) rfl rr) (Lp KW rfl rfl rfl aa rfl dG fun eo dI dJ=>?_))
     refine KI (iv 70) rfl rfl (KS rfl rfl rr) (KM ?_)
     have dK:=K4 (iv 70)
     refine KG (Lb (Lq ?_))
     exact L7 aj rfl (Mq KW rfl aa dI) (Ly (v:=iv 70) rfl dK) ⟨(by first|rw[(Qp hno).1,(Qp hno).2]|rw[(NW hpl hvn).1,(NW hpl hvn).2,ND hvn]|rw[(OK hpl hv).1,(OK hpl hv).2]),(((ap.tr bG).tr bH).trans dJ (KP.ok (S:=fun _=>False) ac K3))⟩
end Go.Proofs.YtknjpdcpmpfklaaGreatDoor
set_option maxRecDepth 100000
namespace Go.Proofs.YtknjpdcpmpfklaaGreatDoor
open Go.RowKit
structure Ch where
  m:Int
  px:Int
  py:Int
  nx:Int
  ny:Int
  b:Nat->Int
def chV(c:Ch):List Value:=.int .i64 c.m :: .int .i64 c.px :: .int .i64 c.py :: .int .i64 c.nx :: .int .i64 c.ny::L8 16 c.b
abbrev Oe(m px py nx ny:Int)(b:Nat->Int):List Value:=[.int .i64 m,.int .i64 px,.int .i64 py,.int .i64 nx,.int .i64 ny,.int .i64 (b 0),.int .i64 (b 1),.int .i64 (b 2),.int .i64 (b 3),.int .i64 (b 4),.int .i64 (b 5),.int .i64 (b 6),.int .i64 (b 7),.int .i64 (b 8),.int .i64 (b 9),.int .i64 (b 10),.int .i64 (b 11),.int .i64 (b 12),.int .i64 (b 13),.int .i64 (b 14),.int .i64 (b 15)]
abbrev O1(c:Ch):List Value:=Oe c.m c.px c.py c.nx c.ny c.b
theorem RW(n:Nat)(b:Nat->Int):Rz (L8 n b):=fun v h=>by
 obtain⟨i,_,rfl⟩:=List.mem_map.1 h;rfl
theorem aDn(c:Ch):Rz (chV c):=KX rfl (KX rfl (KX rfl (KX rfl (KX rfl (RW 16 c.b)))))
theorem LE:QC Tryz.prog 71 21:=⟨_,Tryz.underlying71,rfl,by kernel_rfl⟩
theorem Qd:QC Tryz.prog 69 16:=⟨_,Tryz.underlying69,rfl,by kernel_rfl⟩
section
variable {P:Program} {ρ:Operand->Value} {o:Oper} {w:World} {R:Value->World->Prop}
theorem O4{ty t:TypeId}{x:Operand}{p k n:Nat}{vs us:List Value}(hT:QC P ty n)(ho:o.op = .load ty x)(hx:ρ x = .pointer (some ⟨p,k,none⟩))(hB:Mz w p t vs)(hkn:k+n<=vs.length)(hu:(vs.drop k).take n=us)(h:R (.agg us.toArray) w):Le P ρ o w R:=by
 subst hu
 obtain⟨d,hu,hd,hs⟩:=hT
 have hlen:((vs.drop k).take n).length=n:=by rw[List.length_take,List.length_drop];omega
 have e:=run_loadVar_mid (P:=P) w p k ty ((vs.drop k).take n) d (fun q u hq=>by
  have hqn:q<n:=by have:=(List.getElem?_eq_some_iff.1 hq).1;omega
  exact hB.cell (by rwa [List.getElem?_take,if_pos hqn,List.getElem?_drop] at hq)) hu hd (by rw[hlen];exact hs)
 exact MI (v:=.agg ((vs.drop k).take n).toArray) (w':=w) (by simp only[execOp,ho,hx,Instr.loadAt,Instr.sureAddr,Sem.run_bind,Sem.run_pure,Result.andThen_ok,e]) h
theorem azh{ty t:TypeId}{x y:Operand}{p k:Nat}{vs us ns:List Value}(hT:QC P ty us.length)(ho:o.op = .store ty x y)(hx:ρ x = .pointer (some ⟨p,k,none⟩))(hy:ρ y = .agg us.toArray)(hB:Mz w p t vs)(hk:k+us.length<=vs.length)(h1:Rz us)(hn:vs.take k++us++vs.drop (k+us.length)=ns)
  (h:∀ w',Mz w' p t ns->KO (fun k=>k=p) w w'->R undef w'):Le P ρ o w R:=by
 subst hn
 obtain⟨d,_,_,hs⟩:=hT
 have hst:=run_storeCells_at P p k t us 0 vs.toArray w hB (by simpa using hk) h1
 simp only[Nat.add_zero] at hst
 cases hq:P.info? ty with
 | none=>rw[hq] at hs;cases hs
 | some i =>
  have hs':i.size=us.length:=by simpa [hq] using hs
  have hsv:(storeVar ty ⟨p,k,none⟩ (.agg us.toArray)).run P w = .ok () (w.setRow p (vs.take k++us++vs.drop (k+us.length)).toArray):=by
   simp[storeVar,sizeOf,typeInfo,hq,hs',Value.cells,hst]
  have e:(execOp ρ o).run P w = .ok .skip (w.setRow p (vs.take k++us++vs.drop (k+us.length)).toArray):=by
   simp only[execOp,ho,hx,hy,Instr.storeAt,Instr.sureAddr,Sem.run_bind,Sem.run_pure,Result.andThen_ok,hsv]
  unfold Le
  rw[e]
  exact h _ (setRow_heap _ _ _ _ _ _ hB) ((KO.refl (fun k=>k=p) w).setRow p (fun _=>rfl) _)
end
section
variable {ro:Option Nat} {P:Program} {N:Nat} {Q:(Exit->(Nat->Value)->World->Prop)} {F:Nat->Value} {w:World} {o:Oper}
theorem OH{ops:Array Oper}{rest:List Oper}{ty t:TypeId}{x y:Operand}{p k:Nat}{vs us ns:List Value}(hT:QC P ty us.length)(hg:o.guard=none)(hdn:o.dst=none)(ho:o.op = .store ty x y)(hx:ev (MN N F) x = .pointer (some ⟨p,k,none⟩))(hy:ev (MN N F) y = .agg us.toArray)(hB:Mz w p t vs)(hk:k+us.length<=vs.length)(h1:Rz us)(hn:vs.take k++us++vs.drop (k+us.length)=ns)
  (h:∀ w',Mz w' p t ns->KO (fun k=>k=p) w w'->wl ro P N ops Q rest F w'):wl ro P N ops Q (o::rest) F w:=by
 refine Nm hg (by rw[hdn];rfl) (azh hT ho hx hy hB hk h1 hn fun w' hw hk=>?_)
 rw[hdn]
 exact h w' hw hk
end
end Go.Proofs.YtknjpdcpmpfklaaGreatDoor
set_option maxRecDepth 100000
namespace Go.Proofs.YtknjpdcpmpfklaaGreatDoor
def Nl(m:Int):Bool:=decide (m=4) || decide (m=6)
def M7(m:Int):Bool:=decide (m=5) || decide (m=6)
def NJ(k:Int):Int:=if k=0 then 3 else if k=1 then 4 else if k=2 then 6 else -1
def aEj(k:Int)(c:Ch):Prop:=c.m<0\/NJ k<c.m\/(Nl c.m=false/\NP c.px c.py 0 0=false)\/(M7 c.m=false/\NP c.nx c.ny 0 0=false)
instance (k:Int) (c:Ch):Decidable (aEj k c):=by unfold aEj;infer_instance
def ch0:Ch:=⟨0,0,0,0,0,fun _=>0⟩
def ZK(has:Bool)(l:List Nat)(gx gy:Int)(s:Option Nat):Int×Int×Int×Option Nat:=if has=true then (Rh l gx gy s,Ri l gx gy s,PN l gx gy s,vrS l s) else (0,0,0,s)
def Yi(l:List Nat)(m:Int)(p n:Int×Int×Int×Option Nat):Ch×Int×Option Nat :=
 if (LI l n.2.2.2).2.1=0 then (⟨m,p.1,p.2.1,n.1,n.2.1,(LI l n.2.2.2).1⟩,0,(LI l n.2.2.2).2.2) else (ch0,(LI l n.2.2.2).2.1,(LI l n.2.2.2).2.2)
def UO(l:List Nat)(m:Int)(p n:Int×Int×Int×Option Nat):Ch×Int×Option Nat:=if n.2.2.1=0 then Yi l m p n else (ch0,n.2.2.1,n.2.2.2)
def XE(l:List Nat)(m:Int)(bx yy:Int)(p:Int×Int×Int×Option Nat):Ch×Int×Option Nat:=if p.2.2.1=0 then UO l m p (ZK (M7 m) l bx yy p.2.2.2) else (ch0,p.2.2.1,p.2.2.2)
def rd1(l:List Nat)(ax ay bx yy:Int)(m:Int×Option Nat):Ch×Int×Option Nat:=if m.2.isNone=true then (ch0,120,m.2) else XE l m.1 bx yy (ZK (Nl m.1) l ax ay m.2)
def Re(l:List Nat)(k ax ay bx yy:Int)(st:Option Nat):Ch×Int×Option Nat:=rd1 l ax ay bx yy (Ll (Lw l (NJ k)) st)
theorem RC{has:Bool}{l:List Nat}{gx gy:Int}{s:Option Nat}(h:has=true):ZK has l gx gy s=(Rh l gx gy s,Ri l gx gy s,PN l gx gy s,vrS l s):=if_pos h
theorem SN{has:Bool}{l:List Nat}{gx gy:Int}{s:Option Nat}(h:has=false):ZK has l gx gy s=(0,0,0,s):=if_neg (by rw[h];exact Bool.false_ne_true)
end Go.Proofs.YtknjpdcpmpfklaaGreatDoor
set_option maxRecDepth 100000
namespace Go.Proofs.YtknjpdcpmpfklaaGreatDoor
def Xd(f p n:FD)(k x y:Int)(c:Ch):Nat->Int :=
 if c.m<0\/6<c.m then fun _=>0 else if c.m<4 then Vj f k x y c.m else if c.m=5 then UH n k x y c.nx c.ny
 else if OW p k x y c.px c.py≠0\/c.m=4 then UH p k x y c.px c.py else if OW n k x y c.nx c.ny≠0 then fun _=>0 else UE (UH p k x y c.px c.py) (UH n k x y c.nx c.ny)
def TJ(f p n:FD)(k x y:Int)(c:Ch):Int :=
 if c.m<0\/6<c.m then 120 else if c.m<4 then RK f k x y c.m else if c.m=5 then OW n k x y c.nx c.ny
 else if OW p k x y c.px c.py≠0\/c.m=4 then OW p k x y c.px c.py else if OW n k x y c.nx c.ny≠0 then OW n k x y c.nx c.ny else 0
section
variable {f p n:FD} {k x y:Int} {c:Ch}
theorem Y4{f:FD}{p x y X Y:Int}(h:OW f p x y X Y≠0):UH f p x y X Y=fun _=>0:=by
 by_cases hp:MU f p x y
 ·by_cases hv:M9 X Y
  ·exact absurd (OK hp hv).1 h
  ·exact(NW hp hv).2
 ·exact(Qp hp).2
theorem XC(h:c.m<0\/6<c.m):Xd f p n k x y c=(fun _=>0)/\TJ f p n k x y c=120:=⟨if_pos h,if_pos h⟩
theorem aAE(h:0<=c.m/\c.m<4):Xd f p n k x y c=Vj f k x y c.m/\TJ f p n k x y c=RK f k x y c.m:=by
 have n1:¬ (c.m<0\/6<c.m):=by omega
 exact⟨(if_neg n1).trans (if_pos h.2),(if_neg n1).trans (if_pos h.2)⟩
theorem U6(h:c.m=5):Xd f p n k x y c=UH n k x y c.nx c.ny/\TJ f p n k x y c=OW n k x y c.nx c.ny:=by
 have n1:¬ (c.m<0\/6<c.m):=by omega
 have n2:¬ c.m<4:=by omega
 exact⟨(if_neg n1).trans ((if_neg n2).trans (if_pos h)),(if_neg n1).trans ((if_neg n2).trans (if_pos h))⟩
theorem UX(h:c.m=4):Xd f p n k x y c=UH p k x y c.px c.py/\TJ f p n k x y c=OW p k x y c.px c.py:=by
 have n1:¬ (c.m<0\/6<c.m):=by omega
 have n2:¬ c.m<4:=by omega
 have n3:¬ c.m=5:=by omega
 exact⟨(if_neg n1).trans ((if_neg n2).trans ((if_neg n3).trans (if_pos (Or.inr h)))),(if_neg n1).trans ((if_neg n2).trans ((if_neg n3).trans (if_pos (Or.inr h))))⟩
theorem YK(h:c.m=6)(e:OW p k x y c.px c.py≠0):Xd f p n k x y c=UH p k x y c.px c.py/\TJ f p n k x y c=OW p k x y c.px c.py:=by
 have n1:¬ (c.m<0\/6<c.m):=by omega
 have n2:¬ c.m<4:=by omega
 have n3:¬ c.m=5:=by omega
 exact⟨(if_neg n1).trans ((if_neg n2).trans ((if_neg n3).trans (if_pos (Or.inl e)))),(if_neg n1).trans ((if_neg n2).trans ((if_neg n3).trans (if_pos (Or.inl e))))⟩
theorem TB(h:c.m=6)(e:OW p k x y c.px c.py=0)(e2:OW n k x y c.nx c.ny≠0):Xd f p n k x y c=(fun _=>0)/\TJ f p n k x y c=OW n k x y c.nx c.ny:=by
 have n1:¬ (c.m<0\/6<c.m):=by omega
 have n2:¬ c.m<4:=by omega
 have n3:¬ c.m=5:=by omega
 have n4:¬ (OW p k x y c.px c.py≠0\/c.m=4):=fun z=>z.elim (fun z=>z e) (fun z=>by omega)
 exact⟨(if_neg n1).trans ((if_neg n2).trans ((if_neg n3).trans ((if_neg n4).trans (if_pos e2)))),(if_neg n1).trans ((if_neg n2).trans ((if_neg n3).trans ((if_neg n4).trans (if_pos e2))))⟩
theorem Z1(h:c.m=6)(e:OW p k x y c.px c.py=0)(e2:OW n k x y c.nx c.ny=0):Xd f p n k x y c=UE (UH p k x y c.px c.py) (UH n k x y c.nx c.ny)/\TJ f p n k x y c=0:=by
 have n1:¬ (c.m<0\/6<c.m):=by omega
 have n2:¬ c.m<4:=by omega
 have n3:¬ c.m=5:=by omega
 have n4:¬ (OW p k x y c.px c.py≠0\/c.m=4):=fun z=>z.elim (fun z=>z e) (fun z=>by omega)
 exact⟨(if_neg n1).trans ((if_neg n2).trans ((if_neg n3).trans ((if_neg n4).trans (if_neg (fun z=>z e2))))),(if_neg n1).trans ((if_neg n2).trans ((if_neg n3).trans ((if_neg n4).trans (if_neg (fun z=>z e2)))))⟩
theorem TC(h:c.m=4\/c.m=6)(e:OW p k x y c.px c.py≠0):Xd f p n k x y c=(fun _=>0)/\TJ f p n k x y c=OW p k x y c.px c.py:=by
 rcases h with h|h
 ·exact⟨(UX h).1.trans (Y4 e),(UX h).2⟩
 ·exact⟨(YK h e).1.trans (Y4 e),(YK h e).2⟩
theorem Tc(h:c.m=5)(e:OW n k x y c.nx c.ny≠0):Xd f p n k x y c=(fun _=>0)/\TJ f p n k x y c=OW n k x y c.nx c.ny :=
 ⟨(U6 h).1.trans (Y4 e),(U6 h).2⟩
end
theorem QM{m:Int}(h:Nl m=true):m=4\/m=6:=by unfold Nl at h;simpa using h
theorem TY{m:Int}(h:Nl m=false):m≠4/\m≠6:=by unfold Nl at h;simpa using h
theorem QV{m:Int}(h:M7 m=true):m=5\/m=6:=by unfold M7 at h;simpa using h
theorem aAO{m:Int}(h:M7 m=false):m≠5/\m≠6:=by unfold M7 at h;simpa using h
def c8M(a:Nat->Int):Nat->Int:=fun i=>min (max (a i) 0) 255
def buB(b:Nat->Int)(l:Nat->Int)(q:Int):Nat->Int:=if QA q=0 then c8M (ON b (Oq (Ux l q))) else fun _=>0
theorem aC5{b l:Nat->Int}{q:Int}(h:QA q=0):buB b l q=c8M (ON b (Oq (Ux l q))):=if_pos h
theorem aEc{b l:Nat->Int}{q:Int}(h:QA q≠0):buB b l q=fun _=>0:=if_neg h
theorem U8(k:Int):NJ k<=6:=by unfold NJ;split;omega;split;omega;split <;> omega
def MT(l:List Nat)(k ax ay bx yy:Int)(st:Option Nat):Option Nat:=if (Re l k ax ay bx yy st).2.1=0 then (Re l k ax ay bx yy st).2.2 else st
theorem Sv(l:List Nat)(n:Int)(a:Nat):Ll (Lw l n) (some a)=match Mn l a with
  | some (v,a')=>if n<v then (0,none) else (v,some a')
  | none=>(0,none):=by
 cases hq:Mn l a with
 | none=>simp[Ll,Lw,hq]
 | some x =>
  obtain⟨v,a'⟩:=x
  by_cases h:n<v
  ·simp[Ll,Lw,hq,h]
  ·simp[Ll,Lw,hq,h]
theorem Uy{l:List Nat}{m n:Int}(h:m<=n)(st:Option Nat) :
  Ll (Lw l m) st=if (Ll (Lw l n) st).2.isNone=true\/m<(Ll (Lw l n) st).1 then (0,none) else Ll (Lw l n) st:=by
 cases st with
 | none=>rfl
 | some a =>
  rw[Sv l m a,Sv l n a]
  cases Mn l a with
  | none=>rfl
  | some x =>
   obtain⟨v,a'⟩:=x
   simp only
   by_cases h1:n<v
   ·rw[if_pos h1,if_pos (show m<v by omega)];exact(if_pos (Or.inl rfl)).symm
   ·rw[if_neg h1]
    by_cases h2:m<v
    ·rw[if_pos h2,if_pos (Or.inr h2)]
    ·rw[if_neg h2,if_neg (by rintro (z|z);cases z;exact h2 z)]
end Go.Proofs.YtknjpdcpmpfklaaGreatDoor
set_option maxRecDepth 100000
namespace Go.Proofs.YtknjpdcpmpfklaaGreatDoor
open Go.RowKit
def Pr.ty(e:TypeId):Prop:=e=106\/e=5
def Rfi.ty(e:TypeId):Prop:=e=80
instance (e:TypeId):Decidable (Pr.ty e):=by unfold Pr.ty;infer_instance
instance (e:TypeId):Decidable (Rfi.ty e):=by unfold Rfi.ty;infer_instance
theorem Pr.at{w:World}{T:Nat->Prop}{p:Nat}{l:List Nat}{st:Option Nat}(h:Pr w T p l st)(x:Nat)(hx:T x):∃ c e f,w.heap[x]? = some (.cells c e f)/\Pr.ty e:=by
 obtain⟨_,g,rfl,h⟩:=h
 have hr:∃ a b,Nv w p g l a b:=by
  cases st with
  | none=>obtain⟨a,h⟩:=h;exact⟨a,_,h⟩
  | some a=>exact⟨a,_,h.2⟩
 obtain⟨a,b,h1,h2,_⟩:=hr
 rcases hx with rfl|rfl
 ·exact⟨_,_,_,h1,.inl rfl⟩
 ·exact⟨_,_,_,h2,.inr rfl⟩
theorem Mz.types{w:World}{p:Nat}{t:TypeId}{vs:List Value}(h:Mz w p t vs):∀ x,x=p->∀ c e f,w.heap[x]? = some (.cells c e f)->e=t:=by
 intro x hx c e f hc
 subst hx
 unfold Mz at h
 rw[h] at hc;cases hc;rfl
end Go.Proofs.YtknjpdcpmpfklaaGreatDoor
set_option maxRecDepth 100000
namespace Go.Proofs.YtknjpdcpmpfklaaGreatDoor
open Go.RowKit
structure Te (α:Type) where
  t:TypeId
  e:TypeId
  k:Nat
  by_:Nat
  enc:α->List Value
  d:α
  z:Value
class Te.Ok {α:Type} (r:Te α):Prop where
  slice:Tryz.prog.underlying r.t=some (.slice r.e)
  info:(Tryz.prog.info? r.e).map (fun i=>(i.zero,i.size,i.bytes))=some (some r.z,r.k,r.by_)
  cells:r.z.cells.toList=r.enc r.d
  pos:0<r.k
  len:∀ x,(r.enc x).length=r.k
  one:∀ x,∀ u∈r.enc x,u.oneCell'=true
  small:r.by_<=192
section
variable {α:Type} {r:Te α}
theorem Tm[h:r.Ok](l:List α):(l.flatMap r.enc).length=l.length*r.k:=by
 induction l with
 | nil=>simp
 | cons x l ih=>rw[List.flatMap_cons,List.length_append,ih,h.len,List.length_cons,Nat.add_mul];omega
theorem aB9[h:r.Ok](l:List α)(i j:Nat)(hi:i<l.length)(hj:j<r.k):(l.flatMap r.enc)[i*r.k+j]? = (r.enc (l.getD i r.d))[j]? := by
 induction l generalizing i with
 | nil=>simp at hi
 | cons x l ih =>
  rw[List.flatMap_cons]
  cases i with
  | zero=>rw[Nat.zero_mul,Nat.zero_add,List.getElem?_append_left (by rw[h.len];exact hj)];rfl
  | succ i =>
   have hi':i<l.length:=by simpa using hi
   rw[List.getElem?_append_right (by rw[h.len,Nat.add_mul];omega),h.len,show (i+1)*r.k+j-r.k=i*r.k+j by rw[Nat.add_mul];omega,ih i hi']
   rfl
theorem aBo[h:r.Ok](l:List α):∀ u∈l.flatMap r.enc,u.oneCell'=true:=fun u hu=>by
 obtain⟨x,_,hx⟩:=List.mem_flatMap.1 hu
 exact h.one x u hx
def RoA(r:Te α)(w:World)(T:Nat->Prop)(v:Value)(l:List α):Prop :=
 ∃ a cap,v = .slice a l.length cap/\l.length<=cap/\cap<=maxLen/\(a=none->cap=0)/\Pe w T ∧
  (0<l.length->∃ b off,a=some ⟨b,off,none⟩/\T b/\∀ j u,(l.flatMap r.enc)[j]? = some u->w.cell? ⟨b,off+j,none⟩=some u)
theorem RoA.oneC{w:World}{T:Nat->Prop}{v:Value}{l:List α}(h:RoA r w T v l):oneC v=true:=by obtain⟨a,cap,rfl,_⟩:=h;rfl
def QX(r:Te α)(w:World)(T:Nat->Prop)(v:Value)(l:List α):Prop:=w.ownsRow 0 r.e r.k v l.length (l.flatMap r.enc)/\∀ i,T i↔v.ownBlock=some i
theorem QX.nil(r:Te α)(w:World):QX r w LX (.slice none 0 0) []:=⟨World.ownsRow_nil w 0 r.e r.k,fun i=>⟨fun h=>h.elim,fun h=>by cases h⟩⟩
theorem QX.live{w:World}{T:Nat->Prop}{v:Value}{l:List α}(h:QX r w T v l):Pe w T:=fun i hi=>(h.1.lt i ((h.2 i).1 hi)).2
theorem QX.all{S:Nat->Prop}{w w':World}{T:Nat->Prop}{v:Value}{l:List α}(h:QX r w T v l)(k:KO S w w')(ha:KK T S):QX r w' T v l:=by
 refine⟨⟨h.1.1,?_⟩,h.2⟩
 rcases h.1.2 with hn | ⟨g,cap,cur,rfl,hb,hg,rest⟩
 ·exact .inl hn
 ·exact .inr ⟨g,cap,cur,rfl,hb,k.at hg (ha g ((h.2 g).2 rfl)),rest⟩
instance {w w':World} {α:Type} {r:Te α} {T:Nat->Prop} {v:Value} {l:List α}:Cr w w' (QX r w T v l) (QX r w' T v l):=⟨fun h k=>h.all k KK.none⟩
instance {w:World} {α:Type} {r:Te α} {T:Nat->Prop} {v:Value} {l:List α}:Lv w (QX r w T v l) (T):=⟨fun h=>h.live⟩
theorem QX.roa{w:World}{T:Nat->Prop}{v:Value}{l:List α}(h:QX r w T v l):RoA r w T v l:=by
 have hL:=h.live
 rcases h.1.2 with ⟨rfl,h0⟩ | ⟨g,cap,cur,rfl,hb,hg,h1,h2,h3,h4⟩
 ·have:l=[]:=List.eq_nil_of_length_eq_zero h0
  subst this
  exact⟨none,0,rfl,Nat.le_refl _,by unfold maxLen;omega,fun _=>rfl,hL,fun h=>absurd h (by simp)⟩
 ·refine⟨some ⟨g,0,none⟩,cap,rfl,h1,h2,by simp,hL,fun _=>⟨g,0,rfl,(h.2 g).2 rfl,fun j u hj=>?_⟩⟩
  have:=h.1.cells (g:=g) rfl j u hj
  rwa [Addr.add_lit] at this
theorem QX.cells{w:World}{T:Nat->Prop}{v:Value}{l:List α}(h:QX r w T v l):OP w T:=fun i hi=>by
 have hv:=(h.2 i).1 hi
 rcases h.1.2 with ⟨rfl,_⟩ | ⟨g,cap,cur,rfl,_,hg,_⟩
 ·cases hv
 ·cases hv;exact⟨_,hg,rfl⟩
theorem QX.row{A B:World}{row:Option Nat}{n:Nat}{T:Nat->Prop}{v:Value}{l:List α}(h:QX r A T v l)(hg:A.grownBy B row)(hr:QT n A row):QX r B T v l:=h.all (Pw hg) (h.cells.apart hr)
theorem QX.of{w:World}{v:Value}{l:List α}(h:w.ownsRow 0 r.e r.k v l.length (l.flatMap r.enc)):QX r w (fun i=>v.ownBlock=some i) v l:=⟨h,fun _=>Iff.rfl⟩
theorem QX.oneC{w:World}{T:Nat->Prop}{v:Value}{l:List α}(h:QX r w T v l):oneC v=true:=h.roa.oneC
end
section
variable {α:Type} {r:Te α} {ρ:Operand->Value} {o:Oper} {w:World} {R:Value->World->Prop}
theorem aC2{x ix:Operand}{T:Nat->Prop}{v:Value}{l:List α}{k:IntKind}[hk:r.Ok](j:Nat){i:Int}(ho:o.op = .indexAddr r.t x ix)(hx:ρ x=v)(hi:ρ ix = .int k i)(hij:i=(j:Int))(hb:RoA r w T v l)(hj:j<l.length)(h:R (Nt v (j*r.k)) w):Le Tryz.prog ρ o w R:=by
 subst hij
 obtain⟨a,cap,rfl,_,_,_,_,hc⟩:=hb
 obtain⟨b,off,rfl,_,_⟩:=hc (by omega)
 obtain⟨i0,hi0,hz0,hz1,hz2⟩:=info_parts hk.info
 exact MI (v:=Nt (.slice (some ⟨b,off,none⟩) l.length cap) (j*r.k)) (w':=w) (by simp[execOp,ho,hx,hi,Instr.indexAt,run_underlying hk.slice,asIntOf,sizeOf,typeInfo,hi0,hz1,hj,Nt]) h
theorem aCy{x:Operand}{T:Nat->Prop}{v:Value}{l:List α}{ty:TypeId}{n:Nat}{us:List Value}[hk:r.Ok](j m:Nat)(hT:QC Tryz.prog ty n)(ho:o.op = .load ty x)(hx:ρ x=Nt v (j*r.k+m))(hb:RoA r w T v l)(hj:j<l.length)(hm:m+n<=r.k)(hu:((r.enc (l.getD j r.d)).drop m).take n=us)(h:R (.agg us.toArray) w):Le Tryz.prog ρ o w R:=by
 subst hu
 obtain⟨a,cap,rfl,_,_,_,_,hc⟩:=hb
 obtain⟨b,off,rfl,_,hcell⟩:=hc (by omega)
 obtain⟨d,hu,hd,hs⟩:=hT
 have hlen:(((r.enc (l.getD j r.d)).drop m).take n).length=n:=by rw[List.length_take,List.length_drop,hk.len];omega
 have e:=run_loadVar_mid (P:=Tryz.prog) w b (off+(j*r.k+m)) ty (((r.enc (l.getD j r.d)).drop m).take n) d (fun q u hq=>by
  have hqn:q<n:=by have:=(List.getElem?_eq_some_iff.1 hq).1;omega
  rw[show off+(j*r.k+m)+q=off+(j*r.k+(m+q)) by omega]
  refine hcell (j*r.k+(m+q)) u ?_
  rw[aB9 (r:=r) l j (m+q) hj (by omega)]
  rwa [List.getElem?_take,if_pos hqn,List.getElem?_drop] at hq) hu hd (by rw[hlen];exact hs)
 have hx':ρ x = .pointer (some ⟨b,off+(j*r.k+m),none⟩):=by rw[hx,Nt,Addr.add_lit]
 exact MI (v:=.agg (((r.enc (l.getD j r.d)).drop m).take n).toArray) (w':=w) (by simp only[execOp,ho,hx',Instr.loadAt,Instr.sureAddr,Sem.run_bind,Sem.run_pure,Result.andThen_ok,e]) h
theorem WS{c:Call}{x:Operand}{T:Nat->Prop}{v:Value}{l:List α}[hk:r.Ok](ho:o.op = .call c)(hc:c={ callee:=.builtin .len,args:=#[x],argTypes:=#[r.t] })(hx:ρ x=v)(hb:RoA r w T v l)(h:R (.int .i64 ((l.length:Nat):Int)) w):Le Tryz.prog ρ o w R:=by
 subst hc
 obtain⟨a,cap,rfl,_⟩:=hb
 exact aBz ho rfl rfl rfl hk.slice hx h
end
section
variable {α:Type} {r:Te α} {ro:Option Nat} {N:Nat} {Q:(Exit->(Nat->Value)->World->Prop)} {F:Nat->Value} {w:World} {o:Oper}
theorem Sl{ops:Array Oper}{rest:List Oper}{c:Call}{x y:Operand}{T U:Nat->Prop}{v u:Value}{l m:List α}[hk:r.Ok](hg:o.guard=none)(hd:Ot N o.dst=true)(ho:o.op = .call c)(hc:c={ callee:=.builtin .append,args:=#[x,y],argTypes:=#[r.t,r.t] })(hx:ev (MN N F) x=v)(hy:ev (MN N F) y=u)(hv:QX r w T v l)(hu:RoA r w U u m)(hl:l.length+m.length<549755813888)
  (h:∀ v' w' T',QX r w' T' v' (l++m)->KP w T T'->KO T w w'->wl ro Tryz.prog N ops Q rest (OI F o.dst v') w'):wl ro Tryz.prog N ops Q (o::rest) F w:=by
 subst hc
 obtain⟨i0,hi0,hz0,hz1,hz2⟩:=info_parts hk.info
 obtain⟨a,cap,rfl,h1,h2,h3,_,hcu⟩:=hu
 cases a with
 | none =>
  have hc0:=h3 rfl
  subst hc0
  have hm:m=[]:=List.eq_nil_of_length_eq_zero (by omega)
  subst hm
  have hr:=run_append_owned_none (P:=Tryz.prog) w 0 r.t o.type r.e i0 r.k hk.slice hi0 v _ _ hv.1
  refine Nm hg hd (MI (v:=v) (w':=w) (by simp[execOp,ho,resolve,invoke,builtin,hx,hy,hr]) (h v w T (by rw[List.append_nil];exact hv) (KP.refl w T) (KO.refl _ _)))
 | some ad =>
  have hzs:r.z.cells.size=r.k:=by rw[← Array.length_toList,hk.cells,hk.len]
  obtain⟨v',w',hr,hown,hgr,hw⟩:=Rg (P:=Tryz.prog) w r.t o.type r.e i0 r.z r.k r.by_ hk.slice hi0 hz0 hz1 hz2 hzs hk.pos v l.length (l.flatMap r.enc) hv.1 ad m.length cap (m.flatMap r.enc) (Tm (r:=r) m) (fun j x hj=>by
   have hp:0<m.length:=by
    rcases Nat.eq_zero_or_pos m.length with e|e
    ·have:m=[]:=List.eq_nil_of_length_eq_zero e
     subst this;simp at hj
    ·exact e
   obtain⟨b,off,e,_,hcell⟩:=hcu hp
   cases e
   rw[Addr.add_lit];exact hcell j x hj) (aBo (r:=r) m) (by unfold maxLen;omega) (by
    have hsm:=hk.small
    have:(l.length+m.length)*r.by_<=549755813888*192:=Nat.mul_le_mul (by omega) hsm
    omega)
  refine Nm hg hd (MI (v:=v') (w':=w') (by simp[execOp,ho,resolve,invoke,builtin,hx,hy,hr]) (h v' w' _ (QX.of (by rw[List.length_append,List.flatMap_append];exact hown)) (fun i hi=>?_) ((KO.refl T w).grown hgr (fun k e _=>(hv.2 k).2 e))))
  rcases hw with hw | ⟨g,hw,hge⟩
  ·exact .inl ((hv.2 i).2 (hw ▸ hi))
  ·rw[hw] at hi;cases hi;exact .inr hge
theorem SZ{ops:Array Oper}{rest:List Oper}{parts:Array (Nat×Operand)}{n:Nat}{xs:List Operand}{vs:List Value}{l:List α}[hk:r.Ok](hg:o.guard=none)(hd:Ot N o.dst=true)(ho:o.op = .buildSlice r.t n parts)(hn:n=l.length)(hp:parts.toList=(xs.zipIdx 0).map fun x=>(x.2,x.1))(hx:xs.map (ev (MN N F))=vs)(hv:(vs.map fun v=>v.cells.toList)=l.map r.enc)(h0:0<l.length)(hsz:l.length*r.k<=65536)
  (h:∀ v w' T,QX r w' T v l->KP w LX T->KO (fun _=>False) w w'->wl ro Tryz.prog N ops Q rest (OI F o.dst v) w'):wl ro Tryz.prog N ops Q (o::rest) F w:=by
 subst hn;subst hx
 obtain⟨i0,hi0,hz0,hz1,hz2⟩:=info_parts hk.info
 have hpos:=hk.pos
 have hlp:0<l.length*r.k:=Nat.mul_pos h0 hpos
 have hlen:xs.length=l.length:=by have:=congrArg List.length hv;simpa using this
 have hflat:(xs.map (ev (MN N F))).flatMap (fun v=>v.cells.toList)=l.flatMap r.enc:=by
  rw[List.flatMap_def,List.flatMap_def,hv]
 have hsize:∀ v∈xs.map (ev (MN N F)),v.cells.size=r.k:=by
  intro v hv'
  have:v.cells.toList∈l.map r.enc:=by rw[← hv];exact List.mem_map.2 ⟨v,hv',rfl⟩
  obtain⟨x,_,e⟩:=List.mem_map.1 this
  rw[← Array.length_toList,← e,hk.len]
 have hrun:=run_buildSlice (P:=Tryz.prog) w r.t r.e l.length (parts.map fun (i,x)=>(i,ev (MN N F) x)) (l.flatMap r.enc).toArray i0 r.z hk.slice hi0 hz0 (by rw[hz1];omega) (by rw[hz1];omega) (by
  rw[hz1]
  have e:(parts.map fun (i,x)=>(i,ev (MN N F) x)).toList=((xs.map (ev (MN N F))).zipIdx 0).map fun x=>(x.2,x.1):=by
   rw[Array.toList_map,hp,List.zipIdx_map,List.map_map,List.map_map];rfl
  rw[e,Great.fill_whole hpos _ _ hsize (by rw[List.length_map,hlen];simp),hflat])
 refine Nm hg hd (MI (v:=.slice (some ⟨w.heap.size,0,none⟩) l.length l.length) (w':=w.alloc (.cells (l.flatMap r.enc).toArray r.e)) (by simp[execOp,ho,hrun]) (h _ _ _ (QX.of ⟨Tm (r:=r) l,.inr ⟨w.heap.size,l.length,_,rfl,Nat.zero_le _,heap_alloc_new _ _,Nat.le_refl _,by unfold maxLen;have:=Nat.le_mul_of_pos_right l.length hpos;omega,by rw[List.size_toArray,Tm (r:=r)],?_⟩⟩) (fun i hi=>.inr ?_) ((KO.refl _ _).alloc _)))
 ·rw[List.toList_toArray];exact List.take_of_length_le (by rw[Tm (r:=r)];exact Nat.le_refl _)
 ·cases hi;exact Nat.le_refl _
end
end Go.Proofs.YtknjpdcpmpfklaaGreatDoor
set_option maxRecDepth 100000
namespace Go.Proofs.YtknjpdcpmpfklaaGreatDoor
open Go.RowKit
structure Vc where
  X:Int
  Y:Int
def aEF:Te Vc:={ t:=111,e:=67,k:=2,by_:=16,enc:=fun x=>[.int .i64 x.X,.int .i64 x.Y],d:=⟨0,0⟩,z:=.agg #[.int .i64 0,.int .i64 0] }
theorem aCz{a b:Int}:∀ u ∈ [Value.int .i64 a,Value.int .i64 b],u.oneCell'=true:=fun u hu=>by
 rcases List.mem_cons.1 hu with rfl|hu
 ·rfl
 ·rcases List.mem_cons.1 hu with rfl|hu
  ·rfl
  ·cases hu
instance rVec_ok:Te.Ok aEF:=⟨Tryz.underlying111,by kernel_rfl,rfl,by decide,fun _=>rfl,fun _=>aCz,by decide⟩
def SB(m n:Int):Option VF:=if NG m n then some (Qz m n) else none
def MW(m n:Int):Int:=if NG m n then 0 else 1
theorem Tk{m n:Int}(h:NG m n):SB m n=some (Qz m n):=if_pos h
theorem W2{m n:Int}(h:¬ NG m n):SB m n=none:=if_neg h
theorem TR{m n:Int}(h:NG m n):MW m n=0:=if_pos h
theorem VZ{m n:Int}(h:¬ NG m n):MW m n=1:=if_neg h
end Go.Proofs.YtknjpdcpmpfklaaGreatDoor
set_option maxRecDepth 100000
namespace Go.Proofs.YtknjpdcpmpfklaaGreatDoor
open Go.RowKit
def M4(a b:Int):Value:=.agg #[.int .i64 a,.int .i64 b]
structure Pu (K:TypeId):Prop where
  und:Tryz.prog.underlying K=some (.struct (Tryz.prog.fieldsOf K))
  hel:Tryz.prog.stoodInHeld K=false
  flds : ∃ n0 n1 : String, n0 ≠ "_" ∧ n1 ≠ "_" ∧ (Tryz.prog.fieldsOf K).toList.map (fun f => (f.name, f.type, f.offset)) = [(n0, 3, 0), (n1, 3, 1)]
theorem Pu.split{K : TypeId}(h : Pu K) : ∃ f0 f1 : Field, Tryz.prog.fieldsOf K = #[f0, f1] ∧ f0.name ≠ "_" ∧ f1.name ≠ "_" ∧ f0.type = 3 ∧ f1.type = 3 ∧ f0.offset = 0 ∧ f1.offset = 1 := by
 obtain⟨n0,n1,h0,h1,hf⟩:=h.flds
 have hlen:(Tryz.prog.fieldsOf K).toList.length=2:=by simpa using congrArg List.length hf
 match hq:(Tryz.prog.fieldsOf K).toList,hlen with
 | [f0,f1],_ =>
  rw[hq] at hf
  simp only[List.map_cons,List.map_nil,List.cons.injEq,Prod.mk.injEq,and_true] at hf
  obtain⟨⟨e0,t0,o0⟩,⟨e1,t1,o1⟩⟩:=hf
  exact⟨f0,f1,by rw[← hq],by rw[e0];exact h0,by rw[e1];exact h1,t0,t1,o0,o1⟩
theorem XD{K:TypeId}(h:Pu K)(w:World)(a b c d:Int):(Op.equal K (M4 a b) (M4 c d)).run Tryz.prog w = .ok (NP a b c d) w:=by
 obtain⟨f0,f1,hf,n0,n1,t0,t1,o0,o1⟩:=h.split
 have e:=run_equalIn_struct (P:=Tryz.prog) w 9999 K #[.int .i64 a,.int .i64 b] #[.int .i64 c,.int .i64 d] h.und h.hel
 unfold Op.equal M4
 refine e.trans ?_
 rw[hf]
 have p1:=OG w #[.int .i64 a,.int .i64 b] 0 a rfl
 have p2:=OG w #[.int .i64 c,.int .i64 d] 0 c rfl
 have p3:=OG w #[.int .i64 a,.int .i64 b] 1 b rfl
 have p4:=OG w #[.int .i64 c,.int .i64 d] 1 d rfl
 simp only[Op.eqFields,t0,o0,t1,o1]
 rw[if_pos n0,if_pos n1]
 simp only[Sem.run_bind,p1,p2,Result.andThen_ok,run_equalIn_int w 9998 3 .i64 .i64 _ _ Tryz.underlying3]
 unfold NP
 by_cases h1:a=c
 ·subst h1
  simp only[beq_self_eq_true,Bool.not_true,Bool.false_eq_true,if_false,Sem.run_bind,p3,p4,Result.andThen_ok,run_equalIn_int w 9998 3 .i64 .i64 _ _ Tryz.underlying3]
  by_cases h2:b=d
  ·subst h2;simp
  ·have:(b==d)=false:=by simpa using h2
   simp[this,h2]
 ·have:(a==c)=false:=by simpa using h1
  simp[this,h1]
theorem QJ{K:TypeId}(h:Pu K)(w:World)(em:Bool)(a b:Int):(Instr.checkKey em 10000 K (M4 a b)).run Tryz.prog w = .ok () w:=by
 obtain⟨f0,f1,hf,n0,n1,t0,t1,o0,o1⟩:=h.split
 have hu:=h.und
 rw[hf] at hu
 have p1:=OG w #[.int .i64 a,.int .i64 b] 0 a rfl
 have p3:=OG w #[.int .i64 a,.int .i64 b] 1 b rfl
 have hi:∀ z:Int,(Instr.checkKey em 9999 3 (.int .i64 z)).run Tryz.prog w = .ok () w:=fun z=>by
  have e:∀ n,(Instr.checkKey em (n+1) 3 (.int .i64 z)).run Tryz.prog w = .ok () w:=fun n=>by
   unfold Instr.checkKey
   simp only[Sem.run_bind,run_underlying Tryz.underlying3,Result.andThen_ok,Sem.run_pure]
  exact e 9998
 unfold M4
 have e:∀ n,(∀ z:Int,(Instr.checkKey em n 3 (.int .i64 z)).run Tryz.prog w = .ok () w)->(Instr.checkKey em (n+1) K (.agg #[.int .i64 a,.int .i64 b])).run Tryz.prog w = .ok () w:=fun n hn=>by
  unfold Instr.checkKey
  simp[run_underlying hu,n0,n1,t0,t1,o0,o1,p1,p3,hn]
 exact e 9999 hi
def Uh(es:List MapEntry)(L:List ((Int×Int)×Int×Int)):Prop:=es.map (fun e=>(e.key,e.val))=L.map fun q=>(M4 q.1.1 q.1.2,M4 q.2.1 q.2.2)
def Uo(a b:Int):List ((Int×Int)×Int×Int)->Nat->Option (Nat×Int×Int)
 | [],_=>none
 | q::r,i=>if q.1=(a,b) then some (i,q.2) else Uo a b r (i+1)
theorem Zg{K:TypeId}(h:Pu K)(w:World)(a b:Int):∀ (L:List ((Int×Int)×Int×Int)) (es:List MapEntry) (i:Nat),Uh es L->(Instr.findAsking K (M4 a b) es i).run Tryz.prog w = .ok ((Uo a b L i).map fun z=>(z.1,M4 z.2.1 z.2.2)) w:=by
 intro L
 induction L with
 | nil =>
  intro es i he
  have:es=[]:=by simpa [Uh] using he
  subst this
  simp[Instr.findAsking,Uo]
 | cons q r ih =>
  intro es i he
  cases es with
  | nil=>simp[Uh] at he
  | cons e es =>
   obtain⟨⟨c,d⟩,X,Y⟩:=q
   simp only[Uh,List.map_cons,List.cons.injEq,Prod.mk.injEq] at he
   obtain⟨⟨e1,e2⟩,he⟩:=he
   simp only[Instr.findAsking,Sem.run_bind,e1,e2,XD h,Result.andThen_ok,Uo]
   by_cases hk:(c,d)=(a,b)
   ·cases hk
    rw[Xu,if_pos rfl,if_pos rfl];rfl
   ·rw[if_neg hk]
    have hs:NP a b c d=false:=by
     unfold NP
     by_cases h1:a=c
     ·subst h1
      rw[decide_eq_false (p:=b=d) (fun h2=>hk (by rw[h2])),Bool.and_false]
     ·rw[decide_eq_false h1,Bool.false_and]
    rw[hs,if_neg (by simp)]
    exact ih es (i+1) he
theorem RE{K:TypeId}(h:Pu K)(w:World)(a b:Int)(L:List ((Int×Int)×Int×Int))(es:List MapEntry)(he:Uh es L):(Instr.findKey K (M4 a b) es).run Tryz.prog w = .ok ((Uo a b L 0).map fun z=>(z.1,M4 z.2.1 z.2.2)) w:=by
 have ha:=Zg h w a b L es 0 he
 unfold Instr.findKey
 cases es with
 | nil =>
  have:L=[]:=by simpa [Uh] using he.symm
  subst this
  simp[run_underlying h.und,Instr.findNow,Uo]
 | cons e es =>
  simp only[Sem.run_bind,run_underlying h.und,Result.andThen_ok,Instr.findNow,Instr.sameNow]
  exact ha
abbrev SO:=List ((Int×Int)×Int×Int)
def N5(a b:Int):SO->Int×Int
 | []=>(0,0)
 | q::r=>if q.1=(a,b) then q.2 else N5 a b r
def RP(a b X Y:Int):SO->SO
 | []=>[((a,b),X,Y)]
 | q::r=>if q.1=(a,b) then ((a,b),X,Y)::r else q::RP a b X Y r
def Tj(a b:Int):SO->SO
 | []=>[]
 | q::r=>if q.1=(a,b) then r else q::Tj a b r
theorem Vz{a b:Int}:∀ {L:SO} {k:Nat},Uo a b L k=none->N5 a b L=(0,0)/\(∀ X Y,RP a b X Y L=L ++ [((a,b),X,Y)])/\Tj a b L=L:=by
 intro L
 induction L with
 | nil=>intro k _;exact⟨rfl,fun _ _=>rfl,rfl⟩
 | cons q r ih =>
  intro k h
  rw[Uo] at h
  by_cases hq:q.1=(a,b)
  ·rw[if_pos hq] at h;cases h
  ·rw[if_neg hq] at h
   obtain⟨h1,h2,h3⟩:=ih h
   exact⟨by rw[N5,if_neg hq,h1],fun X Y=>by rw[RP,if_neg hq,h2,List.cons_append],by rw[Tj,if_neg hq,h3]⟩
theorem Vx{a b:Int}{z:Int×Int}:∀ {L:SO} {k j:Nat},Uo a b L k=some (j,z)->∃ i,j=k+i/\L[i]? = some ((a,b),z)/\N5 a b L=z/\(∀ X Y,RP a b X Y L=L.set i ((a,b),X,Y))/\Tj a b L=L.eraseIdx i:=by
 intro L
 induction L with
 | nil=>intro k j h;cases h
 | cons q r ih =>
  intro k j h
  rw[Uo] at h
  by_cases hq:q.1=(a,b)
  ·rw[if_pos hq] at h
   cases h
   exact⟨0,rfl,by rw[List.getElem?_cons_zero,← hq],by rw[N5,if_pos hq],fun X Y=>by rw[RP,if_pos hq];rfl,by rw[Tj,if_pos hq];rfl⟩
  ·rw[if_neg hq] at h
   obtain⟨i,h1,h2,h3,h4,h5⟩:=ih h
   exact⟨i+1,by omega,by rw[List.getElem?_cons_succ];exact h2,by rw[N5,if_neg hq,h3],fun X Y=>by rw[RP,if_neg hq,h4];rfl,by rw[Tj,if_neg hq,h5];rfl⟩
theorem aAt(a b X Y c d:Int)(L:SO):N5 c d (RP a b X Y L)=if (c,d)=(a,b) then (X,Y) else N5 c d L:=by
 induction L with
 | nil =>
  by_cases h:(c,d)=(a,b)
  ·rw[if_pos h,RP]
   simp only[N5]
   rw[if_pos h.symm]
  ·rw[if_neg h,RP]
   simp only[N5]
   rw[if_neg (fun e=>h e.symm)]
 | cons q r ih =>
  rw[RP]
  by_cases hq:q.1=(a,b)
  ·rw[if_pos hq,N5]
   by_cases h:(c,d)=(a,b)
   ·rw[if_pos h,if_pos h.symm]
   ·rw[if_neg h,if_neg (fun e=>h e.symm),N5,if_neg (fun e=>h (by rw[← e,hq]))]
  ·rw[if_neg hq,N5,N5,ih]
   by_cases h2:q.1=(c,d)
   ·rw[if_pos h2,if_pos h2,if_neg (fun e=>hq (by rw[h2,e]))]
   ·rw[if_neg h2,if_neg h2]
theorem aAK{c d:Int}{L:SO}(h:(c,d)∉L.map (·.1)):N5 c d L=(0,0):=by
 induction L with
 | nil=>rfl
 | cons q r ih =>
  simp only[List.map_cons,List.mem_cons,not_or] at h
  rw[N5,if_neg (fun e=>h.1 e.symm)];exact ih h.2
theorem az8(a b c d:Int)(L:SO)(hn:(L.map (·.1)).Nodup):N5 c d (Tj a b L)=if (c,d)=(a,b) then (0,0) else N5 c d L:=by
 induction L with
 | nil=>rw[Tj,N5];split <;> rfl
 | cons q r ih =>
  simp only[List.map_cons,List.nodup_cons] at hn
  rw[Tj]
  by_cases hq:q.1=(a,b)
  ·rw[if_pos hq]
   by_cases h:(c,d)=(a,b)
   ·rw[if_pos h];exact aAK (by rw[h,← hq];exact hn.1)
   ·rw[if_neg h,N5,if_neg (fun e=>h (by rw[← e,hq]))]
  ·rw[if_neg hq,N5,N5,ih hn.2]
   by_cases h2:q.1=(c,d)
   ·rw[if_pos h2,if_pos h2,if_neg (fun e=>hq (by rw[h2,e]))]
   ·rw[if_neg h2,if_neg h2]
theorem aBA(a b X Y:Int)(L:SO)(k:Int×Int):k∈(RP a b X Y L).map (·.1)↔k=(a,b)\/k∈L.map (·.1):=by
 induction L with
 | nil=>simp[RP]
 | cons q r ih =>
  rw[RP]
  by_cases hq:q.1=(a,b)
  ·rw[if_pos hq];simp only[List.map_cons,List.mem_cons,hq]
   constructor
   ·rintro (h|h)
    ·exact .inl h
    ·exact .inr (.inr h)
   ·rintro (h|h|h)
    ·exact .inl h
    ·exact .inl h
    ·exact .inr h
  ·rw[if_neg hq];simp only[List.map_cons,List.mem_cons,ih]
   constructor
   ·rintro (h|h|h)
    ·exact .inr (.inl h)
    ·exact .inl h
    ·exact .inr (.inr h)
   ·rintro (h|h|h)
    ·exact .inr (.inl h)
    ·exact .inl h
    ·exact .inr (.inr h)
theorem ayM(a b X Y:Int)(L:SO)(hn:(L.map (·.1)).Nodup):((RP a b X Y L).map (·.1)).Nodup:=by
 induction L with
 | nil=>simp[RP]
 | cons q r ih =>
  simp only[List.map_cons,List.nodup_cons] at hn
  rw[RP]
  by_cases hq:q.1=(a,b)
  ·rw[if_pos hq];simp only[List.map_cons,List.nodup_cons];exact⟨by rw[← hq];exact hn.1,hn.2⟩
  ·rw[if_neg hq];simp only[List.map_cons,List.nodup_cons]
   refine⟨fun h=>?_,ih hn.2⟩
   rcases (aBA a b X Y r q.1).1 h with h|h
   ·exact hq h
   ·exact hn.1 h
theorem aBY(a b:Int)(L:SO):(Tj a b L).Sublist L:=by
 induction L with
 | nil=>exact List.Sublist.refl _
 | cons q r ih =>
  rw[Tj]
  split
  ·exact List.sublist_cons_self _ _
  ·exact ih.cons_cons _
theorem azE(a b:Int)(L:SO)(hn:(L.map (·.1)).Nodup):((Tj a b L).map (·.1)).Nodup:=List.Nodup.sublist ((aBY a b L).map _) hn
def Wk(w:World)(r:Nat)(g:Int->Int->Int×Int):Prop:=∃ es clock L,w.heap[r]? = some (.map es clock)/\Uh es.toList L/\(L.map (·.1)).Nodup/\∀ a b,N5 a b L=g a b
theorem Wk.lt{w:World}{r:Nat}{g:Int->Int->Int×Int}(h:Wk w r g):r<w.heap.size:=by obtain⟨_,_,_,h,_⟩:=h;exact MJ h
theorem Wk.all{S:Nat->Prop}{w w':World}{r:Nat}{g:Int->Int->Int×Int}(h:Wk w r g)(k:KO S w w')(hn:¬ S r):Wk w' r g:=by
 obtain⟨es,clock,L,h1,h2⟩:=h;exact⟨es,clock,L,k.at h1 hn,h2⟩
instance {w w':World} {r:Nat} {g:Int->Int->Int×Int}:Cr w w' (Wk w r g) (Wk w' r g):=⟨fun h k=>h.all k id⟩
instance {w:World} {r:Nat} {g:Int->Int->Int×Int}:Lv w (Wk w r g) (Lf r):=⟨fun h=>LT h.lt⟩
theorem Wk.congr{w:World}{r:Nat}{g g':Int->Int->Int×Int}(h:Wk w r g)(e:∀ a b,g a b=g' a b):Wk w r g':=by
 obtain⟨es,clock,L,h1,h2,h3,h4⟩:=h;exact⟨es,clock,L,h1,h2,h3,fun a b=>(h4 a b).trans (e a b)⟩
def Wf(g:Int->Int->Int×Int)(a b X Y:Int):Int->Int->Int×Int:=fun c d=>if (c,d)=(a,b) then (X,Y) else g c d
section
variable {ρ:Operand->Value} {o:Oper} {w:World} {R:Value->World->Prop} {M K E:TypeId}
theorem Xy{x ix:Operand}{r:Nat}{a b:Int}{g:Int->Int->Int×Int}(hK:Pu K)(hM:Tryz.prog.underlying M=some (.map K E))(hz:(Tryz.prog.info? E).bind (·.zero)=some (M4 0 0))(ho:o.op = .lookup M x ix false)(hx:ρ x = .map (some r))(hi:ρ ix=M4 a b)(hB:Wk w r g)(h:R (M4 (g a b).1 (g a b).2) w):Le Tryz.prog ρ o w R:=by
 obtain⟨es,clock,L,h1,h2,_,h4⟩:=hB
 have hf:=RE hK w a b L es.toList h2
 have hc:=QJ hK w es.isEmpty a b
 have hz':(zeroValue E).run Tryz.prog w = .ok (M4 0 0) w:=by
  cases hq:Tryz.prog.info? E with
  | none=>rw[hq] at hz;cases hz
  | some i =>
   have:i.zero=some (M4 0 0):=by rw[hq] at hz;exact hz
   simp[zeroValue,typeInfo,hq,this]
 refine MI (v:=M4 (g a b).1 (g a b).2) (w':=w) ?_ h
 rw[← h4 a b]
 cases hq:Uo a b L 0 with
 | none =>
  rw[hq] at hf
  rw[(Vz hq).1]
  simp[execOp,ho,hx,hi,Instr.lookup,run_underlying hM,MapKept.run_getObj_map h1,hc,hf,hz']
 | some z =>
  obtain⟨j,X,Y⟩:=z
  obtain⟨i,_,_,e,_⟩:=Vx hq
  rw[hq] at hf
  rw[e]
  simp[execOp,ho,hx,hi,Instr.lookup,run_underlying hM,MapKept.run_getObj_map h1,hc,hf]
theorem X7{w:World}{r:Nat}{ob:Obj}(h:r<w.heap.size):({ w with heap:=w.heap.setIfInBounds r ob }:World).heap[r]? = some ob:=by simp[h]
theorem XP(w:World)(r:Nat)(ob:Obj):KO (Lf r) w { w with heap:=w.heap.setIfInBounds r ob }:=⟨rfl,rfl,rfl,by simp,fun i hi hn=>by
 have:r≠i:=fun e=>hn e.symm
 simp[Array.getElem?_setIfInBounds_ne this]⟩
theorem Wp{α β:Type}(f:α->β):∀ (l:List α) (i:Nat),(l.eraseIdx i).map f=(l.map f).eraseIdx i:=by
 intro l
 induction l with
 | nil=>intro i;rfl
 | cons x l ih =>
  intro i
  cases i with
  | zero=>rfl
  | succ i=>simp[ih i]
theorem aCo{es:List MapEntry}{L:SO}(h:Uh es L){i:Nat}{q:(Int×Int)×Int×Int}(hq:L[i]? = some q):∃ e,es[i]? = some e/\e.key=M4 q.1.1 q.1.2/\e.val=M4 q.2.1 q.2.2:=by
 have:=congrArg (fun l=>l[i]?) h
 simp only[List.getElem?_map,hq,Option.map_some] at this
 cases he:es[i]? with
 | none=>rw[he] at this;cases this
 | some e =>
  rw[he] at this
  simp only[Option.map_some,Option.some.injEq,Prod.mk.injEq] at this
  exact⟨e,rfl,this.1,this.2⟩
theorem azx(a b:Int):Instr.sameBits 10000 (M4 a b) (M4 a b)=true:=by
 have e:∀ n,Instr.sameBits (n+1) (M4 a b) (M4 a b)=true:=fun n=>by
  unfold M4 Instr.sameBits
  simp[Instr.sameBits]
 exact e 9999
theorem aC8{x ix y:Operand}{r:Nat}{a b X Y:Int}{g:Int->Int->Int×Int}(hK:Pu K)(hM:Tryz.prog.underlying M=some (.map K E))(ho:o.op = .mapUpdate M x ix y)(hx:ρ x = .map (some r))(hi:ρ ix=M4 a b)(hy:ρ y=M4 X Y)(hB:Wk w r g)
  (h:∀ u w',Wk w' r (Wf g a b X Y)->KO (Lf r) w w'->R u w'):Le Tryz.prog ρ o w R:=by
 obtain⟨es,clock,L,h1,h2,h3,h4⟩:=hB
 have hlt:=MJ h1
 have hf:=RE hK w a b L es.toList h2
 have hc:=QJ hK w false a b
 have hlay:∀ c d,N5 c d (RP a b X Y L)=Wf g a b X Y c d:=fun c d=>by rw[aAt];unfold Wf;rw[h4]
 have main:∀ es' clock',Uh es'.toList (RP a b X Y L)->(Instr.mapUpdate M (.map (some r)) (M4 a b) (M4 X Y)).run Tryz.prog w = .ok () { w with heap:=w.heap.setIfInBounds r (.map es' clock') }->Le Tryz.prog ρ o w R:=by
  intro es' clock' he hr
  have hB':Wk { w with heap:=w.heap.setIfInBounds r (.map es' clock') } r (Wf g a b X Y):=⟨es',clock',_,X7 hlt,he,ayM a b X Y L h3,hlay⟩
  unfold Le
  have e:(execOp ρ o).run Tryz.prog w = .ok .skip { w with heap:=w.heap.setIfInBounds r (.map es' clock') }\/(execOp ρ o).run Tryz.prog w = .ok (.value undef) { w with heap:=w.heap.setIfInBounds r (.map es' clock') }:=by
   simp[execOp,ho,hx,hi,hy,hr]
  rcases e with e|e <;> rw[e] <;> exact h _ _ hB' (XP w r _)
 cases hq:Uo a b L 0 with
 | none =>
  rw[hq] at hf
  refine main (es.push { key:=M4 a b,val:=M4 X Y,born:=clock }) (clock+1) ?_ ?_
  ·rw[(Vz hq).2.1 X Y,Array.toList_push]
   unfold Uh at h2 ⊢
   rw[List.map_append,List.map_append,h2];rfl
  ·simp[Instr.mapUpdate,run_underlying hM,MapKept.run_getObj_map h1,hc,hf,MapKept.run_setObj_map _ h1]
 | some z =>
  obtain⟨j,X0,Y0⟩:=z
  obtain⟨i,hji,hLi,_,hset,_⟩:=Vx hq
  have hji:j=i:=by omega
  subst hji
  rw[hq] at hf
  obtain⟨e,he,hek,hev⟩:=aCo h2 hLi
  have he':es[j]? = some e:=by simpa using he
  refine main (es.modify j fun e=>{ e with key:=M4 a b,val:=M4 X Y }) clock ?_ ?_
  ·rw[hset X Y]
   unfold Uh at h2 ⊢
   apply List.ext_getElem?
   intro n
   have h2n:=congrArg (fun l=>l[n]?) h2
   simp only[List.getElem?_map] at h2n
   rw[List.getElem?_map,List.getElem?_map,Array.getElem?_toList,Array.getElem?_modify]
   have hes:es.toList[n]? = es[n]? := Array.getElem?_toList
   rw[hes] at h2n
   by_cases hn:j=n
   ·subst hn
    rw[if_pos rfl,he',List.getElem?_set_self (List.getElem?_eq_some_iff.1 hLi).1];rfl
   ·rw[if_neg hn,List.getElem?_set_ne hn];exact h2n
  ·have hkk:((es[j]?).map (·.key)).getD (M4 a b)=M4 a b:=by rw[he'];exact hek
   simp[Instr.mapUpdate,run_underlying hM,MapKept.run_getObj_map h1,hc,hf,MapKept.run_setObj_map _ h1,hkk,Instr.keyThatStays,azx]
theorem aDe{c:Call}{x ix:Operand}{r:Nat}{a b:Int}{g:Int->Int->Int×Int}(hK:Pu K)(hM:Tryz.prog.underlying M=some (.map K E))(ho:o.op = .call c)(hc':c={ callee:=.builtin .delete,args:=#[x,ix],argTypes:=#[M,K] })(hx:ρ x = .map (some r))(hi:ρ ix=M4 a b)(hB:Wk w r g)
  (h:∀ u w',Wk w' r (Wf g a b 0 0)->KO (Lf r) w w'->R u w'):Le Tryz.prog ρ o w R:=by
 subst hc'
 obtain⟨es,clock,L,h1,h2,h3,h4⟩:=hB
 have hlt:=MJ h1
 have hf:=RE hK w a b L es.toList h2
 have hc:=QJ hK w es.isEmpty a b
 have hlay:∀ c d,N5 c d (Tj a b L)=Wf g a b 0 0 c d:=fun c d=>by rw[az8 a b c d L h3];unfold Wf;rw[h4]
 have main:∀ es',Uh es'.toList (Tj a b L)->(Builtin.delete_ #[M,K] o.type #[.map (some r),M4 a b]).run Tryz.prog w = .ok (.tuple #[]) { w with heap:=w.heap.setIfInBounds r (.map es' clock) }->Le Tryz.prog ρ o w R:=by
  intro es' he hr
  have hB':Wk { w with heap:=w.heap.setIfInBounds r (.map es' clock) } r (Wf g a b 0 0):=⟨es',clock,_,X7 hlt,he,azE a b L h3,hlay⟩
  exact MI (v:=.tuple #[]) (by simp[execOp,ho,resolve,invoke,builtin,hx,hi,hr]) (h _ _ hB' (XP w r _))
 cases hq:Uo a b L 0 with
 | none =>
  rw[hq] at hf
  refine main es (by rw[(Vz hq).2.2];exact h2) ?_
  simp[Builtin.delete_,run_underlying hM,MapKept.run_getObj_map h1,hc,hf,MapKept.run_setObj_map _ h1]
 | some z =>
  obtain⟨j,X0,Y0⟩:=z
  obtain⟨i,hji,hLi,_,_,hdel⟩:=Vx hq
  have hji:j=i:=by omega
  subst hji
  rw[hq] at hf
  refine main (es.eraseIdxIfInBounds j) ?_ ?_
  ·rw[hdel]
   unfold Uh at h2 ⊢
   rw[Array.toList_eraseIdxIfInBounds,Wp,Wp,h2]
  ·simp[Builtin.delete_,run_underlying hM,MapKept.run_getObj_map h1,hc,hf,MapKept.run_setObj_map _ h1]
theorem YU(ho:o.op = .makeMap M none)(h:∀ r w',Wk w' r (fun _ _=>(0,0))->KP w LX (Lf r)->KO (fun _=>False) w w'->R (.map (some r)) w'):Le Tryz.prog ρ o w R :=
 MI (v:=.map (some w.heap.size)) (w':=w.alloc (.map #[] 0)) (by simp[execOp,ho,Instr.makeMap,go_sem]) (h _ _ ⟨#[],0,[],heap_alloc_new _ _,rfl,by simp,fun _ _=>rfl⟩ (LS (Nat.le_refl _)) ((KO.refl _ _).alloc _))
end
end Go.Proofs.YtknjpdcpmpfklaaGreatDoor
set_option maxRecDepth 100000
namespace Go.Proofs.YtknjpdcpmpfklaaGreatDoor
open Go.RowKit
def Qt(f:VF):Int->Int->Int×Int:=fun a b=>(f.X a b,f.Y a b)
def Vfp(w:World)(T:Nat->Prop)(p:Nat)(f:VF):Prop:=∃ r,(∀ i,T i↔(Lf p i\/Lf r i))/\Mz w p 136 [.int .i64 f.w,.int .i64 f.h,.map (some r)]/\Wk w r (Qt f)/\KK (Lf p) (Lf r)/\OkV f
theorem Vfp.live{w:World}{T:Nat->Prop}{p:Nat}{f:VF}(h:Vfp w T p f):Pe w T:=by
 obtain⟨r,hT,h1,h2,_⟩:=h
 exact fun i hi=>((hT i).1 hi).elim (fun e=>by cases e;exact h1.lt) (fun e=>by cases e;exact h2.lt)
theorem Vfp.all{S:Nat->Prop}{w w':World}{T:Nat->Prop}{p:Nat}{f:VF}(h:Vfp w T p f)(k:KO S w w')(ha:KK T S):Vfp w' T p f:=by
 obtain⟨r,hT,h1,h2,h3,h4⟩:=h
 exact⟨r,hT,h1.all k (ha p ((hT p).2 (Or.inl rfl))),h2.all k (ha r ((hT r).2 (Or.inr rfl))),h3,h4⟩
theorem Vfp.ok{w:World}{T:Nat->Prop}{p:Nat}{f:VF}(h:Vfp w T p f):OkV f:=by obtain⟨_,_,_,_,_,h⟩:=h;exact h
def PG(w:World)(T:Nat->Prop)(v:Value)(o:Option VF):Prop:=match o with
 | none=>v = .pointer none/\T=LX
 | some f=>∃ p,v = .pointer (some ⟨p,0,none⟩)/\Vfp w T p f
theorem PG.nil(w:World):PG w LX (.pointer none) none:=⟨rfl,rfl⟩
theorem PG.live{w:World}{T:Nat->Prop}{v:Value}{o:Option VF}(h:PG w T v o):Pe w T:=by
 cases o with
 | none=>obtain⟨_,rfl⟩:=h;exact fun _ h=>h.elim
 | some f=>obtain⟨p,_,h⟩:=h;exact h.live
theorem PG.all{S:Nat->Prop}{w w':World}{T:Nat->Prop}{v:Value}{o:Option VF}(h:PG w T v o)(k:KO S w w')(ha:KK T S):PG w' T v o:=by
 cases o with
 | none=>exact h
 | some f=>obtain⟨p,e,h⟩:=h;exact⟨p,e,h.all k ha⟩
instance {w w':World} {T:Nat->Prop} {v:Value} {o:Option VF}:Cr w w' (PG w T v o) (PG w' T v o):=⟨fun h k=>h.all k KK.none⟩
instance {w:World} {T:Nat->Prop} {v:Value} {o:Option VF}:Lv w (PG w T v o) (T):=⟨fun h=>h.live⟩
theorem PG.ok{w:World}{T:Nat->Prop}{v:Value}{f:VF}(h:PG w T v (some f)):OkV f:=by obtain⟨_,_,h⟩:=h;exact h.ok
theorem PG.isnil{w:World}{T:Nat->Prop}{v:Value}{o:Option VF}(h:PG w T v o):∃ a,v = .pointer a/\a.isNone=o.isNone:=by
 cases o with
 | none=>exact⟨none,h.1,rfl⟩
 | some f=>obtain⟨p,e,_⟩:=h;exact⟨_,e,rfl⟩
def ZS(n:Int):Prop := -9223372036854775808<=n/\n<=9223372036854775807
end Go.Proofs.YtknjpdcpmpfklaaGreatDoor
set_option maxRecDepth 100000
namespace Go.Proofs.YtknjpdcpmpfklaaGreatDoor
open Go.RowKit
theorem ML:QC Tryz.prog 106 3:=⟨_,Tryz.underlying106,rfl,by kernel_rfl⟩
def Xr(w:World)(T:Nat->Prop)(g:Nat)(l:List Nat):Prop:=T=Lf g/\w.heap[g]? = some (.cells (Lx l).toArray 5 (0,0))
theorem Xr.live{w:World}{T:Nat->Prop}{g:Nat}{l:List Nat}(h:Xr w T g l):Pe w T:=by
 obtain⟨rfl,h⟩:=h;exact LT (MJ h)
theorem Xr.all{S:Nat->Prop}{w w':World}{T:Nat->Prop}{g:Nat}{l:List Nat}(h:Xr w T g l)(k:KO S w w')(ha:KK T S):Xr w' T g l:=by
 obtain⟨rfl,h⟩:=h;exact⟨rfl,k.at h (ha g rfl)⟩
instance {w w':World} {T:Nat->Prop} {g:Nat} {l:List Nat}:Cr w w' (Xr w T g l) (Xr w' T g l):=⟨fun h k=>h.all k KK.none⟩
instance {w:World} {T:Nat->Prop} {g:Nat} {l:List Nat}:Lv w (Xr w T g l) (T):=⟨fun h=>h.live⟩
def okR(l:List Nat)(st:Option Nat)(a:Nat)(b:Bool):Prop:=match st with
 | some n=>n<=8*l.length/\a=n/\b=false
 | none=>b=true
theorem P7{w:World}{p g:Nat}{l:List Nat}{st:Option Nat}(h:Q7 w p g l st):∃ (a:Nat) (b:Bool),okR l st a b/\Mz w p 106 [.slice (some ⟨g,0,none⟩) l.length l.length,.int .i64 (a:Int),.bool b]/\Xr w (Lf g) g l/\KK (Lf p) (Lf g):=by
 cases st with
 | none =>
  obtain⟨a,h⟩:=h
  exact⟨a,true,rfl,h.1,⟨rfl,h.2.1⟩,fun i h1 h2=>h.2.2 (h2.symm.trans h1)⟩
 | some n=>exact⟨n,false,⟨h.1,rfl,rfl⟩,h.2.1,⟨rfl,h.2.2.1⟩,fun i h1 h2=>h.2.2.2 (h2.symm.trans h1)⟩
theorem Qs{w:World}{p g:Nat}{l:List Nat}{st:Option Nat}{a:Nat}{b:Bool}(ho:okR l st a b)(h1:Mz w p 106 [.slice (some ⟨g,0,none⟩) l.length l.length,.int .i64 (a:Int),.bool b])(h2:Xr w (Lf g) g l)(ha:KK (Lf p) (Lf g)):Q7 w p g l st:=by
 have hne:g≠p:=fun e=>ha g e rfl
 cases st with
 | none=>cases ho;exact⟨a,h1,h2.2,hne⟩
 | some n=>obtain⟨h3,rfl,rfl⟩:=ho;exact⟨h3,h1,h2.2,hne⟩
theorem aA1{w:World}{T:Nat->Prop}{p:Nat}{l:List Nat}{st:Option Nat}(h:Pr w T p l st):∃ (g a:Nat) (b:Bool),Pa l/\(∀ i,T i↔(Lf p i\/Lf g i))/\okR l st a b/\Mz w p 106 [.slice (some ⟨g,0,none⟩) l.length l.length,.int .i64 (a:Int),.bool b]/\Xr w (Lf g) g l/\KK (Lf p) (Lf g):=by
 obtain⟨hf,g,rfl,h⟩:=h
 obtain⟨a,b,h1,h2,h3,h4⟩:=P7 h
 exact⟨g,a,b,hf,fun i=>Iff.rfl,h1,h2,h3,h4⟩
theorem Mo{w:World}{p g:Nat}{l:List Nat}{st:Option Nat}{a:Nat}{b:Bool}(hf:Pa l)(ho:okR l st a b)(h1:Mz w p 106 [.slice (some ⟨g,0,none⟩) l.length l.length,.int .i64 (a:Int),.bool b])(h2:Xr w (Lf g) g l)(ha:KK (Lf p) (Lf g)):Pr w (fun i=>Lf p i\/Lf g i) p l st:=⟨hf,g,rfl,Qs ho h1 h2 ha⟩
def MQ(l:List Nat)(gx gy:Int)(s:Option Nat):Option Nat:=if RR l gx gy s then vrS l s else s
theorem QK{l:List Nat}{gx gy:Int}{s:Option Nat}(h:PN l gx gy s=0):MQ l gx gy s=vrS l s:=by
 unfold PN at h;unfold MQ
 split at h
 ·rename_i h';rw[if_pos h']
 ·cases h
theorem Qc : Pu 138 := ⟨Tryz.underlying138, by kernel_rfl, "x", "y", by decide, by decide, by kernel_rfl⟩
theorem NZ:QC Tryz.prog 138 2:=⟨_,Tryz.underlying138,rfl,by kernel_rfl⟩
theorem Vk(n:Int)(w0:World) :
  Calls Tryz.prog 94 #[.int .i64 (n)] w0 fun e w'=>e = .returned (.bool (decide (1<=n/\n<=16)))/\KO (fun _=>False) w0 w':=by
 refine Lr (args:=[iv n]) 9 Tryz.func94 rfl rfl (Nat.le_of_ble_eq_true rfl) ?_
 have K0:=KO.refl (fun _=>False) w0
 refine KJ (KH (KI (.bool false) rfl rfl (KS rfl rfl rr) (KM ?_)))
 have s3:=K4 (iv n)
 have s4:=K4 (undef)
 refine KG (KJ ?_)
 by_cases d5:1<=n
 ·skip
  refine KH (KR rfl rfl rfl s3 (KI (.bool true) rfl rfl (Nf rfl rfl rfl (decide_eq_true d5) rr) (KI (.bool true) rfl rfl (KQ rfl rfl rr) (KT (iv n) 2 true 5 rfl rfl rfl rfl rfl (KQ rfl s3 rr) (KT (.bool (decide (n<=16))) 2 true 5 rfl rfl rfl rfl rfl (PM rfl rfl rfl rfl rr) (KI (.bool (decide (n<=16))) rfl rfl (Lo rfl rfl rfl rr) (KI (.bool (decide (n<=16))) rfl rfl (KS rfl rfl rr) (KM ?_))))))))
  have s9:=K4 (.bool (decide (n<=16)))
  refine KG (Lb ?_)
  exact Lu (v:=.bool (decide (n<=16))) s4 rfl rfl s9 ⟨(Pb (by first|exact(decide_eq_true (by omega)).symm|exact(decide_eq_false (by omega)).symm|exact decide_eq_decide.2 (by omega))),K0⟩
 ·skip
  refine KH (KR rfl rfl rfl s3 (KI (.bool false) rfl rfl (Nf rfl rfl rfl (decide_eq_false d5) rr) (KI (.bool false) rfl rfl (KQ rfl rfl rr) (KN 2 true 5 rfl rfl rfl (Or.inl rfl) rfl (KN 2 true 5 rfl rfl rfl (Or.inl rfl) rfl (KI (.bool false) rfl rfl (Li rfl rfl rfl rr) (KI (.bool false) rfl rfl (KS rfl rfl rr) (KM ?_))))))))
  have ah:=K4 (.bool false)
  refine KG (Lb ?_)
  exact Lu (v:=.bool false) s4 rfl rfl ah ⟨(Pb (by first|exact(decide_eq_true (by omega)).symm|exact(decide_eq_false (by omega)).symm|exact decide_eq_decide.2 (by omega))),K0⟩
theorem Q5(x n:Int)(w0:World) :
  Calls Tryz.prog 102 #[.int .i64 (x),.int .i64 (n)] w0 fun e w'=>e = .returned (.bool (decide (0<=x/\x<n)))/\KO (fun _=>False) w0 w':=by
 refine Lr (args:=[iv x,iv n]) 12 Tryz.func102 rfl rfl (Nat.le_of_ble_eq_true rfl) ?_
 have K0:=KO.refl (fun _=>False) w0
 refine KJ (KH (KI (.bool false) rfl rfl (KS rfl rfl rr) (KM ?_)))
 have s3:=K4 (iv x)
 have s4:=K4 (iv n)
 have s5:=K4 (undef)
 refine KG (KJ ?_)
 by_cases d6:0<=x
 ·skip
  refine KH (KR rfl rfl rfl s3 (KI (.bool true) rfl rfl (Nf rfl rfl rfl (decide_eq_true d6) rr) (KI (.bool true) rfl rfl (KQ rfl rfl rr) (KT (iv x) 2 true 7 rfl rfl rfl rfl rfl (KQ rfl s3 rr) (KT (iv n) 2 true 7 rfl rfl rfl rfl rfl (KQ rfl s4 rr) (KT (.bool (decide (x<n))) 2 true 7 rfl rfl rfl rfl rfl (L4 rfl rfl rfl rfl rr) (KI (.bool (decide (x<n))) rfl rfl (Lo rfl rfl rfl rr) (KI (.bool (decide (x<n))) rfl rfl (KS rfl rfl rr) (KM ?_)))))))))
  have ah:=K4 (.bool (decide (x<n)))
  refine KG (Lb ?_)
  exact Lu (v:=.bool (decide (x<n))) s5 rfl rfl ah ⟨(Pb (by first|exact(decide_eq_true (by omega)).symm|exact(decide_eq_false (by omega)).symm|exact decide_eq_decide.2 (by omega))),K0⟩
 ·skip
  refine KH (KR rfl rfl rfl s3 (KI (.bool false) rfl rfl (Nf rfl rfl rfl (decide_eq_false d6) rr) (KI (.bool false) rfl rfl (KQ rfl rfl rr) (KN 2 true 7 rfl rfl rfl (Or.inl rfl) rfl (KN 2 true 7 rfl rfl rfl (Or.inl rfl) rfl (KN 2 true 7 rfl rfl rfl (Or.inl rfl) rfl (KI (.bool false) rfl rfl (Li rfl rfl rfl rr) (KI (.bool false) rfl rfl (KS rfl rfl rr) (KM ?_)))))))))
  have ai:=K4 (.bool false)
  refine KG (Lb ?_)
  exact Lu (v:=.bool false) s5 rfl rfl ai ⟨(Pb (by first|exact(decide_eq_true (by omega)).symm|exact(decide_eq_false (by omega)).symm|exact decide_eq_decide.2 (by omega))),K0⟩
theorem VQ(a b c:Int)(w0:World) :
  Calls Tryz.prog 126 #[.int .i64 (a),.int .i64 (b),.int .i64 (c)] w0 fun e w'=>e = .returned (.int .i64 (S2 a b c))/\KO (fun _=>False) w0 w':=by
 refine Lr (args:=[iv a,iv b,iv c]) 16 Tryz.func126 rfl rfl (Nat.le_of_ble_eq_true rfl) ?_
 refine KJ (KH (KI (iv 0) rfl rfl (KS rfl rfl rr) (KM ?_)))
 have s3:=K4 (iv a)
 have s4:=K4 (iv b)
 have s5:=K4 (iv c)
 have s6:=K4 (undef)
 refine KG (KJ (KH (KR rfl rfl rfl s3 (KR rfl rfl rfl s4 (KI (iv (min a b)) rfl rfl (QS rfl rfl rfl rfl rr) (KR rfl rfl rfl s3 (KR rfl rfl rfl s4 (KI (iv (max a b)) rfl rfl (QO rfl rfl rfl rfl rr) (KR rfl rfl rfl s5 (KI (iv (min (max a b) c)) rfl rfl (QS rfl rfl rfl rfl rr) (KI (iv (max (min a b) (min (max a b) c))) rfl rfl (QO rfl rfl rfl rfl rr) ?_)))))))))))
 refine KI (iv (max (min a b) (min (max a b) c))) rfl rfl (KS rfl rfl rr) (KM ?_)
 have af:=K4 (iv (max (min a b) (min (max a b) c)))
 refine KG (Lb ?_)
 exact Lu (v:=iv (max (min a b) (min (max a b) c))) s6 rfl rfl af ⟨rfl,(KO.refl (fun _=>False) w0)⟩
theorem ayS(a b c d m n:Int)(w0:World) :
  Calls Tryz.prog 95 #[.agg #[.int .i64 (a),.int .i64 (b)],.agg #[.int .i64 (c),.int .i64 (d)],.agg #[.int .i64 (m),.int .i64 (n)]] w0 fun e w'=>e = .returned (.agg #[.int .i64 (S2 a c m),.int .i64 (S2 b d n)])/\KO (fun _=>False) w0 w':=by
 refine Lr (args:=[.agg #[iv a,iv b],.agg #[iv c,iv d],.agg #[iv m,iv n]]) 22 Tryz.func95 rfl rfl (Nat.le_of_ble_eq_true rfl) ?_
 refine KJ (KH (Lz (vs:=[iv a,iv b]) rfl rfl rfl rfl fun p1 w2 B4 g5 k3=>?_))
 refine Lz (vs:=[iv c,iv d]) rfl rfl rfl rfl fun p8 w9 aB af ah=>?_
 have aC:=B4.all ah id
 refine Lz (vs:=[iv m,iv n]) rfl rfl rfl rfl fun ac bf aD bg ai=>?_
 obtain⟨aE,aF⟩:=NA ai aC aB
 have aj:=(((KO.refl (fun _=>False) w0).tr k3).tr ah).tr ai
 refine LF (n:=2) (vs:=[iv 0,iv 0]) rfl rfl rfl (by kernel_rfl) fun aG bh aH aI ak=>?_
 obtain⟨am,an,ao⟩:=Nu ak aE aF aD
 refine KM ?_
 have aJ:=K4 (undef)
 have ap:=K4 (pt p1 0)
 have aq:=K4 (pt p8 0)
 have ar:=K4 (pt ac 0)
 have aK:=K4 (pt aG 0)
 refine KG (KJ ?_)
 refine Na 15 [some 7,some 8,some 9,some 10,some 11,some 12,some 13,some 14,some 15,some 16,some 17,some 18,some 19,some 20,some 21] [Pd.eq (pt p1 0),Pd.eq (iv a),Pd.eq (pt p8 0),Pd.eq (iv c),Pd.eq (pt ac 0),Pd.eq (iv m),Pd.eq (iv (S2 a c m)),Pd.eq (pt p1 1),Pd.eq (iv b),Pd.eq (pt p8 1),Pd.eq (iv d),Pd.eq (pt ac 1),Pd.eq (iv n),Pd.eq (iv (S2 b d n)),Pd.eq (.agg #[iv (S2 a c m),iv (S2 b d n)])] (by kernel_rfl) (by kernel_rfl) (by kernel_rfl) ?_ ?_
 ·refine KL ?_ ?_
  ·refine La.one rfl fun F_ w_ hR hout hD=>?_
   exact(KU (n:=1) rfl ((hout 3 rfl (by decide)).trans ap) Tryz.underlying67 rfl (by kernel_rfl) (by decide) rfl ⟨rfl,KO.refl _ _⟩)
  refine KL ?_ ?_
  ·refine La.one rfl fun F_ w_ hR hout hD=>?_
   have g7:F_ 7=pt p1 0:=(hD.get 0 rfl rfl rfl)
   exact(KY rfl g7 Tryz.underlying3 (am.all hR id) rfl rfl ⟨rfl,KO.refl _ _⟩)
  refine KL ?_ ?_
  ·refine La.one rfl fun F_ w_ hR hout hD=>?_
   exact(KU (n:=1) rfl ((hout 4 rfl (by decide)).trans aq) Tryz.underlying67 rfl (by kernel_rfl) (by decide) rfl ⟨rfl,KO.refl _ _⟩)
  refine KL ?_ ?_
  ·refine La.one rfl fun F_ w_ hR hout hD=>?_
   have g9:F_ 9=pt p8 0:=(hD.get 0 rfl rfl rfl)
   exact(KY rfl g9 Tryz.underlying3 (an.all hR id) rfl rfl ⟨rfl,KO.refl _ _⟩)
  refine KL ?_ ?_
  ·refine La.one rfl fun F_ w_ hR hout hD=>?_
   exact(KU (n:=1) rfl ((hout 5 rfl (by decide)).trans ar) Tryz.underlying67 rfl (by kernel_rfl) (by decide) rfl ⟨rfl,KO.refl _ _⟩)
  refine KL ?_ ?_
  ·refine La.one rfl fun F_ w_ hR hout hD=>?_
   have aN:F_ 11=pt ac 0:=(hD.get 0 rfl rfl rfl)
   exact(KY rfl aN Tryz.underlying3 (ao.all hR id) rfl rfl ⟨rfl,KO.refl _ _⟩)
  refine KL ?_ ?_
  ·refine La.one rfl fun F_ w_ hR hout hD=>?_
   have g8:F_ 8=iv a:=(hD.get 0 rfl rfl rfl)
   have aP:F_ 10=iv c:=(hD.get 1 rfl rfl rfl)
   have af:F_ 12=iv m:=(hD.get 2 rfl rfl rfl)
   exact(LH rfl rfl rfl (fun _ _=>by kernel_rfl) (K5 _) (Lk g8 (Lk aP (Lk af LR))) (VQ a c m  _   ) (fun e_ w_ h_=>⟨_,h_.1,rfl,h_.2⟩))
  refine KL ?_ ?_
  ·refine La.one rfl fun F_ w_ hR hout hD=>?_
   exact(KU (n:=1) rfl ((hout 3 rfl (by decide)).trans ap) Tryz.underlying67 rfl (by kernel_rfl) (by decide) rfl ⟨rfl,KO.refl _ _⟩)
  refine KL ?_ ?_
  ·refine La.one rfl fun F_ w_ hR hout hD=>?_
   have aQ:F_ 14=pt p1 1:=(hD.get 0 rfl rfl rfl)
   exact(KY rfl aQ Tryz.underlying3 (am.all hR id) rfl rfl ⟨rfl,KO.refl _ _⟩)
  refine KL ?_ ?_
  ·refine La.one rfl fun F_ w_ hR hout hD=>?_
   exact(KU (n:=1) rfl ((hout 4 rfl (by decide)).trans aq) Tryz.underlying67 rfl (by kernel_rfl) (by decide) rfl ⟨rfl,KO.refl _ _⟩)
  refine KL ?_ ?_
  ·refine La.one rfl fun F_ w_ hR hout hD=>?_
   have aR:F_ 16=pt p8 1:=(hD.get 0 rfl rfl rfl)
   exact(KY rfl aR Tryz.underlying3 (an.all hR id) rfl rfl ⟨rfl,KO.refl _ _⟩)
  refine KL ?_ ?_
  ·refine La.one rfl fun F_ w_ hR hout hD=>?_
   exact(KU (n:=1) rfl ((hout 5 rfl (by decide)).trans ar) Tryz.underlying67 rfl (by kernel_rfl) (by decide) rfl ⟨rfl,KO.refl _ _⟩)
  refine KL ?_ ?_
  ·refine La.one rfl fun F_ w_ hR hout hD=>?_
   have aS:F_ 18=pt ac 1:=(hD.get 0 rfl rfl rfl)
   exact(KY rfl aS Tryz.underlying3 (ao.all hR id) rfl rfl ⟨rfl,KO.refl _ _⟩)
  refine KL ?_ ?_
  ·refine La.one rfl fun F_ w_ hR hout hD=>?_
   have aT:F_ 15=iv b:=(hD.get 0 rfl rfl rfl)
   have aU:F_ 17=iv d:=(hD.get 1 rfl rfl rfl)
   have aV:F_ 19=iv n:=(hD.get 2 rfl rfl rfl)
   exact(LH rfl rfl rfl (fun _ _=>by kernel_rfl) (K5 _) (Lk aT (Lk aU (Lk aV LR))) (VQ b d n  _   ) (fun e_ w_ h_=>⟨_,h_.1,rfl,h_.2⟩))
  refine KL ?_ ?_
  ·refine La.one rfl fun F_ w_ hR hout hD=>?_
   have aW:F_ 13=iv (S2 a c m):=(hD.get 0 rfl rfl rfl)
   have aX:F_ 20=iv (S2 b d n):=(hD.get 1 rfl rfl rfl)
   exact(LZ (l':=[(0,iv (S2 a c m)),(1,iv (S2 b d n))]) (cells:=#[iv (S2 a c m),iv (S2 b d n)]) rfl (S7 aW (S7 aX Rv)) (by kernel_rfl) rfl ⟨rfl,KO.refl _ _⟩)
  exact L0
 intro bi aY bj au av ae
 have aZ:=aH.all au id
 obtain⟨a8,aw⟩:=t2 ae 22 aJ 6 aK
 have a9:aY 21 = .agg #[iv (S2 a c m),iv (S2 b d n)]:=(ae 21).trans (av 14 (by decide))
 clear av ae
 refine Lj (us:=[iv (S2 a c m),iv (S2 b d n)]) LO rfl rfl rfl aw a9 aZ rfl (KX rfl (KX rfl MG)) fun bm ba bb=>?_
 refine KM ?_
 refine KG (Lb ?_)
 exact O2 (vs:=[iv (S2 a c m),iv (S2 b d n)]) LO a8 rfl rfl aw ba ⟨rfl,(((aj.tr ak).tr au).trans bb (KP.ok (S:=fun _=>False) (KP.new aj aI) K3))⟩
theorem U7(n:Int)(w0:World) :
  Calls Tryz.prog 154 #[.int .i64 (n)] w0 fun e w'=>e = .returned (.int .i64 (cl 64 n))/\KO (fun _=>False) w0 w':=by
 refine Lr (args:=[iv n]) 6 Tryz.func154 rfl rfl (Nat.le_of_ble_eq_true rfl) ?_
 refine KJ (KH (KI (iv 0) rfl rfl (KS rfl rfl rr) (KM ?_)))
 have s3:=K4 (iv n)
 have s4:=K4 (undef)
 refine KG (KJ (KH (KR rfl rfl rfl s3 (KI (iv (min n 64)) rfl rfl (QS rfl rfl rfl rfl rr) (KI (iv (cl 64 n)) rfl rfl (QO rfl rfl rfl (by unfold cl;omega) rr) (KI (iv (cl 64 n)) rfl rfl (KS rfl rfl rr) (KM ?_)))))))
 have s8:=K4 (iv (cl 64 n))
 refine KG (Lb ?_)
 exact Lu (v:=iv (cl 64 n)) s4 rfl rfl s8 ⟨rfl,(KO.refl (fun _=>False) w0)⟩
theorem aCq(X Y:Int)(w0:World) :
  Calls Tryz.prog 131 #[.agg #[.int .i64 (X),.int .i64 (Y)]] w0 fun e w'=>e = .returned (.agg #[.int .i64 (cl 64 X),.int .i64 (cl 64 Y)])/\KO (fun _=>False) w0 w':=by
 refine Lr (args:=[.agg #[iv X,iv Y]]) 10 Tryz.func131 rfl rfl (Nat.le_of_ble_eq_true rfl) ?_
 refine KJ (KH (Lz (vs:=[iv X,iv Y]) rfl rfl rfl rfl fun p1 w2 B4 g5 k3=>?_))
 have K7:=(KO.refl (fun _=>False) w0).tr k3
 refine LF (n:=2) (vs:=[iv 0,iv 0]) rfl rfl rfl (by kernel_rfl) fun p8 w9 aq ar af=>?_
 have ah:=B4.all af id
 refine KM ?_
 have au:=K4 (undef)
 have ai:=K4 (pt p1 0)
 have av:=K4 (pt p8 0)
 refine KG (KJ ?_)
 refine Na 7 [some 3,some 4,some 5,some 6,some 7,some 8,some 9] [Pd.eq (pt p1 0),Pd.eq (iv X),Pd.eq (iv (cl 64 X)),Pd.eq (pt p1 1),Pd.eq (iv Y),Pd.eq (iv (cl 64 Y)),Pd.eq (.agg #[iv (cl 64 X),iv (cl 64 Y)])] (by kernel_rfl) (by kernel_rfl) (by kernel_rfl) ?_ ?_
 ·refine KL ?_ ?_
  ·refine La.one rfl fun F_ w_ hR hout hD=>?_
   exact(KU (n:=1) rfl ((hout 1 rfl (by decide)).trans ai) Tryz.underlying67 rfl (by kernel_rfl) (by decide) rfl ⟨rfl,KO.refl _ _⟩)
  refine KL ?_ ?_
  ·refine La.one rfl fun F_ w_ hR hout hD=>?_
   have g3:F_ 3=pt p1 0:=(hD.get 0 rfl rfl rfl)
   exact(KY rfl g3 Tryz.underlying3 (ah.all hR id) rfl rfl ⟨rfl,KO.refl _ _⟩)
  refine KL ?_ ?_
  ·refine La.one rfl fun F_ w_ hR hout hD=>?_
   have g4:F_ 4=iv X:=(hD.get 0 rfl rfl rfl)
   exact(LH rfl rfl rfl (fun _ _=>by kernel_rfl) (K5 _) (Lk g4 LR) (U7 X  _   ) (fun e_ w_ h_=>⟨_,h_.1,rfl,h_.2⟩))
  refine KL ?_ ?_
  ·refine La.one rfl fun F_ w_ hR hout hD=>?_
   exact(KU (n:=1) rfl ((hout 1 rfl (by decide)).trans ai) Tryz.underlying67 rfl (by kernel_rfl) (by decide) rfl ⟨rfl,KO.refl _ _⟩)
  refine KL ?_ ?_
  ·refine La.one rfl fun F_ w_ hR hout hD=>?_
   have g6:F_ 6=pt p1 1:=(hD.get 0 rfl rfl rfl)
   exact(KY rfl g6 Tryz.underlying3 (ah.all hR id) rfl rfl ⟨rfl,KO.refl _ _⟩)
  refine KL ?_ ?_
  ·refine La.one rfl fun F_ w_ hR hout hD=>?_
   have g7:F_ 7=iv Y:=(hD.get 0 rfl rfl rfl)
   exact(LH rfl rfl rfl (fun _ _=>by kernel_rfl) (K5 _) (Lk g7 LR) (U7 Y  _   ) (fun e_ w_ h_=>⟨_,h_.1,rfl,h_.2⟩))
  refine KL ?_ ?_
  ·refine La.one rfl fun F_ w_ hR hout hD=>?_
   have g5:F_ 5=iv (cl 64 X):=(hD.get 0 rfl rfl rfl)
   have g8:F_ 8=iv (cl 64 Y):=(hD.get 1 rfl rfl rfl)
   exact(LZ (l':=[(0,iv (cl 64 X)),(1,iv (cl 64 Y))]) (cells:=#[iv (cl 64 X),iv (cl 64 Y)]) rfl (S7 g5 (S7 g8 Rv)) (by kernel_rfl) rfl ⟨rfl,KO.refl _ _⟩)
  exact L0
 intro aL aD aM aj ak ab
 have aE:=aq.all aj id
 obtain⟨aF,am⟩:=t2 ab 10 au 2 av
 have aG:aD 9 = .agg #[iv (cl 64 X),iv (cl 64 Y)]:=(ab 9).trans (ak 6 (by decide))
 clear ak ab
 refine Lj (us:=[iv (cl 64 X),iv (cl 64 Y)]) LO rfl rfl rfl am aG aE rfl (KX rfl (KX rfl MG)) fun aO aH aI=>?_
 refine KM ?_
 refine KG (Lb ?_)
 exact O2 (vs:=[iv (cl 64 X),iv (cl 64 Y)]) LO aF rfl rfl am aH ⟨rfl,(((K7.tr af).tr aj).trans aI (KP.ok (S:=fun _=>False) (KP.new K7 ar) K3))⟩
theorem Ui(m n:Int)(w0:World) :
  Calls Tryz.prog 59 #[.int .i64 (m),.int .i64 (n)] w0 fun e w'=>∃ (v1:Value) (T1:Nat->Prop),e = .returned (.tuple #[v1,.int .i64 (MW m n)])/\KO (fun _=>False) w0 w'/\(PG w' T1 v1 ((SB m n))/\KP w0 LX T1):=by
 refine Lr (args:=[iv m,iv n]) 19 Tryz.func59 rfl rfl (Nat.le_of_ble_eq_true rfl) ?_
 have K0:=KO.refl (fun _=>False) w0
 refine KJ (KH (KI (.pointer none) rfl rfl (KS rfl rfl rr) (KI (iv 0) rfl rfl (KS rfl rfl rr) (KM ?_))))
 have s3:=K4 (iv m)
 have s4:=K4 (iv n)
 have s5:=K4 (undef)
 refine KG (KJ (KJ ?_))
 by_cases d6:1<=m/\m<=16
 ·skip
  by_cases d7:1<=n/\n<=16
  ·skip
   refine KH (KR rfl rfl rfl s3 (LB (R:=fun v_ w_=>v_ = .bool true/\KO (fun _=>False) w0 w_) rfl rfl (LH rfl rfl rfl (fun _ _=>by kernel_rfl) (K5 _) (Lk rfl LR) (Vk m  _   ) (fun e_ w_ h_=>⟨_,h_.1,(congrArg Value.bool (decide_eq_true d6)),h_.2⟩)) ?_))
   rintro _ w8 ⟨rfl,k9⟩
   refine KI (.bool false) rfl rfl (L9 rfl rfl rfl rr) (KI (.bool false) rfl rfl (KQ rfl rfl rr) (KT (iv n) 3 false 9 rfl rfl rfl rfl rfl (KQ rfl s4 rr) (LN (R:=fun v_ w_=>v_ = .bool true/\KO (fun _=>False) w8 w_) 3 false 9 rfl rfl rfl rfl rfl (LH rfl rfl rfl (fun _ _=>by kernel_rfl) (K5 _) (Lk rfl LR) (Vk n  _   ) (fun e_ w_ h_=>⟨_,h_.1,(congrArg Value.bool (decide_eq_true d7)),h_.2⟩)) ?_)))
   rintro _ aS ⟨rfl,av⟩
   have ak:=(K0.tr k9).tr av
   refine KT (.bool false) 3 false 9 rfl rfl rfl rfl rfl (L9 rfl rfl rfl rr) (KI (.bool false) rfl rfl (Li rfl rfl rfl rr) (KM ?_))
   have aw:=K4 (.bool false)
   refine KG ?_
   refine K6 (t:=false) aw (fun e=>by cases e) (fun _=>?_)
   refine Lg (KG (KJ ?_))
   have hs:NG m n:=⟨by omega,by omega,by omega,by omega⟩
   refine KH (KR rfl rfl rfl s3 (KR rfl rfl rfl s4 ?_))
   refine Nm rfl rfl (YU rfl fun ab aT am az aA=>?_)
   have an:=ak.tr aA
   refine KI (.agg #[iv m,iv n,.map (some ab)]) rfl rfl (LZ (l':=[(0,iv m),(1,iv n),(2,.map (some ab))]) (cells:=#[iv m,iv n,.map (some ab)]) rfl (S7 rfl (S7 rfl (S7 rfl Rv))) (by kernel_rfl) rfl rr) (Lz (vs:=[iv m,iv n,.map (some ab)]) rfl rfl rfl rfl fun aa aB aC ao ap=>?_)
   have aD:=KK.new ao (LT am.lt)
   have aE:=am.all ap id
   refine KI (pt aa 0) rfl rfl (KS rfl rfl rr) (KI (iv 0) rfl rfl (KS rfl rfl rr) (KM ?_))
   have aF:=K4 (pt aa 0)
   have aG:=K4 (iv 0)
   refine KG (Lb ?_)
   have aq:PG aB (fun i=>(Lf aa) i\/((Lf ab) i)) (pt aa 0) (some (Qz m n)):=⟨_,rfl,_,fun i=>Iff.rfl,aC,aE,aD,aBT hs⟩
   have aH:KP w0 LX (fun i=>(Lf aa) i\/((Lf ab) i)):=fun i h=>h.elim (fun y=>(KP.new an ao) i y) (fun y=>(KP.new ak az) i y)
   exact L7 s5 rfl (Ly (v:=pt aa 0) rfl aF) (Ly (v:=iv 0) rfl aG) ⟨(pt aa 0),(fun i=>(Lf aa) i\/((Lf ab) i)),(by first|rw[TR hs]|rw[VZ (by unfold NG;omega)]),(an.tr ap),⟨(by first|(rw[Tk hs];exact aq)|(rw[W2 (by unfold NG;omega)];exact aq)),aH⟩⟩
  ·skip
   refine KH (KR rfl rfl rfl s3 (LB (R:=fun v_ w_=>v_ = .bool true/\KO (fun _=>False) w0 w_) rfl rfl (LH rfl rfl rfl (fun _ _=>by kernel_rfl) (K5 _) (Lk rfl LR) (Vk m  _   ) (fun e_ w_ h_=>⟨_,h_.1,(congrArg Value.bool (decide_eq_true d6)),h_.2⟩)) ?_))
   rintro _ aI ⟨rfl,aJ⟩
   refine KI (.bool false) rfl rfl (L9 rfl rfl rfl rr) (KI (.bool false) rfl rfl (KQ rfl rfl rr) (KT (iv n) 3 false 9 rfl rfl rfl rfl rfl (KQ rfl s4 rr) (LN (R:=fun v_ w_=>v_ = .bool false/\KO (fun _=>False) aI w_) 3 false 9 rfl rfl rfl rfl rfl (LH rfl rfl rfl (fun _ _=>by kernel_rfl) (K5 _) (Lk rfl LR) (Vk n  _   ) (fun e_ w_ h_=>⟨_,h_.1,(congrArg Value.bool (decide_eq_false d7)),h_.2⟩)) ?_)))
   rintro _ aU ⟨rfl,aK⟩
   refine KT (.bool true) 3 false 9 rfl rfl rfl rfl rfl (L9 rfl rfl rfl rr) (KI (.bool true) rfl rfl (Li rfl rfl rfl rr) (KM ?_))
   have aL:=K4 (.bool true)
   refine KG ?_
   refine K6 (t:=true) aL (fun _=>?_) (fun e=>by cases e)
   refine KJ (KH (KI (.pointer none) rfl rfl (KS rfl rfl rr) (KI (iv 1) rfl rfl (KS rfl rfl rr) (KM ?_))))
   have aM:=K4 (.pointer none)
   have aN:=K4 (iv 1)
   refine KG (Lb (Lq ?_))
   exact L7 s5 rfl (Ly (v:=.pointer none) rfl aM) (Ly (v:=iv 1) rfl aN) ⟨(.pointer none),LX,(by first|rw[TR hs]|rw[VZ (by unfold NG;omega)]),((K0.tr aJ).tr aK),⟨(by first|(rw[Tk hs];exact(PG.nil _))|(rw[W2 (by unfold NG;omega)];exact(PG.nil _))),(KP.refl _ _)⟩⟩
 ·skip
  refine KH (KR rfl rfl rfl s3 (LB (R:=fun v_ w_=>v_ = .bool false/\KO (fun _=>False) w0 w_) rfl rfl (LH rfl rfl rfl (fun _ _=>by kernel_rfl) (K5 _) (Lk rfl LR) (Vk m  _   ) (fun e_ w_ h_=>⟨_,h_.1,(congrArg Value.bool (decide_eq_false d6)),h_.2⟩)) ?_))
  rintro _ aV ⟨rfl,aO⟩
  refine KI (.bool true) rfl rfl (L9 rfl rfl rfl rr) (KI (.bool true) rfl rfl (KQ rfl rfl rr) (KN 3 false 9 rfl rfl rfl (Or.inl rfl) rfl (KN 3 false 9 rfl rfl rfl (Or.inl rfl) rfl (KN 3 false 9 rfl rfl rfl (Or.inl rfl) rfl (KI (.bool true) rfl rfl (Lo rfl rfl rfl rr) (KM ?_))))))
  have aP:=K4 (.bool true)
  refine KG ?_
  refine K6 (t:=true) aP (fun _=>?_) (fun e=>by cases e)
  refine KJ (KH (KI (.pointer none) rfl rfl (KS rfl rfl rr) (KI (iv 1) rfl rfl (KS rfl rfl rr) (KM ?_))))
  have aQ:=K4 (.pointer none)
  have aR:=K4 (iv 1)
  refine KG (Lb (Lq ?_))
  exact L7 s5 rfl (Ly (v:=.pointer none) rfl aQ) (Ly (v:=iv 1) rfl aR) ⟨(.pointer none),LX,(by first|rw[TR hs]|rw[VZ (by unfold NG;omega)]),(K0.tr aO),⟨(by first|(rw[Tk hs];exact(PG.nil _))|(rw[W2 (by unfold NG;omega)];exact(PG.nil _))),(KP.refl _ _)⟩⟩
theorem Pq(f:VF)(x y X Y a b:Int):Wf (Qt f) x y X Y a b=Qt (aAq f x y X Y) a b:=by
 unfold Wf Qt aAq
 by_cases h:a=x/\b=y
 ·obtain⟨rfl,rfl⟩:=h;simp
 ·rw[if_neg (fun e=>h (by simpa using e))];simp only[if_neg h]
theorem ayR{X Y:Int}(h:NP X Y 0 0=true):X=0/\Y=0:=by unfold NP at h;simpa using h
def N0(x:Int):Int:=IntKind.i64.wrap (x-1)
def TK(x:Int):Int:=IntKind.i64.wrap (x+1)
theorem WA{x:Int}(h:ZS x):N0 x=x-1\/(x = -9223372036854775808/\N0 x=9223372036854775807):=by
 by_cases e:x = -9223372036854775808
 ·subst e;exact Or.inr ⟨rfl,by decide⟩
 ·exact Or.inl (by unfold N0;unfold ZS at h;rw[IntKind.wrap_i64];omega)
theorem ay3{x:Int}(h:ZS x):TK x=x+1\/(x=9223372036854775807/\TK x = -9223372036854775808):=by
 by_cases e:x=9223372036854775807
 ·subst e;exact Or.inr ⟨rfl,by decide⟩
 ·exact Or.inl (by unfold TK;unfold ZS at h;rw[IntKind.wrap_i64];omega)
theorem TX{f:VF}(ok:OkV f){a b a' b':Int}(h:(a=a'/\b=b')\/(¬ Wm f a b/\¬ Wm f a' b')):f.X a b=f.X a' b'/\f.Y a b=f.Y a' b':=by
 rcases h with ⟨rfl,rfl⟩ | ⟨h1,h2⟩
 ·exact⟨rfl,rfl⟩
 ·exact⟨(ok.out _ _ h1).1.trans (ok.out _ _ h2).1.symm,(ok.out _ _ h1).2.trans (ok.out _ _ h2).2.symm⟩
theorem YO{f:VF}(ok:OkV f){x y:Int}(hx:ZS x)(hy:ZS y):S2 (f.X (N0 x) y) (f.X x (N0 y)) (f.X (TK x) (N0 y))=gX f x y/\S2 (f.Y (N0 x) y) (f.Y x (N0 y)) (f.Y (TK x) (N0 y))=gY f x y:=by
 have hw:=ok.w
 have hh:=ok.h
 have c1:=WA hx
 have c2:=WA hy
 have c3:=ay3 hx
 have a:=TX ok (a:=N0 x) (b:=y) (a':=x-1) (b':=y) (by unfold Wm;omega)
 have b:=TX ok (a:=x) (b:=N0 y) (a':=x) (b':=y-1) (by unfold Wm;omega)
 have c:=TX ok (a:=TK x) (b:=N0 y) (a':=x+1) (b':=y-1) (by unfold Wm;omega)
 unfold gX gY
 rw[a.1,a.2,b.1,b.2,c.1,c.2]
 exact⟨rfl,rfl⟩
theorem ayZ(v:Value)(f:VF)(x y:Int)(T_q:Nat->Prop)(w0:World)(hx:ZS x)(hy:ZS y)(h_q:PG w0 T_q v ((some f))) :
  Calls Tryz.prog 61 #[v,.int .i64 (x),.int .i64 (y)] w0 fun e w'=>e = .returned (.agg #[.int .i64 (gX f x y),.int .i64 (gY f x y)])/\KO (fun _=>False) w0 w':=by
 refine Lr (args:=[v,iv x,iv y]) 45 Tryz.func61 rfl rfl (Nat.le_of_ble_eq_true rfl) ?_
 have K0:=KO.refl (fun _=>False) w0
 have hgw:=YO h_q.ok hx hy
 have g_q:=KP.refl w0 T_q
 obtain⟨p,rfl,c,hT,hp,hr,hap,ok⟩:=h_q
 refine KJ (KH (LF (n:=2) (vs:=[iv 0,iv 0]) rfl rfl rfl (by kernel_rfl) fun p4 w5 B7 g8 k6=>?_))
 obtain⟨aw,az⟩:=NA k6 hp hr
 have aA:=K0.tr k6
 refine KM ?_
 have af:=K4 (pt p 0)
 have ai:=K4 (iv x)
 have aj:=K4 (iv y)
 have aY:=K4 (undef)
 have aZ:=K4 (pt p4 0)
 refine KG (KJ (KJ (KH (KR rfl rfl rfl af (KI (.bool false) rfl rfl (Ry rfl rfl rfl Tryz.underlying56 rr) (KM ?_))))))
 have a8:=K4 (.bool false)
 refine KG ?_
 refine K6 (t:=false) a8 (fun e=>by cases e) (fun _=>?_)
 refine Lg (KG (KJ (KH (KR rfl rfl rfl ai (KI (iv (N0 x)) rfl rfl (UA rfl rfl rfl rfl rr) (KR rfl rfl rfl aj (KI (.agg #[iv (N0 x),iv y]) rfl rfl (LZ (l':=[(0,iv (N0 x)),(1,iv y)]) (cells:=#[iv (N0 x),iv y]) rfl (S7 rfl (S7 rfl Rv)) (by kernel_rfl) rfl rr) (KR rfl rfl rfl ai (KR rfl rfl rfl aj (KI (iv (N0 y)) rfl rfl (UA rfl rfl rfl rfl rr) (KI (.agg #[iv x,iv (N0 y)]) rfl rfl (LZ (l':=[(0,iv x),(1,iv (N0 y))]) (cells:=#[iv x,iv (N0 y)]) rfl (S7 rfl (S7 rfl Rv)) (by kernel_rfl) rfl rr) ?_)))))))))))
 refine KR rfl rfl rfl ai (KI (iv (TK x)) rfl rfl (LP rfl rfl rfl rfl rr) (KR rfl rfl rfl aj (KI (iv (N0 y)) rfl rfl (UA rfl rfl rfl rfl rr) (KI (.agg #[iv (TK x),iv (N0 y)]) rfl rfl (LZ (l':=[(0,iv (TK x)),(1,iv (N0 y))]) (cells:=#[iv (TK x),iv (N0 y)]) rfl (S7 rfl (S7 rfl Rv)) (by kernel_rfl) rfl rr) (LF (n:=2) (vs:=[iv 0,iv 0]) rfl rfl rfl (by kernel_rfl) fun ak cq aB ah aC=>?_)))))
 obtain⟨a9,ba,bb⟩:=TD ah aw az B7
 obtain⟨aD,aE,aF⟩:=Nu aC aw az B7
 have aG:=aA.tr aC
 refine LF (n:=2) (vs:=[iv 0,iv 0]) rfl rfl rfl (by kernel_rfl) fun am cr aH aI aJ=>?_
 obtain⟨bc,bd,be,aK⟩:=Wj aI aD aE aF aB
 obtain⟨aL,aM,aN,aO⟩:=OV aJ aD aE aF aB
 have aP:=aG.tr aJ
 refine LF (n:=2) (vs:=[iv 0,iv 0]) rfl rfl rfl (by kernel_rfl) fun an ct bf aQ aR=>?_
 obtain⟨bg,bh,bi,aS,aT⟩:=azc aQ aL aM aN aO aH
 obtain⟨bj,bl,bm,bn,bo⟩:=OU aR aL aM aN aO aH
 refine Lj (us:=[iv (N0 x),iv y]) NZ rfl rfl rfl rfl rfl bn rfl (KX rfl (KX rfl MG)) fun cu bp aa=>?_
 have bq:=bj.all aa (a9.symm p rfl)
 have bt:=bl.all aa (ba.symm c rfl)
 have bu:=bm.all aa (bb.symm p4 rfl)
 have bv:=bo.all aa (aK am rfl)
 have bz:=bf.all aa (aS an rfl)
 refine Lj (us:=[iv x,iv (N0 y)]) NZ rfl rfl rfl rfl rfl bv rfl (KX rfl (KX rfl MG)) fun cv bA ab=>?_
 have bB:=bq.all ab (bc.symm p rfl)
 have bC:=bt.all ab (bd.symm c rfl)
 have bD:=bu.all ab (be.symm p4 rfl)
 have bE:=bp.all ab (aK.symm ak rfl)
 have bF:=bz.all ab (aT an rfl)
 refine Lj (us:=[iv (TK x),iv (N0 y)]) NZ rfl rfl rfl rfl rfl bF rfl (KX rfl (KX rfl MG)) fun cw bG ac=>?_
 have ao:=bB.all ac (bg.symm p rfl)
 have ap:=bC.all ac (bh.symm c rfl)
 have bH:=bD.all ac (bi.symm p4 rfl)
 have bI:=bE.all ac (aS.symm ak rfl)
 have bJ:=bA.all ac (aT.symm am rfl)
 have bK:=(((aP.tr aR).trans aa (KP.ok (S:=fun _=>False) (KP.new aA ah) K3)).trans ab (KP.ok (S:=fun _=>False) (KP.new aG aI) K3)).trans ac (KP.ok (S:=fun _=>False) (KP.new aP aQ) K3)
 refine KM ?_
 have bL:=K4 (pt ak 0)
 have bM:=K4 (pt am 0)
 have bN:=K4 (pt an 0)
 refine KG (KJ ?_)
 refine Na 19 [some 26,some 27,some 28,some 29,some 30,some 31,some 32,some 33,some 34,some 35,some 36,some 37,some 38,some 39,some 40,some 41,some 42,some 43,some 44] [Pd.eq (pt p 0),Pd.eq (pt p 0),Pd.eq (pt p 2),Pd.eq (.map (some c)),Pd.eq (.agg #[iv (N0 x),iv y]),Pd.eq (.agg #[iv (((Qt f) (N0 x) y).1),iv (((Qt f) (N0 x) y).2)]),Pd.eq (pt p 0),Pd.eq (pt p 0),Pd.eq (pt p 2),Pd.eq (.map (some c)),Pd.eq (.agg #[iv x,iv (N0 y)]),Pd.eq (.agg #[iv (((Qt f) x (N0 y)).1),iv (((Qt f) x (N0 y)).2)]),Pd.eq (pt p 0),Pd.eq (pt p 0),Pd.eq (pt p 2),Pd.eq (.map (some c)),Pd.eq (.agg #[iv (TK x),iv (N0 y)]),Pd.eq (.agg #[iv (((Qt f) (TK x) (N0 y)).1),iv (((Qt f) (TK x) (N0 y)).2)]),Pd.eq (.agg #[iv (S2 (((Qt f) (N0 x) y).1) (((Qt f) x (N0 y)).1) (((Qt f) (TK x) (N0 y)).1)),iv (S2 (((Qt f) (N0 x) y).2) (((Qt f) x (N0 y)).2) (((Qt f) (TK x) (N0 y)).2))])] (by kernel_rfl) (by kernel_rfl) (by kernel_rfl) ?_ ?_
 ·refine KL ?_ ?_
  ·refine La.one rfl fun F_ w_ hR hout hD=>?_
   exact(KQ rfl ((hout 0 rfl (by decide)).trans af) ⟨rfl,KO.refl _ _⟩)
  refine KL ?_ ?_
  ·refine La.one rfl fun F_ w_ hR hout hD=>?_
   have bO:F_ 26=pt p 0:=(hD.get 0 rfl rfl rfl)
   exact(Ol rfl bO ⟨rfl,KO.refl _ _⟩)
  refine KL ?_ ?_
  ·refine La.one rfl fun F_ w_ hR hout hD=>?_
   have bP:F_ 27=pt p 0:=(hD.get 0 rfl rfl rfl)
   exact(KU (n:=1) rfl bP Tryz.underlying136 rfl (by kernel_rfl) (by decide) rfl ⟨rfl,KO.refl _ _⟩)
  refine KL ?_ ?_
  ·refine La.one rfl fun F_ w_ hR hout hD=>?_
   have bQ:F_ 28=pt p 2:=(hD.get 0 rfl rfl rfl)
   exact(KY rfl bQ Tryz.underlying134 (ao.all hR id) rfl rfl ⟨rfl,KO.refl _ _⟩)
  refine KL ?_ ?_
  ·refine La.one rfl fun F_ w_ hR hout hD=>?_
   exact(KZ NZ rfl ((hout 7 rfl (by decide)).trans bL) (bI.all hR id) ⟨rfl,KO.refl _ _⟩)
  refine KL ?_ ?_
  ·refine La.one rfl fun F_ w_ hR hout hD=>?_
   have bR:F_ 29 = .map (some c):=(hD.get 0 rfl rfl rfl)
   have bS:F_ 30 = .agg #[iv (N0 x),iv y]:=(hD.get 1 rfl rfl rfl)
   exact(Xy (a:=N0 x) (b:=y) Qc Tryz.underlying134 (by kernel_rfl) rfl bR bS (ap.all hR id) ⟨rfl,KO.refl _ _⟩)
  refine KL ?_ ?_
  ·refine La.one rfl fun F_ w_ hR hout hD=>?_
   exact(KQ rfl ((hout 0 rfl (by decide)).trans af) ⟨rfl,KO.refl _ _⟩)
  refine KL ?_ ?_
  ·refine La.one rfl fun F_ w_ hR hout hD=>?_
   have bT:F_ 32=pt p 0:=(hD.get 0 rfl rfl rfl)
   exact(Ol rfl bT ⟨rfl,KO.refl _ _⟩)
  refine KL ?_ ?_
  ·refine La.one rfl fun F_ w_ hR hout hD=>?_
   have bU:F_ 33=pt p 0:=(hD.get 0 rfl rfl rfl)
   exact(KU (n:=1) rfl bU Tryz.underlying136 rfl (by kernel_rfl) (by decide) rfl ⟨rfl,KO.refl _ _⟩)
  refine KL ?_ ?_
  ·refine La.one rfl fun F_ w_ hR hout hD=>?_
   have ah:F_ 34=pt p 2:=(hD.get 0 rfl rfl rfl)
   exact(KY rfl ah Tryz.underlying134 (ao.all hR id) rfl rfl ⟨rfl,KO.refl _ _⟩)
  refine KL ?_ ?_
  ·refine La.one rfl fun F_ w_ hR hout hD=>?_
   exact(KZ NZ rfl ((hout 8 rfl (by decide)).trans bM) (bJ.all hR id) ⟨rfl,KO.refl _ _⟩)
  refine KL ?_ ?_
  ·refine La.one rfl fun F_ w_ hR hout hD=>?_
   have bV:F_ 35 = .map (some c):=(hD.get 0 rfl rfl rfl)
   have bW:F_ 36 = .agg #[iv x,iv (N0 y)]:=(hD.get 1 rfl rfl rfl)
   exact(Xy (a:=x) (b:=N0 y) Qc Tryz.underlying134 (by kernel_rfl) rfl bV bW (ap.all hR id) ⟨rfl,KO.refl _ _⟩)
  refine KL ?_ ?_
  ·refine La.one rfl fun F_ w_ hR hout hD=>?_
   exact(KQ rfl ((hout 0 rfl (by decide)).trans af) ⟨rfl,KO.refl _ _⟩)
  refine KL ?_ ?_
  ·refine La.one rfl fun F_ w_ hR hout hD=>?_
   have bX:F_ 38=pt p 0:=(hD.get 0 rfl rfl rfl)
   exact(Ol rfl bX ⟨rfl,KO.refl _ _⟩)
  refine KL ?_ ?_
  ·refine La.one rfl fun F_ w_ hR hout hD=>?_
   have bY:F_ 39=pt p 0:=(hD.get 0 rfl rfl rfl)
   exact(KU (n:=1) rfl bY Tryz.underlying136 rfl (by kernel_rfl) (by decide) rfl ⟨rfl,KO.refl _ _⟩)
  refine KL ?_ ?_
  ·refine La.one rfl fun F_ w_ hR hout hD=>?_
   have bZ:F_ 40=pt p 2:=(hD.get 0 rfl rfl rfl)
   exact(KY rfl bZ Tryz.underlying134 (ao.all hR id) rfl rfl ⟨rfl,KO.refl _ _⟩)
  refine KL ?_ ?_
  ·refine La.one rfl fun F_ w_ hR hout hD=>?_
   exact(KZ NZ rfl ((hout 9 rfl (by decide)).trans bN) (bG.all hR id) ⟨rfl,KO.refl _ _⟩)
  refine KL ?_ ?_
  ·refine La.one rfl fun F_ w_ hR hout hD=>?_
   have b7:F_ 41 = .map (some c):=(hD.get 0 rfl rfl rfl)
   have b8:F_ 42 = .agg #[iv (TK x),iv (N0 y)]:=(hD.get 1 rfl rfl rfl)
   exact(Xy (a:=TK x) (b:=N0 y) Qc Tryz.underlying134 (by kernel_rfl) rfl b7 b8 (ap.all hR id) ⟨rfl,KO.refl _ _⟩)
  refine KL ?_ ?_
  ·refine La.one rfl fun F_ w_ hR hout hD=>?_
   have b9:F_ 31 = .agg #[iv (((Qt f) (N0 x) y).1),iv (((Qt f) (N0 x) y).2)]:=(hD.get 0 rfl rfl rfl)
   have cd:F_ 37 = .agg #[iv (((Qt f) x (N0 y)).1),iv (((Qt f) x (N0 y)).2)]:=(hD.get 1 rfl rfl rfl)
   have ce:F_ 43 = .agg #[iv (((Qt f) (TK x) (N0 y)).1),iv (((Qt f) (TK x) (N0 y)).2)]:=(hD.get 2 rfl rfl rfl)
   exact(LH rfl rfl rfl (fun _ _=>by kernel_rfl) (K5 _) (Lk b9 (Lk cd (Lk ce LR))) (ayS (((Qt f) (N0 x) y).1) (((Qt f) (N0 x) y).2) (((Qt f) x (N0 y)).1) (((Qt f) x (N0 y)).2) (((Qt f) (TK x) (N0 y)).1) (((Qt f) (TK x) (N0 y)).2)  _   ) (fun e_ w_ h_=>⟨_,h_.1,rfl,h_.2⟩))
  exact L0
 intro cy cf cz aU aV aq
 have cg:=bH.all aU id
 obtain⟨ci,aW⟩:=t2 aq 45 aY 6 aZ
 have cj:cf 44 = .agg #[iv (S2 (((Qt f) (N0 x) y).1) (((Qt f) x (N0 y)).1) (((Qt f) (TK x) (N0 y)).1)),iv (S2 (((Qt f) (N0 x) y).2) (((Qt f) x (N0 y)).2) (((Qt f) (TK x) (N0 y)).2))]:=(aq 44).trans (aV 18 (by decide))
 clear aV aq
 refine Lj (us:=[iv (S2 (((Qt f) (N0 x) y).1) (((Qt f) x (N0 y)).1) (((Qt f) (TK x) (N0 y)).1)),iv (S2 (((Qt f) (N0 x) y).2) (((Qt f) x (N0 y)).2) (((Qt f) (TK x) (N0 y)).2))]) LO rfl rfl rfl aW cj cg rfl (KX rfl (KX rfl MG)) fun cB cm cn=>?_
 refine KM ?_
 refine KG (Lb ?_)
 exact O2 (vs:=[iv (S2 (((Qt f) (N0 x) y).1) (((Qt f) x (N0 y)).1) (((Qt f) (TK x) (N0 y)).1)),iv (S2 (((Qt f) (N0 x) y).2) (((Qt f) x (N0 y)).2) (((Qt f) (TK x) (N0 y)).2))]) LO ci rfl rfl aW cm ⟨(by first|rfl|exact congrArg _ (by rw[← hgw.1,← hgw.2];rfl)),((bK.tr aU).trans cn (KP.ok (S:=fun _=>False) (KP.new K0 g8) K3))⟩
end Go.Proofs.YtknjpdcpmpfklaaGreatDoor
set_option maxRecDepth 100000
namespace Go.Proofs.YtknjpdcpmpfklaaGreatDoor
open Go.RowKit
def tR(R:List (Nat×Option Nat)):Nat->Prop:=fun i=>∃ x∈R,i=x.1
def PJ(w:World)(T:Nat->Prop)(q:Nat)(l:List Nat)(st:Option Nat)(R:List (Nat×Option Nat)):Prop :=
 Pa l/\∃ g,(∀ i,T i↔(Lf q i\/Lf g i\/tR R i))/\(q::R.map (·.1)).Nodup/\Q7 w q g l st/\∀ x∈R,Q7 w x.1 g l x.2
theorem PJ.live{w:World}{T:Nat->Prop}{q:Nat}{l:List Nat}{st:Option Nat}{R:List (Nat×Option Nat)}(h:PJ w T q l st R):Pe w T:=by
 obtain⟨_,g,hT,_,h1,h2⟩:=h
 intro i hi
 rcases (hT i).1 hi with e|e | ⟨x,hx,e⟩
 ·cases e;exact h1.lt.1
 ·cases e;exact h1.lt.2.1
 ·subst e;exact(h2 x hx).lt.1
theorem PJ.all{S:Nat->Prop}{w w':World}{T:Nat->Prop}{q:Nat}{l:List Nat}{st:Option Nat}{R:List (Nat×Option Nat)}(h:PJ w T q l st R)(k:KO S w w')(ha:KK T S):PJ w' T q l st R:=by
 obtain⟨hf,g,hT,hn,h1,h2⟩:=h
 have nq:=ha q ((hT q).2 (.inl rfl))
 have ng:=ha g ((hT g).2 (.inr (.inl rfl)))
 exact⟨hf,g,hT,hn,h1.kept k nq ng,fun x hx=>(h2 x hx).kept k (ha x.1 ((hT _).2 (.inr (.inr ⟨x,hx,rfl⟩)))) ng⟩
instance {w w':World} {T:Nat->Prop} {q:Nat} {l:List Nat} {st:Option Nat} {R:List (Nat×Option Nat)}:Cr w w' (PJ w T q l st R) (PJ w' T q l st R):=⟨fun h k=>h.all k KK.none⟩
instance {w:World} {T:Nat->Prop} {q:Nat} {l:List Nat} {st:Option Nat} {R:List (Nat×Option Nat)}:Lv w (PJ w T q l st R) (T):=⟨fun h=>h.live⟩
def ZH(w:World)(T:Nat->Prop)(R:List (Nat×Option Nat))(g:Nat)(l:List Nat):Prop :=
 T=tR R/\(R.map (·.1)).Nodup/\∀ x∈R,g≠x.1/\∃ (a:Nat) (b:Bool),okR l x.2 a b/\Mz w x.1 106 [.slice (some ⟨g,0,none⟩) l.length l.length,.int .i64 (a:Int),.bool b]
theorem ZH.live{w:World}{T:Nat->Prop}{R:List (Nat×Option Nat)}{g:Nat}{l:List Nat}(h:ZH w T R g l):Pe w T:=by
 obtain⟨rfl,_,h⟩:=h
 rintro i ⟨x,hx,rfl⟩
 obtain⟨_,a,b,_,hs⟩:=h x hx
 exact MJ hs
theorem ZH.all{S:Nat->Prop}{w w':World}{T:Nat->Prop}{R:List (Nat×Option Nat)}{g:Nat}{l:List Nat}(h:ZH w T R g l)(k:KO S w w')(ha:KK T S):ZH w' T R g l:=by
 obtain⟨rfl,hn,h⟩:=h
 refine⟨rfl,hn,fun x hx=>?_⟩
 obtain⟨hg,a,b,ho,hs⟩:=h x hx
 exact⟨hg,a,b,ho,hs.all k (ha x.1 ⟨x,hx,rfl⟩)⟩
instance {w w':World} {T:Nat->Prop} {R:List (Nat×Option Nat)} {g:Nat} {l:List Nat}:Cr w w' (ZH w T R g l) (ZH w' T R g l):=⟨fun h k=>h.all k KK.none⟩
instance {w:World} {T:Nat->Prop} {R:List (Nat×Option Nat)} {g:Nat} {l:List Nat}:Lv w (ZH w T R g l) (T):=⟨fun h=>h.live⟩
theorem aAo{w:World}{T:Nat->Prop}{q:Nat}{l:List Nat}{st:Option Nat}{R:List (Nat×Option Nat)}(h:PJ w T q l st R):∃ (g a:Nat) (b:Bool),Pa l/\(∀ i,T i↔(Lf q i\/Lf g i\/tR R i))/\okR l st a b ∧
  Mz w q 106 [.slice (some ⟨g,0,none⟩) l.length l.length,.int .i64 (a:Int),.bool b]/\Xr w (Lf g) g l/\ZH w (tR R) R g l/\KK (Lf q) (Lf g)/\KK (Lf q) (tR R)/\KK (Lf g) (tR R):=by
 obtain⟨hf,g,hT,hn,h1,h2⟩:=h
 obtain⟨a,b,u1,u2,u3,u4⟩:=P7 h1
 refine⟨g,a,b,hf,hT,u1,u2,u3,⟨rfl,(List.nodup_cons.1 hn).2,fun x hx=>?_⟩,u4,?_,?_⟩
 ·obtain⟨c,d,v1,v2,v3,v4⟩:=P7 (h2 x hx)
  exact⟨(h2 x hx).lt.2.2,c,d,v1,v2⟩
 ·rintro i e ⟨x,hx,e2⟩
  cases e
  exact(List.nodup_cons.1 hn).1 (e2 ▸ List.mem_map.2 ⟨x,hx,rfl⟩)
 ·rintro i e ⟨x,hx,e2⟩
  cases e
  exact(h2 x hx).lt.2.2 e2
theorem aAG{w:World}{T:Nat->Prop}{R:List (Nat×Option Nat)}{g:Nat}{l:List Nat}(h:ZH w T R g l)(hg:Xr w (Lf g) g l):∀ x∈R,Q7 w x.1 g l x.2:=fun x hx=>by
 obtain⟨_,_,h⟩:=h
 obtain⟨hne,a,b,ho,hs⟩:=h x hx
 exact Qs ho hs hg (fun i e1 e2=>hne (e2.symm.trans e1))
theorem P9{w:World}{q g:Nat}{l:List Nat}{st:Option Nat}{a:Nat}{b:Bool}{R:List (Nat×Option Nat)}{T1:Nat->Prop}(hf:Pa l)(ho:okR l st a b)(h1:Mz w q 106 [.slice (some ⟨g,0,none⟩) l.length l.length,.int .i64 (a:Int),.bool b])(h2:Xr w (Lf g) g l)(h3:ZH w T1 R g l)(a1:KK (Lf q) (Lf g))(a2:KK (Lf q) T1) :
  PJ w (fun i=>Lf q i\/Lf g i\/T1 i) q l st R:=by
 obtain⟨rfl,hn,h4⟩:=h3
 refine⟨hf,g,fun _=>Iff.rfl,List.nodup_cons.2 ⟨fun hm=>?_,hn⟩,Qs ho h1 h2 a1,aAG ⟨rfl,hn,h4⟩ h2⟩
 obtain⟨x,hx,e⟩:=List.mem_map.1 hm
 exact a2 q rfl ⟨x,hx,e.symm⟩
theorem XT{w:World}{q c g:Nat}{l:List Nat}{st:Option Nat}{a:Nat}{b:Bool}{R:List (Nat×Option Nat)}{T1:Nat->Prop}(hf:Pa l)(ho:okR l st a b)(h1:Mz w q 106 [.slice (some ⟨g,0,none⟩) l.length l.length,.int .i64 (a:Int),.bool b])(h2:Mz w c 106 [.slice (some ⟨g,0,none⟩) l.length l.length,.int .i64 (a:Int),.bool b])(h3:Xr w (Lf g) g l)(h4:ZH w T1 R g l)
  (a1:KK (Lf q) (Lf c)) (a2:KK (Lf q) (Lf g)) (a3:KK (Lf q) T1) (a4:KK (Lf c) (Lf g)) (a5:KK (Lf c) T1):PJ w (fun i=>Lf q i\/Lf c i\/Lf g i\/T1 i) c l st ((q,st)::R):=by
 obtain⟨rfl,hn,h5⟩:=h4
 refine⟨hf,g,fun i=>?_,?_,Qs ho h2 h3 a4,fun x hx=>?_⟩
 ·have e:tR ((q,st)::R) i↔(Lf q i\/tR R i):=by
   unfold tR Lf;simp
  rw[e]
  constructor
  ·rintro (h|h|h|h)
   ·exact .inr (.inr (.inl h))
   ·exact .inl h
   ·exact .inr (.inl h)
   ·exact .inr (.inr (.inr h))
  ·rintro (h|h|h|h)
   ·exact .inr (.inl h)
   ·exact .inr (.inr (.inl h))
   ·exact .inl h
   ·exact .inr (.inr (.inr h))
 ·refine List.nodup_cons.2 ⟨fun hm=>?_,List.nodup_cons.2 ⟨fun hm=>?_,hn⟩⟩
  ·rcases List.mem_cons.1 hm with e|hm
   ·exact a1 q rfl e.symm
   ·obtain⟨x,hx,e⟩:=List.mem_map.1 hm;exact a5 c rfl ⟨x,hx,e.symm⟩
  ·obtain⟨x,hx,e⟩:=List.mem_map.1 hm;exact a3 q rfl ⟨x,hx,e.symm⟩
 ·rcases List.mem_cons.1 hx with rfl|hx
  ·exact Qs ho h1 h3 a2
  ·exact aAG ⟨rfl,hn,h5⟩ h3 x hx
theorem aB0(w:World)(g:Nat)(l:List Nat):ZH w (tR []) [] g l:=⟨rfl,List.nodup_nil,fun x hx=>by cases hx⟩
theorem ayT{w:World}{q c g:Nat}{l:List Nat}{st:Option Nat}{a:Nat}{b:Bool}(hf:Pa l)(ho:okR l st a b)(h1:Mz w q 106 [.slice (some ⟨g,0,none⟩) l.length l.length,.int .i64 (a:Int),.bool b])(h2:Mz w c 106 [.slice (some ⟨g,0,none⟩) l.length l.length,.int .i64 (a:Int),.bool b])(h3:Xr w (Lf g) g l)
  (a1:KK (Lf q) (Lf c)) (a2:KK (Lf q) (Lf g)) (a4:KK (Lf c) (Lf g)):PJ w (fun i=>Lf q i\/Lf c i\/Lf g i) c l st [(q,st)]:=by
 have no:∀ {T:Nat->Prop},KK T (tR []):=fun i _ h=>by obtain⟨x,hx,_⟩:=h;cases hx
 obtain⟨_,g',hT,hn,h5,h6⟩:=XT hf ho h1 h2 h3 (aB0 w g l) a1 a2 no a4 no
 refine⟨hf,g',fun i=>?_,hn,h5,h6⟩
 have e:¬ tR [] i:=fun h=>by obtain⟨x,hx,_⟩:=h;cases hx
 rw[← hT i]
 constructor
 ·rintro (h|h|h)
  ·exact .inl h
  ·exact .inr (.inl h)
  ·exact .inr (.inr (.inl h))
 ·rintro (h|h|h|h)
  ·exact .inl h
  ·exact .inr (.inl h)
  ·exact .inr (.inr h)
  ·exact absurd h e
theorem US{w:World}{T:Nat->Prop}{q c:Nat}{l:List Nat}{st1 st:Option Nat}{R:List (Nat×Option Nat)}(h:PJ w T c l st ((q,st1)::R)):∃ (g a1:Nat) (b1:Bool) (a2:Nat) (b2:Bool),Pa l/\(∀ i,T i↔(Lf q i\/Lf c i\/Lf g i\/tR R i))/\okR l st1 a1 b1/\okR l st a2 b2 ∧
  Mz w q 106 [.slice (some ⟨g,0,none⟩) l.length l.length,.int .i64 (a1:Int),.bool b1]/\Mz w c 106 [.slice (some ⟨g,0,none⟩) l.length l.length,.int .i64 (a2:Int),.bool b2]/\Xr w (Lf g) g l/\ZH w (tR R) R g l ∧
  KK (Lf q) (Lf c)/\KK (Lf q) (Lf g)/\KK (Lf q) (tR R)/\KK (Lf c) (Lf g)/\KK (Lf c) (tR R)/\KK (Lf g) (tR R):=by
 obtain⟨hf,g,hT,hn,h1,h2⟩:=h
 have e:∀ i,tR ((q,st1)::R) i↔(Lf q i\/tR R i):=fun i=>by unfold tR Lf;simp
 obtain⟨n1,n2⟩:=List.nodup_cons.1 hn
 obtain⟨n3,n4⟩:=List.nodup_cons.1 n2
 obtain⟨a1,b1,u1,u2,u3,u4⟩:=P7 (h2 (q,st1) (List.mem_cons_self ..))
 obtain⟨a2,b2,v1,v2,v3,v4⟩:=P7 h1
 have hR:∀ x∈R,Q7 w x.1 g l x.2:=fun x hx=>h2 x (List.mem_cons_of_mem _ hx)
 refine⟨g,a1,b1,a2,b2,hf,fun i=>?_,u1,v1,u2,v2,u3,⟨rfl,n4,fun x hx=>?_⟩,?_,u4,?_,v4,?_,?_⟩
 ·rw[hT i,e i]
  constructor
  ·rintro (h|h|h|h)
   ·exact .inr (.inl h)
   ·exact .inr (.inr (.inl h))
   ·exact .inl h
   ·exact .inr (.inr (.inr h))
  ·rintro (h|h|h|h)
   ·exact .inr (.inr (.inl h))
   ·exact .inl h
   ·exact .inr (.inl h)
   ·exact .inr (.inr (.inr h))
 ·obtain⟨c1,d1,w1,w2,_,_⟩:=P7 (hR x hx)
  exact⟨(hR x hx).lt.2.2,c1,d1,w1,w2⟩
 ·intro i e1 e2
  exact n1 (List.mem_cons.2 (.inl (e2.symm.trans e1)))
 ·rintro i e1 ⟨x,hx,e2⟩
  cases e1
  exact n3 (List.mem_map.2 ⟨x,hx,e2.symm⟩)
 ·rintro i e1 ⟨x,hx,e2⟩
  cases e1
  exact n1 (List.mem_cons.2 (.inr (List.mem_map.2 ⟨x,hx,e2.symm⟩)))
 ·rintro i e1 ⟨x,hx,e2⟩
  cases e1
  exact(hR x hx).lt.2.2 e2
theorem NS{w:World}{T:Nat->Prop}{q c:Nat}{l:List Nat}{st1 st:Option Nat}(h:PJ w T c l st [(q,st1)]):∃ (g a1:Nat) (b1:Bool) (a2:Nat) (b2:Bool),Pa l/\(∀ i,T i↔(Lf q i\/Lf c i\/Lf g i))/\okR l st1 a1 b1/\okR l st a2 b2 ∧
  Mz w q 106 [.slice (some ⟨g,0,none⟩) l.length l.length,.int .i64 (a1:Int),.bool b1]/\Mz w c 106 [.slice (some ⟨g,0,none⟩) l.length l.length,.int .i64 (a2:Int),.bool b2]/\Xr w (Lf g) g l ∧
  KK (Lf q) (Lf c)/\KK (Lf q) (Lf g)/\KK (Lf c) (Lf g):=by
 obtain⟨g,a1,b1,a2,b2,hf,hT,u1,v1,u2,v2,u3,_,p1,p2,_,p4,_,_⟩:=US h
 refine⟨g,a1,b1,a2,b2,hf,fun i=>?_,u1,v1,u2,v2,u3,p1,p2,p4⟩
 have e:¬ tR [] i:=fun h=>by obtain⟨x,hx,_⟩:=h;cases hx
 rw[hT i]
 constructor
 ·rintro (h|h|h|h)
  ·exact .inl h
  ·exact .inr (.inl h)
  ·exact .inr (.inr h)
  ·exact absurd h e
 ·rintro (h|h|h)
  ·exact .inl h
  ·exact .inr (.inl h)
  ·exact .inr (.inr (.inl h))
theorem Ws{w w':World}{T:Nat->Prop}{q g:Nat}{l:List Nat}{st:Option Nat}{R:List (Nat×Option Nat)}{r:Int×Option Nat}{e:Ending}(hf:Pa l)(hT:∀ i,T i↔(Lf q i\/Lf g i\/tR R i))(hn:(q::R.map (·.1)).Nodup)(h1:Q7 w q g l st)(h2:∀ x∈R,Q7 w x.1 g l x.2)(hd:SY w q g l r e w') :
  ∃ (T_r':Nat->Prop),e = .returned (.int .i64 r.1)/\KO T w w'/\(PJ w' T_r' q l r.2 R/\KP w T T_r'):=by
 obtain⟨k1,k2,k3⟩:=hd
 refine⟨T,k1,k3.mono (fun _ _ z=>(hT _).2 (.inl z)),⟨hf,g,hT,hn,k2,fun x hx=>(h2 x hx).kept k3 (fun z=>?_) h1.lt.2.2⟩,KP.refl _ _⟩
 exact(List.nodup_cons.1 hn).1 (z ▸ List.mem_map.2 ⟨x,hx,rfl⟩)
theorem SP(q:Nat)(l:List Nat)(st:Option Nat)(R:List (Nat×Option Nat))(m:Int)(T_r:Nat->Prop)(w0:World)(h_r:PJ w0 T_r q l st R) :
  Calls Tryz.prog 132 #[.pointer (some ⟨q,0,none⟩),.int .i64 m] w0 fun e w'=>∃ (T_r':Nat->Prop),e = .returned (.int .i64 (Ll (LK l m) st).1)/\KO T_r w0 w'/\(PJ w' T_r' q l (Ll (LK l m) st).2 R/\KP w0 T_r T_r'):=by
 obtain⟨hf,g,hT,hn,h1,h2⟩:=h_r
 exact(Yk q g l st m w0 hf h1).mono fun _ _ hd=>Ws hf hT hn h1 h2 hd
theorem Ug(q:Nat)(l:List Nat)(st:Option Nat)(R:List (Nat×Option Nat))(m:Int)(T_r:Nat->Prop)(w0:World)(h_r:PJ w0 T_r q l st R) :
  Calls Tryz.prog 96 #[.pointer (some ⟨q,0,none⟩),.int .i64 m] w0 fun e w'=>∃ (T_r':Nat->Prop),e = .returned (.int .i64 (Ll (Lw l m) st).1)/\KO T_r w0 w'/\(PJ w' T_r' q l (Ll (Lw l m) st).2 R/\KP w0 T_r T_r'):=by
 obtain⟨hf,g,hT,hn,h1,h2⟩:=h_r
 exact(Zt q g l st m w0 hf h1).mono fun _ _ hd=>Ws hf hT hn h1 h2 hd
theorem RF(q:Nat)(l:List Nat)(st:Option Nat)(R:List (Nat×Option Nat))(T_r:Nat->Prop)(w0:World)(h_r:PJ w0 T_r q l st R) :
  Calls Tryz.prog 98 #[.pointer (some ⟨q,0,none⟩)] w0 fun e w'=>e = .returned (.bool (st.isNone))/\KO (fun _=>False) w0 w':=by
 obtain⟨hf,g,hT,hn,h1,h2⟩:=h_r
 exact(aBt q g l st w0 h1).mono fun _ _ ⟨e,hw⟩=>by subst hw;exact⟨e,KO.refl _ _⟩
theorem Vu(p:Nat)(l:List Nat)(st:Option Nat)(R:List (Nat×Option Nat))(A B:Int)(T_r:Nat->Prop)(w0:World)(h_r:PJ w0 T_r p (l) (st) (R)) :
  Calls Tryz.prog 100 #[.pointer (some ⟨p,0,none⟩),.agg #[.int .i64 (A),.int .i64 (B)]] w0 fun e w'=>∃ (T_r':Nat->Prop),e = .returned (.tuple #[.agg #[.int .i64 (Rh l A B st),.int .i64 (Ri l A B st)],.int .i64 (PN l A B st)])/\KO (T_r) w0 w'/\(PJ w' T_r' p (l) (MQ l A B st) (R)/\KP w0 T_r T_r'):=by
 refine Lr (args:=[pt p 0,.agg #[iv A,iv B]]) 37 Tryz.func100 rfl rfl (Nat.le_of_ble_eq_true rfl) ?_
 have h1:=aEp A
 have h2:=aEp B
 have h3:=aAT l st
 have h4:=aAT l (Ob l st).2
 have g_r:=KP.refl w0 T_r
 refine KJ (KH (Lz (vs:=[iv A,iv B]) rfl rfl rfl rfl fun p1 w2 B4 g5 k3=>?_))
 have B8:=h_r.all k3 KK.none
 have K9:=(KO.refl T_r w0).tr k3
 refine LF (n:=2) (vs:=[iv 0,iv 0]) rfl rfl rfl (by kernel_rfl) fun ac eB aV aW aX=>?_
 have aB:=KP.new K9 aW
 have aC:=KK.new aW B8.live
 obtain⟨cq,aY⟩:=NA aX B8 B4
 have aZ:=K9.tr aX
 refine KI (iv 0) rfl rfl (KS rfl rfl rr) (KM ?_)
 have aD:=K4 (pt p 0)
 have cr:=K4 (undef)
 have ct:=K4 (pt p1 0)
 have cu:=K4 (pt ac 0)
 refine KG (KJ (KJ (KH (KR rfl rfl rfl aD (KI (.bool false) rfl rfl (Ry rfl rfl rfl Tryz.underlying54 rr) (KM ?_))))))
 have cv:=K4 (.bool false)
 refine KG ?_
 refine K6 (t:=false) cv (fun e=>by cases e) (fun _=>?_)
 refine Lg (KG (KJ ?_))
 obtain⟨g,a,b,hf,hT,hok,hp,hg,hr,hap,hap2,hap3⟩:=aAo cq
 have cw:KP w0 T_r (Lf p):=fun i h=>g_r i ((fun i h=>(hT i).2 (Or.inl h)) i h)
 have cy:KK (Lf p) (Lf ac):=fun i h=>aC.symm i ((fun i h=>(hT i).2 (Or.inl h)) i h)
 have cz:KP w0 T_r (Lf g):=fun i h=>g_r i ((fun i h=>(hT i).2 (Or.inr (Or.inl h))) i h)
 have cA:KK (Lf g) (Lf ac):=fun i h=>aC.symm i ((fun i h=>(hT i).2 (Or.inr (Or.inl h))) i h)
 have cB:KP w0 T_r (tR R):=fun i h=>g_r i ((fun i h=>(hT i).2 (Or.inr (Or.inr h))) i h)
 have cC:KK (tR R) (Lf ac):=fun i h=>aC.symm i ((fun i h=>(hT i).2 (Or.inr (Or.inr h))) i h)
 have cD:KK (Lf p) (Lf g):=hap
 have cE:KK (Lf p) (tR R):=hap2
 refine KH (KR rfl rfl rfl aD (KI (pt p 0) rfl rfl (Ol rfl rfl rr) (KI (.agg #[.slice (some ⟨g,0,none⟩) l.length l.length,iv ((a:Nat):Int),.bool b]) rfl rfl (KZ ML rfl rfl hp rr) (LF (n:=3) (vs:=[.slice none 0 0,iv ((0:Nat):Int),.bool false]) rfl rfl rfl (by kernel_rfl) fun ae eC cF a8 a9=>?_))))
 have ba:=KP.new aZ a8
 obtain⟨cG,bb,bc,bd,be⟩:=azc a8 aY aV hp hg hr
 obtain⟨cH,cI,cJ,cK,cL⟩:=OU a9 aY aV hp hg hr
 refine Lj (us:=[.slice (some ⟨g,0,none⟩) l.length l.length,iv ((a:Nat):Int),.bool b]) ML rfl rfl rfl rfl rfl cF rfl (KX rfl (KX rfl (KX rfl MG))) fun cM cN aj=>?_
 have cO:=cH.all aj (cG.symm p1 rfl)
 have cP:=cI.all aj (bb.symm ac rfl)
 have cQ:=cJ.all aj (bc.symm p rfl)
 have cR:=cK.all aj bd.symm
 have cS:=cL.all aj be.symm
 refine KM ?_
 have bf:=K4 (pt ae 0)
 refine KG (KJ ?_)
 have cT:PJ cM (fun i=>(Lf p) i\/((Lf ae) i\/((Lf g) i\/((tR R) i)))) ae l st (List.cons (p,st) R):=XT hf hok cQ cN cR cS bc.symm cD cE bd be
 have bg:KP w0 T_r (fun i=>(Lf p) i\/((Lf ae) i\/((Lf g) i\/((tR R) i)))):=fun i h=>h.elim (fun y=>cw i y) (fun y=>y.elim (fun y=>(KP.weak ba (fun _ z=>z.elim)) i y) (fun y=>y.elim (fun y=>cz i y) (fun y=>cB i y)))
 have bh:KK (fun i=>(Lf p) i\/((Lf ae) i\/((Lf g) i\/((tR R) i)))) (Lf ac):=fun i h=>h.elim (fun y=>cy i y) (fun y=>y.elim (fun y=>bb i y) (fun y=>y.elim (fun y=>cA i y) (fun y=>cC i y)))
 refine KH (KI (.agg #[iv A,iv B]) rfl rfl (KZ LO rfl ct cO rr) (LW rfl rfl rfl rfl rfl (fun _ _=>by kernel_rfl) (Lk rfl LR) (aCq A B  _   ) fun eD bi=>?_))
 obtain⟨bj,bl⟩:=NA bi cP cT
 have bm:=((aZ.tr a9).trans aj (KP.ok (S:=T_r) ba K3)).tr bi
 refine LF (n:=2) (vs:=[iv 0,iv 0]) rfl rfl rfl (by kernel_rfl) fun aa eE cU bn bo=>?_
 have aE:=KP.new bm bn
 obtain⟨aF,bp⟩:=TQ bn bj bl
 obtain⟨cV,cW⟩:=NA bo bj bl
 refine Lj (us:=[iv (cl 64 A),iv (cl 64 B)]) LO rfl rfl rfl rfl rfl cU rfl (KX rfl (KX rfl MG)) fun cX cY aG=>?_
 have bq:=cV.all aG (aF.symm ac rfl)
 have cZ:=cW.all aG bp.symm
 have bt:=(bm.tr bo).trans aG (KP.ok (S:=T_r) aE K3)
 refine KM ?_
 have aH:=K4 (pt aa 0)
 refine KG (KJ ?_)
 refine YH (S:=fun i=>(fun i=>(Lf p) i\/((Lf ae) i\/((Lf g) i\/((tR R) i)))) i\/((Lf aa) i)) [(5,1)] [some 16,some 17,some 18,some 19,some 20,none] [Pt.eq (pt aa 0),Pt.eq (iv (cl 64 A)),Pt.thg ⟨fun w_=>PJ w_ (fun i=>(Lf p) i\/((Lf ae) i\/((Lf g) i\/((tR R) i)))) ae l st (List.cons (p,st) R),fun i=>(Lf p) i\/((Lf ae) i\/((Lf g) i\/((tR R) i))),fun T_ w_=>PJ w_ T_ ae l ((Ll (LK l 128) st).2) (List.cons (p,st) R),fun _ _ _ h_ k_ ha_=>h_.all k_ ha_,fun _ _ _ _ h_ k_ ha_=>h_.all k_ ha_,fun _ h_=>h_.live,fun _ _ h_=>h_.live⟩ (iv ((Ob l st).1)),Pt.eq (iv ((Ob l st).1+cl 64 A)),Pt.eq (pt aa 0),Pt.thg (azN aa 67 [iv (cl 64 A),iv (cl 64 B)] [iv ((Ob l st).1+cl 64 A),iv (cl 64 B)]) undef] (by kernel_rfl) (by kernel_rfl) (by kernel_rfl) rfl (SD.old ⟨⟨fun _ x_=>Or.inl x_,cZ,⟨bp.symm,trivial⟩⟩,⟨⟨fun _ x_=>Or.inr x_,cY,trivial⟩,trivial⟩⟩) ?_ ?_
 ·refine MP ?_ ?_
  ·refine Nz.one rfl fun F_ w_ hR hout hD=>?_
   exact(KU (n:=1) rfl ((hout 7 rfl (by decide)).trans aH) Tryz.underlying67 rfl (by kernel_rfl) (by decide) rfl ⟨rfl,KO.refl _ _⟩)
  refine MP ?_ ?_
  ·refine Nz.oneA rfl fun F_ w_ hR hout hD hA_=>?_
   have c5:F_ 16=pt aa 0:=(hD.get 0 rfl rfl rfl).1
   have hA5_:Mz w_ aa 67 [iv (cl 64 A),iv (cl 64 B)]:=hA_ 5 _ _ (by decide) rfl
   exact(KY rfl c5 Tryz.underlying3 hA5_ rfl rfl ⟨rfl,KO.refl _ _⟩)
  refine MP ?_ ?_
  ·refine Nz.turn rfl rfl fun F_ w_ hR hout hD hA_=>?_
   exact(LH rfl rfl rfl (fun _ _=>by kernel_rfl) (K5 _) (Lk ((hout 6 rfl (by decide)).trans bf) (Lk rfl LR)) (SP ae l st (List.cons (p,st) R) 128 (fun i=>(Lf p) i\/((Lf ae) i\/((Lf g) i\/((tR R) i)))) _  hA_ ) (fun e_ w_ h_=>by obtain⟨_,he_,k_,hb_,hg_⟩:=h_;exact⟨_,he_,rfl,k_,_,hb_,hg_⟩))
  refine MP ?_ ?_
  ·refine Nz.one rfl fun F_ w_ hR hout hD=>?_
   have c6:F_ 17=iv (cl 64 A):=(hD.get 0 rfl rfl rfl).1
   have c7:F_ 18=iv ((Ob l st).1):=(hD.get 1 rfl rfl rfl).1
   exact(LP rfl c6 c7 (by rw[Int.add_comm,IntKind.wrap_i64];omega) ⟨rfl,KO.refl _ _⟩)
  refine MP ?_ ?_
  ·refine Nz.one rfl fun F_ w_ hR hout hD=>?_
   exact(KU (n:=1) rfl ((hout 7 rfl (by decide)).trans aH) Tryz.underlying67 rfl (by kernel_rfl) (by decide) rfl ⟨rfl,KO.refl _ _⟩)
  refine MP ?_ ?_
  ·refine Nz.turn rfl rfl fun F_ w_ hR hout hD hA_=>?_
   have c9:F_ 20=pt aa 0:=(hD.get 0 rfl rfl rfl).1
   have da:F_ 19=iv ((Ob l st).1+cl 64 A):=(hD.get 1 rfl rfl rfl).1
   exact PA rfl c9 da hA_ rfl rfl (by kernel_rfl) fun w2_ b_ k_=>⟨rfl,k_,_,⟨rfl,b_⟩,KP.refl _ _⟩
  exact Us
 intro eF bu eG aI bv db am bz bA
 have bB:=bq.all bv (fun x=>(x.elim (fun y=>((bh.symm) ac rfl y)) (fun y=>((aF.symm) ac rfl y))))
 have bC:=bt.trans bv (fun i hi x=>(x.elim (fun y=>((KP.ok (S:=T_r) bg (fun _ x=>x)) i hi y)) (fun y=>((KP.ok (S:=T_r) aE K3) i hi y))))
 obtain⟨ai,aJ⟩:∃ T_,T_=bu 2:=⟨_,rfl⟩
 have dc:PJ aI ai ae l ((Ll (LK l 128) st).2) (List.cons (p,st) R):=by rw[aJ];exact(am 2 _ _ rfl).1
 have bD:KP cX (fun i=>(Lf p) i\/((Lf ae) i\/((Lf g) i\/((tR R) i)))) ai:=by rw[aJ];exact(am 2 _ _ rfl).2
 have bE:=bg.trans bt bD
 have bF:=bh.grew bD (LT bq.lt)
 have dd:Lf aa=bu 5:=((am 5 _ _ rfl).1.1).symm
 have de:Mz aI aa 67 [iv ((Ob l st).1+cl 64 A),iv (cl 64 B)]:=(am 5 _ _ rfl).1.2
 have df:KK ai (Lf aa):=by rw[aJ,dd];exact bz 2 5 _ _ _ _ (by decide) rfl rfl
 clear am bz
 obtain⟨dg,dh,di,bG,aK⟩:=t5 bA 0 aD 37 cr 4 cu 6 bf 7 aH
 clear db bA
 refine KG (KJ ?_)
 refine YH (S:=fun i=>ai i\/((Lf aa) i)) [(5,1)] [some 21,some 22,some 23,some 24,some 25,none] [Pt.eq (pt aa 1),Pt.eq (iv (cl 64 B)),Pt.thg ⟨fun w_=>PJ w_ ai ae l ((Ll (LK l 128) st).2) (List.cons (p,st) R),ai,fun T_ w_=>PJ w_ T_ ae l ((Ll (LK l 128) ((Ll (LK l 128) st).2)).2) (List.cons (p,st) R),fun _ _ _ h_ k_ ha_=>h_.all k_ ha_,fun _ _ _ _ h_ k_ ha_=>h_.all k_ ha_,fun _ h_=>h_.live,fun _ _ h_=>h_.live⟩ (iv ((Ob l (Ob l st).2).1)),Pt.eq (iv ((Ob l (Ob l st).2).1+cl 64 B)),Pt.eq (pt aa 1),Pt.thg (azN aa 67 [iv ((Ob l st).1+cl 64 A),iv (cl 64 B)] [iv ((Ob l st).1+cl 64 A),iv ((Ob l (Ob l st).2).1+cl 64 B)]) undef] (by kernel_rfl) (by kernel_rfl) (by kernel_rfl) rfl (SD.old ⟨⟨fun _ x_=>Or.inl x_,dc,⟨df,trivial⟩⟩,⟨⟨fun _ x_=>Or.inr x_,de,trivial⟩,trivial⟩⟩) ?_ ?_
 ·refine MP ?_ ?_
  ·refine Nz.one rfl fun F_ w_ hR hout hD=>?_
   exact(KU (n:=1) rfl ((hout 7 rfl (by decide)).trans aK) Tryz.underlying67 rfl (by kernel_rfl) (by decide) rfl ⟨rfl,KO.refl _ _⟩)
  refine MP ?_ ?_
  ·refine Nz.oneA rfl fun F_ w_ hR hout hD hA_=>?_
   have dk:F_ 21=pt aa 1:=(hD.get 0 rfl rfl rfl).1
   have hA5_:Mz w_ aa 67 [iv ((Ob l st).1+cl 64 A),iv (cl 64 B)]:=hA_ 5 _ _ (by decide) rfl
   exact(KY rfl dk Tryz.underlying3 hA5_ rfl rfl ⟨rfl,KO.refl _ _⟩)
  refine MP ?_ ?_
  ·refine Nz.turn rfl rfl fun F_ w_ hR hout hD hA_=>?_
   exact(LH rfl rfl rfl (fun _ _=>by kernel_rfl) (K5 _) (Lk ((hout 6 rfl (by decide)).trans bG) (Lk rfl LR)) (SP ae l ((Ll (LK l 128) st).2) (List.cons (p,st) R) 128 ai _  hA_ ) (fun e_ w_ h_=>by obtain⟨_,he_,k_,hb_,hg_⟩:=h_;exact⟨_,he_,rfl,k_,_,hb_,hg_⟩))
  refine MP ?_ ?_
  ·refine Nz.one rfl fun F_ w_ hR hout hD=>?_
   have dl:F_ 22=iv (cl 64 B):=(hD.get 0 rfl rfl rfl).1
   have dm:F_ 23=iv ((Ob l (Ob l st).2).1):=(hD.get 1 rfl rfl rfl).1
   exact(LP rfl dl dm (by rw[Int.add_comm,IntKind.wrap_i64];omega) ⟨rfl,KO.refl _ _⟩)
  refine MP ?_ ?_
  ·refine Nz.one rfl fun F_ w_ hR hout hD=>?_
   exact(KU (n:=1) rfl ((hout 7 rfl (by decide)).trans aK) Tryz.underlying67 rfl (by kernel_rfl) (by decide) rfl ⟨rfl,KO.refl _ _⟩)
  refine MP ?_ ?_
  ·refine Nz.turn rfl rfl fun F_ w_ hR hout hD hA_=>?_
   have dn:F_ 25=pt aa 1:=(hD.get 0 rfl rfl rfl).1
   have dp:F_ 24=iv ((Ob l (Ob l st).2).1+cl 64 B):=(hD.get 1 rfl rfl rfl).1
   exact PA rfl dn dp hA_ rfl rfl (by kernel_rfl) fun w2_ b_ k_=>⟨rfl,k_,_,⟨rfl,b_⟩,KP.refl _ _⟩
  exact Us
 intro eH bH eI au bI dq an bJ bK
 have bL:=bB.all bI (fun x=>(x.elim (fun y=>((bF.symm) ac rfl y)) (fun y=>((aF.symm) ac rfl y))))
 have bM:=bC.trans bI (fun i hi x=>(x.elim (fun y=>((KP.ok (S:=T_r) bE (fun _ x=>x)) i hi y)) (fun y=>((KP.ok (S:=T_r) aE K3) i hi y))))
 obtain⟨ao,aL⟩:∃ T_,T_=bH 2:=⟨_,rfl⟩
 have av:PJ au ao ae l ((Ll (LK l 128) ((Ll (LK l 128) st).2)).2) (List.cons (p,st) R):=by rw[aL];exact(an 2 _ _ rfl).1
 have bN:KP aI ai ao:=by rw[aL];exact(an 2 _ _ rfl).2
 have af:=bE.trans bC bN
 have ah:=bF.grew bN (LT bB.lt)
 have dr:Lf aa=bH 5:=((an 5 _ _ rfl).1.1).symm
 have dt:Mz au aa 67 [iv ((Ob l st).1+cl 64 A),iv ((Ob l (Ob l st).2).1+cl 64 B)]:=(an 5 _ _ rfl).1.2
 have du:KK ao (Lf aa):=by rw[aL,dr];exact bJ 2 5 _ _ _ _ (by decide) rfl rfl
 clear an bJ
 obtain⟨dv,aM,ak,aN,bO⟩:=t5 bK 0 dg 37 dh 4 di 6 bG 7 aK
 clear dq bK
 refine KG (KJ (KJ ?_))
 rcases Bool.eq_false_or_eq_true (((Ll (LK l 128) ((Ll (LK l 128) st).2)).2).isNone) with aO|aO
 ·skip
  refine KH (LB (R:=fun v_ w_=>v_ = .bool true/\KO (fun _=>False) au w_) rfl rfl (LH rfl rfl rfl (fun _ _=>by kernel_rfl) (K5 _) (Lk aN LR) (RF ae l ((Ll (LK l 128) ((Ll (LK l 128) st).2)).2) (List.cons (p,st) R) ao _  av ) (fun e_ w_ h_=>⟨_,h_.1,(congrArg Value.bool aO),h_.2⟩)) ?_)
  rintro _ eJ ⟨rfl,bP⟩
  obtain⟨dw,dy⟩:=NA bP bL av
  refine KI (.bool true) rfl rfl (KQ rfl rfl rr) (KN 1 false 27 rfl rfl rfl (Or.inl rfl) rfl (KN 1 false 27 rfl rfl rfl (Or.inl rfl) rfl (KN 1 false 27 rfl rfl rfl (Or.inl rfl) rfl (KI (.bool true) rfl rfl (Lo rfl rfl rfl rr) (KM ?_)))))
  have dz:=K4 (.bool true)
  refine KG ?_
  refine K6 (t:=true) dz (fun _=>?_) (fun e=>by cases e)
  refine KJ ?_
  have hk:¬ RR l A B st:=by unfold RR;rintro ⟨h7,h8⟩;first|exact h7 (Option.isNone_iff_eq_none.1 (by assumption))|exact absurd (O6 h8) (by assumption)
  have hR:=XQ hk
  obtain⟨g2,a1,b1,a2,b2,hf2,hT2,ho1,ho2,ap,hq2,hg2,hr2,ap1_,ap2_,ap3_,ap4_,ap5_,ap6_⟩:=US dy
  have dA:KP w0 T_r (Lf p):=fun i h=>af i ((fun i h=>(hT2 i).2 (Or.inl h)) i h)
  have dB:KK (Lf p) (Lf ac):=fun i h=>ah i ((fun i h=>(hT2 i).2 (Or.inl h)) i h)
  have dC:KP w0 T_r (Lf g2):=fun i h=>af i ((fun i h=>(hT2 i).2 (Or.inr (Or.inr (Or.inl h)))) i h)
  have dD:KK (Lf g2) (Lf ac):=fun i h=>ah i ((fun i h=>(hT2 i).2 (Or.inr (Or.inr (Or.inl h)))) i h)
  have dE:KP w0 T_r (tR R):=fun i h=>af i ((fun i h=>(hT2 i).2 (Or.inr (Or.inr (Or.inr h)))) i h)
  have dF:KK (tR R) (Lf ac):=fun i h=>ah i ((fun i h=>(hT2 i).2 (Or.inr (Or.inr (Or.inr h)))) i h)
  have bQ:KK (Lf p) (Lf g2):=ap2_
  have bR:KK (Lf p) (tR R):=ap3_
  refine KH (KI (.agg #[iv 0,iv 0]) rfl rfl (LZ (l':=[]) (cells:=#[iv 0,iv 0]) rfl Rv (by kernel_rfl) rfl rr) (Lj (us:=[iv 0,iv 0]) LO rfl rfl rfl ak rfl dw rfl (KX rfl (KX rfl MG)) fun dG dH aw=>?_))
  have bS:=ap.all aw (dB p rfl)
  have bT:=hg2.all aw dD
  have bU:=hr2.all aw dF
  refine KI (iv 90) rfl rfl (KS rfl rfl rr) (KM ?_)
  have dI:=K4 (iv 90)
  refine KG (Lb (Lq ?_))
  have dJ:PJ dG (fun i=>(Lf p) i\/((Lf g2) i\/((tR R) i))) p l (MQ l A B st) R:=(by first|(rw[show MQ l A B st=st from if_neg hk];exact P9 hf2 ho1 bS bT bU bQ bR)|(rw[show MQ l A B st=vrS l st from if_pos hk];exact P9 hf2 ho2 bS bT bU bQ bR))
  have dK:KP w0 T_r (fun i=>(Lf p) i\/((Lf g2) i\/((tR R) i))):=fun i h=>h.elim (fun y=>dA i y) (fun y=>y.elim (fun y=>dC i y) (fun y=>dE i y))
  exact L7 aM rfl (MK (vs:=[iv 0,iv 0]) LO rfl ak dH) (Ly (v:=iv 90) rfl dI) ⟨(fun i=>(Lf p) i\/((Lf g2) i\/((tR R) i))),(by rw[hR.1,hR.2.1,hR.2.2]),((bM.tr bP).trans aw (KP.ok (S:=T_r) aB K3)),⟨dJ,dK⟩⟩
 ·skip
  refine KH (LB (R:=fun v_ w_=>v_ = .bool false/\KO (fun _=>False) au w_) rfl rfl (LH rfl rfl rfl (fun _ _=>by kernel_rfl) (K5 _) (Lk aN LR) (RF ae l ((Ll (LK l 128) ((Ll (LK l 128) st).2)).2) (List.cons (p,st) R) ao _  av ) (fun e_ w_ h_=>⟨_,h_.1,(congrArg Value.bool aO),h_.2⟩)) ?_)
  rintro _ dL ⟨rfl,bV⟩
  obtain⟨dM,dN,bW⟩:=Nu bV bL av dt
  refine KI (.bool false) rfl rfl (KQ rfl rfl rr) (KT (.agg #[iv ((Ob l st).1+cl 64 A),iv ((Ob l (Ob l st).2).1+cl 64 B)]) 1 false 27 rfl rfl rfl rfl rfl (KZ LO rfl bO bW rr) (LN (R:=fun v_ w_=>v_=iv (PK ((Ob l st).1+cl 64 A) ((Ob l (Ob l st).2).1+cl 64 B))/\KO (fun _=>False) dL w_) 1 false 27 rfl rfl rfl rfl rfl (LH rfl rfl rfl (fun _ _=>by kernel_rfl) (K5 _) (Lk rfl LR) (VT ((Ob l st).1+cl 64 A) ((Ob l (Ob l st).2).1+cl 64 B)  _   ) (fun e_ w_ h_=>⟨_,h_.1,rfl,h_.2⟩)) ?_))
  rintro _ eK ⟨rfl,bX⟩
  obtain⟨bY,bZ,dO⟩:=Nu bX dM dN bW
  have b7:=(bM.tr bV).tr bX
  refine KT (.bool (decide ((PK ((Ob l st).1+cl 64 A) ((Ob l (Ob l st).2).1+cl 64 B))≠0))) 1 false 27 rfl rfl rfl rfl rfl (Mb rfl rfl rfl rfl rr) (KI (.bool (decide ((PK ((Ob l st).1+cl 64 A) ((Ob l (Ob l st).2).1+cl 64 B))≠0))) rfl rfl (Li rfl rfl rfl rr) (KM ?_))
  have dP:=K4 (.bool (decide ((PK ((Ob l st).1+cl 64 A) ((Ob l (Ob l st).2).1+cl 64 B))≠0)))
  refine KG ?_
  refine K6 dP (fun aq=>?_) (fun aq=>?_)
  ·replace aq:=of_decide_eq_true aq
   refine KJ ?_
   have hk:¬ RR l A B st:=by unfold RR;rintro ⟨h7,h8⟩;first|exact h7 (Option.isNone_iff_eq_none.1 (by assumption))|exact absurd (O6 h8) (by assumption)
   have hR:=XQ hk
   obtain⟨g2,a1,b1,a2,b2,hf2,hT2,ho1,ho2,ap,hq2,hg2,hr2,ap1_,ap2_,ap3_,ap4_,ap5_,ap6_⟩:=US bZ
   have dQ:KP w0 T_r (Lf p):=fun i h=>af i ((fun i h=>(hT2 i).2 (Or.inl h)) i h)
   have dR:KK (Lf p) (Lf ac):=fun i h=>ah i ((fun i h=>(hT2 i).2 (Or.inl h)) i h)
   have dS:KP w0 T_r (Lf g2):=fun i h=>af i ((fun i h=>(hT2 i).2 (Or.inr (Or.inr (Or.inl h)))) i h)
   have dT:KK (Lf g2) (Lf ac):=fun i h=>ah i ((fun i h=>(hT2 i).2 (Or.inr (Or.inr (Or.inl h)))) i h)
   have dU:KP w0 T_r (tR R):=fun i h=>af i ((fun i h=>(hT2 i).2 (Or.inr (Or.inr (Or.inr h)))) i h)
   have dV:KK (tR R) (Lf ac):=fun i h=>ah i ((fun i h=>(hT2 i).2 (Or.inr (Or.inr (Or.inr h)))) i h)
   have b8:KK (Lf p) (Lf g2):=ap2_
   have b9:KK (Lf p) (tR R):=ap3_
   refine KH (KI (.agg #[iv 0,iv 0]) rfl rfl (LZ (l':=[]) (cells:=#[iv 0,iv 0]) rfl Rv (by kernel_rfl) rfl rr) (Lj (us:=[iv 0,iv 0]) LO rfl rfl rfl ak rfl bY rfl (KX rfl (KX rfl MG)) fun dW dX az=>?_))
   have cd:=ap.all az (dR p rfl)
   have ce:=hg2.all az dT
   have cf:=hr2.all az dV
   refine KI (iv 90) rfl rfl (KS rfl rfl rr) (KM ?_)
   have dY:=K4 (iv 90)
   refine KG (Lb (Lq ?_))
   have dZ:PJ dW (fun i=>(Lf p) i\/((Lf g2) i\/((tR R) i))) p l (MQ l A B st) R:=(by first|(rw[show MQ l A B st=st from if_neg hk];exact P9 hf2 ho1 cd ce cf b8 b9)|(rw[show MQ l A B st=vrS l st from if_pos hk];exact P9 hf2 ho2 cd ce cf b8 b9))
   have d8:KP w0 T_r (fun i=>(Lf p) i\/((Lf g2) i\/((tR R) i))):=fun i h=>h.elim (fun y=>dQ i y) (fun y=>y.elim (fun y=>dS i y) (fun y=>dU i y))
   exact L7 aM rfl (MK (vs:=[iv 0,iv 0]) LO rfl ak dX) (Ly (v:=iv 90) rfl dY) ⟨(fun i=>(Lf p) i\/((Lf g2) i\/((tR R) i))),(by rw[hR.1,hR.2.1,hR.2.2]),(b7.trans az (KP.ok (S:=T_r) aB K3)),⟨dZ,d8⟩⟩
  ·replace aq:=of_decide_eq_false aq
   refine Lg (KG (KJ ?_))
   have hk:RR l A B st:=by unfold RR;exact⟨fun h7=>absurd (Option.isNone_iff_eq_none.2 h7) (Bool.eq_false_iff.1 (by assumption)),(RY _ _).1 (Decidable.byContradiction (by assumption))⟩
   have hR:=VM hk
   obtain⟨g2,a1,b1,a2,b2,hf2,hT2,ho1,ho2,ap,hq2,hg2,hr2,ap1_,ap2_,ap3_,ap4_,ap5_,ap6_⟩:=US bZ
   have cg:KP w0 T_r (Lf p):=fun i h=>af i ((fun i h=>(hT2 i).2 (Or.inl h)) i h)
   have ci:KK (Lf p) (Lf ac):=fun i h=>ah i ((fun i h=>(hT2 i).2 (Or.inl h)) i h)
   have d9:KK (Lf p) (Lf aa):=fun i h=>du i ((fun i h=>(hT2 i).2 (Or.inl h)) i h)
   have eb:KP w0 T_r (Lf g2):=fun i h=>af i ((fun i h=>(hT2 i).2 (Or.inr (Or.inr (Or.inl h)))) i h)
   have ee:KK (Lf g2) (Lf ac):=fun i h=>ah i ((fun i h=>(hT2 i).2 (Or.inr (Or.inr (Or.inl h)))) i h)
   have eh:KP w0 T_r (tR R):=fun i h=>af i ((fun i h=>(hT2 i).2 (Or.inr (Or.inr (Or.inr h)))) i h)
   have ei:KK (tR R) (Lf ac):=fun i h=>ah i ((fun i h=>(hT2 i).2 (Or.inr (Or.inr (Or.inr h)))) i h)
   have aP:KK (Lf p) (Lf g2):=ap2_
   have aQ:KK (Lf p) (tR R):=ap3_
   refine KH (KR rfl rfl rfl dv (KI (.agg #[.slice (some ⟨g2,0,none⟩) l.length l.length,iv ((a2:Nat):Int),.bool b2]) rfl rfl (KZ ML rfl aN hq2 rr) (KI (pt p 0) rfl rfl (Ol rfl rfl rr) (Lj (us:=[.slice (some ⟨g2,0,none⟩) l.length l.length,iv ((a2:Nat):Int),.bool b2]) ML rfl rfl rfl rfl rfl ap rfl (KX rfl (KX rfl (KX rfl MG))) fun eL ek ar=>?_))))
   have en:=bY.all ar (ci.symm ac rfl)
   have eo:=dO.all ar (d9.symm aa rfl)
   have ep:=hg2.all ar aP.symm
   have er:=hr2.all ar aQ.symm
   refine KM ?_
   refine KG (KJ (KH (KI (.agg #[iv ((Ob l st).1+cl 64 A),iv ((Ob l (Ob l st).2).1+cl 64 B)]) rfl rfl (KZ LO rfl bO eo rr) (Lj (us:=[iv ((Ob l st).1+cl 64 A),iv ((Ob l (Ob l st).2).1+cl 64 B)]) LO rfl rfl rfl ak rfl en rfl (KX rfl (KX rfl MG)) fun et eu aA=>?_))))
   have cj:=ek.all aA (ci p rfl)
   have cm:=ep.all aA ee
   have cn:=er.all aA ei
   refine KI (iv 0) rfl rfl (KS rfl rfl rr) (KM ?_)
   have ew:=K4 (iv 0)
   refine KG (Lb ?_)
   have ex:PJ et (fun i=>(Lf p) i\/((Lf g2) i\/((tR R) i))) p l (MQ l A B st) R:=(by first|(rw[show MQ l A B st=st from if_neg hk];exact P9 hf2 ho1 cj cm cn aP aQ)|(rw[show MQ l A B st=vrS l st from if_pos hk];exact P9 hf2 ho2 cj cm cn aP aQ))
   have ey:KP w0 T_r (fun i=>(Lf p) i\/((Lf g2) i\/((tR R) i))):=fun i h=>h.elim (fun y=>cg i y) (fun y=>y.elim (fun y=>eb i y) (fun y=>eh i y))
   exact L7 aM rfl (MK (vs:=[iv ((Ob l st).1+cl 64 A),iv ((Ob l (Ob l st).2).1+cl 64 B)]) LO rfl ak eu) (Ly (v:=iv 0) rfl ew) ⟨(fun i=>(Lf p) i\/((Lf g2) i\/((tR R) i))),(by rw[hR.1,hR.2.1,hR.2.2]),((b7.trans ar (KP.ok (S:=T_r) cg (fun _ x=>x))).trans aA (KP.ok (S:=T_r) aB K3)),⟨ex,ey⟩⟩
theorem RD(p:Nat)(l:List Nat)(st:Option Nat)(R:List (Nat×Option Nat))(T_r:Nat->Prop)(w0:World)(hO:Of w0)(hG:∀ i,T_r i->2<i)(h_r:PJ w0 T_r p (l) (st) (R)) :
  Calls Tryz.prog 101 #[.pointer (some ⟨p,0,none⟩)] w0 fun e w'=>∃ (T_r':Nat->Prop),e = .returned (.tuple #[LJ ((LI l st).1),.int .i64 ((LI l st).2.1)])/\KO (T_r) w0 w'/\(PJ w' T_r' p (l) (Xp l st) (R)/\KP w0 T_r T_r'):=by
 refine Lr (args:=[pt p 0]) 48 Tryz.func101 rfl rfl (Nat.le_of_ble_eq_true rfl) ?_
 have K0:=KO.refl T_r w0
 have hle:=VA l st
 obtain⟨M,hM⟩:∃ M,M=(Ll (Lw l Ny) st).1.toNat:=⟨_,rfl⟩
 have g_r:=KP.refl w0 T_r
 refine KJ (KH (L1 rfl rfl rfl KW.2.2 fun p1 w2 e5 B3 k4=>?_))
 have g6:=LS (Nat.le_of_eq e5.symm)
 have aj:=KP.new K0 g6
 have bb:=KK.new g6 h_r.live
 clear e5 g6
 have B9:=h_r.all k4 KK.none
 have bd:=K0.tr k4
 refine KI (iv 0) rfl rfl (KS rfl rfl rr) (KM ?_)
 have ak:=K4 (pt p 0)
 have az:=K4 (undef)
 have am:=K4 (pt p1 0)
 have b8:=K4 (iv 0)
 refine KG (VI (KJ (KJ (KH (KR rfl rfl rfl ak (KI (.bool false) rfl rfl (Ry rfl rfl rfl Tryz.underlying54 rr) (KM ?_)))))))
 have be:=K4 (.bool false)
 refine KG ?_
 refine K6 (t:=false) be (fun e=>by cases e) (fun _=>?_)
 refine Lg (KG (KJ (KH (L1 rfl rfl rfl KW.2.2 fun af bf bg bh bi=>?_))))
 have bj:=LS (Nat.le_of_eq bg.symm)
 obtain⟨bl,b9⟩:=TQ bj B9 B3
 clear bg
 obtain⟨cd,bm⟩:=NA bi B9 B3
 have bn:=bd.tr bi
 refine KM ?_
 have ce:=K4 (pt af 0)
 refine KG (KJ (KH (KI (iv 0) rfl rfl (KS rfl rfl rr) (KM ?_))))
 have cf:=K4 (iv 0)
 refine KG (KJ (KH (KR rfl rfl rfl ak (LB (R:=fun v_ w_=>∃ (aa:Nat->Prop),iv ((M:Nat):Int)=v_/\KO T_r bf w_/\(PJ w_ aa p l ((Ll (Lw l 9223372036854775807) st).2) R/\KP bf T_r aa)) rfl rfl (LH rfl rfl rfl (fun _ _=>by kernel_rfl) (K5 _) (Lk rfl (Lk rfl LR)) (Ug p l st R 9223372036854775807 T_r _  cd ) (fun e_ w_ h_=>by obtain⟨T55_,he_,hr_⟩:=h_;exact⟨_,he_,T55_,(congrArg (Value.int .i64) (by rw[show (9223372036854775807:Int)=Ny from rfl];omega)).symm,hr_⟩)) ?_))))
 rintro _ aA ⟨aa,rfl,aB,⟨cg,bo⟩⟩
 have bp:=bm.all aB (bb p1 rfl)
 have ci:=bh.all aB (bl af rfl)
 have bq:=bn.trans aB (fun i hi x=>((KP.ok (S:=T_r) g_r (fun _ x=>x)) i hi x))
 have aC:=g_r.trans bn bo
 obtain⟨aD,cj⟩:=VN bo (bb.symm) bm (bl.symm) bh
 refine KI (iv ((M:Nat):Int)) rfl rfl (KS rfl rfl rr) (KM ?_)
 have aE:=K4 (iv ((M:Nat):Int))
 refine KG (KJ (KJ ?_))
 have av:PJ aA aa p l ((Ll (Lw l Ny) st).2) R:=cg
 rcases Bool.eq_false_or_eq_true (((Ll (Lw l Ny) st).2).isNone) with aF|aF
 ·skip
  refine KH (KR rfl rfl rfl ak (LB (R:=fun v_ w_=>v_ = .bool true/\KO (fun _=>False) aA w_) rfl rfl (LH rfl rfl rfl (fun _ _=>by kernel_rfl) (K5 _) (Lk rfl LR) (RF p l ((Ll (Lw l Ny) st).2) R aa _  av ) (fun e_ w_ h_=>⟨_,h_.1,(congrArg Value.bool aF),h_.2⟩)) ?_))
  rintro _ dc ⟨rfl,bt⟩
  obtain⟨cm,cn⟩:=NA bt av bp
  refine KI (.bool true) rfl rfl (KQ rfl rfl rr) (KN 2 false 15 rfl rfl rfl (Or.inl rfl) rfl (KN 2 false 15 rfl rfl rfl (Or.inl rfl) rfl (KI (.bool true) rfl rfl (Lo rfl rfl rfl rr) (KM ?_))))
  have co:=K4 (.bool true)
  refine KG ?_
  refine K6 (t:=true) co (fun _=>?_) (fun e=>by cases e)
  refine Ns (Mi ?_)
  refine MO ⟨_,rfl,?_⟩
  refine KJ (Lg (KG (KJ ?_)))
  first|have hR:=QU (l:=l) (s:=st) (Or.inl (by assumption))|have hR:=QU (l:=l) (s:=st) (Or.inr (by omega))|have hR:=XW (by omega) hI (by omega)|have hR:=YF (by omega) hI (by omega) (by first|exact Or.inl (by assumption)|exact Or.inr (by assumption))
  refine KH (KI (LJ (fun _=>0)) rfl rfl (Mx (cells:=(L8 16 (fun _=>0)).toArray) rfl (by kernel_rfl) rfl rr) (Lp KW rfl rfl rfl am rfl cn fun dd cq bu=>?_))
  have cr:=cm.all bu aD
  refine KI (iv 60) rfl rfl (KS rfl rfl rr) (KM ?_)
  have ct:=K4 (iv 60)
  refine KG (Lb (M0 ?_))
  exact L7 az rfl (Mq KW rfl am cq) (Ly (v:=iv 60) rfl ct) ⟨aa,(by rw[← (Nr hR).1,← (Nr hR).2.1]),((bq.tr bt).trans bu (KP.ok (S:=T_r) aj K3)),⟨(by rw[(Nr hR).2.2];exact cr),aC⟩⟩
 ·skip
  refine KH (KR rfl rfl rfl ak (LB (R:=fun v_ w_=>v_ = .bool false/\KO (fun _=>False) aA w_) rfl rfl (LH rfl rfl rfl (fun _ _=>by kernel_rfl) (K5 _) (Lk rfl LR) (RF p l ((Ll (Lw l Ny) st).2) R aa _  av ) (fun e_ w_ h_=>⟨_,h_.1,(congrArg Value.bool aF),h_.2⟩)) ?_))
  rintro _ de ⟨rfl,bv⟩
  obtain⟨bz,bA,cu⟩:=Nu bv av bp ci
  have bB:=bq.tr bv
  refine KI (.bool false) rfl rfl (KQ rfl rfl rr) (KT (iv ((M:Nat):Int)) 2 false 15 rfl rfl rfl rfl rfl (KQ rfl aE rr) (KT (.bool (decide (16<((M:Nat):Int)))) 2 false 15 rfl rfl rfl rfl rfl (Og rfl rfl rfl rfl rr) (KI (.bool (decide (16<((M:Nat):Int)))) rfl rfl (Li rfl rfl rfl rr) (KM ?_))))
  have bC:=K4 (.bool (decide (16<((M:Nat):Int))))
  refine KG ?_
  refine K6 bC (fun an=>?_) (fun an=>?_)
  ·replace an:=of_decide_eq_true an
   refine Ns (Mi ?_)
   refine MO ⟨_,rfl,?_⟩
   refine KJ (Lg (KG (KJ ?_)))
   first|have hR:=QU (l:=l) (s:=st) (Or.inl (by assumption))|have hR:=QU (l:=l) (s:=st) (Or.inr (by omega))|have hR:=XW (by omega) hI (by omega)|have hR:=YF (by omega) hI (by omega) (by first|exact Or.inl (by assumption)|exact Or.inr (by assumption))
   refine KH (KI (LJ (fun _=>0)) rfl rfl (Mx (cells:=(L8 16 (fun _=>0)).toArray) rfl (by kernel_rfl) rfl rr) (Lp KW rfl rfl rfl am rfl bA fun df cv bD=>?_))
   have cw:=bz.all bD aD
   refine KI (iv 60) rfl rfl (KS rfl rfl rr) (KM ?_)
   have cy:=K4 (iv 60)
   refine KG (Lb (M0 ?_))
   exact L7 az rfl (Mq KW rfl am cv) (Ly (v:=iv 60) rfl cy) ⟨aa,(by rw[← (Nr hR).1,← (Nr hR).2.1]),(bB.trans bD (KP.ok (S:=T_r) aj K3)),⟨(by rw[(Nr hR).2.2];exact cw),aC⟩⟩
  ·replace an:=of_decide_eq_false an
   refine Lg (KG (KJ (KJ (KH (KR rfl rfl rfl aE (KI (iv 0) rfl rfl (KQ rfl rfl rr) (KM ?_)))))))
   have cz:=K4 (iv ((M:Nat):Int))
   have cA:=K4 (iv 0)
   refine KG (Lm (MZ (fun nn FF ww=>∃ (i:Nat),∃ (a:Nat),∃ (b:Nat->Int),∃ (s:Option Nat),∃ (ab:Nat->Prop),(i<=M)/\(a<=16)/\(Qx l (M-i) a b s=gRd l st)/\nn=M-i/\FF 0=pt p 0/\FF 2=pt p1 0/\FF 3=iv 0/\FF 4=pt af 0/\FF 6=iv ((M:Nat):Int)/\FF 9 = .bool false/\FF 18 = .bool (decide (16<((M:Nat):Int)))/\FF 19=iv ((M:Nat):Int)/\FF 48=undef/\FF 5=iv ((a:Nat):Int)/\FF 20=iv ((i:Nat):Int)/\KO T_r w0 ww/\PJ ww ab p l s R/\NL ww p1 69 (fun _=>0)/\NL ww af 69 b/\KP w0 T_r ab/\KK ab (Lf p1)/\KK ab (Lf af)) (M-0) ⟨0,0,(fun _=>0),(Ll (Lw l Ny) st).2,aa,by omega,by omega,(aBU (by assumption) (by omega) hM),rfl,ak,am,b8,ce,aE,be,bC,cz,az,cf,cA,bB,bz,bA,cu,aC,aD,cj⟩ ?_))
   rintro dg dh bE ⟨i,a,b,s,ab,i151,i152,hI,hn150,aG,ac,cB,aH,cC,cD,cE,bF,ao,cF,bG,aI,bH,aJ,aK,aL,aM,bI⟩
   refine KJ (KH (KI (.bool (decide (((i:Nat):Int)<((M:Nat):Int)))) rfl rfl (L4 rfl bG bF rfl rr) (KM ?_)))
   have cG:=K4 (.bool (decide (((i:Nat):Int)<((M:Nat):Int))))
   refine KG (KJ ?_)
   refine K6 cG (fun ap=>?_) (fun ap=>?_)
   ·replace ap:=of_decide_eq_true ap
    refine Lg (KG (KJ (Lm (KJ ?_))))
    have hat:=aCi l a s
    refine KH (KR rfl rfl rfl cF (KR rfl rfl rfl aG (LB (R:=fun v_ w_=>∃ (ah:Nat->Prop),iv ((Ll (Lw l 9223372036854775807) s).1)=v_/\KO ab bE w_/\(PJ w_ ah p l ((Ll (Lw l 9223372036854775807) s).2) R/\KP bE ab ah)) rfl rfl (LH rfl rfl rfl (fun _ _=>by kernel_rfl) (K5 _) (Lk rfl (Lk rfl LR)) (Ug p l s R 9223372036854775807 ab _  bH ) (fun e_ w_ h_=>by obtain⟨T187_,he_,hr_⟩:=h_;exact⟨_,he_,T187_,rfl,hr_⟩)) ?_)))
    rintro _ aN ⟨ah,rfl,aO,⟨cH,bJ⟩⟩
    have aP:=aJ.all aO (aM.symm p1 rfl)
    have bK:=aK.all aO (bI.symm af rfl)
    have aQ:=aI.trans aO (fun i hi x=>((KP.ok (S:=T_r) aL (fun _ x=>x)) i hi x))
    have aR:=aL.trans aI bJ
    obtain⟨aS,bL⟩:=VN bJ aM aJ bI aK
    refine KI (iv (((MM l a s).1:Nat):Int)) rfl rfl (LP rfl rfl rfl (L6 (by rw[show (9223372036854775807:Int)=Ny from rfl];exact hat.1) (by omega)) rr) (KI (iv (((MM l a s).1:Nat):Int)) rfl rfl (KS rfl rfl rr) (KM ?_))
    have aT:=K4 (iv (((MM l a s).1:Nat):Int))
    refine KG (KJ (KJ ?_))
    have bM:PJ aN ah p l ((Ll (Lw l Ny) s).2) R:=cH
    refine KH (KR rfl rfl rfl aT (KI (.bool (decide (16<=(((MM l a s).1:Nat):Int)))) rfl rfl (Nf rfl rfl rfl rfl rr) (KM ?_)))
    have cI:=K4 (.bool (decide (16<=(((MM l a s).1:Nat):Int))))
    refine KG ?_
    refine K6 cI (fun aq=>?_) (fun aq=>?_)
    ·replace aq:=of_decide_eq_true aq
     refine Ns (Mi (St (Mi (Mi (St (Mi ?_))))))
     refine MO ⟨_,rfl,?_⟩
     refine KJ (Lg (KG (KJ ?_)))
     first|have hR:=QU (l:=l) (s:=st) (Or.inl (by assumption))|have hR:=QU (l:=l) (s:=st) (Or.inr (by omega))|have hR:=XW (by omega) hI (by omega)|have hR:=YF (by omega) hI (by omega) (by first|exact Or.inl (by assumption)|exact Or.inr (by assumption))
     refine KH (KI (LJ (fun _=>0)) rfl rfl (Mx (cells:=(L8 16 (fun _=>0)).toArray) rfl (by kernel_rfl) rfl rr) (Lp KW rfl rfl rfl ac rfl aP fun di cJ bN=>?_))
     have cK:=bM.all bN aS
     refine KI (iv 60) rfl rfl (KS rfl rfl rr) (KM ?_)
     have cL:=K4 (iv 60)
     refine KG (Lb (M0 ?_))
     exact L7 ao rfl (Mq KW rfl ac cJ) (Ly (v:=iv 60) rfl cL) ⟨ah,(by rw[← (Nr hR).1,← (Nr hR).2.1]),(aQ.trans bN (KP.ok (S:=T_r) aj K3)),⟨(by rw[(Nr hR).2.2];exact cK),aR⟩⟩
    ·replace aq:=of_decide_eq_false aq
     refine Lg (KG (KJ (KH (KR rfl rfl rfl aG (LB (R:=fun v_ w_=>∃ (ai:Nat->Prop),iv ((MM l a s).2.1)=v_/\KO ah aN w_/\(PJ w_ ai p l ((Ll (LK l 9223372036854775807) ((Ll (Lw l Ny) s).2)).2) R/\KP aN ah ai)) rfl rfl (LH rfl rfl rfl (fun _ _=>by kernel_rfl) (K5 _) (Lk rfl (Lk rfl LR)) (SP p l ((Ll (Lw l Ny) s).2) R 9223372036854775807 ah _  bM ) (fun e_ w_ h_=>by obtain⟨T240_,he_,hr_⟩:=h_;exact⟨_,he_,T240_,rfl,hr_⟩)) ?_)))))
     rintro _ bO ⟨ai,rfl,aU,⟨cM,bP⟩⟩
     have bQ:=aP.all aU (aS.symm p1 rfl)
     have cN:=bK.all aU (bL.symm af rfl)
     have bR:=aQ.trans aU (fun i hi x=>((KP.ok (S:=T_r) aR (fun _ x=>x)) i hi x))
     have aV:=aR.trans aQ bP
     obtain⟨aW,bS⟩:=VN bP aS aP bL bK
     refine KI (iv ((MM l a s).2.1)) rfl rfl (KS rfl rfl rr) (KM ?_)
     have ar:=K4 (iv ((MM l a s).2.1))
     refine KG (KJ (KJ ?_))
     have bT:PJ bO ai p l ((MM l a s).2.2) R:=cM
     by_cases bU:((MM l a s).2.1)=0
     ·skip
      refine KH (KR rfl rfl rfl ar (KI (.bool true) rfl rfl (Mj rfl rfl rfl (decide_eq_true bU) rr) (KI (.bool true) rfl rfl (KQ rfl rfl rr) (KN 2 false 32 rfl rfl rfl (Or.inl rfl) rfl (KN 2 false 32 rfl rfl rfl (Or.inl rfl) rfl (KN 2 false 32 rfl rfl rfl (Or.inl rfl) rfl (KN 2 false 32 rfl rfl rfl (Or.inl rfl) rfl (KI (.bool true) rfl rfl (Lo rfl rfl rfl rr) (KM ?_)))))))))
      have cO:=K4 (.bool true)
      refine KG ?_
      refine K6 (t:=true) cO (fun _=>?_) (fun e=>by cases e)
      refine Ns (Mi (St (Mi (Mi (St (Mi ?_))))))
      refine MO ⟨_,rfl,?_⟩
      refine KJ (Lg (KG (KJ ?_)))
      first|have hR:=QU (l:=l) (s:=st) (Or.inl (by assumption))|have hR:=QU (l:=l) (s:=st) (Or.inr (by omega))|have hR:=XW (by omega) hI (by omega)|have hR:=YF (by omega) hI (by omega) (by first|exact Or.inl (by assumption)|exact Or.inr (by assumption))
      refine KH (KI (LJ (fun _=>0)) rfl rfl (Mx (cells:=(L8 16 (fun _=>0)).toArray) rfl (by kernel_rfl) rfl rr) (Lp KW rfl rfl rfl ac rfl bQ fun dj cP bV=>?_))
      have cQ:=bT.all bV aW
      refine KI (iv 60) rfl rfl (KS rfl rfl rr) (KM ?_)
      have cR:=K4 (iv 60)
      refine KG (Lb (M0 ?_))
      exact L7 ao rfl (Mq KW rfl ac cP) (Ly (v:=iv 60) rfl cR) ⟨ai,(by rw[← (Nr hR).1,← (Nr hR).2.1]),(bR.trans bV (KP.ok (S:=T_r) aj K3)),⟨(by rw[(Nr hR).2.2];exact cQ),aV⟩⟩
     ·skip
      refine KH (KR rfl rfl rfl ar (KI (.bool false) rfl rfl (Mj rfl rfl rfl (decide_eq_false bU) rr) (KI (.bool false) rfl rfl (KQ rfl rfl rr) (KT (iv ((MM l a s).2.1)) 2 false 32 rfl rfl rfl rfl rfl (KQ rfl ar rr) (KT (iv ((MM l a s).2.1)) 2 false 32 rfl rfl rfl rfl rfl (KQ rfl ar rr) (LN (R:=fun v_ w_=>v_=iv (cl 1048576 ((MM l a s).2.1))/\KO (fun _=>False) bO w_) 2 false 32 rfl rfl rfl rfl rfl (LH rfl rfl rfl (fun _ _=>by kernel_rfl) (K5 _) (Lk rfl LR) (Xj ((MM l a s).2.1)  _   ) (fun e_ w_ h_=>⟨_,h_.1,rfl,h_.2⟩)) ?_))))))
      rintro _ dk ⟨rfl,bW⟩
      obtain⟨bX,bY,cS⟩:=Nu bW bT bQ cN
      have aX:=bR.tr bW
      refine KT (.bool (decide (((MM l a s).2.1)≠(cl 1048576 ((MM l a s).2.1))))) 2 false 32 rfl rfl rfl rfl rfl (Mb rfl rfl rfl rfl rr) (KI (.bool (decide (((MM l a s).2.1)≠(cl 1048576 ((MM l a s).2.1))))) rfl rfl (Li rfl rfl rfl rr) (KM ?_))
      have cT:=K4 (.bool (decide (((MM l a s).2.1)≠(cl 1048576 ((MM l a s).2.1)))))
      refine KG ?_
      refine K6 cT (fun au=>?_) (fun au=>?_)
      ·replace au:=of_decide_eq_true au
       refine Ns (Mi (St (Mi (Mi (St (Mi ?_))))))
       refine MO ⟨_,rfl,?_⟩
       refine KJ (Lg (KG (KJ ?_)))
       first|have hR:=QU (l:=l) (s:=st) (Or.inl (by assumption))|have hR:=QU (l:=l) (s:=st) (Or.inr (by omega))|have hR:=XW (by omega) hI (by omega)|have hR:=YF (by omega) hI (by omega) (by first|exact Or.inl (by assumption)|exact Or.inr (by assumption))
       refine KH (KI (LJ (fun _=>0)) rfl rfl (Mx (cells:=(L8 16 (fun _=>0)).toArray) rfl (by kernel_rfl) rfl rr) (Lp KW rfl rfl rfl ac rfl bY fun dl cU bZ=>?_))
       have cV:=bX.all bZ aW
       refine KI (iv 60) rfl rfl (KS rfl rfl rr) (KM ?_)
       have cW:=K4 (iv 60)
       refine KG (Lb (M0 ?_))
       exact L7 ao rfl (Mq KW rfl ac cU) (Ly (v:=iv 60) rfl cW) ⟨ai,(by rw[← (Nr hR).1,← (Nr hR).2.1]),(aX.trans bZ (KP.ok (S:=T_r) aj K3)),⟨(by rw[(Nr hR).2.2];exact cV),aV⟩⟩
      ·replace au:=of_decide_eq_false au
       refine Lg (KG (KJ ?_))
       have hN:¬ ((MM l a s).2.1=0\/(MM l a s).2.1≠cl 1048576 (MM l a s).2.1):=by rintro (h|h);exact absurd h (by assumption);exact absurd h (by assumption)
       have ho:=aDw (MM l a s).1 (by omega)
       refine KH (KR rfl rfl rfl aT (KI (.pointer (some ⟨2,(MM l a s).1,none⟩)) rfl rfl (LV ((MM l a s).1) (s:=1) rfl rfl rfl (by omega) Tryz.underlying68 (by omega) (by kernel_rfl) (by omega) rr) (KI (iv ((ord (MM l a s).1:Nat):Int)) rfl rfl (OD rfl rfl Tryz.underlying3 ((hO.but aX hG).cell (by omega)) rr) (KR rfl rfl rfl ar (KI (.pointer (some ⟨af,ord (MM l a s).1,none⟩)) rfl rfl (LV (ord (MM l a s).1) (s:=1) rfl aH rfl (by omega) Tryz.underlying69 (by omega) (by kernel_rfl) (by omega) rr) (NM rfl rfl rfl rfl rfl cS (by omega) (by kernel_rfl) fun dm cX aY=>?_))))))
       have cY:=bX.all aY bS
       have cZ:=bY.all aY (b9.symm p1 rfl)
       refine KM ?_
       refine KG (KH (KR rfl rfl rfl aT (KI (iv ((((MM l a s).1)+1:Nat):Int)) rfl rfl (LP rfl rfl rfl (L6 (by omega) (by omega)) rr) (KI (iv ((((MM l a s).1)+1:Nat):Int)) rfl rfl (KS rfl rfl rr) (KM ?_)))))
       have c5:=K4 (iv ((((MM l a s).1)+1:Nat):Int))
       refine LC (KG (KH (KI (iv ((i+1:Nat):Int)) rfl rfl (LP rfl bG rfl (L6 (by omega) (by omega)) rr) (KI (iv ((i+1:Nat):Int)) rfl rfl (KQ rfl rfl rr) (KM ?_)))))
       have c6:=K4 (iv ((i+1:Nat):Int))
       exact KG ⟨(M-(i+1)),by omega,i+1,(MM l a s).1+1,(V9 b (ord (MM l a s).1) (MM l a s).2.1),(MM l a s).2.2,ai,by omega,by omega,(aEy (by omega) hI (by omega) hN),rfl,aG,ac,cB,aH,cC,cD,cE,bF,ao,c5,c6,(aX.trans aY (KP.ok (S:=T_r) (KP.new bd bj) K3)),cY,cZ,cX,aV,aW,bS⟩
   ·replace ap:=of_decide_eq_false ap
    refine Me (Ls (Ls (Mf (KG (KJ (KJ ?_))))))
    have hR:=aDM (by omega) hI
    refine KH (KI (LJ b) rfl rfl (LY KW rfl aH aK rr) (Lp KW rfl rfl rfl ac rfl aJ fun dn c7 b7=>?_))
    have c9:=bH.all b7 aM
    refine KI (iv 0) rfl rfl (KS rfl rfl rr) (KM ?_)
    have da:=K4 (iv 0)
    refine KG (Lb (Lq (O9 ?_)))
    exact L7 ao rfl (Mq KW rfl ac c7) (Ly (v:=iv 0) rfl da) ⟨ab,(by rw[← (Nr hR).1,← (Nr hR).2.1]),(aI.trans b7 (KP.ok (S:=T_r) aj K3)),⟨(by rw[(Nr hR).2.2];exact c9),aL⟩⟩
end Go.Proofs.YtknjpdcpmpfklaaGreatDoor
