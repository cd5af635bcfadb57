/- What PictureKeeps reaches of my texts, part 4. -/
import Derived.Test.YtknjpdcpmpfklaaGreatDoorPictureKeepsC
set_option maxRecDepth 100000
set_option maxHeartbeats 4000000
set_option maxRecDepth 100000
namespace Go.Proofs.YtknjpdcpmpfklaaGreatDoor
open Go.RowKit
def NS(a b c d:Int):Bool:=decide (a=c) && decide (b=d)
theorem Wz(a b:Int):NS a b a b=true:=by unfold NS;simp
theorem Tryz.vecFields : (Tryz.prog.fieldsOf 67).toList.map (fun f => (f.name, f.type, f.offset)) = [("X", 3, 0), ("Y", 3, 1)] := by kernel_rfl
theorem OH(w:World)(xs:Array Value)(i:Nat)(z:Int)(h:xs[i]? = some (.int .i64 z)):(part 3 xs i).run Tryz.prog w = .ok (.int .i64 z) w:=by
 simp[part,isAgg,run_underlying Tryz.underlying3,h]
theorem WF(w:World)(a b c d:Int):(Op.equalIn 10000 67 (.agg #[.int .i64 a,.int .i64 b]) (.agg #[.int .i64 c,.int .i64 d])).run Tryz.prog w = .ok (NS a b c d) w:=by
 rw[run_equalIn_struct w 9999 _ _ _ (by kernel_rfl) (by kernel_rfl)]
 have hf:=Tryz.vecFields
 generalize (Tryz.prog.fieldsOf 67).toList=fs at hf
 have hlen:fs.length=2:=by simpa using congrArg List.length hf
 have p1:=OH w #[.int .i64 a,.int .i64 b] 0 a rfl
 have p2:=OH w #[.int .i64 c,.int .i64 d] 0 c rfl
 have p3:=OH w #[.int .i64 a,.int .i64 b] 1 b rfl
 have p4:=OH w #[.int .i64 c,.int .i64 d] 1 d rfl
 match fs,hlen with
 | [f0,f1],_ =>
  simp only[List.map_cons,List.map_nil,List.cons.injEq,Prod.mk.injEq,and_true] at hf
  obtain⟨⟨n0,t0,o0⟩,⟨n1,t1,o1⟩⟩:=hf
  simp only[Op.eqFields,n0,t0,o0,n1,t1,o1]
  rw[if_pos (by decide),if_pos (by decide)]
  simp only[Sem.run_bind,p1,p2,Result.andThen_ok,run_equalIn_int w 9998 3 .i64 .i64 _ _ Tryz.underlying3]
  unfold NS
  by_cases h1:a=c
  ·subst h1
   simp only[beq_self_eq_true,Bool.not_true,Bool.false_eq_true,if_false,Sem.run_bind,p3,p4,Result.andThen_ok,run_equalIn_int w 9998 3 .i64 .i64 _ _ Tryz.underlying3]
   by_cases h2:b=d
   ·subst h2;simp
   ·have:(b==d)=false:=by simpa using h2
    simp[this,h2]
  ·have:(a==c)=false:=by simpa using h1
   simp[this,h1]
theorem Tryz.guard_vec:Tryz.prog.eqGuardType Tryz.prog.depth 67=false:=by kernel_rfl
section
variable {ρ:Operand->Value} {o:Oper} {w:World} {R:Value->World->Prop}
theorem azL{t':TypeId}{x y:Operand}{a b c d:Int}{q:Bool}(ho:o.op = .binOp .eql 67 x y t')(hx:ρ x = .agg #[.int .i64 a,.int .i64 b])(hy:ρ y = .agg #[.int .i64 c,.int .i64 d])(hr:NS a b c d=q)(h:R (.bool q) w):Lj Tryz.prog ρ o w R :=
 Ob (v:=.bool (NS a b c d)) (w':=w) (by simp only[execOp,ho,hx,hy,Sem.run_bind,run_eqGuard_agg w .eql _ _ _ _ _ Tryz.guard_vec,run_eql_struct,WF,Result.andThen_ok,Sem.run_pure]) (by rw[hr];exact h)
end
theorem aDy:∀ k:Fin 513,bits .and .i64 ((k.1:Int)-256) 1=((k.1:Int)-256)%2:=by decide +kernel
theorem Zq{u:Int}(h : -256<=u/\u<=256):bits .and .i64 u 1=u%2:=by
 have:=aDy ⟨(u+256).toNat,by omega⟩
 simp only at this
 rwa [show (((u+256).toNat:Nat):Int)-256=u by omega] at this
theorem Rg(n a b:Int)(w0:World) :
  Calls Tryz.prog 138 #[.int .i64 (n),.int .i64 (a),.int .i64 (b)] w0 fun e w'=>e = .returned (.int .i64 (max a (min n b)))/\KP (fun _=>False) w0 w':=by
 refine Ls (args:=[iv n,iv a,iv b]) 12 Tryz.func138 rfl rfl (Nat.le_of_ble_eq_true rfl) ?_
 refine KK (KI (KJ (iv 0) rfl rfl (KX rfl rfl rr) (KO ?_)))
 have s3:=La (iv n)
 have s4:=La (iv a)
 have s5:=La (iv b)
 have s6:=La (undef)
 refine KH (KK (KI (KW rfl rfl rfl s4 (KW rfl rfl rfl s3 (KW rfl rfl rfl s5 (KJ (iv (min n b)) rfl rfl (QO rfl rfl rfl rfl rr) (KJ (iv (max a (min n b))) rfl rfl (Rn rfl rfl rfl rfl rr) (KJ (iv (max a (min n b))) rfl rfl (KX rfl rfl rr) (KO ?_)))))))))
 have af:=La (iv (max a (min n b)))
 refine KH (Ld ?_)
 exact Lu (v:=iv (max a (min n b))) s6 rfl rfl af ⟨rfl,(KP.refl (fun _=>False) w0)⟩
theorem RN(n:Int)(w0:World) :
  Calls Tryz.prog 134 #[.int .i64 (n)] w0 fun e w'=>e = .returned (.bool (decide (-31<=n/\n<=31)))/\KP (fun _=>False) w0 w':=by
 refine Ls (args:=[iv n]) 9 Tryz.func134 rfl rfl (Nat.le_of_ble_eq_true rfl) ?_
 have K0:=KP.refl (fun _=>False) w0
 refine KK (KI (KJ (.bool false) rfl rfl (KX rfl rfl rr) (KO ?_)))
 have s3:=La (iv n)
 have s4:=La (undef)
 refine KH (KK ?_)
 by_cases d5:(-31)<=n
 ·skip
  refine KI (KW rfl rfl rfl s3 (KJ (.bool true) rfl rfl (Nl rfl rfl rfl (decide_eq_true d5) rr) (KJ (.bool true) rfl rfl (KQ rfl rfl rr) (KR (iv n) 2 true 5 rfl rfl rfl rfl rfl (KQ rfl s3 rr) (KR (.bool (decide (n<=31))) 2 true 5 rfl rfl rfl rfl rfl (Nf rfl rfl rfl rfl rr) (KJ (.bool (decide (n<=31))) rfl rfl (Lg rfl rfl rfl rr) (KJ (.bool (decide (n<=31))) rfl rfl (KX rfl rfl rr) (KO ?_))))))))
  have s9:=La (.bool (decide (n<=31)))
  refine KH (Ld ?_)
  exact Lu (v:=.bool (decide (n<=31))) s4 rfl rfl s9 ⟨(O9 (by first|exact(decide_eq_true (by omega)).symm|exact(decide_eq_false (by omega)).symm|exact decide_eq_decide.2 (by omega))),K0⟩
 ·skip
  refine KI (KW rfl rfl rfl s3 (KJ (.bool false) rfl rfl (Nl rfl rfl rfl (decide_eq_false d5) rr) (KJ (.bool false) rfl rfl (KQ rfl rfl rr) (KL 2 true 5 rfl rfl rfl (Or.inl rfl) rfl (KL 2 true 5 rfl rfl rfl (Or.inl rfl) rfl (KJ (.bool false) rfl rfl (Lb rfl rfl rfl rr) (KJ (.bool false) rfl rfl (KX rfl rfl rr) (KO ?_))))))))
  have ah:=La (.bool false)
  refine KH (Ld ?_)
  exact Lu (v:=.bool false) s4 rfl rfl ah ⟨(O9 (by first|exact(decide_eq_true (by omega)).symm|exact(decide_eq_false (by omega)).symm|exact decide_eq_decide.2 (by omega))),K0⟩
theorem PC(n:Int)(w0:World) :
  Calls Tryz.prog 135 #[.int .i64 (n)] w0 fun e w'=>e = .returned (.bool (decide (0<=n/\n<=64)))/\KP (fun _=>False) w0 w':=by
 refine Ls (args:=[iv n]) 9 Tryz.func135 rfl rfl (Nat.le_of_ble_eq_true rfl) ?_
 have K0:=KP.refl (fun _=>False) w0
 refine KK (KI (KJ (.bool false) rfl rfl (KX rfl rfl rr) (KO ?_)))
 have s3:=La (iv n)
 have s4:=La (undef)
 refine KH (KK ?_)
 by_cases d5:0<=n
 ·skip
  refine KI (KW rfl rfl rfl s3 (KJ (.bool true) rfl rfl (Nl rfl rfl rfl (decide_eq_true d5) rr) (KJ (.bool true) rfl rfl (KQ rfl rfl rr) (KR (iv n) 2 true 5 rfl rfl rfl rfl rfl (KQ rfl s3 rr) (KR (.bool (decide (n<=64))) 2 true 5 rfl rfl rfl rfl rfl (Nf rfl rfl rfl rfl rr) (KJ (.bool (decide (n<=64))) rfl rfl (Lg rfl rfl rfl rr) (KJ (.bool (decide (n<=64))) rfl rfl (KX rfl rfl rr) (KO ?_))))))))
  have s9:=La (.bool (decide (n<=64)))
  refine KH (Ld ?_)
  exact Lu (v:=.bool (decide (n<=64))) s4 rfl rfl s9 ⟨(O9 (by first|exact(decide_eq_true (by omega)).symm|exact(decide_eq_false (by omega)).symm|exact decide_eq_decide.2 (by omega))),K0⟩
 ·skip
  refine KI (KW rfl rfl rfl s3 (KJ (.bool false) rfl rfl (Nl rfl rfl rfl (decide_eq_false d5) rr) (KJ (.bool false) rfl rfl (KQ rfl rfl rr) (KL 2 true 5 rfl rfl rfl (Or.inl rfl) rfl (KL 2 true 5 rfl rfl rfl (Or.inl rfl) rfl (KJ (.bool false) rfl rfl (Lb rfl rfl rfl rr) (KJ (.bool false) rfl rfl (KX rfl rfl rr) (KO ?_))))))))
  have ah:=La (.bool false)
  refine KH (Ld ?_)
  exact Lu (v:=.bool false) s4 rfl rfl ah ⟨(O9 (by first|exact(decide_eq_true (by omega)).symm|exact(decide_eq_false (by omega)).symm|exact decide_eq_decide.2 (by omega))),K0⟩
theorem UO(s m:Int)(w0:World)(hs:0<=s/\s<=4000)(hm:m=1\/m=2\/m=4) :
  Calls Tryz.prog 137 #[.int .i64 (s),.int .i64 (m)] w0 fun e w'=>e = .returned (.int .i64 ((s+m/2)/m))/\KP (fun _=>False) w0 w':=by
 refine Ls (args:=[iv s,iv m]) 11 Tryz.func137 rfl rfl (Nat.le_of_ble_eq_true rfl) ?_
 refine KK (KI (KJ (iv 0) rfl rfl (KX rfl rfl rr) (KO ?_)))
 have s3:=La (iv s)
 have s4:=La (iv m)
 have s5:=La (undef)
 refine KH (KK (KI (KW rfl rfl rfl s3 (KW rfl rfl rfl s4 (KJ (iv (m/2)) rfl rfl (Qd rfl rfl rfl (by first|decide|omega) (Mb (O7 (by omega)) (by omega)) rr) (KJ (iv (s+m/2)) rfl rfl (LR rfl rfl rfl (Mb rfl (by omega)) rr) (KW rfl rfl rfl s4 (KJ (iv ((s+m/2)/m)) rfl rfl (Qd rfl rfl rfl (by first|decide|omega) (Mb (Int.tdiv_eq_ediv_of_nonneg (by omega)) (by rcases hm with rfl|rfl|rfl <;> omega)) rr) (KJ (iv ((s+m/2)/m)) rfl rfl (KX rfl rfl rr) (KO ?_))))))))))
 have s9:=La (iv ((s+m/2)/m))
 refine KH (Ld ?_)
 exact Lu (v:=iv ((s+m/2)/m)) s5 rfl rfl s9 ⟨rfl,(KP.refl (fun _=>False) w0)⟩
theorem VN(X Y:Int)(w0:World) :
  Calls Tryz.prog 103 #[.agg #[.int .i64 (X),.int .i64 (Y)]] w0 fun e w'=>e = .returned (.int .i64 (PI X Y))/\KP (fun _=>False) w0 w':=by
 refine Ls (args:=[.agg #[iv X,iv Y]]) 13 Tryz.func103 rfl rfl (Nat.le_of_ble_eq_true rfl) ?_
 refine KK (KI (Lx (vs:=[iv X,iv Y]) rfl rfl rfl rfl fun p1 w2 B4 g5 k3=>?_))
 have K7:=(KP.refl (fun _=>False) w0).tr k3
 refine KJ (iv 0) rfl rfl (KX rfl rfl rr) (KO ?_)
 have ah:=La (undef)
 have ac:=La (pt p1 0)
 refine KH (KK (KK ?_))
 by_cases ai : -31<=X/\X<=31
 ·skip
  by_cases aj : -31<=Y/\Y<=31
  ·skip
   refine KI (KJ (pt p1 0) rfl rfl (KT (n:=1) rfl ac Tryz.underlying67 rfl (by kernel_rfl) (by decide) rfl rr) (KJ (iv X) rfl rfl (KV rfl rfl Tryz.underlying3 B4 rfl rfl rr) (Ly (R:=fun v_ w_=>v_ = .bool true/\KP (fun _=>False) w2 w_) rfl rfl (LE rfl rfl rfl (fun _ _=>by kernel_rfl) (K4 _) (Lm rfl LS) (RN X  _   ) (fun e_ w_ h_=>⟨_,h_.1,(congrArg Value.bool (decide_eq_true ai)),h_.2⟩)) ?_)))
   rintro _ ao ⟨rfl,ak⟩
   have ap:=B4.all ak id
   refine KJ (.bool false) rfl rfl (LW rfl rfl rfl rr) (KJ (.bool false) rfl rfl (KQ rfl rfl rr) (KR (pt p1 1) 4 false 7 rfl rfl rfl rfl rfl (KT (n:=1) rfl ac Tryz.underlying67 rfl (by kernel_rfl) (by decide) rfl rr) (KR (iv Y) 4 false 7 rfl rfl rfl rfl rfl (KV rfl rfl Tryz.underlying3 ap rfl rfl rr) (LA (R:=fun v_ w_=>v_ = .bool true/\KP (fun _=>False) ao w_) 4 false 7 rfl rfl rfl rfl rfl (LE rfl rfl rfl (fun _ _=>by kernel_rfl) (K4 _) (Lm rfl LS) (RN Y  _   ) (fun e_ w_ h_=>⟨_,h_.1,(congrArg Value.bool (decide_eq_true aj)),h_.2⟩)) ?_))))
   rintro _ aG ⟨rfl,aq⟩
   refine KR (.bool false) 4 false 7 rfl rfl rfl rfl rfl (LW rfl rfl rfl rr) (KJ (.bool false) rfl rfl (Lb rfl rfl rfl rr) (KO ?_))
   have ar:=La (.bool false)
   refine KH ?_
   refine Lc (t:=false) ar (fun e=>by cases e) (fun _=>?_)
   refine Li (KH (KK (KI (KJ (iv 0) rfl rfl (KX rfl rfl rr) (KO ?_)))))
   have au:=La (iv 0)
   refine KH (Ld ?_)
   exact Lu (v:=iv 0) ah rfl rfl au ⟨(by first|rw[O2 (by unfold Ni;omega)]|rw[NM (by unfold Ni;omega)]),((K7.tr ak).tr aq)⟩
  ·skip
   refine KI (KJ (pt p1 0) rfl rfl (KT (n:=1) rfl ac Tryz.underlying67 rfl (by kernel_rfl) (by decide) rfl rr) (KJ (iv X) rfl rfl (KV rfl rfl Tryz.underlying3 B4 rfl rfl rr) (Ly (R:=fun v_ w_=>v_ = .bool true/\KP (fun _=>False) w2 w_) rfl rfl (LE rfl rfl rfl (fun _ _=>by kernel_rfl) (K4 _) (Lm rfl LS) (RN X  _   ) (fun e_ w_ h_=>⟨_,h_.1,(congrArg Value.bool (decide_eq_true ai)),h_.2⟩)) ?_)))
   rintro _ av ⟨rfl,am⟩
   have aw:=B4.all am id
   refine KJ (.bool false) rfl rfl (LW rfl rfl rfl rr) (KJ (.bool false) rfl rfl (KQ rfl rfl rr) (KR (pt p1 1) 4 false 7 rfl rfl rfl rfl rfl (KT (n:=1) rfl ac Tryz.underlying67 rfl (by kernel_rfl) (by decide) rfl rr) (KR (iv Y) 4 false 7 rfl rfl rfl rfl rfl (KV rfl rfl Tryz.underlying3 aw rfl rfl rr) (LA (R:=fun v_ w_=>v_ = .bool false/\KP (fun _=>False) av w_) 4 false 7 rfl rfl rfl rfl rfl (LE rfl rfl rfl (fun _ _=>by kernel_rfl) (K4 _) (Lm rfl LS) (RN Y  _   ) (fun e_ w_ h_=>⟨_,h_.1,(congrArg Value.bool (decide_eq_false aj)),h_.2⟩)) ?_))))
   rintro _ aH ⟨rfl,az⟩
   refine KR (.bool true) 4 false 7 rfl rfl rfl rfl rfl (LW rfl rfl rfl rr) (KJ (.bool true) rfl rfl (Lb rfl rfl rfl rr) (KO ?_))
   have aA:=La (.bool true)
   refine KH ?_
   refine Lc (t:=true) aA (fun _=>?_) (fun e=>by cases e)
   refine KK (KI (KJ (iv 90) rfl rfl (KX rfl rfl rr) (KO ?_)))
   have aB:=La (iv 90)
   refine KH (Ld (Lq ?_))
   exact Lu (v:=iv 90) ah rfl rfl aB ⟨(by first|rw[O2 (by unfold Ni;omega)]|rw[NM (by unfold Ni;omega)]),((K7.tr am).tr az)⟩
 ·skip
  refine KI (KJ (pt p1 0) rfl rfl (KT (n:=1) rfl ac Tryz.underlying67 rfl (by kernel_rfl) (by decide) rfl rr) (KJ (iv X) rfl rfl (KV rfl rfl Tryz.underlying3 B4 rfl rfl rr) (Ly (R:=fun v_ w_=>v_ = .bool false/\KP (fun _=>False) w2 w_) rfl rfl (LE rfl rfl rfl (fun _ _=>by kernel_rfl) (K4 _) (Lm rfl LS) (RN X  _   ) (fun e_ w_ h_=>⟨_,h_.1,(congrArg Value.bool (decide_eq_false ai)),h_.2⟩)) ?_)))
  rintro _ aI ⟨rfl,aC⟩
  refine KJ (.bool true) rfl rfl (LW rfl rfl rfl rr) (KJ (.bool true) rfl rfl (KQ rfl rfl rr) (KL 4 false 7 rfl rfl rfl (Or.inl rfl) rfl (KL 4 false 7 rfl rfl rfl (Or.inl rfl) rfl (KL 4 false 7 rfl rfl rfl (Or.inl rfl) rfl (KL 4 false 7 rfl rfl rfl (Or.inl rfl) rfl (KJ (.bool true) rfl rfl (Lg rfl rfl rfl rr) (KO ?_)))))))
  have aD:=La (.bool true)
  refine KH ?_
  refine Lc (t:=true) aD (fun _=>?_) (fun e=>by cases e)
  refine KK (KI (KJ (iv 90) rfl rfl (KX rfl rfl rr) (KO ?_)))
  have aE:=La (iv 90)
  refine KH (Ld (Lq ?_))
  exact Lu (v:=iv 90) ah rfl rfl aE ⟨(by first|rw[O2 (by unfold Ni;omega)]|rw[NM (by unfold Ni;omega)]),(K7.tr aC)⟩
theorem aBv(a b:Nat->Int)(w0:World) :
  Calls Tryz.prog 111 #[LK (a),LK (b)] w0 fun e w'=>e = .returned (LK (Uh a b))/\KP (fun _=>False) w0 w':=by
 refine Ls (args:=[LK a,LK b]) 23 Tryz.func111 rfl rfl (Nat.le_of_ble_eq_true rfl) ?_
 have K0:=KP.refl (fun _=>False) w0
 refine KK (KI (M6 rfl rfl rfl rfl fun p1 w2 e5 B3 k4=>?_))
 refine M6 rfl rfl rfl rfl fun p9 bG av aN aw=>?_
 have af:=LV (Nat.le_of_eq av.symm)
 have aO:=KM.new af (LO B3.lt)
 clear av af
 have az:=B3.all aw id
 have aA:=(K0.tr k4).tr aw
 refine L1 rfl rfl rfl KZ.2.2 fun ah bH aB aP aC=>?_
 have aD:=LV (Nat.le_of_eq aB.symm)
 have aQ:=KM.new aD (LO az.lt)
 clear aB
 obtain⟨aR,aS⟩:=NL aC az aN
 refine KO ?_
 have aT:=La (undef)
 have aU:=La (pt p1 0)
 have aV:=La (pt p9 0)
 have aW:=La (pt ah 0)
 refine KH (KK (KK (KI (KJ (iv 0) rfl rfl (KQ rfl rfl rr) (KO ?_)))))
 have aX:=La (iv 0)
 refine KH (Lo (M4 (fun nn FF ww=>∃ (i:Nat),(i<=16)/\nn=16-i/\FF 2=pt p1 0/\FF 3=pt p9 0/\FF 4=pt ah 0/\FF 23=undef/\FF 6=iv ((i:Nat):Int)/\KP (fun _=>False) w0 ww/\NO ww p1 69 (upto i a (Uh a b))/\NO ww p9 69 b/\NO ww ah 69 (fun _=>0)) (16-0) ⟨0,by omega,rfl,aU,aV,aW,aT,aX,(aA.tr aC),aR.first,aS,aP⟩ ?_))
 rintro bI bJ aY ⟨i,i48,hn47,ai,aE,ak,aF,am,aG,an,aH,aI⟩
 refine KK (KI (KJ (.bool (decide (((i:Nat):Int)<16))) rfl rfl (L5 rfl am rfl rfl rr) (KO ?_)))
 have aZ:=La (.bool (decide (((i:Nat):Int)<16)))
 refine KH (KK ?_)
 refine Lc aZ (fun ae=>?_) (fun ae=>?_)
 ·replace ae:=of_decide_eq_true ae
  refine Li (KH (KK (Lo (KK (KI (KW rfl rfl rfl am (KJ (iv ((i:Nat):Int)) rfl rfl (KX rfl rfl rr) (KO ?_))))))))
  have ao:=La (iv ((i:Nat):Int))
  refine KH ?_
  have h1:=Zd (a i)
  have h2:=Zd (b i)
  refine Nd 12 [some 9,some 10,some 11,some 12,some 13,some 14,some 15,some 16,some 17,some 18,some 19,some 20] [Pd.eq (iv ((i:Nat):Int)),Pd.eq (iv ((i:Nat):Int)),Pd.eq (.pointer (some ⟨p1,i,none⟩)),Pd.eq (iv (a i)),Pd.eq (iv (c8 (a i))),Pd.eq (iv ((i:Nat):Int)),Pd.eq (.pointer (some ⟨p9,i,none⟩)),Pd.eq (iv (b i)),Pd.eq (iv (c8 (b i))),Pd.eq (iv ((c8 (a i))+(c8 (b i)))),Pd.eq (iv ((c8 (a i)+c8 (b i)+1)/2)),Pd.eq (.pointer (some ⟨p1,i,none⟩))] (by kernel_rfl) (by kernel_rfl) (by kernel_rfl) ?_ ?_
  ·refine KN ?_ ?_
   ·refine Le.one rfl fun F_ w_ hR hout hD=>?_
    exact(KQ rfl ((hout 5 rfl (by decide)).trans ao) ⟨rfl,KP.refl _ _⟩)
   refine KN ?_ ?_
   ·refine Le.one rfl fun F_ w_ hR hout hD=>?_
    exact(KQ rfl ((hout 5 rfl (by decide)).trans ao) ⟨rfl,KP.refl _ _⟩)
   refine KN ?_ ?_
   ·refine Le.one rfl fun F_ w_ hR hout hD=>?_
    have a8:F_ 10=iv ((i:Nat):Int):=(hD.get 0 rfl rfl rfl)
    exact(LU i (s:=1) rfl ((hout 2 rfl (by decide)).trans ai) a8 (by omega) Tryz.underlying69 (by omega) (by kernel_rfl) (by omega) ⟨rfl,KP.refl _ _⟩)
   refine KN ?_ ?_
   ·refine Le.one rfl fun F_ w_ hR hout hD=>?_
    have a9:F_ 11 = .pointer (some ⟨p1,i,none⟩):=(hD.get 0 rfl rfl rfl)
    exact(OI rfl a9 Tryz.underlying3 (((an.all hR id).cell (by omega)).trans (Tl (UJ i _ _))) ⟨rfl,KP.refl _ _⟩)
   refine KN ?_ ?_
   ·refine Le.one rfl fun F_ w_ hR hout hD=>?_
    have ba:F_ 12=iv (a i):=(hD.get 0 rfl rfl rfl)
    exact(LE rfl rfl rfl (fun _ _=>by kernel_rfl) (K4 _) (Lm ba (Lm rfl (Lm rfl LS))) (Rg (a i) 0 255  _   ) (fun e_ w_ h_=>⟨_,h_.1,congrArg (Value.int .i64) (by unfold c8;omega),h_.2⟩))
   refine KN ?_ ?_
   ·refine Le.one rfl fun F_ w_ hR hout hD=>?_
    exact(KQ rfl ((hout 5 rfl (by decide)).trans ao) ⟨rfl,KP.refl _ _⟩)
   refine KN ?_ ?_
   ·refine Le.one rfl fun F_ w_ hR hout hD=>?_
    have af:F_ 14=iv ((i:Nat):Int):=(hD.get 0 rfl rfl rfl)
    exact(LU i (s:=1) rfl ((hout 3 rfl (by decide)).trans aE) af (by omega) Tryz.underlying69 (by omega) (by kernel_rfl) (by omega) ⟨rfl,KP.refl _ _⟩)
   refine KN ?_ ?_
   ·refine Le.one rfl fun F_ w_ hR hout hD=>?_
    have bb:F_ 15 = .pointer (some ⟨p9,i,none⟩):=(hD.get 0 rfl rfl rfl)
    exact(OI rfl bb Tryz.underlying3 ((aH.all hR id).cell (by omega)) ⟨rfl,KP.refl _ _⟩)
   refine KN ?_ ?_
   ·refine Le.one rfl fun F_ w_ hR hout hD=>?_
    have bc:F_ 16=iv (b i):=(hD.get 0 rfl rfl rfl)
    exact(LE rfl rfl rfl (fun _ _=>by kernel_rfl) (K4 _) (Lm bc (Lm rfl (Lm rfl LS))) (Rg (b i) 0 255  _   ) (fun e_ w_ h_=>⟨_,h_.1,congrArg (Value.int .i64) (by unfold c8;omega),h_.2⟩))
   refine KN ?_ ?_
   ·refine Le.one rfl fun F_ w_ hR hout hD=>?_
    have bd:F_ 13=iv (c8 (a i)):=(hD.get 0 rfl rfl rfl)
    have be:F_ 17=iv (c8 (b i)):=(hD.get 1 rfl rfl rfl)
    exact(LR rfl bd be (Mb rfl (by omega)) ⟨rfl,KP.refl _ _⟩)
   refine KN ?_ ?_
   ·refine Le.one rfl fun F_ w_ hR hout hD=>?_
    have bf:F_ 18=iv ((c8 (a i))+(c8 (b i))):=(hD.get 0 rfl rfl rfl)
    exact(LE rfl rfl rfl (fun _ _=>by kernel_rfl) (K4 _) (Lm bf (Lm rfl LS)) (UO ((c8 (a i))+(c8 (b i))) 2  _ (by omega) (by omega)  ) (fun e_ w_ h_=>⟨_,h_.1,congrArg (Value.int .i64) (by omega),h_.2⟩))
   refine KN ?_ ?_
   ·refine Le.one rfl fun F_ w_ hR hout hD=>?_
    have g9:F_ 9=iv ((i:Nat):Int):=(hD.get 0 rfl rfl rfl)
    exact(LU i (s:=1) rfl ((hout 2 rfl (by decide)).trans ai) g9 (by omega) Tryz.underlying69 (by omega) (by kernel_rfl) (by omega) ⟨rfl,KP.refl _ _⟩)
   exact L3
  intro bK aJ bL aK ap aj
  obtain⟨bh,bi,bj⟩:=ND aK an aH aI
  obtain⟨bl,bm,bn,bo,bp⟩:=t5 aj 2 ai 3 aE 4 ak 23 aF 6 am
  have bq:aJ 19=iv ((c8 (a i)+c8 (b i)+1)/2):=(aj 19).trans (ap 10 (by decide))
  have bt:aJ 20 = .pointer (some ⟨p1,i,none⟩):=(aj 20).trans (ap 11 (by decide))
  clear ap aj
  refine NQ rfl rfl rfl bt bq bh (by omega) (by kernel_rfl) fun bN bu aq=>?_
  have bv:=bi.all aq (aO p9 rfl)
  have bz:=bj.all aq (aQ ah rfl)
  refine KO ?_
  refine LD (KH (KI (KJ (iv ((i+1:Nat):Int)) rfl rfl (LR rfl bp rfl (L2 (by omega) (by omega)) rr) (KJ (iv ((i+1:Nat):Int)) rfl rfl (KQ rfl rfl rr) (KO ?_)))))
  have bA:=La (iv ((i+1:Nat):Int))
  exact KH ⟨(16-(i+1)),by omega,i+1,by omega,rfl,bl,bm,bn,bo,bA,((aG.tr aK).trans aq (KS.ok (S:=fun _=>False) (KS.new K0 (LV (Nat.le_of_eq e5.symm))) K6)),(bu.next (aAL a b i).symm),bv,bz⟩
 ·replace ae:=of_decide_eq_false ae
  refine Mg (Lt (Lt ?_))
  have bB:16=i:=by omega
  subst bB
  have bC:NO aY p1 69 (Uh a b):=(an.last)
  refine Mh (KH (KK (KI (KJ (LK (Uh a b)) rfl rfl (LZ KZ rfl ai bC rr) (Lp KZ rfl rfl rfl ak rfl aI fun bO bD bE=>?_)))))
  refine KO ?_
  refine KH (Ld ?_)
  exact QE KZ aF rfl rfl ak bD ⟨rfl,(aG.trans bE (KS.ok (S:=fun _=>False) (KS.new aA aD) K6))⟩
theorem ZR(p x y:Int)(f:FD)(f0 f1 f2:Value)(T_f0:Nat->Prop)(T_f1:Nat->Prop)(T_f2:Nat->Prop)(w0:World)(h_f0:L9 w0 T_f0 f0 ((f).p0))(h_f1:L9 w0 T_f1 f1 ((f).p1))(h_f2:L9 w0 T_f2 f2 ((f).p2)) :
  Calls Tryz.prog 136 #[.agg #[.int .i64 ((f).W),.int .i64 ((f).H),f0,f1,f2],.int .i64 (p),.int .i64 (x),.int .i64 (y)] w0 fun e w'=>e = .returned (.int .i64 (aCZ f p x y))/\KP (fun _=>False) w0 w':=by
 refine Ls (args:=[.agg #[iv (f.W),iv (f.H),f0,f1,f2],iv p,iv x,iv y]) 72 Tryz.func136 rfl rfl (Nat.le_of_ble_eq_true rfl) ?_
 have hb:U5 f:=⟨h_f0.lt256,h_f1.lt256,h_f2.lt256⟩
 obtain⟨u,hu⟩:∃ u,u=Xx x:=⟨_,rfl⟩
 obtain⟨v,hv⟩:∃ v,v=Xx y:=⟨_,rfl⟩
 have hu2 : -256<=u/\u<=256:=by rw[hu];unfold Xx;omega
 have hv2 : -256<=v/\v<=256:=by rw[hv];unfold Xx;omega
 have hm:aCZ f p x y=VT f p u v:=by rw[hu,hv];rfl
 have a1:=TN hb p (u/2) (v/2)
 have a2:=TN hb p ((u+1)/2) (v/2)
 have a3:=TN hb p (u/2) ((v+1)/2)
 have a4:=TN hb p ((u+1)/2) ((v+1)/2)
 obtain⟨N,hN⟩:∃ N:Nat,(N:Int)=u%2+v%2:=⟨(u%2+v%2).toNat,by omega⟩
 obtain⟨M,hM⟩:∃ M:Int,M=2 ^ N:=⟨_,rfl⟩
 have hM2:(N=0/\M=1)\/(N=1/\M=2)\/(N=2/\M=4):=by rcases (by omega:N=0\/N=1\/N=2) with h|h|h <;> subst h <;> simp[hM]
 have g_f0:=KS.refl w0 T_f0
 have g_f1:=KS.refl w0 T_f1
 have g_f2:=KS.refl w0 T_f2
 refine KK (KI (Lx (vs:=[iv (f.W),iv (f.H),f0,f1,f2]) rfl rfl rfl rfl fun p1 w2 B4 g5 k3=>?_))
 obtain⟨aU,aV,aW⟩:=ND k3 h_f0 h_f1 h_f2
 refine KJ (iv 0) rfl rfl (KX rfl rfl rr) (KO ?_)
 have aa:=La (iv p)
 have aX:=La (iv x)
 have aY:=La (iv y)
 have ap:=La (undef)
 have ab:=La (pt p1 0)
 refine KH (KK (KI (KW rfl rfl rfl aX (Ly (R:=fun v_ w_=>v_=iv u/\KP (fun _=>False) w2 w_) rfl rfl (LE rfl rfl rfl (fun _ _=>by kernel_rfl) (K4 _) (Lm rfl (Lm rfl (Lm rfl LS))) (Rg x (-256) 256  _   ) (fun e_ w_ h_=>⟨_,h_.1,congrArg (Value.int .i64) (by rw[hu];unfold Xx;omega),h_.2⟩)) ?_))))
 rintro _ aZ ⟨rfl,aw⟩
 obtain⟨a8,a9,ba,bb⟩:=OW aw aU aV aW B4
 refine KW rfl rfl rfl aY (Ly (R:=fun v_ w_=>v_=iv v/\KP (fun _=>False) aZ w_) rfl rfl (LE rfl rfl rfl (fun _ _=>by kernel_rfl) (K4 _) (Lm rfl (Lm rfl (Lm rfl LS))) (Rg y (-256) 256  _   ) (fun e_ w_ h_=>⟨_,h_.1,congrArg (Value.int .i64) (by rw[hv];unfold Xx;omega),h_.2⟩)) ?_)
 rintro _ b9 ⟨rfl,az⟩
 obtain⟨ac,ae,af,ah⟩:=OW az a8 a9 ba bb
 have aq:=(((KP.refl (fun _=>False) w0).tr k3).tr aw).tr az
 refine KJ (iv u) rfl rfl (KX rfl rfl rr) (KJ (iv v) rfl rfl (KX rfl rfl rr) (KO ?_))
 have aA:=La (iv u)
 have aB:=La (iv v)
 refine KH (KK (KI (KW rfl rfl rfl aA (KJ (iv (u/2)) rfl rfl (RI 1 rfl rfl rfl (by decide) (by simp) rr) (KW rfl rfl rfl aB (KJ (iv (v/2)) rfl rfl (RI 1 rfl rfl rfl (by decide) (by simp) rr) (KJ (iv (u/2)) rfl rfl (KX rfl rfl rr) (KJ (iv (v/2)) rfl rfl (KX rfl rfl rr) (KO ?_)))))))))
 have ai:=La (iv (u/2))
 have aj:=La (iv (v/2))
 refine KH (KK (KI (KW rfl rfl rfl aA (KJ (iv (u%2)) rfl rfl (VL rfl rfl rfl (Zq hu2) rr) (KW rfl rfl rfl aB (KJ (iv (v%2)) rfl rfl (VL rfl rfl rfl (Zq hv2) rr) (KJ (iv (u%2)) rfl rfl (KX rfl rfl rr) (KJ (iv (v%2)) rfl rfl (KX rfl rfl rr) (KO ?_)))))))))
 have ak:=La (iv (u%2))
 have am:=La (iv (v%2))
 refine KH (KK (KI (KJ (iv 0) rfl rfl (KX rfl rfl rr) (KO ?_))))
 have ar:=La (iv 0)
 refine KH (KK (KK (KI (KW rfl rfl rfl ak (KW rfl rfl rfl am (KJ (iv ((N:Nat):Int)) rfl rfl (LR rfl rfl rfl (Mb hN.symm (by omega)) rr) (KO ?_)))))))
 have aC:=La (iv ((N:Nat):Int))
 refine KH (Lo (KK (Lo (KK (Lo (KK (Lo (KK (KK (KK (KI ?_)))))))))))
 refine KJ (.bool (decide (((N:Nat):Int)=2))) rfl rfl (Mj rfl aC rfl rfl rr) (KJ (.bool (decide (((N:Nat):Int)=2))) rfl rfl (KX rfl rfl rr) (KO ?_))
 have bc:=La (.bool (decide (((N:Nat):Int)=2)))
 refine KH ?_
 refine Lc bc (fun an=>?_) (fun an=>?_)
 ·replace an:=of_decide_eq_true an
  refine Mg (Lt (Lt (Mh (KH ?_))))
  refine Nd 15 [some 33,some 34,some 35,some 36,some 37,some 38,some 39,some 40,some 41,some 42,some 43,some 44,some 45,some 46,some 47] [Pd.eq (iv 0),Pd.eq (.agg #[iv (f.W),iv (f.H),f0,f1,f2]),Pd.eq (iv p),Pd.eq (iv (u/2)),Pd.eq (iv ((u+1)/2)),Pd.eq (iv (v/2)),Pd.eq (iv (Nw f p ((u+1)/2) (v/2))),Pd.eq (.agg #[iv (f.W),iv (f.H),f0,f1,f2]),Pd.eq (iv p),Pd.eq (iv (u/2)),Pd.eq (iv (v/2)),Pd.eq (iv ((v+1)/2)),Pd.eq (iv (Nw f p (u/2) ((v+1)/2))),Pd.eq (iv ((Nw f p ((u+1)/2) (v/2))+(Nw f p (u/2) ((v+1)/2)))),Pd.eq (iv (0+((Nw f p ((u+1)/2) (v/2))+(Nw f p (u/2) ((v+1)/2)))))] (by kernel_rfl) (by kernel_rfl) (by kernel_rfl) ?_ ?_
  ·refine KN ?_ ?_
   ·refine Le.one rfl fun F_ w_ hR hout hD=>?_
    exact(KQ rfl ((hout 13 rfl (by decide)).trans ar) ⟨rfl,KP.refl _ _⟩)
   refine KN ?_ ?_
   ·refine Le.one rfl fun F_ w_ hR hout hD=>?_
    exact(KU K3 rfl ((hout 4 rfl (by decide)).trans ab) (ah.all hR id) ⟨rfl,KP.refl _ _⟩)
   refine KN ?_ ?_
   ·refine Le.one rfl fun F_ w_ hR hout hD=>?_
    exact(KQ rfl ((hout 1 rfl (by decide)).trans aa) ⟨rfl,KP.refl _ _⟩)
   refine KN ?_ ?_
   ·refine Le.one rfl fun F_ w_ hR hout hD=>?_
    exact(KQ rfl ((hout 9 rfl (by decide)).trans ai) ⟨rfl,KP.refl _ _⟩)
   refine KN ?_ ?_
   ·refine Le.one rfl fun F_ w_ hR hout hD=>?_
    have bd:F_ 36=iv (u/2):=(hD.get 0 rfl rfl rfl)
    exact(LR rfl bd rfl (Mb (by omega) (by omega)) ⟨rfl,KP.refl _ _⟩)
   refine KN ?_ ?_
   ·refine Le.one rfl fun F_ w_ hR hout hD=>?_
    exact(KQ rfl ((hout 10 rfl (by decide)).trans aj) ⟨rfl,KP.refl _ _⟩)
   refine KN ?_ ?_
   ·refine Le.one rfl fun F_ w_ hR hout hD=>?_
    have be:F_ 34 = .agg #[iv (f.W),iv (f.H),f0,f1,f2]:=(hD.get 0 rfl rfl rfl)
    have bf:F_ 35=iv p:=(hD.get 1 rfl rfl rfl)
    have bg:F_ 37=iv ((u+1)/2):=(hD.get 2 rfl rfl rfl)
    have bh:F_ 38=iv (v/2):=(hD.get 3 rfl rfl rfl)
    exact(LE rfl rfl rfl (fun _ _=>by kernel_rfl) (K4 _) (Lm be (Lm bf (Lm bg (Lm bh LS)))) (S2 p ((u+1)/2) (v/2) f f0 f1 f2 T_f0 T_f1 T_f2 _  (ac.all hR KM.none) (ae.all hR KM.none) (af.all hR KM.none) ) (fun e_ w_ h_=>⟨_,h_.1,rfl,h_.2⟩))
   refine KN ?_ ?_
   ·refine Le.one rfl fun F_ w_ hR hout hD=>?_
    exact(KU K3 rfl ((hout 4 rfl (by decide)).trans ab) (ah.all hR id) ⟨rfl,KP.refl _ _⟩)
   refine KN ?_ ?_
   ·refine Le.one rfl fun F_ w_ hR hout hD=>?_
    exact(KQ rfl ((hout 1 rfl (by decide)).trans aa) ⟨rfl,KP.refl _ _⟩)
   refine KN ?_ ?_
   ·refine Le.one rfl fun F_ w_ hR hout hD=>?_
    exact(KQ rfl ((hout 9 rfl (by decide)).trans ai) ⟨rfl,KP.refl _ _⟩)
   refine KN ?_ ?_
   ·refine Le.one rfl fun F_ w_ hR hout hD=>?_
    exact(KQ rfl ((hout 10 rfl (by decide)).trans aj) ⟨rfl,KP.refl _ _⟩)
   refine KN ?_ ?_
   ·refine Le.one rfl fun F_ w_ hR hout hD=>?_
    have bi:F_ 43=iv (v/2):=(hD.get 0 rfl rfl rfl)
    exact(LR rfl bi rfl (Mb (by omega) (by omega)) ⟨rfl,KP.refl _ _⟩)
   refine KN ?_ ?_
   ·refine Le.one rfl fun F_ w_ hR hout hD=>?_
    have bj:F_ 40 = .agg #[iv (f.W),iv (f.H),f0,f1,f2]:=(hD.get 0 rfl rfl rfl)
    have bl:F_ 41=iv p:=(hD.get 1 rfl rfl rfl)
    have bm:F_ 42=iv (u/2):=(hD.get 2 rfl rfl rfl)
    have bn:F_ 44=iv ((v+1)/2):=(hD.get 3 rfl rfl rfl)
    exact(LE rfl rfl rfl (fun _ _=>by kernel_rfl) (K4 _) (Lm bj (Lm bl (Lm bm (Lm bn LS)))) (S2 p (u/2) ((v+1)/2) f f0 f1 f2 T_f0 T_f1 T_f2 _  (ac.all hR KM.none) (ae.all hR KM.none) (af.all hR KM.none) ) (fun e_ w_ h_=>⟨_,h_.1,rfl,h_.2⟩))
   refine KN ?_ ?_
   ·refine Le.one rfl fun F_ w_ hR hout hD=>?_
    have bo:F_ 39=iv (Nw f p ((u+1)/2) (v/2)):=(hD.get 0 rfl rfl rfl)
    have bp:F_ 45=iv (Nw f p (u/2) ((v+1)/2)):=(hD.get 1 rfl rfl rfl)
    exact(LR rfl bo bp (Mb rfl (by omega)) ⟨rfl,KP.refl _ _⟩)
   refine KN ?_ ?_
   ·refine Le.one rfl fun F_ w_ hR hout hD=>?_
    have bq:F_ 33=iv 0:=(hD.get 0 rfl rfl rfl)
    have bt:F_ 46=iv ((Nw f p ((u+1)/2) (v/2))+(Nw f p (u/2) ((v+1)/2))):=(hD.get 1 rfl rfl rfl)
    exact(LR rfl bq bt (Mb rfl (by omega)) ⟨rfl,KP.refl _ _⟩)
   exact L3
  intro cd bu ce aD aE au
  obtain⟨aF,aG,aH,aI⟩:=OW aD ac ae af ah
  obtain⟨aJ,bv,aK,aL,aM,aN,aO⟩:=t7 au 1 aa 72 ap 4 ab 9 ai 10 aj 11 ak 12 am
  have bz:bu 47=iv (0+((Nw f p ((u+1)/2) (v/2))+(Nw f p (u/2) ((v+1)/2)))):=(au 47).trans (aE 14 (by decide))
  clear aE au
  refine aB1 rfl rfl rfl bz (KO ?_)
  have bA:=La (iv (0+((Nw f p ((u+1)/2) (v/2))+(Nw f p (u/2) ((v+1)/2)))))
  refine LD (KH (KI (KW rfl rfl rfl bA (KJ (.agg #[iv (f.W),iv (f.H),f0,f1,f2]) rfl rfl (KU K3 rfl aK aI rr) (KW rfl rfl rfl aJ (KW rfl rfl rfl aL (KW rfl rfl rfl aN (KJ (iv ((u+1)/2)) rfl rfl (LR rfl rfl rfl (Mb (by omega) (by omega)) rr) (KW rfl rfl rfl aM (KW rfl rfl rfl aO (KJ (iv ((v+1)/2)) rfl rfl (LR rfl rfl rfl (Mb (by omega) (by omega)) rr) ?_)))))))))))
  refine LY rfl rfl rfl rfl rfl (fun _ _=>by kernel_rfl) (Lm rfl (Lm rfl (Lm rfl (Lm rfl LS)))) (S2 p ((u+1)/2) ((v+1)/2) f f0 f1 f2 T_f0 T_f1 T_f2 _  aF aG aH ) fun cg aP=>?_
  obtain⟨bB,bC,bD,bE⟩:=OW aP aF aG aH aI
  refine KJ (iv ((0+((Nw f p ((u+1)/2) (v/2))+(Nw f p (u/2) ((v+1)/2))))+(Nw f p ((u+1)/2) ((v+1)/2)))) rfl rfl (LR rfl rfl rfl (Mb rfl (by omega)) rr) (KJ (iv ((0+((Nw f p ((u+1)/2) (v/2))+(Nw f p (u/2) ((v+1)/2))))+(Nw f p ((u+1)/2) ((v+1)/2)))) rfl rfl (KX rfl rfl rr) (KO ?_))
  have bF:=La (iv ((0+((Nw f p ((u+1)/2) (v/2))+(Nw f p (u/2) ((v+1)/2))))+(Nw f p ((u+1)/2) ((v+1)/2))))
  refine LD (KH (KK (KI (KW rfl rfl rfl bF (KJ (.agg #[iv (f.W),iv (f.H),f0,f1,f2]) rfl rfl (KU K3 rfl aK bE rr) (KW rfl rfl rfl aJ (KW rfl rfl rfl aL (KW rfl rfl rfl aM (LY rfl rfl rfl rfl rfl (fun _ _=>by kernel_rfl) (Lm rfl (Lm rfl (Lm rfl (Lm rfl LS)))) (S2 p (u/2) (v/2) f f0 f1 f2 T_f0 T_f1 T_f2 _  bB bC bD ) fun bG bH=>?_)))))))))
  refine KJ (iv (((0+((Nw f p ((u+1)/2) (v/2))+(Nw f p (u/2) ((v+1)/2))))+(Nw f p ((u+1)/2) ((v+1)/2)))+(Nw f p (u/2) (v/2)))) rfl rfl (LR rfl rfl rfl (Mb rfl (by omega)) rr) (KJ (iv (((0+((Nw f p ((u+1)/2) (v/2))+(Nw f p (u/2) ((v+1)/2))))+(Nw f p ((u+1)/2) ((v+1)/2)))+(Nw f p (u/2) (v/2)))) rfl rfl (KX rfl rfl rr) (KO ?_))
  have bI:=La (iv (((0+((Nw f p ((u+1)/2) (v/2))+(Nw f p (u/2) ((v+1)/2))))+(Nw f p ((u+1)/2) ((v+1)/2)))+(Nw f p (u/2) (v/2))))
  refine KH (Mg (Mh (KH (KK (KI (KW rfl rfl rfl bI (KW rfl rfl rfl aN (KW rfl rfl rfl aO (KJ (iv ((N:Nat):Int)) rfl rfl (LR rfl rfl rfl (Mb hN.symm (by omega)) rr) (KJ (iv M) rfl rfl (YZ N rfl rfl rfl (by rcases hM2 with ⟨h1,h2⟩ | ⟨h1,h2⟩ | ⟨h1,h2⟩ <;> subst h1 <;> rw[h2] <;> rfl) rr) (Ly (R:=fun v_ w_=>v_=iv (VT f p u v)/\KP (fun _=>False) bG w_) rfl rfl (LE rfl rfl rfl (fun _ _=>by kernel_rfl) (K4 _) (Lm rfl (Lm rfl LS)) (UO (((0+((Nw f p ((u+1)/2) (v/2))+(Nw f p (u/2) ((v+1)/2))))+(Nw f p ((u+1)/2) ((v+1)/2)))+(Nw f p (u/2) (v/2))) M  _ (by omega) (by omega)  ) (fun e_ w_ h_=>⟨_,h_.1,congrArg (Value.int .i64) (by first|(rw[(by omega:M=4)];have e:=VC (f:=f) (p:=p) (u:=u) (v:=v) (by omega) (by omega);omega)|(rw[(by omega:M=2)];rcases (by omega:u%2=0\/v%2=0) with h0|h0;(have e:=VO (f:=f) (p:=p) (u:=u) (v:=v) (by omega) (by omega);rw[show (u+1)/2=u/2 by omega];omega);(have e:=U8 (f:=f) (p:=p) (u:=u) (v:=v) (by omega) (by omega);rw[show (v+1)/2=v/2 by omega];omega))|(rw[(by omega:M=1)];have e:=Vd (f:=f) (p:=p) (u:=u) (v:=v) (by omega) (by omega);omega)),h_.2⟩)) ?_)))))))))))
  rintro _ ci ⟨rfl,bJ⟩
  refine KJ (iv (VT f p u v)) rfl rfl (KX rfl rfl rr) (KO ?_)
  have bK:=La (iv (VT f p u v))
  refine KH (Ld ?_)
  exact Lu (v:=iv (VT f p u v)) bv rfl rfl bK ⟨(by rw[hm]),((((aq.tr aD).tr aP).tr bH).tr bJ)⟩
 ·replace an:=of_decide_eq_false an
  refine Li (KH (KK (KI (KJ (.bool (decide (((N:Nat):Int)=1))) rfl rfl (Mj rfl aC rfl rfl rr) (KJ (.bool (decide (((N:Nat):Int)=1))) rfl rfl (KX rfl rfl rr) (KO ?_))))))
  have bL:=La (.bool (decide (((N:Nat):Int)=1)))
  refine KH ?_
  refine Lc bL (fun ao=>?_) (fun ao=>?_)
  ·replace ao:=of_decide_eq_true ao
   refine Mg (Lt (Q7 (by decide) (Lt (Mh (KH (KI (KW rfl rfl rfl ar (KJ (.agg #[iv (f.W),iv (f.H),f0,f1,f2]) rfl rfl (KU K3 rfl ab ah rr) (KW rfl rfl rfl aa (KW rfl rfl rfl ai (KW rfl rfl rfl ak ?_)))))))))))
   refine KJ (iv ((u+1)/2)) rfl rfl (LR rfl rfl rfl (Mb (by omega) (by omega)) rr) (KW rfl rfl rfl aj (KW rfl rfl rfl am (KJ (iv ((v+1)/2)) rfl rfl (LR rfl rfl rfl (Mb (by omega) (by omega)) rr) (LY rfl rfl rfl rfl rfl (fun _ _=>by kernel_rfl) (Lm rfl (Lm rfl (Lm rfl (Lm rfl LS)))) (S2 p ((u+1)/2) ((v+1)/2) f f0 f1 f2 T_f0 T_f1 T_f2 _  ac ae af ) fun cj aQ=>?_))))
   obtain⟨bM,bN,bO,bP⟩:=OW aQ ac ae af ah
   refine KJ (iv (0+(Nw f p ((u+1)/2) ((v+1)/2)))) rfl rfl (LR rfl rfl rfl (Mb rfl (by omega)) rr) (KJ (iv (0+(Nw f p ((u+1)/2) ((v+1)/2)))) rfl rfl (KX rfl rfl rr) (KO ?_))
   have bQ:=La (iv (0+(Nw f p ((u+1)/2) ((v+1)/2))))
   refine LD (KH (KK (KI (KW rfl rfl rfl bQ (KJ (.agg #[iv (f.W),iv (f.H),f0,f1,f2]) rfl rfl (KU K3 rfl ab bP rr) (KW rfl rfl rfl aa (KW rfl rfl rfl ai (KW rfl rfl rfl aj (LY rfl rfl rfl rfl rfl (fun _ _=>by kernel_rfl) (Lm rfl (Lm rfl (Lm rfl (Lm rfl LS)))) (S2 p (u/2) (v/2) f f0 f1 f2 T_f0 T_f1 T_f2 _  bM bN bO ) fun bR bS=>?_)))))))))
   refine KJ (iv ((0+(Nw f p ((u+1)/2) ((v+1)/2)))+(Nw f p (u/2) (v/2)))) rfl rfl (LR rfl rfl rfl (Mb rfl (by omega)) rr) (KJ (iv ((0+(Nw f p ((u+1)/2) ((v+1)/2)))+(Nw f p (u/2) (v/2)))) rfl rfl (KX rfl rfl rr) (KO ?_))
   have bT:=La (iv ((0+(Nw f p ((u+1)/2) ((v+1)/2)))+(Nw f p (u/2) (v/2))))
   refine KH (Mg (Mh (KH (KK (KI (KW rfl rfl rfl bT (KW rfl rfl rfl ak (KW rfl rfl rfl am (KJ (iv ((N:Nat):Int)) rfl rfl (LR rfl rfl rfl (Mb hN.symm (by omega)) rr) (KJ (iv M) rfl rfl (YZ N rfl rfl rfl (by rcases hM2 with ⟨h1,h2⟩ | ⟨h1,h2⟩ | ⟨h1,h2⟩ <;> subst h1 <;> rw[h2] <;> rfl) rr) (Ly (R:=fun v_ w_=>v_=iv (VT f p u v)/\KP (fun _=>False) bR w_) rfl rfl (LE rfl rfl rfl (fun _ _=>by kernel_rfl) (K4 _) (Lm rfl (Lm rfl LS)) (UO ((0+(Nw f p ((u+1)/2) ((v+1)/2)))+(Nw f p (u/2) (v/2))) M  _ (by omega) (by omega)  ) (fun e_ w_ h_=>⟨_,h_.1,congrArg (Value.int .i64) (by first|(rw[(by omega:M=4)];have e:=VC (f:=f) (p:=p) (u:=u) (v:=v) (by omega) (by omega);omega)|(rw[(by omega:M=2)];rcases (by omega:u%2=0\/v%2=0) with h0|h0;(have e:=VO (f:=f) (p:=p) (u:=u) (v:=v) (by omega) (by omega);rw[show (u+1)/2=u/2 by omega];omega);(have e:=U8 (f:=f) (p:=p) (u:=u) (v:=v) (by omega) (by omega);rw[show (v+1)/2=v/2 by omega];omega))|(rw[(by omega:M=1)];have e:=Vd (f:=f) (p:=p) (u:=u) (v:=v) (by omega) (by omega);omega)),h_.2⟩)) ?_)))))))))))
   rintro _ cm ⟨rfl,bU⟩
   refine KJ (iv (VT f p u v)) rfl rfl (KX rfl rfl rr) (KO ?_)
   have bV:=La (iv (VT f p u v))
   refine KH (Ld ?_)
   exact Lu (v:=iv (VT f p u v)) ap rfl rfl bV ⟨(by rw[hm]),(((aq.tr aQ).tr bS).tr bU)⟩
  ·replace ao:=of_decide_eq_false ao
   refine Li (KH (Mg (Q7 (by decide) (Lt (Q7 (by decide) (Lt (Mh (KH (KK (KI (KW rfl rfl rfl ar ?_)))))))))))
   refine KJ (.agg #[iv (f.W),iv (f.H),f0,f1,f2]) rfl rfl (KU K3 rfl ab ah rr) (KW rfl rfl rfl aa (KW rfl rfl rfl ai (KW rfl rfl rfl aj (LY rfl rfl rfl rfl rfl (fun _ _=>by kernel_rfl) (Lm rfl (Lm rfl (Lm rfl (Lm rfl LS)))) (S2 p (u/2) (v/2) f f0 f1 f2 T_f0 T_f1 T_f2 _  ac ae af ) fun bW bX=>?_))))
   refine KJ (iv (0+(Nw f p (u/2) (v/2)))) rfl rfl (LR rfl rfl rfl (Mb rfl (by omega)) rr) (KJ (iv (0+(Nw f p (u/2) (v/2)))) rfl rfl (KX rfl rfl rr) (KO ?_))
   have bY:=La (iv (0+(Nw f p (u/2) (v/2))))
   refine KH (Mg (Mh (KH (KK (KI (KW rfl rfl rfl bY (KW rfl rfl rfl ak (KW rfl rfl rfl am (KJ (iv ((N:Nat):Int)) rfl rfl (LR rfl rfl rfl (Mb hN.symm (by omega)) rr) (KJ (iv M) rfl rfl (YZ N rfl rfl rfl (by rcases hM2 with ⟨h1,h2⟩ | ⟨h1,h2⟩ | ⟨h1,h2⟩ <;> subst h1 <;> rw[h2] <;> rfl) rr) (Ly (R:=fun v_ w_=>v_=iv (VT f p u v)/\KP (fun _=>False) bW w_) rfl rfl (LE rfl rfl rfl (fun _ _=>by kernel_rfl) (K4 _) (Lm rfl (Lm rfl LS)) (UO (0+(Nw f p (u/2) (v/2))) M  _ (by omega) (by omega)  ) (fun e_ w_ h_=>⟨_,h_.1,congrArg (Value.int .i64) (by first|(rw[(by omega:M=4)];have e:=VC (f:=f) (p:=p) (u:=u) (v:=v) (by omega) (by omega);omega)|(rw[(by omega:M=2)];rcases (by omega:u%2=0\/v%2=0) with h0|h0;(have e:=VO (f:=f) (p:=p) (u:=u) (v:=v) (by omega) (by omega);rw[show (u+1)/2=u/2 by omega];omega);(have e:=U8 (f:=f) (p:=p) (u:=u) (v:=v) (by omega) (by omega);rw[show (v+1)/2=v/2 by omega];omega))|(rw[(by omega:M=1)];have e:=Vd (f:=f) (p:=p) (u:=u) (v:=v) (by omega) (by omega);omega)),h_.2⟩)) ?_)))))))))))
   rintro _ cn ⟨rfl,bZ⟩
   refine KJ (iv (VT f p u v)) rfl rfl (KX rfl rfl rr) (KO ?_)
   have b7:=La (iv (VT f p u v))
   refine KH (Ld ?_)
   exact Lu (v:=iv (VT f p u v)) ap rfl rfl b7 ⟨(by rw[hm]),((aq.tr bX).tr bZ)⟩
theorem Sy(p x y X Y:Int)(f:FD)(f0 f1 f2:Value)(T_f0:Nat->Prop)(T_f1:Nat->Prop)(T_f2:Nat->Prop)(w0:World)(h_f0:L9 w0 T_f0 f0 ((f).p0))(h_f1:L9 w0 T_f1 f1 ((f).p1))(h_f2:L9 w0 T_f2 f2 ((f).p2)) :
  Calls Tryz.prog 110 #[.agg #[.int .i64 ((f).W),.int .i64 ((f).H),f0,f1,f2],.int .i64 (p),.int .i64 (x),.int .i64 (y),.agg #[.int .i64 (X),.int .i64 (Y)]] w0 fun e w'=>e = .returned (.tuple #[LK (Uf f p x y X Y),.int .i64 (OX f p x y X Y)])/\KP (fun _=>False) w0 w':=by
 refine Ls (args:=[.agg #[iv (f.W),iv (f.H),f0,f1,f2],iv p,iv x,iv y,.agg #[iv X,iv Y]]) 69 Tryz.func110 rfl rfl (Nat.le_of_ble_eq_true rfl) ?_
 have g_f0:=KS.refl w0 T_f0
 have g_f1:=KS.refl w0 T_f1
 have g_f2:=KS.refl w0 T_f2
 refine KK (KI (Lx (vs:=[iv (f.W),iv (f.H),f0,f1,f2]) rfl rfl rfl rfl fun p1 w2 B4 g5 k3=>?_))
 obtain⟨bJ,bK,bL⟩:=ND k3 h_f0 h_f1 h_f2
 refine Lx (vs:=[iv X,iv Y]) rfl rfl rfl rfl fun an dN bM dO aO=>?_
 obtain⟨bN,bO,bP,bQ⟩:=OW aO bJ bK bL B4
 have aP:=((KP.refl (fun _=>False) w0).tr k3).tr aO
 refine L1 rfl rfl rfl KZ.2.2 fun aA dP aQ ao aR=>?_
 have aS:=LV (Nat.le_of_eq aQ.symm)
 have ac:=KS.new aP aS
 clear aQ aS
 obtain⟨ae,af,ah,ai,bR⟩:=OJ aR bN bO bP bQ bM
 have ap:=aP.tr aR
 refine KJ (iv 0) rfl rfl (KX rfl rfl rr) (KO ?_)
 have ab:=La (iv p)
 have aB:=La (iv x)
 have aD:=La (iv y)
 have aj:=La (undef)
 have ak:=La (pt p1 0)
 have aT:=La (pt an 0)
 have aa:=La (pt aA 0)
 refine KH (KK (KK ?_))
 by_cases aq:(Na f)≠0
 ·skip
  refine KI (KJ (.agg #[iv (f.W),iv (f.H),f0,f1,f2]) rfl rfl (KU K3 rfl ak ai rr) (LY rfl rfl rfl rfl rfl (fun _ _=>by kernel_rfl) (Lm rfl LS) (M0 f f0 f1 f2 T_f0 T_f1 T_f2 _  ae af ah ) fun dQ aU=>?_))
  have bS:=ao.all aU id
  refine KJ (.bool true) rfl rfl (Mc rfl rfl rfl (decide_eq_true aq) rr) (KJ (.bool true) rfl rfl (KQ rfl rfl rr) (KL 3 false 18 rfl rfl rfl (Or.inl rfl) rfl (KL 3 false 18 rfl rfl rfl (Or.inl rfl) rfl (KJ (.bool true) rfl rfl (Lg rfl rfl rfl rr) (KJ (.bool true) rfl rfl (KQ rfl rfl rr) (KL 7 false 22 rfl rfl rfl (Or.inl rfl) rfl (KL 7 false 22 rfl rfl rfl (Or.inl rfl) rfl (KJ (.bool true) rfl rfl (Lg rfl rfl rfl rr) (KJ (.bool true) rfl rfl (KQ rfl rfl rr) (KL 11 false 26 rfl rfl rfl (Or.inl rfl) rfl (KL 11 false 26 rfl rfl rfl (Or.inl rfl) rfl ?_)))))))))))
  refine KL 11 false 26 rfl rfl rfl (Or.inl rfl) rfl (KJ (.bool true) rfl rfl (Lg rfl rfl rfl rr) (KJ (.bool true) rfl rfl (KQ rfl rfl rr) (KL 16 false 31 rfl rfl rfl (Or.inl rfl) rfl (KL 16 false 31 rfl rfl rfl (Or.inl rfl) rfl (KL 16 false 31 rfl rfl rfl (Or.inl rfl) rfl (KJ (.bool true) rfl rfl (Lg rfl rfl rfl rr) (KO ?_)))))))
  have bT:=La (.bool true)
  refine KH ?_
  refine Lc (t:=true) bT (fun _=>?_) (fun e=>by cases e)
  refine KK ?_
  have hno:¬ MX f p x y:=by rintro ⟨h1,h2,h3,h4,h5,h6,h7⟩;first|exact absurd ((Mu f).2 h1) (by assumption)|omega
  refine KI (KJ (LK (fun _=>0)) rfl rfl (Mz (cells:=(L8 16 (fun _=>0)).toArray) rfl (by kernel_rfl) rfl rr) (Lp KZ rfl rfl rfl aa rfl bS fun dR bU bV=>?_))
  refine KJ (iv 70) rfl rfl (KX rfl rfl rr) (KO ?_)
  have bW:=La (iv 70)
  refine KH (Ld (Lq ?_))
  exact L7 aj rfl (Mq KZ rfl aa bU) (Lz (v:=iv 70) rfl bW) ⟨(by first|rw[(Qo hno).1,(Qo hno).2]|rw[(N0 hpl hvn).1,(N0 hpl hvn).2,NM hvn]|rw[(OM hpl hv).1,(OM hpl hv).2]),((ap.tr aU).trans bV (KS.ok (S:=fun _=>False) ac K6))⟩
 ·skip
  by_cases ar:p<0
  ·skip
   refine KI (KJ (.agg #[iv (f.W),iv (f.H),f0,f1,f2]) rfl rfl (KU K3 rfl ak ai rr) (LY rfl rfl rfl rfl rfl (fun _ _=>by kernel_rfl) (Lm rfl LS) (M0 f f0 f1 f2 T_f0 T_f1 T_f2 _  ae af ah ) fun dS aV=>?_))
   have bX:=ao.all aV id
   refine KJ (.bool false) rfl rfl (Mc rfl rfl rfl (decide_eq_false aq) rr) (KJ (.bool false) rfl rfl (KQ rfl rfl rr) (KR (iv p) 3 false 18 rfl rfl rfl rfl rfl (KQ rfl ab rr) (KR (.bool true) 3 false 18 rfl rfl rfl rfl rfl (L5 rfl rfl rfl (decide_eq_true ar) rr) (KJ (.bool true) rfl rfl (Lb rfl rfl rfl rr) (KJ (.bool true) rfl rfl (KQ rfl rfl rr) (KL 7 false 22 rfl rfl rfl (Or.inl rfl) rfl (KL 7 false 22 rfl rfl rfl (Or.inl rfl) rfl (KJ (.bool true) rfl rfl (Lg rfl rfl rfl rr) (KJ (.bool true) rfl rfl (KQ rfl rfl rr) (KL 11 false 26 rfl rfl rfl (Or.inl rfl) rfl (KL 11 false 26 rfl rfl rfl (Or.inl rfl) rfl ?_)))))))))))
   refine KL 11 false 26 rfl rfl rfl (Or.inl rfl) rfl (KJ (.bool true) rfl rfl (Lg rfl rfl rfl rr) (KJ (.bool true) rfl rfl (KQ rfl rfl rr) (KL 16 false 31 rfl rfl rfl (Or.inl rfl) rfl (KL 16 false 31 rfl rfl rfl (Or.inl rfl) rfl (KL 16 false 31 rfl rfl rfl (Or.inl rfl) rfl (KJ (.bool true) rfl rfl (Lg rfl rfl rfl rr) (KO ?_)))))))
   have bY:=La (.bool true)
   refine KH ?_
   refine Lc (t:=true) bY (fun _=>?_) (fun e=>by cases e)
   refine KK ?_
   have hno:¬ MX f p x y:=by rintro ⟨h1,h2,h3,h4,h5,h6,h7⟩;first|exact absurd ((Mu f).2 h1) (by assumption)|omega
   refine KI (KJ (LK (fun _=>0)) rfl rfl (Mz (cells:=(L8 16 (fun _=>0)).toArray) rfl (by kernel_rfl) rfl rr) (Lp KZ rfl rfl rfl aa rfl bX fun dT bZ b7=>?_))
   refine KJ (iv 70) rfl rfl (KX rfl rfl rr) (KO ?_)
   have b8:=La (iv 70)
   refine KH (Ld (Lq ?_))
   exact L7 aj rfl (Mq KZ rfl aa bZ) (Lz (v:=iv 70) rfl b8) ⟨(by first|rw[(Qo hno).1,(Qo hno).2]|rw[(N0 hpl hvn).1,(N0 hpl hvn).2,NM hvn]|rw[(OM hpl hv).1,(OM hpl hv).2]),((ap.tr aV).trans b7 (KS.ok (S:=fun _=>False) ac K6))⟩
  ·skip
   by_cases aC:3<=p
   ·skip
    refine KI (KJ (.agg #[iv (f.W),iv (f.H),f0,f1,f2]) rfl rfl (KU K3 rfl ak ai rr) (LY rfl rfl rfl rfl rfl (fun _ _=>by kernel_rfl) (Lm rfl LS) (M0 f f0 f1 f2 T_f0 T_f1 T_f2 _  ae af ah ) fun dU aW=>?_))
    have b9:=ao.all aW id
    refine KJ (.bool false) rfl rfl (Mc rfl rfl rfl (decide_eq_false aq) rr) (KJ (.bool false) rfl rfl (KQ rfl rfl rr) (KR (iv p) 3 false 18 rfl rfl rfl rfl rfl (KQ rfl ab rr) (KR (.bool false) 3 false 18 rfl rfl rfl rfl rfl (L5 rfl rfl rfl (decide_eq_false ar) rr) (KJ (.bool false) rfl rfl (Lb rfl rfl rfl rr) (KJ (.bool false) rfl rfl (KQ rfl rfl rr) (KR (iv p) 7 false 22 rfl rfl rfl rfl rfl (KQ rfl ab rr) (KR (.bool true) 7 false 22 rfl rfl rfl rfl rfl (Nl rfl rfl rfl (decide_eq_true aC) rr) (KJ (.bool true) rfl rfl (Lb rfl rfl rfl rr) (KJ (.bool true) rfl rfl (KQ rfl rfl rr) (KL 11 false 26 rfl rfl rfl (Or.inl rfl) rfl (KL 11 false 26 rfl rfl rfl (Or.inl rfl) rfl ?_)))))))))))
    refine KL 11 false 26 rfl rfl rfl (Or.inl rfl) rfl (KJ (.bool true) rfl rfl (Lg rfl rfl rfl rr) (KJ (.bool true) rfl rfl (KQ rfl rfl rr) (KL 16 false 31 rfl rfl rfl (Or.inl rfl) rfl (KL 16 false 31 rfl rfl rfl (Or.inl rfl) rfl (KL 16 false 31 rfl rfl rfl (Or.inl rfl) rfl (KJ (.bool true) rfl rfl (Lg rfl rfl rfl rr) (KO ?_)))))))
    have cd:=La (.bool true)
    refine KH ?_
    refine Lc (t:=true) cd (fun _=>?_) (fun e=>by cases e)
    refine KK ?_
    have hno:¬ MX f p x y:=by rintro ⟨h1,h2,h3,h4,h5,h6,h7⟩;first|exact absurd ((Mu f).2 h1) (by assumption)|omega
    refine KI (KJ (LK (fun _=>0)) rfl rfl (Mz (cells:=(L8 16 (fun _=>0)).toArray) rfl (by kernel_rfl) rfl rr) (Lp KZ rfl rfl rfl aa rfl b9 fun dV ce cf=>?_))
    refine KJ (iv 70) rfl rfl (KX rfl rfl rr) (KO ?_)
    have cg:=La (iv 70)
    refine KH (Ld (Lq ?_))
    exact L7 aj rfl (Mq KZ rfl aa ce) (Lz (v:=iv 70) rfl cg) ⟨(by first|rw[(Qo hno).1,(Qo hno).2]|rw[(N0 hpl hvn).1,(N0 hpl hvn).2,NM hvn]|rw[(OM hpl hv).1,(OM hpl hv).2]),((ap.tr aW).trans cf (KS.ok (S:=fun _=>False) ac K6))⟩
   ·skip
    by_cases aE:0<=x/\x<=64
    ·skip
     by_cases aX:0<=y/\y<=64
     ·skip
      refine KI (KJ (.agg #[iv (f.W),iv (f.H),f0,f1,f2]) rfl rfl (KU K3 rfl ak ai rr) (LY rfl rfl rfl rfl rfl (fun _ _=>by kernel_rfl) (Lm rfl LS) (M0 f f0 f1 f2 T_f0 T_f1 T_f2 _  ae af ah ) fun ci aY=>?_))
      obtain⟨cj,cm,cn,co,cq,cr⟩:=Qz aY ae af ah ai bR ao
      refine KJ (.bool false) rfl rfl (Mc rfl rfl rfl (decide_eq_false aq) rr) (KJ (.bool false) rfl rfl (KQ rfl rfl rr) (KR (iv p) 3 false 18 rfl rfl rfl rfl rfl (KQ rfl ab rr) (KR (.bool false) 3 false 18 rfl rfl rfl rfl rfl (L5 rfl rfl rfl (decide_eq_false ar) rr) (KJ (.bool false) rfl rfl (Lb rfl rfl rfl rr) (KJ (.bool false) rfl rfl (KQ rfl rfl rr) (KR (iv p) 7 false 22 rfl rfl rfl rfl rfl (KQ rfl ab rr) (KR (.bool false) 7 false 22 rfl rfl rfl rfl rfl (Nl rfl rfl rfl (decide_eq_false aC) rr) (KJ (.bool false) rfl rfl (Lb rfl rfl rfl rr) (KJ (.bool false) rfl rfl (KQ rfl rfl rr) (KR (iv x) 11 false 26 rfl rfl rfl rfl rfl (KQ rfl aB rr) (LA (R:=fun v_ w_=>v_ = .bool true/\KP (fun _=>False) ci w_) 11 false 26 rfl rfl rfl rfl rfl (LE rfl rfl rfl (fun _ _=>by kernel_rfl) (K4 _) (Lm rfl LS) (PC x  _   ) (fun e_ w_ h_=>⟨_,h_.1,(congrArg Value.bool (decide_eq_true aE)),h_.2⟩)) ?_)))))))))))
      rintro _ ct ⟨rfl,aZ⟩
      obtain⟨cu,cv,cw,cy,cz,cA⟩:=Qz aZ cj cm cn co cq cr
      refine KR (.bool false) 11 false 26 rfl rfl rfl rfl rfl (LW rfl rfl rfl rr) (KJ (.bool false) rfl rfl (Lb rfl rfl rfl rr) (KJ (.bool false) rfl rfl (KQ rfl rfl rr) (KR (iv y) 16 false 31 rfl rfl rfl rfl rfl (KQ rfl aD rr) (LA (R:=fun v_ w_=>v_ = .bool true/\KP (fun _=>False) ct w_) 16 false 31 rfl rfl rfl rfl rfl (LE rfl rfl rfl (fun _ _=>by kernel_rfl) (K4 _) (Lm rfl LS) (PC y  _   ) (fun e_ w_ h_=>⟨_,h_.1,(congrArg Value.bool (decide_eq_true aX)),h_.2⟩)) ?_))))
      rintro _ dW ⟨rfl,a8⟩
      obtain⟨cB,cC,cD,cE,a9,cF⟩:=Qz a8 cu cv cw cy cz cA
      refine KR (.bool false) 16 false 31 rfl rfl rfl rfl rfl (LW rfl rfl rfl rr) (KJ (.bool false) rfl rfl (Lb rfl rfl rfl rr) (KO ?_))
      have cG:=La (.bool false)
      refine KH ?_
      refine Lc (t:=false) cG (fun e=>by cases e) (fun _=>?_)
      refine Li (KH (KK (KK ?_)))
      have hpl:MX f p x y:=⟨(Mu f).1 (by first|assumption|(apply Decidable.byContradiction;assumption)),by omega,by omega,by omega,by omega,by omega,by omega⟩
      refine KI (KJ (.agg #[iv X,iv Y]) rfl rfl (KU LP rfl aT a9 rr) (LY rfl rfl rfl rfl rfl (fun _ _=>by kernel_rfl) (Lm rfl LS) (VN X Y  _   ) fun dX ba=>?_))
      obtain⟨bb,bc,bd,be,bf,aF⟩:=Qz ba cB cC cD cE a9 cF
      have aG:=(((ap.tr aY).tr aZ).tr a8).tr ba
      refine KJ (iv (PI X Y)) rfl rfl (KX rfl rfl rr) (KO ?_)
      have bg:=La (iv (PI X Y))
      refine KH (KK (KI (KW rfl rfl rfl bg (KJ (.bool (decide ((PI X Y)≠0))) rfl rfl (Mc rfl rfl rfl rfl rr) (KO ?_)))))
      have cH:=La (.bool (decide ((PI X Y)≠0)))
      refine KH ?_
      refine Lc cH (fun au=>?_) (fun au=>?_)
      ·replace au:=of_decide_eq_true au
       refine KK ?_
       have hvn:¬ Ni X Y:=fun h=>absurd ((R8 X Y).2 h) (by assumption)
       refine KI (KJ (LK (fun _=>0)) rfl rfl (Mz (cells:=(L8 16 (fun _=>0)).toArray) rfl (by kernel_rfl) rfl rr) (KW rfl rfl rfl bg (Lp KZ rfl rfl rfl aa rfl aF fun dY cI cJ=>?_)))
       refine KJ (iv (PI X Y)) rfl rfl (KX rfl rfl rr) (KO ?_)
       have cK:=La (iv (PI X Y))
       refine KH (Ld (Lq ?_))
       exact L7 aj rfl (Mq KZ rfl aa cI) (Lz (v:=iv (PI X Y)) rfl cK) ⟨(by first|rw[(Qo hno).1,(Qo hno).2]|rw[(N0 hpl hvn).1,(N0 hpl hvn).2,NM hvn]|rw[(OM hpl hv).1,(OM hpl hv).2]),(aG.trans cJ (KS.ok (S:=fun _=>False) ac K6))⟩
      ·replace au:=of_decide_eq_false au
       refine Li (KH (KK ?_))
       have hv:Ni X Y:=(R8 X Y).1 (by first|assumption|(apply Decidable.byContradiction;assumption))
       obtain⟨hv1,hv2,hv3,hv4⟩:=(show Ni X Y from hv)
       refine KI (L1 rfl rfl rfl KZ.2.2 fun av dZ bh cL bi=>?_)
       have bj:=LV (Nat.le_of_eq bh.symm)
       obtain⟨cM,cN,cO,cP,cQ,cR⟩:=Vk bj bb bc bd be bf aF
       clear bh
       obtain⟨cS,cT,cU,cV,cW,cX⟩:=Qz bi bb bc bd be bf aF
       refine KO ?_
       have cY:=La (pt av 0)
       refine KH (KK (KK (KI (KJ (iv 0) rfl rfl (KQ rfl rfl rr) (KO ?_)))))
       have cZ:=La (iv 0)
       refine KH (Lo (M4 (fun nn FF ww=>∃ (n:Nat),(n<=16)/\nn=16-n/\FF 1=iv p/\FF 2=iv x/\FF 3=iv y/\FF 5=pt p1 0/\FF 9=pt an 0/\FF 10=pt aA 0/\FF 13=pt av 0/\FF 69=undef/\FF 43=iv ((n:Nat):Int)/\KP (fun _=>False) w0 ww/\L9 ww T_f0 f0 (f.p0)/\L9 ww T_f1 f1 (f.p1)/\L9 ww T_f2 f2 (f.p2)/\My ww p1 29 [iv (f.W),iv (f.H),f0,f1,f2]/\My ww an 67 [iv X,iv Y]/\NO ww aA 69 (fun _=>0)/\NO ww av 69 (upto n (fun _=>0) (mvN f p x y X Y))) (16-0) ⟨0,by omega,rfl,ab,aB,aD,ak,aT,aa,cY,aj,cZ,(aG.tr bi),cS,cT,cU,cV,cW,cX,cL.first⟩ ?_))
       rintro d8 d9 c5 ⟨n,i287,hn286,bl,bm,bn,bo,aH,aI,aJ,bp,aK,bq,bt,bu,bv,bz,aL,bA,bB⟩
       refine KK (KI (KJ (.bool (decide (((n:Nat):Int)<16))) rfl rfl (L5 rfl aK rfl rfl rr) (KO ?_)))
       have c6:=La (.bool (decide (((n:Nat):Int)<16)))
       refine KH (KK ?_)
       refine Lc c6 (fun aw=>?_) (fun aw=>?_)
       ·replace aw:=of_decide_eq_true aw
        refine Li (KH (KK (Lo (KK (KI (KW rfl rfl rfl aK (KJ (iv ((n:Nat):Int)) rfl rfl (KX rfl rfl rr) (KO ?_))))))))
        have aM:=La (iv ((n:Nat):Int))
        refine KH (KI (KW rfl rfl rfl aM (KJ (.agg #[iv (f.W),iv (f.H),f0,f1,f2]) rfl rfl (KU K3 rfl bo bz rr) (KW rfl rfl rfl bl (KW rfl rfl rfl bm (KW rfl rfl rfl aM (KJ (iv (((n%4):Nat):Int)) rfl rfl (Ya rfl rfl rfl (by first|decide|omega) (Xf n 4) rr) (KJ (iv (x+(((n%4):Nat):Int))) rfl rfl (LR rfl rfl rfl (Mb rfl (by omega)) rr) (KJ (iv (2*(x+(((n%4):Nat):Int)))) rfl rfl (NH rfl rfl rfl (Mb rfl (by omega)) rr) (KJ (pt an 0) rfl rfl (KT (n:=1) rfl aH Tryz.underlying67 rfl (by kernel_rfl) (by decide) rfl rr) (KJ (iv X) rfl rfl (KV rfl rfl Tryz.underlying3 aL rfl rfl rr) ?_)))))))))))
        refine KJ (iv ((2*(x+(((n%4):Nat):Int)))+X)) rfl rfl (LR rfl rfl rfl (Mb rfl (by omega)) rr) (KW rfl rfl rfl bn (KW rfl rfl rfl aM (KJ (iv (((n/4):Nat):Int)) rfl rfl (Qd rfl rfl rfl (by first|decide|omega) (L2 (Xa n 4) (by omega)) rr) (KJ (iv (y+(((n/4):Nat):Int))) rfl rfl (LR rfl rfl rfl (Mb rfl (by omega)) rr) (KJ (iv (2*(y+(((n/4):Nat):Int)))) rfl rfl (NH rfl rfl rfl (Mb rfl (by omega)) rr) (KJ (pt an 1) rfl rfl (KT (n:=1) rfl aH Tryz.underlying67 rfl (by kernel_rfl) (by decide) rfl rr) (KJ (iv Y) rfl rfl (KV rfl rfl Tryz.underlying3 aL rfl rfl rr) (KJ (iv ((2*(y+(((n/4):Nat):Int)))+Y)) rfl rfl (LR rfl rfl rfl (Mb rfl (by omega)) rr) (LY rfl rfl rfl rfl rfl (fun _ _=>by kernel_rfl) (Lm rfl (Lm rfl (Lm rfl (Lm rfl LS)))) (ZR p ((2*(x+(((n%4):Nat):Int)))+X) ((2*(y+(((n/4):Nat):Int)))+Y) f f0 f1 f2 T_f0 T_f1 T_f2 _  bt bu bv ) fun eb bC=>?_)))))))))
        obtain⟨c7,c9,da,db,dc,dd,de⟩:=SO bC bt bu bv bz aL bA bB
        refine KJ (.pointer (some ⟨av,n,none⟩)) rfl rfl (LU n (s:=1) rfl aJ rfl (by omega) Tryz.underlying69 (by omega) (by kernel_rfl) (by omega) rr) (NQ rfl rfl rfl rfl rfl de (by omega) (by kernel_rfl) fun ee df am=>?_)
        have dg:=c7.all am cM.symm
        have dh:=c9.all am cN.symm
        have di:=da.all am cO.symm
        have dj:=db.all am (cP.symm p1 rfl)
        have dk:=dc.all am (cQ.symm an rfl)
        have dl:=dd.all am (cR.symm aA rfl)
        refine KO ?_
        refine LD (KH (KI (KJ (iv ((n+1:Nat):Int)) rfl rfl (LR rfl aK rfl (L2 (by omega) (by omega)) rr) (KJ (iv ((n+1:Nat):Int)) rfl rfl (KQ rfl rfl rr) (KO ?_)))))
        have dm:=La (iv ((n+1:Nat):Int))
        exact KH ⟨(16-(n+1)),by omega,n+1,by omega,rfl,bl,bm,bn,bo,aH,aI,aJ,bp,dm,((bq.tr bC).trans am (KS.ok (S:=fun _=>False) (KS.new aG bj) K6)),dg,dh,di,dj,dk,dl,(df.next rfl)⟩
       ·replace aw:=of_decide_eq_false aw
        refine Mg (Lt (Lt ?_))
        have dn:16=n:=by omega
        subst dn
        have dp:NO c5 av 69 (mvN f p x y X Y):=(bB.last)
        refine Mh (KH (KK (KI (KJ (LK (mvN f p x y X Y)) rfl rfl (LZ KZ rfl aJ dp rr) (Lp KZ rfl rfl rfl aI rfl bA fun eh dq dr=>?_)))))
        refine KJ (iv 0) rfl rfl (KX rfl rfl rr) (KO ?_)
        have dt:=La (iv 0)
        refine KH (Ld ?_)
        exact L7 bp rfl (Mq KZ rfl aI dq) (Lz (v:=iv 0) rfl dt) ⟨(by first|rw[(Qo hno).1,(Qo hno).2]|rw[(N0 hpl hvn).1,(N0 hpl hvn).2,NM hvn]|rw[(OM hpl hv).1,(OM hpl hv).2]),(bq.trans dr (KS.ok (S:=fun _=>False) ac K6))⟩
     ·skip
      refine KI (KJ (.agg #[iv (f.W),iv (f.H),f0,f1,f2]) rfl rfl (KU K3 rfl ak ai rr) (LY rfl rfl rfl rfl rfl (fun _ _=>by kernel_rfl) (Lm rfl LS) (M0 f f0 f1 f2 T_f0 T_f1 T_f2 _  ae af ah ) fun du bD=>?_))
      have dv:=ao.all bD id
      refine KJ (.bool false) rfl rfl (Mc rfl rfl rfl (decide_eq_false aq) rr) (KJ (.bool false) rfl rfl (KQ rfl rfl rr) (KR (iv p) 3 false 18 rfl rfl rfl rfl rfl (KQ rfl ab rr) (KR (.bool false) 3 false 18 rfl rfl rfl rfl rfl (L5 rfl rfl rfl (decide_eq_false ar) rr) (KJ (.bool false) rfl rfl (Lb rfl rfl rfl rr) (KJ (.bool false) rfl rfl (KQ rfl rfl rr) (KR (iv p) 7 false 22 rfl rfl rfl rfl rfl (KQ rfl ab rr) (KR (.bool false) 7 false 22 rfl rfl rfl rfl rfl (Nl rfl rfl rfl (decide_eq_false aC) rr) (KJ (.bool false) rfl rfl (Lb rfl rfl rfl rr) (KJ (.bool false) rfl rfl (KQ rfl rfl rr) (KR (iv x) 11 false 26 rfl rfl rfl rfl rfl (KQ rfl aB rr) (LA (R:=fun v_ w_=>v_ = .bool true/\KP (fun _=>False) du w_) 11 false 26 rfl rfl rfl rfl rfl (LE rfl rfl rfl (fun _ _=>by kernel_rfl) (K4 _) (Lm rfl LS) (PC x  _   ) (fun e_ w_ h_=>⟨_,h_.1,(congrArg Value.bool (decide_eq_true aE)),h_.2⟩)) ?_)))))))))))
      rintro _ dw ⟨rfl,bE⟩
      have dy:=dv.all bE id
      refine KR (.bool false) 11 false 26 rfl rfl rfl rfl rfl (LW rfl rfl rfl rr) (KJ (.bool false) rfl rfl (Lb rfl rfl rfl rr) (KJ (.bool false) rfl rfl (KQ rfl rfl rr) (KR (iv y) 16 false 31 rfl rfl rfl rfl rfl (KQ rfl aD rr) (LA (R:=fun v_ w_=>v_ = .bool false/\KP (fun _=>False) dw w_) 16 false 31 rfl rfl rfl rfl rfl (LE rfl rfl rfl (fun _ _=>by kernel_rfl) (K4 _) (Lm rfl LS) (PC y  _   ) (fun e_ w_ h_=>⟨_,h_.1,(congrArg Value.bool (decide_eq_false aX)),h_.2⟩)) ?_))))
      rintro _ ei ⟨rfl,bF⟩
      have dz:=dy.all bF id
      refine KR (.bool true) 16 false 31 rfl rfl rfl rfl rfl (LW rfl rfl rfl rr) (KJ (.bool true) rfl rfl (Lb rfl rfl rfl rr) (KO ?_))
      have dA:=La (.bool true)
      refine KH ?_
      refine Lc (t:=true) dA (fun _=>?_) (fun e=>by cases e)
      refine KK ?_
      have hno:¬ MX f p x y:=by rintro ⟨h1,h2,h3,h4,h5,h6,h7⟩;first|exact absurd ((Mu f).2 h1) (by assumption)|omega
      refine KI (KJ (LK (fun _=>0)) rfl rfl (Mz (cells:=(L8 16 (fun _=>0)).toArray) rfl (by kernel_rfl) rfl rr) (Lp KZ rfl rfl rfl aa rfl dz fun ek dB dC=>?_))
      refine KJ (iv 70) rfl rfl (KX rfl rfl rr) (KO ?_)
      have dD:=La (iv 70)
      refine KH (Ld (Lq ?_))
      exact L7 aj rfl (Mq KZ rfl aa dB) (Lz (v:=iv 70) rfl dD) ⟨(by first|rw[(Qo hno).1,(Qo hno).2]|rw[(N0 hpl hvn).1,(N0 hpl hvn).2,NM hvn]|rw[(OM hpl hv).1,(OM hpl hv).2]),((((ap.tr bD).tr bE).tr bF).trans dC (KS.ok (S:=fun _=>False) ac K6))⟩
    ·skip
     refine KI (KJ (.agg #[iv (f.W),iv (f.H),f0,f1,f2]) rfl rfl (KU K3 rfl ak ai rr) (LY rfl rfl rfl rfl rfl (fun _ _=>by kernel_rfl) (Lm rfl LS) (M0 f f0 f1 f2 T_f0 T_f1 T_f2 _  ae af ah ) fun dE bG=>?_))
     have dF:=ao.all bG id
     refine KJ (.bool false) rfl rfl (Mc rfl rfl rfl (decide_eq_false aq) rr) (KJ (.bool false) rfl rfl (KQ rfl rfl rr) (KR (iv p) 3 false 18 rfl rfl rfl rfl rfl (KQ rfl ab rr) (KR (.bool false) 3 false 18 rfl rfl rfl rfl rfl (L5 rfl rfl rfl (decide_eq_false ar) rr) (KJ (.bool false) rfl rfl (Lb rfl rfl rfl rr) (KJ (.bool false) rfl rfl (KQ rfl rfl rr) (KR (iv p) 7 false 22 rfl rfl rfl rfl rfl (KQ rfl ab rr) (KR (.bool false) 7 false 22 rfl rfl rfl rfl rfl (Nl rfl rfl rfl (decide_eq_false aC) rr) (KJ (.bool false) rfl rfl (Lb rfl rfl rfl rr) (KJ (.bool false) rfl rfl (KQ rfl rfl rr) (KR (iv x) 11 false 26 rfl rfl rfl rfl rfl (KQ rfl aB rr) (LA (R:=fun v_ w_=>v_ = .bool false/\KP (fun _=>False) dE w_) 11 false 26 rfl rfl rfl rfl rfl (LE rfl rfl rfl (fun _ _=>by kernel_rfl) (K4 _) (Lm rfl LS) (PC x  _   ) (fun e_ w_ h_=>⟨_,h_.1,(congrArg Value.bool (decide_eq_false aE)),h_.2⟩)) ?_)))))))))))
     rintro _ en ⟨rfl,bH⟩
     have dG:=dF.all bH id
     refine KR (.bool true) 11 false 26 rfl rfl rfl rfl rfl (LW rfl rfl rfl rr) (KJ (.bool true) rfl rfl (Lb rfl rfl rfl rr) (KJ (.bool true) rfl rfl (KQ rfl rfl rr) (KL 16 false 31 rfl rfl rfl (Or.inl rfl) rfl (KL 16 false 31 rfl rfl rfl (Or.inl rfl) rfl (KL 16 false 31 rfl rfl rfl (Or.inl rfl) rfl (KJ (.bool true) rfl rfl (Lg rfl rfl rfl rr) (KO ?_)))))))
     have dH:=La (.bool true)
     refine KH ?_
     refine Lc (t:=true) dH (fun _=>?_) (fun e=>by cases e)
     refine KK ?_
     have hno:¬ MX f p x y:=by rintro ⟨h1,h2,h3,h4,h5,h6,h7⟩;first|exact absurd ((Mu f).2 h1) (by assumption)|omega
     refine KI (KJ (LK (fun _=>0)) rfl rfl (Mz (cells:=(L8 16 (fun _=>0)).toArray) rfl (by kernel_rfl) rfl rr) (Lp KZ rfl rfl rfl aa rfl dG fun eo dI dJ=>?_))
     refine KJ (iv 70) rfl rfl (KX rfl rfl rr) (KO ?_)
     have dK:=La (iv 70)
     refine KH (Ld (Lq ?_))
     exact L7 aj rfl (Mq KZ rfl aa dI) (Lz (v:=iv 70) rfl dK) ⟨(by first|rw[(Qo hno).1,(Qo hno).2]|rw[(N0 hpl hvn).1,(N0 hpl hvn).2,NM hvn]|rw[(OM hpl hv).1,(OM hpl hv).2]),(((ap.tr bG).tr bH).trans dJ (KS.ok (S:=fun _=>False) ac K6))⟩
end Go.Proofs.YtknjpdcpmpfklaaGreatDoor
set_option maxRecDepth 100000
namespace Go.Proofs.YtknjpdcpmpfklaaGreatDoor
open Go.RowKit
structure Ch where
  m:Int
  px:Int
  py:Int
  nx:Int
  ny:Int
  b:Nat->Int
def chV(c:Ch):List Value:=.int .i64 c.m :: .int .i64 c.px :: .int .i64 c.py :: .int .i64 c.nx :: .int .i64 c.ny::L8 16 c.b
abbrev Oh(m px py nx ny:Int)(b:Nat->Int):List Value:=[.int .i64 m,.int .i64 px,.int .i64 py,.int .i64 nx,.int .i64 ny,.int .i64 (b 0),.int .i64 (b 1),.int .i64 (b 2),.int .i64 (b 3),.int .i64 (b 4),.int .i64 (b 5),.int .i64 (b 6),.int .i64 (b 7),.int .i64 (b 8),.int .i64 (b 9),.int .i64 (b 10),.int .i64 (b 11),.int .i64 (b 12),.int .i64 (b 13),.int .i64 (b 14),.int .i64 (b 15)]
abbrev O1(c:Ch):List Value:=Oh c.m c.px c.py c.nx c.ny c.b
theorem RY(n:Nat)(b:Nat->Int):Rw (L8 n b):=fun v h=>by
 obtain⟨i,_,rfl⟩:=List.mem_map.1 h;rfl
theorem aCt(c:Ch):Rw (chV c):=K2 rfl (K2 rfl (K2 rfl (K2 rfl (K2 rfl (RY 16 c.b)))))
theorem LH:QA Tryz.prog 71 21:=⟨_,Tryz.underlying71,rfl,by kernel_rfl⟩
theorem Qu:QA Tryz.prog 69 16:=⟨_,Tryz.underlying69,rfl,by kernel_rfl⟩
section
variable {P:Program} {ρ:Operand->Value} {o:Oper} {w:World} {R:Value->World->Prop}
theorem O8{ty t:TypeId}{x:Operand}{p k n:Nat}{vs us:List Value}(hT:QA P ty n)(ho:o.op = .load ty x)(hx:ρ x = .pointer (some ⟨p,k,none⟩))(hB:My w p t vs)(hkn:k+n<=vs.length)(hu:(vs.drop k).take n=us)(h:R (.agg us.toArray) w):Lj P ρ o w R:=by
 subst hu
 obtain⟨d,hu,hd,hs⟩:=hT
 have hlen:((vs.drop k).take n).length=n:=by rw[List.length_take,List.length_drop];omega
 have e:=run_loadVar_mid (P:=P) w p k ty ((vs.drop k).take n) d (fun q u hq=>by
  have hqn:q<n:=by have:=(List.getElem?_eq_some_iff.1 hq).1;omega
  exact hB.cell (by rwa [List.getElem?_take,if_pos hqn,List.getElem?_drop] at hq)) hu hd (by rw[hlen];exact hs)
 exact MS (v:=.agg ((vs.drop k).take n).toArray) (w':=w) (by simp only[execOp,ho,hx,Instr.loadAt,Instr.sureAddr,Sem.run_bind,Sem.run_pure,Result.andThen_ok,e]) h
theorem Z0{ty t:TypeId}{x y:Operand}{p k:Nat}{vs us ns:List Value}(hT:QA P ty us.length)(ho:o.op = .store ty x y)(hx:ρ x = .pointer (some ⟨p,k,none⟩))(hy:ρ y = .agg us.toArray)(hB:My w p t vs)(hk:k+us.length<=vs.length)(h1:Rw us)(hn:vs.take k++us++vs.drop (k+us.length)=ns)
  (h:∀ w',My w' p t ns->KP (fun k=>k=p) w w'->R undef w'):Lj P ρ o w R:=by
 subst hn
 obtain⟨d,_,_,hs⟩:=hT
 have hst:=run_storeCells_at P p k t us 0 vs.toArray w hB (by simpa using hk) h1
 simp only[Nat.add_zero] at hst
 cases hq:P.info? ty with
 | none=>rw[hq] at hs;cases hs
 | some i =>
  have hs':i.size=us.length:=by simpa [hq] using hs
  have hsv:(storeVar ty ⟨p,k,none⟩ (.agg us.toArray)).run P w = .ok () (w.setRow p (vs.take k++us++vs.drop (k+us.length)).toArray):=by
   simp[storeVar,sizeOf,typeInfo,hq,hs',Value.cells,hst]
  have e:(execOp ρ o).run P w = .ok .skip (w.setRow p (vs.take k++us++vs.drop (k+us.length)).toArray):=by
   simp only[execOp,ho,hx,hy,Instr.storeAt,Instr.sureAddr,Sem.run_bind,Sem.run_pure,Result.andThen_ok,hsv]
  unfold Lj
  rw[e]
  exact h _ (setRow_heap _ _ _ _ _ _ hB) ((KP.refl (fun k=>k=p) w).setRow p (fun _=>rfl) _)
end
section
variable {ro:Option Nat} {P:Program} {N:Nat} {Q:(Exit->(Nat->Value)->World->Prop)} {F:Nat->Value} {w:World} {o:Oper}
theorem ON{ops:Array Oper}{rest:List Oper}{ty t:TypeId}{x y:Operand}{p k:Nat}{vs us ns:List Value}(hT:QA P ty us.length)(hg:o.guard=none)(hdn:o.dst=none)(ho:o.op = .store ty x y)(hx:ev (MN N F) x = .pointer (some ⟨p,k,none⟩))(hy:ev (MN N F) y = .agg us.toArray)(hB:My w p t vs)(hk:k+us.length<=vs.length)(h1:Rw us)(hn:vs.take k++us++vs.drop (k+us.length)=ns)
  (h:∀ w',My w' p t ns->KP (fun k=>k=p) w w'->wl ro P N ops Q rest F w'):wl ro P N ops Q (o::rest) F w:=by
 refine Nu hg (by rw[hdn];rfl) (Z0 hT ho hx hy hB hk h1 hn fun w' hw hk=>?_)
 rw[hdn]
 exact h w' hw hk
end
end Go.Proofs.YtknjpdcpmpfklaaGreatDoor
set_option maxRecDepth 100000
namespace Go.Proofs.YtknjpdcpmpfklaaGreatDoor
def NF(m:Int):Bool:=decide (m=4) || decide (m=6)
def Nm(m:Int):Bool:=decide (m=5) || decide (m=6)
def NX(k:Int):Int:=if k=0 then 3 else if k=1 then 4 else if k=2 then 6 else -1
def aDr(k:Int)(c:Ch):Prop:=c.m<0\/NX k<c.m\/(NF c.m=false/\NS c.px c.py 0 0=false)\/(Nm c.m=false/\NS c.nx c.ny 0 0=false)
instance (k:Int) (c:Ch):Decidable (aDr k c):=by unfold aDr;infer_instance
def ch0:Ch:=⟨0,0,0,0,0,fun _=>0⟩
def stV(has:Bool)(l:List Nat)(gx gy:Int)(s:Option Nat):Int×Int×Int×Option Nat:=if has=true then (Rz l gx gy s,RC l gx gy s,Qs l gx gy s,vrS l s) else (0,0,0,s)
def Yr(l:List Nat)(m:Int)(p n:Int×Int×Int×Option Nat):Ch×Int×Option Nat :=
 if (LL l n.2.2.2).2.1=0 then (⟨m,p.1,p.2.1,n.1,n.2.1,(LL l n.2.2.2).1⟩,0,(LL l n.2.2.2).2.2) else (ch0,(LL l n.2.2.2).2.1,(LL l n.2.2.2).2.2)
def Vo(l:List Nat)(m:Int)(p n:Int×Int×Int×Option Nat):Ch×Int×Option Nat:=if n.2.2.1=0 then Yr l m p n else (ch0,n.2.2.1,n.2.2.2)
def Ym(l:List Nat)(m:Int)(bx yy:Int)(p:Int×Int×Int×Option Nat):Ch×Int×Option Nat:=if p.2.2.1=0 then Vo l m p (stV (Nm m) l bx yy p.2.2.2) else (ch0,p.2.2.1,p.2.2.2)
def rd1(l:List Nat)(ax ay bx yy:Int)(m:Int×Option Nat):Ch×Int×Option Nat:=if m.2.isNone=true then (ch0,120,m.2) else Ym l m.1 bx yy (stV (NF m.1) l ax ay m.2)
def Sk(l:List Nat)(k ax ay bx yy:Int)(st:Option Nat):Ch×Int×Option Nat:=rd1 l ax ay bx yy (Lr (LB l (NX k)) st)
theorem UD{has:Bool}{l:List Nat}{gx gy:Int}{s:Option Nat}(h:has=true):stV has l gx gy s=(Rz l gx gy s,RC l gx gy s,Qs l gx gy s,vrS l s):=if_pos h
theorem SD{has:Bool}{l:List Nat}{gx gy:Int}{s:Option Nat}(h:has=false):stV has l gx gy s=(0,0,0,s):=if_neg (by rw[h];exact Bool.false_ne_true)
end Go.Proofs.YtknjpdcpmpfklaaGreatDoor
set_option maxRecDepth 100000
namespace Go.Proofs.YtknjpdcpmpfklaaGreatDoor
def V9(f p n:FD)(k x y:Int)(c:Ch):Nat->Int :=
 if c.m<0\/6<c.m then fun _=>0 else if c.m<4 then US f k x y c.m else if c.m=5 then Uf n k x y c.nx c.ny
 else if OX p k x y c.px c.py≠0\/c.m=4 then Uf p k x y c.px c.py else if OX n k x y c.nx c.ny≠0 then fun _=>0 else Uh (Uf p k x y c.px c.py) (Uf n k x y c.nx c.ny)
def Tu(f p n:FD)(k x y:Int)(c:Ch):Int :=
 if c.m<0\/6<c.m then 120 else if c.m<4 then RA f k x y c.m else if c.m=5 then OX n k x y c.nx c.ny
 else if OX p k x y c.px c.py≠0\/c.m=4 then OX p k x y c.px c.py else if OX n k x y c.nx c.ny≠0 then OX n k x y c.nx c.ny else 0
section
variable {f p n:FD} {k x y:Int} {c:Ch}
theorem YW{f:FD}{p x y X Y:Int}(h:OX f p x y X Y≠0):Uf f p x y X Y=fun _=>0:=by
 by_cases hp:MX f p x y
 ·by_cases hv:Ni X Y
  ·exact absurd (OM hp hv).1 h
  ·exact(N0 hp hv).2
 ·exact(Qo hp).2
theorem WH(h:c.m<0\/6<c.m):V9 f p n k x y c=(fun _=>0)/\Tu f p n k x y c=120:=⟨if_pos h,if_pos h⟩
theorem aAs(h:0<=c.m/\c.m<4):V9 f p n k x y c=US f k x y c.m/\Tu f p n k x y c=RA f k x y c.m:=by
 have n1:¬ (c.m<0\/6<c.m):=by omega
 exact⟨(if_neg n1).trans (if_pos h.2),(if_neg n1).trans (if_pos h.2)⟩
theorem UB(h:c.m=5):V9 f p n k x y c=Uf n k x y c.nx c.ny/\Tu f p n k x y c=OX n k x y c.nx c.ny:=by
 have n1:¬ (c.m<0\/6<c.m):=by omega
 have n2:¬ c.m<4:=by omega
 exact⟨(if_neg n1).trans ((if_neg n2).trans (if_pos h)),(if_neg n1).trans ((if_neg n2).trans (if_pos h))⟩
theorem UN(h:c.m=4):V9 f p n k x y c=Uf p k x y c.px c.py/\Tu f p n k x y c=OX p k x y c.px c.py:=by
 have n1:¬ (c.m<0\/6<c.m):=by omega
 have n2:¬ c.m<4:=by omega
 have n3:¬ c.m=5:=by omega
 exact⟨(if_neg n1).trans ((if_neg n2).trans ((if_neg n3).trans (if_pos (Or.inr h)))),(if_neg n1).trans ((if_neg n2).trans ((if_neg n3).trans (if_pos (Or.inr h))))⟩
theorem XE(h:c.m=6)(e:OX p k x y c.px c.py≠0):V9 f p n k x y c=Uf p k x y c.px c.py/\Tu f p n k x y c=OX p k x y c.px c.py:=by
 have n1:¬ (c.m<0\/6<c.m):=by omega
 have n2:¬ c.m<4:=by omega
 have n3:¬ c.m=5:=by omega
 exact⟨(if_neg n1).trans ((if_neg n2).trans ((if_neg n3).trans (if_pos (Or.inl e)))),(if_neg n1).trans ((if_neg n2).trans ((if_neg n3).trans (if_pos (Or.inl e))))⟩
theorem Tc(h:c.m=6)(e:OX p k x y c.px c.py=0)(e2:OX n k x y c.nx c.ny≠0):V9 f p n k x y c=(fun _=>0)/\Tu f p n k x y c=OX n k x y c.nx c.ny:=by
 have n1:¬ (c.m<0\/6<c.m):=by omega
 have n2:¬ c.m<4:=by omega
 have n3:¬ c.m=5:=by omega
 have n4:¬ (OX p k x y c.px c.py≠0\/c.m=4):=fun z=>z.elim (fun z=>z e) (fun z=>by omega)
 exact⟨(if_neg n1).trans ((if_neg n2).trans ((if_neg n3).trans ((if_neg n4).trans (if_pos e2)))),(if_neg n1).trans ((if_neg n2).trans ((if_neg n3).trans ((if_neg n4).trans (if_pos e2))))⟩
theorem ZH(h:c.m=6)(e:OX p k x y c.px c.py=0)(e2:OX n k x y c.nx c.ny=0):V9 f p n k x y c=Uh (Uf p k x y c.px c.py) (Uf n k x y c.nx c.ny)/\Tu f p n k x y c=0:=by
 have n1:¬ (c.m<0\/6<c.m):=by omega
 have n2:¬ c.m<4:=by omega
 have n3:¬ c.m=5:=by omega
 have n4:¬ (OX p k x y c.px c.py≠0\/c.m=4):=fun z=>z.elim (fun z=>z e) (fun z=>by omega)
 exact⟨(if_neg n1).trans ((if_neg n2).trans ((if_neg n3).trans ((if_neg n4).trans (if_neg (fun z=>z e2))))),(if_neg n1).trans ((if_neg n2).trans ((if_neg n3).trans ((if_neg n4).trans (if_neg (fun z=>z e2)))))⟩
theorem Tm(h:c.m=4\/c.m=6)(e:OX p k x y c.px c.py≠0):V9 f p n k x y c=(fun _=>0)/\Tu f p n k x y c=OX p k x y c.px c.py:=by
 rcases h with h|h
 ·exact⟨(UN h).1.trans (YW e),(UN h).2⟩
 ·exact⟨(XE h e).1.trans (YW e),(XE h e).2⟩
theorem To(h:c.m=5)(e:OX n k x y c.nx c.ny≠0):V9 f p n k x y c=(fun _=>0)/\Tu f p n k x y c=OX n k x y c.nx c.ny :=
 ⟨(UB h).1.trans (YW e),(UB h).2⟩
end
theorem QK{m:Int}(h:NF m=true):m=4\/m=6:=by unfold NF at h;simpa using h
theorem TF{m:Int}(h:NF m=false):m≠4/\m≠6:=by unfold NF at h;simpa using h
theorem QM{m:Int}(h:Nm m=true):m=5\/m=6:=by unfold Nm at h;simpa using h
theorem aAP{m:Int}(h:Nm m=false):m≠5/\m≠6:=by unfold Nm at h;simpa using h
def c8M(a:Nat->Int):Nat->Int:=fun i=>min (max (a i) 0) 255
def buB(b:Nat->Int)(l:Nat->Int)(q:Int):Nat->Int:=if Qx q=0 then c8M (OU b (Oq (Un l q))) else fun _=>0
theorem aCF{b l:Nat->Int}{q:Int}(h:Qx q=0):buB b l q=c8M (OU b (Oq (Un l q))):=if_pos h
theorem aDa{b l:Nat->Int}{q:Int}(h:Qx q≠0):buB b l q=fun _=>0:=if_neg h
theorem UT(k:Int):NX k<=6:=by unfold NX;split;omega;split;omega;split <;> omega
def MW(l:List Nat)(k ax ay bx yy:Int)(st:Option Nat):Option Nat:=if (Sk l k ax ay bx yy st).2.1=0 then (Sk l k ax ay bx yy st).2.2 else st
theorem V6(l:List Nat)(n:Int)(a:Nat):Lr (LB l n) (some a)=match MB l a with
  | some (v,a')=>if n<v then (0,none) else (v,some a')
  | none=>(0,none):=by
 cases hq:MB l a with
 | none=>simp[Lr,LB,hq]
 | some x =>
  obtain⟨v,a'⟩:=x
  by_cases h:n<v
  ·simp[Lr,LB,hq,h]
  ·simp[Lr,LB,hq,h]
theorem Ue{l:List Nat}{m n:Int}(h:m<=n)(st:Option Nat) :
  Lr (LB l m) st=if (Lr (LB l n) st).2.isNone=true\/m<(Lr (LB l n) st).1 then (0,none) else Lr (LB l n) st:=by
 cases st with
 | none=>rfl
 | some a =>
  rw[V6 l m a,V6 l n a]
  cases MB l a with
  | none=>rfl
  | some x =>
   obtain⟨v,a'⟩:=x
   simp only
   by_cases h1:n<v
   ·rw[if_pos h1,if_pos (show m<v by omega)];exact(if_pos (Or.inl rfl)).symm
   ·rw[if_neg h1]
    by_cases h2:m<v
    ·rw[if_pos h2,if_pos (Or.inr h2)]
    ·rw[if_neg h2,if_neg (by rintro (z|z);cases z;exact h2 z)]
end Go.Proofs.YtknjpdcpmpfklaaGreatDoor
set_option maxRecDepth 100000
namespace Go.Proofs.YtknjpdcpmpfklaaGreatDoor
open Go.RowKit
def Ps.ty(e:TypeId):Prop:=e=106\/e=5
def Rfi.ty(e:TypeId):Prop:=e=80
instance (e:TypeId):Decidable (Ps.ty e):=by unfold Ps.ty;infer_instance
instance (e:TypeId):Decidable (Rfi.ty e):=by unfold Rfi.ty;infer_instance
theorem Ps.at{w:World}{T:Nat->Prop}{p:Nat}{l:List Nat}{st:Option Nat}(h:Ps w T p l st)(x:Nat)(hx:T x):∃ c e f,w.heap[x]? = some (.cells c e f)/\Ps.ty e:=by
 obtain⟨_,g,rfl,h⟩:=h
 have hr:∃ a b,NA w p g l a b:=by
  cases st with
  | none=>obtain⟨a,h⟩:=h;exact⟨a,_,h⟩
  | some a=>exact⟨a,_,h.2⟩
 obtain⟨a,b,h1,h2,_⟩:=hr
 rcases hx with rfl|rfl
 ·exact⟨_,_,_,h1,.inl rfl⟩
 ·exact⟨_,_,_,h2,.inr rfl⟩
theorem My.types{w:World}{p:Nat}{t:TypeId}{vs:List Value}(h:My w p t vs):∀ x,x=p->∀ c e f,w.heap[x]? = some (.cells c e f)->e=t:=by
 intro x hx c e f hc
 subst hx
 unfold My at h
 rw[h] at hc;cases hc;rfl
end Go.Proofs.YtknjpdcpmpfklaaGreatDoor
set_option maxRecDepth 100000
namespace Go.Proofs.YtknjpdcpmpfklaaGreatDoor
open Go.RowKit
structure SV (α:Type) where
  t:TypeId
  e:TypeId
  k:Nat
  by_:Nat
  enc:α->List Value
  d:α
  z:Value
class SV.Ok {α:Type} (r:SV α):Prop where
  slice:Tryz.prog.underlying r.t=some (.slice r.e)
  info:(Tryz.prog.info? r.e).map (fun i=>(i.zero,i.size,i.bytes))=some (some r.z,r.k,r.by_)
  cells:r.z.cells.toList=r.enc r.d
  pos:0<r.k
  len:∀ x,(r.enc x).length=r.k
  one:∀ x,∀ u∈r.enc x,u.oneCell'=true
  small:r.by_<=192
section
variable {α:Type} {r:SV α}
theorem Tr[h:r.Ok](l:List α):(l.flatMap r.enc).length=l.length*r.k:=by
 induction l with
 | nil=>simp
 | cons x l ih=>rw[List.flatMap_cons,List.length_append,ih,h.len,List.length_cons,Nat.add_mul];omega
theorem aBD[h:r.Ok](l:List α)(i j:Nat)(hi:i<l.length)(hj:j<r.k):(l.flatMap r.enc)[i*r.k+j]? = (r.enc (l.getD i r.d))[j]? := by
 induction l generalizing i with
 | nil=>simp at hi
 | cons x l ih =>
  rw[List.flatMap_cons]
  cases i with
  | zero=>rw[Nat.zero_mul,Nat.zero_add,List.getElem?_append_left (by rw[h.len];exact hj)];rfl
  | succ i =>
   have hi':i<l.length:=by simpa using hi
   rw[List.getElem?_append_right (by rw[h.len,Nat.add_mul];omega),h.len,show (i+1)*r.k+j-r.k=i*r.k+j by rw[Nat.add_mul];omega,ih i hi']
   rfl
theorem azY[h:r.Ok](l:List α):∀ u∈l.flatMap r.enc,u.oneCell'=true:=fun u hu=>by
 obtain⟨x,_,hx⟩:=List.mem_flatMap.1 hu
 exact h.one x u hx
def RoA(r:SV α)(w:World)(T:Nat->Prop)(v:Value)(l:List α):Prop :=
 ∃ a cap,v = .slice a l.length cap/\l.length<=cap/\cap<=maxLen/\(a=none->cap=0)/\Pb w T ∧
  (0<l.length->∃ b off,a=some ⟨b,off,none⟩/\T b/\∀ j u,(l.flatMap r.enc)[j]? = some u->w.cell? ⟨b,off+j,none⟩=some u)
theorem RoA.oneC{w:World}{T:Nat->Prop}{v:Value}{l:List α}(h:RoA r w T v l):oneC v=true:=by obtain⟨a,cap,rfl,_⟩:=h;rfl
def QX(r:SV α)(w:World)(T:Nat->Prop)(v:Value)(l:List α):Prop:=w.ownsRow 0 r.e r.k v l.length (l.flatMap r.enc)/\∀ i,T i↔v.ownBlock=some i
theorem QX.nil(r:SV α)(w:World):QX r w Ma (.slice none 0 0) []:=⟨World.ownsRow_nil w 0 r.e r.k,fun i=>⟨fun h=>h.elim,fun h=>by cases h⟩⟩
theorem QX.live{w:World}{T:Nat->Prop}{v:Value}{l:List α}(h:QX r w T v l):Pb w T:=fun i hi=>(h.1.lt i ((h.2 i).1 hi)).2
theorem QX.all{S:Nat->Prop}{w w':World}{T:Nat->Prop}{v:Value}{l:List α}(h:QX r w T v l)(k:KP S w w')(ha:KM T S):QX r w' T v l:=by
 refine⟨⟨h.1.1,?_⟩,h.2⟩
 rcases h.1.2 with hn | ⟨g,cap,cur,rfl,hb,hg,rest⟩
 ·exact .inl hn
 ·exact .inr ⟨g,cap,cur,rfl,hb,k.at hg (ha g ((h.2 g).2 rfl)),rest⟩
instance {w w':World} {α:Type} {r:SV α} {T:Nat->Prop} {v:Value} {l:List α}:Cr w w' (QX r w T v l) (QX r w' T v l):=⟨fun h k=>h.all k KM.none⟩
instance {w:World} {α:Type} {r:SV α} {T:Nat->Prop} {v:Value} {l:List α}:Lv w (QX r w T v l) (T):=⟨fun h=>h.live⟩
theorem QX.roa{w:World}{T:Nat->Prop}{v:Value}{l:List α}(h:QX r w T v l):RoA r w T v l:=by
 have hL:=h.live
 rcases h.1.2 with ⟨rfl,h0⟩ | ⟨g,cap,cur,rfl,hb,hg,h1,h2,h3,h4⟩
 ·have:l=[]:=List.eq_nil_of_length_eq_zero h0
  subst this
  exact⟨none,0,rfl,Nat.le_refl _,by unfold maxLen;omega,fun _=>rfl,hL,fun h=>absurd h (by simp)⟩
 ·refine⟨some ⟨g,0,none⟩,cap,rfl,h1,h2,by simp,hL,fun _=>⟨g,0,rfl,(h.2 g).2 rfl,fun j u hj=>?_⟩⟩
  have:=h.1.cells (g:=g) rfl j u hj
  rwa [Addr.add_lit] at this
theorem QX.cells{w:World}{T:Nat->Prop}{v:Value}{l:List α}(h:QX r w T v l):OP w T:=fun i hi=>by
 have hv:=(h.2 i).1 hi
 rcases h.1.2 with ⟨rfl,_⟩ | ⟨g,cap,cur,rfl,_,hg,_⟩
 ·cases hv
 ·cases hv;exact⟨_,hg,rfl⟩
theorem QX.row{A B:World}{row:Option Nat}{n:Nat}{T:Nat->Prop}{v:Value}{l:List α}(h:QX r A T v l)(hg:A.grownBy B row)(hr:QL n A row):QX r B T v l:=h.all (Pv hg) (h.cells.apart hr)
theorem QX.of{w:World}{v:Value}{l:List α}(h:w.ownsRow 0 r.e r.k v l.length (l.flatMap r.enc)):QX r w (fun i=>v.ownBlock=some i) v l:=⟨h,fun _=>Iff.rfl⟩
theorem QX.oneC{w:World}{T:Nat->Prop}{v:Value}{l:List α}(h:QX r w T v l):oneC v=true:=h.roa.oneC
end
section
variable {α:Type} {r:SV α} {ρ:Operand->Value} {o:Oper} {w:World} {R:Value->World->Prop}
theorem aCR{x ix:Operand}{T:Nat->Prop}{v:Value}{l:List α}{k:IntKind}[hk:r.Ok](j:Nat){i:Int}(ho:o.op = .indexAddr r.t x ix)(hx:ρ x=v)(hi:ρ ix = .int k i)(hij:i=(j:Int))(hb:RoA r w T v l)(hj:j<l.length)(h:R (Ny v (j*r.k)) w):Lj Tryz.prog ρ o w R:=by
 subst hij
 obtain⟨a,cap,rfl,_,_,_,_,hc⟩:=hb
 obtain⟨b,off,rfl,_,_⟩:=hc (by omega)
 obtain⟨i0,hi0,hz0,hz1,hz2⟩:=info_parts hk.info
 exact MS (v:=Ny (.slice (some ⟨b,off,none⟩) l.length cap) (j*r.k)) (w':=w) (by simp[execOp,ho,hx,hi,Instr.indexAt,run_underlying hk.slice,asIntOf,sizeOf,typeInfo,hi0,hz1,hj,Ny]) h
theorem aBM{x:Operand}{T:Nat->Prop}{v:Value}{l:List α}{ty:TypeId}{n:Nat}{us:List Value}[hk:r.Ok](j m:Nat)(hT:QA Tryz.prog ty n)(ho:o.op = .load ty x)(hx:ρ x=Ny v (j*r.k+m))(hb:RoA r w T v l)(hj:j<l.length)(hm:m+n<=r.k)(hu:((r.enc (l.getD j r.d)).drop m).take n=us)(h:R (.agg us.toArray) w):Lj Tryz.prog ρ o w R:=by
 subst hu
 obtain⟨a,cap,rfl,_,_,_,_,hc⟩:=hb
 obtain⟨b,off,rfl,_,hcell⟩:=hc (by omega)
 obtain⟨d,hu,hd,hs⟩:=hT
 have hlen:(((r.enc (l.getD j r.d)).drop m).take n).length=n:=by rw[List.length_take,List.length_drop,hk.len];omega
 have e:=run_loadVar_mid (P:=Tryz.prog) w b (off+(j*r.k+m)) ty (((r.enc (l.getD j r.d)).drop m).take n) d (fun q u hq=>by
  have hqn:q<n:=by have:=(List.getElem?_eq_some_iff.1 hq).1;omega
  rw[show off+(j*r.k+m)+q=off+(j*r.k+(m+q)) by omega]
  refine hcell (j*r.k+(m+q)) u ?_
  rw[aBD (r:=r) l j (m+q) hj (by omega)]
  rwa [List.getElem?_take,if_pos hqn,List.getElem?_drop] at hq) hu hd (by rw[hlen];exact hs)
 have hx':ρ x = .pointer (some ⟨b,off+(j*r.k+m),none⟩):=by rw[hx,Ny,Addr.add_lit]
 exact MS (v:=.agg (((r.enc (l.getD j r.d)).drop m).take n).toArray) (w':=w) (by simp only[execOp,ho,hx',Instr.loadAt,Instr.sureAddr,Sem.run_bind,Sem.run_pure,Result.andThen_ok,e]) h
theorem aBE{c:Call}{x:Operand}{T:Nat->Prop}{v:Value}{l:List α}[hk:r.Ok](ho:o.op = .call c)(hc:c={ callee:=.builtin .len,args:=#[x],argTypes:=#[r.t] })(hx:ρ x=v)(hb:RoA r w T v l)(h:R (.int .i64 ((l.length:Nat):Int)) w):Lj Tryz.prog ρ o w R:=by
 subst hc
 obtain⟨a,cap,rfl,_⟩:=hb
 exact aAx ho rfl rfl rfl hk.slice hx h
end
section
variable {α:Type} {r:SV α} {ro:Option Nat} {N:Nat} {Q:(Exit->(Nat->Value)->World->Prop)} {F:Nat->Value} {w:World} {o:Oper}
theorem RW{ops:Array Oper}{rest:List Oper}{c:Call}{x y:Operand}{T U:Nat->Prop}{v u:Value}{l m:List α}[hk:r.Ok](hg:o.guard=none)(hd:Oj N o.dst=true)(ho:o.op = .call c)(hc:c={ callee:=.builtin .append,args:=#[x,y],argTypes:=#[r.t,r.t] })(hx:ev (MN N F) x=v)(hy:ev (MN N F) y=u)(hv:QX r w T v l)(hu:RoA r w U u m)(hl:l.length+m.length<549755813888)
  (h:∀ v' w' T',QX r w' T' v' (l++m)->KS w T T'->KP T w w'->wl ro Tryz.prog N ops Q rest (OL F o.dst v') w'):wl ro Tryz.prog N ops Q (o::rest) F w:=by
 subst hc
 obtain⟨i0,hi0,hz0,hz1,hz2⟩:=info_parts hk.info
 obtain⟨a,cap,rfl,h1,h2,h3,_,hcu⟩:=hu
 cases a with
 | none =>
  have hc0:=h3 rfl
  subst hc0
  have hm:m=[]:=List.eq_nil_of_length_eq_zero (by omega)
  subst hm
  have hr:=run_append_owned_none (P:=Tryz.prog) w 0 r.t o.type r.e i0 r.k hk.slice hi0 v _ _ hv.1
  refine Nu hg hd (MS (v:=v) (w':=w) (by simp[execOp,ho,resolve,invoke,builtin,hx,hy,hr]) (h v w T (by rw[List.append_nil];exact hv) (KS.refl w T) (KP.refl _ _)))
 | some ad =>
  have hzs:r.z.cells.size=r.k:=by rw[← Array.length_toList,hk.cells,hk.len]
  obtain⟨v',w',hr,hown,hgr,hw⟩:=Q8 (P:=Tryz.prog) w r.t o.type r.e i0 r.z r.k r.by_ hk.slice hi0 hz0 hz1 hz2 hzs hk.pos v l.length (l.flatMap r.enc) hv.1 ad m.length cap (m.flatMap r.enc) (Tr (r:=r) m) (fun j x hj=>by
   have hp:0<m.length:=by
    rcases Nat.eq_zero_or_pos m.length with e|e
    ·have:m=[]:=List.eq_nil_of_length_eq_zero e
     subst this;simp at hj
    ·exact e
   obtain⟨b,off,e,_,hcell⟩:=hcu hp
   cases e
   rw[Addr.add_lit];exact hcell j x hj) (azY (r:=r) m) (by unfold maxLen;omega) (by
    have hsm:=hk.small
    have:(l.length+m.length)*r.by_<=549755813888*192:=Nat.mul_le_mul (by omega) hsm
    omega)
  refine Nu hg hd (MS (v:=v') (w':=w') (by simp[execOp,ho,resolve,invoke,builtin,hx,hy,hr]) (h v' w' _ (QX.of (by rw[List.length_append,List.flatMap_append];exact hown)) (fun i hi=>?_) ((KP.refl T w).grown hgr (fun k e _=>(hv.2 k).2 e))))
  rcases hw with hw | ⟨g,hw,hge⟩
  ·exact .inl ((hv.2 i).2 (hw ▸ hi))
  ·rw[hw] at hi;cases hi;exact .inr hge
theorem SF{ops:Array Oper}{rest:List Oper}{parts:Array (Nat×Operand)}{n:Nat}{xs:List Operand}{vs:List Value}{l:List α}[hk:r.Ok](hg:o.guard=none)(hd:Oj N o.dst=true)(ho:o.op = .buildSlice r.t n parts)(hn:n=l.length)(hp:parts.toList=(xs.zipIdx 0).map fun x=>(x.2,x.1))(hx:xs.map (ev (MN N F))=vs)(hv:(vs.map fun v=>v.cells.toList)=l.map r.enc)(h0:0<l.length)(hsz:l.length*r.k<=65536)
  (h:∀ v w' T,QX r w' T v l->KS w Ma T->KP (fun _=>False) w w'->wl ro Tryz.prog N ops Q rest (OL F o.dst v) w'):wl ro Tryz.prog N ops Q (o::rest) F w:=by
 subst hn;subst hx
 obtain⟨i0,hi0,hz0,hz1,hz2⟩:=info_parts hk.info
 have hpos:=hk.pos
 have hlp:0<l.length*r.k:=Nat.mul_pos h0 hpos
 have hlen:xs.length=l.length:=by have:=congrArg List.length hv;simpa using this
 have hflat:(xs.map (ev (MN N F))).flatMap (fun v=>v.cells.toList)=l.flatMap r.enc:=by
  rw[List.flatMap_def,List.flatMap_def,hv]
 have hsize:∀ v∈xs.map (ev (MN N F)),v.cells.size=r.k:=by
  intro v hv'
  have:v.cells.toList∈l.map r.enc:=by rw[← hv];exact List.mem_map.2 ⟨v,hv',rfl⟩
  obtain⟨x,_,e⟩:=List.mem_map.1 this
  rw[← Array.length_toList,← e,hk.len]
 have hrun:=run_buildSlice (P:=Tryz.prog) w r.t r.e l.length (parts.map fun (i,x)=>(i,ev (MN N F) x)) (l.flatMap r.enc).toArray i0 r.z hk.slice hi0 hz0 (by rw[hz1];omega) (by rw[hz1];omega) (by
  rw[hz1]
  have e:(parts.map fun (i,x)=>(i,ev (MN N F) x)).toList=((xs.map (ev (MN N F))).zipIdx 0).map fun x=>(x.2,x.1):=by
   rw[Array.toList_map,hp,List.zipIdx_map,List.map_map,List.map_map];rfl
  rw[e,Great.fill_whole hpos _ _ hsize (by rw[List.length_map,hlen];simp),hflat])
 refine Nu hg hd (MS (v:=.slice (some ⟨w.heap.size,0,none⟩) l.length l.length) (w':=w.alloc (.cells (l.flatMap r.enc).toArray r.e)) (by simp[execOp,ho,hrun]) (h _ _ _ (QX.of ⟨Tr (r:=r) l,.inr ⟨w.heap.size,l.length,_,rfl,Nat.zero_le _,heap_alloc_new _ _,Nat.le_refl _,by unfold maxLen;have:=Nat.le_mul_of_pos_right l.length hpos;omega,by rw[List.size_toArray,Tr (r:=r)],?_⟩⟩) (fun i hi=>.inr ?_) ((KP.refl _ _).alloc _)))
 ·rw[List.toList_toArray];exact List.take_of_length_le (by rw[Tr (r:=r)];exact Nat.le_refl _)
 ·cases hi;exact Nat.le_refl _
end
end Go.Proofs.YtknjpdcpmpfklaaGreatDoor
set_option maxRecDepth 100000
namespace Go.Proofs.YtknjpdcpmpfklaaGreatDoor
open Go.RowKit
structure Vc where
  X:Int
  Y:Int
def aDI:SV Vc:={ t:=111,e:=67,k:=2,by_:=16,enc:=fun x=>[.int .i64 x.X,.int .i64 x.Y],d:=⟨0,0⟩,z:=.agg #[.int .i64 0,.int .i64 0] }
theorem aAZ{a b:Int}:∀ u ∈ [Value.int .i64 a,Value.int .i64 b],u.oneCell'=true:=fun u hu=>by
 rcases List.mem_cons.1 hu with rfl|hu
 ·rfl
 ·rcases List.mem_cons.1 hu with rfl|hu
  ·rfl
  ·cases hu
instance rVec_ok:SV.Ok aDI:=⟨Tryz.underlying111,by kernel_rfl,rfl,by decide,fun _=>rfl,fun _=>aAZ,by decide⟩
def Sj(m n:Int):Option VF:=if NN m n then some (Qy m n) else none
def MZ(m n:Int):Int:=if NN m n then 0 else 1
theorem Tt{m n:Int}(h:NN m n):Sj m n=some (Qy m n):=if_pos h
theorem WV{m n:Int}(h:¬ NN m n):Sj m n=none:=if_neg h
theorem TO{m n:Int}(h:NN m n):MZ m n=0:=if_pos h
theorem Vf{m n:Int}(h:¬ NN m n):MZ m n=1:=if_neg h
end Go.Proofs.YtknjpdcpmpfklaaGreatDoor
set_option maxRecDepth 100000
namespace Go.Proofs.YtknjpdcpmpfklaaGreatDoor
open Go.RowKit
def Nb(a b:Int):Value:=.agg #[.int .i64 a,.int .i64 b]
structure Po (K:TypeId):Prop where
  und:Tryz.prog.underlying K=some (.struct (Tryz.prog.fieldsOf K))
  hel:Tryz.prog.stoodInHeld K=false
  flds : ∃ n0 n1 : String, n0 ≠ "_" ∧ n1 ≠ "_" ∧ (Tryz.prog.fieldsOf K).toList.map (fun f => (f.name, f.type, f.offset)) = [(n0, 3, 0), (n1, 3, 1)]
theorem Po.split{K : TypeId}(h : Po K) : ∃ f0 f1 : Field, Tryz.prog.fieldsOf K = #[f0, f1] ∧ f0.name ≠ "_" ∧ f1.name ≠ "_" ∧ f0.type = 3 ∧ f1.type = 3 ∧ f0.offset = 0 ∧ f1.offset = 1 := by
 obtain⟨n0,n1,h0,h1,hf⟩:=h.flds
 have hlen:(Tryz.prog.fieldsOf K).toList.length=2:=by simpa using congrArg List.length hf
 match hq:(Tryz.prog.fieldsOf K).toList,hlen with
 | [f0,f1],_ =>
  rw[hq] at hf
  simp only[List.map_cons,List.map_nil,List.cons.injEq,Prod.mk.injEq,and_true] at hf
  obtain⟨⟨e0,t0,o0⟩,⟨e1,t1,o1⟩⟩:=hf
  exact⟨f0,f1,by rw[← hq],by rw[e0];exact h0,by rw[e1];exact h1,t0,t1,o0,o1⟩
theorem WM{K:TypeId}(h:Po K)(w:World)(a b c d:Int):(Op.equal K (Nb a b) (Nb c d)).run Tryz.prog w = .ok (NS a b c d) w:=by
 obtain⟨f0,f1,hf,n0,n1,t0,t1,o0,o1⟩:=h.split
 have e:=run_equalIn_struct (P:=Tryz.prog) w 9999 K #[.int .i64 a,.int .i64 b] #[.int .i64 c,.int .i64 d] h.und h.hel
 unfold Op.equal Nb
 refine e.trans ?_
 rw[hf]
 have p1:=OH w #[.int .i64 a,.int .i64 b] 0 a rfl
 have p2:=OH w #[.int .i64 c,.int .i64 d] 0 c rfl
 have p3:=OH w #[.int .i64 a,.int .i64 b] 1 b rfl
 have p4:=OH w #[.int .i64 c,.int .i64 d] 1 d rfl
 simp only[Op.eqFields,t0,o0,t1,o1]
 rw[if_pos n0,if_pos n1]
 simp only[Sem.run_bind,p1,p2,Result.andThen_ok,run_equalIn_int w 9998 3 .i64 .i64 _ _ Tryz.underlying3]
 unfold NS
 by_cases h1:a=c
 ·subst h1
  simp only[beq_self_eq_true,Bool.not_true,Bool.false_eq_true,if_false,Sem.run_bind,p3,p4,Result.andThen_ok,run_equalIn_int w 9998 3 .i64 .i64 _ _ Tryz.underlying3]
  by_cases h2:b=d
  ·subst h2;simp
  ·have:(b==d)=false:=by simpa using h2
   simp[this,h2]
 ·have:(a==c)=false:=by simpa using h1
  simp[this,h1]
theorem QR{K:TypeId}(h:Po K)(w:World)(em:Bool)(a b:Int):(Instr.checkKey em 10000 K (Nb a b)).run Tryz.prog w = .ok () w:=by
 obtain⟨f0,f1,hf,n0,n1,t0,t1,o0,o1⟩:=h.split
 have hu:=h.und
 rw[hf] at hu
 have p1:=OH w #[.int .i64 a,.int .i64 b] 0 a rfl
 have p3:=OH w #[.int .i64 a,.int .i64 b] 1 b rfl
 have hi:∀ z:Int,(Instr.checkKey em 9999 3 (.int .i64 z)).run Tryz.prog w = .ok () w:=fun z=>by
  have e:∀ n,(Instr.checkKey em (n+1) 3 (.int .i64 z)).run Tryz.prog w = .ok () w:=fun n=>by
   unfold Instr.checkKey
   simp only[Sem.run_bind,run_underlying Tryz.underlying3,Result.andThen_ok,Sem.run_pure]
  exact e 9998
 unfold Nb
 have e:∀ n,(∀ z:Int,(Instr.checkKey em n 3 (.int .i64 z)).run Tryz.prog w = .ok () w)->(Instr.checkKey em (n+1) K (.agg #[.int .i64 a,.int .i64 b])).run Tryz.prog w = .ok () w:=fun n hn=>by
  unfold Instr.checkKey
  simp[run_underlying hu,n0,n1,t0,t1,o0,o1,p1,p3,hn]
 exact e 9999 hi
def TY(es:List MapEntry)(L:List ((Int×Int)×Int×Int)):Prop:=es.map (fun e=>(e.key,e.val))=L.map fun q=>(Nb q.1.1 q.1.2,Nb q.2.1 q.2.2)
def TM(a b:Int):List ((Int×Int)×Int×Int)->Nat->Option (Nat×Int×Int)
 | [],_=>none
 | q::r,i=>if q.1=(a,b) then some (i,q.2) else TM a b r (i+1)
theorem Yu{K:TypeId}(h:Po K)(w:World)(a b:Int):∀ (L:List ((Int×Int)×Int×Int)) (es:List MapEntry) (i:Nat),TY es L->(Instr.findAsking K (Nb a b) es i).run Tryz.prog w = .ok ((TM a b L i).map fun z=>(z.1,Nb z.2.1 z.2.2)) w:=by
 intro L
 induction L with
 | nil =>
  intro es i he
  have:es=[]:=by simpa [TY] using he
  subst this
  simp[Instr.findAsking,TM]
 | cons q r ih =>
  intro es i he
  cases es with
  | nil=>simp[TY] at he
  | cons e es =>
   obtain⟨⟨c,d⟩,X,Y⟩:=q
   simp only[TY,List.map_cons,List.cons.injEq,Prod.mk.injEq] at he
   obtain⟨⟨e1,e2⟩,he⟩:=he
   simp only[Instr.findAsking,Sem.run_bind,e1,e2,WM h,Result.andThen_ok,TM]
   by_cases hk:(c,d)=(a,b)
   ·cases hk
    rw[Wz,if_pos rfl,if_pos rfl];rfl
   ·rw[if_neg hk]
    have hs:NS a b c d=false:=by
     unfold NS
     by_cases h1:a=c
     ·subst h1
      rw[decide_eq_false (p:=b=d) (fun h2=>hk (by rw[h2])),Bool.and_false]
     ·rw[decide_eq_false h1,Bool.false_and]
    rw[hs,if_neg (by simp)]
    exact ih es (i+1) he
theorem Rt{K:TypeId}(h:Po K)(w:World)(a b:Int)(L:List ((Int×Int)×Int×Int))(es:List MapEntry)(he:TY es L):(Instr.findKey K (Nb a b) es).run Tryz.prog w = .ok ((TM a b L 0).map fun z=>(z.1,Nb z.2.1 z.2.2)) w:=by
 have ha:=Yu h w a b L es 0 he
 unfold Instr.findKey
 cases es with
 | nil =>
  have:L=[]:=by simpa [TY] using he.symm
  subst this
  simp[run_underlying h.und,Instr.findNow,TM]
 | cons e es =>
  simp only[Sem.run_bind,run_underlying h.und,Result.andThen_ok,Instr.findNow,Instr.sameNow]
  exact ha
abbrev SS:=List ((Int×Int)×Int×Int)
def N8(a b:Int):SS->Int×Int
 | []=>(0,0)
 | q::r=>if q.1=(a,b) then q.2 else N8 a b r
def RG(a b X Y:Int):SS->SS
 | []=>[((a,b),X,Y)]
 | q::r=>if q.1=(a,b) then ((a,b),X,Y)::r else q::RG a b X Y r
def SW(a b:Int):SS->SS
 | []=>[]
 | q::r=>if q.1=(a,b) then r else q::SW a b r
theorem Vj{a b:Int}:∀ {L:SS} {k:Nat},TM a b L k=none->N8 a b L=(0,0)/\(∀ X Y,RG a b X Y L=L ++ [((a,b),X,Y)])/\SW a b L=L:=by
 intro L
 induction L with
 | nil=>intro k _;exact⟨rfl,fun _ _=>rfl,rfl⟩
 | cons q r ih =>
  intro k h
  rw[TM] at h
  by_cases hq:q.1=(a,b)
  ·rw[if_pos hq] at h;cases h
  ·rw[if_neg hq] at h
   obtain⟨h1,h2,h3⟩:=ih h
   exact⟨by rw[N8,if_neg hq,h1],fun X Y=>by rw[RG,if_neg hq,h2,List.cons_append],by rw[SW,if_neg hq,h3]⟩
theorem Vy{a b:Int}{z:Int×Int}:∀ {L:SS} {k j:Nat},TM a b L k=some (j,z)->∃ i,j=k+i/\L[i]? = some ((a,b),z)/\N8 a b L=z/\(∀ X Y,RG a b X Y L=L.set i ((a,b),X,Y))/\SW a b L=L.eraseIdx i:=by
 intro L
 induction L with
 | nil=>intro k j h;cases h
 | cons q r ih =>
  intro k j h
  rw[TM] at h
  by_cases hq:q.1=(a,b)
  ·rw[if_pos hq] at h
   cases h
   exact⟨0,rfl,by rw[List.getElem?_cons_zero,← hq],by rw[N8,if_pos hq],fun X Y=>by rw[RG,if_pos hq];rfl,by rw[SW,if_pos hq];rfl⟩
  ·rw[if_neg hq] at h
   obtain⟨i,h1,h2,h3,h4,h5⟩:=ih h
   exact⟨i+1,by omega,by rw[List.getElem?_cons_succ];exact h2,by rw[N8,if_neg hq,h3],fun X Y=>by rw[RG,if_neg hq,h4];rfl,by rw[SW,if_neg hq,h5];rfl⟩
theorem azh(a b X Y c d:Int)(L:SS):N8 c d (RG a b X Y L)=if (c,d)=(a,b) then (X,Y) else N8 c d L:=by
 induction L with
 | nil =>
  by_cases h:(c,d)=(a,b)
  ·rw[if_pos h,RG]
   simp only[N8]
   rw[if_pos h.symm]
  ·rw[if_neg h,RG]
   simp only[N8]
   rw[if_neg (fun e=>h e.symm)]
 | cons q r ih =>
  rw[RG]
  by_cases hq:q.1=(a,b)
  ·rw[if_pos hq,N8]
   by_cases h:(c,d)=(a,b)
   ·rw[if_pos h,if_pos h.symm]
   ·rw[if_neg h,if_neg (fun e=>h e.symm),N8,if_neg (fun e=>h (by rw[← e,hq]))]
  ·rw[if_neg hq,N8,N8,ih]
   by_cases h2:q.1=(c,d)
   ·rw[if_pos h2,if_pos h2,if_neg (fun e=>hq (by rw[h2,e]))]
   ·rw[if_neg h2,if_neg h2]
theorem aAr{c d:Int}{L:SS}(h:(c,d)∉L.map (·.1)):N8 c d L=(0,0):=by
 induction L with
 | nil=>rfl
 | cons q r ih =>
  simp only[List.map_cons,List.mem_cons,not_or] at h
  rw[N8,if_neg (fun e=>h.1 e.symm)];exact ih h.2
theorem azM(a b c d:Int)(L:SS)(hn:(L.map (·.1)).Nodup):N8 c d (SW a b L)=if (c,d)=(a,b) then (0,0) else N8 c d L:=by
 induction L with
 | nil=>rw[SW,N8];split <;> rfl
 | cons q r ih =>
  simp only[List.map_cons,List.nodup_cons] at hn
  rw[SW]
  by_cases hq:q.1=(a,b)
  ·rw[if_pos hq]
   by_cases h:(c,d)=(a,b)
   ·rw[if_pos h];exact aAr (by rw[h,← hq];exact hn.1)
   ·rw[if_neg h,N8,if_neg (fun e=>h (by rw[← e,hq]))]
  ·rw[if_neg hq,N8,N8,ih hn.2]
   by_cases h2:q.1=(c,d)
   ·rw[if_pos h2,if_pos h2,if_neg (fun e=>hq (by rw[h2,e]))]
   ·rw[if_neg h2,if_neg h2]
theorem azS(a b X Y:Int)(L:SS)(k:Int×Int):k∈(RG a b X Y L).map (·.1)↔k=(a,b)\/k∈L.map (·.1):=by
 induction L with
 | nil=>simp[RG]
 | cons q r ih =>
  rw[RG]
  by_cases hq:q.1=(a,b)
  ·rw[if_pos hq];simp only[List.map_cons,List.mem_cons,hq]
   constructor
   ·rintro (h|h)
    ·exact .inl h
    ·exact .inr (.inr h)
   ·rintro (h|h|h)
    ·exact .inl h
    ·exact .inl h
    ·exact .inr h
  ·rw[if_neg hq];simp only[List.map_cons,List.mem_cons,ih]
   constructor
   ·rintro (h|h|h)
    ·exact .inr (.inl h)
    ·exact .inl h
    ·exact .inr (.inr h)
   ·rintro (h|h|h)
    ·exact .inr (.inl h)
    ·exact .inl h
    ·exact .inr (.inr h)
theorem ay3(a b X Y:Int)(L:SS)(hn:(L.map (·.1)).Nodup):((RG a b X Y L).map (·.1)).Nodup:=by
 induction L with
 | nil=>simp[RG]
 | cons q r ih =>
  simp only[List.map_cons,List.nodup_cons] at hn
  rw[RG]
  by_cases hq:q.1=(a,b)
  ·rw[if_pos hq];simp only[List.map_cons,List.nodup_cons];exact⟨by rw[← hq];exact hn.1,hn.2⟩
  ·rw[if_neg hq];simp only[List.map_cons,List.nodup_cons]
   refine⟨fun h=>?_,ih hn.2⟩
   rcases (azS a b X Y r q.1).1 h with h|h
   ·exact hq h
   ·exact hn.1 h
theorem aBG(a b:Int)(L:SS):(SW a b L).Sublist L:=by
 induction L with
 | nil=>exact List.Sublist.refl _
 | cons q r ih =>
  rw[SW]
  split
  ·exact List.sublist_cons_self _ _
  ·exact ih.cons_cons _
theorem Z9(a b:Int)(L:SS)(hn:(L.map (·.1)).Nodup):((SW a b L).map (·.1)).Nodup:=List.Nodup.sublist ((aBG a b L).map _) hn
def VY(w:World)(r:Nat)(g:Int->Int->Int×Int):Prop:=∃ es clock L,w.heap[r]? = some (.map es clock)/\TY es.toList L/\(L.map (·.1)).Nodup/\∀ a b,N8 a b L=g a b
theorem VY.lt{w:World}{r:Nat}{g:Int->Int->Int×Int}(h:VY w r g):r<w.heap.size:=by obtain⟨_,_,_,h,_⟩:=h;exact MK h
theorem VY.all{S:Nat->Prop}{w w':World}{r:Nat}{g:Int->Int->Int×Int}(h:VY w r g)(k:KP S w w')(hn:¬ S r):VY w' r g:=by
 obtain⟨es,clock,L,h1,h2⟩:=h;exact⟨es,clock,L,k.at h1 hn,h2⟩
instance {w w':World} {r:Nat} {g:Int->Int->Int×Int}:Cr w w' (VY w r g) (VY w' r g):=⟨fun h k=>h.all k id⟩
instance {w:World} {r:Nat} {g:Int->Int->Int×Int}:Lv w (VY w r g) (Lh r):=⟨fun h=>LO h.lt⟩
theorem VY.congr{w:World}{r:Nat}{g g':Int->Int->Int×Int}(h:VY w r g)(e:∀ a b,g a b=g' a b):VY w r g':=by
 obtain⟨es,clock,L,h1,h2,h3,h4⟩:=h;exact⟨es,clock,L,h1,h2,h3,fun a b=>(h4 a b).trans (e a b)⟩
def V1(g:Int->Int->Int×Int)(a b X Y:Int):Int->Int->Int×Int:=fun c d=>if (c,d)=(a,b) then (X,Y) else g c d
section
variable {ρ:Operand->Value} {o:Oper} {w:World} {R:Value->World->Prop} {M K E:TypeId}
theorem WX{x ix:Operand}{r:Nat}{a b:Int}{g:Int->Int->Int×Int}(hK:Po K)(hM:Tryz.prog.underlying M=some (.map K E))(hz:(Tryz.prog.info? E).bind (·.zero)=some (Nb 0 0))(ho:o.op = .lookup M x ix false)(hx:ρ x = .map (some r))(hi:ρ ix=Nb a b)(hB:VY w r g)(h:R (Nb (g a b).1 (g a b).2) w):Lj Tryz.prog ρ o w R:=by
 obtain⟨es,clock,L,h1,h2,_,h4⟩:=hB
 have hf:=Rt hK w a b L es.toList h2
 have hc:=QR hK w es.isEmpty a b
 have hz':(zeroValue E).run Tryz.prog w = .ok (Nb 0 0) w:=by
  cases hq:Tryz.prog.info? E with
  | none=>rw[hq] at hz;cases hz
  | some i =>
   have:i.zero=some (Nb 0 0):=by rw[hq] at hz;exact hz
   simp[zeroValue,typeInfo,hq,this]
 refine MS (v:=Nb (g a b).1 (g a b).2) (w':=w) ?_ h
 rw[← h4 a b]
 cases hq:TM a b L 0 with
 | none =>
  rw[hq] at hf
  rw[(Vj hq).1]
  simp[execOp,ho,hx,hi,Instr.lookup,run_underlying hM,MapKept.run_getObj_map h1,hc,hf,hz']
 | some z =>
  obtain⟨j,X,Y⟩:=z
  obtain⟨i,_,_,e,_⟩:=Vy hq
  rw[hq] at hf
  rw[e]
  simp[execOp,ho,hx,hi,Instr.lookup,run_underlying hM,MapKept.run_getObj_map h1,hc,hf]
theorem XK{w:World}{r:Nat}{ob:Obj}(h:r<w.heap.size):({ w with heap:=w.heap.setIfInBounds r ob }:World).heap[r]? = some ob:=by simp[h]
theorem Xv(w:World)(r:Nat)(ob:Obj):KP (Lh r) w { w with heap:=w.heap.setIfInBounds r ob }:=⟨rfl,rfl,rfl,by simp,fun i hi hn=>by
 have:r≠i:=fun e=>hn e.symm
 simp[Array.getElem?_setIfInBounds_ne this]⟩
theorem Wc{α β:Type}(f:α->β):∀ (l:List α) (i:Nat),(l.eraseIdx i).map f=(l.map f).eraseIdx i:=by
 intro l
 induction l with
 | nil=>intro i;rfl
 | cons x l ih =>
  intro i
  cases i with
  | zero=>rfl
  | succ i=>simp[ih i]
theorem aBq{es:List MapEntry}{L:SS}(h:TY es L){i:Nat}{q:(Int×Int)×Int×Int}(hq:L[i]? = some q):∃ e,es[i]? = some e/\e.key=Nb q.1.1 q.1.2/\e.val=Nb q.2.1 q.2.2:=by
 have:=congrArg (fun l=>l[i]?) h
 simp only[List.getElem?_map,hq,Option.map_some] at this
 cases he:es[i]? with
 | none=>rw[he] at this;cases this
 | some e =>
  rw[he] at this
  simp only[Option.map_some,Option.some.injEq,Prod.mk.injEq] at this
  exact⟨e,rfl,this.1,this.2⟩
theorem ay6(a b:Int):Instr.sameBits 10000 (Nb a b) (Nb a b)=true:=by
 have e:∀ n,Instr.sameBits (n+1) (Nb a b) (Nb a b)=true:=fun n=>by
  unfold Nb Instr.sameBits
  simp[Instr.sameBits]
 exact e 9999
theorem aCw{x ix y:Operand}{r:Nat}{a b X Y:Int}{g:Int->Int->Int×Int}(hK:Po K)(hM:Tryz.prog.underlying M=some (.map K E))(ho:o.op = .mapUpdate M x ix y)(hx:ρ x = .map (some r))(hi:ρ ix=Nb a b)(hy:ρ y=Nb X Y)(hB:VY w r g)
  (h:∀ u w',VY w' r (V1 g a b X Y)->KP (Lh r) w w'->R u w'):Lj Tryz.prog ρ o w R:=by
 obtain⟨es,clock,L,h1,h2,h3,h4⟩:=hB
 have hlt:=MK h1
 have hf:=Rt hK w a b L es.toList h2
 have hc:=QR hK w false a b
 have hlay:∀ c d,N8 c d (RG a b X Y L)=V1 g a b X Y c d:=fun c d=>by rw[azh];unfold V1;rw[h4]
 have main:∀ es' clock',TY es'.toList (RG a b X Y L)->(Instr.mapUpdate M (.map (some r)) (Nb a b) (Nb X Y)).run Tryz.prog w = .ok () { w with heap:=w.heap.setIfInBounds r (.map es' clock') }->Lj Tryz.prog ρ o w R:=by
  intro es' clock' he hr
  have hB':VY { w with heap:=w.heap.setIfInBounds r (.map es' clock') } r (V1 g a b X Y):=⟨es',clock',_,XK hlt,he,ay3 a b X Y L h3,hlay⟩
  unfold Lj
  have e:(execOp ρ o).run Tryz.prog w = .ok .skip { w with heap:=w.heap.setIfInBounds r (.map es' clock') }\/(execOp ρ o).run Tryz.prog w = .ok (.value undef) { w with heap:=w.heap.setIfInBounds r (.map es' clock') }:=by
   simp[execOp,ho,hx,hi,hy,hr]
  rcases e with e|e <;> rw[e] <;> exact h _ _ hB' (Xv w r _)
 cases hq:TM a b L 0 with
 | none =>
  rw[hq] at hf
  refine main (es.push { key:=Nb a b,val:=Nb X Y,born:=clock }) (clock+1) ?_ ?_
  ·rw[(Vj hq).2.1 X Y,Array.toList_push]
   unfold TY at h2 ⊢
   rw[List.map_append,List.map_append,h2];rfl
  ·simp[Instr.mapUpdate,run_underlying hM,MapKept.run_getObj_map h1,hc,hf,MapKept.run_setObj_map _ h1]
 | some z =>
  obtain⟨j,X0,Y0⟩:=z
  obtain⟨i,hji,hLi,_,hset,_⟩:=Vy hq
  have hji:j=i:=by omega
  subst hji
  rw[hq] at hf
  obtain⟨e,he,hek,hev⟩:=aBq h2 hLi
  have he':es[j]? = some e:=by simpa using he
  refine main (es.modify j fun e=>{ e with key:=Nb a b,val:=Nb X Y }) clock ?_ ?_
  ·rw[hset X Y]
   unfold TY at h2 ⊢
   apply List.ext_getElem?
   intro n
   have h2n:=congrArg (fun l=>l[n]?) h2
   simp only[List.getElem?_map] at h2n
   rw[List.getElem?_map,List.getElem?_map,Array.getElem?_toList,Array.getElem?_modify]
   have hes:es.toList[n]? = es[n]? := Array.getElem?_toList
   rw[hes] at h2n
   by_cases hn:j=n
   ·subst hn
    rw[if_pos rfl,he',List.getElem?_set_self (List.getElem?_eq_some_iff.1 hLi).1];rfl
   ·rw[if_neg hn,List.getElem?_set_ne hn];exact h2n
  ·have hkk:((es[j]?).map (·.key)).getD (Nb a b)=Nb a b:=by rw[he'];exact hek
   simp[Instr.mapUpdate,run_underlying hM,MapKept.run_getObj_map h1,hc,hf,MapKept.run_setObj_map _ h1,hkk,Instr.keyThatStays,ay6]
theorem aCK{c:Call}{x ix:Operand}{r:Nat}{a b:Int}{g:Int->Int->Int×Int}(hK:Po K)(hM:Tryz.prog.underlying M=some (.map K E))(ho:o.op = .call c)(hc':c={ callee:=.builtin .delete,args:=#[x,ix],argTypes:=#[M,K] })(hx:ρ x = .map (some r))(hi:ρ ix=Nb a b)(hB:VY w r g)
  (h:∀ u w',VY w' r (V1 g a b 0 0)->KP (Lh r) w w'->R u w'):Lj Tryz.prog ρ o w R:=by
 subst hc'
 obtain⟨es,clock,L,h1,h2,h3,h4⟩:=hB
 have hlt:=MK h1
 have hf:=Rt hK w a b L es.toList h2
 have hc:=QR hK w es.isEmpty a b
 have hlay:∀ c d,N8 c d (SW a b L)=V1 g a b 0 0 c d:=fun c d=>by rw[azM a b c d L h3];unfold V1;rw[h4]
 have main:∀ es',TY es'.toList (SW a b L)->(Builtin.delete_ #[M,K] o.type #[.map (some r),Nb a b]).run Tryz.prog w = .ok (.tuple #[]) { w with heap:=w.heap.setIfInBounds r (.map es' clock) }->Lj Tryz.prog ρ o w R:=by
  intro es' he hr
  have hB':VY { w with heap:=w.heap.setIfInBounds r (.map es' clock) } r (V1 g a b 0 0):=⟨es',clock,_,XK hlt,he,Z9 a b L h3,hlay⟩
  exact MS (v:=.tuple #[]) (by simp[execOp,ho,resolve,invoke,builtin,hx,hi,hr]) (h _ _ hB' (Xv w r _))
 cases hq:TM a b L 0 with
 | none =>
  rw[hq] at hf
  refine main es (by rw[(Vj hq).2.2];exact h2) ?_
  simp[Builtin.delete_,run_underlying hM,MapKept.run_getObj_map h1,hc,hf,MapKept.run_setObj_map _ h1]
 | some z =>
  obtain⟨j,X0,Y0⟩:=z
  obtain⟨i,hji,hLi,_,_,hdel⟩:=Vy hq
  have hji:j=i:=by omega
  subst hji
  rw[hq] at hf
  refine main (es.eraseIdxIfInBounds j) ?_ ?_
  ·rw[hdel]
   unfold TY at h2 ⊢
   rw[Array.toList_eraseIdxIfInBounds,Wc,Wc,h2]
  ·simp[Builtin.delete_,run_underlying hM,MapKept.run_getObj_map h1,hc,hf,MapKept.run_setObj_map _ h1]
theorem Y5(ho:o.op = .makeMap M none)(h:∀ r w',VY w' r (fun _ _=>(0,0))->KS w Ma (Lh r)->KP (fun _=>False) w w'->R (.map (some r)) w'):Lj Tryz.prog ρ o w R :=
 MS (v:=.map (some w.heap.size)) (w':=w.alloc (.map #[] 0)) (by simp[execOp,ho,Instr.makeMap,go_sem]) (h _ _ ⟨#[],0,[],heap_alloc_new _ _,rfl,by simp,fun _ _=>rfl⟩ (LV (Nat.le_refl _)) ((KP.refl _ _).alloc _))
end
end Go.Proofs.YtknjpdcpmpfklaaGreatDoor
set_option maxRecDepth 100000
namespace Go.Proofs.YtknjpdcpmpfklaaGreatDoor
open Go.RowKit
def Qr(f:VF):Int->Int->Int×Int:=fun a b=>(f.X a b,f.Y a b)
def Vfp(w:World)(T:Nat->Prop)(p:Nat)(f:VF):Prop:=∃ r,(∀ i,T i↔(Lh p i\/Lh r i))/\My w p 136 [.int .i64 f.w,.int .i64 f.h,.map (some r)]/\VY w r (Qr f)/\KM (Lh p) (Lh r)/\OkV f
theorem Vfp.live{w:World}{T:Nat->Prop}{p:Nat}{f:VF}(h:Vfp w T p f):Pb w T:=by
 obtain⟨r,hT,h1,h2,_⟩:=h
 exact fun i hi=>((hT i).1 hi).elim (fun e=>by cases e;exact h1.lt) (fun e=>by cases e;exact h2.lt)
theorem Vfp.all{S:Nat->Prop}{w w':World}{T:Nat->Prop}{p:Nat}{f:VF}(h:Vfp w T p f)(k:KP S w w')(ha:KM T S):Vfp w' T p f:=by
 obtain⟨r,hT,h1,h2,h3,h4⟩:=h
 exact⟨r,hT,h1.all k (ha p ((hT p).2 (Or.inl rfl))),h2.all k (ha r ((hT r).2 (Or.inr rfl))),h3,h4⟩
theorem Vfp.ok{w:World}{T:Nat->Prop}{p:Nat}{f:VF}(h:Vfp w T p f):OkV f:=by obtain⟨_,_,_,_,_,h⟩:=h;exact h
def PJ(w:World)(T:Nat->Prop)(v:Value)(o:Option VF):Prop:=match o with
 | none=>v = .pointer none/\T=Ma
 | some f=>∃ p,v = .pointer (some ⟨p,0,none⟩)/\Vfp w T p f
theorem PJ.nil(w:World):PJ w Ma (.pointer none) none:=⟨rfl,rfl⟩
theorem PJ.live{w:World}{T:Nat->Prop}{v:Value}{o:Option VF}(h:PJ w T v o):Pb w T:=by
 cases o with
 | none=>obtain⟨_,rfl⟩:=h;exact fun _ h=>h.elim
 | some f=>obtain⟨p,_,h⟩:=h;exact h.live
theorem PJ.all{S:Nat->Prop}{w w':World}{T:Nat->Prop}{v:Value}{o:Option VF}(h:PJ w T v o)(k:KP S w w')(ha:KM T S):PJ w' T v o:=by
 cases o with
 | none=>exact h
 | some f=>obtain⟨p,e,h⟩:=h;exact⟨p,e,h.all k ha⟩
instance {w w':World} {T:Nat->Prop} {v:Value} {o:Option VF}:Cr w w' (PJ w T v o) (PJ w' T v o):=⟨fun h k=>h.all k KM.none⟩
instance {w:World} {T:Nat->Prop} {v:Value} {o:Option VF}:Lv w (PJ w T v o) (T):=⟨fun h=>h.live⟩
theorem PJ.ok{w:World}{T:Nat->Prop}{v:Value}{f:VF}(h:PJ w T v (some f)):OkV f:=by obtain⟨_,_,h⟩:=h;exact h.ok
theorem PJ.isnil{w:World}{T:Nat->Prop}{v:Value}{o:Option VF}(h:PJ w T v o):∃ a,v = .pointer a/\a.isNone=o.isNone:=by
 cases o with
 | none=>exact⟨none,h.1,rfl⟩
 | some f=>obtain⟨p,e,_⟩:=h;exact⟨_,e,rfl⟩
def Zw(n:Int):Prop := -9223372036854775808<=n/\n<=9223372036854775807
end Go.Proofs.YtknjpdcpmpfklaaGreatDoor
set_option maxRecDepth 100000
namespace Go.Proofs.YtknjpdcpmpfklaaGreatDoor
open Go.RowKit
theorem MM:QA Tryz.prog 106 3:=⟨_,Tryz.underlying106,rfl,by kernel_rfl⟩
def Wy(w:World)(T:Nat->Prop)(g:Nat)(l:List Nat):Prop:=T=Lh g/\w.heap[g]? = some (.cells (LF l).toArray 5 (0,0))
theorem Wy.live{w:World}{T:Nat->Prop}{g:Nat}{l:List Nat}(h:Wy w T g l):Pb w T:=by
 obtain⟨rfl,h⟩:=h;exact LO (MK h)
theorem Wy.all{S:Nat->Prop}{w w':World}{T:Nat->Prop}{g:Nat}{l:List Nat}(h:Wy w T g l)(k:KP S w w')(ha:KM T S):Wy w' T g l:=by
 obtain⟨rfl,h⟩:=h;exact⟨rfl,k.at h (ha g rfl)⟩
instance {w w':World} {T:Nat->Prop} {g:Nat} {l:List Nat}:Cr w w' (Wy w T g l) (Wy w' T g l):=⟨fun h k=>h.all k KM.none⟩
instance {w:World} {T:Nat->Prop} {g:Nat} {l:List Nat}:Lv w (Wy w T g l) (T):=⟨fun h=>h.live⟩
def ZO(l:List Nat)(st:Option Nat)(a:Nat)(b:Bool):Prop:=match st with
 | some n=>n<=8*l.length/\a=n/\b=false
 | none=>b=true
theorem P4{w:World}{p g:Nat}{l:List Nat}{st:Option Nat}(h:QW w p g l st):∃ (a:Nat) (b:Bool),ZO l st a b/\My w p 106 [.slice (some ⟨g,0,none⟩) l.length l.length,.int .i64 (a:Int),.bool b]/\Wy w (Lh g) g l/\KM (Lh p) (Lh g):=by
 cases st with
 | none =>
  obtain⟨a,h⟩:=h
  exact⟨a,true,rfl,h.1,⟨rfl,h.2.1⟩,fun i h1 h2=>h.2.2 (h2.symm.trans h1)⟩
 | some n=>exact⟨n,false,⟨h.1,rfl,rfl⟩,h.2.1,⟨rfl,h.2.2.1⟩,fun i h1 h2=>h.2.2.2 (h2.symm.trans h1)⟩
theorem Qh{w:World}{p g:Nat}{l:List Nat}{st:Option Nat}{a:Nat}{b:Bool}(ho:ZO l st a b)(h1:My w p 106 [.slice (some ⟨g,0,none⟩) l.length l.length,.int .i64 (a:Int),.bool b])(h2:Wy w (Lh g) g l)(ha:KM (Lh p) (Lh g)):QW w p g l st:=by
 have hne:g≠p:=fun e=>ha g e rfl
 cases st with
 | none=>cases ho;exact⟨a,h1,h2.2,hne⟩
 | some n=>obtain⟨h3,rfl,rfl⟩:=ho;exact⟨h3,h1,h2.2,hne⟩
theorem azA{w:World}{T:Nat->Prop}{p:Nat}{l:List Nat}{st:Option Nat}(h:Ps w T p l st):∃ (g a:Nat) (b:Bool),Pa l/\(∀ i,T i↔(Lh p i\/Lh g i))/\ZO l st a b/\My w p 106 [.slice (some ⟨g,0,none⟩) l.length l.length,.int .i64 (a:Int),.bool b]/\Wy w (Lh g) g l/\KM (Lh p) (Lh g):=by
 obtain⟨hf,g,rfl,h⟩:=h
 obtain⟨a,b,h1,h2,h3,h4⟩:=P4 h
 exact⟨g,a,b,hf,fun i=>Iff.rfl,h1,h2,h3,h4⟩
theorem Mp{w:World}{p g:Nat}{l:List Nat}{st:Option Nat}{a:Nat}{b:Bool}(hf:Pa l)(ho:ZO l st a b)(h1:My w p 106 [.slice (some ⟨g,0,none⟩) l.length l.length,.int .i64 (a:Int),.bool b])(h2:Wy w (Lh g) g l)(ha:KM (Lh p) (Lh g)):Ps w (fun i=>Lh p i\/Lh g i) p l st:=⟨hf,g,rfl,Qh ho h1 h2 ha⟩
def MQ(l:List Nat)(gx gy:Int)(s:Option Nat):Option Nat:=if SC l gx gy s then vrS l s else s
theorem QP{l:List Nat}{gx gy:Int}{s:Option Nat}(h:Qs l gx gy s=0):MQ l gx gy s=vrS l s:=by
 unfold Qs at h;unfold MQ
 split at h
 ·rename_i h';rw[if_pos h']
 ·cases h
theorem Qf : Po 138 := ⟨Tryz.underlying138, by kernel_rfl, "x", "y", by decide, by decide, by kernel_rfl⟩
theorem N2:QA Tryz.prog 138 2:=⟨_,Tryz.underlying138,rfl,by kernel_rfl⟩
theorem Va(n:Int)(w0:World) :
  Calls Tryz.prog 94 #[.int .i64 (n)] w0 fun e w'=>e = .returned (.bool (decide (1<=n/\n<=16)))/\KP (fun _=>False) w0 w':=by
 refine Ls (args:=[iv n]) 9 Tryz.func94 rfl rfl (Nat.le_of_ble_eq_true rfl) ?_
 have K0:=KP.refl (fun _=>False) w0
 refine KK (KI (KJ (.bool false) rfl rfl (KX rfl rfl rr) (KO ?_)))
 have s3:=La (iv n)
 have s4:=La (undef)
 refine KH (KK ?_)
 by_cases d5:1<=n
 ·skip
  refine KI (KW rfl rfl rfl s3 (KJ (.bool true) rfl rfl (Nl rfl rfl rfl (decide_eq_true d5) rr) (KJ (.bool true) rfl rfl (KQ rfl rfl rr) (KR (iv n) 2 true 5 rfl rfl rfl rfl rfl (KQ rfl s3 rr) (KR (.bool (decide (n<=16))) 2 true 5 rfl rfl rfl rfl rfl (Nf rfl rfl rfl rfl rr) (KJ (.bool (decide (n<=16))) rfl rfl (Lg rfl rfl rfl rr) (KJ (.bool (decide (n<=16))) rfl rfl (KX rfl rfl rr) (KO ?_))))))))
  have s9:=La (.bool (decide (n<=16)))
  refine KH (Ld ?_)
  exact Lu (v:=.bool (decide (n<=16))) s4 rfl rfl s9 ⟨(O9 (by first|exact(decide_eq_true (by omega)).symm|exact(decide_eq_false (by omega)).symm|exact decide_eq_decide.2 (by omega))),K0⟩
 ·skip
  refine KI (KW rfl rfl rfl s3 (KJ (.bool false) rfl rfl (Nl rfl rfl rfl (decide_eq_false d5) rr) (KJ (.bool false) rfl rfl (KQ rfl rfl rr) (KL 2 true 5 rfl rfl rfl (Or.inl rfl) rfl (KL 2 true 5 rfl rfl rfl (Or.inl rfl) rfl (KJ (.bool false) rfl rfl (Lb rfl rfl rfl rr) (KJ (.bool false) rfl rfl (KX rfl rfl rr) (KO ?_))))))))
  have ah:=La (.bool false)
  refine KH (Ld ?_)
  exact Lu (v:=.bool false) s4 rfl rfl ah ⟨(O9 (by first|exact(decide_eq_true (by omega)).symm|exact(decide_eq_false (by omega)).symm|exact decide_eq_decide.2 (by omega))),K0⟩
theorem Q3(x n:Int)(w0:World) :
  Calls Tryz.prog 102 #[.int .i64 (x),.int .i64 (n)] w0 fun e w'=>e = .returned (.bool (decide (0<=x/\x<n)))/\KP (fun _=>False) w0 w':=by
 refine Ls (args:=[iv x,iv n]) 12 Tryz.func102 rfl rfl (Nat.le_of_ble_eq_true rfl) ?_
 have K0:=KP.refl (fun _=>False) w0
 refine KK (KI (KJ (.bool false) rfl rfl (KX rfl rfl rr) (KO ?_)))
 have s3:=La (iv x)
 have s4:=La (iv n)
 have s5:=La (undef)
 refine KH (KK ?_)
 by_cases d6:0<=x
 ·skip
  refine KI (KW rfl rfl rfl s3 (KJ (.bool true) rfl rfl (Nl rfl rfl rfl (decide_eq_true d6) rr) (KJ (.bool true) rfl rfl (KQ rfl rfl rr) (KR (iv x) 2 true 7 rfl rfl rfl rfl rfl (KQ rfl s3 rr) (KR (iv n) 2 true 7 rfl rfl rfl rfl rfl (KQ rfl s4 rr) (KR (.bool (decide (x<n))) 2 true 7 rfl rfl rfl rfl rfl (L5 rfl rfl rfl rfl rr) (KJ (.bool (decide (x<n))) rfl rfl (Lg rfl rfl rfl rr) (KJ (.bool (decide (x<n))) rfl rfl (KX rfl rfl rr) (KO ?_)))))))))
  have ah:=La (.bool (decide (x<n)))
  refine KH (Ld ?_)
  exact Lu (v:=.bool (decide (x<n))) s5 rfl rfl ah ⟨(O9 (by first|exact(decide_eq_true (by omega)).symm|exact(decide_eq_false (by omega)).symm|exact decide_eq_decide.2 (by omega))),K0⟩
 ·skip
  refine KI (KW rfl rfl rfl s3 (KJ (.bool false) rfl rfl (Nl rfl rfl rfl (decide_eq_false d6) rr) (KJ (.bool false) rfl rfl (KQ rfl rfl rr) (KL 2 true 7 rfl rfl rfl (Or.inl rfl) rfl (KL 2 true 7 rfl rfl rfl (Or.inl rfl) rfl (KL 2 true 7 rfl rfl rfl (Or.inl rfl) rfl (KJ (.bool false) rfl rfl (Lb rfl rfl rfl rr) (KJ (.bool false) rfl rfl (KX rfl rfl rr) (KO ?_)))))))))
  have ai:=La (.bool false)
  refine KH (Ld ?_)
  exact Lu (v:=.bool false) s5 rfl rfl ai ⟨(O9 (by first|exact(decide_eq_true (by omega)).symm|exact(decide_eq_false (by omega)).symm|exact decide_eq_decide.2 (by omega))),K0⟩
theorem VR(a b c:Int)(w0:World) :
  Calls Tryz.prog 126 #[.int .i64 (a),.int .i64 (b),.int .i64 (c)] w0 fun e w'=>e = .returned (.int .i64 (Sx a b c))/\KP (fun _=>False) w0 w':=by
 refine Ls (args:=[iv a,iv b,iv c]) 16 Tryz.func126 rfl rfl (Nat.le_of_ble_eq_true rfl) ?_
 refine KK (KI (KJ (iv 0) rfl rfl (KX rfl rfl rr) (KO ?_)))
 have s3:=La (iv a)
 have s4:=La (iv b)
 have s5:=La (iv c)
 have s6:=La (undef)
 refine KH (KK (KI (KW rfl rfl rfl s3 (KW rfl rfl rfl s4 (KJ (iv (min a b)) rfl rfl (QO rfl rfl rfl rfl rr) (KW rfl rfl rfl s3 (KW rfl rfl rfl s4 (KJ (iv (max a b)) rfl rfl (Rn rfl rfl rfl rfl rr) (KW rfl rfl rfl s5 (KJ (iv (min (max a b) c)) rfl rfl (QO rfl rfl rfl rfl rr) (KJ (iv (max (min a b) (min (max a b) c))) rfl rfl (Rn rfl rfl rfl rfl rr) ?_)))))))))))
 refine KJ (iv (max (min a b) (min (max a b) c))) rfl rfl (KX rfl rfl rr) (KO ?_)
 have af:=La (iv (max (min a b) (min (max a b) c)))
 refine KH (Ld ?_)
 exact Lu (v:=iv (max (min a b) (min (max a b) c))) s6 rfl rfl af ⟨rfl,(KP.refl (fun _=>False) w0)⟩
theorem ayX(a b c d m n:Int)(w0:World) :
  Calls Tryz.prog 95 #[.agg #[.int .i64 (a),.int .i64 (b)],.agg #[.int .i64 (c),.int .i64 (d)],.agg #[.int .i64 (m),.int .i64 (n)]] w0 fun e w'=>e = .returned (.agg #[.int .i64 (Sx a c m),.int .i64 (Sx b d n)])/\KP (fun _=>False) w0 w':=by
 refine Ls (args:=[.agg #[iv a,iv b],.agg #[iv c,iv d],.agg #[iv m,iv n]]) 22 Tryz.func95 rfl rfl (Nat.le_of_ble_eq_true rfl) ?_
 refine KK (KI (Lx (vs:=[iv a,iv b]) rfl rfl rfl rfl fun p1 w2 B4 g5 k3=>?_))
 refine Lx (vs:=[iv c,iv d]) rfl rfl rfl rfl fun p8 w9 aB af ah=>?_
 have aC:=B4.all ah id
 refine Lx (vs:=[iv m,iv n]) rfl rfl rfl rfl fun ac bf aD bg ai=>?_
 obtain⟨aE,aF⟩:=NL ai aC aB
 have aj:=(((KP.refl (fun _=>False) w0).tr k3).tr ah).tr ai
 refine LI (n:=2) (vs:=[iv 0,iv 0]) rfl rfl rfl (by kernel_rfl) fun aG bh aH aI ak=>?_
 obtain⟨am,an,ao⟩:=ND ak aE aF aD
 refine KO ?_
 have aJ:=La (undef)
 have ap:=La (pt p1 0)
 have aq:=La (pt p8 0)
 have ar:=La (pt ac 0)
 have aK:=La (pt aG 0)
 refine KH (KK ?_)
 refine Nd 15 [some 7,some 8,some 9,some 10,some 11,some 12,some 13,some 14,some 15,some 16,some 17,some 18,some 19,some 20,some 21] [Pd.eq (pt p1 0),Pd.eq (iv a),Pd.eq (pt p8 0),Pd.eq (iv c),Pd.eq (pt ac 0),Pd.eq (iv m),Pd.eq (iv (Sx a c m)),Pd.eq (pt p1 1),Pd.eq (iv b),Pd.eq (pt p8 1),Pd.eq (iv d),Pd.eq (pt ac 1),Pd.eq (iv n),Pd.eq (iv (Sx b d n)),Pd.eq (.agg #[iv (Sx a c m),iv (Sx b d n)])] (by kernel_rfl) (by kernel_rfl) (by kernel_rfl) ?_ ?_
 ·refine KN ?_ ?_
  ·refine Le.one rfl fun F_ w_ hR hout hD=>?_
   exact(KT (n:=1) rfl ((hout 3 rfl (by decide)).trans ap) Tryz.underlying67 rfl (by kernel_rfl) (by decide) rfl ⟨rfl,KP.refl _ _⟩)
  refine KN ?_ ?_
  ·refine Le.one rfl fun F_ w_ hR hout hD=>?_
   have g7:F_ 7=pt p1 0:=(hD.get 0 rfl rfl rfl)
   exact(KV rfl g7 Tryz.underlying3 (am.all hR id) rfl rfl ⟨rfl,KP.refl _ _⟩)
  refine KN ?_ ?_
  ·refine Le.one rfl fun F_ w_ hR hout hD=>?_
   exact(KT (n:=1) rfl ((hout 4 rfl (by decide)).trans aq) Tryz.underlying67 rfl (by kernel_rfl) (by decide) rfl ⟨rfl,KP.refl _ _⟩)
  refine KN ?_ ?_
  ·refine Le.one rfl fun F_ w_ hR hout hD=>?_
   have g9:F_ 9=pt p8 0:=(hD.get 0 rfl rfl rfl)
   exact(KV rfl g9 Tryz.underlying3 (an.all hR id) rfl rfl ⟨rfl,KP.refl _ _⟩)
  refine KN ?_ ?_
  ·refine Le.one rfl fun F_ w_ hR hout hD=>?_
   exact(KT (n:=1) rfl ((hout 5 rfl (by decide)).trans ar) Tryz.underlying67 rfl (by kernel_rfl) (by decide) rfl ⟨rfl,KP.refl _ _⟩)
  refine KN ?_ ?_
  ·refine Le.one rfl fun F_ w_ hR hout hD=>?_
   have aN:F_ 11=pt ac 0:=(hD.get 0 rfl rfl rfl)
   exact(KV rfl aN Tryz.underlying3 (ao.all hR id) rfl rfl ⟨rfl,KP.refl _ _⟩)
  refine KN ?_ ?_
  ·refine Le.one rfl fun F_ w_ hR hout hD=>?_
   have g8:F_ 8=iv a:=(hD.get 0 rfl rfl rfl)
   have aP:F_ 10=iv c:=(hD.get 1 rfl rfl rfl)
   have af:F_ 12=iv m:=(hD.get 2 rfl rfl rfl)
   exact(LE rfl rfl rfl (fun _ _=>by kernel_rfl) (K4 _) (Lm g8 (Lm aP (Lm af LS))) (VR a c m  _   ) (fun e_ w_ h_=>⟨_,h_.1,rfl,h_.2⟩))
  refine KN ?_ ?_
  ·refine Le.one rfl fun F_ w_ hR hout hD=>?_
   exact(KT (n:=1) rfl ((hout 3 rfl (by decide)).trans ap) Tryz.underlying67 rfl (by kernel_rfl) (by decide) rfl ⟨rfl,KP.refl _ _⟩)
  refine KN ?_ ?_
  ·refine Le.one rfl fun F_ w_ hR hout hD=>?_
   have aQ:F_ 14=pt p1 1:=(hD.get 0 rfl rfl rfl)
   exact(KV rfl aQ Tryz.underlying3 (am.all hR id) rfl rfl ⟨rfl,KP.refl _ _⟩)
  refine KN ?_ ?_
  ·refine Le.one rfl fun F_ w_ hR hout hD=>?_
   exact(KT (n:=1) rfl ((hout 4 rfl (by decide)).trans aq) Tryz.underlying67 rfl (by kernel_rfl) (by decide) rfl ⟨rfl,KP.refl _ _⟩)
  refine KN ?_ ?_
  ·refine Le.one rfl fun F_ w_ hR hout hD=>?_
   have aR:F_ 16=pt p8 1:=(hD.get 0 rfl rfl rfl)
   exact(KV rfl aR Tryz.underlying3 (an.all hR id) rfl rfl ⟨rfl,KP.refl _ _⟩)
  refine KN ?_ ?_
  ·refine Le.one rfl fun F_ w_ hR hout hD=>?_
   exact(KT (n:=1) rfl ((hout 5 rfl (by decide)).trans ar) Tryz.underlying67 rfl (by kernel_rfl) (by decide) rfl ⟨rfl,KP.refl _ _⟩)
  refine KN ?_ ?_
  ·refine Le.one rfl fun F_ w_ hR hout hD=>?_
   have aS:F_ 18=pt ac 1:=(hD.get 0 rfl rfl rfl)
   exact(KV rfl aS Tryz.underlying3 (ao.all hR id) rfl rfl ⟨rfl,KP.refl _ _⟩)
  refine KN ?_ ?_
  ·refine Le.one rfl fun F_ w_ hR hout hD=>?_
   have aT:F_ 15=iv b:=(hD.get 0 rfl rfl rfl)
   have aU:F_ 17=iv d:=(hD.get 1 rfl rfl rfl)
   have aV:F_ 19=iv n:=(hD.get 2 rfl rfl rfl)
   exact(LE rfl rfl rfl (fun _ _=>by kernel_rfl) (K4 _) (Lm aT (Lm aU (Lm aV LS))) (VR b d n  _   ) (fun e_ w_ h_=>⟨_,h_.1,rfl,h_.2⟩))
  refine KN ?_ ?_
  ·refine Le.one rfl fun F_ w_ hR hout hD=>?_
   have aW:F_ 13=iv (Sx a c m):=(hD.get 0 rfl rfl rfl)
   have aX:F_ 20=iv (Sx b d n):=(hD.get 1 rfl rfl rfl)
   exact(L0 (l':=[(0,iv (Sx a c m)),(1,iv (Sx b d n))]) (cells:=#[iv (Sx a c m),iv (Sx b d n)]) rfl (SU aW (SU aX Rc)) (by kernel_rfl) rfl ⟨rfl,KP.refl _ _⟩)
  exact L3
 intro bi aY bj au av ae
 have aZ:=aH.all au id
 obtain⟨a8,aw⟩:=t2 ae 22 aJ 6 aK
 have a9:aY 21 = .agg #[iv (Sx a c m),iv (Sx b d n)]:=(ae 21).trans (av 14 (by decide))
 clear av ae
 refine Ll (us:=[iv (Sx a c m),iv (Sx b d n)]) LP rfl rfl rfl aw a9 aZ rfl (K2 rfl (K2 rfl MI)) fun bm ba bb=>?_
 refine KO ?_
 refine KH (Ld ?_)
 exact OY (vs:=[iv (Sx a c m),iv (Sx b d n)]) LP a8 rfl rfl aw ba ⟨rfl,(((aj.tr ak).tr au).trans bb (KS.ok (S:=fun _=>False) (KS.new aj aI) K6))⟩
theorem VI(n:Int)(w0:World) :
  Calls Tryz.prog 154 #[.int .i64 (n)] w0 fun e w'=>e = .returned (.int .i64 (cl 64 n))/\KP (fun _=>False) w0 w':=by
 refine Ls (args:=[iv n]) 6 Tryz.func154 rfl rfl (Nat.le_of_ble_eq_true rfl) ?_
 refine KK (KI (KJ (iv 0) rfl rfl (KX rfl rfl rr) (KO ?_)))
 have s3:=La (iv n)
 have s4:=La (undef)
 refine KH (KK (KI (KW rfl rfl rfl s3 (KJ (iv (min n 64)) rfl rfl (QO rfl rfl rfl rfl rr) (KJ (iv (cl 64 n)) rfl rfl (Rn rfl rfl rfl (by unfold cl;omega) rr) (KJ (iv (cl 64 n)) rfl rfl (KX rfl rfl rr) (KO ?_)))))))
 have s8:=La (iv (cl 64 n))
 refine KH (Ld ?_)
 exact Lu (v:=iv (cl 64 n)) s4 rfl rfl s8 ⟨rfl,(KP.refl (fun _=>False) w0)⟩
theorem aBB(X Y:Int)(w0:World) :
  Calls Tryz.prog 131 #[.agg #[.int .i64 (X),.int .i64 (Y)]] w0 fun e w'=>e = .returned (.agg #[.int .i64 (cl 64 X),.int .i64 (cl 64 Y)])/\KP (fun _=>False) w0 w':=by
 refine Ls (args:=[.agg #[iv X,iv Y]]) 10 Tryz.func131 rfl rfl (Nat.le_of_ble_eq_true rfl) ?_
 refine KK (KI (Lx (vs:=[iv X,iv Y]) rfl rfl rfl rfl fun p1 w2 B4 g5 k3=>?_))
 have K7:=(KP.refl (fun _=>False) w0).tr k3
 refine LI (n:=2) (vs:=[iv 0,iv 0]) rfl rfl rfl (by kernel_rfl) fun p8 w9 aq ar af=>?_
 have ah:=B4.all af id
 refine KO ?_
 have au:=La (undef)
 have ai:=La (pt p1 0)
 have av:=La (pt p8 0)
 refine KH (KK ?_)
 refine Nd 7 [some 3,some 4,some 5,some 6,some 7,some 8,some 9] [Pd.eq (pt p1 0),Pd.eq (iv X),Pd.eq (iv (cl 64 X)),Pd.eq (pt p1 1),Pd.eq (iv Y),Pd.eq (iv (cl 64 Y)),Pd.eq (.agg #[iv (cl 64 X),iv (cl 64 Y)])] (by kernel_rfl) (by kernel_rfl) (by kernel_rfl) ?_ ?_
 ·refine KN ?_ ?_
  ·refine Le.one rfl fun F_ w_ hR hout hD=>?_
   exact(KT (n:=1) rfl ((hout 1 rfl (by decide)).trans ai) Tryz.underlying67 rfl (by kernel_rfl) (by decide) rfl ⟨rfl,KP.refl _ _⟩)
  refine KN ?_ ?_
  ·refine Le.one rfl fun F_ w_ hR hout hD=>?_
   have g3:F_ 3=pt p1 0:=(hD.get 0 rfl rfl rfl)
   exact(KV rfl g3 Tryz.underlying3 (ah.all hR id) rfl rfl ⟨rfl,KP.refl _ _⟩)
  refine KN ?_ ?_
  ·refine Le.one rfl fun F_ w_ hR hout hD=>?_
   have g4:F_ 4=iv X:=(hD.get 0 rfl rfl rfl)
   exact(LE rfl rfl rfl (fun _ _=>by kernel_rfl) (K4 _) (Lm g4 LS) (VI X  _   ) (fun e_ w_ h_=>⟨_,h_.1,rfl,h_.2⟩))
  refine KN ?_ ?_
  ·refine Le.one rfl fun F_ w_ hR hout hD=>?_
   exact(KT (n:=1) rfl ((hout 1 rfl (by decide)).trans ai) Tryz.underlying67 rfl (by kernel_rfl) (by decide) rfl ⟨rfl,KP.refl _ _⟩)
  refine KN ?_ ?_
  ·refine Le.one rfl fun F_ w_ hR hout hD=>?_
   have g6:F_ 6=pt p1 1:=(hD.get 0 rfl rfl rfl)
   exact(KV rfl g6 Tryz.underlying3 (ah.all hR id) rfl rfl ⟨rfl,KP.refl _ _⟩)
  refine KN ?_ ?_
  ·refine Le.one rfl fun F_ w_ hR hout hD=>?_
   have g7:F_ 7=iv Y:=(hD.get 0 rfl rfl rfl)
   exact(LE rfl rfl rfl (fun _ _=>by kernel_rfl) (K4 _) (Lm g7 LS) (VI Y  _   ) (fun e_ w_ h_=>⟨_,h_.1,rfl,h_.2⟩))
  refine KN ?_ ?_
  ·refine Le.one rfl fun F_ w_ hR hout hD=>?_
   have g5:F_ 5=iv (cl 64 X):=(hD.get 0 rfl rfl rfl)
   have g8:F_ 8=iv (cl 64 Y):=(hD.get 1 rfl rfl rfl)
   exact(L0 (l':=[(0,iv (cl 64 X)),(1,iv (cl 64 Y))]) (cells:=#[iv (cl 64 X),iv (cl 64 Y)]) rfl (SU g5 (SU g8 Rc)) (by kernel_rfl) rfl ⟨rfl,KP.refl _ _⟩)
  exact L3
 intro aL aD aM aj ak ab
 have aE:=aq.all aj id
 obtain⟨aF,am⟩:=t2 ab 10 au 2 av
 have aG:aD 9 = .agg #[iv (cl 64 X),iv (cl 64 Y)]:=(ab 9).trans (ak 6 (by decide))
 clear ak ab
 refine Ll (us:=[iv (cl 64 X),iv (cl 64 Y)]) LP rfl rfl rfl am aG aE rfl (K2 rfl (K2 rfl MI)) fun aO aH aI=>?_
 refine KO ?_
 refine KH (Ld ?_)
 exact OY (vs:=[iv (cl 64 X),iv (cl 64 Y)]) LP aF rfl rfl am aH ⟨rfl,(((K7.tr af).tr aj).trans aI (KS.ok (S:=fun _=>False) (KS.new K7 ar) K6))⟩
theorem TX(m n:Int)(w0:World) :
  Calls Tryz.prog 59 #[.int .i64 (m),.int .i64 (n)] w0 fun e w'=>∃ (v1:Value) (T1:Nat->Prop),e = .returned (.tuple #[v1,.int .i64 (MZ m n)])/\KP (fun _=>False) w0 w'/\(PJ w' T1 v1 ((Sj m n))/\KS w0 Ma T1):=by
 refine Ls (args:=[iv m,iv n]) 19 Tryz.func59 rfl rfl (Nat.le_of_ble_eq_true rfl) ?_
 have K0:=KP.refl (fun _=>False) w0
 refine KK (KI (KJ (.pointer none) rfl rfl (KX rfl rfl rr) (KJ (iv 0) rfl rfl (KX rfl rfl rr) (KO ?_))))
 have s3:=La (iv m)
 have s4:=La (iv n)
 have s5:=La (undef)
 refine KH (KK (KK ?_))
 by_cases d6:1<=m/\m<=16
 ·skip
  by_cases d7:1<=n/\n<=16
  ·skip
   refine KI (KW rfl rfl rfl s3 (Ly (R:=fun v_ w_=>v_ = .bool true/\KP (fun _=>False) w0 w_) rfl rfl (LE rfl rfl rfl (fun _ _=>by kernel_rfl) (K4 _) (Lm rfl LS) (Va m  _   ) (fun e_ w_ h_=>⟨_,h_.1,(congrArg Value.bool (decide_eq_true d6)),h_.2⟩)) ?_))
   rintro _ w8 ⟨rfl,k9⟩
   refine KJ (.bool false) rfl rfl (LW rfl rfl rfl rr) (KJ (.bool false) rfl rfl (KQ rfl rfl rr) (KR (iv n) 3 false 9 rfl rfl rfl rfl rfl (KQ rfl s4 rr) (LA (R:=fun v_ w_=>v_ = .bool true/\KP (fun _=>False) w8 w_) 3 false 9 rfl rfl rfl rfl rfl (LE rfl rfl rfl (fun _ _=>by kernel_rfl) (K4 _) (Lm rfl LS) (Va n  _   ) (fun e_ w_ h_=>⟨_,h_.1,(congrArg Value.bool (decide_eq_true d7)),h_.2⟩)) ?_)))
   rintro _ aS ⟨rfl,av⟩
   have ak:=(K0.tr k9).tr av
   refine KR (.bool false) 3 false 9 rfl rfl rfl rfl rfl (LW rfl rfl rfl rr) (KJ (.bool false) rfl rfl (Lb rfl rfl rfl rr) (KO ?_))
   have aw:=La (.bool false)
   refine KH ?_
   refine Lc (t:=false) aw (fun e=>by cases e) (fun _=>?_)
   refine Li (KH (KK ?_))
   have hs:NN m n:=⟨by omega,by omega,by omega,by omega⟩
   refine KI (KW rfl rfl rfl s3 (KW rfl rfl rfl s4 ?_))
   refine Nu rfl rfl (Y5 rfl fun ab aT am az aA=>?_)
   have an:=ak.tr aA
   refine KJ (.agg #[iv m,iv n,.map (some ab)]) rfl rfl (L0 (l':=[(0,iv m),(1,iv n),(2,.map (some ab))]) (cells:=#[iv m,iv n,.map (some ab)]) rfl (SU rfl (SU rfl (SU rfl Rc))) (by kernel_rfl) rfl rr) (Lx (vs:=[iv m,iv n,.map (some ab)]) rfl rfl rfl rfl fun aa aB aC ao ap=>?_)
   have aD:=KM.new ao (LO am.lt)
   have aE:=am.all ap id
   refine KJ (pt aa 0) rfl rfl (KX rfl rfl rr) (KJ (iv 0) rfl rfl (KX rfl rfl rr) (KO ?_))
   have aF:=La (pt aa 0)
   have aG:=La (iv 0)
   refine KH (Ld ?_)
   have aq:PJ aB (fun i=>(Lh aa) i\/((Lh ab) i)) (pt aa 0) (some (Qy m n)):=⟨_,rfl,_,fun i=>Iff.rfl,aC,aE,aD,aBS hs⟩
   have aH:KS w0 Ma (fun i=>(Lh aa) i\/((Lh ab) i)):=fun i h=>h.elim (fun y=>(KS.new an ao) i y) (fun y=>(KS.new ak az) i y)
   exact L7 s5 rfl (Lz (v:=pt aa 0) rfl aF) (Lz (v:=iv 0) rfl aG) ⟨(pt aa 0),(fun i=>(Lh aa) i\/((Lh ab) i)),(by first|rw[TO hs]|rw[Vf (by unfold NN;omega)]),(an.tr ap),⟨(by first|(rw[Tt hs];exact aq)|(rw[WV (by unfold NN;omega)];exact aq)),aH⟩⟩
  ·skip
   refine KI (KW rfl rfl rfl s3 (Ly (R:=fun v_ w_=>v_ = .bool true/\KP (fun _=>False) w0 w_) rfl rfl (LE rfl rfl rfl (fun _ _=>by kernel_rfl) (K4 _) (Lm rfl LS) (Va m  _   ) (fun e_ w_ h_=>⟨_,h_.1,(congrArg Value.bool (decide_eq_true d6)),h_.2⟩)) ?_))
   rintro _ aI ⟨rfl,aJ⟩
   refine KJ (.bool false) rfl rfl (LW rfl rfl rfl rr) (KJ (.bool false) rfl rfl (KQ rfl rfl rr) (KR (iv n) 3 false 9 rfl rfl rfl rfl rfl (KQ rfl s4 rr) (LA (R:=fun v_ w_=>v_ = .bool false/\KP (fun _=>False) aI w_) 3 false 9 rfl rfl rfl rfl rfl (LE rfl rfl rfl (fun _ _=>by kernel_rfl) (K4 _) (Lm rfl LS) (Va n  _   ) (fun e_ w_ h_=>⟨_,h_.1,(congrArg Value.bool (decide_eq_false d7)),h_.2⟩)) ?_)))
   rintro _ aU ⟨rfl,aK⟩
   refine KR (.bool true) 3 false 9 rfl rfl rfl rfl rfl (LW rfl rfl rfl rr) (KJ (.bool true) rfl rfl (Lb rfl rfl rfl rr) (KO ?_))
   have aL:=La (.bool true)
   refine KH ?_
   refine Lc (t:=true) aL (fun _=>?_) (fun e=>by cases e)
   refine KK (KI (KJ (.pointer none) rfl rfl (KX rfl rfl rr) (KJ (iv 1) rfl rfl (KX rfl rfl rr) (KO ?_))))
   have aM:=La (.pointer none)
   have aN:=La (iv 1)
   refine KH (Ld (Lq ?_))
   exact L7 s5 rfl (Lz (v:=.pointer none) rfl aM) (Lz (v:=iv 1) rfl aN) ⟨(.pointer none),Ma,(by first|rw[TO hs]|rw[Vf (by unfold NN;omega)]),((K0.tr aJ).tr aK),⟨(by first|(rw[Tt hs];exact(PJ.nil _))|(rw[WV (by unfold NN;omega)];exact(PJ.nil _))),(KS.refl _ _)⟩⟩
 ·skip
  refine KI (KW rfl rfl rfl s3 (Ly (R:=fun v_ w_=>v_ = .bool false/\KP (fun _=>False) w0 w_) rfl rfl (LE rfl rfl rfl (fun _ _=>by kernel_rfl) (K4 _) (Lm rfl LS) (Va m  _   ) (fun e_ w_ h_=>⟨_,h_.1,(congrArg Value.bool (decide_eq_false d6)),h_.2⟩)) ?_))
  rintro _ aV ⟨rfl,aO⟩
  refine KJ (.bool true) rfl rfl (LW rfl rfl rfl rr) (KJ (.bool true) rfl rfl (KQ rfl rfl rr) (KL 3 false 9 rfl rfl rfl (Or.inl rfl) rfl (KL 3 false 9 rfl rfl rfl (Or.inl rfl) rfl (KL 3 false 9 rfl rfl rfl (Or.inl rfl) rfl (KJ (.bool true) rfl rfl (Lg rfl rfl rfl rr) (KO ?_))))))
  have aP:=La (.bool true)
  refine KH ?_
  refine Lc (t:=true) aP (fun _=>?_) (fun e=>by cases e)
  refine KK (KI (KJ (.pointer none) rfl rfl (KX rfl rfl rr) (KJ (iv 1) rfl rfl (KX rfl rfl rr) (KO ?_))))
  have aQ:=La (.pointer none)
  have aR:=La (iv 1)
  refine KH (Ld (Lq ?_))
  exact L7 s5 rfl (Lz (v:=.pointer none) rfl aQ) (Lz (v:=iv 1) rfl aR) ⟨(.pointer none),Ma,(by first|rw[TO hs]|rw[Vf (by unfold NN;omega)]),(K0.tr aO),⟨(by first|(rw[Tt hs];exact(PJ.nil _))|(rw[WV (by unfold NN;omega)];exact(PJ.nil _))),(KS.refl _ _)⟩⟩
theorem Pl(f:VF)(x y X Y a b:Int):V1 (Qr f) x y X Y a b=Qr (aAG f x y X Y) a b:=by
 unfold V1 Qr aAG
 by_cases h:a=x/\b=y
 ·obtain⟨rfl,rfl⟩:=h;simp
 ·rw[if_neg (fun e=>h (by simpa using e))];simp only[if_neg h]
theorem ayH{X Y:Int}(h:NS X Y 0 0=true):X=0/\Y=0:=by unfold NS at h;simpa using h
def N5(x:Int):Int:=IntKind.i64.wrap (x-1)
def Tv(x:Int):Int:=IntKind.i64.wrap (x+1)
theorem Wr{x:Int}(h:Zw x):N5 x=x-1\/(x = -9223372036854775808/\N5 x=9223372036854775807):=by
 by_cases e:x = -9223372036854775808
 ·subst e;exact Or.inr ⟨rfl,by decide⟩
 ·exact Or.inl (by unfold N5;unfold Zw at h;rw[IntKind.wrap_i64];omega)
theorem ayW{x:Int}(h:Zw x):Tv x=x+1\/(x=9223372036854775807/\Tv x = -9223372036854775808):=by
 by_cases e:x=9223372036854775807
 ·subst e;exact Or.inr ⟨rfl,by decide⟩
 ·exact Or.inl (by unfold Tv;unfold Zw at h;rw[IntKind.wrap_i64];omega)
theorem TC{f:VF}(ok:OkV f){a b a' b':Int}(h:(a=a'/\b=b')\/(¬ Wo f a b/\¬ Wo f a' b')):f.X a b=f.X a' b'/\f.Y a b=f.Y a' b':=by
 rcases h with ⟨rfl,rfl⟩ | ⟨h1,h2⟩
 ·exact⟨rfl,rfl⟩
 ·exact⟨(ok.out _ _ h1).1.trans (ok.out _ _ h2).1.symm,(ok.out _ _ h1).2.trans (ok.out _ _ h2).2.symm⟩
theorem YM{f:VF}(ok:OkV f){x y:Int}(hx:Zw x)(hy:Zw y):Sx (f.X (N5 x) y) (f.X x (N5 y)) (f.X (Tv x) (N5 y))=gX f x y/\Sx (f.Y (N5 x) y) (f.Y x (N5 y)) (f.Y (Tv x) (N5 y))=gY f x y:=by
 have hw:=ok.w
 have hh:=ok.h
 have c1:=Wr hx
 have c2:=Wr hy
 have c3:=ayW hx
 have a:=TC ok (a:=N5 x) (b:=y) (a':=x-1) (b':=y) (by unfold Wo;omega)
 have b:=TC ok (a:=x) (b:=N5 y) (a':=x) (b':=y-1) (by unfold Wo;omega)
 have c:=TC ok (a:=Tv x) (b:=N5 y) (a':=x+1) (b':=y-1) (by unfold Wo;omega)
 unfold gX gY
 rw[a.1,a.2,b.1,b.2,c.1,c.2]
 exact⟨rfl,rfl⟩
theorem Z7(v:Value)(f:VF)(x y:Int)(T_q:Nat->Prop)(w0:World)(hx:Zw x)(hy:Zw y)(h_q:PJ w0 T_q v ((some f))) :
  Calls Tryz.prog 61 #[v,.int .i64 (x),.int .i64 (y)] w0 fun e w'=>e = .returned (.agg #[.int .i64 (gX f x y),.int .i64 (gY f x y)])/\KP (fun _=>False) w0 w':=by
 refine Ls (args:=[v,iv x,iv y]) 45 Tryz.func61 rfl rfl (Nat.le_of_ble_eq_true rfl) ?_
 have K0:=KP.refl (fun _=>False) w0
 have hgw:=YM h_q.ok hx hy
 have g_q:=KS.refl w0 T_q
 obtain⟨p,rfl,c,hT,hp,hr,hap,ok⟩:=h_q
 refine KK (KI (LI (n:=2) (vs:=[iv 0,iv 0]) rfl rfl rfl (by kernel_rfl) fun p4 w5 B7 g8 k6=>?_))
 obtain⟨aw,az⟩:=NL k6 hp hr
 have aA:=K0.tr k6
 refine KO ?_
 have af:=La (pt p 0)
 have ai:=La (iv x)
 have aj:=La (iv y)
 have aY:=La (undef)
 have aZ:=La (pt p4 0)
 refine KH (KK (KK (KI (KW rfl rfl rfl af (KJ (.bool false) rfl rfl (Rb rfl rfl rfl Tryz.underlying56 rr) (KO ?_))))))
 have a8:=La (.bool false)
 refine KH ?_
 refine Lc (t:=false) a8 (fun e=>by cases e) (fun _=>?_)
 refine Li (KH (KK (KI (KW rfl rfl rfl ai (KJ (iv (N5 x)) rfl rfl (VB rfl rfl rfl rfl rr) (KW rfl rfl rfl aj (KJ (.agg #[iv (N5 x),iv y]) rfl rfl (L0 (l':=[(0,iv (N5 x)),(1,iv y)]) (cells:=#[iv (N5 x),iv y]) rfl (SU rfl (SU rfl Rc)) (by kernel_rfl) rfl rr) (KW rfl rfl rfl ai (KW rfl rfl rfl aj (KJ (iv (N5 y)) rfl rfl (VB rfl rfl rfl rfl rr) (KJ (.agg #[iv x,iv (N5 y)]) rfl rfl (L0 (l':=[(0,iv x),(1,iv (N5 y))]) (cells:=#[iv x,iv (N5 y)]) rfl (SU rfl (SU rfl Rc)) (by kernel_rfl) rfl rr) ?_)))))))))))
 refine KW rfl rfl rfl ai (KJ (iv (Tv x)) rfl rfl (LR rfl rfl rfl rfl rr) (KW rfl rfl rfl aj (KJ (iv (N5 y)) rfl rfl (VB rfl rfl rfl rfl rr) (KJ (.agg #[iv (Tv x),iv (N5 y)]) rfl rfl (L0 (l':=[(0,iv (Tv x)),(1,iv (N5 y))]) (cells:=#[iv (Tv x),iv (N5 y)]) rfl (SU rfl (SU rfl Rc)) (by kernel_rfl) rfl rr) (LI (n:=2) (vs:=[iv 0,iv 0]) rfl rfl rfl (by kernel_rfl) fun ak cq aB ah aC=>?_)))))
 obtain⟨a9,ba,bb⟩:=Tn ah aw az B7
 obtain⟨aD,aE,aF⟩:=ND aC aw az B7
 have aG:=aA.tr aC
 refine LI (n:=2) (vs:=[iv 0,iv 0]) rfl rfl rfl (by kernel_rfl) fun am cr aH aI aJ=>?_
 obtain⟨bc,bd,be,aK⟩:=VK aI aD aE aF aB
 obtain⟨aL,aM,aN,aO⟩:=OW aJ aD aE aF aB
 have aP:=aG.tr aJ
 refine LI (n:=2) (vs:=[iv 0,iv 0]) rfl rfl rfl (by kernel_rfl) fun an ct bf aQ aR=>?_
 obtain⟨bg,bh,bi,aS,aT⟩:=ayR aQ aL aM aN aO aH
 obtain⟨bj,bl,bm,bn,bo⟩:=OJ aR aL aM aN aO aH
 refine Ll (us:=[iv (N5 x),iv y]) N2 rfl rfl rfl rfl rfl bn rfl (K2 rfl (K2 rfl MI)) fun cu bp aa=>?_
 have bq:=bj.all aa (a9.symm p rfl)
 have bt:=bl.all aa (ba.symm c rfl)
 have bu:=bm.all aa (bb.symm p4 rfl)
 have bv:=bo.all aa (aK am rfl)
 have bz:=bf.all aa (aS an rfl)
 refine Ll (us:=[iv x,iv (N5 y)]) N2 rfl rfl rfl rfl rfl bv rfl (K2 rfl (K2 rfl MI)) fun cv bA ab=>?_
 have bB:=bq.all ab (bc.symm p rfl)
 have bC:=bt.all ab (bd.symm c rfl)
 have bD:=bu.all ab (be.symm p4 rfl)
 have bE:=bp.all ab (aK.symm ak rfl)
 have bF:=bz.all ab (aT an rfl)
 refine Ll (us:=[iv (Tv x),iv (N5 y)]) N2 rfl rfl rfl rfl rfl bF rfl (K2 rfl (K2 rfl MI)) fun cw bG ac=>?_
 have ao:=bB.all ac (bg.symm p rfl)
 have ap:=bC.all ac (bh.symm c rfl)
 have bH:=bD.all ac (bi.symm p4 rfl)
 have bI:=bE.all ac (aS.symm ak rfl)
 have bJ:=bA.all ac (aT.symm am rfl)
 have bK:=(((aP.tr aR).trans aa (KS.ok (S:=fun _=>False) (KS.new aA ah) K6)).trans ab (KS.ok (S:=fun _=>False) (KS.new aG aI) K6)).trans ac (KS.ok (S:=fun _=>False) (KS.new aP aQ) K6)
 refine KO ?_
 have bL:=La (pt ak 0)
 have bM:=La (pt am 0)
 have bN:=La (pt an 0)
 refine KH (KK ?_)
 refine Nd 19 [some 26,some 27,some 28,some 29,some 30,some 31,some 32,some 33,some 34,some 35,some 36,some 37,some 38,some 39,some 40,some 41,some 42,some 43,some 44] [Pd.eq (pt p 0),Pd.eq (pt p 0),Pd.eq (pt p 2),Pd.eq (.map (some c)),Pd.eq (.agg #[iv (N5 x),iv y]),Pd.eq (.agg #[iv (((Qr f) (N5 x) y).1),iv (((Qr f) (N5 x) y).2)]),Pd.eq (pt p 0),Pd.eq (pt p 0),Pd.eq (pt p 2),Pd.eq (.map (some c)),Pd.eq (.agg #[iv x,iv (N5 y)]),Pd.eq (.agg #[iv (((Qr f) x (N5 y)).1),iv (((Qr f) x (N5 y)).2)]),Pd.eq (pt p 0),Pd.eq (pt p 0),Pd.eq (pt p 2),Pd.eq (.map (some c)),Pd.eq (.agg #[iv (Tv x),iv (N5 y)]),Pd.eq (.agg #[iv (((Qr f) (Tv x) (N5 y)).1),iv (((Qr f) (Tv x) (N5 y)).2)]),Pd.eq (.agg #[iv (Sx (((Qr f) (N5 x) y).1) (((Qr f) x (N5 y)).1) (((Qr f) (Tv x) (N5 y)).1)),iv (Sx (((Qr f) (N5 x) y).2) (((Qr f) x (N5 y)).2) (((Qr f) (Tv x) (N5 y)).2))])] (by kernel_rfl) (by kernel_rfl) (by kernel_rfl) ?_ ?_
 ·refine KN ?_ ?_
  ·refine Le.one rfl fun F_ w_ hR hout hD=>?_
   exact(KQ rfl ((hout 0 rfl (by decide)).trans af) ⟨rfl,KP.refl _ _⟩)
  refine KN ?_ ?_
  ·refine Le.one rfl fun F_ w_ hR hout hD=>?_
   have bO:F_ 26=pt p 0:=(hD.get 0 rfl rfl rfl)
   exact(Om rfl bO ⟨rfl,KP.refl _ _⟩)
  refine KN ?_ ?_
  ·refine Le.one rfl fun F_ w_ hR hout hD=>?_
   have bP:F_ 27=pt p 0:=(hD.get 0 rfl rfl rfl)
   exact(KT (n:=1) rfl bP Tryz.underlying136 rfl (by kernel_rfl) (by decide) rfl ⟨rfl,KP.refl _ _⟩)
  refine KN ?_ ?_
  ·refine Le.one rfl fun F_ w_ hR hout hD=>?_
   have bQ:F_ 28=pt p 2:=(hD.get 0 rfl rfl rfl)
   exact(KV rfl bQ Tryz.underlying134 (ao.all hR id) rfl rfl ⟨rfl,KP.refl _ _⟩)
  refine KN ?_ ?_
  ·refine Le.one rfl fun F_ w_ hR hout hD=>?_
   exact(KU N2 rfl ((hout 7 rfl (by decide)).trans bL) (bI.all hR id) ⟨rfl,KP.refl _ _⟩)
  refine KN ?_ ?_
  ·refine Le.one rfl fun F_ w_ hR hout hD=>?_
   have bR:F_ 29 = .map (some c):=(hD.get 0 rfl rfl rfl)
   have bS:F_ 30 = .agg #[iv (N5 x),iv y]:=(hD.get 1 rfl rfl rfl)
   exact(WX (a:=N5 x) (b:=y) Qf Tryz.underlying134 (by kernel_rfl) rfl bR bS (ap.all hR id) ⟨rfl,KP.refl _ _⟩)
  refine KN ?_ ?_
  ·refine Le.one rfl fun F_ w_ hR hout hD=>?_
   exact(KQ rfl ((hout 0 rfl (by decide)).trans af) ⟨rfl,KP.refl _ _⟩)
  refine KN ?_ ?_
  ·refine Le.one rfl fun F_ w_ hR hout hD=>?_
   have bT:F_ 32=pt p 0:=(hD.get 0 rfl rfl rfl)
   exact(Om rfl bT ⟨rfl,KP.refl _ _⟩)
  refine KN ?_ ?_
  ·refine Le.one rfl fun F_ w_ hR hout hD=>?_
   have bU:F_ 33=pt p 0:=(hD.get 0 rfl rfl rfl)
   exact(KT (n:=1) rfl bU Tryz.underlying136 rfl (by kernel_rfl) (by decide) rfl ⟨rfl,KP.refl _ _⟩)
  refine KN ?_ ?_
  ·refine Le.one rfl fun F_ w_ hR hout hD=>?_
   have ah:F_ 34=pt p 2:=(hD.get 0 rfl rfl rfl)
   exact(KV rfl ah Tryz.underlying134 (ao.all hR id) rfl rfl ⟨rfl,KP.refl _ _⟩)
  refine KN ?_ ?_
  ·refine Le.one rfl fun F_ w_ hR hout hD=>?_
   exact(KU N2 rfl ((hout 8 rfl (by decide)).trans bM) (bJ.all hR id) ⟨rfl,KP.refl _ _⟩)
  refine KN ?_ ?_
  ·refine Le.one rfl fun F_ w_ hR hout hD=>?_
   have bV:F_ 35 = .map (some c):=(hD.get 0 rfl rfl rfl)
   have bW:F_ 36 = .agg #[iv x,iv (N5 y)]:=(hD.get 1 rfl rfl rfl)
   exact(WX (a:=x) (b:=N5 y) Qf Tryz.underlying134 (by kernel_rfl) rfl bV bW (ap.all hR id) ⟨rfl,KP.refl _ _⟩)
  refine KN ?_ ?_
  ·refine Le.one rfl fun F_ w_ hR hout hD=>?_
   exact(KQ rfl ((hout 0 rfl (by decide)).trans af) ⟨rfl,KP.refl _ _⟩)
  refine KN ?_ ?_
  ·refine Le.one rfl fun F_ w_ hR hout hD=>?_
   have bX:F_ 38=pt p 0:=(hD.get 0 rfl rfl rfl)
   exact(Om rfl bX ⟨rfl,KP.refl _ _⟩)
  refine KN ?_ ?_
  ·refine Le.one rfl fun F_ w_ hR hout hD=>?_
   have bY:F_ 39=pt p 0:=(hD.get 0 rfl rfl rfl)
   exact(KT (n:=1) rfl bY Tryz.underlying136 rfl (by kernel_rfl) (by decide) rfl ⟨rfl,KP.refl _ _⟩)
  refine KN ?_ ?_
  ·refine Le.one rfl fun F_ w_ hR hout hD=>?_
   have bZ:F_ 40=pt p 2:=(hD.get 0 rfl rfl rfl)
   exact(KV rfl bZ Tryz.underlying134 (ao.all hR id) rfl rfl ⟨rfl,KP.refl _ _⟩)
  refine KN ?_ ?_
  ·refine Le.one rfl fun F_ w_ hR hout hD=>?_
   exact(KU N2 rfl ((hout 9 rfl (by decide)).trans bN) (bG.all hR id) ⟨rfl,KP.refl _ _⟩)
  refine KN ?_ ?_
  ·refine Le.one rfl fun F_ w_ hR hout hD=>?_
   have b7:F_ 41 = .map (some c):=(hD.get 0 rfl rfl rfl)
   have b8:F_ 42 = .agg #[iv (Tv x),iv (N5 y)]:=(hD.get 1 rfl rfl rfl)
   exact(WX (a:=Tv x) (b:=N5 y) Qf Tryz.underlying134 (by kernel_rfl) rfl b7 b8 (ap.all hR id) ⟨rfl,KP.refl _ _⟩)
  refine KN ?_ ?_
  ·refine Le.one rfl fun F_ w_ hR hout hD=>?_
   have b9:F_ 31 = .agg #[iv (((Qr f) (N5 x) y).1),iv (((Qr f) (N5 x) y).2)]:=(hD.get 0 rfl rfl rfl)
   have cd:F_ 37 = .agg #[iv (((Qr f) x (N5 y)).1),iv (((Qr f) x (N5 y)).2)]:=(hD.get 1 rfl rfl rfl)
   have ce:F_ 43 = .agg #[iv (((Qr f) (Tv x) (N5 y)).1),iv (((Qr f) (Tv x) (N5 y)).2)]:=(hD.get 2 rfl rfl rfl)
   exact(LE rfl rfl rfl (fun _ _=>by kernel_rfl) (K4 _) (Lm b9 (Lm cd (Lm ce LS))) (ayX (((Qr f) (N5 x) y).1) (((Qr f) (N5 x) y).2) (((Qr f) x (N5 y)).1) (((Qr f) x (N5 y)).2) (((Qr f) (Tv x) (N5 y)).1) (((Qr f) (Tv x) (N5 y)).2)  _   ) (fun e_ w_ h_=>⟨_,h_.1,rfl,h_.2⟩))
  exact L3
 intro cy cf cz aU aV aq
 have cg:=bH.all aU id
 obtain⟨ci,aW⟩:=t2 aq 45 aY 6 aZ
 have cj:cf 44 = .agg #[iv (Sx (((Qr f) (N5 x) y).1) (((Qr f) x (N5 y)).1) (((Qr f) (Tv x) (N5 y)).1)),iv (Sx (((Qr f) (N5 x) y).2) (((Qr f) x (N5 y)).2) (((Qr f) (Tv x) (N5 y)).2))]:=(aq 44).trans (aV 18 (by decide))
 clear aV aq
 refine Ll (us:=[iv (Sx (((Qr f) (N5 x) y).1) (((Qr f) x (N5 y)).1) (((Qr f) (Tv x) (N5 y)).1)),iv (Sx (((Qr f) (N5 x) y).2) (((Qr f) x (N5 y)).2) (((Qr f) (Tv x) (N5 y)).2))]) LP rfl rfl rfl aW cj cg rfl (K2 rfl (K2 rfl MI)) fun cB cm cn=>?_
 refine KO ?_
 refine KH (Ld ?_)
 exact OY (vs:=[iv (Sx (((Qr f) (N5 x) y).1) (((Qr f) x (N5 y)).1) (((Qr f) (Tv x) (N5 y)).1)),iv (Sx (((Qr f) (N5 x) y).2) (((Qr f) x (N5 y)).2) (((Qr f) (Tv x) (N5 y)).2))]) LP ci rfl rfl aW cm ⟨(by first|rfl|exact congrArg _ (by rw[← hgw.1,← hgw.2];rfl)),((bK.tr aU).trans cn (KS.ok (S:=fun _=>False) (KS.new K0 g8) K6))⟩
end Go.Proofs.YtknjpdcpmpfklaaGreatDoor
set_option maxRecDepth 100000
namespace Go.Proofs.YtknjpdcpmpfklaaGreatDoor
open Go.RowKit
def tR(R:List (Nat×Option Nat)):Nat->Prop:=fun i=>∃ x∈R,i=x.1
def PG(w:World)(T:Nat->Prop)(q:Nat)(l:List Nat)(st:Option Nat)(R:List (Nat×Option Nat)):Prop :=
 Pa l/\∃ g,(∀ i,T i↔(Lh q i\/Lh g i\/tR R i))/\(q::R.map (·.1)).Nodup/\QW w q g l st/\∀ x∈R,QW w x.1 g l x.2
theorem PG.live{w:World}{T:Nat->Prop}{q:Nat}{l:List Nat}{st:Option Nat}{R:List (Nat×Option Nat)}(h:PG w T q l st R):Pb w T:=by
 obtain⟨_,g,hT,_,h1,h2⟩:=h
 intro i hi
 rcases (hT i).1 hi with e|e | ⟨x,hx,e⟩
 ·cases e;exact h1.lt.1
 ·cases e;exact h1.lt.2.1
 ·subst e;exact(h2 x hx).lt.1
theorem PG.all{S:Nat->Prop}{w w':World}{T:Nat->Prop}{q:Nat}{l:List Nat}{st:Option Nat}{R:List (Nat×Option Nat)}(h:PG w T q l st R)(k:KP S w w')(ha:KM T S):PG w' T q l st R:=by
 obtain⟨hf,g,hT,hn,h1,h2⟩:=h
 have nq:=ha q ((hT q).2 (.inl rfl))
 have ng:=ha g ((hT g).2 (.inr (.inl rfl)))
 exact⟨hf,g,hT,hn,h1.kept k nq ng,fun x hx=>(h2 x hx).kept k (ha x.1 ((hT _).2 (.inr (.inr ⟨x,hx,rfl⟩)))) ng⟩
instance {w w':World} {T:Nat->Prop} {q:Nat} {l:List Nat} {st:Option Nat} {R:List (Nat×Option Nat)}:Cr w w' (PG w T q l st R) (PG w' T q l st R):=⟨fun h k=>h.all k KM.none⟩
instance {w:World} {T:Nat->Prop} {q:Nat} {l:List Nat} {st:Option Nat} {R:List (Nat×Option Nat)}:Lv w (PG w T q l st R) (T):=⟨fun h=>h.live⟩
def Zt(w:World)(T:Nat->Prop)(R:List (Nat×Option Nat))(g:Nat)(l:List Nat):Prop :=
 T=tR R/\(R.map (·.1)).Nodup/\∀ x∈R,g≠x.1/\∃ (a:Nat) (b:Bool),ZO l x.2 a b/\My w x.1 106 [.slice (some ⟨g,0,none⟩) l.length l.length,.int .i64 (a:Int),.bool b]
theorem Zt.live{w:World}{T:Nat->Prop}{R:List (Nat×Option Nat)}{g:Nat}{l:List Nat}(h:Zt w T R g l):Pb w T:=by
 obtain⟨rfl,_,h⟩:=h
 rintro i ⟨x,hx,rfl⟩
 obtain⟨_,a,b,_,hs⟩:=h x hx
 exact MK hs
theorem Zt.all{S:Nat->Prop}{w w':World}{T:Nat->Prop}{R:List (Nat×Option Nat)}{g:Nat}{l:List Nat}(h:Zt w T R g l)(k:KP S w w')(ha:KM T S):Zt w' T R g l:=by
 obtain⟨rfl,hn,h⟩:=h
 refine⟨rfl,hn,fun x hx=>?_⟩
 obtain⟨hg,a,b,ho,hs⟩:=h x hx
 exact⟨hg,a,b,ho,hs.all k (ha x.1 ⟨x,hx,rfl⟩)⟩
instance {w w':World} {T:Nat->Prop} {R:List (Nat×Option Nat)} {g:Nat} {l:List Nat}:Cr w w' (Zt w T R g l) (Zt w' T R g l):=⟨fun h k=>h.all k KM.none⟩
instance {w:World} {T:Nat->Prop} {R:List (Nat×Option Nat)} {g:Nat} {l:List Nat}:Lv w (Zt w T R g l) (T):=⟨fun h=>h.live⟩
theorem aAg{w:World}{T:Nat->Prop}{q:Nat}{l:List Nat}{st:Option Nat}{R:List (Nat×Option Nat)}(h:PG w T q l st R):∃ (g a:Nat) (b:Bool),Pa l/\(∀ i,T i↔(Lh q i\/Lh g i\/tR R i))/\ZO l st a b ∧
  My w q 106 [.slice (some ⟨g,0,none⟩) l.length l.length,.int .i64 (a:Int),.bool b]/\Wy w (Lh g) g l/\Zt w (tR R) R g l/\KM (Lh q) (Lh g)/\KM (Lh q) (tR R)/\KM (Lh g) (tR R):=by
 obtain⟨hf,g,hT,hn,h1,h2⟩:=h
 obtain⟨a,b,u1,u2,u3,u4⟩:=P4 h1
 refine⟨g,a,b,hf,hT,u1,u2,u3,⟨rfl,(List.nodup_cons.1 hn).2,fun x hx=>?_⟩,u4,?_,?_⟩
 ·obtain⟨c,d,v1,v2,v3,v4⟩:=P4 (h2 x hx)
  exact⟨(h2 x hx).lt.2.2,c,d,v1,v2⟩
 ·rintro i e ⟨x,hx,e2⟩
  cases e
  exact(List.nodup_cons.1 hn).1 (e2 ▸ List.mem_map.2 ⟨x,hx,rfl⟩)
 ·rintro i e ⟨x,hx,e2⟩
  cases e
  exact(h2 x hx).lt.2.2 e2
theorem aAn{w:World}{T:Nat->Prop}{R:List (Nat×Option Nat)}{g:Nat}{l:List Nat}(h:Zt w T R g l)(hg:Wy w (Lh g) g l):∀ x∈R,QW w x.1 g l x.2:=fun x hx=>by
 obtain⟨_,_,h⟩:=h
 obtain⟨hne,a,b,ho,hs⟩:=h x hx
 exact Qh ho hs hg (fun i e1 e2=>hne (e2.symm.trans e1))
theorem P8{w:World}{q g:Nat}{l:List Nat}{st:Option Nat}{a:Nat}{b:Bool}{R:List (Nat×Option Nat)}{T1:Nat->Prop}(hf:Pa l)(ho:ZO l st a b)(h1:My w q 106 [.slice (some ⟨g,0,none⟩) l.length l.length,.int .i64 (a:Int),.bool b])(h2:Wy w (Lh g) g l)(h3:Zt w T1 R g l)(a1:KM (Lh q) (Lh g))(a2:KM (Lh q) T1) :
  PG w (fun i=>Lh q i\/Lh g i\/T1 i) q l st R:=by
 obtain⟨rfl,hn,h4⟩:=h3
 refine⟨hf,g,fun _=>Iff.rfl,List.nodup_cons.2 ⟨fun hm=>?_,hn⟩,Qh ho h1 h2 a1,aAn ⟨rfl,hn,h4⟩ h2⟩
 obtain⟨x,hx,e⟩:=List.mem_map.1 hm
 exact a2 q rfl ⟨x,hx,e.symm⟩
theorem XD{w:World}{q c g:Nat}{l:List Nat}{st:Option Nat}{a:Nat}{b:Bool}{R:List (Nat×Option Nat)}{T1:Nat->Prop}(hf:Pa l)(ho:ZO l st a b)(h1:My w q 106 [.slice (some ⟨g,0,none⟩) l.length l.length,.int .i64 (a:Int),.bool b])(h2:My w c 106 [.slice (some ⟨g,0,none⟩) l.length l.length,.int .i64 (a:Int),.bool b])(h3:Wy w (Lh g) g l)(h4:Zt w T1 R g l)
  (a1:KM (Lh q) (Lh c)) (a2:KM (Lh q) (Lh g)) (a3:KM (Lh q) T1) (a4:KM (Lh c) (Lh g)) (a5:KM (Lh c) T1):PG w (fun i=>Lh q i\/Lh c i\/Lh g i\/T1 i) c l st ((q,st)::R):=by
 obtain⟨rfl,hn,h5⟩:=h4
 refine⟨hf,g,fun i=>?_,?_,Qh ho h2 h3 a4,fun x hx=>?_⟩
 ·have e:tR ((q,st)::R) i↔(Lh q i\/tR R i):=by
   unfold tR Lh;simp
  rw[e]
  constructor
  ·rintro (h|h|h|h)
   ·exact .inr (.inr (.inl h))
   ·exact .inl h
   ·exact .inr (.inl h)
   ·exact .inr (.inr (.inr h))
  ·rintro (h|h|h|h)
   ·exact .inr (.inl h)
   ·exact .inr (.inr (.inl h))
   ·exact .inl h
   ·exact .inr (.inr (.inr h))
 ·refine List.nodup_cons.2 ⟨fun hm=>?_,List.nodup_cons.2 ⟨fun hm=>?_,hn⟩⟩
  ·rcases List.mem_cons.1 hm with e|hm
   ·exact a1 q rfl e.symm
   ·obtain⟨x,hx,e⟩:=List.mem_map.1 hm;exact a5 c rfl ⟨x,hx,e.symm⟩
  ·obtain⟨x,hx,e⟩:=List.mem_map.1 hm;exact a3 q rfl ⟨x,hx,e.symm⟩
 ·rcases List.mem_cons.1 hx with rfl|hx
  ·exact Qh ho h1 h3 a2
  ·exact aAn ⟨rfl,hn,h5⟩ h3 x hx
theorem aBI(w:World)(g:Nat)(l:List Nat):Zt w (tR []) [] g l:=⟨rfl,List.nodup_nil,fun x hx=>by cases hx⟩
theorem Z2{w:World}{q c g:Nat}{l:List Nat}{st:Option Nat}{a:Nat}{b:Bool}(hf:Pa l)(ho:ZO l st a b)(h1:My w q 106 [.slice (some ⟨g,0,none⟩) l.length l.length,.int .i64 (a:Int),.bool b])(h2:My w c 106 [.slice (some ⟨g,0,none⟩) l.length l.length,.int .i64 (a:Int),.bool b])(h3:Wy w (Lh g) g l)
  (a1:KM (Lh q) (Lh c)) (a2:KM (Lh q) (Lh g)) (a4:KM (Lh c) (Lh g)):PG w (fun i=>Lh q i\/Lh c i\/Lh g i) c l st [(q,st)]:=by
 have no:∀ {T:Nat->Prop},KM T (tR []):=fun i _ h=>by obtain⟨x,hx,_⟩:=h;cases hx
 obtain⟨_,g',hT,hn,h5,h6⟩:=XD hf ho h1 h2 h3 (aBI w g l) a1 a2 no a4 no
 refine⟨hf,g',fun i=>?_,hn,h5,h6⟩
 have e:¬ tR [] i:=fun h=>by obtain⟨x,hx,_⟩:=h;cases hx
 rw[← hT i]
 constructor
 ·rintro (h|h|h)
  ·exact .inl h
  ·exact .inr (.inl h)
  ·exact .inr (.inr (.inl h))
 ·rintro (h|h|h|h)
  ·exact .inl h
  ·exact .inr (.inl h)
  ·exact .inr (.inr h)
  ·exact absurd h e
theorem Ux{w:World}{T:Nat->Prop}{q c:Nat}{l:List Nat}{st1 st:Option Nat}{R:List (Nat×Option Nat)}(h:PG w T c l st ((q,st1)::R)):∃ (g a1:Nat) (b1:Bool) (a2:Nat) (b2:Bool),Pa l/\(∀ i,T i↔(Lh q i\/Lh c i\/Lh g i\/tR R i))/\ZO l st1 a1 b1/\ZO l st a2 b2 ∧
  My w q 106 [.slice (some ⟨g,0,none⟩) l.length l.length,.int .i64 (a1:Int),.bool b1]/\My w c 106 [.slice (some ⟨g,0,none⟩) l.length l.length,.int .i64 (a2:Int),.bool b2]/\Wy w (Lh g) g l/\Zt w (tR R) R g l ∧
  KM (Lh q) (Lh c)/\KM (Lh q) (Lh g)/\KM (Lh q) (tR R)/\KM (Lh c) (Lh g)/\KM (Lh c) (tR R)/\KM (Lh g) (tR R):=by
 obtain⟨hf,g,hT,hn,h1,h2⟩:=h
 have e:∀ i,tR ((q,st1)::R) i↔(Lh q i\/tR R i):=fun i=>by unfold tR Lh;simp
 obtain⟨n1,n2⟩:=List.nodup_cons.1 hn
 obtain⟨n3,n4⟩:=List.nodup_cons.1 n2
 obtain⟨a1,b1,u1,u2,u3,u4⟩:=P4 (h2 (q,st1) (List.mem_cons_self ..))
 obtain⟨a2,b2,v1,v2,v3,v4⟩:=P4 h1
 have hR:∀ x∈R,QW w x.1 g l x.2:=fun x hx=>h2 x (List.mem_cons_of_mem _ hx)
 refine⟨g,a1,b1,a2,b2,hf,fun i=>?_,u1,v1,u2,v2,u3,⟨rfl,n4,fun x hx=>?_⟩,?_,u4,?_,v4,?_,?_⟩
 ·rw[hT i,e i]
  constructor
  ·rintro (h|h|h|h)
   ·exact .inr (.inl h)
   ·exact .inr (.inr (.inl h))
   ·exact .inl h
   ·exact .inr (.inr (.inr h))
  ·rintro (h|h|h|h)
   ·exact .inr (.inr (.inl h))
   ·exact .inl h
   ·exact .inr (.inl h)
   ·exact .inr (.inr (.inr h))
 ·obtain⟨c1,d1,w1,w2,_,_⟩:=P4 (hR x hx)
  exact⟨(hR x hx).lt.2.2,c1,d1,w1,w2⟩
 ·intro i e1 e2
  exact n1 (List.mem_cons.2 (.inl (e2.symm.trans e1)))
 ·rintro i e1 ⟨x,hx,e2⟩
  cases e1
  exact n3 (List.mem_map.2 ⟨x,hx,e2.symm⟩)
 ·rintro i e1 ⟨x,hx,e2⟩
  cases e1
  exact n1 (List.mem_cons.2 (.inr (List.mem_map.2 ⟨x,hx,e2.symm⟩)))
 ·rintro i e1 ⟨x,hx,e2⟩
  cases e1
  exact(hR x hx).lt.2.2 e2
theorem NW{w:World}{T:Nat->Prop}{q c:Nat}{l:List Nat}{st1 st:Option Nat}(h:PG w T c l st [(q,st1)]):∃ (g a1:Nat) (b1:Bool) (a2:Nat) (b2:Bool),Pa l/\(∀ i,T i↔(Lh q i\/Lh c i\/Lh g i))/\ZO l st1 a1 b1/\ZO l st a2 b2 ∧
  My w q 106 [.slice (some ⟨g,0,none⟩) l.length l.length,.int .i64 (a1:Int),.bool b1]/\My w c 106 [.slice (some ⟨g,0,none⟩) l.length l.length,.int .i64 (a2:Int),.bool b2]/\Wy w (Lh g) g l ∧
  KM (Lh q) (Lh c)/\KM (Lh q) (Lh g)/\KM (Lh c) (Lh g):=by
 obtain⟨g,a1,b1,a2,b2,hf,hT,u1,v1,u2,v2,u3,_,p1,p2,_,p4,_,_⟩:=Ux h
 refine⟨g,a1,b1,a2,b2,hf,fun i=>?_,u1,v1,u2,v2,u3,p1,p2,p4⟩
 have e:¬ tR [] i:=fun h=>by obtain⟨x,hx,_⟩:=h;cases hx
 rw[hT i]
 constructor
 ·rintro (h|h|h|h)
  ·exact .inl h
  ·exact .inr (.inl h)
  ·exact .inr (.inr h)
  ·exact absurd h e
 ·rintro (h|h|h)
  ·exact .inl h
  ·exact .inr (.inl h)
  ·exact .inr (.inr (.inl h))
theorem Ws{w w':World}{T:Nat->Prop}{q g:Nat}{l:List Nat}{st:Option Nat}{R:List (Nat×Option Nat)}{r:Int×Option Nat}{e:Ending}(hf:Pa l)(hT:∀ i,T i↔(Lh q i\/Lh g i\/tR R i))(hn:(q::R.map (·.1)).Nodup)(h1:QW w q g l st)(h2:∀ x∈R,QW w x.1 g l x.2)(hd:Sz w q g l r e w') :
  ∃ (T_r':Nat->Prop),e = .returned (.int .i64 r.1)/\KP T w w'/\(PG w' T_r' q l r.2 R/\KS w T T_r'):=by
 obtain⟨k1,k2,k3⟩:=hd
 refine⟨T,k1,k3.mono (fun _ _ z=>(hT _).2 (.inl z)),⟨hf,g,hT,hn,k2,fun x hx=>(h2 x hx).kept k3 (fun z=>?_) h1.lt.2.2⟩,KS.refl _ _⟩
 exact(List.nodup_cons.1 hn).1 (z ▸ List.mem_map.2 ⟨x,hx,rfl⟩)
theorem SP(q:Nat)(l:List Nat)(st:Option Nat)(R:List (Nat×Option Nat))(m:Int)(T_r:Nat->Prop)(w0:World)(h_r:PG w0 T_r q l st R) :
  Calls Tryz.prog 132 #[.pointer (some ⟨q,0,none⟩),.int .i64 m] w0 fun e w'=>∃ (T_r':Nat->Prop),e = .returned (.int .i64 (Lr (LT l m) st).1)/\KP T_r w0 w'/\(PG w' T_r' q l (Lr (LT l m) st).2 R/\KS w0 T_r T_r'):=by
 obtain⟨hf,g,hT,hn,h1,h2⟩:=h_r
 exact(X2 q g l st m w0 hf h1).mono fun _ _ hd=>Ws hf hT hn h1 h2 hd
theorem Tz(q:Nat)(l:List Nat)(st:Option Nat)(R:List (Nat×Option Nat))(m:Int)(T_r:Nat->Prop)(w0:World)(h_r:PG w0 T_r q l st R) :
  Calls Tryz.prog 96 #[.pointer (some ⟨q,0,none⟩),.int .i64 m] w0 fun e w'=>∃ (T_r':Nat->Prop),e = .returned (.int .i64 (Lr (LB l m) st).1)/\KP T_r w0 w'/\(PG w' T_r' q l (Lr (LB l m) st).2 R/\KS w0 T_r T_r'):=by
 obtain⟨hf,g,hT,hn,h1,h2⟩:=h_r
 exact(Yw q g l st m w0 hf h1).mono fun _ _ hd=>Ws hf hT hn h1 h2 hd
theorem Rj(q:Nat)(l:List Nat)(st:Option Nat)(R:List (Nat×Option Nat))(T_r:Nat->Prop)(w0:World)(h_r:PG w0 T_r q l st R) :
  Calls Tryz.prog 98 #[.pointer (some ⟨q,0,none⟩)] w0 fun e w'=>e = .returned (.bool (st.isNone))/\KP (fun _=>False) w0 w':=by
 obtain⟨hf,g,hT,hn,h1,h2⟩:=h_r
 exact(azE q g l st w0 h1).mono fun _ _ ⟨e,hw⟩=>by subst hw;exact⟨e,KP.refl _ _⟩
theorem U9(p:Nat)(l:List Nat)(st:Option Nat)(R:List (Nat×Option Nat))(A B:Int)(T_r:Nat->Prop)(w0:World)(h_r:PG w0 T_r p (l) (st) (R)) :
  Calls Tryz.prog 100 #[.pointer (some ⟨p,0,none⟩),.agg #[.int .i64 (A),.int .i64 (B)]] w0 fun e w'=>∃ (T_r':Nat->Prop),e = .returned (.tuple #[.agg #[.int .i64 (Rz l A B st),.int .i64 (RC l A B st)],.int .i64 (Qs l A B st)])/\KP (T_r) w0 w'/\(PG w' T_r' p (l) (MQ l A B st) (R)/\KS w0 T_r T_r'):=by
 refine Ls (args:=[pt p 0,.agg #[iv A,iv B]]) 37 Tryz.func100 rfl rfl (Nat.le_of_ble_eq_true rfl) ?_
 have h1:=aDp A
 have h2:=aDp B
 have h3:=azr l st
 have h4:=azr l (OE l st).2
 have g_r:=KS.refl w0 T_r
 refine KK (KI (Lx (vs:=[iv A,iv B]) rfl rfl rfl rfl fun p1 w2 B4 g5 k3=>?_))
 have B8:=h_r.all k3 KM.none
 have K9:=(KP.refl T_r w0).tr k3
 refine LI (n:=2) (vs:=[iv 0,iv 0]) rfl rfl rfl (by kernel_rfl) fun ac eB aV aW aX=>?_
 have aB:=KS.new K9 aW
 have aC:=KM.new aW B8.live
 obtain⟨cq,aY⟩:=NL aX B8 B4
 have aZ:=K9.tr aX
 refine KJ (iv 0) rfl rfl (KX rfl rfl rr) (KO ?_)
 have aD:=La (pt p 0)
 have cr:=La (undef)
 have ct:=La (pt p1 0)
 have cu:=La (pt ac 0)
 refine KH (KK (KK (KI (KW rfl rfl rfl aD (KJ (.bool false) rfl rfl (Rb rfl rfl rfl Tryz.underlying54 rr) (KO ?_))))))
 have cv:=La (.bool false)
 refine KH ?_
 refine Lc (t:=false) cv (fun e=>by cases e) (fun _=>?_)
 refine Li (KH (KK ?_))
 obtain⟨g,a,b,hf,hT,hok,hp,hg,hr,hap,hap2,hap3⟩:=aAg cq
 have cw:KS w0 T_r (Lh p):=fun i h=>g_r i ((fun i h=>(hT i).2 (Or.inl h)) i h)
 have cy:KM (Lh p) (Lh ac):=fun i h=>aC.symm i ((fun i h=>(hT i).2 (Or.inl h)) i h)
 have cz:KS w0 T_r (Lh g):=fun i h=>g_r i ((fun i h=>(hT i).2 (Or.inr (Or.inl h))) i h)
 have cA:KM (Lh g) (Lh ac):=fun i h=>aC.symm i ((fun i h=>(hT i).2 (Or.inr (Or.inl h))) i h)
 have cB:KS w0 T_r (tR R):=fun i h=>g_r i ((fun i h=>(hT i).2 (Or.inr (Or.inr h))) i h)
 have cC:KM (tR R) (Lh ac):=fun i h=>aC.symm i ((fun i h=>(hT i).2 (Or.inr (Or.inr h))) i h)
 have cD:KM (Lh p) (Lh g):=hap
 have cE:KM (Lh p) (tR R):=hap2
 refine KI (KW rfl rfl rfl aD (KJ (pt p 0) rfl rfl (Om rfl rfl rr) (KJ (.agg #[.slice (some ⟨g,0,none⟩) l.length l.length,iv ((a:Nat):Int),.bool b]) rfl rfl (KU MM rfl rfl hp rr) (LI (n:=3) (vs:=[.slice none 0 0,iv ((0:Nat):Int),.bool false]) rfl rfl rfl (by kernel_rfl) fun ae eC cF a8 a9=>?_))))
 have ba:=KS.new aZ a8
 obtain⟨cG,bb,bc,bd,be⟩:=ayR a8 aY aV hp hg hr
 obtain⟨cH,cI,cJ,cK,cL⟩:=OJ a9 aY aV hp hg hr
 refine Ll (us:=[.slice (some ⟨g,0,none⟩) l.length l.length,iv ((a:Nat):Int),.bool b]) MM rfl rfl rfl rfl rfl cF rfl (K2 rfl (K2 rfl (K2 rfl MI))) fun cM cN aj=>?_
 have cO:=cH.all aj (cG.symm p1 rfl)
 have cP:=cI.all aj (bb.symm ac rfl)
 have cQ:=cJ.all aj (bc.symm p rfl)
 have cR:=cK.all aj bd.symm
 have cS:=cL.all aj be.symm
 refine KO ?_
 have bf:=La (pt ae 0)
 refine KH (KK ?_)
 have cT:PG cM (fun i=>(Lh p) i\/((Lh ae) i\/((Lh g) i\/((tR R) i)))) ae l st (List.cons (p,st) R):=XD hf hok cQ cN cR cS bc.symm cD cE bd be
 have bg:KS w0 T_r (fun i=>(Lh p) i\/((Lh ae) i\/((Lh g) i\/((tR R) i)))):=fun i h=>h.elim (fun y=>cw i y) (fun y=>y.elim (fun y=>(KS.weak ba (fun _ z=>z.elim)) i y) (fun y=>y.elim (fun y=>cz i y) (fun y=>cB i y)))
 have bh:KM (fun i=>(Lh p) i\/((Lh ae) i\/((Lh g) i\/((tR R) i)))) (Lh ac):=fun i h=>h.elim (fun y=>cy i y) (fun y=>y.elim (fun y=>bb i y) (fun y=>y.elim (fun y=>cA i y) (fun y=>cC i y)))
 refine KI (KJ (.agg #[iv A,iv B]) rfl rfl (KU LP rfl ct cO rr) (LY rfl rfl rfl rfl rfl (fun _ _=>by kernel_rfl) (Lm rfl LS) (aBB A B  _   ) fun eD bi=>?_))
 obtain⟨bj,bl⟩:=NL bi cP cT
 have bm:=((aZ.tr a9).trans aj (KS.ok (S:=T_r) ba K6)).tr bi
 refine LI (n:=2) (vs:=[iv 0,iv 0]) rfl rfl rfl (by kernel_rfl) fun aa eE cU bn bo=>?_
 have aE:=KS.new bm bn
 obtain⟨aF,bp⟩:=S3 bn bj bl
 obtain⟨cV,cW⟩:=NL bo bj bl
 refine Ll (us:=[iv (cl 64 A),iv (cl 64 B)]) LP rfl rfl rfl rfl rfl cU rfl (K2 rfl (K2 rfl MI)) fun cX cY aG=>?_
 have bq:=cV.all aG (aF.symm ac rfl)
 have cZ:=cW.all aG bp.symm
 have bt:=(bm.tr bo).trans aG (KS.ok (S:=T_r) aE K6)
 refine KO ?_
 have aH:=La (pt aa 0)
 refine KH (KK ?_)
 refine Yg (S:=fun i=>(fun i=>(Lh p) i\/((Lh ae) i\/((Lh g) i\/((tR R) i)))) i\/((Lh aa) i)) [(5,1)] [some 16,some 17,some 18,some 19,some 20,none] [Pt.eq (pt aa 0),Pt.eq (iv (cl 64 A)),Pt.thg ⟨fun w_=>PG w_ (fun i=>(Lh p) i\/((Lh ae) i\/((Lh g) i\/((tR R) i)))) ae l st (List.cons (p,st) R),fun i=>(Lh p) i\/((Lh ae) i\/((Lh g) i\/((tR R) i))),fun T_ w_=>PG w_ T_ ae l ((Lr (LT l 128) st).2) (List.cons (p,st) R),fun _ _ _ h_ k_ ha_=>h_.all k_ ha_,fun _ _ _ _ h_ k_ ha_=>h_.all k_ ha_,fun _ h_=>h_.live,fun _ _ h_=>h_.live⟩ (iv ((OE l st).1)),Pt.eq (iv ((OE l st).1+cl 64 A)),Pt.eq (pt aa 0),Pt.thg (azf aa 67 [iv (cl 64 A),iv (cl 64 B)] [iv ((OE l st).1+cl 64 A),iv (cl 64 B)]) undef] (by kernel_rfl) (by kernel_rfl) (by kernel_rfl) rfl (St.old ⟨⟨fun _ x_=>Or.inl x_,cZ,⟨bp.symm,trivial⟩⟩,⟨⟨fun _ x_=>Or.inr x_,cY,trivial⟩,trivial⟩⟩) ?_ ?_
 ·refine MR ?_ ?_
  ·refine NB.one rfl fun F_ w_ hR hout hD=>?_
   exact(KT (n:=1) rfl ((hout 7 rfl (by decide)).trans aH) Tryz.underlying67 rfl (by kernel_rfl) (by decide) rfl ⟨rfl,KP.refl _ _⟩)
  refine MR ?_ ?_
  ·refine NB.oneA rfl fun F_ w_ hR hout hD hA_=>?_
   have c5:F_ 16=pt aa 0:=(hD.get 0 rfl rfl rfl).1
   have hA5_:My w_ aa 67 [iv (cl 64 A),iv (cl 64 B)]:=hA_ 5 _ _ (by decide) rfl
   exact(KV rfl c5 Tryz.underlying3 hA5_ rfl rfl ⟨rfl,KP.refl _ _⟩)
  refine MR ?_ ?_
  ·refine NB.turn rfl rfl fun F_ w_ hR hout hD hA_=>?_
   exact(LE rfl rfl rfl (fun _ _=>by kernel_rfl) (K4 _) (Lm ((hout 6 rfl (by decide)).trans bf) (Lm rfl LS)) (SP ae l st (List.cons (p,st) R) 128 (fun i=>(Lh p) i\/((Lh ae) i\/((Lh g) i\/((tR R) i)))) _  hA_ ) (fun e_ w_ h_=>by obtain⟨_,he_,k_,hb_,hg_⟩:=h_;exact⟨_,he_,rfl,k_,_,hb_,hg_⟩))
  refine MR ?_ ?_
  ·refine NB.one rfl fun F_ w_ hR hout hD=>?_
   have c6:F_ 17=iv (cl 64 A):=(hD.get 0 rfl rfl rfl).1
   have c7:F_ 18=iv ((OE l st).1):=(hD.get 1 rfl rfl rfl).1
   exact(LR rfl c6 c7 (by rw[Int.add_comm,IntKind.wrap_i64];omega) ⟨rfl,KP.refl _ _⟩)
  refine MR ?_ ?_
  ·refine NB.one rfl fun F_ w_ hR hout hD=>?_
   exact(KT (n:=1) rfl ((hout 7 rfl (by decide)).trans aH) Tryz.underlying67 rfl (by kernel_rfl) (by decide) rfl ⟨rfl,KP.refl _ _⟩)
  refine MR ?_ ?_
  ·refine NB.turn rfl rfl fun F_ w_ hR hout hD hA_=>?_
   have c9:F_ 20=pt aa 0:=(hD.get 0 rfl rfl rfl).1
   have da:F_ 19=iv ((OE l st).1+cl 64 A):=(hD.get 1 rfl rfl rfl).1
   exact PB rfl c9 da hA_ rfl rfl (by kernel_rfl) fun w2_ b_ k_=>⟨rfl,k_,_,⟨rfl,b_⟩,KS.refl _ _⟩
  exact Ug
 intro eF bu eG aI bv db am bz bA
 have bB:=bq.all bv (fun x=>(x.elim (fun y=>((bh.symm) ac rfl y)) (fun y=>((aF.symm) ac rfl y))))
 have bC:=bt.trans bv (fun i hi x=>(x.elim (fun y=>((KS.ok (S:=T_r) bg (fun _ x=>x)) i hi y)) (fun y=>((KS.ok (S:=T_r) aE K6) i hi y))))
 obtain⟨ai,aJ⟩:∃ T_,T_=bu 2:=⟨_,rfl⟩
 have dc:PG aI ai ae l ((Lr (LT l 128) st).2) (List.cons (p,st) R):=by rw[aJ];exact(am 2 _ _ rfl).1
 have bD:KS cX (fun i=>(Lh p) i\/((Lh ae) i\/((Lh g) i\/((tR R) i)))) ai:=by rw[aJ];exact(am 2 _ _ rfl).2
 have bE:=bg.trans bt bD
 have bF:=bh.grew bD (LO bq.lt)
 have dd:Lh aa=bu 5:=((am 5 _ _ rfl).1.1).symm
 have de:My aI aa 67 [iv ((OE l st).1+cl 64 A),iv (cl 64 B)]:=(am 5 _ _ rfl).1.2
 have df:KM ai (Lh aa):=by rw[aJ,dd];exact bz 2 5 _ _ _ _ (by decide) rfl rfl
 clear am bz
 obtain⟨dg,dh,di,bG,aK⟩:=t5 bA 0 aD 37 cr 4 cu 6 bf 7 aH
 clear db bA
 refine KH (KK ?_)
 refine Yg (S:=fun i=>ai i\/((Lh aa) i)) [(5,1)] [some 21,some 22,some 23,some 24,some 25,none] [Pt.eq (pt aa 1),Pt.eq (iv (cl 64 B)),Pt.thg ⟨fun w_=>PG w_ ai ae l ((Lr (LT l 128) st).2) (List.cons (p,st) R),ai,fun T_ w_=>PG w_ T_ ae l ((Lr (LT l 128) ((Lr (LT l 128) st).2)).2) (List.cons (p,st) R),fun _ _ _ h_ k_ ha_=>h_.all k_ ha_,fun _ _ _ _ h_ k_ ha_=>h_.all k_ ha_,fun _ h_=>h_.live,fun _ _ h_=>h_.live⟩ (iv ((OE l (OE l st).2).1)),Pt.eq (iv ((OE l (OE l st).2).1+cl 64 B)),Pt.eq (pt aa 1),Pt.thg (azf aa 67 [iv ((OE l st).1+cl 64 A),iv (cl 64 B)] [iv ((OE l st).1+cl 64 A),iv ((OE l (OE l st).2).1+cl 64 B)]) undef] (by kernel_rfl) (by kernel_rfl) (by kernel_rfl) rfl (St.old ⟨⟨fun _ x_=>Or.inl x_,dc,⟨df,trivial⟩⟩,⟨⟨fun _ x_=>Or.inr x_,de,trivial⟩,trivial⟩⟩) ?_ ?_
 ·refine MR ?_ ?_
  ·refine NB.one rfl fun F_ w_ hR hout hD=>?_
   exact(KT (n:=1) rfl ((hout 7 rfl (by decide)).trans aK) Tryz.underlying67 rfl (by kernel_rfl) (by decide) rfl ⟨rfl,KP.refl _ _⟩)
  refine MR ?_ ?_
  ·refine NB.oneA rfl fun F_ w_ hR hout hD hA_=>?_
   have dk:F_ 21=pt aa 1:=(hD.get 0 rfl rfl rfl).1
   have hA5_:My w_ aa 67 [iv ((OE l st).1+cl 64 A),iv (cl 64 B)]:=hA_ 5 _ _ (by decide) rfl
   exact(KV rfl dk Tryz.underlying3 hA5_ rfl rfl ⟨rfl,KP.refl _ _⟩)
  refine MR ?_ ?_
  ·refine NB.turn rfl rfl fun F_ w_ hR hout hD hA_=>?_
   exact(LE rfl rfl rfl (fun _ _=>by kernel_rfl) (K4 _) (Lm ((hout 6 rfl (by decide)).trans bG) (Lm rfl LS)) (SP ae l ((Lr (LT l 128) st).2) (List.cons (p,st) R) 128 ai _  hA_ ) (fun e_ w_ h_=>by obtain⟨_,he_,k_,hb_,hg_⟩:=h_;exact⟨_,he_,rfl,k_,_,hb_,hg_⟩))
  refine MR ?_ ?_
  ·refine NB.one rfl fun F_ w_ hR hout hD=>?_
   have dl:F_ 22=iv (cl 64 B):=(hD.get 0 rfl rfl rfl).1
   have dm:F_ 23=iv ((OE l (OE l st).2).1):=(hD.get 1 rfl rfl rfl).1
   exact(LR rfl dl dm (by rw[Int.add_comm,IntKind.wrap_i64];omega) ⟨rfl,KP.refl _ _⟩)
  refine MR ?_ ?_
  ·refine NB.one rfl fun F_ w_ hR hout hD=>?_
   exact(KT (n:=1) rfl ((hout 7 rfl (by decide)).trans aK) Tryz.underlying67 rfl (by kernel_rfl) (by decide) rfl ⟨rfl,KP.refl _ _⟩)
  refine MR ?_ ?_
  ·refine NB.turn rfl rfl fun F_ w_ hR hout hD hA_=>?_
   have dn:F_ 25=pt aa 1:=(hD.get 0 rfl rfl rfl).1
   have dp:F_ 24=iv ((OE l (OE l st).2).1+cl 64 B):=(hD.get 1 rfl rfl rfl).1
   exact PB rfl dn dp hA_ rfl rfl (by kernel_rfl) fun w2_ b_ k_=>⟨rfl,k_,_,⟨rfl,b_⟩,KS.refl _ _⟩
  exact Ug
 intro eH bH eI au bI dq an bJ bK
 have bL:=bB.all bI (fun x=>(x.elim (fun y=>((bF.symm) ac rfl y)) (fun y=>((aF.symm) ac rfl y))))
 have bM:=bC.trans bI (fun i hi x=>(x.elim (fun y=>((KS.ok (S:=T_r) bE (fun _ x=>x)) i hi y)) (fun y=>((KS.ok (S:=T_r) aE K6) i hi y))))
 obtain⟨ao,aL⟩:∃ T_,T_=bH 2:=⟨_,rfl⟩
 have av:PG au ao ae l ((Lr (LT l 128) ((Lr (LT l 128) st).2)).2) (List.cons (p,st) R):=by rw[aL];exact(an 2 _ _ rfl).1
 have bN:KS aI ai ao:=by rw[aL];exact(an 2 _ _ rfl).2
 have af:=bE.trans bC bN
 have ah:=bF.grew bN (LO bB.lt)
 have dr:Lh aa=bH 5:=((an 5 _ _ rfl).1.1).symm
 have dt:My au aa 67 [iv ((OE l st).1+cl 64 A),iv ((OE l (OE l st).2).1+cl 64 B)]:=(an 5 _ _ rfl).1.2
 have du:KM ao (Lh aa):=by rw[aL,dr];exact bJ 2 5 _ _ _ _ (by decide) rfl rfl
 clear an bJ
 obtain⟨dv,aM,ak,aN,bO⟩:=t5 bK 0 dg 37 dh 4 di 6 bG 7 aK
 clear dq bK
 refine KH (KK (KK ?_))
 rcases Bool.eq_false_or_eq_true (((Lr (LT l 128) ((Lr (LT l 128) st).2)).2).isNone) with aO|aO
 ·skip
  refine KI (Ly (R:=fun v_ w_=>v_ = .bool true/\KP (fun _=>False) au w_) rfl rfl (LE rfl rfl rfl (fun _ _=>by kernel_rfl) (K4 _) (Lm aN LS) (Rj ae l ((Lr (LT l 128) ((Lr (LT l 128) st).2)).2) (List.cons (p,st) R) ao _  av ) (fun e_ w_ h_=>⟨_,h_.1,(congrArg Value.bool aO),h_.2⟩)) ?_)
  rintro _ eJ ⟨rfl,bP⟩
  obtain⟨dw,dy⟩:=NL bP bL av
  refine KJ (.bool true) rfl rfl (KQ rfl rfl rr) (KL 1 false 27 rfl rfl rfl (Or.inl rfl) rfl (KL 1 false 27 rfl rfl rfl (Or.inl rfl) rfl (KL 1 false 27 rfl rfl rfl (Or.inl rfl) rfl (KJ (.bool true) rfl rfl (Lg rfl rfl rfl rr) (KO ?_)))))
  have dz:=La (.bool true)
  refine KH ?_
  refine Lc (t:=true) dz (fun _=>?_) (fun e=>by cases e)
  refine KK ?_
  have hk:¬ SC l A B st:=by unfold SC;rintro ⟨h7,h8⟩;first|exact h7 (Option.isNone_iff_eq_none.1 (by assumption))|exact absurd (O2 h8) (by assumption)
  have hR:=ZA hk
  obtain⟨g2,a1,b1,a2,b2,hf2,hT2,ho1,ho2,ap,hq2,hg2,hr2,ap1_,ap2_,ap3_,ap4_,ap5_,ap6_⟩:=Ux dy
  have dA:KS w0 T_r (Lh p):=fun i h=>af i ((fun i h=>(hT2 i).2 (Or.inl h)) i h)
  have dB:KM (Lh p) (Lh ac):=fun i h=>ah i ((fun i h=>(hT2 i).2 (Or.inl h)) i h)
  have dC:KS w0 T_r (Lh g2):=fun i h=>af i ((fun i h=>(hT2 i).2 (Or.inr (Or.inr (Or.inl h)))) i h)
  have dD:KM (Lh g2) (Lh ac):=fun i h=>ah i ((fun i h=>(hT2 i).2 (Or.inr (Or.inr (Or.inl h)))) i h)
  have dE:KS w0 T_r (tR R):=fun i h=>af i ((fun i h=>(hT2 i).2 (Or.inr (Or.inr (Or.inr h)))) i h)
  have dF:KM (tR R) (Lh ac):=fun i h=>ah i ((fun i h=>(hT2 i).2 (Or.inr (Or.inr (Or.inr h)))) i h)
  have bQ:KM (Lh p) (Lh g2):=ap2_
  have bR:KM (Lh p) (tR R):=ap3_
  refine KI (KJ (.agg #[iv 0,iv 0]) rfl rfl (L0 (l':=[]) (cells:=#[iv 0,iv 0]) rfl Rc (by kernel_rfl) rfl rr) (Ll (us:=[iv 0,iv 0]) LP rfl rfl rfl ak rfl dw rfl (K2 rfl (K2 rfl MI)) fun dG dH aw=>?_))
  have bS:=ap.all aw (dB p rfl)
  have bT:=hg2.all aw dD
  have bU:=hr2.all aw dF
  refine KJ (iv 90) rfl rfl (KX rfl rfl rr) (KO ?_)
  have dI:=La (iv 90)
  refine KH (Ld (Lq ?_))
  have dJ:PG dG (fun i=>(Lh p) i\/((Lh g2) i\/((tR R) i))) p l (MQ l A B st) R:=(by first|(rw[show MQ l A B st=st from if_neg hk];exact P8 hf2 ho1 bS bT bU bQ bR)|(rw[show MQ l A B st=vrS l st from if_pos hk];exact P8 hf2 ho2 bS bT bU bQ bR))
  have dK:KS w0 T_r (fun i=>(Lh p) i\/((Lh g2) i\/((tR R) i))):=fun i h=>h.elim (fun y=>dA i y) (fun y=>y.elim (fun y=>dC i y) (fun y=>dE i y))
  exact L7 aM rfl (ML (vs:=[iv 0,iv 0]) LP rfl ak dH) (Lz (v:=iv 90) rfl dI) ⟨(fun i=>(Lh p) i\/((Lh g2) i\/((tR R) i))),(by rw[hR.1,hR.2.1,hR.2.2]),((bM.tr bP).trans aw (KS.ok (S:=T_r) aB K6)),⟨dJ,dK⟩⟩
 ·skip
  refine KI (Ly (R:=fun v_ w_=>v_ = .bool false/\KP (fun _=>False) au w_) rfl rfl (LE rfl rfl rfl (fun _ _=>by kernel_rfl) (K4 _) (Lm aN LS) (Rj ae l ((Lr (LT l 128) ((Lr (LT l 128) st).2)).2) (List.cons (p,st) R) ao _  av ) (fun e_ w_ h_=>⟨_,h_.1,(congrArg Value.bool aO),h_.2⟩)) ?_)
  rintro _ dL ⟨rfl,bV⟩
  obtain⟨dM,dN,bW⟩:=ND bV bL av dt
  refine KJ (.bool false) rfl rfl (KQ rfl rfl rr) (KR (.agg #[iv ((OE l st).1+cl 64 A),iv ((OE l (OE l st).2).1+cl 64 B)]) 1 false 27 rfl rfl rfl rfl rfl (KU LP rfl bO bW rr) (LA (R:=fun v_ w_=>v_=iv (PI ((OE l st).1+cl 64 A) ((OE l (OE l st).2).1+cl 64 B))/\KP (fun _=>False) dL w_) 1 false 27 rfl rfl rfl rfl rfl (LE rfl rfl rfl (fun _ _=>by kernel_rfl) (K4 _) (Lm rfl LS) (VN ((OE l st).1+cl 64 A) ((OE l (OE l st).2).1+cl 64 B)  _   ) (fun e_ w_ h_=>⟨_,h_.1,rfl,h_.2⟩)) ?_))
  rintro _ eK ⟨rfl,bX⟩
  obtain⟨bY,bZ,dO⟩:=ND bX dM dN bW
  have b7:=(bM.tr bV).tr bX
  refine KR (.bool (decide ((PI ((OE l st).1+cl 64 A) ((OE l (OE l st).2).1+cl 64 B))≠0))) 1 false 27 rfl rfl rfl rfl rfl (Mc rfl rfl rfl rfl rr) (KJ (.bool (decide ((PI ((OE l st).1+cl 64 A) ((OE l (OE l st).2).1+cl 64 B))≠0))) rfl rfl (Lb rfl rfl rfl rr) (KO ?_))
  have dP:=La (.bool (decide ((PI ((OE l st).1+cl 64 A) ((OE l (OE l st).2).1+cl 64 B))≠0)))
  refine KH ?_
  refine Lc dP (fun aq=>?_) (fun aq=>?_)
  ·replace aq:=of_decide_eq_true aq
   refine KK ?_
   have hk:¬ SC l A B st:=by unfold SC;rintro ⟨h7,h8⟩;first|exact h7 (Option.isNone_iff_eq_none.1 (by assumption))|exact absurd (O2 h8) (by assumption)
   have hR:=ZA hk
   obtain⟨g2,a1,b1,a2,b2,hf2,hT2,ho1,ho2,ap,hq2,hg2,hr2,ap1_,ap2_,ap3_,ap4_,ap5_,ap6_⟩:=Ux bZ
   have dQ:KS w0 T_r (Lh p):=fun i h=>af i ((fun i h=>(hT2 i).2 (Or.inl h)) i h)
   have dR:KM (Lh p) (Lh ac):=fun i h=>ah i ((fun i h=>(hT2 i).2 (Or.inl h)) i h)
   have dS:KS w0 T_r (Lh g2):=fun i h=>af i ((fun i h=>(hT2 i).2 (Or.inr (Or.inr (Or.inl h)))) i h)
   have dT:KM (Lh g2) (Lh ac):=fun i h=>ah i ((fun i h=>(hT2 i).2 (Or.inr (Or.inr (Or.inl h)))) i h)
   have dU:KS w0 T_r (tR R):=fun i h=>af i ((fun i h=>(hT2 i).2 (Or.inr (Or.inr (Or.inr h)))) i h)
   have dV:KM (tR R) (Lh ac):=fun i h=>ah i ((fun i h=>(hT2 i).2 (Or.inr (Or.inr (Or.inr h)))) i h)
   have b8:KM (Lh p) (Lh g2):=ap2_
   have b9:KM (Lh p) (tR R):=ap3_
   refine KI (KJ (.agg #[iv 0,iv 0]) rfl rfl (L0 (l':=[]) (cells:=#[iv 0,iv 0]) rfl Rc (by kernel_rfl) rfl rr) (Ll (us:=[iv 0,iv 0]) LP rfl rfl rfl ak rfl bY rfl (K2 rfl (K2 rfl MI)) fun dW dX az=>?_))
   have cd:=ap.all az (dR p rfl)
   have ce:=hg2.all az dT
   have cf:=hr2.all az dV
   refine KJ (iv 90) rfl rfl (KX rfl rfl rr) (KO ?_)
   have dY:=La (iv 90)
   refine KH (Ld (Lq ?_))
   have dZ:PG dW (fun i=>(Lh p) i\/((Lh g2) i\/((tR R) i))) p l (MQ l A B st) R:=(by first|(rw[show MQ l A B st=st from if_neg hk];exact P8 hf2 ho1 cd ce cf b8 b9)|(rw[show MQ l A B st=vrS l st from if_pos hk];exact P8 hf2 ho2 cd ce cf b8 b9))
   have d8:KS w0 T_r (fun i=>(Lh p) i\/((Lh g2) i\/((tR R) i))):=fun i h=>h.elim (fun y=>dQ i y) (fun y=>y.elim (fun y=>dS i y) (fun y=>dU i y))
   exact L7 aM rfl (ML (vs:=[iv 0,iv 0]) LP rfl ak dX) (Lz (v:=iv 90) rfl dY) ⟨(fun i=>(Lh p) i\/((Lh g2) i\/((tR R) i))),(by rw[hR.1,hR.2.1,hR.2.2]),(b7.trans az (KS.ok (S:=T_r) aB K6)),⟨dZ,d8⟩⟩
  ·replace aq:=of_decide_eq_false aq
   refine Li (KH (KK ?_))
   have hk:SC l A B st:=by unfold SC;exact⟨fun h7=>absurd (Option.isNone_iff_eq_none.2 h7) (Bool.eq_false_iff.1 (by assumption)),(R8 _ _).1 (Decidable.byContradiction (by assumption))⟩
   have hR:=YP hk
   obtain⟨g2,a1,b1,a2,b2,hf2,hT2,ho1,ho2,ap,hq2,hg2,hr2,ap1_,ap2_,ap3_,ap4_,ap5_,ap6_⟩:=Ux bZ
   have cg:KS w0 T_r (Lh p):=fun i h=>af i ((fun i h=>(hT2 i).2 (Or.inl h)) i h)
   have ci:KM (Lh p) (Lh ac):=fun i h=>ah i ((fun i h=>(hT2 i).2 (Or.inl h)) i h)
   have d9:KM (Lh p) (Lh aa):=fun i h=>du i ((fun i h=>(hT2 i).2 (Or.inl h)) i h)
   have eb:KS w0 T_r (Lh g2):=fun i h=>af i ((fun i h=>(hT2 i).2 (Or.inr (Or.inr (Or.inl h)))) i h)
   have ee:KM (Lh g2) (Lh ac):=fun i h=>ah i ((fun i h=>(hT2 i).2 (Or.inr (Or.inr (Or.inl h)))) i h)
   have eh:KS w0 T_r (tR R):=fun i h=>af i ((fun i h=>(hT2 i).2 (Or.inr (Or.inr (Or.inr h)))) i h)
   have ei:KM (tR R) (Lh ac):=fun i h=>ah i ((fun i h=>(hT2 i).2 (Or.inr (Or.inr (Or.inr h)))) i h)
   have aP:KM (Lh p) (Lh g2):=ap2_
   have aQ:KM (Lh p) (tR R):=ap3_
   refine KI (KW rfl rfl rfl dv (KJ (.agg #[.slice (some ⟨g2,0,none⟩) l.length l.length,iv ((a2:Nat):Int),.bool b2]) rfl rfl (KU MM rfl aN hq2 rr) (KJ (pt p 0) rfl rfl (Om rfl rfl rr) (Ll (us:=[.slice (some ⟨g2,0,none⟩) l.length l.length,iv ((a2:Nat):Int),.bool b2]) MM rfl rfl rfl rfl rfl ap rfl (K2 rfl (K2 rfl (K2 rfl MI))) fun eL ek ar=>?_))))
   have en:=bY.all ar (ci.symm ac rfl)
   have eo:=dO.all ar (d9.symm aa rfl)
   have ep:=hg2.all ar aP.symm
   have er:=hr2.all ar aQ.symm
   refine KO ?_
   refine KH (KK (KI (KJ (.agg #[iv ((OE l st).1+cl 64 A),iv ((OE l (OE l st).2).1+cl 64 B)]) rfl rfl (KU LP rfl bO eo rr) (Ll (us:=[iv ((OE l st).1+cl 64 A),iv ((OE l (OE l st).2).1+cl 64 B)]) LP rfl rfl rfl ak rfl en rfl (K2 rfl (K2 rfl MI)) fun et eu aA=>?_))))
   have cj:=ek.all aA (ci p rfl)
   have cm:=ep.all aA ee
   have cn:=er.all aA ei
   refine KJ (iv 0) rfl rfl (KX rfl rfl rr) (KO ?_)
   have ew:=La (iv 0)
   refine KH (Ld ?_)
   have ex:PG et (fun i=>(Lh p) i\/((Lh g2) i\/((tR R) i))) p l (MQ l A B st) R:=(by first|(rw[show MQ l A B st=st from if_neg hk];exact P8 hf2 ho1 cj cm cn aP aQ)|(rw[show MQ l A B st=vrS l st from if_pos hk];exact P8 hf2 ho2 cj cm cn aP aQ))
   have ey:KS w0 T_r (fun i=>(Lh p) i\/((Lh g2) i\/((tR R) i))):=fun i h=>h.elim (fun y=>cg i y) (fun y=>y.elim (fun y=>eb i y) (fun y=>eh i y))
   exact L7 aM rfl (ML (vs:=[iv ((OE l st).1+cl 64 A),iv ((OE l (OE l st).2).1+cl 64 B)]) LP rfl ak eu) (Lz (v:=iv 0) rfl ew) ⟨(fun i=>(Lh p) i\/((Lh g2) i\/((tR R) i))),(by rw[hR.1,hR.2.1,hR.2.2]),((b7.trans ar (KS.ok (S:=T_r) cg (fun _ x=>x))).trans aA (KS.ok (S:=T_r) aB K6)),⟨ex,ey⟩⟩
theorem Rk(p:Nat)(l:List Nat)(st:Option Nat)(R:List (Nat×Option Nat))(T_r:Nat->Prop)(w0:World)(hO:Oo w0)(hG:∀ i,T_r i->2<i)(h_r:PG w0 T_r p (l) (st) (R)) :
  Calls Tryz.prog 101 #[.pointer (some ⟨p,0,none⟩)] w0 fun e w'=>∃ (T_r':Nat->Prop),e = .returned (.tuple #[LK ((LL l st).1),.int .i64 ((LL l st).2.1)])/\KP (T_r) w0 w'/\(PG w' T_r' p (l) (WZ l st) (R)/\KS w0 T_r T_r'):=by
 refine Ls (args:=[pt p 0]) 48 Tryz.func101 rfl rfl (Nat.le_of_ble_eq_true rfl) ?_
 have K0:=KP.refl T_r w0
 have hle:=Vu l st
 obtain⟨M,hM⟩:∃ M,M=(Lr (LB l NC) st).1.toNat:=⟨_,rfl⟩
 have g_r:=KS.refl w0 T_r
 refine KK (KI (L1 rfl rfl rfl KZ.2.2 fun p1 w2 e5 B3 k4=>?_))
 have g6:=LV (Nat.le_of_eq e5.symm)
 have aj:=KS.new K0 g6
 have bb:=KM.new g6 h_r.live
 clear e5 g6
 have B9:=h_r.all k4 KM.none
 have bd:=K0.tr k4
 refine KJ (iv 0) rfl rfl (KX rfl rfl rr) (KO ?_)
 have ak:=La (pt p 0)
 have az:=La (undef)
 have am:=La (pt p1 0)
 have b8:=La (iv 0)
 refine KH (VJ (KK (KK (KI (KW rfl rfl rfl ak (KJ (.bool false) rfl rfl (Rb rfl rfl rfl Tryz.underlying54 rr) (KO ?_)))))))
 have be:=La (.bool false)
 refine KH ?_
 refine Lc (t:=false) be (fun e=>by cases e) (fun _=>?_)
 refine Li (KH (KK (KI (L1 rfl rfl rfl KZ.2.2 fun af bf bg bh bi=>?_))))
 have bj:=LV (Nat.le_of_eq bg.symm)
 obtain⟨bl,b9⟩:=S3 bj B9 B3
 clear bg
 obtain⟨cd,bm⟩:=NL bi B9 B3
 have bn:=bd.tr bi
 refine KO ?_
 have ce:=La (pt af 0)
 refine KH (KK (KI (KJ (iv 0) rfl rfl (KX rfl rfl rr) (KO ?_))))
 have cf:=La (iv 0)
 refine KH (KK (KI (KW rfl rfl rfl ak (Ly (R:=fun v_ w_=>∃ (aa:Nat->Prop),iv ((M:Nat):Int)=v_/\KP T_r bf w_/\(PG w_ aa p l ((Lr (LB l 9223372036854775807) st).2) R/\KS bf T_r aa)) rfl rfl (LE rfl rfl rfl (fun _ _=>by kernel_rfl) (K4 _) (Lm rfl (Lm rfl LS)) (Tz p l st R 9223372036854775807 T_r _  cd ) (fun e_ w_ h_=>by obtain⟨T55_,he_,hr_⟩:=h_;exact⟨_,he_,T55_,(congrArg (Value.int .i64) (by rw[show (9223372036854775807:Int)=NC from rfl];omega)).symm,hr_⟩)) ?_))))
 rintro _ aA ⟨aa,rfl,aB,⟨cg,bo⟩⟩
 have bp:=bm.all aB (bb p1 rfl)
 have ci:=bh.all aB (bl af rfl)
 have bq:=bn.trans aB (fun i hi x=>((KS.ok (S:=T_r) g_r (fun _ x=>x)) i hi x))
 have aC:=g_r.trans bn bo
 obtain⟨aD,cj⟩:=VE bo (bb.symm) bm (bl.symm) bh
 refine KJ (iv ((M:Nat):Int)) rfl rfl (KX rfl rfl rr) (KO ?_)
 have aE:=La (iv ((M:Nat):Int))
 refine KH (KK (KK ?_))
 have av:PG aA aa p l ((Lr (LB l NC) st).2) R:=cg
 rcases Bool.eq_false_or_eq_true (((Lr (LB l NC) st).2).isNone) with aF|aF
 ·skip
  refine KI (KW rfl rfl rfl ak (Ly (R:=fun v_ w_=>v_ = .bool true/\KP (fun _=>False) aA w_) rfl rfl (LE rfl rfl rfl (fun _ _=>by kernel_rfl) (K4 _) (Lm rfl LS) (Rj p l ((Lr (LB l NC) st).2) R aa _  av ) (fun e_ w_ h_=>⟨_,h_.1,(congrArg Value.bool aF),h_.2⟩)) ?_))
  rintro _ dc ⟨rfl,bt⟩
  obtain⟨cm,cn⟩:=NL bt av bp
  refine KJ (.bool true) rfl rfl (KQ rfl rfl rr) (KL 2 false 15 rfl rfl rfl (Or.inl rfl) rfl (KL 2 false 15 rfl rfl rfl (Or.inl rfl) rfl (KJ (.bool true) rfl rfl (Lg rfl rfl rfl rr) (KO ?_))))
  have co:=La (.bool true)
  refine KH ?_
  refine Lc (t:=true) co (fun _=>?_) (fun e=>by cases e)
  refine Nx (Ml ?_)
  refine MP ⟨_,rfl,?_⟩
  refine KK (Li (KH (KK ?_)))
  first|have hR:=QJ (l:=l) (s:=st) (Or.inl (by assumption))|have hR:=QJ (l:=l) (s:=st) (Or.inr (by omega))|have hR:=XV (by omega) hI (by omega)|have hR:=Xi (by omega) hI (by omega) (by first|exact Or.inl (by assumption)|exact Or.inr (by assumption))
  refine KI (KJ (LK (fun _=>0)) rfl rfl (Mz (cells:=(L8 16 (fun _=>0)).toArray) rfl (by kernel_rfl) rfl rr) (Lp KZ rfl rfl rfl am rfl cn fun dd cq bu=>?_))
  have cr:=cm.all bu aD
  refine KJ (iv 60) rfl rfl (KX rfl rfl rr) (KO ?_)
  have ct:=La (iv 60)
  refine KH (Ld (M5 ?_))
  exact L7 az rfl (Mq KZ rfl am cq) (Lz (v:=iv 60) rfl ct) ⟨aa,(by rw[← (Nz hR).1,← (Nz hR).2.1]),((bq.tr bt).trans bu (KS.ok (S:=T_r) aj K6)),⟨(by rw[(Nz hR).2.2];exact cr),aC⟩⟩
 ·skip
  refine KI (KW rfl rfl rfl ak (Ly (R:=fun v_ w_=>v_ = .bool false/\KP (fun _=>False) aA w_) rfl rfl (LE rfl rfl rfl (fun _ _=>by kernel_rfl) (K4 _) (Lm rfl LS) (Rj p l ((Lr (LB l NC) st).2) R aa _  av ) (fun e_ w_ h_=>⟨_,h_.1,(congrArg Value.bool aF),h_.2⟩)) ?_))
  rintro _ de ⟨rfl,bv⟩
  obtain⟨bz,bA,cu⟩:=ND bv av bp ci
  have bB:=bq.tr bv
  refine KJ (.bool false) rfl rfl (KQ rfl rfl rr) (KR (iv ((M:Nat):Int)) 2 false 15 rfl rfl rfl rfl rfl (KQ rfl aE rr) (KR (.bool (decide (16<((M:Nat):Int)))) 2 false 15 rfl rfl rfl rfl rfl (Ms rfl rfl rfl rfl rr) (KJ (.bool (decide (16<((M:Nat):Int)))) rfl rfl (Lb rfl rfl rfl rr) (KO ?_))))
  have bC:=La (.bool (decide (16<((M:Nat):Int))))
  refine KH ?_
  refine Lc bC (fun an=>?_) (fun an=>?_)
  ·replace an:=of_decide_eq_true an
   refine Nx (Ml ?_)
   refine MP ⟨_,rfl,?_⟩
   refine KK (Li (KH (KK ?_)))
   first|have hR:=QJ (l:=l) (s:=st) (Or.inl (by assumption))|have hR:=QJ (l:=l) (s:=st) (Or.inr (by omega))|have hR:=XV (by omega) hI (by omega)|have hR:=Xi (by omega) hI (by omega) (by first|exact Or.inl (by assumption)|exact Or.inr (by assumption))
   refine KI (KJ (LK (fun _=>0)) rfl rfl (Mz (cells:=(L8 16 (fun _=>0)).toArray) rfl (by kernel_rfl) rfl rr) (Lp KZ rfl rfl rfl am rfl bA fun df cv bD=>?_))
   have cw:=bz.all bD aD
   refine KJ (iv 60) rfl rfl (KX rfl rfl rr) (KO ?_)
   have cy:=La (iv 60)
   refine KH (Ld (M5 ?_))
   exact L7 az rfl (Mq KZ rfl am cv) (Lz (v:=iv 60) rfl cy) ⟨aa,(by rw[← (Nz hR).1,← (Nz hR).2.1]),(bB.trans bD (KS.ok (S:=T_r) aj K6)),⟨(by rw[(Nz hR).2.2];exact cw),aC⟩⟩
  ·replace an:=of_decide_eq_false an
   refine Li (KH (KK (KK (KI (KW rfl rfl rfl aE (KJ (iv 0) rfl rfl (KQ rfl rfl rr) (KO ?_)))))))
   have cz:=La (iv ((M:Nat):Int))
   have cA:=La (iv 0)
   refine KH (Lo (M4 (fun nn FF ww=>∃ (i:Nat),∃ (a:Nat),∃ (b:Nat->Int),∃ (s:Option Nat),∃ (ab:Nat->Prop),(i<=M)/\(a<=16)/\(Qw l (M-i) a b s=gRd l st)/\nn=M-i/\FF 0=pt p 0/\FF 2=pt p1 0/\FF 3=iv 0/\FF 4=pt af 0/\FF 6=iv ((M:Nat):Int)/\FF 9 = .bool false/\FF 18 = .bool (decide (16<((M:Nat):Int)))/\FF 19=iv ((M:Nat):Int)/\FF 48=undef/\FF 5=iv ((a:Nat):Int)/\FF 20=iv ((i:Nat):Int)/\KP T_r w0 ww/\PG ww ab p l s R/\NO ww p1 69 (fun _=>0)/\NO ww af 69 b/\KS w0 T_r ab/\KM ab (Lh p1)/\KM ab (Lh af)) (M-0) ⟨0,0,(fun _=>0),(Lr (LB l NC) st).2,aa,by omega,by omega,(aBj (by assumption) (by omega) hM),rfl,ak,am,b8,ce,aE,be,bC,cz,az,cf,cA,bB,bz,bA,cu,aC,aD,cj⟩ ?_))
   rintro dg dh bE ⟨i,a,b,s,ab,i151,i152,hI,hn150,aG,ac,cB,aH,cC,cD,cE,bF,ao,cF,bG,aI,bH,aJ,aK,aL,aM,bI⟩
   refine KK (KI (KJ (.bool (decide (((i:Nat):Int)<((M:Nat):Int)))) rfl rfl (L5 rfl bG bF rfl rr) (KO ?_)))
   have cG:=La (.bool (decide (((i:Nat):Int)<((M:Nat):Int))))
   refine KH (KK ?_)
   refine Lc cG (fun ap=>?_) (fun ap=>?_)
   ·replace ap:=of_decide_eq_true ap
    refine Li (KH (KK (Lo (KK ?_))))
    have hat:=aA0 l a s
    refine KI (KW rfl rfl rfl cF (KW rfl rfl rfl aG (Ly (R:=fun v_ w_=>∃ (ah:Nat->Prop),iv ((Lr (LB l 9223372036854775807) s).1)=v_/\KP ab bE w_/\(PG w_ ah p l ((Lr (LB l 9223372036854775807) s).2) R/\KS bE ab ah)) rfl rfl (LE rfl rfl rfl (fun _ _=>by kernel_rfl) (K4 _) (Lm rfl (Lm rfl LS)) (Tz p l s R 9223372036854775807 ab _  bH ) (fun e_ w_ h_=>by obtain⟨T187_,he_,hr_⟩:=h_;exact⟨_,he_,T187_,rfl,hr_⟩)) ?_)))
    rintro _ aN ⟨ah,rfl,aO,⟨cH,bJ⟩⟩
    have aP:=aJ.all aO (aM.symm p1 rfl)
    have bK:=aK.all aO (bI.symm af rfl)
    have aQ:=aI.trans aO (fun i hi x=>((KS.ok (S:=T_r) aL (fun _ x=>x)) i hi x))
    have aR:=aL.trans aI bJ
    obtain⟨aS,bL⟩:=VE bJ aM aJ bI aK
    refine KJ (iv (((MO l a s).1:Nat):Int)) rfl rfl (LR rfl rfl rfl (L2 (by rw[show (9223372036854775807:Int)=NC from rfl];exact hat.1) (by omega)) rr) (KJ (iv (((MO l a s).1:Nat):Int)) rfl rfl (KX rfl rfl rr) (KO ?_))
    have aT:=La (iv (((MO l a s).1:Nat):Int))
    refine KH (KK (KK ?_))
    have bM:PG aN ah p l ((Lr (LB l NC) s).2) R:=cH
    refine KI (KW rfl rfl rfl aT (KJ (.bool (decide (16<=(((MO l a s).1:Nat):Int)))) rfl rfl (Nl rfl rfl rfl rfl rr) (KO ?_)))
    have cI:=La (.bool (decide (16<=(((MO l a s).1:Nat):Int))))
    refine KH ?_
    refine Lc cI (fun aq=>?_) (fun aq=>?_)
    ·replace aq:=of_decide_eq_true aq
     refine Nx (Ml (Sh (Ml (Ml (Sh (Ml ?_))))))
     refine MP ⟨_,rfl,?_⟩
     refine KK (Li (KH (KK ?_)))
     first|have hR:=QJ (l:=l) (s:=st) (Or.inl (by assumption))|have hR:=QJ (l:=l) (s:=st) (Or.inr (by omega))|have hR:=XV (by omega) hI (by omega)|have hR:=Xi (by omega) hI (by omega) (by first|exact Or.inl (by assumption)|exact Or.inr (by assumption))
     refine KI (KJ (LK (fun _=>0)) rfl rfl (Mz (cells:=(L8 16 (fun _=>0)).toArray) rfl (by kernel_rfl) rfl rr) (Lp KZ rfl rfl rfl ac rfl aP fun di cJ bN=>?_))
     have cK:=bM.all bN aS
     refine KJ (iv 60) rfl rfl (KX rfl rfl rr) (KO ?_)
     have cL:=La (iv 60)
     refine KH (Ld (M5 ?_))
     exact L7 ao rfl (Mq KZ rfl ac cJ) (Lz (v:=iv 60) rfl cL) ⟨ah,(by rw[← (Nz hR).1,← (Nz hR).2.1]),(aQ.trans bN (KS.ok (S:=T_r) aj K6)),⟨(by rw[(Nz hR).2.2];exact cK),aR⟩⟩
    ·replace aq:=of_decide_eq_false aq
     refine Li (KH (KK (KI (KW rfl rfl rfl aG (Ly (R:=fun v_ w_=>∃ (ai:Nat->Prop),iv ((MO l a s).2.1)=v_/\KP ah aN w_/\(PG w_ ai p l ((Lr (LT l 9223372036854775807) ((Lr (LB l NC) s).2)).2) R/\KS aN ah ai)) rfl rfl (LE rfl rfl rfl (fun _ _=>by kernel_rfl) (K4 _) (Lm rfl (Lm rfl LS)) (SP p l ((Lr (LB l NC) s).2) R 9223372036854775807 ah _  bM ) (fun e_ w_ h_=>by obtain⟨T240_,he_,hr_⟩:=h_;exact⟨_,he_,T240_,rfl,hr_⟩)) ?_)))))
     rintro _ bO ⟨ai,rfl,aU,⟨cM,bP⟩⟩
     have bQ:=aP.all aU (aS.symm p1 rfl)
     have cN:=bK.all aU (bL.symm af rfl)
     have bR:=aQ.trans aU (fun i hi x=>((KS.ok (S:=T_r) aR (fun _ x=>x)) i hi x))
     have aV:=aR.trans aQ bP
     obtain⟨aW,bS⟩:=VE bP aS aP bL bK
     refine KJ (iv ((MO l a s).2.1)) rfl rfl (KX rfl rfl rr) (KO ?_)
     have ar:=La (iv ((MO l a s).2.1))
     refine KH (KK (KK ?_))
     have bT:PG bO ai p l ((MO l a s).2.2) R:=cM
     by_cases bU:((MO l a s).2.1)=0
     ·skip
      refine KI (KW rfl rfl rfl ar (KJ (.bool true) rfl rfl (Mj rfl rfl rfl (decide_eq_true bU) rr) (KJ (.bool true) rfl rfl (KQ rfl rfl rr) (KL 2 false 32 rfl rfl rfl (Or.inl rfl) rfl (KL 2 false 32 rfl rfl rfl (Or.inl rfl) rfl (KL 2 false 32 rfl rfl rfl (Or.inl rfl) rfl (KL 2 false 32 rfl rfl rfl (Or.inl rfl) rfl (KJ (.bool true) rfl rfl (Lg rfl rfl rfl rr) (KO ?_)))))))))
      have cO:=La (.bool true)
      refine KH ?_
      refine Lc (t:=true) cO (fun _=>?_) (fun e=>by cases e)
      refine Nx (Ml (Sh (Ml (Ml (Sh (Ml ?_))))))
      refine MP ⟨_,rfl,?_⟩
      refine KK (Li (KH (KK ?_)))
      first|have hR:=QJ (l:=l) (s:=st) (Or.inl (by assumption))|have hR:=QJ (l:=l) (s:=st) (Or.inr (by omega))|have hR:=XV (by omega) hI (by omega)|have hR:=Xi (by omega) hI (by omega) (by first|exact Or.inl (by assumption)|exact Or.inr (by assumption))
      refine KI (KJ (LK (fun _=>0)) rfl rfl (Mz (cells:=(L8 16 (fun _=>0)).toArray) rfl (by kernel_rfl) rfl rr) (Lp KZ rfl rfl rfl ac rfl bQ fun dj cP bV=>?_))
      have cQ:=bT.all bV aW
      refine KJ (iv 60) rfl rfl (KX rfl rfl rr) (KO ?_)
      have cR:=La (iv 60)
      refine KH (Ld (M5 ?_))
      exact L7 ao rfl (Mq KZ rfl ac cP) (Lz (v:=iv 60) rfl cR) ⟨ai,(by rw[← (Nz hR).1,← (Nz hR).2.1]),(bR.trans bV (KS.ok (S:=T_r) aj K6)),⟨(by rw[(Nz hR).2.2];exact cQ),aV⟩⟩
     ·skip
      refine KI (KW rfl rfl rfl ar (KJ (.bool false) rfl rfl (Mj rfl rfl rfl (decide_eq_false bU) rr) (KJ (.bool false) rfl rfl (KQ rfl rfl rr) (KR (iv ((MO l a s).2.1)) 2 false 32 rfl rfl rfl rfl rfl (KQ rfl ar rr) (KR (iv ((MO l a s).2.1)) 2 false 32 rfl rfl rfl rfl rfl (KQ rfl ar rr) (LA (R:=fun v_ w_=>v_=iv (cl 1048576 ((MO l a s).2.1))/\KP (fun _=>False) bO w_) 2 false 32 rfl rfl rfl rfl rfl (LE rfl rfl rfl (fun _ _=>by kernel_rfl) (K4 _) (Lm rfl LS) (W3 ((MO l a s).2.1)  _   ) (fun e_ w_ h_=>⟨_,h_.1,rfl,h_.2⟩)) ?_))))))
      rintro _ dk ⟨rfl,bW⟩
      obtain⟨bX,bY,cS⟩:=ND bW bT bQ cN
      have aX:=bR.tr bW
      refine KR (.bool (decide (((MO l a s).2.1)≠(cl 1048576 ((MO l a s).2.1))))) 2 false 32 rfl rfl rfl rfl rfl (Mc rfl rfl rfl rfl rr) (KJ (.bool (decide (((MO l a s).2.1)≠(cl 1048576 ((MO l a s).2.1))))) rfl rfl (Lb rfl rfl rfl rr) (KO ?_))
      have cT:=La (.bool (decide (((MO l a s).2.1)≠(cl 1048576 ((MO l a s).2.1)))))
      refine KH ?_
      refine Lc cT (fun au=>?_) (fun au=>?_)
      ·replace au:=of_decide_eq_true au
       refine Nx (Ml (Sh (Ml (Ml (Sh (Ml ?_))))))
       refine MP ⟨_,rfl,?_⟩
       refine KK (Li (KH (KK ?_)))
       first|have hR:=QJ (l:=l) (s:=st) (Or.inl (by assumption))|have hR:=QJ (l:=l) (s:=st) (Or.inr (by omega))|have hR:=XV (by omega) hI (by omega)|have hR:=Xi (by omega) hI (by omega) (by first|exact Or.inl (by assumption)|exact Or.inr (by assumption))
       refine KI (KJ (LK (fun _=>0)) rfl rfl (Mz (cells:=(L8 16 (fun _=>0)).toArray) rfl (by kernel_rfl) rfl rr) (Lp KZ rfl rfl rfl ac rfl bY fun dl cU bZ=>?_))
       have cV:=bX.all bZ aW
       refine KJ (iv 60) rfl rfl (KX rfl rfl rr) (KO ?_)
       have cW:=La (iv 60)
       refine KH (Ld (M5 ?_))
       exact L7 ao rfl (Mq KZ rfl ac cU) (Lz (v:=iv 60) rfl cW) ⟨ai,(by rw[← (Nz hR).1,← (Nz hR).2.1]),(aX.trans bZ (KS.ok (S:=T_r) aj K6)),⟨(by rw[(Nz hR).2.2];exact cV),aV⟩⟩
      ·replace au:=of_decide_eq_false au
       refine Li (KH (KK ?_))
       have hN:¬ ((MO l a s).2.1=0\/(MO l a s).2.1≠cl 1048576 (MO l a s).2.1):=by rintro (h|h);exact absurd h (by assumption);exact absurd h (by assumption)
       have ho:=aCz (MO l a s).1 (by omega)
       refine KI (KW rfl rfl rfl aT (KJ (.pointer (some ⟨2,(MO l a s).1,none⟩)) rfl rfl (LU ((MO l a s).1) (s:=1) rfl rfl rfl (by omega) Tryz.underlying68 (by omega) (by kernel_rfl) (by omega) rr) (KJ (iv ((ord (MO l a s).1:Nat):Int)) rfl rfl (OI rfl rfl Tryz.underlying3 ((hO.but aX hG).cell (by omega)) rr) (KW rfl rfl rfl ar (KJ (.pointer (some ⟨af,ord (MO l a s).1,none⟩)) rfl rfl (LU (ord (MO l a s).1) (s:=1) rfl aH rfl (by omega) Tryz.underlying69 (by omega) (by kernel_rfl) (by omega) rr) (NQ rfl rfl rfl rfl rfl cS (by omega) (by kernel_rfl) fun dm cX aY=>?_))))))
       have cY:=bX.all aY bS
       have cZ:=bY.all aY (b9.symm p1 rfl)
       refine KO ?_
       refine KH (KI (KW rfl rfl rfl aT (KJ (iv ((((MO l a s).1)+1:Nat):Int)) rfl rfl (LR rfl rfl rfl (L2 (by omega) (by omega)) rr) (KJ (iv ((((MO l a s).1)+1:Nat):Int)) rfl rfl (KX rfl rfl rr) (KO ?_)))))
       have c5:=La (iv ((((MO l a s).1)+1:Nat):Int))
       refine LD (KH (KI (KJ (iv ((i+1:Nat):Int)) rfl rfl (LR rfl bG rfl (L2 (by omega) (by omega)) rr) (KJ (iv ((i+1:Nat):Int)) rfl rfl (KQ rfl rfl rr) (KO ?_)))))
       have c6:=La (iv ((i+1:Nat):Int))
       exact KH ⟨(M-(i+1)),by omega,i+1,(MO l a s).1+1,(VV b (ord (MO l a s).1) (MO l a s).2.1),(MO l a s).2.2,ai,by omega,by omega,(aDN (by omega) hI (by omega) hN),rfl,aG,ac,cB,aH,cC,cD,cE,bF,ao,c5,c6,(aX.trans aY (KS.ok (S:=T_r) (KS.new bd bj) K6)),cY,cZ,cX,aV,aW,bS⟩
   ·replace ap:=of_decide_eq_false ap
    refine Mg (Lt (Lt (Mh (KH (KK (KK ?_))))))
    have hR:=aCx (by omega) hI
    refine KI (KJ (LK b) rfl rfl (LZ KZ rfl aH aK rr) (Lp KZ rfl rfl rfl ac rfl aJ fun dn c7 b7=>?_))
    have c9:=bH.all b7 aM
    refine KJ (iv 0) rfl rfl (KX rfl rfl rr) (KO ?_)
    have da:=La (iv 0)
    refine KH (Ld (Lq (O4 ?_)))
    exact L7 ao rfl (Mq KZ rfl ac c7) (Lz (v:=iv 0) rfl da) ⟨ab,(by rw[← (Nz hR).1,← (Nz hR).2.1]),(aI.trans b7 (KS.ok (S:=T_r) aj K6)),⟨(by rw[(Nz hR).2.2];exact c9),aL⟩⟩
end Go.Proofs.YtknjpdcpmpfklaaGreatDoor
