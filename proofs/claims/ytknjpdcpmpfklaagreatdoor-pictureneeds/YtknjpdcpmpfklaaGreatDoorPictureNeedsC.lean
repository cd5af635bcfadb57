/- What PictureNeeds reaches of my texts, part 3. -/
import Derived.Test.YtknjpdcpmpfklaaGreatDoorPictureNeedsB
set_option maxRecDepth 100000
set_option maxHeartbeats 4000000
set_option maxRecDepth 100000
namespace Go.Proofs.YtknjpdcpmpfklaaGreatDoor
open Go.RowKit
section
variable {ρ:Operand->Value} {o:Oper} {w:World} {R:Value->World->Prop}
theorem aCP {t : TypeId} {x : Operand} {p k : Nat} {vs : List Value} {a b c : Value} (ho : o.op = .load 27 x) (hx : ρ x = .pointer (some ⟨p, k, none⟩)) (hB : Mu w p t vs) (h0 : vs[k]? = some a) (h1 : vs[k + 1]? = some b) (h2 : vs[k + 2]? = some c) (h : R (.agg #[a, b, c]) w) : Lg Tryz.prog ρ o w R := by
  have hr : w.rangeAt p k [a, b, c] := by
    intro j v hj
    match j, hj with
    | 0, hj => obtain rfl : a = v := by simpa using hj
               exact hB.cell h0
    | 1, hj => obtain rfl : b = v := by simpa using hj
               exact hB.cell h1
    | 2, hj => obtain rfl : c = v := by simpa using hj
               exact hB.cell h2
    | n + 3, hj => simp at hj
  refine MN (v := .agg #[a, b, c]) (w' := w) ?_ h
  simp only [execOp, ho, hx, Sem.run_bind, run_loadAt_mid w p k 27 [a, b, c] _ hr Tryz.underlying27 rfl (by kernel_rfl), Result.andThen_ok, Sem.run_pure]
theorem YT{x y:Operand}{k:IntKind}{cs:Array Value}{v:Value}(j:Nat)(ho:o.op = .index 27 x y)(hx:ρ x = .agg cs)(hy:ρ y = .int k (j:Int))(hj:j<3)(hv:cs[j]? = some v)(h:R v w):Lg Tryz.prog ρ o w R:=by
 have hs:(Tryz.prog.info? 26).map (·.size)=some 1:=by kernel_rfl
 cases hq:Tryz.prog.info? 26 with
 | none=>simp[hq] at hs
 | some i =>
  have hs':i.size=1:=by simpa [hq] using hs
  have hp:(part 26 cs j).run Tryz.prog w = .ok v w:=by simp[part,isAgg,run_underlying Tryz.underlying26,hv]
  have h1:(0:Int)<=(j:Int):=by omega
  have h2:(j:Int)<3:=by omega
  exact MN (v:=v) (w':=w) (by simp[execOp,ho,hx,hy,Instr.index,run_underlying Tryz.underlying27,asIntOf,sizeOf,typeInfo,hq,hs',hj,hp]) h
theorem WM{x lo:Operand}{T:Nat->Prop}{v:Value}{l:List Nat}{kl:IntKind}{i j m:Nat}(k:Nat){il:Int}(ho:o.op = .slice 26 x (some lo) none none)(hx:ρ x=Ms v i j m)(hl:ρ lo = .int kl il)(e1:il=(k:Int))(hb:L7 w T v l)(h1:k<=j-i)(h:R (Ms (Ms v i j m) k (j-i) (m-i)) w):Lg Tryz.prog ρ o w R:=by
 subst e1
 obtain⟨a,e⟩:=UO hb i j m
 obtain⟨i0,hi0,hz0,hz1,hz2⟩:=info_parts Tryz.info_u8
 refine MN (v:=Ms (Ms v i j m) k (j-i) (m-i)) (w':=w) ?_ h
 rw[e] at hx ⊢
 have b1:(Instr.sliceBounds true (j-i) (m-i) (some (.int kl (k:Int))) none none).run Tryz.prog w = .ok (k,j-i,m-i) w:=by
  simp[Instr.sliceBounds,Instr.sliceBound,asIntOf,h1]
 simp[execOp,ho,hx,hl,Instr.sliceAt,Instr.slice,run_underlying Tryz.underlying26,b1,sizeOf,typeInfo,hi0,hz1,Ms]
theorem Zi{x hi:Operand}{T:Nat->Prop}{v:Value}{l:List Nat}{kl:IntKind}{i j m:Nat}(k:Nat){il:Int}(ho:o.op = .slice 26 x none (some hi) none)(hx:ρ x=Ms v i j m)(hl:ρ hi = .int kl il)(e1:il=(k:Int))(hb:L7 w T v l)(h1:k<=m-i)(h:R (Ms (Ms v i j m) 0 k (m-i)) w):Lg Tryz.prog ρ o w R:=by
 subst e1
 obtain⟨a,e⟩:=UO hb i j m
 obtain⟨i0,hi0,hz0,hz1,hz2⟩:=info_parts Tryz.info_u8
 refine MN (v:=Ms (Ms v i j m) 0 k (m-i)) (w':=w) ?_ h
 rw[e] at hx ⊢
 have b1:(Instr.sliceBounds true (j-i) (m-i) none (some (.int kl (k:Int))) none).run Tryz.prog w = .ok (0,k,m-i) w:=by
  simp[Instr.sliceBounds,Instr.sliceBound,asIntOf,h1]
 simp[execOp,ho,hx,hl,Instr.sliceAt,Instr.slice,run_underlying Tryz.underlying26,b1,sizeOf,typeInfo,hi0,hz1,Ms]
theorem aBL{x hi mx:Operand}{T:Nat->Prop}{v:Value}{l:List Nat}{kh km:IntKind}(j m:Nat){ih im:Int}(ho:o.op = .slice 26 x none (some hi) (some mx))(hx:ρ x=v)(hh:ρ hi = .int kh ih)(hm:ρ mx = .int km im)(e2:ih=(j:Int))(e3:im=(m:Int))(hb:L7 w T v l)(h2:j<=m)(h4:m<=l.length)(h:R (Ms v 0 j m) w):Lg Tryz.prog ρ o w R:=by
 subst e2;subst e3
 obtain⟨⟨a,cap,rfl,k1,_⟩,_⟩:=hb
 obtain⟨i0,hi0,hz0,hz1,hz2⟩:=info_parts Tryz.info_u8
 have hmc:m<=cap:=by omega
 refine MN (v:=Ms (.slice a l.length cap) 0 j m) (w':=w) ?_ h
 have b1:(Instr.sliceBounds true l.length cap none (some (.int kh (j:Int))) (some (.int km (m:Int)))).run Tryz.prog w = .ok (0,j,m) w:=by
  simp[Instr.sliceBounds,Instr.sliceBound,asIntOf,hmc,h2]
 simp[execOp,ho,hx,hh,hm,Instr.sliceAt,Instr.slice,run_underlying Tryz.underlying26,b1,sizeOf,typeInfo,hi0,hz1,Ms]
end
def Xd(x v:Value)(off n:Nat):Prop:=∃ d cp,x = .slice d n cp/\(0<n->∀ g nn cc,v = .slice (some ⟨g,0,none⟩) nn cc->d=some ⟨g,off,none⟩)
theorem To{w:World}{T:Nat->Prop}{v:Value}{l:List Nat}(hb:L7 w T v l){i j m:Nat}(h2:j<=m):Xd (Ms v i j m) v i (j-i):=by
 obtain⟨⟨a,cap,rfl,k1,k2,k3,k4,k5⟩,k6⟩:=hb
 clear k3 k4 k5 k6
 refine⟨_,_,rfl,fun hp g nn cc e=>?_⟩
 cases e
 rw[if_neg (by omega)]
 simp[Addr.add_lit]
theorem Wm{w:World}{T:Nat->Prop}{v:Value}{l:List Nat}(hb:L7 w T v l){i j m k q r:Nat}(h2:j<=m)(h3:q<=j-i)(hr:r=i+k):Xd (Ms (Ms v i j m) k q (m-i)) v r (q-k):=by
 subst hr
 obtain⟨⟨a,cap,rfl,k1,k2,k3,k4,k5⟩,k6⟩:=hb
 clear k3 k4 k5 k6
 refine⟨_,_,rfl,fun hp g nn cc e=>?_⟩
 cases e
 rw[if_neg (by omega),if_neg (by omega)]
 simp[Addr.add_lit]
section
variable {ro:Option Nat} {N:Nat} {Q:(Exit->(Nat->Value)->World->Prop)} {F:Nat->Value} {w:World} {o:Oper}
theorem Wp{ρ:Operand->Value}{c:Call}{x y:Operand}{T U:Nat->Prop}{v u:Value}{l m:List Nat}{off n:Nat}(ho:o.op = .call c)(hc:c={ callee:=.builtin .copy,args:=#[x,y],argTypes:=#[26,26] })(hx:Xd (ρ x) v off n)(hy:ρ y=u)(hv:L1 w T v l)(hu:L7 w U u m)(hoff:off+n<=l.length) :
  ∃ w',(execOp ρ o).run Tryz.prog w = .ok (.value (.int .i64 ((min n m.length:Nat):Int))) w'/\L1 w' T v (l.take off++(m.take n++l.drop (off+min n m.length)))/\KM T w w':=by
 subst hc
 have hsz:(Tryz.prog.info? 5).map (·.size)=some 1:=by
  obtain⟨i0,hi0,hz0,hz1,hz2⟩:=info_parts Tryz.info_u8
  rw[hi0];simp[hz1]
 have hlen:(l.take off++(m.take n++l.drop (off+min n m.length))).length=l.length:=by simp;omega
 have hml:(m.take n).length=min n m.length:=by simp
 have hall:∀ y∈l.take off++(m.take n++l.drop (off+min n m.length)),y<256:=by
  intro y hy
  rcases List.mem_append.1 hy with h'|h'
  ·exact hv.lt256 y (List.mem_of_mem_take h')
  ·rcases List.mem_append.1 h' with h'|h'
   ·exact hu.lt256 y (List.mem_of_mem_take h')
   ·exact hv.lt256 y (List.mem_of_mem_drop h')
 obtain⟨d,cp,hxx,hd⟩:=hx
 by_cases h0:min n m.length=0
 ·have h0':min m.length n=0:=by omega
  obtain⟨⟨a,cap,rfl,k1,k2,k3,h256,hcu⟩,_⟩:=hu
  clear hcu hd
  have hm:m.take n=[]:=List.eq_nil_of_length_eq_zero (by omega)
  have hrun:=run_copy_none (P:=Tryz.prog) w 26 26 o.type 5 d a n cp m.length cap Tryz.underlying26 hsz h0'
  refine⟨w,by rw[h0];simp[execOp,ho,resolve,invoke,builtin,hxx,hy,hrun,Result.andThen];rfl,?_,KM.refl _ _⟩
  rw[h0,hm,List.nil_append,Nat.add_zero,List.take_append_drop];exact hv
 ·have hm0:0<m.length:=by omega
  have hn0:0<n:=by omega
  obtain⟨⟨a,cap,rfl,k1,k2,k3,h256,hcu⟩,hu2⟩:=hu
  clear k3 hu2
  obtain⟨b,o1,rfl,hb1,hcell⟩:=hcu hm0
  clear hcu
  replace hd:=hd hn0
  rcases hv.1.1.2 with ⟨rfl,hz⟩ | ⟨g,cp2,cur,rfl,hb,hgg,hnc,hcm,hcs,htake⟩
  ·omega
  ·obtain rfl:=hd g _ _ rfl
   have hbl:(LB (m.take n)).length=min n m.length:=by rw[Ly,hml]
   have hrun:=run_copy_row (P:=Tryz.prog) w 26 26 o.type 5 g off n cp ⟨b,o1,none⟩ m.length cap cur 5 (LB (m.take n)) Tryz.underlying26 hsz hgg (by rw[hbl];show min n m.length=min m.length n;omega) (fun t u ht=>by
    have hjl:t<(m.take n).length:=by
     have:=(List.getElem?_eq_some_iff.1 ht).1
     rwa [Ly] at this
    rw[Addr.add_lit,hcell t (by omega),← ht,OQ (m.take n) t hjl]
    rw[show (m.take n).getD t 0=m.getD t 0 by simp[List.getD,show t<n by omega]]) (by rw[hbl];omega) (PT _)
   refine⟨w.setRow g (cur.toList.take off++LB (m.take n)++cur.toList.drop (off+(LB (m.take n)).length)).toArray,by simp[execOp,ho,resolve,invoke,builtin,hxx,hy,hrun,Result.andThen,hbl];rfl,⟨⟨⟨?_,.inr ⟨g,cp2,_,?_,hb,setRow_heap w g cur _ _ _ hgg,?_,hcm,?_,?_⟩⟩,hall⟩,hv.2⟩,(KM.refl T w).setRow g (fun _=>(hv.2 g).2 rfl) _⟩
   ·rw[Ly];omega
   ·rw[hlen]
   ·omega
   ·simp[Ly];omega
   ·have htk:cur.toList.take l.length=LB l:=by simpa using htake
    have hcl:cur.toList=LB l++cur.toList.drop l.length:=by rw[← htk,List.take_append_drop]
    rw[hcl]
    generalize cur.toList.drop l.length=rest2
    have hli:off<=(LB l).length:=by rw[Ly];omega
    have hlj:off+(LB (m.take n)).length<=(LB l).length:=by rw[hbl,Ly];omega
    rw[List.take_append_of_le_length hli,List.drop_append_of_le_length hlj,hlen,Nat.mul_one]
    have e2:LB (l.take off++(m.take n++l.drop (off+min n m.length)))=(LB l).take off++(LB (m.take n)++(LB l).drop (off+(LB (m.take n)).length)):=by
     rw[hbl]
     simp[LB,List.map_take,List.map_drop]
    rw[e2]
    have e3:((LB l).take off++LB (m.take n)++((LB l).drop (off+(LB (m.take n)).length)++rest2))=((LB l).take off++(LB (m.take n)++(LB l).drop (off+(LB (m.take n)).length)))++rest2:=by simp
    rw[e3,List.take_append_of_le_length (by simp[Ly];omega)]
    rw[List.take_of_length_le (by simp[Ly];omega)]
theorem RT{ops:Array Oper}{rest:List Oper}{c:Call}{x y:Operand}{T U:Nat->Prop}{v u:Value}{l m:List Nat}{off n:Nat}{X:Value}(hg:o.guard=none)(hd:Ou N o.dst=true)(ho:o.op = .call c)(hc:c={ callee:=.builtin .copy,args:=#[x,y],argTypes:=#[26,26] })(hxX:ev (MK N F) x=X)(hp:Xd X v off n)(hy:ev (MK N F) y=u)(hv:L1 w T v l)(hu:L7 w U u m)(hoff:off+n<=l.length)
  (h:∀ w',L1 w' T v (l.take off++(m.take n++l.drop (off+min n m.length)))->KM T w w'->wl ro Tryz.prog N ops Q rest (OI F o.dst (.int .i64 ((min n m.length:Nat):Int))) w'):wl ro Tryz.prog N ops Q (o::rest) F w:=by
 obtain⟨w',hr,h1,h2⟩:=Wp ho hc (by rw[hxX];exact hp) hy hv hu hoff
 exact Nq hg hd (MN hr (h w' h1 h2))
end
theorem VE:Qs Tryz.prog 123 4:=⟨_,Tryz.underlying123,rfl,by kernel_rfl⟩
def YZ(p k:Nat):Value:=.slice (some (if 4=k then ⟨p,0,none⟩ else ⟨p,k,none⟩)) (4-k) (4-k)
theorem Mu.bytes{w:World}{p t:Nat}{a b c d:Nat}(h:Mu w p t [.int .u8 (a:Int),.int .u8 (b:Int),.int .u8 (c:Int),.int .u8 (d:Int)])(ha:a<256)(hb:b<256)(hc:c<256)(hd:d<256){k:Nat}(hk:k<=4):L7 w (Le p) (YZ p k) ([a,b,c,d].drop k):=by
 have hl:([a,b,c,d].drop k).length=4-k:=by simp
 refine⟨⟨some (if 4=k then ⟨p,0,none⟩ else ⟨p,k,none⟩),4-k,by rw[hl];rfl,by omega,Nat.le_trans (Nat.sub_le 4 k) (by decide),(fun e=>by cases e),?_,fun hp=>⟨p,k,by rw[if_neg (by omega)],h.lt,fun i hi=>?_⟩⟩,LR h.lt,fun _ a' n c' e=>?_⟩
 ·intro x hx
  have:=List.mem_of_mem_drop hx
  simp at this
  omega
 ·rw[hl] at hi
  have hc:=h.cell (i:=k+i) (v:=.int .u8 (([a,b,c,d].drop k).getD i 0:Nat)) (by
   have:k=0\/k=1\/k=2\/k=3:=by omega
   have hi4:i=0\/i=1\/i=2\/i=3:=by omega
   rcases this with rfl|rfl|rfl|rfl <;> rcases hi4 with rfl|rfl|rfl|rfl <;> first|rfl|omega)
  exact hc
 ·unfold YZ at e
  simp only[Value.slice.injEq,Option.some.injEq] at e
  rw[← e.1]
  split <;> rfl
section
variable {ρ:Operand->Value} {o:Oper} {w:World} {R:Value->World->Prop}
theorem aCI{x lo:Operand}{p:Nat}{kl:IntKind}(k:Nat){il:Int}(ho:o.op = .slice 123 x (some lo) none none)(hx:ρ x = .pointer (some ⟨p,0,none⟩))(hl:ρ lo = .int kl il)(e1:il=(k:Int))(hk:k<=4)(h:R (YZ p k) w):Lg Tryz.prog ρ o w R:=by
 subst e1
 obtain⟨i0,hi0,hz0,hz1,hz2⟩:=info_parts Tryz.info_u8
 refine MN (v:=YZ p k) (w':=w) ?_ h
 have b1:(Instr.sliceBounds false 4 4 (some (.int kl (k:Int))) none none).run Tryz.prog w = .ok (k,4,4) w:=by
  simp[Instr.sliceBounds,Instr.sliceBound,asIntOf,hk]
 simp[execOp,ho,hx,hl,Instr.sliceAt,Instr.sureAddr,run_underlying Tryz.underlying123,b1,sizeOf,typeInfo,hi0,hz1,YZ,Addr.add_lit]
end
theorem Tn:∀ (n t:Nat) (acc:List Nat),(∀ x∈acc,x<256)->∃ l:List Nat,Extern.BytealgMakeNoZero.digits n t (LB acc).toArray=(LB l).toArray/\(∀ x∈l,x<256)/\l.length=acc.length+n
 | 0,_,acc,h=>⟨acc,rfl,h,rfl⟩
 | n+1,t,acc,h=>by
  obtain⟨l,h1,h2,h3⟩:=Tn n (t/256) (acc ++ [t%256]) (by
   intro x hx
   rcases List.mem_append.1 hx with hx|hx
   ·exact h x hx
   ·simp at hx;omega)
  refine⟨l,?_,h2,by simp at h3;omega⟩
  rw[Extern.BytealgMakeNoZero.digits,← h1]
  congr 1
  simp[LB]
theorem R8(w:World)(n:Nat)(hn:n<1099511627776) :
  ∃ cs:Array Value,(Extern.BytealgMakeNoZero.makeNoZero #[3] #[26] #[.int .i64 n]).run Tryz.prog w = .ok (.slice (some ⟨w.heap.size,0,none⟩) n cs.size) (w.drew.drew.alloc (.cells cs 5))/\n<=cs.size/\cs.size<=maxLen/\∃ l:List Nat,cs=(LB l).toArray/\(∀ x∈l,x<256)/\l.length=cs.size:=by
 obtain⟨cs,hr,h1,h2⟩:=Lib.run_makeNoZero (P:=Tryz.prog) w #[3] 26 5 Tryz.underlying26 n (by omega)
 refine⟨cs,hr,h1,h2 (Nat.le_trans (Nat.le_of_lt hn) (by decide)),?_⟩
 have h0:¬ (n:Int)<0:=by omega
 have h3:¬ (281474976710656:Int)<(n:Int):=by omega
 have hd:Extern.BytealgMakeNoZero.makeNoZero #[3] #[26] #[.int .i64 n]=underlying 26 >>= _:=rfl
 have hr2:=hr
 rw[hd] at hr2
 simp[run_underlying Tryz.underlying26,h0,h3,Question.forced,newRow] at hr2
 have e:=congrArg (fun W:World=>W.heap[w.drew.drew.heap.size]?) hr2.2
 simp only[heap_alloc_new] at e
 have e2:=(Obj.cells.inj (Option.some.inj e)).1
 rw[hr2.1] at e2
 obtain⟨T,hT⟩:∃ T,Extern.BytealgMakeNoZero.digits cs.size T #[]=cs:=⟨_,e2⟩
 obtain⟨l,k1,k2,k3⟩:=Tn cs.size T [] (by simp)
 exact⟨l,hT.symm.trans k1,k2,by simpa using k3⟩
theorem aCN{ro:Option Nat}{N:Nat}{Q:(Exit->(Nat->Value)->World->Prop)}{F:Nat->Value}{w:World}{o:Oper}{ops:Array Oper}{rest:List Oper}{c:Call}{x:Operand}{f:FuncId}{fn:Func}{n:Nat}{i:Int}(hg:o.guard=none)(hd:Ou N o.dst=true)(ho:o.op = .call c)(hc:c={ callee:=.value (.func f),args:=#[x],argTypes:=#[3] })(hx:ev (MK N F) x = .int .i64 i)(hi:i=(n:Int))(hn:n<1099511627776)
  (hf : Tryz.prog.funcs[f]? = some fn) (hname : (fn.name == "runtime.NumGoroutine") = false) (hb : fn.body.isNone = true) (hnx : Extern.findNext fn = none) (he : Extern.find fn = some (Extern.BytealgMakeNoZero.makeNoZero #[3] #[26]))
  (h:∀ v w' T (l:List Nat),L1 w' T v l->l.length=n->KP w L8 T->KM (fun _=>False) w w'->wl ro Tryz.prog N ops Q rest (OI F o.dst v) w'):wl ro Tryz.prog N ops Q (o::rest) F w:=by
 subst hc;subst hi
 obtain⟨cs,hrun,hle,hmx,hcap⟩:=R8 w n hn
 obtain⟨J,hJ,hJ2,hJ3⟩:=hcap
 have hcall:(callFunc f #[.int .i64 (n:Int)]).run Tryz.prog w = .ok (.value (.slice (some ⟨w.heap.size,0,none⟩) n cs.size)) (w.drew.drew.alloc (.cells cs 5)):=by
  rw[run_callFunc_extern hf hname hb hnx he,hrun];rfl
 have hsz:cs.size=J.length:=by rw[hJ];simp[Ly]
 refine Nq hg hd (MN (v:=.slice (some ⟨w.heap.size,0,none⟩) n cs.size) (w':=w.drew.drew.alloc (.cells cs 5)) (by simp[execOp,ho,resolve,K2,Deferred.ofValue,invoke,hx,hcall]) (h _ _ _ (J.take n) (L1.of ⟨⟨by rw[Ly];omega,.inr ⟨w.heap.size,cs.size,cs,by rw[List.length_take,Nat.min_eq_left (by omega)],Nat.zero_le _,?_,by rw[List.length_take];omega,hmx,by omega,?_⟩⟩,fun y hy=>hJ2 y (List.mem_of_mem_take hy)⟩) (by rw[List.length_take];omega) (fun i hi=>.inr ?_) (((KM.refl _ w).drew.drew).alloc _)))
 ·exact heap_alloc_new w.drew.drew _
 ·rw[hJ,List.length_take,Nat.min_eq_left (by omega),Nat.mul_one]
  simp[LB,List.map_take]
 ·cases hi;exact Nat.le_refl _
end Go.Proofs.YtknjpdcpmpfklaaGreatDoor
set_option maxRecDepth 100000
namespace Go.Proofs.YtknjpdcpmpfklaaGreatDoor
open Go.RowKit
theorem NV(n a b:Int)(w0:World) :
  Calls Tryz.prog 116 #[.int .i64 (n),.int .i64 (a),.int .i64 (b)] w0 fun e w'=>e = .returned (.int .i64 (max a (min n b)))/\KM (fun _=>False) w0 w':=by
 refine Lp (args:=[iv n,iv a,iv b]) 12 Tryz.func116 rfl rfl (Nat.le_of_ble_eq_true rfl) ?_
 refine KH (KF (KG (iv 0) rfl rfl (KT rfl rfl rr) (KL ?_)))
 have s3:=K4 (iv n)
 have s4:=K4 (iv a)
 have s5:=K4 (iv b)
 have s6:=K4 (undef)
 refine KE (KH (KF (KS rfl rfl rfl s4 (KS rfl rfl rfl s3 (KS rfl rfl rfl s5 (KG (iv (min n b)) rfl rfl (QL rfl rfl rfl rfl rr) (KG (iv (max a (min n b))) rfl rfl (Rh rfl rfl rfl rfl rr) (KG (iv (max a (min n b))) rfl rfl (KT rfl rfl rr) (KL ?_)))))))))
 have af:=K4 (iv (max a (min n b)))
 refine KE (La ?_)
 exact Lq (v:=iv (max a (min n b))) s6 rfl rfl af ⟨rfl,(KM.refl (fun _=>False) w0)⟩
theorem Pp(n:Int)(w0:World) :
  Calls Tryz.prog 51 #[.int .i64 (n)] w0 fun e w'=>e = .returned (.bool (Mj n))/\KM (fun _=>False) w0 w':=by
 refine Lp (args:=[iv n]) 14 Tryz.func51 rfl rfl (Nat.le_of_ble_eq_true rfl) ?_
 have K0:=KM.refl (fun _=>False) w0
 refine KH (KF (KG (.bool false) rfl rfl (KT rfl rfl rr) (KL ?_)))
 have s3:=K4 (iv n)
 have s4:=K4 (undef)
 refine KE (KH ?_)
 by_cases d5:8<=n
 ·skip
  by_cases d6:n<=64
  ·skip
   refine KF (KS rfl rfl rfl s3 (KG (.bool true) rfl rfl (Nh rfl rfl rfl (decide_eq_true d5) rr) (KG (.bool true) rfl rfl (KN rfl rfl rr) (KO (iv n) 2 true 5 rfl rfl rfl rfl rfl (KN rfl s3 rr) (KO (.bool true) 2 true 5 rfl rfl rfl rfl rfl (Nc rfl rfl rfl (decide_eq_true d6) rr) (KG (.bool true) rfl rfl (Ld rfl rfl rfl rr) (KG (.bool true) rfl rfl (KN rfl rfl rr) (KO (iv n) 6 true 9 rfl rfl rfl rfl rfl (KN rfl s3 rr) (KO (iv (Int.tmod n 8)) 6 true 9 rfl rfl rfl rfl rfl (Xw rfl rfl rfl (by first|decide|omega) rfl rr) (KO (.bool (decide ((Int.tmod n 8)=0))) 6 true 9 rfl rfl rfl rfl rfl (LZ rfl rfl rfl rfl rr) (KG (.bool (decide ((Int.tmod n 8)=0))) rfl rfl (Ld rfl rfl rfl rr) ?_)))))))))))
   refine KG (.bool (decide ((Int.tmod n 8)=0))) rfl rfl (KT rfl rfl rr) (KL ?_)
   have ah:=K4 (.bool (decide ((Int.tmod n 8)=0)))
   refine KE (La ?_)
   exact Lq (v:=.bool (decide ((Int.tmod n 8)=0))) s4 rfl rfl ah ⟨(by first|rw[TT (by omega)]|rw[Sw (by omega)]|rw[Tz (by omega) (by omega)]),K0⟩
  ·skip
   refine KF (KS rfl rfl rfl s3 (KG (.bool true) rfl rfl (Nh rfl rfl rfl (decide_eq_true d5) rr) (KG (.bool true) rfl rfl (KN rfl rfl rr) (KO (iv n) 2 true 5 rfl rfl rfl rfl rfl (KN rfl s3 rr) (KO (.bool false) 2 true 5 rfl rfl rfl rfl rfl (Nc rfl rfl rfl (decide_eq_false d6) rr) (KG (.bool false) rfl rfl (Ld rfl rfl rfl rr) (KG (.bool false) rfl rfl (KN rfl rfl rr) (KI 6 true 9 rfl rfl rfl (Or.inl rfl) rfl (KI 6 true 9 rfl rfl rfl (Or.inl rfl) rfl (KI 6 true 9 rfl rfl rfl (Or.inl rfl) rfl (KG (.bool false) rfl rfl (K6 rfl rfl rfl rr) ?_)))))))))))
   refine KG (.bool false) rfl rfl (KT rfl rfl rr) (KL ?_)
   have ai:=K4 (.bool false)
   refine KE (La ?_)
   exact Lq (v:=.bool false) s4 rfl rfl ai ⟨(by first|rw[TT (by omega)]|rw[Sw (by omega)]|rw[Tz (by omega) (by omega)]),K0⟩
 ·skip
  refine KF (KS rfl rfl rfl s3 (KG (.bool false) rfl rfl (Nh rfl rfl rfl (decide_eq_false d5) rr) (KG (.bool false) rfl rfl (KN rfl rfl rr) (KI 2 true 5 rfl rfl rfl (Or.inl rfl) rfl (KI 2 true 5 rfl rfl rfl (Or.inl rfl) rfl (KG (.bool false) rfl rfl (K6 rfl rfl rfl rr) (KG (.bool false) rfl rfl (KN rfl rfl rr) (KI 6 true 9 rfl rfl rfl (Or.inl rfl) rfl (KI 6 true 9 rfl rfl rfl (Or.inl rfl) rfl (KI 6 true 9 rfl rfl rfl (Or.inl rfl) rfl (KG (.bool false) rfl rfl (K6 rfl rfl rfl rr) ?_)))))))))))
  refine KG (.bool false) rfl rfl (KT rfl rfl rr) (KL ?_)
  have aj:=K4 (.bool false)
  refine KE (La ?_)
  exact Lq (v:=.bool false) s4 rfl rfl aj ⟨(by first|rw[TT (by omega)]|rw[Sw (by omega)]|rw[Tz (by omega) (by omega)]),K0⟩
def LC(f:FD)(p:Int):Int×Int:=if p=0 then (f.W,f.H) else (Int.tdiv f.W 2,Int.tdiv f.H 2)
theorem Ql(p:Int)(f:FD)(f0 f1 f2:Value)(T_f0:Nat->Prop)(T_f1:Nat->Prop)(T_f2:Nat->Prop)(w0:World)(hw:0<=f.W/\f.W<=64)(hh:0<=f.H/\f.H<=64)(_h_f0:L7 w0 T_f0 f0 ((f).p0))(_h_f1:L7 w0 T_f1 f1 ((f).p1))(_h_f2:L7 w0 T_f2 f2 ((f).p2)) :
  Calls Tryz.prog 52 #[.agg #[.int .i64 ((f).W),.int .i64 ((f).H),f0,f1,f2],.int .i64 (p)] w0 fun e w'=>e = .returned (.tuple #[.int .i64 ((LC f p).1),.int .i64 ((LC f p).2)])/\KM (fun _=>False) w0 w':=by
 refine Lp (args:=[.agg #[iv (f.W),iv (f.H),f0,f1,f2],iv p]) 18 Tryz.func52 rfl rfl (Nat.le_of_ble_eq_true rfl) ?_
 have g_f0:=KP.refl w0 T_f0
 have g_f1:=KP.refl w0 T_f1
 have g_f2:=KP.refl w0 T_f2
 refine KH (KF (Lt (vs:=[iv (f.W),iv (f.H),f0,f1,f2]) rfl rfl rfl rfl fun p1 w2 B4 g5 k3=>?_))
 have ak:=(KM.refl (fun _=>False) w0).tr k3
 refine KG (iv 0) rfl rfl (KT rfl rfl rr) (KG (iv 0) rfl rfl (KT rfl rfl rr) (KL ?_))
 have aq:=K4 (iv p)
 have am:=K4 (undef)
 have ae:=K4 (pt p1 0)
 refine KE (KH (KH (KF (KS rfl rfl rfl aq (KG (.bool (decide (p=0))) rfl rfl (LZ rfl rfl rfl rfl rr) (KL ?_))))))
 have ar:=K4 (.bool (decide (p=0)))
 refine KE ?_
 refine K5 ar (fun ab=>?_) (fun ab=>?_)
 ·replace ab:=of_decide_eq_true ab
  refine KH ?_
  refine Ri [some 8,some 9,some 10,some 11,some 4,some 5] [Pd.eq (pt p1 0),Pd.eq (iv (f.W)),Pd.eq (pt p1 1),Pd.eq (iv (f.H)),Pd.eq (iv (f.W)),Pd.eq (iv (f.H))] (by kernel_rfl) (by kernel_rfl) ?_ ?_
  ·refine KK ?_ ?_
   ·refine Lb.one rfl fun F_ w_ hR hout hD=>?_
    exact(KQ (n:=1) rfl ((hout 2 rfl (by decide)).trans ae) Tryz.underlying29 rfl (by kernel_rfl) (by decide) rfl ⟨rfl,KM.refl _ _⟩)
   refine KK ?_ ?_
   ·refine Lb.one rfl fun F_ w_ hR hout hD=>?_
    have g8:F_ 8=pt p1 0:=(hD.get 0 rfl rfl rfl)
    exact(KR rfl g8 Tryz.underlying3 (B4.all hR id) rfl rfl ⟨rfl,KM.refl _ _⟩)
   refine KK ?_ ?_
   ·refine Lb.one rfl fun F_ w_ hR hout hD=>?_
    exact(KQ (n:=1) rfl ((hout 2 rfl (by decide)).trans ae) Tryz.underlying29 rfl (by kernel_rfl) (by decide) rfl ⟨rfl,KM.refl _ _⟩)
   refine KK ?_ ?_
   ·refine Lb.one rfl fun F_ w_ hR hout hD=>?_
    have av:F_ 10=pt p1 1:=(hD.get 0 rfl rfl rfl)
    exact(KR rfl av Tryz.underlying3 (B4.all hR id) rfl rfl ⟨rfl,KM.refl _ _⟩)
   refine KK ?_ ?_
   ·refine Lb.one rfl fun F_ w_ hR hout hD=>?_
    have g9:F_ 9=iv (f.W):=(hD.get 0 rfl rfl rfl)
    exact(KT rfl g9 ⟨rfl,KM.refl _ _⟩)
   refine KK ?_ ?_
   ·refine Lb.one rfl fun F_ w_ hR hout hD=>?_
    have az:F_ 11=iv (f.H):=(hD.get 0 rfl rfl rfl)
    exact(KT rfl az ⟨rfl,KM.refl _ _⟩)
   exact L0
  intro aQ an aR aA ai af
  have aB:=(af 18).trans am
  have aC:an 4=iv (f.W):=(af 4).trans (ai 4 (by decide))
  have aD:an 5=iv (f.H):=(af 5).trans (ai 5 (by decide))
  clear ai af
  refine KE (La (Ln ?_))
  exact L4 aB rfl (Lu (v:=iv (f.W)) rfl aC) (Lu (v:=iv (f.H)) rfl aD) ⟨(by unfold LC;first|rw[if_pos (by assumption)]|rw[if_neg (by assumption)]),(ak.tr aA)⟩
 ·replace ab:=of_decide_eq_false ab
  refine Lf (KE (KH ?_))
  refine Ri [some 12,some 13,some 14,some 15,some 16,some 17,some 4,some 5] [Pd.eq (pt p1 0),Pd.eq (iv (f.W)),Pd.eq (iv (Int.tdiv f.W 2)),Pd.eq (pt p1 1),Pd.eq (iv (f.H)),Pd.eq (iv (Int.tdiv f.H 2)),Pd.eq (iv (Int.tdiv f.W 2)),Pd.eq (iv (Int.tdiv f.H 2))] (by kernel_rfl) (by kernel_rfl) ?_ ?_
  ·refine KK ?_ ?_
   ·refine Lb.one rfl fun F_ w_ hR hout hD=>?_
    exact(KQ (n:=1) rfl ((hout 2 rfl (by decide)).trans ae) Tryz.underlying29 rfl (by kernel_rfl) (by decide) rfl ⟨rfl,KM.refl _ _⟩)
   refine KK ?_ ?_
   ·refine Lb.one rfl fun F_ w_ hR hout hD=>?_
    have aE:F_ 12=pt p1 0:=(hD.get 0 rfl rfl rfl)
    exact(KR rfl aE Tryz.underlying3 (B4.all hR id) rfl rfl ⟨rfl,KM.refl _ _⟩)
   refine KK ?_ ?_
   ·refine Lb.one rfl fun F_ w_ hR hout hD=>?_
    have aF:F_ 13=iv (f.W):=(hD.get 0 rfl rfl rfl)
    exact(P7 rfl aF rfl (by first|decide|omega) (Ma rfl (by rw[OX (by omega)];omega)) ⟨rfl,KM.refl _ _⟩)
   refine KK ?_ ?_
   ·refine Lb.one rfl fun F_ w_ hR hout hD=>?_
    exact(KQ (n:=1) rfl ((hout 2 rfl (by decide)).trans ae) Tryz.underlying29 rfl (by kernel_rfl) (by decide) rfl ⟨rfl,KM.refl _ _⟩)
   refine KK ?_ ?_
   ·refine Lb.one rfl fun F_ w_ hR hout hD=>?_
    have aG:F_ 15=pt p1 1:=(hD.get 0 rfl rfl rfl)
    exact(KR rfl aG Tryz.underlying3 (B4.all hR id) rfl rfl ⟨rfl,KM.refl _ _⟩)
   refine KK ?_ ?_
   ·refine Lb.one rfl fun F_ w_ hR hout hD=>?_
    have aH:F_ 16=iv (f.H):=(hD.get 0 rfl rfl rfl)
    exact(P7 rfl aH rfl (by first|decide|omega) (Ma rfl (by rw[OX (by omega)];omega)) ⟨rfl,KM.refl _ _⟩)
   refine KK ?_ ?_
   ·refine Lb.one rfl fun F_ w_ hR hout hD=>?_
    have aI:F_ 14=iv (Int.tdiv f.W 2):=(hD.get 0 rfl rfl rfl)
    exact(KT rfl aI ⟨rfl,KM.refl _ _⟩)
   refine KK ?_ ?_
   ·refine Lb.one rfl fun F_ w_ hR hout hD=>?_
    have aJ:F_ 17=iv (Int.tdiv f.H 2):=(hD.get 0 rfl rfl rfl)
    exact(KT rfl aJ ⟨rfl,KM.refl _ _⟩)
   exact L0
  intro aS ao aT aK aj ah
  have aL:=(ah 18).trans am
  have aM:ao 4=iv (Int.tdiv f.W 2):=(ah 4).trans (aj 6 (by decide))
  have aN:ao 5=iv (Int.tdiv f.H 2):=(ah 5).trans (aj 7 (by decide))
  clear aj ah
  refine KE (La ?_)
  exact L4 aL rfl (Lu (v:=iv (Int.tdiv f.W 2)) rfl aM) (Lu (v:=iv (Int.tdiv f.H 2)) rfl aN) ⟨(by unfold LC;first|rw[if_pos (by assumption)]|rw[if_neg (by assumption)]),(ak.tr aK)⟩
theorem Wz{w h:Int}(h1:w%8=0)(h2:h%8=0)(hw:0<=w)(hh:0<=h):Int.tdiv w 2*Int.tdiv h 2=w*h/4:=by
 rw[OX hw,OX hh]
 obtain⟨a,rfl⟩:∃ a,w=2*a:=⟨w/2,by omega⟩
 obtain⟨b,rfl⟩:∃ b,h=2*b:=⟨h/2,by omega⟩
 rw[show 2*a/2=a by omega,show 2*b/2=b by omega,show 2*a*(2*b)=4*(a*b) by rw[Int.mul_assoc,Int.mul_left_comm a 2 b,← Int.mul_assoc];rfl]
 omega
theorem Rb{f:FD}(hw:Mj f.W=true)(hh:Mj f.H=true)(p:Int):0<=(LC f p).1*(LC f p).2/\(LC f p).1*(LC f p).2<=4096/\(LC f p).1*(LC f p).2=(if p=0 then f.W*f.H else f.W*f.H/4):=by
 have h:=Oc hw hh
 have h1:=(Mr _).1 hw
 have h2:=(Mr _).1 hh
 unfold LC
 by_cases hp:p=0
 ·rw[if_pos hp,if_pos hp];refine⟨?_,?_,rfl⟩ <;> (dsimp only;omega)
 ·rw[if_neg hp,if_neg hp]
  have q:=Wz h1.2.2 h2.2.2 (by omega) (by omega)
  dsimp only
  rw[q];refine⟨?_,?_,rfl⟩ <;> omega
theorem Qy{f:FD}(hw:Mj f.W=true)(hh:Mj f.H=true):QO f↔(f.p0.length:Int)=(LC f ((0:Nat):Int)).1*(LC f ((0:Nat):Int)).2/\(f.p1.length:Int)=(LC f ((1:Nat):Int)).1*(LC f ((1:Nat):Int)).2/\(f.p2.length:Int)=(LC f ((2:Nat):Int)).1*(LC f ((2:Nat):Int)).2:=by
 have har:=Oc hw hh
 rw[(Rb hw hh _).2.2,(Rb hw hh _).2.2,(Rb hw hh _).2.2,if_pos (show ((0:Nat):Int)=0 from rfl),if_neg (by decide),if_neg (by decide)]
 unfold QO
 rw[X1 (by omega)]
 exact⟨fun h=>h.2.2,fun h=>⟨hw,hh,h⟩⟩
theorem P5{f:FD}(hw:Mj f.W=true)(hh:Mj f.H=true)(h0:(f.p0.length:Int)=(LC f ((0:Nat):Int)).1*(LC f ((0:Nat):Int)).2)(h1:(f.p1.length:Int)=(LC f ((1:Nat):Int)).1*(LC f ((1:Nat):Int)).2)(h2:(f.p2.length:Int)=(LC f ((2:Nat):Int)).1*(LC f ((2:Nat):Int)).2):Np f=0:=ayK ((Qy hw hh).2 ⟨h0,h1,h2⟩)
theorem P2{f:FD}(hw:Mj f.W=true)(hh:Mj f.H=true)(h:(f.p0.length:Int)≠(LC f ((0:Nat):Int)).1*(LC f ((0:Nat):Int)).2):Np f=70:=Om fun k=>h ((Qy hw hh).1 k).1
theorem P4{f:FD}(hw:Mj f.W=true)(hh:Mj f.H=true)(h:(f.p1.length:Int)≠(LC f ((1:Nat):Int)).1*(LC f ((1:Nat):Int)).2):Np f=70:=Om fun k=>h ((Qy hw hh).1 k).2.1
theorem PX{f:FD}(hw:Mj f.W=true)(hh:Mj f.H=true)(h:(f.p2.length:Int)≠(LC f ((2:Nat):Int)).1*(LC f ((2:Nat):Int)).2):Np f=70:=Om fun k=>h ((Qy hw hh).1 k).2.2
theorem M8(f:FD)(f0 f1 f2:Value)(T_f0:Nat->Prop)(T_f1:Nat->Prop)(T_f2:Nat->Prop)(w0:World)(h_f0:L7 w0 T_f0 f0 ((f).p0))(h_f1:L7 w0 T_f1 f1 ((f).p1))(h_f2:L7 w0 T_f2 f2 ((f).p2)) :
  Calls Tryz.prog 19 #[.agg #[.int .i64 ((f).W),.int .i64 ((f).H),f0,f1,f2]] w0 fun e w'=>e = .returned (.int .i64 (Np f))/\KM (fun _=>False) w0 w':=by
 refine Lp (args:=[.agg #[iv (f.W),iv (f.H),f0,f1,f2]]) 36 Tryz.func19 rfl rfl (Nat.le_of_ble_eq_true rfl) ?_
 have g_f0:=KP.refl w0 T_f0
 have g_f1:=KP.refl w0 T_f1
 have g_f2:=KP.refl w0 T_f2
 refine KH (KF (Lt (vs:=[iv (f.W),iv (f.H),f0,f1,f2]) rfl rfl rfl rfl fun p1 w2 B4 g5 k3=>?_))
 obtain⟨aR,aS,aT⟩:=Nx k3 h_f0 h_f1 h_f2
 have ap:=(KM.refl (fun _=>False) w0).tr k3
 refine KG (iv 0) rfl rfl (KT rfl rfl rr) (KL ?_)
 have ac:=K4 (undef)
 have aa:=K4 (pt p1 0)
 refine KE (KH (KH ?_))
 rcases Bool.eq_false_or_eq_true (Mj (f.W)) with aj|aj
 ·skip
  rcases Bool.eq_false_or_eq_true (Mj (f.H)) with aq|aq
  ·skip
   refine KF (KG (pt p1 0) rfl rfl (KQ (n:=1) rfl aa Tryz.underlying29 rfl (by kernel_rfl) (by decide) rfl rr) (KG (iv (f.W)) rfl rfl (KR rfl rfl Tryz.underlying3 B4 rfl rfl rr) (Lw (R:=fun v_ w_=>v_ = .bool true/\KM (fun _=>False) w2 w_) rfl rfl (LE rfl rfl rfl (fun _ _=>by kernel_rfl) (K2 _) (Lj rfl LP) (Pp (f.W)  _   ) (fun e_ w_ h_=>⟨_,h_.1,(congrArg Value.bool aj),h_.2⟩)) ?_)))
   rintro _ aU ⟨rfl,az⟩
   obtain⟨aV,aW,aX,aA⟩:=OS az aR aS aT B4
   refine KG (.bool false) rfl rfl (LT rfl rfl rfl rr) (KG (.bool false) rfl rfl (KN rfl rfl rr) (KO (pt p1 1) 4 false 11 rfl rfl rfl rfl rfl (KQ (n:=1) rfl aa Tryz.underlying29 rfl (by kernel_rfl) (by decide) rfl rr) (KO (iv (f.H)) 4 false 11 rfl rfl rfl rfl rfl (KR rfl rfl Tryz.underlying3 aA rfl rfl rr) (Lz (R:=fun v_ w_=>v_ = .bool true/\KM (fun _=>False) aU w_) 4 false 11 rfl rfl rfl rfl rfl (LE rfl rfl rfl (fun _ _=>by kernel_rfl) (K2 _) (Lj rfl LP) (Pp (f.H)  _   ) (fun e_ w_ h_=>⟨_,h_.1,(congrArg Value.bool aq),h_.2⟩)) ?_))))
   rintro _ bN ⟨rfl,aB⟩
   obtain⟨aC,aD,aE,ar⟩:=OS aB aV aW aX aA
   refine KO (.bool false) 4 false 11 rfl rfl rfl rfl rfl (LT rfl rfl rfl rr) (KG (.bool false) rfl rfl (K6 rfl rfl rfl rr) (KL ?_))
   have aY:=K4 (.bool false)
   refine KE ?_
   refine K5 (t:=false) aY (fun e=>by cases e) (fun _=>?_)
   refine Lf (KE (KH (KH ?_)))
   have hsw:Mj f.W=true:=by assumption
   have hsh:Mj f.H=true:=by assumption
   have hws:=(Mr _).1 hsw
   have hhs:=(Mr _).1 hsh
   have hA:=Rb hsw hsh
   have har:=Oc hsw hsh
   refine KF (KG (pt p1 2) rfl rfl (KQ (n:=3) rfl aa Tryz.underlying29 rfl (by kernel_rfl) (by decide) rfl rr) (KG (.agg #[f0,f1,f2]) rfl rfl (aCP rfl rfl ar rfl rfl rfl rr) (KG (iv 0) rfl rfl (KN rfl rfl rr) (KL ?_))))
   have au:=K4 (.agg #[f0,f1,f2])
   have ak:=K4 (iv 0)
   refine KE (Lk (Ot 4 (Mb (KH (KF (KG (.bool true) rfl rfl (L2 rfl ak rfl rfl rr) (KL ?_)))))))
   have aZ:=K4 (.bool true)
   refine KE (KH ?_)
   refine K5 (t:=true) aZ (fun _=>?_) (fun e=>by cases e)
   refine Lf (KE (KH (Lk (KH (KF (KS rfl rfl rfl ak (KG f0 rfl rfl (YT 0 rfl au ak (by decide) rfl rr) (KG (iv 0) rfl rfl (KT rfl rfl rr) (KG f0 rfl rfl (KT rfl rfl rr) (KL ?_))))))))))
   have a8:=K4 (iv 0)
   have a9:=K4 (f0)
   refine KE (KH (KF (KG (.agg #[iv (f.W),iv (f.H),f0,f1,f2]) rfl rfl (KU KZ rfl aa ar rr) (KS rfl rfl rfl a8 (LV rfl rfl rfl rfl rfl (fun _ _=>by kernel_rfl) (Lj rfl (Lj rfl LP)) (Ql 0 f f0 f1 f2 T_f0 T_f1 T_f2 _ (by omega) (by omega) aC aD aE ) fun bO aF=>?_)))))
   obtain⟨av,aG,aH,aI⟩:=OS aF aC aD aE ar
   have aJ:=((ap.tr az).tr aB).tr aF
   refine KG (.tuple #[iv ((LC f 0).1),iv ((LC f 0).2)]) rfl rfl (KN rfl rfl rr) (KG (iv ((LC f 0).1)) rfl rfl (LI rfl rfl rfl rr) (KG (iv ((LC f 0).2)) rfl rfl (LI rfl rfl rfl rr) (KG (iv ((LC f 0).1)) rfl rfl (KT rfl rfl rr) (KG (iv ((LC f 0).2)) rfl rfl (KT rfl rfl rr) (KL ?_)))))
   have ba:=K4 (iv ((LC f 0).1))
   have bb:=K4 (iv ((LC f 0).2))
   refine KE (KH (KF (KS rfl rfl rfl a9 (KG (iv (((f.p0).length:Nat):Int)) rfl rfl (M0 rfl rfl rfl av rr) (KS rfl rfl rfl ba (KS rfl rfl rfl bb (KG (iv ((LC f ((0:Nat):Int)).1*(LC f ((0:Nat):Int)).2)) rfl rfl (ND rfl rfl rfl (Ma rfl ⟨Int.le_trans (by decide) (hA _).1,Int.le_trans (hA _).2.1 (by decide)⟩) rr) (KG (.bool (decide ((((f.p0).length:Nat):Int)≠((LC f ((0:Nat):Int)).1*(LC f ((0:Nat):Int)).2)))) rfl rfl (L9 rfl rfl rfl rfl rr) (KL ?_)))))))))
   have bc:=K4 (.bool (decide ((((f.p0).length:Nat):Int)≠((LC f ((0:Nat):Int)).1*(LC f ((0:Nat):Int)).2))))
   refine KE ?_
   refine K5 bc (fun af=>?_) (fun af=>?_)
   ·replace af:=of_decide_eq_true af
    refine KH (KF (KG (iv 70) rfl rfl (KT rfl rfl rr) (KL ?_)))
    have bd:=K4 (iv 70)
    refine KE (La (NT (Ln (Ln (NT (Ln ?_))))))
    exact Lq (v:=iv 70) ac rfl rfl bd ⟨(by first|rw[P5 hsw hsh (by first|assumption|(apply Decidable.byContradiction;assumption)) (by first|assumption|(apply Decidable.byContradiction;assumption)) (by first|assumption|(apply Decidable.byContradiction;assumption))]|rw[P2 hsw hsh (by assumption)]|rw[P4 hsw hsh (by assumption)]|rw[PX hsw hsh (by assumption)]|rw[Om (by rintro ⟨h1,h2,h3,h4,h5⟩;simp_all;done)]),aJ⟩
   ·replace af:=of_decide_eq_false af
    refine Lf (LA (KE (KF (KG (iv ((1:Nat):Int)) rfl rfl (LN rfl ak rfl (L5 (by omega) (by omega)) rr) (KG (iv ((1:Nat):Int)) rfl rfl (KN rfl rfl rr) (KL ?_))))))
    have am:=K4 (iv ((1:Nat):Int))
    refine KE (Mb (KH (KF (KG (.bool true) rfl rfl (L2 rfl am rfl rfl rr) (KL ?_)))))
    have be:=K4 (.bool true)
    refine KE (KH ?_)
    refine K5 (t:=true) be (fun _=>?_) (fun e=>by cases e)
    refine Lf (KE (KH (Lk (KH (KF (KS rfl rfl rfl am (KG f1 rfl rfl (YT 1 rfl au am (by decide) rfl rr) (KG (iv ((1:Nat):Int)) rfl rfl (KT rfl rfl rr) (KG f1 rfl rfl (KT rfl rfl rr) (KL ?_))))))))))
    have bf:=K4 (iv ((1:Nat):Int))
    have bg:=K4 (f1)
    refine KE (KH (KF (KG (.agg #[iv (f.W),iv (f.H),f0,f1,f2]) rfl rfl (KU KZ rfl aa aI rr) (KS rfl rfl rfl bf (LV rfl rfl rfl rfl rfl (fun _ _=>by kernel_rfl) (Lj rfl (Lj rfl LP)) (Ql ((1:Nat):Int) f f0 f1 f2 T_f0 T_f1 T_f2 _ (by omega) (by omega) av aG aH ) fun bP aK=>?_)))))
    obtain⟨bh,aL,aM,bi⟩:=OS aK av aG aH aI
    have aN:=aJ.tr aK
    refine KG (.tuple #[iv ((LC f ((1:Nat):Int)).1),iv ((LC f ((1:Nat):Int)).2)]) rfl rfl (KN rfl rfl rr) (KG (iv ((LC f ((1:Nat):Int)).1)) rfl rfl (LI rfl rfl rfl rr) (KG (iv ((LC f ((1:Nat):Int)).2)) rfl rfl (LI rfl rfl rfl rr) (KG (iv ((LC f ((1:Nat):Int)).1)) rfl rfl (KT rfl rfl rr) (KG (iv ((LC f ((1:Nat):Int)).2)) rfl rfl (KT rfl rfl rr) (KL ?_)))))
    have bj:=K4 (iv ((LC f ((1:Nat):Int)).1))
    have bl:=K4 (iv ((LC f ((1:Nat):Int)).2))
    refine KE (KH (KF (KS rfl rfl rfl bg (KG (iv (((f.p1).length:Nat):Int)) rfl rfl (M0 rfl rfl rfl aL rr) (KS rfl rfl rfl bj (KS rfl rfl rfl bl (KG (iv ((LC f ((1:Nat):Int)).1*(LC f ((1:Nat):Int)).2)) rfl rfl (ND rfl rfl rfl (Ma rfl ⟨Int.le_trans (by decide) (hA _).1,Int.le_trans (hA _).2.1 (by decide)⟩) rr) (KG (.bool (decide ((((f.p1).length:Nat):Int)≠((LC f ((1:Nat):Int)).1*(LC f ((1:Nat):Int)).2)))) rfl rfl (L9 rfl rfl rfl rfl rr) (KL ?_)))))))))
    have bm:=K4 (.bool (decide ((((f.p1).length:Nat):Int)≠((LC f ((1:Nat):Int)).1*(LC f ((1:Nat):Int)).2))))
    refine KE ?_
    refine K5 bm (fun ah=>?_) (fun ah=>?_)
    ·replace ah:=of_decide_eq_true ah
     refine KH (KF (KG (iv 70) rfl rfl (KT rfl rfl rr) (KL ?_)))
     have bn:=K4 (iv 70)
     refine KE (La (NT (Ln (Ln (NT (Ln ?_))))))
     exact Lq (v:=iv 70) ac rfl rfl bn ⟨(by first|rw[P5 hsw hsh (by first|assumption|(apply Decidable.byContradiction;assumption)) (by first|assumption|(apply Decidable.byContradiction;assumption)) (by first|assumption|(apply Decidable.byContradiction;assumption))]|rw[P2 hsw hsh (by assumption)]|rw[P4 hsw hsh (by assumption)]|rw[PX hsw hsh (by assumption)]|rw[Om (by rintro ⟨h1,h2,h3,h4,h5⟩;simp_all;done)]),aN⟩
    ·replace ah:=of_decide_eq_false ah
     refine Lf (LA (KE (KF (KG (iv ((2:Nat):Int)) rfl rfl (LN rfl am rfl (L5 (by omega) (by omega)) rr) (KG (iv ((2:Nat):Int)) rfl rfl (KN rfl rfl rr) (KL ?_))))))
     have an:=K4 (iv ((2:Nat):Int))
     refine KE (Mb (KH (KF (KG (.bool true) rfl rfl (L2 rfl an rfl rfl rr) (KL ?_)))))
     have bo:=K4 (.bool true)
     refine KE (KH ?_)
     refine K5 (t:=true) bo (fun _=>?_) (fun e=>by cases e)
     refine Lf (KE (KH (Lk (KH (KF (KS rfl rfl rfl an (KG f2 rfl rfl (YT 2 rfl au an (by decide) rfl rr) (KG (iv ((2:Nat):Int)) rfl rfl (KT rfl rfl rr) (KG f2 rfl rfl (KT rfl rfl rr) (KL ?_))))))))))
     have bp:=K4 (iv ((2:Nat):Int))
     have bq:=K4 (f2)
     refine KE (KH (KF (KG (.agg #[iv (f.W),iv (f.H),f0,f1,f2]) rfl rfl (KU KZ rfl aa bi rr) (KS rfl rfl rfl bp (LV rfl rfl rfl rfl rfl (fun _ _=>by kernel_rfl) (Lj rfl (Lj rfl LP)) (Ql ((2:Nat):Int) f f0 f1 f2 T_f0 T_f1 T_f2 _ (by omega) (by omega) bh aL aM ) fun bQ aO=>?_)))))
     have bt:=aM.all aO KJ.none
     have aP:=aN.tr aO
     refine KG (.tuple #[iv ((LC f ((2:Nat):Int)).1),iv ((LC f ((2:Nat):Int)).2)]) rfl rfl (KN rfl rfl rr) (KG (iv ((LC f ((2:Nat):Int)).1)) rfl rfl (LI rfl rfl rfl rr) (KG (iv ((LC f ((2:Nat):Int)).2)) rfl rfl (LI rfl rfl rfl rr) (KG (iv ((LC f ((2:Nat):Int)).1)) rfl rfl (KT rfl rfl rr) (KG (iv ((LC f ((2:Nat):Int)).2)) rfl rfl (KT rfl rfl rr) (KL ?_)))))
     have bu:=K4 (iv ((LC f ((2:Nat):Int)).1))
     have bv:=K4 (iv ((LC f ((2:Nat):Int)).2))
     refine KE (KH (KF (KS rfl rfl rfl bq (KG (iv (((f.p2).length:Nat):Int)) rfl rfl (M0 rfl rfl rfl bt rr) (KS rfl rfl rfl bu (KS rfl rfl rfl bv (KG (iv ((LC f ((2:Nat):Int)).1*(LC f ((2:Nat):Int)).2)) rfl rfl (ND rfl rfl rfl (Ma rfl ⟨Int.le_trans (by decide) (hA _).1,Int.le_trans (hA _).2.1 (by decide)⟩) rr) (KG (.bool (decide ((((f.p2).length:Nat):Int)≠((LC f ((2:Nat):Int)).1*(LC f ((2:Nat):Int)).2)))) rfl rfl (L9 rfl rfl rfl rfl rr) (KL ?_)))))))))
     have bz:=K4 (.bool (decide ((((f.p2).length:Nat):Int)≠((LC f ((2:Nat):Int)).1*(LC f ((2:Nat):Int)).2))))
     refine KE ?_
     refine K5 bz (fun ai=>?_) (fun ai=>?_)
     ·replace ai:=of_decide_eq_true ai
      refine KH (KF (KG (iv 70) rfl rfl (KT rfl rfl rr) (KL ?_)))
      have bA:=K4 (iv 70)
      refine KE (La (NT (Ln (Ln (NT (Ln ?_))))))
      exact Lq (v:=iv 70) ac rfl rfl bA ⟨(by first|rw[P5 hsw hsh (by first|assumption|(apply Decidable.byContradiction;assumption)) (by first|assumption|(apply Decidable.byContradiction;assumption)) (by first|assumption|(apply Decidable.byContradiction;assumption))]|rw[P2 hsw hsh (by assumption)]|rw[P4 hsw hsh (by assumption)]|rw[PX hsw hsh (by assumption)]|rw[Om (by rintro ⟨h1,h2,h3,h4,h5⟩;simp_all;done)]),aP⟩
     ·replace ai:=of_decide_eq_false ai
      refine Lf (LA (KE (KF (KG (iv ((3:Nat):Int)) rfl rfl (LN rfl an rfl (L5 (by omega) (by omega)) rr) (KG (iv ((3:Nat):Int)) rfl rfl (KN rfl rfl rr) (KL ?_))))))
      have bB:=K4 (iv ((3:Nat):Int))
      refine KE (Mb (KH (KF (KG (.bool false) rfl rfl (L2 rfl bB rfl rfl rr) (KL ?_)))))
      have bC:=K4 (.bool false)
      refine KE (KH ?_)
      refine K5 (t:=false) bC (fun e=>by cases e) (fun _=>?_)
      refine Mf (Lr (Lr (Me (KE (KH (KF (KG (iv 0) rfl rfl (KT rfl rfl rr) (KL ?_))))))))
      have bD:=K4 (iv 0)
      refine KE (La ?_)
      exact Lq (v:=iv 0) ac rfl rfl bD ⟨(by first|rw[P5 hsw hsh (by first|assumption|(apply Decidable.byContradiction;assumption)) (by first|assumption|(apply Decidable.byContradiction;assumption)) (by first|assumption|(apply Decidable.byContradiction;assumption))]|rw[P2 hsw hsh (by assumption)]|rw[P4 hsw hsh (by assumption)]|rw[PX hsw hsh (by assumption)]|rw[Om (by rintro ⟨h1,h2,h3,h4,h5⟩;simp_all;done)]),aP⟩
  ·skip
   refine KF (KG (pt p1 0) rfl rfl (KQ (n:=1) rfl aa Tryz.underlying29 rfl (by kernel_rfl) (by decide) rfl rr) (KG (iv (f.W)) rfl rfl (KR rfl rfl Tryz.underlying3 B4 rfl rfl rr) (Lw (R:=fun v_ w_=>v_ = .bool true/\KM (fun _=>False) w2 w_) rfl rfl (LE rfl rfl rfl (fun _ _=>by kernel_rfl) (K2 _) (Lj rfl LP) (Pp (f.W)  _   ) (fun e_ w_ h_=>⟨_,h_.1,(congrArg Value.bool aj),h_.2⟩)) ?_)))
   rintro _ bE ⟨rfl,aQ⟩
   have bF:=B4.all aQ id
   refine KG (.bool false) rfl rfl (LT rfl rfl rfl rr) (KG (.bool false) rfl rfl (KN rfl rfl rr) (KO (pt p1 1) 4 false 11 rfl rfl rfl rfl rfl (KQ (n:=1) rfl aa Tryz.underlying29 rfl (by kernel_rfl) (by decide) rfl rr) (KO (iv (f.H)) 4 false 11 rfl rfl rfl rfl rfl (KR rfl rfl Tryz.underlying3 bF rfl rfl rr) (Lz (R:=fun v_ w_=>v_ = .bool false/\KM (fun _=>False) bE w_) 4 false 11 rfl rfl rfl rfl rfl (LE rfl rfl rfl (fun _ _=>by kernel_rfl) (K2 _) (Lj rfl LP) (Pp (f.H)  _   ) (fun e_ w_ h_=>⟨_,h_.1,(congrArg Value.bool aq),h_.2⟩)) ?_))))
   rintro _ bR ⟨rfl,bG⟩
   refine KO (.bool true) 4 false 11 rfl rfl rfl rfl rfl (LT rfl rfl rfl rr) (KG (.bool true) rfl rfl (K6 rfl rfl rfl rr) (KL ?_))
   have bH:=K4 (.bool true)
   refine KE ?_
   refine K5 (t:=true) bH (fun _=>?_) (fun e=>by cases e)
   refine KH (KF (KG (iv 70) rfl rfl (KT rfl rfl rr) (KL ?_)))
   have bI:=K4 (iv 70)
   refine KE (La (Ln ?_))
   exact Lq (v:=iv 70) ac rfl rfl bI ⟨(by first|rw[P5 hsw hsh (by first|assumption|(apply Decidable.byContradiction;assumption)) (by first|assumption|(apply Decidable.byContradiction;assumption)) (by first|assumption|(apply Decidable.byContradiction;assumption))]|rw[P2 hsw hsh (by assumption)]|rw[P4 hsw hsh (by assumption)]|rw[PX hsw hsh (by assumption)]|rw[Om (by rintro ⟨h1,h2,h3,h4,h5⟩;simp_all;done)]),((ap.tr aQ).tr bG)⟩
 ·skip
  refine KF (KG (pt p1 0) rfl rfl (KQ (n:=1) rfl aa Tryz.underlying29 rfl (by kernel_rfl) (by decide) rfl rr) (KG (iv (f.W)) rfl rfl (KR rfl rfl Tryz.underlying3 B4 rfl rfl rr) (Lw (R:=fun v_ w_=>v_ = .bool false/\KM (fun _=>False) w2 w_) rfl rfl (LE rfl rfl rfl (fun _ _=>by kernel_rfl) (K2 _) (Lj rfl LP) (Pp (f.W)  _   ) (fun e_ w_ h_=>⟨_,h_.1,(congrArg Value.bool aj),h_.2⟩)) ?_)))
  rintro _ bS ⟨rfl,bJ⟩
  refine KG (.bool true) rfl rfl (LT rfl rfl rfl rr) (KG (.bool true) rfl rfl (KN rfl rfl rr) (KI 4 false 11 rfl rfl rfl (Or.inl rfl) rfl (KI 4 false 11 rfl rfl rfl (Or.inl rfl) rfl (KI 4 false 11 rfl rfl rfl (Or.inl rfl) rfl (KI 4 false 11 rfl rfl rfl (Or.inl rfl) rfl (KG (.bool true) rfl rfl (Ld rfl rfl rfl rr) (KL ?_)))))))
  have bK:=K4 (.bool true)
  refine KE ?_
  refine K5 (t:=true) bK (fun _=>?_) (fun e=>by cases e)
  refine KH (KF (KG (iv 70) rfl rfl (KT rfl rfl rr) (KL ?_)))
  have bL:=K4 (iv 70)
  refine KE (La (Ln ?_))
  exact Lq (v:=iv 70) ac rfl rfl bL ⟨(by first|rw[P5 hsw hsh (by first|assumption|(apply Decidable.byContradiction;assumption)) (by first|assumption|(apply Decidable.byContradiction;assumption)) (by first|assumption|(apply Decidable.byContradiction;assumption))]|rw[P2 hsw hsh (by assumption)]|rw[P4 hsw hsh (by assumption)]|rw[PX hsw hsh (by assumption)]|rw[Om (by rintro ⟨h1,h2,h3,h4,h5⟩;simp_all;done)]),(ap.tr bJ)⟩
theorem SS(v:Value)(l:List Nat)(w y:Int)(T_s:Nat->Prop)(w0:World)(hw:0<=w/\w<=64)(hy:0<=y/\y<=64)(hl:y*w+w<=(l.length:Int))(hyw:0<=y*w/\y*w<=4096)(h_s:L7 w0 T_s v (l)) :
  Calls Tryz.prog 56 #[v,.int .i64 (w),.int .i64 (y)] w0 fun e w'=>e = .returned (Ms (v) ((y*w).toNat) ((y*w+w).toNat) ((y*w+w).toNat))/\KM (fun _=>False) w0 w':=by
 refine Lp (args:=[v,iv w,iv y]) 20 Tryz.func56 rfl rfl (Nat.le_of_ble_eq_true rfl) ?_
 have g_s:=KP.refl w0 T_s
 refine KH (KF (KG (.slice none 0 0) rfl rfl (KT rfl rfl rr) (KL ?_)))
 have s3:=K4 (v)
 have s4:=K4 (iv w)
 have s5:=K4 (iv y)
 have s6:=K4 (undef)
 refine KE (KH (KF (KS rfl rfl rfl s3 (KS rfl rfl rfl s5 (KS rfl rfl rfl s4 (KG (iv (y*w)) rfl rfl (ND rfl rfl rfl (Ma rfl (by omega)) rr) (KS rfl rfl rfl s5 (KG (iv (y+1)) rfl rfl (LN rfl rfl rfl (Ma rfl (by omega)) rr) (KS rfl rfl rfl s4 (KG (iv (y*w+w)) rfl rfl (ND rfl rfl rfl (Ma (by rw[Int.add_mul,Int.one_mul]) (by omega)) rr) (KS rfl rfl rfl s5 ?_)))))))))))
 refine KG (iv (y+1)) rfl rfl (LN rfl rfl rfl (Ma rfl (by omega)) rr) (KS rfl rfl rfl s4 (KG (iv (y*w+w)) rfl rfl (ND rfl rfl rfl (Ma (by rw[Int.add_mul,Int.one_mul]) (by omega)) rr) (KG (Ms v ((y*w).toNat) ((y*w+w).toNat) ((y*w+w).toNat)) rfl rfl (aCm ((y*w).toNat) ((y*w+w).toNat) ((y*w+w).toNat) rfl rfl rfl rfl rfl (by omega) (by omega) (by omega) h_s (by omega) (by omega) (by omega) rr) (KG (Ms v ((y*w).toNat) ((y*w+w).toNat) ((y*w+w).toNat)) rfl rfl (KT rfl rfl rr) (KL ?_)))))
 have af:=K4 (Ms v ((y*w).toNat) ((y*w+w).toNat) ((y*w+w).toNat))
 refine KE (La ?_)
 exact Lq (v:=Ms v ((y*w).toNat) ((y*w+w).toNat) ((y*w+w).toNat)) s6 rfl rfl af ⟨rfl,(KM.refl (fun _=>False) w0)⟩
def Rw(l:List Nat)(w h x y:Int):Int:=((l.getD ((max 0 (min y (h-1))*w).toNat+(max 0 (min x (w-1))).toNat) 0:Nat):Int)
theorem SQ(v:Value)(l:List Nat)(w h x y:Int)(T_s:Nat->Prop)(w0:World)(hw:0<w/\w<=64)(hh:0<h/\h<=64)(hl:max 0 (min y (h-1))*w+w<=(l.length:Int))(hyw:0<=max 0 (min y (h-1))*w/\max 0 (min y (h-1))*w<=4096)(h_s:L7 w0 T_s v (l)) :
  Calls Tryz.prog 169 #[v,.int .i64 (w),.int .i64 (h),.int .i64 (x),.int .i64 (y)] w0 fun e w'=>e = .returned (.int .i64 (Rw l w h x y))/\KM (fun _=>False) w0 w':=by
 refine Lp (args:=[v,iv w,iv h,iv x,iv y]) 25 Tryz.func169 rfl rfl (Nat.le_of_ble_eq_true rfl) ?_
 have g_s:=KP.refl w0 T_s
 refine KH (KF (KG (iv 0) rfl rfl (KT rfl rfl rr) (KL ?_)))
 have s3:=K4 (v)
 have s4:=K4 (iv w)
 have s5:=K4 (iv h)
 have s6:=K4 (iv x)
 have s7:=K4 (iv y)
 have s8:=K4 (undef)
 refine KE (KH (KF (KS rfl rfl rfl s3 (KS rfl rfl rfl s4 (KS rfl rfl rfl s7 (KS rfl rfl rfl s5 (KG (iv (h-1)) rfl rfl (UZ rfl rfl rfl (Ma rfl (by omega)) rr) (LV rfl rfl rfl rfl rfl (fun _ _=>by kernel_rfl) (Lj rfl (Lj rfl (Lj rfl LP))) (NV y 0 (h-1)  _   ) fun w9 ac=>?_))))))))
 have ae:=h_s.all ac KJ.none
 refine LV rfl rfl rfl rfl rfl (fun _ _=>by kernel_rfl) (Lj rfl (Lj rfl (Lj rfl LP))) (SS v l w (max 0 (min y (h-1))) T_s _ (by omega) (by omega) (by exact hl) (by exact hyw) ae ) fun ao af=>?_
 have ap:=ae.all af KJ.none
 refine KS rfl rfl rfl s6 (KS rfl rfl rfl s4 (KG (iv (w-1)) rfl rfl (UZ rfl rfl rfl (Ma rfl (by omega)) rr) (Lw (R:=fun v_ w_=>v_=iv (((max 0 (min x (w-1))).toNat:Nat):Int)/\KM (fun _=>False) ao w_) rfl rfl (LE rfl rfl rfl (fun _ _=>by kernel_rfl) (K2 _) (Lj rfl (Lj rfl (Lj rfl LP))) (NV x 0 (w-1)  _   ) (fun e_ w_ h_=>⟨_,h_.1,congrArg (Value.int .i64) (by omega),h_.2⟩)) ?_)))
 rintro _ au ⟨rfl,ah⟩
 have aa:=ap.all ah KJ.none
 refine KG (Ns v (((max 0 (min y (h-1)))*w).toNat+(max 0 (min x (w-1))).toNat)) rfl rfl (aDb ((max 0 (min x (w-1))).toNat) rfl rfl rfl (by omega) aa (by omega) (by have hc_:=aa.cap;omega) (by omega) (by have hc_:=aa.cap;omega) (by omega) rr) ?_
 have av:=Uy aa.lt256 (((max 0 (min y (h-1)))*w).toNat+(max 0 (min x (w-1))).toNat)
 refine KG (.int .u8 ((l.getD (((max 0 (min y (h-1)))*w).toNat+(max 0 (min x (w-1))).toNat) 0:Nat):Int)) rfl rfl (aDi rfl rfl aa (by omega) rr) (KG (iv ((l.getD (((max 0 (min y (h-1)))*w).toNat+(max 0 (min x (w-1))).toNat) 0:Nat):Int)) rfl rfl (Qw rfl rfl Tryz.underlying5 Tryz.underlying3 (Ma rfl (by omega)) rr) (KG (iv ((l.getD (((max 0 (min y (h-1)))*w).toNat+(max 0 (min x (w-1))).toNat) 0:Nat):Int)) rfl rfl (KT rfl rfl rr) (KL ?_)))
 have aq:=K4 (iv ((l.getD (((max 0 (min y (h-1)))*w).toNat+(max 0 (min x (w-1))).toNat) 0:Nat):Int))
 refine KE (La ?_)
 exact Lq (v:=iv ((l.getD (((max 0 (min y (h-1)))*w).toNat+(max 0 (min x (w-1))).toNat) 0:Nat):Int)) s8 rfl rfl aq ⟨rfl,((((KM.refl (fun _=>False) w0).tr ac).tr af).tr ah)⟩
theorem ZC(n:Int)(w0:World) :
  Calls Tryz.prog 77 #[.int .i64 (n)] w0 fun e w'=>e = .returned (.int .i64 (LK n))/\KM (fun _=>False) w0 w':=by
 refine Lp (args:=[iv n]) 5 Tryz.func77 rfl rfl (Nat.le_of_ble_eq_true rfl) ?_
 refine KH (KF (KG (iv 0) rfl rfl (KT rfl rfl rr) (KL ?_)))
 have s3:=K4 (iv n)
 have s4:=K4 (undef)
 refine KE (KH (KF (KS rfl rfl rfl s3 (Lw (R:=fun v_ w_=>v_=iv (LK n)/\KM (fun _=>False) w0 w_) rfl rfl (LE rfl rfl rfl (fun _ _=>by kernel_rfl) (K2 _) (Lj rfl (Lj rfl (Lj rfl LP))) (NV n (-64) 128  _   ) (fun e_ w_ h_=>⟨_,h_.1,congrArg (Value.int .i64) (by unfold LK;omega),h_.2⟩)) ?_))))
 rintro _ w5 ⟨rfl,k6⟩
 refine KG (iv (LK n)) rfl rfl (KT rfl rfl rr) (KL ?_)
 have ae:=K4 (iv (LK n))
 refine KE (La ?_)
 exact Lq (v:=iv (LK n)) s4 rfl rfl ae ⟨rfl,((KM.refl (fun _=>False) w0).tr k6)⟩
theorem Yv{f:FD}{p:Int}(y:Int)(h:(Lc f p).1≠0):max 0 (min y ((Lc f p).2-1))*(Lc f p).1+(Lc f p).1<=((f.pl p).length:Int)/\0<=max 0 (min y ((Lc f p).2-1))*(Lc f p).1/\max 0 (min y ((Lc f p).2-1))*(Lc f p).1<=4096:=by
 have h2:=Uo (Lc f p).1 y h
 have hb:=Nm f p
 have hs:=Oh (NA h)
 rw[show max 0 (min y ((Lc f p).2-1))=min (max y 0) ((Lc f p).2-1) by omega]
 unfold So at h2
 omega
theorem UQ{f:FD}{p:Int}(x y:Int)(h:(Lc f p).1≠0):Rw (f.pl p) (Lc f p).1 (Lc f p).2 x y=Nt f p x y:=by
 have hc:=Uo x y h
 have hb:=Nm f p
 have hs:=Oh (NA h)
 rw[Yb x y h]
 unfold Rw
 have e:(So f p x y).toNat=(max 0 (min y ((Lc f p).2-1))*(Lc f p).1).toNat+(max 0 (min x ((Lc f p).1-1))).toNat:=by
  rw[show max 0 (min y ((Lc f p).2-1))=min (max y 0) ((Lc f p).2-1) by omega,show max 0 (min x ((Lc f p).1-1))=min (max x 0) ((Lc f p).1-1) by omega]
  unfold So at *
  rw[Int.toNat_add (by omega) (by omega)]
 rw[e]
theorem Ti(p:Int)(f:FD)(f0 f1 f2:Value)(T_f0:Nat->Prop)(T_f1:Nat->Prop)(T_f2:Nat->Prop)(w0:World)(h_f0:L7 w0 T_f0 f0 ((f).p0))(h_f1:L7 w0 T_f1 f1 ((f).p1))(h_f2:L7 w0 T_f2 f2 ((f).p2)) :
  Calls Tryz.prog 55 #[.agg #[.int .i64 ((f).W),.int .i64 ((f).H),f0,f1,f2],.int .i64 (p)] w0 fun e w'=>e = .returned (.tuple #[.int .i64 ((Lc f p).1),.int .i64 ((Lc f p).2)])/\KM (fun _=>False) w0 w':=by
 refine Lp (args:=[.agg #[iv (f.W),iv (f.H),f0,f1,f2],iv p]) 22 Tryz.func55 rfl rfl (Nat.le_of_ble_eq_true rfl) ?_
 have g_f0:=KP.refl w0 T_f0
 have g_f1:=KP.refl w0 T_f1
 have g_f2:=KP.refl w0 T_f2
 refine KH (KF (Lt (vs:=[iv (f.W),iv (f.H),f0,f1,f2]) rfl rfl rfl rfl fun p1 w2 B4 g5 k3=>?_))
 obtain⟨aj,ak,am⟩:=Nx k3 h_f0 h_f1 h_f2
 have ae:=(KM.refl (fun _=>False) w0).tr k3
 refine KG (iv 0) rfl rfl (KT rfl rfl rr) (KG (iv 0) rfl rfl (KT rfl rfl rr) (KL ?_))
 have aa:=K4 (iv p)
 have ac:=K4 (undef)
 have an:=K4 (pt p1 0)
 refine KE (KH (KH ?_))
 by_cases af:p<0
 ·skip
  refine KF (KS rfl rfl rfl aa (KG (.bool true) rfl rfl (L2 rfl rfl rfl (decide_eq_true af) rr) (KG (.bool true) rfl rfl (KN rfl rfl rr) (KI 2 false 8 rfl rfl rfl (Or.inl rfl) rfl (KI 2 false 8 rfl rfl rfl (Or.inl rfl) rfl (KG (.bool true) rfl rfl (Ld rfl rfl rfl rr) (KG (.bool true) rfl rfl (KN rfl rfl rr) (KI 6 false 12 rfl rfl rfl (Or.inl rfl) rfl (KI 6 false 12 rfl rfl rfl (Or.inl rfl) rfl (KI 6 false 12 rfl rfl rfl (Or.inl rfl) rfl (KG (.bool true) rfl rfl (Ld rfl rfl rfl rr) ?_)))))))))))
  refine KL ?_
  have av:=K4 (.bool true)
  refine KE ?_
  refine K5 (t:=true) av (fun _=>?_) (fun e=>by cases e)
  refine KH (KF (KG (iv 0) rfl rfl (KT rfl rfl rr) (KG (iv 0) rfl rfl (KT rfl rfl rr) (KL ?_))))
  have aw:=K4 (iv 0)
  have az:=K4 (iv 0)
  refine KE (La (Ln ?_))
  exact L4 ac rfl (Lu (v:=iv 0) rfl aw) (Lu (v:=iv 0) rfl az) ⟨(by first|rw[he]|rw[Pu (by rintro ⟨h1,h2,h3⟩;first|exact absurd ((Mw f).2 h1) (by assumption)|omega)]),ae⟩
 ·skip
  by_cases ao:3<=p
  ·skip
   refine KF (KS rfl rfl rfl aa (KG (.bool false) rfl rfl (L2 rfl rfl rfl (decide_eq_false af) rr) (KG (.bool false) rfl rfl (KN rfl rfl rr) (KO (iv p) 2 false 8 rfl rfl rfl rfl rfl (KN rfl aa rr) (KO (.bool true) 2 false 8 rfl rfl rfl rfl rfl (Nh rfl rfl rfl (decide_eq_true ao) rr) (KG (.bool true) rfl rfl (K6 rfl rfl rfl rr) (KG (.bool true) rfl rfl (KN rfl rfl rr) (KI 6 false 12 rfl rfl rfl (Or.inl rfl) rfl (KI 6 false 12 rfl rfl rfl (Or.inl rfl) rfl (KI 6 false 12 rfl rfl rfl (Or.inl rfl) rfl (KG (.bool true) rfl rfl (Ld rfl rfl rfl rr) ?_)))))))))))
   refine KL ?_
   have aA:=K4 (.bool true)
   refine KE ?_
   refine K5 (t:=true) aA (fun _=>?_) (fun e=>by cases e)
   refine KH (KF (KG (iv 0) rfl rfl (KT rfl rfl rr) (KG (iv 0) rfl rfl (KT rfl rfl rr) (KL ?_))))
   have aB:=K4 (iv 0)
   have aC:=K4 (iv 0)
   refine KE (La (Ln ?_))
   exact L4 ac rfl (Lu (v:=iv 0) rfl aB) (Lu (v:=iv 0) rfl aC) ⟨(by first|rw[he]|rw[Pu (by rintro ⟨h1,h2,h3⟩;first|exact absurd ((Mw f).2 h1) (by assumption)|omega)]),ae⟩
  ·skip
   refine KF (KS rfl rfl rfl aa (KG (.bool false) rfl rfl (L2 rfl rfl rfl (decide_eq_false af) rr) (KG (.bool false) rfl rfl (KN rfl rfl rr) (KO (iv p) 2 false 8 rfl rfl rfl rfl rfl (KN rfl aa rr) (KO (.bool false) 2 false 8 rfl rfl rfl rfl rfl (Nh rfl rfl rfl (decide_eq_false ao) rr) (KG (.bool false) rfl rfl (K6 rfl rfl rfl rr) (KG (.bool false) rfl rfl (KN rfl rfl rr) (KO (.agg #[iv (f.W),iv (f.H),f0,f1,f2]) 6 false 12 rfl rfl rfl rfl rfl (KU KZ rfl an B4 rr) (Lz (R:=fun v_ w_=>v_=iv (Np f)/\KM (fun _=>False) w2 w_) 6 false 12 rfl rfl rfl rfl rfl (LE rfl rfl rfl (fun _ _=>by kernel_rfl) (K2 _) (Lj rfl LP) (M8 f f0 f1 f2 T_f0 T_f1 T_f2 _  aj ak am ) (fun e_ w_ h_=>⟨_,h_.1,rfl,h_.2⟩)) ?_)))))))))
   rintro _ aO ⟨rfl,ap⟩
   obtain⟨aD,aE,aF,aG⟩:=OS ap aj ak am B4
   have aq:=ae.tr ap
   refine KO (.bool (decide ((Np f)≠0))) 6 false 12 rfl rfl rfl rfl rfl (L9 rfl rfl rfl rfl rr) (KG (.bool (decide ((Np f)≠0))) rfl rfl (K6 rfl rfl rfl rr) (KL ?_))
   have aH:=K4 (.bool (decide ((Np f)≠0)))
   refine KE ?_
   refine K5 aH (fun ab=>?_) (fun ab=>?_)
   ·replace ab:=of_decide_eq_true ab
    refine KH (KF (KG (iv 0) rfl rfl (KT rfl rfl rr) (KG (iv 0) rfl rfl (KT rfl rfl rr) (KL ?_))))
    have aI:=K4 (iv 0)
    have aJ:=K4 (iv 0)
    refine KE (La (Ln ?_))
    exact L4 ac rfl (Lu (v:=iv 0) rfl aI) (Lu (v:=iv 0) rfl aJ) ⟨(by first|rw[he]|rw[Pu (by rintro ⟨h1,h2,h3⟩;first|exact absurd ((Mw f).2 h1) (by assumption)|omega)]),aq⟩
   ·replace ab:=of_decide_eq_false ab
    refine Lf (KE (KH ?_))
    have hok:=(Mw f).1 (by first|assumption|(apply Decidable.byContradiction;assumption))
    have hws:=(Mr _).1 hok.1
    have hhs:=(Mr _).1 hok.2.1
    have he:Lc f p=LC f p:=by unfold Lc LC;rw[if_pos ⟨hok,by omega,by omega⟩]
    refine KF (KG (.agg #[iv (f.W),iv (f.H),f0,f1,f2]) rfl rfl (KU KZ rfl an aG rr) (KS rfl rfl rfl aa (LV rfl rfl rfl rfl rfl (fun _ _=>by kernel_rfl) (Lj rfl (Lj rfl LP)) (Ql p f f0 f1 f2 T_f0 T_f1 T_f2 _ (by omega) (by omega) aD aE aF ) fun aP aK=>?_)))
    refine KG (iv ((LC f p).1)) rfl rfl (LI rfl rfl rfl rr) (KG (iv ((LC f p).2)) rfl rfl (LI rfl rfl rfl rr) (KG (iv ((LC f p).1)) rfl rfl (KT rfl rfl rr) (KG (iv ((LC f p).2)) rfl rfl (KT rfl rfl rr) (KL ?_))))
    have aL:=K4 (iv ((LC f p).1))
    have aM:=K4 (iv ((LC f p).2))
    refine KE (La ?_)
    exact L4 ac rfl (Lu (v:=iv ((LC f p).1)) rfl aL) (Lu (v:=iv ((LC f p).2)) rfl aM) ⟨(by first|rw[he]|rw[Pu (by rintro ⟨h1,h2,h3⟩;first|exact absurd ((Mw f).2 h1) (by assumption)|omega)]),(aq.tr aK)⟩
theorem Tb(p x y:Int)(f:FD)(f0 f1 f2:Value)(T_f0:Nat->Prop)(T_f1:Nat->Prop)(T_f2:Nat->Prop)(w0:World)(h_f0:L7 w0 T_f0 f0 ((f).p0))(h_f1:L7 w0 T_f1 f1 ((f).p1))(h_f2:L7 w0 T_f2 f2 ((f).p2)) :
  Calls Tryz.prog 157 #[.agg #[.int .i64 ((f).W),.int .i64 ((f).H),f0,f1,f2],.int .i64 (p),.int .i64 (x),.int .i64 (y)] w0 fun e w'=>e = .returned (.int .i64 (Nt f p x y))/\KM (fun _=>False) w0 w':=by
 refine Lp (args:=[.agg #[iv (f.W),iv (f.H),f0,f1,f2],iv p,iv x,iv y]) 28 Tryz.func157 rfl rfl (Nat.le_of_ble_eq_true rfl) ?_
 have g_f0:=KP.refl w0 T_f0
 have g_f1:=KP.refl w0 T_f1
 have g_f2:=KP.refl w0 T_f2
 refine KH (KF (Lt (vs:=[iv (f.W),iv (f.H),f0,f1,f2]) rfl rfl rfl rfl fun p1 w2 B4 g5 k3=>?_))
 obtain⟨aq,ar,au⟩:=Nx k3 h_f0 h_f1 h_f2
 refine KG (iv 0) rfl rfl (KT rfl rfl rr) (KL ?_)
 have ac:=K4 (iv p)
 have aj:=K4 (iv x)
 have ak:=K4 (iv y)
 have ae:=K4 (undef)
 have af:=K4 (pt p1 0)
 refine KE (KH (KF (KG (.agg #[iv (f.W),iv (f.H),f0,f1,f2]) rfl rfl (KU KZ rfl af B4 rr) (KS rfl rfl rfl ac (LV rfl rfl rfl rfl rfl (fun _ _=>by kernel_rfl) (Lj rfl (Lj rfl LP)) (Ti p f f0 f1 f2 T_f0 T_f1 T_f2 _  aq ar au ) fun aL av=>?_)))))
 obtain⟨aw,az,aA,am⟩:=OS av aq ar au B4
 have ah:=((KM.refl (fun _=>False) w0).tr k3).tr av
 refine KG (.tuple #[iv ((Lc f p).1),iv ((Lc f p).2)]) rfl rfl (KN rfl rfl rr) (KG (iv ((Lc f p).1)) rfl rfl (LI rfl rfl rfl rr) (KG (iv ((Lc f p).2)) rfl rfl (LI rfl rfl rfl rr) (KG (iv ((Lc f p).1)) rfl rfl (KT rfl rfl rr) (KG (iv ((Lc f p).2)) rfl rfl (KT rfl rfl rr) (KL ?_)))))
 have ai:=K4 (iv ((Lc f p).1))
 have an:=K4 (iv ((Lc f p).2))
 refine KE (KH (KH (KF (KS rfl rfl rfl ai (KG (.bool (decide (((Lc f p).1)=0))) rfl rfl (LZ rfl rfl rfl rfl rr) (KL ?_))))))
 have aB:=K4 (.bool (decide (((Lc f p).1)=0)))
 refine KE ?_
 refine K5 aB (fun ab=>?_) (fun ab=>?_)
 ·replace ab:=of_decide_eq_true ab
  refine KH (KF (KG (iv 0) rfl rfl (KT rfl rfl rr) (KL ?_)))
  have aC:=K4 (iv 0)
  refine KE (La (Ln ?_))
  exact Lq (v:=iv 0) ae rfl rfl aC ⟨(by first|rw[RF x y (by assumption)]|(rw[← UQ x y hsz];rfl)),ah⟩
 ·replace ab:=of_decide_eq_false ab
  refine Lf (KE (KH ?_))
  rcases (show p=0\/p=1\/p=2 from Sy (f:=f) (by assumption)) with rfl|rfl|rfl
  ·skip
   have hsz:(Lc f 0).1≠0:=by assumption
   have hb:=Nm f 0
   have hsp:=Oh (NA hsz)
   have hr:=Yv y hsz
   refine KF (KS rfl rfl rfl ac (KG (pt p1 2) rfl rfl (KQ (n:=3) rfl af Tryz.underlying29 rfl (by kernel_rfl) (by decide) rfl rr) (KG (pt p1 2) rfl rfl (LQ 0 (s:=1) rfl rfl rfl (by omega) Tryz.underlying27 (by omega) (by kernel_rfl) (by omega) rr) (KG f0 rfl rfl (KR rfl rfl Tryz.underlying26 am rfl rfl rr) (KS rfl rfl rfl ai (KS rfl rfl rfl an (KS rfl rfl rfl aj (KS rfl rfl rfl ak (LV rfl rfl rfl rfl rfl (fun _ _=>by kernel_rfl) (Lj rfl (Lj rfl (Lj rfl (Lj rfl (Lj rfl LP))))) (SQ f0 (f.p0) ((Lc f 0).1) ((Lc f 0).2) x y T_f0 _ (by omega) (by omega) (by exact hr.1) (by exact hr.2) aw ) fun aM aD=>?_)))))))))
   refine KG (iv (Rw (f.p0) ((Lc f 0).1) ((Lc f 0).2) x y)) rfl rfl (KT rfl rfl rr) (KL ?_)
   have aE:=K4 (iv (Rw (f.p0) ((Lc f 0).1) ((Lc f 0).2) x y))
   refine KE (La ?_)
   exact Lq (v:=iv (Rw (f.p0) ((Lc f 0).1) ((Lc f 0).2) x y)) ae rfl rfl aE ⟨(by first|rw[RF x y (by assumption)]|(rw[← UQ x y hsz];rfl)),(ah.tr aD)⟩
  ·skip
   have hsz:(Lc f 1).1≠0:=by assumption
   have hb:=Nm f 1
   have hsp:=Oh (NA hsz)
   have hr:=Yv y hsz
   refine KF (KS rfl rfl rfl ac (KG (pt p1 2) rfl rfl (KQ (n:=3) rfl af Tryz.underlying29 rfl (by kernel_rfl) (by decide) rfl rr) (KG (pt p1 3) rfl rfl (LQ 1 (s:=1) rfl rfl rfl (by omega) Tryz.underlying27 (by omega) (by kernel_rfl) (by omega) rr) (KG f1 rfl rfl (KR rfl rfl Tryz.underlying26 am rfl rfl rr) (KS rfl rfl rfl ai (KS rfl rfl rfl an (KS rfl rfl rfl aj (KS rfl rfl rfl ak (LV rfl rfl rfl rfl rfl (fun _ _=>by kernel_rfl) (Lj rfl (Lj rfl (Lj rfl (Lj rfl (Lj rfl LP))))) (SQ f1 (f.p1) ((Lc f 1).1) ((Lc f 1).2) x y T_f1 _ (by omega) (by omega) (by exact hr.1) (by exact hr.2) az ) fun aN aF=>?_)))))))))
   refine KG (iv (Rw (f.p1) ((Lc f 1).1) ((Lc f 1).2) x y)) rfl rfl (KT rfl rfl rr) (KL ?_)
   have aG:=K4 (iv (Rw (f.p1) ((Lc f 1).1) ((Lc f 1).2) x y))
   refine KE (La ?_)
   exact Lq (v:=iv (Rw (f.p1) ((Lc f 1).1) ((Lc f 1).2) x y)) ae rfl rfl aG ⟨(by first|rw[RF x y (by assumption)]|(rw[← UQ x y hsz];rfl)),(ah.tr aF)⟩
  ·skip
   have hsz:(Lc f 2).1≠0:=by assumption
   have hb:=Nm f 2
   have hsp:=Oh (NA hsz)
   have hr:=Yv y hsz
   refine KF (KS rfl rfl rfl ac (KG (pt p1 2) rfl rfl (KQ (n:=3) rfl af Tryz.underlying29 rfl (by kernel_rfl) (by decide) rfl rr) (KG (pt p1 4) rfl rfl (LQ 2 (s:=1) rfl rfl rfl (by omega) Tryz.underlying27 (by omega) (by kernel_rfl) (by omega) rr) (KG f2 rfl rfl (KR rfl rfl Tryz.underlying26 am rfl rfl rr) (KS rfl rfl rfl ai (KS rfl rfl rfl an (KS rfl rfl rfl aj (KS rfl rfl rfl ak (LV rfl rfl rfl rfl rfl (fun _ _=>by kernel_rfl) (Lj rfl (Lj rfl (Lj rfl (Lj rfl (Lj rfl LP))))) (SQ f2 (f.p2) ((Lc f 2).1) ((Lc f 2).2) x y T_f2 _ (by omega) (by omega) (by exact hr.1) (by exact hr.2) aA ) fun aO aH=>?_)))))))))
   refine KG (iv (Rw (f.p2) ((Lc f 2).1) ((Lc f 2).2) x y)) rfl rfl (KT rfl rfl rr) (KL ?_)
   have aI:=K4 (iv (Rw (f.p2) ((Lc f 2).1) ((Lc f 2).2) x y))
   refine KE (La ?_)
   exact Lq (v:=iv (Rw (f.p2) ((Lc f 2).1) ((Lc f 2).2) x y)) ae rfl rfl aI ⟨(by first|rw[RF x y (by assumption)]|(rw[← UQ x y hsz];rfl)),(ah.tr aH)⟩
def Qk(a b:Nat):Nat->Nat
 | 0=>a
 | _=>b
theorem Q9(a b k:Nat):Qk a b k=a\/Qk a b k=b:=by cases k <;> simp[Qk]
theorem Mk{w h:Int}(s:Nat)(hw:Mj w=true)(hh:Mj h=true):(LG w h s).W=w/\(LG w h s).H=h:=by rw[Q2 s hw hh];exact⟨rfl,rfl⟩
theorem Y4{f:FD}(h:QO f):(LG f.W f.H 0).p0.length=f.p0.length/\(LG f.W f.H 0).p1.length=f.p1.length/\(LG f.W f.H 0).p2.length=f.p2.length:=by
 have h3:=h.2.2
 have hw:=YN 0 h.1 h.2.1
 have h4:=hw.2.2
 have e:=Mk 0 h.1 h.2.1
 rw[e.1,e.2] at h4
 omega
theorem XG(w h:Int)(w0:World)(hsw:Mj w=true)(hsh:Mj h=true) :
  Calls Tryz.prog 50 #[.int .i64 (w),.int .i64 (h)] w0 fun e w'=>∃ (v1:Value) (T1:Nat->Prop) (v2:Value) (T2:Nat->Prop) (v3:Value) (T3:Nat->Prop),e = .returned (.agg #[.int .i64 ((LG w h 0).W),.int .i64 ((LG w h 0).H),v1,v2,v3])/\KM (fun _=>False) w0 w'/\(L1 w' T1 v1 ((LG w h 0).p0)/\KP w0 L8 T1)/\(L1 w' T2 v2 ((LG w h 0).p1)/\KP w0 L8 T2)/\(L1 w' T3 v3 ((LG w h 0).p2)/\KP w0 L8 T3)/\KJ T1 T2/\KJ T1 T3/\KJ T2 T3:=by
 refine Lp (args:=[iv w,iv h]) 30 Tryz.func50 rfl rfl (Nat.le_of_ble_eq_true rfl) ?_
 have K0:=KM.refl (fun _=>False) w0
 have hws:=(Mr _).1 hsw
 have hhs:=(Mr _).1 hsh
 have har:=Oc hsw hsh
 obtain⟨n0,hn0⟩:∃ n:Nat,(n:Int)=w*h:=⟨(w*h).toNat,by omega⟩
 obtain⟨n1,hn1⟩:∃ n:Nat,(n:Int)=Int.tdiv w 2*Int.tdiv h 2:=⟨(Int.tdiv w 2*Int.tdiv h 2).toNat,Int.toNat_of_nonneg (Int.mul_nonneg (by rw[OX (by omega)];omega) (by rw[OX (by omega)];omega))⟩
 have hq:(n1:Int)=w*h/4:=by rw[hn1];exact Wz hws.2.2 hhs.2.2 (by omega) (by omega)
 have hF:LG w h 0=⟨w,h,List.replicate n0 0,List.replicate n1 0,List.replicate n1 0⟩:=by rw[Q2 0 hsw hsh,← hq,← hn0,Int.toNat_natCast,Int.toNat_natCast]
 refine KH (KF (LF (n:=5) (vs:=[iv 0,iv 0,.slice none 0 0,.slice none 0 0,.slice none 0 0]) rfl rfl rfl (by kernel_rfl) fun p1 w2 B4 g5 k3=>?_))
 have K7:=K0.tr k3
 refine KL ?_
 have bA:=K4 (iv w)
 have bB:=K4 (iv h)
 have bC:=K4 (undef)
 have aG:=K4 (pt p1 0)
 refine KE (KH (KF (KS rfl rfl rfl bA (KS rfl rfl rfl bB (KG (.agg #[iv w,iv h,.slice none 0 0,.slice none 0 0,.slice none 0 0]) rfl rfl (LW (l':=[(0,iv w),(1,iv h)]) (cells:=#[iv w,iv h,.slice none 0 0,.slice none 0 0,.slice none 0 0]) rfl (ST rfl (ST rfl QZ)) (by kernel_rfl) rfl rr) (LF (n:=5) (vs:=[iv 0,iv 0,.slice none 0 0,.slice none 0 0,.slice none 0 0]) rfl rfl rfl (by kernel_rfl) fun ae cz bD aH aI=>?_))))))
 have am:=KP.new K7 aH
 have an:=KJ.new aH (LR B4.lt)
 have bE:=B4.all aI id
 refine Lh (us:=[iv w,iv h,.slice none 0 0,.slice none 0 0,.slice none 0 0]) KZ rfl rfl rfl rfl rfl bD rfl (KX rfl (KX rfl (KX rfl (KX rfl (KX rfl MC))))) fun cA aJ aK=>?_
 have bF:=bE.all aK (an.symm p1 rfl)
 refine KL ?_
 have ah:=K4 (pt ae 0)
 refine KE (KH (KH (KF (KG (iv 0) rfl rfl (KN rfl rfl rr) (KL ?_)))))
 have au:=K4 (iv 0)
 refine KE (Lk (Ot 4 (Mb (KH (KF (KG (.bool true) rfl rfl (L2 rfl au rfl rfl rr) (KL ?_)))))))
 have bG:=K4 (.bool true)
 refine KE (KH ?_)
 refine K5 (t:=true) bG (fun _=>?_) (fun e=>by cases e)
 refine Lf (KE (KH (Lk (KH (KF (KS rfl rfl rfl au (KG (iv 0) rfl rfl (KT rfl rfl rr) (KL ?_))))))))
 have aL:=K4 (iv 0)
 refine KE (KH (KF (KG (.agg #[iv w,iv h,.slice none 0 0,.slice none 0 0,.slice none 0 0]) rfl rfl (KU KZ rfl ah aJ rr) (KS rfl rfl rfl aL (LV rfl rfl rfl rfl rfl (fun _ _=>by kernel_rfl) (Lj rfl (Lj rfl LP)) (Ql 0 (FD.mk w h ([]) ([]) ([])) (.slice none 0 0) (.slice none 0 0) (.slice none 0 0) L8 L8 L8 _ (by dsimp only;omega) (by dsimp only;omega) (L7.nil _) (L7.nil _) (L7.nil _) ) fun cB aM=>?_)))))
 obtain⟨aN,aO⟩:=NL aM bF aJ
 have aP:=((K7.tr aI).trans aK (KP.ok (S:=fun _=>False) am K3)).tr aM
 refine KG (.tuple #[iv ((LC (FD.mk w h ([]) ([]) ([])) 0).1),iv ((LC (FD.mk w h ([]) ([]) ([])) 0).2)]) rfl rfl (KN rfl rfl rr) (KG (iv ((LC (FD.mk w h ([]) ([]) ([])) 0).1)) rfl rfl (LI rfl rfl rfl rr) (KG (iv ((LC (FD.mk w h ([]) ([]) ([])) 0).2)) rfl rfl (LI rfl rfl rfl rr) (KG (iv ((LC (FD.mk w h ([]) ([]) ([])) 0).1)) rfl rfl (KT rfl rfl rr) (KG (iv ((LC (FD.mk w h ([]) ([]) ([])) 0).2)) rfl rfl (KT rfl rfl rr) (KL ?_)))))
 have bH:=K4 (iv ((LC (FD.mk w h ([]) ([]) ([])) 0).1))
 have bI:=K4 (iv ((LC (FD.mk w h ([]) ([]) ([])) 0).2))
 refine KE ?_
 have hpq:=Q9 n0 n1 0
 refine KF (KS rfl rfl rfl aL (KS rfl rfl rfl bH (KS rfl rfl rfl bI (KG (iv (((Qk n0 n1 0):Nat):Int)) rfl rfl (ND rfl rfl rfl (by first|exact(Ma rfl (by show _<=w*h/\w*h<=_;omega)).trans (hn0.symm)|exact(Ma rfl (by show _<=Int.tdiv w 2*Int.tdiv h 2/\Int.tdiv w 2*Int.tdiv h 2<=_;omega)).trans hn1.symm) rr) (VH (n:=(Qk n0 n1 0)) rfl rfl rfl rfl rfl (by omega) (by omega) (by omega) fun ac cC av aQ aR aS=>?_)))))
 obtain⟨bJ,aw⟩:=TI aR aN aO
 obtain⟨bK,bL⟩:=NL aS aN aO
 refine KG (pt ae 2) rfl rfl (KQ (n:=3) rfl ah Tryz.underlying29 rfl (by kernel_rfl) (by decide) rfl rr) (KG (pt ae 2) rfl rfl (LQ 0 (s:=1) rfl rfl rfl (by omega) Tryz.underlying27 (by omega) (by kernel_rfl) (by omega) rr) (OJ rfl rfl rfl rfl rfl bL rfl aQ.oneC (by kernel_rfl) fun bM ao az=>?_))
 replace ao:Mu bM ae 29 [iv w,iv h,ac,.slice none 0 0,.slice none 0 0]:=ao
 have bN:=bK.all az (an.symm p1 rfl)
 have aT:=aQ.all az aw
 refine KL ?_
 refine LA (KE (KF (KG (iv ((1:Nat):Int)) rfl rfl (LN rfl au rfl (L5 (by omega) (by omega)) rr) (KG (iv ((1:Nat):Int)) rfl rfl (KN rfl rfl rr) (KL ?_)))))
 have aA:=K4 (iv ((1:Nat):Int))
 refine KE (Mb (KH (KF (KG (.bool true) rfl rfl (L2 rfl aA rfl rfl rr) (KL ?_)))))
 have bO:=K4 (.bool true)
 refine KE (KH ?_)
 refine K5 (t:=true) bO (fun _=>?_) (fun e=>by cases e)
 refine Lf (KE (KH (Lk (KH (KF (KS rfl rfl rfl aA (KG (iv ((1:Nat):Int)) rfl rfl (KT rfl rfl rr) (KL ?_))))))))
 have aU:=K4 (iv ((1:Nat):Int))
 refine KE (KH (KF (KG (.agg #[iv w,iv h,ac,.slice none 0 0,.slice none 0 0]) rfl rfl (KU KZ rfl ah ao rr) (KS rfl rfl rfl aU (LV rfl rfl rfl rfl rfl (fun _ _=>by kernel_rfl) (Lj rfl (Lj rfl LP)) (Ql ((1:Nat):Int) (FD.mk w h (List.replicate (Qk n0 n1 0) 0) ([]) ([])) ac (.slice none 0 0) (.slice none 0 0) av L8 L8 _ (by dsimp only;omega) (by dsimp only;omega) aT.byt (L7.nil _) (L7.nil _) ) fun cD aV=>?_)))))
 obtain⟨aW,aX,aY⟩:=Nx aV bN ao aT
 have aZ:=((aP.tr aS).trans az (KP.ok (S:=fun _=>False) am K3)).tr aV
 refine KG (.tuple #[iv ((LC (FD.mk w h (List.replicate (Qk n0 n1 0) 0) ([]) ([])) ((1:Nat):Int)).1),iv ((LC (FD.mk w h (List.replicate (Qk n0 n1 0) 0) ([]) ([])) ((1:Nat):Int)).2)]) rfl rfl (KN rfl rfl rr) (KG (iv ((LC (FD.mk w h (List.replicate (Qk n0 n1 0) 0) ([]) ([])) ((1:Nat):Int)).1)) rfl rfl (LI rfl rfl rfl rr) (KG (iv ((LC (FD.mk w h (List.replicate (Qk n0 n1 0) 0) ([]) ([])) ((1:Nat):Int)).2)) rfl rfl (LI rfl rfl rfl rr) (KG (iv ((LC (FD.mk w h (List.replicate (Qk n0 n1 0) 0) ([]) ([])) ((1:Nat):Int)).1)) rfl rfl (KT rfl rfl rr) (KG (iv ((LC (FD.mk w h (List.replicate (Qk n0 n1 0) 0) ([]) ([])) ((1:Nat):Int)).2)) rfl rfl (KT rfl rfl rr) (KL ?_)))))
 have bP:=K4 (iv ((LC (FD.mk w h (List.replicate (Qk n0 n1 0) 0) ([]) ([])) ((1:Nat):Int)).1))
 have bQ:=K4 (iv ((LC (FD.mk w h (List.replicate (Qk n0 n1 0) 0) ([]) ([])) ((1:Nat):Int)).2))
 refine KE ?_
 have hpq:=Q9 n0 n1 1
 refine KF (KS rfl rfl rfl aU (KS rfl rfl rfl bP (KS rfl rfl rfl bQ (KG (iv (((Qk n0 n1 1):Nat):Int)) rfl rfl (ND rfl rfl rfl (by first|exact(Ma rfl (by show _<=w*h/\w*h<=_;omega)).trans (hn0.symm)|exact(Ma rfl (by show _<=Int.tdiv w 2*Int.tdiv h 2/\Int.tdiv w 2*Int.tdiv h 2<=_;omega)).trans hn1.symm) rr) (VH (n:=(Qk n0 n1 1)) rfl rfl rfl rfl rfl (by omega) (by omega) (by omega) fun af cE a8 a9 ba bb=>?_)))))
 obtain⟨bR,bc,bS⟩:=SW ba aW aX aY
 obtain⟨bT,bU,bV⟩:=Nx bb aW aX aY
 refine KG (pt ae 2) rfl rfl (KQ (n:=3) rfl ah Tryz.underlying29 rfl (by kernel_rfl) (by decide) rfl rr) (KG (pt ae 3) rfl rfl (LQ 1 (s:=1) rfl rfl rfl (by omega) Tryz.underlying27 (by omega) (by kernel_rfl) (by omega) rr) (OJ rfl rfl rfl rfl rfl bU rfl a9.oneC (by kernel_rfl) fun bW ap aq=>?_))
 replace ap:Mu bW ae 29 [iv w,iv h,ac,af,.slice none 0 0]:=ap
 have bX:=bT.all aq (an.symm p1 rfl)
 have bd:=bV.all aq aw
 have be:=a9.all aq bc
 refine KL ?_
 refine LA (KE (KF (KG (iv ((2:Nat):Int)) rfl rfl (LN rfl aA rfl (L5 (by omega) (by omega)) rr) (KG (iv ((2:Nat):Int)) rfl rfl (KN rfl rfl rr) (KL ?_)))))
 have aB:=K4 (iv ((2:Nat):Int))
 refine KE (Mb (KH (KF (KG (.bool true) rfl rfl (L2 rfl aB rfl rfl rr) (KL ?_)))))
 have bY:=K4 (.bool true)
 refine KE (KH ?_)
 refine K5 (t:=true) bY (fun _=>?_) (fun e=>by cases e)
 refine Lf (KE (KH (Lk (KH (KF (KS rfl rfl rfl aB (KG (iv ((2:Nat):Int)) rfl rfl (KT rfl rfl rr) (KL ?_))))))))
 have bf:=K4 (iv ((2:Nat):Int))
 refine KE (KH (KF (KG (.agg #[iv w,iv h,ac,af,.slice none 0 0]) rfl rfl (KU KZ rfl ah ap rr) (KS rfl rfl rfl bf (LV rfl rfl rfl rfl rfl (fun _ _=>by kernel_rfl) (Lj rfl (Lj rfl LP)) (Ql ((2:Nat):Int) (FD.mk w h (List.replicate (Qk n0 n1 0) 0) (List.replicate (Qk n0 n1 1) 0) ([])) ac af (.slice none 0 0) av a8 L8 _ (by dsimp only;omega) (by dsimp only;omega) bd.byt be.byt (L7.nil _) ) fun cF bg=>?_)))))
 obtain⟨bh,bi,bj,bl⟩:=OS bg bX ap bd be
 have bm:=((aZ.tr bb).trans aq (KP.ok (S:=fun _=>False) am K3)).tr bg
 refine KG (.tuple #[iv ((LC (FD.mk w h (List.replicate (Qk n0 n1 0) 0) (List.replicate (Qk n0 n1 1) 0) ([])) ((2:Nat):Int)).1),iv ((LC (FD.mk w h (List.replicate (Qk n0 n1 0) 0) (List.replicate (Qk n0 n1 1) 0) ([])) ((2:Nat):Int)).2)]) rfl rfl (KN rfl rfl rr) (KG (iv ((LC (FD.mk w h (List.replicate (Qk n0 n1 0) 0) (List.replicate (Qk n0 n1 1) 0) ([])) ((2:Nat):Int)).1)) rfl rfl (LI rfl rfl rfl rr) (KG (iv ((LC (FD.mk w h (List.replicate (Qk n0 n1 0) 0) (List.replicate (Qk n0 n1 1) 0) ([])) ((2:Nat):Int)).2)) rfl rfl (LI rfl rfl rfl rr) (KG (iv ((LC (FD.mk w h (List.replicate (Qk n0 n1 0) 0) (List.replicate (Qk n0 n1 1) 0) ([])) ((2:Nat):Int)).1)) rfl rfl (KT rfl rfl rr) (KG (iv ((LC (FD.mk w h (List.replicate (Qk n0 n1 0) 0) (List.replicate (Qk n0 n1 1) 0) ([])) ((2:Nat):Int)).2)) rfl rfl (KT rfl rfl rr) (KL ?_)))))
 have bZ:=K4 (iv ((LC (FD.mk w h (List.replicate (Qk n0 n1 0) 0) (List.replicate (Qk n0 n1 1) 0) ([])) ((2:Nat):Int)).1))
 have b7:=K4 (iv ((LC (FD.mk w h (List.replicate (Qk n0 n1 0) 0) (List.replicate (Qk n0 n1 1) 0) ([])) ((2:Nat):Int)).2))
 refine KE ?_
 have hpq:=Q9 n0 n1 2
 refine KF (KS rfl rfl rfl bf (KS rfl rfl rfl bZ (KS rfl rfl rfl b7 (KG (iv (((Qk n0 n1 2):Nat):Int)) rfl rfl (ND rfl rfl rfl (by first|exact(Ma rfl (by show _<=w*h/\w*h<=_;omega)).trans (hn0.symm)|exact(Ma rfl (by show _<=Int.tdiv w 2*Int.tdiv h 2/\Int.tdiv w 2*Int.tdiv h 2<=_;omega)).trans hn1.symm) rr) (VH (n:=(Qk n0 n1 2)) rfl rfl rfl rfl rfl (by omega) (by omega) (by omega) fun aj cG b8 bn bo bp=>?_)))))
 obtain⟨b9,cd,ce,cf⟩:=V2 bo bh bi bj bl
 obtain⟨cg,ci,cj,cm⟩:=OS bp bh bi bj bl
 refine KG (pt ae 2) rfl rfl (KQ (n:=3) rfl ah Tryz.underlying29 rfl (by kernel_rfl) (by decide) rfl rr) (KG (pt ae 4) rfl rfl (LQ 2 (s:=1) rfl rfl rfl (by omega) Tryz.underlying27 (by omega) (by kernel_rfl) (by omega) rr) (OJ rfl rfl rfl rfl rfl ci rfl bn.oneC (by kernel_rfl) fun cn aC ak=>?_))
 replace aC:Mu cn ae 29 [iv w,iv h,ac,af,aj]:=aC
 have co:=cg.all ak (an.symm p1 rfl)
 have bq:=cj.all ak aw
 have bt:=cm.all ak bc
 have bu:=bn.all ak cd
 refine KL ?_
 refine LA (KE (KF (KG (iv ((3:Nat):Int)) rfl rfl (LN rfl aB rfl (L5 (by omega) (by omega)) rr) (KG (iv ((3:Nat):Int)) rfl rfl (KN rfl rfl rr) (KL ?_)))))
 have cq:=K4 (iv ((3:Nat):Int))
 refine KE (Mb (KH (KF (KG (.bool false) rfl rfl (L2 rfl cq rfl rfl rr) (KL ?_)))))
 have cr:=K4 (.bool false)
 refine KE (KH ?_)
 refine K5 (t:=false) cr (fun e=>by cases e) (fun _=>?_)
 refine Mf (Lr (Lr (Me (KE (KH (KF (KG (.agg #[iv w,iv h,ac,af,aj]) rfl rfl (KU KZ rfl ah aC rr) (Lh (us:=[iv w,iv h,ac,af,aj]) KZ rfl rfl rfl aG rfl co rfl (KX rfl (KX rfl (KX bq.one (KX bt.one (KX bu.one MC))))) fun cH ct ar=>?_))))))))
 have cu:=bq.all ar bJ
 have cv:=bt.all ar bR
 have cw:=bu.all ar b9
 refine KL ?_
 refine KE (La ?_)
 exact O2 (vs:=[iv w,iv h,ac,af,aj]) KZ bC rfl rfl aG ct ⟨ac,av,af,a8,aj,b8,(by rw[hF]),(((bm.tr bp).trans ak (KP.ok (S:=fun _=>False) am K3)).trans ar (KP.ok (S:=fun _=>False) (KP.new K0 g5) K3)),⟨(by rw[hF];exact cu),(KP.new aP aR)⟩,⟨(by rw[hF];exact cv),(KP.new aZ ba)⟩,⟨(by rw[hF];exact cw),(KP.new bm bo)⟩,bS.symm,ce.symm,cf.symm⟩
theorem aAY(f:FD)(f0 f1 f2:Value)(T_f0:Nat->Prop)(T_f1:Nat->Prop)(T_f2:Nat->Prop)(w0:World)(h_f0:L7 w0 T_f0 f0 ((f).p0))(h_f1:L7 w0 T_f1 f1 ((f).p1))(h_f2:L7 w0 T_f2 f2 ((f).p2)) :
  Calls Tryz.prog 18 #[.agg #[.int .i64 ((f).W),.int .i64 ((f).H),f0,f1,f2]] w0 fun e w'=>∃ (v1:Value) (T1:Nat->Prop) (v2:Value) (T2:Nat->Prop) (v3:Value) (T3:Nat->Prop),e = .returned (.agg #[.int .i64 ((MS f).W),.int .i64 ((MS f).H),v1,v2,v3])/\KM (fun _=>False) w0 w'/\(L1 w' T1 v1 ((MS f).p0)/\KP w0 L8 T1)/\(L1 w' T2 v2 ((MS f).p1)/\KP w0 L8 T2)/\(L1 w' T3 v3 ((MS f).p2)/\KP w0 L8 T3)/\KJ T1 T2/\KJ T1 T3/\KJ T2 T3:=by
 refine Lp (args:=[.agg #[iv (f.W),iv (f.H),f0,f1,f2]]) 28 Tryz.func18 rfl rfl (Nat.le_of_ble_eq_true rfl) ?_
 have g_f0:=KP.refl w0 T_f0
 have g_f1:=KP.refl w0 T_f1
 have g_f2:=KP.refl w0 T_f2
 refine KH (KF (Lt (vs:=[iv (f.W),iv (f.H),f0,f1,f2]) rfl rfl rfl rfl fun p1 w2 B4 g5 k3=>?_))
 obtain⟨co,cq,cr⟩:=Nx k3 h_f0 h_f1 h_f2
 have aW:=(KM.refl (fun _=>False) w0).tr k3
 refine LF (n:=5) (vs:=[iv 0,iv 0,.slice none 0 0,.slice none 0 0,.slice none 0 0]) rfl rfl rfl (by kernel_rfl) fun ap ek ct aj aX=>?_
 have aY:=KP.new aW aj
 obtain⟨aZ,a8,a9,ba⟩:=OS aX co cq cr B4
 refine KL ?_
 have bb:=K4 (undef)
 have aq:=K4 (pt p1 0)
 have aK:=K4 (pt ap 0)
 refine KE (KH (KH (KF (KG (.agg #[iv (f.W),iv (f.H),f0,f1,f2]) rfl rfl (KU KZ rfl aq ba rr) (LV rfl rfl rfl rfl rfl (fun _ _=>by kernel_rfl) (Lj rfl LP) (M8 f f0 f1 f2 T_f0 T_f1 T_f2 _  aZ a8 a9 ) fun aF bc=>?_)))))
 obtain⟨cu,bd,aL,ar,au⟩:=OR bc aZ a8 a9 ba ct
 have av:=(aW.tr aX).tr bc
 refine KG (.bool (decide ((Np f)≠0))) rfl rfl (L9 rfl rfl rfl rfl rr) (KL ?_)
 have cv:=K4 (.bool (decide ((Np f)≠0)))
 refine KE ?_
 refine K5 cv (fun aw=>?_) (fun aw=>?_)
 ·replace aw:=of_decide_eq_true aw
  refine KH ?_
  have hno:¬ QO f:=fun h=>absurd ((Mw f).2 h) (by assumption)
  refine KF (KG (.agg #[iv 0,iv 0,.slice none 0 0,.slice none 0 0,.slice none 0 0]) rfl rfl (LW (l':=[]) (cells:=#[iv 0,iv 0,.slice none 0 0,.slice none 0 0,.slice none 0 0]) rfl QZ (by kernel_rfl) rfl rr) (Lh (us:=[iv 0,iv 0,.slice none 0 0,.slice none 0 0,.slice none 0 0]) KZ rfl rfl rfl aK rfl au rfl (KX rfl (KX rfl (KX rfl (KX rfl (KX rfl MC))))) fun en cw cy=>?_))
  refine KL ?_
  refine KE (La (Ln ?_))
  exact O2 (vs:=[iv 0,iv 0,.slice none 0 0,.slice none 0 0,.slice none 0 0]) KZ bb rfl rfl aK cw ⟨(.slice none 0 0),L8,(.slice none 0 0),L8,(.slice none 0 0),L8,(by first|rw[Nz hok,(Mk 0 hok.1 hok.2.1).1,(Mk 0 hok.1 hok.2.1).2]|rw[O3 hno];rfl),(av.trans cy (KP.ok (S:=fun _=>False) aY K3)),⟨(by first|(rw[Nz hok];exact(L1.nil _))|(rw[O3 hno];exact(L1.nil _))),(KP.refl _ _)⟩,⟨(by first|(rw[Nz hok];exact(L1.nil _))|(rw[O3 hno];exact(L1.nil _))),(KP.refl _ _)⟩,⟨(by first|(rw[Nz hok];exact(L1.nil _))|(rw[O3 hno];exact(L1.nil _))),(KP.refl _ _)⟩,KJ.none,KJ.none,KJ.none⟩
 ·replace aw:=of_decide_eq_false aw
  refine Lf (KE (KH ?_))
  have hok:=(Mw f).1 (by first|assumption|(apply Decidable.byContradiction;assumption))
  have hmost:=aBl hok
  have hnl:=Y4 hok
  refine KF (KG (pt p1 0) rfl rfl (KQ (n:=1) rfl aq Tryz.underlying29 rfl (by kernel_rfl) (by decide) rfl rr) (KG (iv (f.W)) rfl rfl (KR rfl rfl Tryz.underlying3 ar rfl rfl rr) (KG (pt p1 1) rfl rfl (KQ (n:=1) rfl aq Tryz.underlying29 rfl (by kernel_rfl) (by decide) rfl rr) (KG (iv (f.H)) rfl rfl (KR rfl rfl Tryz.underlying3 ar rfl rfl rr) (Lw (R:=fun v_ w_=>∃ (ac:Value) (am:Nat->Prop) (ae:Value) (an:Nat->Prop) (af:Value) (ao:Nat->Prop),.agg #[iv ((LG (f.W) (f.H) 0).W),iv ((LG (f.W) (f.H) 0).H),ac,ae,af]=v_/\KM (fun _=>False) aF w_/\(L1 w_ am ac ((LG (f.W) (f.H) 0).p0)/\KP aF L8 am)/\(L1 w_ an ae ((LG (f.W) (f.H) 0).p1)/\KP aF L8 an)/\(L1 w_ ao af ((LG (f.W) (f.H) 0).p2)/\KP aF L8 ao)/\KJ am an/\KJ am ao/\KJ an ao) rfl rfl (LE rfl rfl rfl (fun _ _=>by kernel_rfl) (K2 _) (Lj rfl (Lj rfl LP)) (XG (f.W) (f.H)  _ hok.1 hok.2.1  ) (fun e_ w_ h_=>by obtain⟨v61_,T66_,v62_,T67_,v63_,T68_,he_,hr_⟩:=h_;exact⟨_,he_,v61_,T66_,v62_,T67_,v63_,T68_,rfl,hr_⟩)) ?_)))))
  rintro _ eo ⟨ac,am,ae,an,af,ao,rfl,be,⟨bf,bg⟩,⟨bh,bi⟩,⟨bj,bl⟩,aM,aN,aO⟩
  obtain⟨bm,bn,bo,bp,bq⟩:=OR be cu bd aL ar au
  have bt:=av.tr be
  have bu:=KP.new av bg
  obtain⟨cz,cA,cB,bv⟩:=V2 bg bd aL ar au
  have bz:=KP.new av bi
  obtain⟨cC,cD,bA⟩:=SW bi aL ar au
  have bB:=KP.new av bl
  have bC:=KJ.new bl (LR au.lt)
  refine LF (n:=5) (vs:=[iv 0,iv 0,.slice none 0 0,.slice none 0 0,.slice none 0 0]) rfl rfl rfl (by kernel_rfl) fun ab ep cE bD bE=>?_
  obtain⟨cF,cG,cH,cI,cJ,bF,bG,bH⟩:=XH bD bm bn bo bp bq bf bh bj
  obtain⟨cK,cL,cM,cN,cO,bI,bJ,bK⟩:=Xz bE bm bn bo bp bq bf bh bj
  refine Lh (us:=[iv ((LG (f.W) (f.H) 0).W),iv ((LG (f.W) (f.H) 0).H),ac,ae,af]) KZ rfl rfl rfl rfl rfl cE rfl (KX rfl (KX rfl (KX bI.one (KX bJ.one (KX bK.one MC))))) fun er bL ah=>?_
  have cP:=cK.all ah cF.symm
  have cQ:=cL.all ah cG.symm
  have cR:=cM.all ah cH.symm
  have bM:=cN.all ah (cI.symm p1 rfl)
  have cS:=cO.all ah (cJ.symm ap rfl)
  have cT:=bI.all ah bF.symm
  have cU:=bJ.all ah bG.symm
  have cV:=bK.all ah bH.symm
  refine KL ?_
  have bN:=K4 (pt ab 0)
  refine KE (KH (KH (KF (KG (iv 0) rfl rfl (KN rfl rfl rr) (KL ?_)))))
  have aP:=K4 (iv 0)
  refine KE (Lk (Ot 4 (Mb (KH (KF (KG (.bool true) rfl rfl (L2 rfl aP rfl rfl rr) (KL ?_)))))))
  have cW:=K4 (.bool true)
  refine KE (KH ?_)
  refine K5 (t:=true) cW (fun _=>?_) (fun e=>by cases e)
  refine Lf (KE (KH (Lk (KH (KF (KS rfl rfl rfl aP (KG (iv 0) rfl rfl (KT rfl rfl rr) (KL ?_))))))))
  have bO:=K4 (iv 0)
  refine KE ?_
  refine Na 8 [some 17,some 18,some 19,some 20,some 21,some 22,some 23,some 24] [Pd.eq (iv 0),Pd.eq (pt ab 2),Pd.eq (pt ab 2),Pd.eq ac,Pd.eq (iv 0),Pd.eq (pt p1 2),Pd.eq (pt p1 2),Pd.eq f0] (by kernel_rfl) (by kernel_rfl) (by kernel_rfl) ?_ ?_
  ·refine KK ?_ ?_
   ·refine Lb.one rfl fun F_ w_ hR hout hD=>?_
    exact(KN rfl ((hout 4 rfl (by decide)).trans bO) ⟨rfl,KM.refl _ _⟩)
   refine KK ?_ ?_
   ·refine Lb.one rfl fun F_ w_ hR hout hD=>?_
    exact(KQ (n:=3) rfl ((hout 3 rfl (by decide)).trans bN) Tryz.underlying29 rfl (by kernel_rfl) (by decide) rfl ⟨rfl,KM.refl _ _⟩)
   refine KK ?_ ?_
   ·refine Lb.one rfl fun F_ w_ hR hout hD=>?_
    have aj:F_ 18=pt ab 2:=(hD.get 0 rfl rfl rfl)
    have az:F_ 17=iv 0:=(hD.get 1 rfl rfl rfl)
    exact(LQ 0 (s:=1) rfl aj az (by omega) Tryz.underlying27 (by omega) (by kernel_rfl) (by omega) ⟨rfl,KM.refl _ _⟩)
   refine KK ?_ ?_
   ·refine Lb.one rfl fun F_ w_ hR hout hD=>?_
    have aA:F_ 19=pt ab 2:=(hD.get 0 rfl rfl rfl)
    exact(KR rfl aA Tryz.underlying26 (bL.all hR id) rfl rfl ⟨rfl,KM.refl _ _⟩)
   refine KK ?_ ?_
   ·refine Lb.one rfl fun F_ w_ hR hout hD=>?_
    exact(KN rfl ((hout 4 rfl (by decide)).trans bO) ⟨rfl,KM.refl _ _⟩)
   refine KK ?_ ?_
   ·refine Lb.one rfl fun F_ w_ hR hout hD=>?_
    exact(KQ (n:=3) rfl ((hout 1 rfl (by decide)).trans aq) Tryz.underlying29 rfl (by kernel_rfl) (by decide) rfl ⟨rfl,KM.refl _ _⟩)
   refine KK ?_ ?_
   ·refine Lb.one rfl fun F_ w_ hR hout hD=>?_
    have aB:F_ 22=pt p1 2:=(hD.get 0 rfl rfl rfl)
    have aC:F_ 21=iv 0:=(hD.get 1 rfl rfl rfl)
    exact(LQ 0 (s:=1) rfl aB aC (by omega) Tryz.underlying27 (by omega) (by kernel_rfl) (by omega) ⟨rfl,KM.refl _ _⟩)
   refine KK ?_ ?_
   ·refine Lb.one rfl fun F_ w_ hR hout hD=>?_
    have aD:F_ 23=pt p1 2:=(hD.get 0 rfl rfl rfl)
    exact(KR rfl aD Tryz.underlying26 (bM.all hR id) rfl rfl ⟨rfl,KM.refl _ _⟩)
   exact L0
  intro et bP eu bQ aQ aG
  obtain⟨cX,cY,cZ,c5,c6,c7,c9,da,db⟩:=YM bQ cP cQ cR bM cS cT cU cV bL
  obtain⟨dc,bR,dd,bS,de⟩:=t5 aG 28 bb 1 aq 2 aK 3 bN 14 aP
  have dg:bP 20=ac:=(aG 20).trans (aQ 3 (by decide))
  have dh:bP 24=f0:=(aG 24).trans (aQ 7 (by decide))
  clear aQ aG
  refine Vr rfl rfl rfl rfl dg dh c7 cX (by first|exact hnl.1|exact hnl.2.1|exact hnl.2.2) fun ew di ai=>?_
  have dj:=cY.all ai cz.symm
  have dk:=cZ.all ai cA.symm
  have bT:=c5.all ai (cB.symm p1 rfl)
  have dl:=c6.all ai (bv.symm ap rfl)
  have dm:=c9.all ai aM.symm
  have dn:=da.all ai aN.symm
  have bU:=db.all ai (bF ab rfl)
  refine KL ?_
  refine LA (KE (KF (KG (iv ((1:Nat):Int)) rfl rfl (LN rfl de rfl (L5 (by omega) (by omega)) rr) (KG (iv ((1:Nat):Int)) rfl rfl (KN rfl rfl rr) (KL ?_)))))
  have aR:=K4 (iv ((1:Nat):Int))
  refine KE (Mb (KH (KF (KG (.bool true) rfl rfl (L2 rfl aR rfl rfl rr) (KL ?_)))))
  have dp:=K4 (.bool true)
  refine KE (KH ?_)
  refine K5 (t:=true) dp (fun _=>?_) (fun e=>by cases e)
  refine Lf (KE (KH (Lk (KH (KF (KS rfl rfl rfl aR (KG (iv ((1:Nat):Int)) rfl rfl (KT rfl rfl rr) (KL ?_))))))))
  have bV:=K4 (iv ((1:Nat):Int))
  refine KE ?_
  refine Na 8 [some 17,some 18,some 19,some 20,some 21,some 22,some 23,some 24] [Pd.eq (iv ((1:Nat):Int)),Pd.eq (pt ab 2),Pd.eq (pt ab 3),Pd.eq ae,Pd.eq (iv ((1:Nat):Int)),Pd.eq (pt p1 2),Pd.eq (pt p1 3),Pd.eq f1] (by kernel_rfl) (by kernel_rfl) (by kernel_rfl) ?_ ?_
  ·refine KK ?_ ?_
   ·refine Lb.one rfl fun F_ w_ hR hout hD=>?_
    exact(KN rfl ((hout 4 rfl (by decide)).trans bV) ⟨rfl,KM.refl _ _⟩)
   refine KK ?_ ?_
   ·refine Lb.one rfl fun F_ w_ hR hout hD=>?_
    exact(KQ (n:=3) rfl ((hout 3 rfl (by decide)).trans bS) Tryz.underlying29 rfl (by kernel_rfl) (by decide) rfl ⟨rfl,KM.refl _ _⟩)
   refine KK ?_ ?_
   ·refine Lb.one rfl fun F_ w_ hR hout hD=>?_
    have aj:F_ 18=pt ab 2:=(hD.get 0 rfl rfl rfl)
    have az:F_ 17=iv ((1:Nat):Int):=(hD.get 1 rfl rfl rfl)
    exact(LQ 1 (s:=1) rfl aj az (by omega) Tryz.underlying27 (by omega) (by kernel_rfl) (by omega) ⟨rfl,KM.refl _ _⟩)
   refine KK ?_ ?_
   ·refine Lb.one rfl fun F_ w_ hR hout hD=>?_
    have aA:F_ 19=pt ab 3:=(hD.get 0 rfl rfl rfl)
    exact(KR rfl aA Tryz.underlying26 (bU.all hR id) rfl rfl ⟨rfl,KM.refl _ _⟩)
   refine KK ?_ ?_
   ·refine Lb.one rfl fun F_ w_ hR hout hD=>?_
    exact(KN rfl ((hout 4 rfl (by decide)).trans bV) ⟨rfl,KM.refl _ _⟩)
   refine KK ?_ ?_
   ·refine Lb.one rfl fun F_ w_ hR hout hD=>?_
    exact(KQ (n:=3) rfl ((hout 1 rfl (by decide)).trans bR) Tryz.underlying29 rfl (by kernel_rfl) (by decide) rfl ⟨rfl,KM.refl _ _⟩)
   refine KK ?_ ?_
   ·refine Lb.one rfl fun F_ w_ hR hout hD=>?_
    have aB:F_ 22=pt p1 2:=(hD.get 0 rfl rfl rfl)
    have aC:F_ 21=iv ((1:Nat):Int):=(hD.get 1 rfl rfl rfl)
    exact(LQ 1 (s:=1) rfl aB aC (by omega) Tryz.underlying27 (by omega) (by kernel_rfl) (by omega) ⟨rfl,KM.refl _ _⟩)
   refine KK ?_ ?_
   ·refine Lb.one rfl fun F_ w_ hR hout hD=>?_
    have aD:F_ 23=pt p1 3:=(hD.get 0 rfl rfl rfl)
    exact(KR rfl aD Tryz.underlying26 (bT.all hR id) rfl rfl ⟨rfl,KM.refl _ _⟩)
   exact L0
  intro ex bW ey bX aS aH
  obtain⟨dq,dr,dt,du,dv,dw,dy,dz⟩:=Xz bX dj dk bT dl di dm dn bU
  obtain⟨dA,dB,dC,bY,dD⟩:=t5 aH 28 dc 1 bR 2 dd 3 bS 14 aR
  have dE:bW 20=ae:=(aH 20).trans (aS 3 (by decide))
  have dF:bW 24=f1:=(aH 24).trans (aS 7 (by decide))
  clear aS aH
  refine Vr rfl rfl rfl rfl dE dF dw dq (by first|exact hnl.1|exact hnl.2.1|exact hnl.2.2) fun ez dG ak=>?_
  have dH:=dr.all ak cC.symm
  have dI:=dt.all ak (cD.symm p1 rfl)
  have dJ:=du.all ak (bA.symm ap rfl)
  have dK:=dv.all ak aM
  have dL:=dy.all ak aO.symm
  have bZ:=dz.all ak (bG ab rfl)
  have dM:=(((((bt.tr bE).trans ah (KP.ok (S:=fun _=>False) (KP.new bt bD) K3)).tr bQ).trans ai (KP.ok (S:=fun _=>False) bu K3)).tr bX).trans ak (KP.ok (S:=fun _=>False) bz K3)
  refine KL ?_
  refine LA (KE (KF (KG (iv ((2:Nat):Int)) rfl rfl (LN rfl dD rfl (L5 (by omega) (by omega)) rr) (KG (iv ((2:Nat):Int)) rfl rfl (KN rfl rfl rr) (KL ?_)))))
  have aT:=K4 (iv ((2:Nat):Int))
  refine KE (Mb (KH (KF (KG (.bool true) rfl rfl (L2 rfl aT rfl rfl rr) (KL ?_)))))
  have dN:=K4 (.bool true)
  refine KE (KH ?_)
  refine K5 (t:=true) dN (fun _=>?_) (fun e=>by cases e)
  refine Lf (KE (KH (Lk (KH (KF (KS rfl rfl rfl aT (KG (iv ((2:Nat):Int)) rfl rfl (KT rfl rfl rr) (KL ?_))))))))
  have b7:=K4 (iv ((2:Nat):Int))
  refine KE ?_
  refine Na 8 [some 17,some 18,some 19,some 20,some 21,some 22,some 23,some 24] [Pd.eq (iv ((2:Nat):Int)),Pd.eq (pt ab 2),Pd.eq (pt ab 4),Pd.eq af,Pd.eq (iv ((2:Nat):Int)),Pd.eq (pt p1 2),Pd.eq (pt p1 4),Pd.eq f2] (by kernel_rfl) (by kernel_rfl) (by kernel_rfl) ?_ ?_
  ·refine KK ?_ ?_
   ·refine Lb.one rfl fun F_ w_ hR hout hD=>?_
    exact(KN rfl ((hout 4 rfl (by decide)).trans b7) ⟨rfl,KM.refl _ _⟩)
   refine KK ?_ ?_
   ·refine Lb.one rfl fun F_ w_ hR hout hD=>?_
    exact(KQ (n:=3) rfl ((hout 3 rfl (by decide)).trans bY) Tryz.underlying29 rfl (by kernel_rfl) (by decide) rfl ⟨rfl,KM.refl _ _⟩)
   refine KK ?_ ?_
   ·refine Lb.one rfl fun F_ w_ hR hout hD=>?_
    have aj:F_ 18=pt ab 2:=(hD.get 0 rfl rfl rfl)
    have az:F_ 17=iv ((2:Nat):Int):=(hD.get 1 rfl rfl rfl)
    exact(LQ 2 (s:=1) rfl aj az (by omega) Tryz.underlying27 (by omega) (by kernel_rfl) (by omega) ⟨rfl,KM.refl _ _⟩)
   refine KK ?_ ?_
   ·refine Lb.one rfl fun F_ w_ hR hout hD=>?_
    have aA:F_ 19=pt ab 4:=(hD.get 0 rfl rfl rfl)
    exact(KR rfl aA Tryz.underlying26 (bZ.all hR id) rfl rfl ⟨rfl,KM.refl _ _⟩)
   refine KK ?_ ?_
   ·refine Lb.one rfl fun F_ w_ hR hout hD=>?_
    exact(KN rfl ((hout 4 rfl (by decide)).trans b7) ⟨rfl,KM.refl _ _⟩)
   refine KK ?_ ?_
   ·refine Lb.one rfl fun F_ w_ hR hout hD=>?_
    exact(KQ (n:=3) rfl ((hout 1 rfl (by decide)).trans dB) Tryz.underlying29 rfl (by kernel_rfl) (by decide) rfl ⟨rfl,KM.refl _ _⟩)
   refine KK ?_ ?_
   ·refine Lb.one rfl fun F_ w_ hR hout hD=>?_
    have aB:F_ 22=pt p1 2:=(hD.get 0 rfl rfl rfl)
    have aC:F_ 21=iv ((2:Nat):Int):=(hD.get 1 rfl rfl rfl)
    exact(LQ 2 (s:=1) rfl aB aC (by omega) Tryz.underlying27 (by omega) (by kernel_rfl) (by omega) ⟨rfl,KM.refl _ _⟩)
   refine KK ?_ ?_
   ·refine Lb.one rfl fun F_ w_ hR hout hD=>?_
    have aD:F_ 23=pt p1 4:=(hD.get 0 rfl rfl rfl)
    exact(KR rfl aD Tryz.underlying26 (dI.all hR id) rfl rfl ⟨rfl,KM.refl _ _⟩)
   exact L0
  intro eA b8 eB b9 aU aI
  obtain⟨dO,dP,dQ,dR,dS,dT⟩:=Qt b9 dH dJ dK dG dL bZ
  obtain⟨dU,cd,dV,dW⟩:=t4 aI 28 dA 2 dC 3 bY 14 aT
  have dX:b8 20=af:=(aI 20).trans (aU 3 (by decide))
  have dY:b8 24=f2:=(aI 24).trans (aU 7 (by decide))
  clear aU aI
  refine Vr rfl rfl rfl rfl dX dY dS dO (by first|exact hnl.1|exact hnl.2.1|exact hnl.2.2) fun eD ce aE=>?_
  have dZ:=dP.all aE (bC.symm ap rfl)
  have cf:=dQ.all aE aN
  have cg:=dR.all aE aO
  have d8:=dT.all aE (bH ab rfl)
  refine KL ?_
  refine LA (KE (KF (KG (iv ((3:Nat):Int)) rfl rfl (LN rfl dW rfl (L5 (by omega) (by omega)) rr) (KG (iv ((3:Nat):Int)) rfl rfl (KN rfl rfl rr) (KL ?_)))))
  have d9:=K4 (iv ((3:Nat):Int))
  refine KE (Mb (KH (KF (KG (.bool false) rfl rfl (L2 rfl d9 rfl rfl rr) (KL ?_)))))
  have eb:=K4 (.bool false)
  refine KE (KH ?_)
  refine K5 (t:=false) eb (fun e=>by cases e) (fun _=>?_)
  refine Mf (Lr (Lr (Me (KE (KH (KF (KG (.agg #[iv ((LG (f.W) (f.H) 0).W),iv ((LG (f.W) (f.H) 0).H),ac,ae,af]) rfl rfl (KU KZ rfl dV d8 rr) (Lh (us:=[iv ((LG (f.W) (f.H) 0).W),iv ((LG (f.W) (f.H) 0).H),ac,ae,af]) KZ rfl rfl rfl cd rfl dZ rfl (KX rfl (KX rfl (KX cf.one (KX cg.one (KX ce.one MC))))) fun eE ee aJ=>?_))))))))
  have ci:=cf.all aJ bv
  have cj:=cg.all aJ bA
  have cm:=ce.all aJ bC
  refine KL ?_
  refine KE (La ?_)
  exact O2 (vs:=[iv ((LG (f.W) (f.H) 0).W),iv ((LG (f.W) (f.H) 0).H),ac,ae,af]) KZ dU rfl rfl cd ee ⟨ac,am,ae,an,af,ao,(by first|rw[Nz hok,(Mk 0 hok.1 hok.2.1).1,(Mk 0 hok.1 hok.2.1).2]|rw[O3 hno];rfl),(((dM.tr b9).trans aE (KP.ok (S:=fun _=>False) bB K3)).trans aJ (KP.ok (S:=fun _=>False) aY K3)),⟨(by first|(rw[Nz hok];exact ci)|(rw[O3 hno];exact ci)),bu⟩,⟨(by first|(rw[Nz hok];exact cj)|(rw[O3 hno];exact cj)),bz⟩,⟨(by first|(rw[Nz hok];exact cm)|(rw[O3 hno];exact cm)),bB⟩,aM,aN,aO⟩
end Go.Proofs.YtknjpdcpmpfklaaGreatDoor
set_option maxRecDepth 100000
namespace Go.Proofs.YtknjpdcpmpfklaaGreatDoor
open Go.RowKit
theorem O8{a b:Bool}(h:a=b):Ending.returned (.bool a) = .returned (.bool b):=by rw[h]
def Yp(w:World)(n:Nat)(v:Value)(g:Nat->Int):Prop :=
 ∃ (f:FuncId) (cs:List Value),v = .func (.func f) #[] cs.toArray/\(∀ args w,(callFunc f args).run Tryz.prog w = .ok (.enter f args) w) ∧
  ∀ w',KM (fun _=>False) w w'->∀ k:Nat,k<n->Calls Tryz.prog f (.int .i64 (k:Int)::cs).toArray w' fun e w''=>e = .returned (.int .i64 (g k))/\KM (fun _=>False) w' w''
theorem Yp.all{w w':World}{n:Nat}{v:Value}{g:Nat->Int}(h:Yp w n v g)(k:KM (fun _=>False) w w'):Yp w' n v g:=by
 obtain⟨f,cs,e,hf,h⟩:=h
 exact⟨f,cs,e,hf,fun w2 k2=>h w2 (k.trans k2 (fun _ _ x=>x))⟩
def XK(w:World)(n:Nat)(v:Value)(g:Nat->Nat->Int):Prop :=
 ∃ (f:FuncId) (cs:List Value),v = .func (.func f) #[] cs.toArray/\(∀ args w,(callFunc f args).run Tryz.prog w = .ok (.enter f args) w) ∧
  ∀ w',KM (fun _=>False) w w'->∀ i k:Nat,i<n->k<n->Calls Tryz.prog f (.int .i64 (i:Int) :: .int .i64 (k:Int)::cs).toArray w' fun e w''=>e = .returned (.int .i64 (g i k))/\KM (fun _=>False) w' w''
theorem XK.all{w w':World}{n:Nat}{v:Value}{g:Nat->Nat->Int}(h:XK w n v g)(k:KM (fun _=>False) w w'):XK w' n v g:=by
 obtain⟨f,cs,e,hf,h⟩:=h
 exact⟨f,cs,e,hf,fun w2 k2=>h w2 (k.trans k2 (fun _ _ x=>x))⟩
def Pd.ask2(n:Nat)(g:Nat->Nat->Int):Pd:=⟨fun v w=>XK w n v g,fun _ _ _ h k=>h.all k⟩
section
variable {ρ:Operand->Value} {o:Oper} {w:World} {R:Value->World->Prop}
theorem Wq{P:Program}{f:FuncId}{xs:List Operand}{vs:List Value}(ho:o.op = .makeFunc (.func f) #[] xs.toArray)(hx:xs.map ρ=vs)(h:R (.func (.func f) #[] vs.toArray) w):Lg P ρ o w R:=by
 subst hx
 exact N2 (v:=.func (.func f) #[] (xs.map ρ).toArray) (w':=w) (by simp[execOp,ho,show ∀ cap,(Instr.makeFunc (.func f) #[] cap).run P w = .ok (.func (.func f) #[] cap) w from fun _=>rfl]) h
theorem aCS{c:Call}{cx x:Operand}{v:Value}{n k:Nat}{g:Nat->Int}(ho:o.op = .call c)(hc:c.callee = .value cx)(hcx:ρ cx=v)(hx:c.args = #[x])(hv:ρ x = .int .i64 (k:Int))(ha:Yp w n v g)(hk:k<n)
  (hS:∀ (e:Ending) w',(e = .returned (.int .i64 (g k))/\KM (fun _=>False) w w')->∃ v,e = .returned v/\R v w'):Lg Tryz.prog ρ o w R:=by
 obtain⟨f,cs,rfl,hf,h⟩:=ha
 obtain⟨cl,ag,ts⟩:=c
 simp only at hc hx
 subst hc;subst hx
 unfold Lg
 have e:(execOp ρ o).run Tryz.prog w = .ok (.enter f (.int .i64 (k:Int)::cs).toArray) w:=by simp[execOp,ho,resolve,hcx,hv,Deferred.ofValue,invoke,hf]
 rw[e]
 exact(h w (KM.refl _ _) k hk).mono hS
theorem aB9{c:Call}{cx x y:Operand}{v:Value}{n i k:Nat}{g:Nat->Nat->Int}(ho:o.op = .call c)(hc:c.callee = .value cx)(hcx:ρ cx=v)(hx:c.args = #[x,y])(hv:ρ x = .int .i64 (i:Int))(hv2:ρ y = .int .i64 (k:Int))(ha:XK w n v g)(hi:i<n)(hk:k<n)
  (hS:∀ (e:Ending) w',(e = .returned (.int .i64 (g i k))/\KM (fun _=>False) w w')->∃ v,e = .returned v/\R v w'):Lg Tryz.prog ρ o w R:=by
 obtain⟨f,cs,rfl,hf,h⟩:=ha
 obtain⟨cl,ag,ts⟩:=c
 simp only at hc hx
 subst hc;subst hx
 unfold Lg
 have e:(execOp ρ o).run Tryz.prog w = .ok (.enter f (.int .i64 (i:Int) :: .int .i64 (k:Int)::cs).toArray) w:=by simp[execOp,ho,resolve,hcx,hv,hv2,Deferred.ofValue,invoke,hf]
 rw[e]
 exact(h w (KM.refl _ _) i k hi hk).mono hS
theorem aA9{t:TypeId}{x y:Operand}{k:IntKind}{n:Nat}(j:Nat){a:Nat->Int}{r:Int}(ht:VZ t n)(ho:o.op = .index t x y)(hx:ρ x = .agg (L6 n a).toArray)(hy:ρ y = .int k (j:Int))(hj:j<n)(hr:a j=r)(h:R (.int .i64 r) w):Lg Tryz.prog ρ o w R:=by
 subst hr
 have h1:(L6 n a).toArray[j]? = some (.int .i64 (a j)):=by rw[List.getElem?_toArray];exact Rm hj
 cases hq:Tryz.prog.info? 3 with
 | none=>have:=Tryz.size_int;simp[hq] at this
 | some i =>
  have hs':i.size=1:=by have:=Tryz.size_int;simpa [hq] using this
  have hp:(part 3 (L6 n a).toArray j).run Tryz.prog w = .ok (.int .i64 (a j)) w:=by simp[part,isAgg,run_underlying Tryz.underlying3,h1]
  have h2:(j:Int)<(n:Int):=by omega
  exact N2 (v:=.int .i64 (a j)) (w':=w) (by simp[execOp,ho,hx,hy,Instr.index,run_underlying ht.1,asIntOf,sizeOf,typeInfo,hq,hs',hj,hp]) h
theorem Wy{N n:Nat}{F:Nat->Value}{fn:Func}{p:Tmp}{ty t:TypeId}{q:Nat}{b:Nat->Int}{R:Ending->World->Prop}(hT:VZ ty n)(hm:F N=undef)(ht:Nat.blt p N=true)(h:fn.results = #[.cell p ty])(hp:F p = .pointer (some ⟨q,0,none⟩))(hB:Pq w q t n b)(hR:R (.returned (.agg (L6 n b).toArray)) w):Xq Tryz.prog fn N R .ret F w :=
 ⟨hm,fun a ha=>⟨_,Re h _ _ q (by rw[ha.at' p ht];exact hp) _ t (0,0) _ hB hT.1 rfl (hT.size b),hR⟩⟩
def Pd.cel(n:Nat)(t:TypeId)(v:Value):Pd:=⟨fun u w=>∃ p,u = .pointer (some ⟨p,0,none⟩)/\n<=p/\PH w p t v,fun _ _ _ ⟨p,e,hn,h⟩ k=>⟨p,e,hn,h.all k id⟩⟩
theorem XZ{P:Program}{t:TypeId}{v:Value}(ho:o.op = .alloc t)(hi:(P.info? t).map (fun i=>(i.zero,i.size))=some (some v,1))(hv:oneC v=true)(h:R (.pointer (some ⟨w.heap.size,0,none⟩)) (w.alloc (.cells #[v] t))):Lg P ρ o w R :=
 N2 (v:=.pointer (some ⟨w.heap.size,0,none⟩)) (w':=w.alloc (.cells #[v] t)) (by simp[execOp,ho,(zero_of_info hi).1,go_sem];cases v <;> first|rfl|(simp[oneC] at hv;done)) h
end
end Go.Proofs.YtknjpdcpmpfklaaGreatDoor
set_option maxRecDepth 100000
namespace Go.Proofs.YtknjpdcpmpfklaaGreatDoor
open Go.RowKit
theorem M6:VZ 172 4:=VZ.of Tryz.underlying172 (by kernel_rfl)
theorem XD:Qs Tryz.prog 169 4:=⟨_,Tryz.underlying169,rfl,by kernel_rfl⟩
theorem Pq.first{w:World}{p n:Nat}{t:TypeId}{b c:Nat->Int}(h:Pq w p t n b):Pq w p t n (upto 0 b c):=by rw[Wc];exact h
theorem Pq.next{w:World}{p n:Nat}{t:TypeId}{b c:Nat->Int}{k:Nat}{x:Int}(h:Pq w p t n (VS (upto k b c) k x))(e:x=c k):Pq w p t n (upto (k+1) b c):=by rw[← X3,← e];exact h
theorem ayO(b:Nat->Int)(k:Nat)(x y:Int):VS (VS b k x) k y=VS b k y:=by funext i;unfold VS;split <;> rfl
theorem Pq.next2{w:World}{p n:Nat}{t:TypeId}{b c:Nat->Int}{k:Nat}{x y:Int}(h:Pq w p t n (VS (VS (upto k b c) k x) k y))(e:y=c k):Pq w p t n (upto (k+1) b c):=by rw[ayO] at h;exact h.next e
theorem Pq.last{w:World}{p n:Nat}{t:TypeId}{b c:Nat->Int}(h:Pq w p t n (upto n b c)):Pq w p t n c:=h.congr (fun i hi=>by simp[upto,hi])
theorem RJ(n:Int)(w0:World) :
  Calls Tryz.prog 139 #[.int .i64 (n)] w0 fun e w'=>e = .returned (.bool (decide (0<=n/\n<=64)))/\KM (fun _=>False) w0 w':=by
 refine Lp (args:=[iv n]) 9 Tryz.func139 rfl rfl (Nat.le_of_ble_eq_true rfl) ?_
 have K0:=KM.refl (fun _=>False) w0
 refine KH (KF (KG (.bool false) rfl rfl (KT rfl rfl rr) (KL ?_)))
 have s3:=K4 (iv n)
 have s4:=K4 (undef)
 refine KE (KH ?_)
 by_cases d5:0<=n
 ·skip
  refine KF (KS rfl rfl rfl s3 (KG (.bool true) rfl rfl (Nh rfl rfl rfl (decide_eq_true d5) rr) (KG (.bool true) rfl rfl (KN rfl rfl rr) (KO (iv n) 2 true 5 rfl rfl rfl rfl rfl (KN rfl s3 rr) (KO (.bool (decide (n<=64))) 2 true 5 rfl rfl rfl rfl rfl (Nc rfl rfl rfl rfl rr) (KG (.bool (decide (n<=64))) rfl rfl (Ld rfl rfl rfl rr) (KG (.bool (decide (n<=64))) rfl rfl (KT rfl rfl rr) (KL ?_))))))))
  have s9:=K4 (.bool (decide (n<=64)))
  refine KE (La ?_)
  exact Lq (v:=.bool (decide (n<=64))) s4 rfl rfl s9 ⟨(O8 (by first|exact(decide_eq_true (by omega)).symm|exact(decide_eq_false (by omega)).symm|exact decide_eq_decide.2 (by omega))),K0⟩
 ·skip
  refine KF (KS rfl rfl rfl s3 (KG (.bool false) rfl rfl (Nh rfl rfl rfl (decide_eq_false d5) rr) (KG (.bool false) rfl rfl (KN rfl rfl rr) (KI 2 true 5 rfl rfl rfl (Or.inl rfl) rfl (KI 2 true 5 rfl rfl rfl (Or.inl rfl) rfl (KG (.bool false) rfl rfl (K6 rfl rfl rfl rr) (KG (.bool false) rfl rfl (KT rfl rfl rr) (KL ?_))))))))
  have ah:=K4 (.bool false)
  refine KE (La ?_)
  exact Lq (v:=.bool false) s4 rfl rfl ah ⟨(O8 (by first|exact(decide_eq_true (by omega)).symm|exact(decide_eq_false (by omega)).symm|exact decide_eq_decide.2 (by omega))),K0⟩
theorem ayL(p x y:Int)(k:Nat)(f:FD)(f0 f1 f2:Value)(b1:Nat)(b2:Nat)(b3:Nat)(b4:Nat)(T_f0:Nat->Prop)(T_f1:Nat->Prop)(T_f2:Nat->Prop)(w0:World)(hx:0<=x/\x<=64)(hy:0<=y/\y<=64)(hk:k<4)(h_f0:L7 w0 T_f0 f0 ((f).p0))(h_f1:L7 w0 T_f1 f1 ((f).p1))(h_f2:L7 w0 T_f2 f2 ((f).p2))(h_b1:Mu w0 b1 29 [.int .i64 ((f).W),.int .i64 ((f).H),f0,f1,f2])(h_b2:PH w0 b2 3 (.int .i64 (p)))(h_b3:PH w0 b3 3 (.int .i64 (x)))(h_b4:PH w0 b4 3 (.int .i64 (y))) :
  Calls Tryz.prog 164 #[.int .i64 (((k:Nat):Int)),.pointer (some ⟨b1,0,none⟩),.pointer (some ⟨b2,0,none⟩),.pointer (some ⟨b3,0,none⟩),.pointer (some ⟨b4,0,none⟩)] w0 fun e w'=>e = .returned (.int .i64 (Nt f p (x+(k:Int)) (y-1)))/\KM (fun _=>False) w0 w':=by
 refine Lp (args:=[iv ((k:Nat):Int),pt b1 0,pt b2 0,pt b3 0,pt b4 0]) 15 Tryz.func164 rfl rfl (Nat.le_of_ble_eq_true rfl) ?_
 have g_f0:=KP.refl w0 T_f0
 have g_f1:=KP.refl w0 T_f1
 have g_f2:=KP.refl w0 T_f2
 refine KH (KF (KG (iv 0) rfl rfl (KT rfl rfl rr) (KL ?_)))
 have s3:=K4 (iv ((k:Nat):Int))
 have s4:=K4 (pt b1 0)
 have s5:=K4 (pt b2 0)
 have s6:=K4 (pt b3 0)
 have s7:=K4 (pt b4 0)
 have s8:=K4 (undef)
 refine KE (KH (KF (KG (.agg #[iv (f.W),iv (f.H),f0,f1,f2]) rfl rfl (KU KZ rfl s4 h_b1 rr) (KG (iv p) rfl rfl (MB rfl s5 Tryz.underlying3 h_b2 rfl rr) (KG (iv x) rfl rfl (MB rfl s6 Tryz.underlying3 h_b3 rfl rr) (KS rfl rfl rfl s3 (KG (iv (x+((k:Nat):Int))) rfl rfl (LN rfl rfl rfl (Ma rfl (by omega)) rr) (KG (iv y) rfl rfl (MB rfl s7 Tryz.underlying3 h_b4 rfl rr) (KG (iv (y-1)) rfl rfl (UZ rfl rfl rfl (Ma rfl (by omega)) rr) (LV rfl rfl rfl rfl rfl (fun _ _=>by kernel_rfl) (Lj rfl (Lj rfl (Lj rfl (Lj rfl LP)))) (Tb p (x+((k:Nat):Int)) (y-1) f f0 f1 f2 T_f0 T_f1 T_f2 _  h_f0 h_f1 h_f2 ) fun w9 ai=>?_))))))))))
 refine KG (iv (Nt f p (x+((k:Nat):Int)) (y-1))) rfl rfl (KT rfl rfl rr) (KL ?_)
 have aj:=K4 (iv (Nt f p (x+((k:Nat):Int)) (y-1)))
 refine KE (La ?_)
 exact Lq (v:=iv (Nt f p (x+((k:Nat):Int)) (y-1))) s8 rfl rfl aj ⟨rfl,((KM.refl (fun _=>False) w0).tr ai)⟩
theorem az7(p x y:Int)(k:Nat)(f:FD)(f0 f1 f2:Value)(b1:Nat)(b2:Nat)(b3:Nat)(b4:Nat)(T_f0:Nat->Prop)(T_f1:Nat->Prop)(T_f2:Nat->Prop)(w0:World)(hx:0<=x/\x<=64)(hy:0<=y/\y<=64)(hk:k<4)(h_f0:L7 w0 T_f0 f0 ((f).p0))(h_f1:L7 w0 T_f1 f1 ((f).p1))(h_f2:L7 w0 T_f2 f2 ((f).p2))(h_b1:Mu w0 b1 29 [.int .i64 ((f).W),.int .i64 ((f).H),f0,f1,f2])(h_b2:PH w0 b2 3 (.int .i64 (p)))(h_b3:PH w0 b3 3 (.int .i64 (x)))(h_b4:PH w0 b4 3 (.int .i64 (y))) :
  Calls Tryz.prog 165 #[.int .i64 (((k:Nat):Int)),.pointer (some ⟨b1,0,none⟩),.pointer (some ⟨b2,0,none⟩),.pointer (some ⟨b3,0,none⟩),.pointer (some ⟨b4,0,none⟩)] w0 fun e w'=>e = .returned (.int .i64 (Nt f p (x-1) (y+(k:Int))))/\KM (fun _=>False) w0 w':=by
 refine Lp (args:=[iv ((k:Nat):Int),pt b1 0,pt b2 0,pt b3 0,pt b4 0]) 15 Tryz.func165 rfl rfl (Nat.le_of_ble_eq_true rfl) ?_
 have g_f0:=KP.refl w0 T_f0
 have g_f1:=KP.refl w0 T_f1
 have g_f2:=KP.refl w0 T_f2
 refine KH (KF (KG (iv 0) rfl rfl (KT rfl rfl rr) (KL ?_)))
 have s3:=K4 (iv ((k:Nat):Int))
 have s4:=K4 (pt b1 0)
 have s5:=K4 (pt b2 0)
 have s6:=K4 (pt b3 0)
 have s7:=K4 (pt b4 0)
 have s8:=K4 (undef)
 refine KE (KH (KF (KG (.agg #[iv (f.W),iv (f.H),f0,f1,f2]) rfl rfl (KU KZ rfl s4 h_b1 rr) (KG (iv p) rfl rfl (MB rfl s5 Tryz.underlying3 h_b2 rfl rr) (KG (iv x) rfl rfl (MB rfl s6 Tryz.underlying3 h_b3 rfl rr) (KG (iv (x-1)) rfl rfl (UZ rfl rfl rfl (Ma rfl (by omega)) rr) (KG (iv y) rfl rfl (MB rfl s7 Tryz.underlying3 h_b4 rfl rr) (KS rfl rfl rfl s3 (KG (iv (y+((k:Nat):Int))) rfl rfl (LN rfl rfl rfl (Ma rfl (by omega)) rr) (LV rfl rfl rfl rfl rfl (fun _ _=>by kernel_rfl) (Lj rfl (Lj rfl (Lj rfl (Lj rfl LP)))) (Tb p (x-1) (y+((k:Nat):Int)) f f0 f1 f2 T_f0 T_f1 T_f2 _  h_f0 h_f1 h_f2 ) fun w9 ai=>?_))))))))))
 refine KG (iv (Nt f p (x-1) (y+((k:Nat):Int)))) rfl rfl (KT rfl rfl rr) (KL ?_)
 have aj:=K4 (iv (Nt f p (x-1) (y+((k:Nat):Int))))
 refine KE (La ?_)
 exact Lq (v:=iv (Nt f p (x-1) (y+((k:Nat):Int)))) s8 rfl rfl aj ⟨rfl,((KM.refl (fun _=>False) w0).tr ai)⟩
def QM(ahead:Int)(g:Nat->Int):Nat->Int:=fun i=>if ahead > 0 then g i else 128
theorem X4{a:Int}{g:Nat->Int}{k:Nat}(h:a > 0):g k=QM a g k:=(if_pos h).symm
theorem Zw{a:Int}{g:Nat->Int}{k:Nat}(h:¬ a > 0):128=QM a g k:=(if_neg h).symm
theorem XT(ahead:Int)(fv:Value)(g:Nat->Int)(w0:World)(hg:Yp w0 4 fv g) :
  Calls Tryz.prog 163 #[.int .i64 (ahead),fv] w0 fun e w'=>e = .returned (.agg (L6 4 (QM ahead g)).toArray)/\KM (fun _=>False) w0 w':=by
 refine Lp (args:=[iv ahead,fv]) 21 Tryz.func163 rfl rfl (Nat.le_of_ble_eq_true rfl) ?_
 have K0:=KM.refl (fun _=>False) w0
 refine KH (KF (PK rfl rfl rfl M6.2.2 fun p1 w2 e5 B3 k4=>?_))
 have K8:=K0.tr k4
 refine KL ?_
 have aM:=K4 (iv ahead)
 have aN:=K4 (fv)
 have aO:=K4 (undef)
 have aP:=K4 (pt p1 0)
 refine KE (KH (KF (PK rfl rfl rfl M6.2.2 fun aa bg aw aQ az=>?_)))
 have aj:=LS (Nat.le_of_eq aw.symm)
 have aA:=KP.new K8 aj
 have aB:=KJ.new aj (LR B3.lt)
 clear aw aj
 have aR:=B3.all az id
 refine KL ?_
 have aS:=K4 (pt aa 0)
 refine KE (KH (KH (KF (KG (iv 0) rfl rfl (KN rfl rfl rr) (KL ?_)))))
 have aT:=K4 (iv 0)
 refine KE (Lk (M1 (fun nn FF ww=>∃ (k:Nat),(k<=4)/\nn=4-k/\FF 0=iv ahead/\FF 1=fv/\FF 4=pt p1 0/\FF 5=pt aa 0/\FF 21=undef/\FF 7=iv ((k:Nat):Int)/\KM (fun _=>False) w0 ww/\Pq ww p1 172 4 (fun _=>0)/\Pq ww aa 172 4 (upto k (fun _=>0) (QM ahead g))) (4-0) ⟨0,by omega,rfl,aM,aN,aP,aS,aO,aT,(K8.tr az),aR,aQ.first⟩ ?_))
 rintro bh bi aU ⟨k,i44,hn43,ak,am,ah,ac,an,ai,aC,aD,aE⟩
 refine KH (KF (KG (.bool (decide (((k:Nat):Int)<4))) rfl rfl (L2 rfl ai rfl rfl rr) (KL ?_)))
 have aV:=K4 (.bool (decide (((k:Nat):Int)<4)))
 refine KE (KH ?_)
 refine K5 aV (fun ae=>?_) (fun ae=>?_)
 ·replace ae:=of_decide_eq_true ae
  refine Lf (KE (KH (Lk (KH (KF (KS rfl rfl rfl ai (KG (iv ((k:Nat):Int)) rfl rfl (KT rfl rfl rr) (KL ?_))))))))
  have ao:=K4 (iv ((k:Nat):Int))
  refine KE (KH (KF (KS rfl rfl rfl ao (KG (.pointer (some ⟨aa,k,none⟩)) rfl rfl (LQ k (s:=1) rfl ac rfl (by omega) Tryz.underlying172 (by omega) (by kernel_rfl) (by omega) rr) (VB rfl rfl rfl rfl rfl aE (by omega) (by kernel_rfl) fun aW ap aF=>?_)))))
  have aG:=aD.all aF (aB.symm p1 rfl)
  have aq:=aC.trans aF (KP.ok (S:=fun _=>False) aA K3)
  refine KL ?_
  refine KE (KH (KF (KS rfl rfl rfl ak (KG (.bool (decide (0<ahead))) rfl rfl (Mp rfl rfl rfl rfl rr) (KL ?_)))))
  have aX:=K4 (.bool (decide (0<ahead)))
  refine KE ?_
  refine K5 aX (fun af=>?_) (fun af=>?_)
  ·replace af:=of_decide_eq_true af
   refine KF (KS rfl rfl rfl ao (KS rfl rfl rfl am (KS rfl rfl rfl ao (Lw (R:=fun v_ w_=>v_=iv (g k)/\KM (fun _=>False) aW w_) rfl rfl (aCS rfl rfl rfl rfl rfl (hg.all aq) (by omega) (fun e_ w_ h_=>⟨_,h_.1,rfl,h_.2⟩)) ?_))))
   rintro _ bj ⟨rfl,aH⟩
   obtain⟨aY,aZ⟩:=NL aH aG ap
   refine KG (.pointer (some ⟨aa,k,none⟩)) rfl rfl (LQ k (s:=1) rfl ac rfl (by omega) Tryz.underlying172 (by omega) (by kernel_rfl) (by omega) rr) (VB rfl rfl rfl rfl rfl aZ (by omega) (by kernel_rfl) fun bl aI aJ=>?_)
   have a8:=aY.all aJ (aB.symm p1 rfl)
   refine KL ?_
   refine LA (KE (KF (KG (iv ((k+1:Nat):Int)) rfl rfl (LN rfl ai rfl (L5 (by omega) (by omega)) rr) (KG (iv ((k+1:Nat):Int)) rfl rfl (KN rfl rfl rr) (KL ?_)))))
   have a9:=K4 (iv ((k+1:Nat):Int))
   exact KE ⟨(4-(k+1)),by omega,k+1,by omega,rfl,ak,am,ah,ac,an,a9,((aq.tr aH).trans aJ (KP.ok (S:=fun _=>False) aA K3)),a8,(by first|exact aI.next2 (X4 (by omega))|exact aI.next (Zw (by omega)))⟩
  ·replace af:=of_decide_eq_false af
   refine Lf (LA (KE (KF (KG (iv ((k+1:Nat):Int)) rfl rfl (LN rfl ai rfl (L5 (by omega) (by omega)) rr) (KG (iv ((k+1:Nat):Int)) rfl rfl (KN rfl rfl rr) (KL ?_))))))
   have ba:=K4 (iv ((k+1:Nat):Int))
   exact KE ⟨(4-(k+1)),by omega,k+1,by omega,rfl,ak,am,ah,ac,an,ba,aq,aG,(by first|exact ap.next2 (X4 (by omega))|exact ap.next (Zw (by omega)))⟩
 ·replace ae:=of_decide_eq_false ae
  refine Mf (Lr (Lr ?_))
  have bb:4=k:=by omega
  subst bb
  have bc:Pq aU aa 172 4 (QM ahead g):=(aE.last)
  refine Me (KE (KH (KF (KG (.agg (L6 4 (QM ahead g)).toArray) rfl rfl (Rq M6 rfl ac bc rr) (Q7 M6 rfl rfl rfl ah rfl aD fun bm bd be=>?_)))))
  refine KL ?_
  refine KE (La ?_)
  exact Wy M6 an rfl rfl ah bd ⟨rfl,(aC.trans be (KP.ok (S:=fun _=>False) (KP.new K0 (LS (Nat.le_of_eq e5.symm))) K3))⟩
theorem Z5{p x y:Int}{f:FD}{f0 f1 f2:Value}{b1 b2 b3 b4:Nat}{T0 T1 T2:Nat->Prop}{w:World}(hx:0<=x/\x<=64)(hy:0<=y/\y<=64)(h0:L7 w T0 f0 f.p0)(h1:L7 w T1 f1 f.p1)(h2:L7 w T2 f2 f.p2)
  (g1:Mu w b1 29 [.int .i64 f.W,.int .i64 f.H,f0,f1,f2]) (g2:PH w b2 3 (.int .i64 p)) (g3:PH w b3 3 (.int .i64 x)) (g4:PH w b4 3 (.int .i64 y)) :
  Yp w 4 (.func (.func 164) #[] #[.pointer (some ⟨b1,0,none⟩),.pointer (some ⟨b2,0,none⟩),.pointer (some ⟨b3,0,none⟩),.pointer (some ⟨b4,0,none⟩)]) (fun k=>Nt f p (x+(k:Int)) (y-1)) :=
 ⟨_,[.pointer (some ⟨b1,0,none⟩),.pointer (some ⟨b2,0,none⟩),.pointer (some ⟨b3,0,none⟩),.pointer (some ⟨b4,0,none⟩)],rfl,fun _ _=>by kernel_rfl,fun w' k i hi =>
  ayL p x y i f f0 f1 f2 b1 b2 b3 b4 T0 T1 T2 w' hx hy hi (h0.all k KJ.none) (h1.all k KJ.none) (h2.all k KJ.none) (g1.all k id) (g2.all k id) (g3.all k id) (g4.all k id)⟩
theorem aAi{p x y:Int}{f:FD}{f0 f1 f2:Value}{b1 b2 b3 b4:Nat}{T0 T1 T2:Nat->Prop}{w:World}(hx:0<=x/\x<=64)(hy:0<=y/\y<=64)(h0:L7 w T0 f0 f.p0)(h1:L7 w T1 f1 f.p1)(h2:L7 w T2 f2 f.p2)
  (g1:Mu w b1 29 [.int .i64 f.W,.int .i64 f.H,f0,f1,f2]) (g2:PH w b2 3 (.int .i64 p)) (g3:PH w b3 3 (.int .i64 x)) (g4:PH w b4 3 (.int .i64 y)) :
  Yp w 4 (.func (.func 165) #[] #[.pointer (some ⟨b1,0,none⟩),.pointer (some ⟨b2,0,none⟩),.pointer (some ⟨b3,0,none⟩),.pointer (some ⟨b4,0,none⟩)]) (fun k=>Nt f p (x-1) (y+(k:Int))) :=
 ⟨_,[.pointer (some ⟨b1,0,none⟩),.pointer (some ⟨b2,0,none⟩),.pointer (some ⟨b3,0,none⟩),.pointer (some ⟨b4,0,none⟩)],rfl,fun _ _=>by kernel_rfl,fun w' k i hi =>
  az7 p x y i f f0 f1 f2 b1 b2 b3 b4 T0 T1 T2 w' hx hy hi (h0.all k KJ.none) (h1.all k KJ.none) (h2.all k KJ.none) (g1.all k id) (g2.all k id) (g3.all k id) (g4.all k id)⟩
theorem YA(f:FD)(p x y:Int):QM y (fun k=>Nt f p (x+(k:Int)) (y-1))=fun k=>NY f p x y ((k:Nat):Int):=by
 funext k;unfold QM NY;by_cases h:y<=0
 ·rw[if_neg (by omega),if_pos h]
 ·rw[if_pos (by omega),if_neg h]
theorem ZT(f:FD)(p x y:Int):QM x (fun k=>Nt f p (x-1) (y+(k:Int)))=fun k=>O4 f p x y ((k:Nat):Int):=by
 funext k;unfold QM O4;by_cases h:x<=0
 ·rw[if_neg (by omega),if_pos h]
 ·rw[if_pos (by omega),if_neg h]
theorem aAI(p x y:Int)(f:FD)(f0 f1 f2:Value)(T_f0:Nat->Prop)(T_f1:Nat->Prop)(T_f2:Nat->Prop)(w0:World)(hx:0<=x/\x<=64)(hy:0<=y/\y<=64)(h_f0:L7 w0 T_f0 f0 ((f).p0))(h_f1:L7 w0 T_f1 f1 ((f).p1))(h_f2:L7 w0 T_f2 f2 ((f).p2)) :
  Calls Tryz.prog 142 #[.agg #[.int .i64 ((f).W),.int .i64 ((f).H),f0,f1,f2],.int .i64 (p),.int .i64 (x),.int .i64 (y)] w0 fun e w'=>e = .returned (.agg (L6 4 (fun k=>NY f p x y ((k:Nat):Int))).toArray)/\KM (fun _=>False) w0 w':=by
 refine Lp (args:=[.agg #[iv (f.W),iv (f.H),f0,f1,f2],iv p,iv x,iv y]) 12 Tryz.func142 rfl rfl (Nat.le_of_ble_eq_true rfl) ?_
 have g_f0:=KP.refl w0 T_f0
 have g_f1:=KP.refl w0 T_f1
 have g_f2:=KP.refl w0 T_f2
 refine KH (KF (Lt (vs:=[iv (f.W),iv (f.H),f0,f1,f2]) rfl rfl rfl rfl fun p1 w2 B4 g5 k3=>?_))
 obtain⟨au,av,aw⟩:=Nx k3 h_f0 h_f1 h_f2
 refine Ph rfl rfl rfl rfl (by rfl) fun ab bi az bj ah=>?_
 obtain⟨aA,aB,aC,aD⟩:=OS ah au av aw B4
 refine Ph rfl rfl rfl rfl (by rfl) fun ac bl aE bm ai=>?_
 obtain⟨aF,aG,aH,aI,aJ⟩:=OR ai aA aB aC aD az
 refine Ph rfl rfl rfl rfl (by rfl) fun ae bn aK bo aj=>?_
 obtain⟨aL,aM,aN,aO,aP,aQ⟩:=Qt aj aF aG aH aI aJ aE
 have ak:=((((KM.refl (fun _=>False) w0).tr k3).tr ah).tr ai).tr aj
 refine PK rfl rfl rfl M6.2.2 fun aR aS aT aU am=>?_
 obtain⟨aV,aW,aX,aY,aZ,a8,an⟩:=Sl am aL aM aN aO aP aQ aK
 refine KL ?_
 have a9:=K4 (undef)
 have ba:=K4 (pt p1 0)
 have bb:=K4 (pt ab 0)
 have bc:=K4 (pt ac 0)
 have ao:=K4 (pt ae 0)
 have ap:=K4 (pt aR 0)
 refine KE (KH (KF (KG (iv y) rfl rfl (MB rfl ao Tryz.underlying3 an rfl rr) (KG (.func (.func 164) #[] #[pt p1 0,pt ab 0,pt ac 0,pt ae 0]) rfl rfl (Wq rfl (Lj ba (Lj bb (Lj bc (Lj ao LP)))) rr) (Lw (R:=fun v_ w_=>v_ = .agg (L6 4 (fun k=>NY f p x y ((k:Nat):Int))).toArray/\KM (fun _=>False) aS w_) rfl rfl (LE rfl rfl rfl (fun _ _=>by kernel_rfl) (K2 _) (Lj rfl (Lj rfl LP)) (XT y (.func (.func 164) #[] #[pt p1 0,pt ab 0,pt ac 0,pt ae 0]) (fun k=>Nt f p (x+(k:Int)) (y-1))  _ (Z5 hx hy aV aW aX aY aZ a8 an)  ) (fun e_ w_ h_=>⟨_,h_.1,congrArg (fun z=>Value.agg (L6 4 z).toArray) (YA f p x y),h_.2⟩)) ?_)))))
 rintro _ bp ⟨rfl,aq⟩
 have bd:=aU.all aq id
 refine Q7 M6 rfl rfl rfl ap rfl bd fun bq be bf=>?_
 refine KL ?_
 refine KE (La ?_)
 exact Wy M6 a9 rfl rfl ap be ⟨rfl,(((ak.tr am).tr aq).trans bf (KP.ok (S:=fun _=>False) (KP.new ak (LS (Nat.le_of_eq aT.symm))) K3))⟩
theorem aBA(p x y:Int)(f:FD)(f0 f1 f2:Value)(T_f0:Nat->Prop)(T_f1:Nat->Prop)(T_f2:Nat->Prop)(w0:World)(hx:0<=x/\x<=64)(hy:0<=y/\y<=64)(h_f0:L7 w0 T_f0 f0 ((f).p0))(h_f1:L7 w0 T_f1 f1 ((f).p1))(h_f2:L7 w0 T_f2 f2 ((f).p2)) :
  Calls Tryz.prog 143 #[.agg #[.int .i64 ((f).W),.int .i64 ((f).H),f0,f1,f2],.int .i64 (p),.int .i64 (x),.int .i64 (y)] w0 fun e w'=>e = .returned (.agg (L6 4 (fun k=>O4 f p x y ((k:Nat):Int))).toArray)/\KM (fun _=>False) w0 w':=by
 refine Lp (args:=[.agg #[iv (f.W),iv (f.H),f0,f1,f2],iv p,iv x,iv y]) 12 Tryz.func143 rfl rfl (Nat.le_of_ble_eq_true rfl) ?_
 have g_f0:=KP.refl w0 T_f0
 have g_f1:=KP.refl w0 T_f1
 have g_f2:=KP.refl w0 T_f2
 refine KH (KF (Lt (vs:=[iv (f.W),iv (f.H),f0,f1,f2]) rfl rfl rfl rfl fun p1 w2 B4 g5 k3=>?_))
 obtain⟨au,av,aw⟩:=Nx k3 h_f0 h_f1 h_f2
 refine Ph rfl rfl rfl rfl (by rfl) fun ab bi az bj ah=>?_
 obtain⟨aA,aB,aC,aD⟩:=OS ah au av aw B4
 refine Ph rfl rfl rfl rfl (by rfl) fun ac bl aE bm ai=>?_
 obtain⟨aF,aG,aH,aI,aJ⟩:=OR ai aA aB aC aD az
 refine Ph rfl rfl rfl rfl (by rfl) fun ae bn aK bo aj=>?_
 obtain⟨aL,aM,aN,aO,aP,aQ⟩:=Qt aj aF aG aH aI aJ aE
 have ak:=((((KM.refl (fun _=>False) w0).tr k3).tr ah).tr ai).tr aj
 refine PK rfl rfl rfl M6.2.2 fun aR aS aT aU am=>?_
 obtain⟨aV,aW,aX,aY,aZ,an,a8⟩:=Sl am aL aM aN aO aP aQ aK
 refine KL ?_
 have a9:=K4 (undef)
 have ba:=K4 (pt p1 0)
 have bb:=K4 (pt ab 0)
 have ao:=K4 (pt ac 0)
 have bc:=K4 (pt ae 0)
 have ap:=K4 (pt aR 0)
 refine KE (KH (KF (KG (iv x) rfl rfl (MB rfl ao Tryz.underlying3 an rfl rr) (KG (.func (.func 165) #[] #[pt p1 0,pt ab 0,pt ac 0,pt ae 0]) rfl rfl (Wq rfl (Lj ba (Lj bb (Lj ao (Lj bc LP)))) rr) (Lw (R:=fun v_ w_=>v_ = .agg (L6 4 (fun k=>O4 f p x y ((k:Nat):Int))).toArray/\KM (fun _=>False) aS w_) rfl rfl (LE rfl rfl rfl (fun _ _=>by kernel_rfl) (K2 _) (Lj rfl (Lj rfl LP)) (XT x (.func (.func 165) #[] #[pt p1 0,pt ab 0,pt ac 0,pt ae 0]) (fun k=>Nt f p (x-1) (y+(k:Int)))  _ (aAi hx hy aV aW aX aY aZ an a8)  ) (fun e_ w_ h_=>⟨_,h_.1,congrArg (fun z=>Value.agg (L6 4 z).toArray) (ZT f p x y),h_.2⟩)) ?_)))))
 rintro _ bp ⟨rfl,aq⟩
 have bd:=aU.all aq id
 refine Q7 M6 rfl rfl rfl ap rfl bd fun bq be bf=>?_
 refine KL ?_
 refine KE (La ?_)
 exact Wy M6 a9 rfl rfl ap be ⟨rfl,(((ak.tr am).tr aq).trans bf (KP.ok (S:=fun _=>False) (KP.new ak (LS (Nat.le_of_eq aT.symm))) K3))⟩
def Nd(e:Nat->Int):Nat->Int
 | 0=>0
 | k+1=>Nd e k+e k
theorem U0{e:Nat->Int}(h:∀ i,0<=e i/\e i<=255)(k:Nat):0<=Nd e k/\Nd e k<=255*k:=by
 induction k with
 | zero=>simp[Nd]
 | succ k ih=>have:=h k;rw[Nd];omega
theorem X6(s:Nat->Int)(w0:World)(he:∀ i,0<=s i/\s i<=255) :
  Calls Tryz.prog 158 #[.agg (L6 4 (s)).toArray] w0 fun e w'=>e = .returned (.int .i64 (Nd s 4))/\KM (fun _=>False) w0 w':=by
 refine Lp (args:=[.agg (L6 4 s).toArray]) 15 Tryz.func158 rfl rfl (Nat.le_of_ble_eq_true rfl) ?_
 refine KH (KF (SC rfl rfl rfl rfl fun p1 w2 e5 B3 k4=>?_))
 have g6:=LS (Nat.le_of_eq e5.symm)
 clear e5 g6
 refine KG (iv 0) rfl rfl (KT rfl rfl rr) (KL ?_)
 have ao:=K4 (undef)
 have ap:=K4 (pt p1 0)
 refine KE (KH (KF (KG (iv 0) rfl rfl (KT rfl rfl rr) (KL ?_))))
 have aq:=K4 (iv 0)
 refine KE (KH (KH (KF (KG (.agg (L6 4 s).toArray) rfl rfl (Rq M6 rfl ap B3 rr) (KG (iv 0) rfl rfl (KN rfl rfl rr) (KL ?_))))))
 have ar:=K4 (.agg (L6 4 s).toArray)
 have au:=K4 (iv 0)
 refine KE (Lk (M1 (fun nn FF ww=>∃ (k:Nat),(k<=4)/\nn=4-k/\FF 6 = .agg (L6 4 s).toArray/\FF 15=undef/\FF 3=iv (Nd s k)/\FF 7=iv ((k:Nat):Int)/\KM (fun _=>False) w0 ww/\Pq ww p1 172 4 s) (4-0) ⟨0,by omega,rfl,ar,ao,aq,au,((KM.refl (fun _=>False) w0).tr k4),B3⟩ ?_))
 rintro aF aG aH ⟨k,i28,hn27,ah,ai,aj,ab,ak,av⟩
 refine KH (KF (KG (.bool (decide (((k:Nat):Int)<4))) rfl rfl (L2 rfl ab rfl rfl rr) (KL ?_)))
 have aw:=K4 (.bool (decide (((k:Nat):Int)<4)))
 refine KE (KH ?_)
 refine K5 aw (fun aa=>?_) (fun aa=>?_)
 ·replace aa:=of_decide_eq_true aa
  refine Lf (KE (KH (Lk (KH (KF (KG (iv (s k)) rfl rfl (aA9 k M6 rfl ah ab (by omega) rfl rr) (KG (iv (s k)) rfl rfl (KT rfl rfl rr) (KL ?_))))))))
  have az:=K4 (iv (s k))
  refine KE ?_
  have ht:=U0 he k
  have hk:=he k
  refine KF (KS rfl rfl rfl aj (KS rfl rfl rfl az (KG (iv ((Nd s k)+(s k))) rfl rfl (LN rfl rfl rfl (Ma rfl (by omega)) rr) (KG (iv ((Nd s k)+(s k))) rfl rfl (KT rfl rfl rr) (KL ?_)))))
  have aA:=K4 (iv ((Nd s k)+(s k)))
  refine LA (KE (KF (KG (iv ((k+1:Nat):Int)) rfl rfl (LN rfl ab rfl (L5 (by omega) (by omega)) rr) (KG (iv ((k+1:Nat):Int)) rfl rfl (KN rfl rfl rr) (KL ?_)))))
  have aB:=K4 (iv ((k+1:Nat):Int))
  exact KE ⟨(4-(k+1)),by omega,k+1,by omega,rfl,ah,ai,aA,aB,ak,av⟩
 ·replace aa:=of_decide_eq_false aa
  refine Mf (Lr (Lr ?_))
  have aC:4=k:=by omega
  subst aC
  refine Me (KE (KH (KF (KS rfl rfl rfl aj (KG (iv (Nd s 4)) rfl rfl (KT rfl rfl rr) (KL ?_))))))
  have aD:=K4 (iv (Nd s 4))
  refine KE (La ?_)
  exact Lq (v:=iv (Nd s 4)) ai rfl rfl aD ⟨rfl,ak⟩
def Uf(a l:Nat->Int)(m i k:Nat):Int :=
 if m=0 then Int.tdiv (Nd a 4+Nd l 4+4) 8 else if m=1 then a k else if m=2 then l i else Int.tdiv (a k+l i+1) 2
theorem aDp(i k:Nat)(n:Int)(b1:Nat)(w0:World)(h_b1:PH w0 b1 3 (.int .i64 (n))) :
  Calls Tryz.prog 159 #[.int .i64 (((i:Nat):Int)),.int .i64 (((k:Nat):Int)),.pointer (some ⟨b1,0,none⟩)] w0 fun e w'=>e = .returned (.int .i64 (n))/\KM (fun _=>False) w0 w':=by
 refine Lp (args:=[iv ((i:Nat):Int),iv ((k:Nat):Int),pt b1 0]) 7 Tryz.func159 rfl rfl (Nat.le_of_ble_eq_true rfl) ?_
 refine KH (KF (KG (iv 0) rfl rfl (KT rfl rfl rr) (KL ?_)))
 have s3:=K4 (pt b1 0)
 have s4:=K4 (undef)
 refine KE (KH (KF (KG (iv n) rfl rfl (MB rfl s3 Tryz.underlying3 h_b1 rfl rr) (KG (iv n) rfl rfl (KT rfl rfl rr) (KL ?_)))))
 have s8:=K4 (iv n)
 refine KE (La ?_)
 exact Lq (v:=iv n) s4 rfl rfl s8 ⟨rfl,(KM.refl (fun _=>False) w0)⟩
theorem aDd(i k:Nat)(a:Nat->Int)(b1:Nat)(w0:World)(hk:k<4)(h_b1:Pq w0 b1 172 4 (a)) :
  Calls Tryz.prog 160 #[.int .i64 (((i:Nat):Int)),.int .i64 (((k:Nat):Int)),.pointer (some ⟨b1,0,none⟩)] w0 fun e w'=>e = .returned (.int .i64 (a k))/\KM (fun _=>False) w0 w':=by
 refine Lp (args:=[iv ((i:Nat):Int),iv ((k:Nat):Int),pt b1 0]) 9 Tryz.func160 rfl rfl (Nat.le_of_ble_eq_true rfl) ?_
 refine KH (KF (KG (iv 0) rfl rfl (KT rfl rfl rr) (KL ?_)))
 have s3:=K4 (iv ((k:Nat):Int))
 have s4:=K4 (pt b1 0)
 have s5:=K4 (undef)
 refine KE (KH (KF (KS rfl rfl rfl s3 (KG (.pointer (some ⟨b1,k,none⟩)) rfl rfl (LQ k (s:=1) rfl s4 rfl (by omega) Tryz.underlying172 (by omega) (by kernel_rfl) (by omega) rr) (KG (iv (a k)) rfl rfl (OE rfl rfl Tryz.underlying3 (h_b1.cell (by omega)) rr) (KG (iv (a k)) rfl rfl (KT rfl rfl rr) (KL ?_)))))))
 have s9:=K4 (iv (a k))
 refine KE (La ?_)
 exact Lq (v:=iv (a k)) s5 rfl rfl s9 ⟨rfl,(KM.refl (fun _=>False) w0)⟩
theorem aDq(i k:Nat)(l:Nat->Int)(b1:Nat)(w0:World)(hi:i<4)(h_b1:Pq w0 b1 172 4 (l)) :
  Calls Tryz.prog 161 #[.int .i64 (((i:Nat):Int)),.int .i64 (((k:Nat):Int)),.pointer (some ⟨b1,0,none⟩)] w0 fun e w'=>e = .returned (.int .i64 (l i))/\KM (fun _=>False) w0 w':=by
 refine Lp (args:=[iv ((i:Nat):Int),iv ((k:Nat):Int),pt b1 0]) 9 Tryz.func161 rfl rfl (Nat.le_of_ble_eq_true rfl) ?_
 refine KH (KF (KG (iv 0) rfl rfl (KT rfl rfl rr) (KL ?_)))
 have s3:=K4 (iv ((i:Nat):Int))
 have s4:=K4 (pt b1 0)
 have s5:=K4 (undef)
 refine KE (KH (KF (KS rfl rfl rfl s3 (KG (.pointer (some ⟨b1,i,none⟩)) rfl rfl (LQ i (s:=1) rfl s4 rfl (by omega) Tryz.underlying172 (by omega) (by kernel_rfl) (by omega) rr) (KG (iv (l i)) rfl rfl (OE rfl rfl Tryz.underlying3 (h_b1.cell (by omega)) rr) (KG (iv (l i)) rfl rfl (KT rfl rfl rr) (KL ?_)))))))
 have s9:=K4 (iv (l i))
 refine KE (La ?_)
 exact Lq (v:=iv (l i)) s5 rfl rfl s9 ⟨rfl,(KM.refl (fun _=>False) w0)⟩
theorem aDn(i k:Nat)(a l:Nat->Int)(b1:Nat)(b2:Nat)(w0:World)(hi:i<4)(hk:k<4)(ha:∀ i,0<=a i/\a i<=255)(hl:∀ i,0<=l i/\l i<=255)(h_b1:Pq w0 b1 172 4 (a))(h_b2:Pq w0 b2 172 4 (l)) :
  Calls Tryz.prog 162 #[.int .i64 (((i:Nat):Int)),.int .i64 (((k:Nat):Int)),.pointer (some ⟨b1,0,none⟩),.pointer (some ⟨b2,0,none⟩)] w0 fun e w'=>e = .returned (.int .i64 (Int.tdiv (a k+l i+1) 2))/\KM (fun _=>False) w0 w':=by
 refine Lp (args:=[iv ((i:Nat):Int),iv ((k:Nat):Int),pt b1 0,pt b2 0]) 16 Tryz.func162 rfl rfl (Nat.le_of_ble_eq_true rfl) ?_
 refine KH (KF (KG (iv 0) rfl rfl (KT rfl rfl rr) (KL ?_)))
 have s3:=K4 (iv ((i:Nat):Int))
 have s4:=K4 (iv ((k:Nat):Int))
 have s5:=K4 (pt b1 0)
 have s6:=K4 (pt b2 0)
 have s7:=K4 (undef)
 refine KE (KH ?_)
 have h1:=ha k
 have h2:=hl i
 refine Ri [some 7,some 8,some 9,some 10,some 11,some 12,some 13,some 14,some 15,some 6] [Pd.eq (iv ((k:Nat):Int)),Pd.eq (.pointer (some ⟨b1,k,none⟩)),Pd.eq (iv (a k)),Pd.eq (iv ((i:Nat):Int)),Pd.eq (.pointer (some ⟨b2,i,none⟩)),Pd.eq (iv (l i)),Pd.eq (iv ((a k)+(l i))),Pd.eq (iv (((a k)+(l i))+1)),Pd.eq (iv (Int.tdiv (a k+l i+1) 2)),Pd.eq (iv (Int.tdiv (a k+l i+1) 2))] (by kernel_rfl) (by kernel_rfl) ?_ ?_
 ·refine KK ?_ ?_
  ·refine Lb.one rfl fun F_ w_ hR hout hD=>?_
   exact(KN rfl ((hout 1 rfl (by decide)).trans s4) ⟨rfl,KM.refl _ _⟩)
  refine KK ?_ ?_
  ·refine Lb.one rfl fun F_ w_ hR hout hD=>?_
   have g7:F_ 7=iv ((k:Nat):Int):=(hD.get 0 rfl rfl rfl)
   exact(LQ k (s:=1) rfl ((hout 2 rfl (by decide)).trans s5) g7 (by omega) Tryz.underlying172 (by omega) (by kernel_rfl) (by omega) ⟨rfl,KM.refl _ _⟩)
  refine KK ?_ ?_
  ·refine Lb.one rfl fun F_ w_ hR hout hD=>?_
   have g8:F_ 8 = .pointer (some ⟨b1,k,none⟩):=(hD.get 0 rfl rfl rfl)
   exact(OE rfl g8 Tryz.underlying3 ((h_b1.all hR id).cell (by omega)) ⟨rfl,KM.refl _ _⟩)
  refine KK ?_ ?_
  ·refine Lb.one rfl fun F_ w_ hR hout hD=>?_
   exact(KN rfl ((hout 0 rfl (by decide)).trans s3) ⟨rfl,KM.refl _ _⟩)
  refine KK ?_ ?_
  ·refine Lb.one rfl fun F_ w_ hR hout hD=>?_
   have am:F_ 10=iv ((i:Nat):Int):=(hD.get 0 rfl rfl rfl)
   exact(LQ i (s:=1) rfl ((hout 3 rfl (by decide)).trans s6) am (by omega) Tryz.underlying172 (by omega) (by kernel_rfl) (by omega) ⟨rfl,KM.refl _ _⟩)
  refine KK ?_ ?_
  ·refine Lb.one rfl fun F_ w_ hR hout hD=>?_
   have an:F_ 11 = .pointer (some ⟨b2,i,none⟩):=(hD.get 0 rfl rfl rfl)
   exact(OE rfl an Tryz.underlying3 ((h_b2.all hR id).cell (by omega)) ⟨rfl,KM.refl _ _⟩)
  refine KK ?_ ?_
  ·refine Lb.one rfl fun F_ w_ hR hout hD=>?_
   have g9:F_ 9=iv (a k):=(hD.get 0 rfl rfl rfl)
   have ap:F_ 12=iv (l i):=(hD.get 1 rfl rfl rfl)
   exact(LN rfl g9 ap (Ma rfl (by omega)) ⟨rfl,KM.refl _ _⟩)
  refine KK ?_ ?_
  ·refine Lb.one rfl fun F_ w_ hR hout hD=>?_
   have aq:F_ 13=iv ((a k)+(l i)):=(hD.get 0 rfl rfl rfl)
   exact(LN rfl aq rfl (Ma rfl (by omega)) ⟨rfl,KM.refl _ _⟩)
  refine KK ?_ ?_
  ·refine Lb.one rfl fun F_ w_ hR hout hD=>?_
   have ar:F_ 14=iv (((a k)+(l i))+1):=(hD.get 0 rfl rfl rfl)
   exact(P7 rfl ar rfl (by first|decide|omega) (Ma rfl (by rw[OX (by omega)];omega)) ⟨rfl,KM.refl _ _⟩)
  refine KK ?_ ?_
  ·refine Lb.one rfl fun F_ w_ hR hout hD=>?_
   have au:F_ 15=iv (Int.tdiv (a k+l i+1) 2):=(hD.get 0 rfl rfl rfl)
   exact(KT rfl au ⟨rfl,KM.refl _ _⟩)
  exact L0
 intro v8 F9 aC aw ab aa
 have az:=(aa 16).trans s7
 have aA:F9 6=iv (Int.tdiv (a k+l i+1) 2):=(aa 6).trans (ab 9 (by decide))
 clear ab aa
 refine KE (La ?_)
 exact Lq (v:=iv (Int.tdiv (a k+l i+1) 2)) az rfl rfl aA ⟨rfl,((KM.refl (fun _=>False) w0).tr aw)⟩
def Fns(w:World)(v:Value)(g:Nat->Nat->Nat->Int):Prop:=∃ c:Nat->Value,v = .agg #[c 0,c 1,c 2,c 3]/\∀ m,m<4->XK w 4 (c m) (g m)
theorem Fns.all{w w':World}{v:Value}{g:Nat->Nat->Nat->Int}(h:Fns w v g)(k:KM (fun _=>False) w w'):Fns w' v g:=by
 obtain⟨c,e,h⟩:=h;exact⟨c,e,fun m hm=>(h m hm).all k⟩
def Pd.fns(g:Nat->Nat->Nat->Int):Pd:=⟨fun v w=>Fns w v g,fun _ _ _ h k=>h.all k⟩
theorem aC4{ρ:Operand->Value}{o:Oper}{w:World}{R:Value->World->Prop}{x y:Operand}{k:IntKind}{v:Value}{g:Nat->Nat->Nat->Int}(j:Nat){i:Int}(ho:o.op = .index 169 x y)(hx:ρ x=v)(hb:Fns w v g)(hy:ρ y = .int k i)(hi:i=(j:Int))(hj:j<4)(h:∀ c,XK w 4 c (g j)->R c w):Lg Tryz.prog ρ o w R:=by
 obtain⟨c,rfl,hc⟩:=hb
 subst hi
 have hs:(Tryz.prog.info? 167).map (·.size)=some 1:=by kernel_rfl
 have hv : #[c 0,c 1,c 2,c 3][j]? = some (c j):=by
  rcases (by omega:j=0\/j=1\/j=2\/j=3) with rfl|rfl|rfl|rfl <;> rfl
 cases hq:Tryz.prog.info? 167 with
 | none=>simp[hq] at hs
 | some i =>
  have hs':i.size=1:=by simpa [hq] using hs
  have hp:(part 167 #[c 0,c 1,c 2,c 3] j).run Tryz.prog w = .ok (c j) w:=by simp[part,isAgg,run_underlying Tryz.underlying167,hv]
  have h1:(0:Int)<=(j:Int):=by omega
  exact N2 (v:=c j) (w':=w) (by simp[execOp,ho,hx,hy,Instr.index,run_underlying Tryz.underlying169,asIntOf,sizeOf,typeInfo,hq,hs',hp,h1,hj]) (h _ (hc j hj))
theorem aCM{w:World}{a l:Nat->Int}{b2 b3 b5:Nat}(ha:∀ i,0<=a i/\a i<=255)(hl:∀ i,0<=l i/\l i<=255)(h2:Pq w b2 172 4 a)(h3:Pq w b3 172 4 l)(h5:PH w b5 3 (.int .i64 (Int.tdiv (Nd a 4+Nd l 4+4) 8))) :
  Fns w (.agg [.func (.func 159) #[] #[.pointer (some ⟨b5,0,none⟩)],.func (.func 160) #[] #[.pointer (some ⟨b2,0,none⟩)],.func (.func 161) #[] #[.pointer (some ⟨b3,0,none⟩)],.func (.func 162) #[] #[.pointer (some ⟨b2,0,none⟩),.pointer (some ⟨b3,0,none⟩)]].toArray) (Uf a l):=by
 refine⟨fun m=>match m with
  | 0=>.func (.func 159) #[] #[.pointer (some ⟨b5,0,none⟩)]
  | 1=>.func (.func 160) #[] #[.pointer (some ⟨b2,0,none⟩)]
  | 2=>.func (.func 161) #[] #[.pointer (some ⟨b3,0,none⟩)]
  | _=>.func (.func 162) #[] #[.pointer (some ⟨b2,0,none⟩),.pointer (some ⟨b3,0,none⟩)],rfl,fun m hm=>?_⟩
 rcases (by omega:m=0\/m=1\/m=2\/m=3) with rfl|rfl|rfl|rfl
 ·exact⟨_,[_],rfl,fun _ _=>by kernel_rfl,fun w' k i j hi hj=>aDp i j _ b5 w' (h5.all k id)⟩
 ·exact⟨_,[_],rfl,fun _ _=>by kernel_rfl,fun w' k i j hi hj=>aDd i j a b2 w' hj (h2.all k id)⟩
 ·exact⟨_,[_],rfl,fun _ _=>by kernel_rfl,fun w' k i j hi hj=>aDq i j l b3 w' hi (h3.all k id)⟩
 ·exact⟨_,[_,_],rfl,fun _ _=>by kernel_rfl,fun w' k i j hi hj=>aDn i j a l b2 b3 w' hi hj ha hl (h2.all k id) (h3.all k id)⟩
theorem Ve(a l:Nat->Int)(w0:World)(ha:∀ i,0<=a i/\a i<=255)(hl:∀ i,0<=l i/\l i<=255) :
  Calls Tryz.prog 141 #[.agg (L6 4 (a)).toArray,.agg (L6 4 (l)).toArray] w0 fun e w'=>∃ (v1:Value),e = .returned v1/\KM (fun _=>False) w0 w'/\(Pd.fns (Uf a l)).says v1 w':=by
 refine Lp (args:=[.agg (L6 4 a).toArray,.agg (L6 4 l).toArray]) 18 Tryz.func141 rfl rfl (Nat.le_of_ble_eq_true rfl) ?_
 refine KH (KF (SC rfl rfl rfl rfl fun p1 w2 e5 B3 k4=>?_))
 have g6:=LS (Nat.le_of_eq e5.symm)
 clear e5 g6
 refine SC rfl rfl rfl rfl fun p9 bt aq ar au=>?_
 have aP:=LS (Nat.le_of_eq aq.symm)
 clear aq aP
 have av:=B3.all au id
 have aw:=((KM.refl (fun _=>False) w0).tr k4).tr au
 refine LF (n:=4) (vs:=[Value.nilFunc,Value.nilFunc,Value.nilFunc,Value.nilFunc]) rfl rfl rfl (by kernel_rfl) fun az aQ aA aB aC=>?_
 obtain⟨aR,aS⟩:=TI aB av ar
 obtain⟨ak,am⟩:=NL aC av ar
 have aD:=aw.tr aC
 refine KL ?_
 have aT:=K4 (undef)
 have aE:=K4 (pt p1 0)
 have aF:=K4 (pt p9 0)
 have aU:=K4 (pt az 0)
 refine KE (KH ?_)
 have h1:=U0 ha 4
 have h2:=U0 hl 4
 refine Na 8 [some 6,some 7,some 8,some 9,some 10,some 11,some 12,some 5] [Pd.eq (.agg (L6 4 a).toArray),Pd.eq (iv (Nd a 4)),Pd.eq (.agg (L6 4 l).toArray),Pd.eq (iv (Nd l 4)),Pd.eq (iv ((Nd a 4)+(Nd l 4))),Pd.eq (iv (((Nd a 4)+(Nd l 4))+4)),Pd.eq (iv (Int.tdiv (Nd a 4+Nd l 4+4) 8)),Pd.cel aQ.heap.size 3 (iv 0)] (by kernel_rfl) (by kernel_rfl) (by kernel_rfl) ?_ ?_
 ·refine KK ?_ ?_
  ·refine Lb.one rfl fun F_ w_ hR hout hD=>?_
   exact(Rq M6 rfl ((hout 2 rfl (by decide)).trans aE) (ak.all hR id) ⟨rfl,KM.refl _ _⟩)
  refine KK ?_ ?_
  ·refine Lb.one rfl fun F_ w_ hR hout hD=>?_
   have g6:F_ 6 = .agg (L6 4 a).toArray:=(hD.get 0 rfl rfl rfl)
   exact(LE rfl rfl rfl (fun _ _=>by kernel_rfl) (K2 _) (Lj g6 LP) (X6 a  _ ha  ) (fun e_ w_ h_=>⟨_,h_.1,rfl,h_.2⟩))
  refine KK ?_ ?_
  ·refine Lb.one rfl fun F_ w_ hR hout hD=>?_
   exact(Rq M6 rfl ((hout 3 rfl (by decide)).trans aF) (am.all hR id) ⟨rfl,KM.refl _ _⟩)
  refine KK ?_ ?_
  ·refine Lb.one rfl fun F_ w_ hR hout hD=>?_
   have g8:F_ 8 = .agg (L6 4 l).toArray:=(hD.get 0 rfl rfl rfl)
   exact(LE rfl rfl rfl (fun _ _=>by kernel_rfl) (K2 _) (Lj g8 LP) (X6 l  _ hl  ) (fun e_ w_ h_=>⟨_,h_.1,rfl,h_.2⟩))
  refine KK ?_ ?_
  ·refine Lb.one rfl fun F_ w_ hR hout hD=>?_
   have g7:F_ 7=iv (Nd a 4):=(hD.get 0 rfl rfl rfl)
   have g9:F_ 9=iv (Nd l 4):=(hD.get 1 rfl rfl rfl)
   exact(LN rfl g7 g9 (Ma rfl (by omega)) ⟨rfl,KM.refl _ _⟩)
  refine KK ?_ ?_
  ·refine Lb.one rfl fun F_ w_ hR hout hD=>?_
   have aY:F_ 10=iv ((Nd a 4)+(Nd l 4)):=(hD.get 0 rfl rfl rfl)
   exact(LN rfl aY rfl (Ma rfl (by omega)) ⟨rfl,KM.refl _ _⟩)
  refine KK ?_ ?_
  ·refine Lb.one rfl fun F_ w_ hR hout hD=>?_
   have aZ:F_ 11=iv (((Nd a 4)+(Nd l 4))+4):=(hD.get 0 rfl rfl rfl)
   exact(P7 rfl aZ rfl (by first|decide|omega) (Ma rfl (by rw[aDw (by omega)];omega)) ⟨rfl,KM.refl _ _⟩)
  refine KK ?_ ?_
  ·refine Lb.one rfl fun F_ w_ hR hout hD=>?_
   exact XZ (v:=iv 0) rfl (by kernel_rfl) rfl ⟨⟨_,rfl,hR.size,heap_alloc_new _ _⟩,(KM.refl _ _).alloc _⟩
  exact L0
 intro bu aG a8 aH an ae
 obtain⟨a9,ba,bb⟩:=Nx aH ak am aA
 obtain⟨bc,aI,aJ,aK⟩:=t4 ae 18 aT 2 aE 3 aF 4 aU
 obtain⟨ac,bd,af,ao⟩:=an 7 (by decide)
 replace ao:PH a8 ac 3 (iv 0):=ao
 have be:=KJ.new (LS af) (LR ak.lt)
 have bf:=KJ.new (LS af) (LR am.lt)
 have aL:=KJ.new (LS af) (LR aA.lt)
 have aM:aG 5=pt ac 0:=(ae 5).trans bd
 have bg:aG 12=iv (Int.tdiv (Nd a 4+Nd l 4+4) 8):=(ae 12).trans (an 6 (by decide))
 clear an ae
 refine L3 rfl rfl rfl aM bg ao (by rfl) (by kernel_rfl) fun bz bh ah=>?_
 have bi:=a9.all ah (be.symm p1 rfl)
 have bj:=ba.all ah (bf.symm p9 rfl)
 have bl:=bb.all ah (aL.symm az rfl)
 refine KL ?_
 refine KE (KH (KF (KG (.func (.func 159) #[] #[pt ac 0]) rfl rfl (Wq rfl (Lj aM LP) rr) (KG (.func (.func 160) #[] #[pt p1 0]) rfl rfl (Wq rfl (Lj aI LP) rr) (KG (.func (.func 161) #[] #[pt p9 0]) rfl rfl (Wq rfl (Lj aJ LP) rr) (KG (.func (.func 162) #[] #[pt p1 0,pt p9 0]) rfl rfl (Wq rfl (Lj aI (Lj aJ LP)) rr) (KG (.agg #[.func (.func 159) #[] #[pt ac 0],.func (.func 160) #[] #[pt p1 0],.func (.func 161) #[] #[pt p9 0],.func (.func 162) #[] #[pt p1 0,pt p9 0]]) rfl rfl (LW (l':=[(0,.func (.func 159) #[] #[pt ac 0]),(1,.func (.func 160) #[] #[pt p1 0]),(2,.func (.func 161) #[] #[pt p9 0]),(3,.func (.func 162) #[] #[pt p1 0,pt p9 0])]) (cells:=#[.func (.func 159) #[] #[pt ac 0],.func (.func 160) #[] #[pt p1 0],.func (.func 161) #[] #[pt p9 0],.func (.func 162) #[] #[pt p1 0,pt p9 0]]) rfl (ST rfl (ST rfl (ST rfl (ST rfl QZ)))) (by kernel_rfl) rfl rr) (Lh (us:=[.func (.func 159) #[] #[pt ac 0],.func (.func 160) #[] #[pt p1 0],.func (.func 161) #[] #[pt p9 0],.func (.func 162) #[] #[pt p1 0,pt p9 0]]) XD rfl rfl rfl aK rfl bl rfl (KX rfl (KX rfl (KX rfl (KX rfl MC)))) fun bA bm ai=>?_))))))))
 have bn:=bi.all ai (aR.symm p1 rfl)
 have bo:=bj.all ai (aS.symm p9 rfl)
 have bp:=bh.all ai (aL ac rfl)
 refine KL ?_
 refine KE (La ?_)
 exact O2 (vs:=[.func (.func 159) #[] #[pt ac 0],.func (.func 160) #[] #[pt p1 0],.func (.func 161) #[] #[pt p9 0],.func (.func 162) #[] #[pt p1 0,pt p9 0]]) XD bc rfl rfl aK bm ⟨_,rfl,(((aD.tr aH).trans ah (KP.ok (S:=fun _=>False) (KP.new aD (LS af)) K3)).trans ai (KP.ok (S:=fun _=>False) (KP.new aw aB) K3)),aCM ha hl bn bo bp⟩
theorem ZN(fv:Value)(g:Nat->Nat->Int)(w0:World)(hg:XK w0 4 fv g) :
  Calls Tryz.prog 140 #[fv] w0 fun e w'=>e = .returned (LH (fun n=>g (n/4) (n%4)))/\KM (fun _=>False) w0 w':=by
 refine Lp (args:=[fv]) 18 Tryz.func140 rfl rfl (Nat.le_of_ble_eq_true rfl) ?_
 have K0:=KM.refl (fun _=>False) w0
 refine KH (KF (LY rfl rfl rfl KW.2.2 fun p1 w2 e5 B3 k4=>?_))
 have K8:=K0.tr k4
 refine KL ?_
 have aE:=K4 (fv)
 have aF:=K4 (undef)
 have aG:=K4 (pt p1 0)
 refine KE (KH (KF (LY rfl rfl rfl KW.2.2 fun aa aX ao aH ap=>?_)))
 have aq:=LS (Nat.le_of_eq ao.symm)
 have aI:=KJ.new aq (LR B3.lt)
 clear ao
 have aJ:=B3.all ap id
 refine KL ?_
 have aK:=K4 (pt aa 0)
 refine KE (KH (KH (KF (KG (iv 0) rfl rfl (KN rfl rfl rr) (KL ?_)))))
 have aL:=K4 (iv 0)
 refine KE (Lk (M1 (fun nn FF ww=>∃ (n:Nat),(n<=16)/\nn=16-n/\FF 0=fv/\FF 2=pt p1 0/\FF 3=pt aa 0/\FF 18=undef/\FF 5=iv ((n:Nat):Int)/\KM (fun _=>False) w0 ww/\NI ww p1 69 (fun _=>0)/\NI ww aa 69 (upto n (fun _=>0) (fun n=>g (n/4) (n%4)))) (16-0) ⟨0,by omega,rfl,aE,aG,aK,aF,aL,(K8.tr ap),aJ,aH.first⟩ ?_))
 rintro aY aZ ar ⟨n,i41,hn40,au,ae,af,av,ah,ai,aw,az⟩
 refine KH (KF (KG (.bool (decide (((n:Nat):Int)<16))) rfl rfl (L2 rfl ah rfl rfl rr) (KL ?_)))
 have aM:=K4 (.bool (decide (((n:Nat):Int)<16)))
 refine KE (KH ?_)
 refine K5 aM (fun ab=>?_) (fun ab=>?_)
 ·replace ab:=of_decide_eq_true ab
  refine Lf (KE (KH (Lk (KH (KF (KS rfl rfl rfl ah (KG (iv ((n:Nat):Int)) rfl rfl (KT rfl rfl rr) (KL ?_))))))))
  have aj:=K4 (iv ((n:Nat):Int))
  refine KE (KF (KS rfl rfl rfl aj (KS rfl rfl rfl au (KS rfl rfl rfl aj (KG (iv (((n/4):Nat):Int)) rfl rfl (P7 rfl rfl rfl (by first|decide|omega) (L5 (WE n 4) (by omega)) rr) (KS rfl rfl rfl aj (KG (iv (((n%4):Nat):Int)) rfl rfl (Xw rfl rfl rfl (by first|decide|omega) (W5 n 4) rr) (Lw (R:=fun v_ w_=>v_=iv (g (n/4) (n%4))/\KM (fun _=>False) ar w_) rfl rfl (aB9 rfl rfl rfl rfl rfl rfl (hg.all ai) (by omega) (by omega) (fun e_ w_ h_=>⟨_,h_.1,rfl,h_.2⟩)) ?_))))))))
  rintro _ a8 ⟨rfl,aA⟩
  obtain⟨aN,aO⟩:=NL aA aw az
  refine KG (.pointer (some ⟨aa,n,none⟩)) rfl rfl (LQ n (s:=1) rfl af rfl (by omega) Tryz.underlying69 (by omega) (by kernel_rfl) (by omega) rr) (NJ rfl rfl rfl rfl rfl aO (by omega) (by kernel_rfl) fun a9 aP aB=>?_)
  have aQ:=aN.all aB (aI.symm p1 rfl)
  refine KL ?_
  refine LA (KE (KF (KG (iv ((n+1:Nat):Int)) rfl rfl (LN rfl ah rfl (L5 (by omega) (by omega)) rr) (KG (iv ((n+1:Nat):Int)) rfl rfl (KN rfl rfl rr) (KL ?_)))))
  have aR:=K4 (iv ((n+1:Nat):Int))
  exact KE ⟨(16-(n+1)),by omega,n+1,by omega,rfl,au,ae,af,av,aR,((ai.tr aA).trans aB (KP.ok (S:=fun _=>False) (KP.new K8 aq) K3)),aQ,(aP.next rfl)⟩
 ·replace ab:=of_decide_eq_false ab
  refine Mf (Lr (Lr ?_))
  have aS:16=n:=by omega
  subst aS
  have aT:NI ar aa 69 (fun n=>g (n/4) (n%4)):=(az.last)
  refine Me (KE (KH (KF (KG (LH (fun n=>g (n/4) (n%4))) rfl rfl (LX KW rfl af aT rr) (Lm KW rfl rfl rfl ae rfl aw fun ba aU aV=>?_)))))
  refine KL ?_
  refine KE (La ?_)
  exact Qz KW av rfl rfl ae aU ⟨rfl,(ai.trans aV (KP.ok (S:=fun _=>False) (KP.new K0 (LS (Nat.le_of_eq e5.symm))) K3))⟩
theorem aAf{f:FD}{p x y mode:Int}(hm:0<=mode/\mode<=3):(fun n=>Uf (fun k=>NY f p x y ((k:Nat):Int)) (fun k=>O4 f p x y ((k:Nat):Int)) mode.toNat (n/4) (n%4))=Xj f p x y mode:=by
 funext n
 rcases (by omega:mode=0\/mode=1\/mode=2\/mode=3) with rfl|rfl|rfl|rfl
 ·show Int.tdiv _ 8=Int.tdiv _ 8
  congr 1
  simp only[Nd,aAa];omega
 ·rfl
 ·rfl
 ·rfl
theorem YS(p x y mode:Int)(f:FD)(f0 f1 f2:Value)(T_f0:Nat->Prop)(T_f1:Nat->Prop)(T_f2:Nat->Prop)(w0:World)(h_f0:L7 w0 T_f0 f0 ((f).p0))(h_f1:L7 w0 T_f1 f1 ((f).p1))(h_f2:L7 w0 T_f2 f2 ((f).p2)) :
  Calls Tryz.prog 112 #[.agg #[.int .i64 ((f).W),.int .i64 ((f).H),f0,f1,f2],.int .i64 (p),.int .i64 (x),.int .i64 (y),.int .i64 (mode)] w0 fun e w'=>e = .returned (.tuple #[LH (Vh f p x y mode),.int .i64 (Ry f p x y mode)])/\KM (fun _=>False) w0 w':=by
 refine Lp (args:=[.agg #[iv (f.W),iv (f.H),f0,f1,f2],iv p,iv x,iv y,iv mode]) 55 Tryz.func112 rfl rfl (Nat.le_of_ble_eq_true rfl) ?_
 have hb:U4 f:=⟨h_f0.lt256,h_f1.lt256,h_f2.lt256⟩
 have g_f0:=KP.refl w0 T_f0
 have g_f1:=KP.refl w0 T_f1
 have g_f2:=KP.refl w0 T_f2
 refine KH (KF (Lt (vs:=[iv (f.W),iv (f.H),f0,f1,f2]) rfl rfl rfl rfl fun p1 w2 B4 g5 k3=>?_))
 obtain⟨bc,bd,be⟩:=Nx k3 h_f0 h_f1 h_f2
 have aE:=(KM.refl (fun _=>False) w0).tr k3
 refine LY rfl rfl rfl KW.2.2 fun bf cO aF am aG=>?_
 have aH:=LS (Nat.le_of_eq aF.symm)
 have ac:=KP.new aE aH
 clear aF aH
 obtain⟨ah,ai,aj,ak⟩:=OS aG bc bd be B4
 have an:=aE.tr aG
 refine KG (iv 0) rfl rfl (KT rfl rfl rr) (KL ?_)
 have ab:=K4 (iv p)
 have ap:=K4 (iv x)
 have au:=K4 (iv y)
 have av:=K4 (iv mode)
 have ae:=K4 (undef)
 have af:=K4 (pt p1 0)
 have aa:=K4 (pt bf 0)
 refine KE (KH (KH ?_))
 by_cases ao:(Np f)≠0
 ·skip
  refine KF (KG (.agg #[iv (f.W),iv (f.H),f0,f1,f2]) rfl rfl (KU KZ rfl af ak rr) (LV rfl rfl rfl rfl rfl (fun _ _=>by kernel_rfl) (Lj rfl LP) (M8 f f0 f1 f2 T_f0 T_f1 T_f2 _  ah ai aj ) fun cP aI=>?_))
  have bg:=am.all aI id
  refine KG (.bool true) rfl rfl (L9 rfl rfl rfl (decide_eq_true ao) rr) (KG (.bool true) rfl rfl (KN rfl rfl rr) (KI 3 false 15 rfl rfl rfl (Or.inl rfl) rfl (KI 3 false 15 rfl rfl rfl (Or.inl rfl) rfl (KG (.bool true) rfl rfl (Ld rfl rfl rfl rr) (KG (.bool true) rfl rfl (KN rfl rfl rr) (KI 7 false 19 rfl rfl rfl (Or.inl rfl) rfl (KI 7 false 19 rfl rfl rfl (Or.inl rfl) rfl (KG (.bool true) rfl rfl (Ld rfl rfl rfl rr) (KG (.bool true) rfl rfl (KN rfl rfl rr) (KI 11 false 23 rfl rfl rfl (Or.inl rfl) rfl (KI 11 false 23 rfl rfl rfl (Or.inl rfl) rfl ?_)))))))))))
  refine KI 11 false 23 rfl rfl rfl (Or.inl rfl) rfl (KG (.bool true) rfl rfl (Ld rfl rfl rfl rr) (KG (.bool true) rfl rfl (KN rfl rfl rr) (KI 16 false 28 rfl rfl rfl (Or.inl rfl) rfl (KI 16 false 28 rfl rfl rfl (Or.inl rfl) rfl (KI 16 false 28 rfl rfl rfl (Or.inl rfl) rfl (KG (.bool true) rfl rfl (Ld rfl rfl rfl rr) (KL ?_)))))))
  have bh:=K4 (.bool true)
  refine KE ?_
  refine K5 (t:=true) bh (fun _=>?_) (fun e=>by cases e)
  refine KH ?_
  have hno:¬ MW f p x y:=by rintro ⟨h1,h2,h3,h4,h5,h6,h7⟩;first|exact absurd ((Mw f).2 h1) (by assumption)|omega
  refine KF (KG (LH (fun _=>0)) rfl rfl (Mt (cells:=(L6 16 (fun _=>0)).toArray) rfl (by kernel_rfl) rfl rr) (Lm KW rfl rfl rfl aa rfl bg fun cQ bi bj=>?_))
  refine KG (iv 70) rfl rfl (KT rfl rfl rr) (KL ?_)
  have bl:=K4 (iv 70)
  refine KE (La (Ln ?_))
  exact L4 ae rfl (Mn KW rfl aa bi) (Lu (v:=iv 70) rfl bl) ⟨(by first|rw[(NO hno).1,(NO hno).2]|rw[(MZ hpl hm).1,(MZ hpl hm).2]|rw[(Ng hpl hm).1,(Ng hpl hm).2]),((an.tr aI).trans bj (KP.ok (S:=fun _=>False) ac K3))⟩
 ·skip
  by_cases aq:p<0
  ·skip
   refine KF (KG (.agg #[iv (f.W),iv (f.H),f0,f1,f2]) rfl rfl (KU KZ rfl af ak rr) (LV rfl rfl rfl rfl rfl (fun _ _=>by kernel_rfl) (Lj rfl LP) (M8 f f0 f1 f2 T_f0 T_f1 T_f2 _  ah ai aj ) fun cR aJ=>?_))
   have bm:=am.all aJ id
   refine KG (.bool false) rfl rfl (L9 rfl rfl rfl (decide_eq_false ao) rr) (KG (.bool false) rfl rfl (KN rfl rfl rr) (KO (iv p) 3 false 15 rfl rfl rfl rfl rfl (KN rfl ab rr) (KO (.bool true) 3 false 15 rfl rfl rfl rfl rfl (L2 rfl rfl rfl (decide_eq_true aq) rr) (KG (.bool true) rfl rfl (K6 rfl rfl rfl rr) (KG (.bool true) rfl rfl (KN rfl rfl rr) (KI 7 false 19 rfl rfl rfl (Or.inl rfl) rfl (KI 7 false 19 rfl rfl rfl (Or.inl rfl) rfl (KG (.bool true) rfl rfl (Ld rfl rfl rfl rr) (KG (.bool true) rfl rfl (KN rfl rfl rr) (KI 11 false 23 rfl rfl rfl (Or.inl rfl) rfl (KI 11 false 23 rfl rfl rfl (Or.inl rfl) rfl ?_)))))))))))
   refine KI 11 false 23 rfl rfl rfl (Or.inl rfl) rfl (KG (.bool true) rfl rfl (Ld rfl rfl rfl rr) (KG (.bool true) rfl rfl (KN rfl rfl rr) (KI 16 false 28 rfl rfl rfl (Or.inl rfl) rfl (KI 16 false 28 rfl rfl rfl (Or.inl rfl) rfl (KI 16 false 28 rfl rfl rfl (Or.inl rfl) rfl (KG (.bool true) rfl rfl (Ld rfl rfl rfl rr) (KL ?_)))))))
   have bn:=K4 (.bool true)
   refine KE ?_
   refine K5 (t:=true) bn (fun _=>?_) (fun e=>by cases e)
   refine KH ?_
   have hno:¬ MW f p x y:=by rintro ⟨h1,h2,h3,h4,h5,h6,h7⟩;first|exact absurd ((Mw f).2 h1) (by assumption)|omega
   refine KF (KG (LH (fun _=>0)) rfl rfl (Mt (cells:=(L6 16 (fun _=>0)).toArray) rfl (by kernel_rfl) rfl rr) (Lm KW rfl rfl rfl aa rfl bm fun cS bo bp=>?_))
   refine KG (iv 70) rfl rfl (KT rfl rfl rr) (KL ?_)
   have bq:=K4 (iv 70)
   refine KE (La (Ln ?_))
   exact L4 ae rfl (Mn KW rfl aa bo) (Lu (v:=iv 70) rfl bq) ⟨(by first|rw[(NO hno).1,(NO hno).2]|rw[(MZ hpl hm).1,(MZ hpl hm).2]|rw[(Ng hpl hm).1,(Ng hpl hm).2]),((an.tr aJ).trans bp (KP.ok (S:=fun _=>False) ac K3))⟩
  ·skip
   by_cases aw:3<=p
   ·skip
    refine KF (KG (.agg #[iv (f.W),iv (f.H),f0,f1,f2]) rfl rfl (KU KZ rfl af ak rr) (LV rfl rfl rfl rfl rfl (fun _ _=>by kernel_rfl) (Lj rfl LP) (M8 f f0 f1 f2 T_f0 T_f1 T_f2 _  ah ai aj ) fun cT aK=>?_))
    have bt:=am.all aK id
    refine KG (.bool false) rfl rfl (L9 rfl rfl rfl (decide_eq_false ao) rr) (KG (.bool false) rfl rfl (KN rfl rfl rr) (KO (iv p) 3 false 15 rfl rfl rfl rfl rfl (KN rfl ab rr) (KO (.bool false) 3 false 15 rfl rfl rfl rfl rfl (L2 rfl rfl rfl (decide_eq_false aq) rr) (KG (.bool false) rfl rfl (K6 rfl rfl rfl rr) (KG (.bool false) rfl rfl (KN rfl rfl rr) (KO (iv p) 7 false 19 rfl rfl rfl rfl rfl (KN rfl ab rr) (KO (.bool true) 7 false 19 rfl rfl rfl rfl rfl (Nh rfl rfl rfl (decide_eq_true aw) rr) (KG (.bool true) rfl rfl (K6 rfl rfl rfl rr) (KG (.bool true) rfl rfl (KN rfl rfl rr) (KI 11 false 23 rfl rfl rfl (Or.inl rfl) rfl (KI 11 false 23 rfl rfl rfl (Or.inl rfl) rfl ?_)))))))))))
    refine KI 11 false 23 rfl rfl rfl (Or.inl rfl) rfl (KG (.bool true) rfl rfl (Ld rfl rfl rfl rr) (KG (.bool true) rfl rfl (KN rfl rfl rr) (KI 16 false 28 rfl rfl rfl (Or.inl rfl) rfl (KI 16 false 28 rfl rfl rfl (Or.inl rfl) rfl (KI 16 false 28 rfl rfl rfl (Or.inl rfl) rfl (KG (.bool true) rfl rfl (Ld rfl rfl rfl rr) (KL ?_)))))))
    have bu:=K4 (.bool true)
    refine KE ?_
    refine K5 (t:=true) bu (fun _=>?_) (fun e=>by cases e)
    refine KH ?_
    have hno:¬ MW f p x y:=by rintro ⟨h1,h2,h3,h4,h5,h6,h7⟩;first|exact absurd ((Mw f).2 h1) (by assumption)|omega
    refine KF (KG (LH (fun _=>0)) rfl rfl (Mt (cells:=(L6 16 (fun _=>0)).toArray) rfl (by kernel_rfl) rfl rr) (Lm KW rfl rfl rfl aa rfl bt fun cU bv bz=>?_))
    refine KG (iv 70) rfl rfl (KT rfl rfl rr) (KL ?_)
    have bA:=K4 (iv 70)
    refine KE (La (Ln ?_))
    exact L4 ae rfl (Mn KW rfl aa bv) (Lu (v:=iv 70) rfl bA) ⟨(by first|rw[(NO hno).1,(NO hno).2]|rw[(MZ hpl hm).1,(MZ hpl hm).2]|rw[(Ng hpl hm).1,(Ng hpl hm).2]),((an.tr aK).trans bz (KP.ok (S:=fun _=>False) ac K3))⟩
   ·skip
    by_cases az:0<=x/\x<=64
    ·skip
     by_cases aL:0<=y/\y<=64
     ·skip
      refine KF (KG (.agg #[iv (f.W),iv (f.H),f0,f1,f2]) rfl rfl (KU KZ rfl af ak rr) (LV rfl rfl rfl rfl rfl (fun _ _=>by kernel_rfl) (Lj rfl LP) (M8 f f0 f1 f2 T_f0 T_f1 T_f2 _  ah ai aj ) fun bB aM=>?_))
      obtain⟨bC,bD,bE,bF,bG⟩:=OR aM ah ai aj ak am
      refine KG (.bool false) rfl rfl (L9 rfl rfl rfl (decide_eq_false ao) rr) (KG (.bool false) rfl rfl (KN rfl rfl rr) (KO (iv p) 3 false 15 rfl rfl rfl rfl rfl (KN rfl ab rr) (KO (.bool false) 3 false 15 rfl rfl rfl rfl rfl (L2 rfl rfl rfl (decide_eq_false aq) rr) (KG (.bool false) rfl rfl (K6 rfl rfl rfl rr) (KG (.bool false) rfl rfl (KN rfl rfl rr) (KO (iv p) 7 false 19 rfl rfl rfl rfl rfl (KN rfl ab rr) (KO (.bool false) 7 false 19 rfl rfl rfl rfl rfl (Nh rfl rfl rfl (decide_eq_false aw) rr) (KG (.bool false) rfl rfl (K6 rfl rfl rfl rr) (KG (.bool false) rfl rfl (KN rfl rfl rr) (KO (iv x) 11 false 23 rfl rfl rfl rfl rfl (KN rfl ap rr) (Lz (R:=fun v_ w_=>v_ = .bool true/\KM (fun _=>False) bB w_) 11 false 23 rfl rfl rfl rfl rfl (LE rfl rfl rfl (fun _ _=>by kernel_rfl) (K2 _) (Lj rfl LP) (RJ x  _   ) (fun e_ w_ h_=>⟨_,h_.1,(congrArg Value.bool (decide_eq_true az)),h_.2⟩)) ?_)))))))))))
      rintro _ bH ⟨rfl,aN⟩
      obtain⟨bI,bJ,bK,bL,bM⟩:=OR aN bC bD bE bF bG
      refine KO (.bool false) 11 false 23 rfl rfl rfl rfl rfl (LT rfl rfl rfl rr) (KG (.bool false) rfl rfl (K6 rfl rfl rfl rr) (KG (.bool false) rfl rfl (KN rfl rfl rr) (KO (iv y) 16 false 28 rfl rfl rfl rfl rfl (KN rfl au rr) (Lz (R:=fun v_ w_=>v_ = .bool true/\KM (fun _=>False) bH w_) 16 false 28 rfl rfl rfl rfl rfl (LE rfl rfl rfl (fun _ _=>by kernel_rfl) (K2 _) (Lj rfl LP) (RJ y  _   ) (fun e_ w_ h_=>⟨_,h_.1,(congrArg Value.bool (decide_eq_true aL)),h_.2⟩)) ?_))))
      rintro _ cV ⟨rfl,aO⟩
      obtain⟨aP,aQ,aR,aS,aA⟩:=OR aO bI bJ bK bL bM
      have aB:=((an.tr aM).tr aN).tr aO
      refine KO (.bool false) 16 false 28 rfl rfl rfl rfl rfl (LT rfl rfl rfl rr) (KG (.bool false) rfl rfl (K6 rfl rfl rfl rr) (KL ?_))
      have bN:=K4 (.bool false)
      refine KE ?_
      refine K5 (t:=false) bN (fun e=>by cases e) (fun _=>?_)
      refine Lf (KE (KH (KH ?_)))
      have hpl:MW f p x y:=⟨(Mw f).1 (by first|assumption|(apply Decidable.byContradiction;assumption)),by omega,by omega,by omega,by omega,by omega,by omega⟩
      by_cases aT:mode<0
      ·skip
       refine KF (KS rfl rfl rfl av (KG (.bool true) rfl rfl (L2 rfl rfl rfl (decide_eq_true aT) rr) (KG (.bool true) rfl rfl (KN rfl rfl rr) (KI 2 false 36 rfl rfl rfl (Or.inl rfl) rfl (KI 2 false 36 rfl rfl rfl (Or.inl rfl) rfl (KG (.bool true) rfl rfl (Ld rfl rfl rfl rr) (KL ?_)))))))
       have bO:=K4 (.bool true)
       refine KE ?_
       refine K5 (t:=true) bO (fun _=>?_) (fun e=>by cases e)
       refine KH ?_
       have hm:¬ (0<=mode/\mode<=3):=by omega
       refine KF (KG (LH (fun _=>0)) rfl rfl (Mt (cells:=(L6 16 (fun _=>0)).toArray) rfl (by kernel_rfl) rfl rr) (Lm KW rfl rfl rfl aa rfl aA fun cW bP bQ=>?_))
       refine KG (iv 80) rfl rfl (KT rfl rfl rr) (KL ?_)
       have bR:=K4 (iv 80)
       refine KE (La (Ln ?_))
       exact L4 ae rfl (Mn KW rfl aa bP) (Lu (v:=iv 80) rfl bR) ⟨(by first|rw[(NO hno).1,(NO hno).2]|rw[(MZ hpl hm).1,(MZ hpl hm).2]|rw[(Ng hpl hm).1,(Ng hpl hm).2]),(aB.trans bQ (KP.ok (S:=fun _=>False) ac K3))⟩
      ·skip
       refine KF (KS rfl rfl rfl av (KG (.bool false) rfl rfl (L2 rfl rfl rfl (decide_eq_false aT) rr) (KG (.bool false) rfl rfl (KN rfl rfl rr) (KO (iv mode) 2 false 36 rfl rfl rfl rfl rfl (KN rfl av rr) (KO (.bool (decide (4<=mode))) 2 false 36 rfl rfl rfl rfl rfl (Nh rfl rfl rfl rfl rr) (KG (.bool (decide (4<=mode))) rfl rfl (K6 rfl rfl rfl rr) (KL ?_)))))))
       have bS:=K4 (.bool (decide (4<=mode)))
       refine KE ?_
       refine K5 bS (fun ar=>?_) (fun ar=>?_)
       ·replace ar:=of_decide_eq_true ar
        refine KH ?_
        have hm:¬ (0<=mode/\mode<=3):=by omega
        refine KF (KG (LH (fun _=>0)) rfl rfl (Mt (cells:=(L6 16 (fun _=>0)).toArray) rfl (by kernel_rfl) rfl rr) (Lm KW rfl rfl rfl aa rfl aA fun cX bT bU=>?_))
        refine KG (iv 80) rfl rfl (KT rfl rfl rr) (KL ?_)
        have bV:=K4 (iv 80)
        refine KE (La (Ln ?_))
        exact L4 ae rfl (Mn KW rfl aa bT) (Lu (v:=iv 80) rfl bV) ⟨(by first|rw[(NO hno).1,(NO hno).2]|rw[(MZ hpl hm).1,(MZ hpl hm).2]|rw[(Ng hpl hm).1,(Ng hpl hm).2]),(aB.trans bU (KP.ok (S:=fun _=>False) ac K3))⟩
       ·replace ar:=of_decide_eq_false ar
        refine Lf (KE (KH ?_))
        have hm:0<=mode/\mode<=3:=by omega
        refine Na 14 [some 41,some 42,some 43,some 44,some 45,some 46,some 47,some 48,some 49,some 50,some 51,some 52,some 53,some 54] [Pd.eq (.agg #[iv (f.W),iv (f.H),f0,f1,f2]),Pd.eq (iv p),Pd.eq (iv x),Pd.eq (iv y),Pd.eq (.agg (L6 4 (fun k=>NY f p x y ((k:Nat):Int))).toArray),Pd.eq (.agg #[iv (f.W),iv (f.H),f0,f1,f2]),Pd.eq (iv p),Pd.eq (iv x),Pd.eq (iv y),Pd.eq (.agg (L6 4 (fun k=>O4 f p x y ((k:Nat):Int))).toArray),Pd.fns (Uf (fun k=>NY f p x y ((k:Nat):Int)) (fun k=>O4 f p x y ((k:Nat):Int))),Pd.eq (iv mode),Pd.ask2 4 (Uf (fun k=>NY f p x y ((k:Nat):Int)) (fun k=>O4 f p x y ((k:Nat):Int)) mode.toNat),Pd.eq (LH (Xj f p x y mode))] (by kernel_rfl) (by kernel_rfl) (by kernel_rfl) ?_ ?_
        ·refine KK ?_ ?_
         ·refine Lb.one rfl fun F_ w_ hR hout hD=>?_
          exact(KU KZ rfl ((hout 5 rfl (by decide)).trans af) (aS.all hR id) ⟨rfl,KM.refl _ _⟩)
         refine KK ?_ ?_
         ·refine Lb.one rfl fun F_ w_ hR hout hD=>?_
          exact(KN rfl ((hout 1 rfl (by decide)).trans ab) ⟨rfl,KM.refl _ _⟩)
         refine KK ?_ ?_
         ·refine Lb.one rfl fun F_ w_ hR hout hD=>?_
          exact(KN rfl ((hout 2 rfl (by decide)).trans ap) ⟨rfl,KM.refl _ _⟩)
         refine KK ?_ ?_
         ·refine Lb.one rfl fun F_ w_ hR hout hD=>?_
          exact(KN rfl ((hout 3 rfl (by decide)).trans au) ⟨rfl,KM.refl _ _⟩)
         refine KK ?_ ?_
         ·refine Lb.one rfl fun F_ w_ hR hout hD=>?_
          have bW:F_ 41 = .agg #[iv (f.W),iv (f.H),f0,f1,f2]:=(hD.get 0 rfl rfl rfl)
          have bX:F_ 42=iv p:=(hD.get 1 rfl rfl rfl)
          have bY:F_ 43=iv x:=(hD.get 2 rfl rfl rfl)
          have bZ:F_ 44=iv y:=(hD.get 3 rfl rfl rfl)
          exact(LE rfl rfl rfl (fun _ _=>by kernel_rfl) (K2 _) (Lj bW (Lj bX (Lj bY (Lj bZ LP)))) (aAI p x y f f0 f1 f2 T_f0 T_f1 T_f2 _ (by omega) (by omega) (aP.all hR KJ.none) (aQ.all hR KJ.none) (aR.all hR KJ.none) ) (fun e_ w_ h_=>⟨_,h_.1,rfl,h_.2⟩))
         refine KK ?_ ?_
         ·refine Lb.one rfl fun F_ w_ hR hout hD=>?_
          exact(KU KZ rfl ((hout 5 rfl (by decide)).trans af) (aS.all hR id) ⟨rfl,KM.refl _ _⟩)
         refine KK ?_ ?_
         ·refine Lb.one rfl fun F_ w_ hR hout hD=>?_
          exact(KN rfl ((hout 1 rfl (by decide)).trans ab) ⟨rfl,KM.refl _ _⟩)
         refine KK ?_ ?_
         ·refine Lb.one rfl fun F_ w_ hR hout hD=>?_
          exact(KN rfl ((hout 2 rfl (by decide)).trans ap) ⟨rfl,KM.refl _ _⟩)
         refine KK ?_ ?_
         ·refine Lb.one rfl fun F_ w_ hR hout hD=>?_
          exact(KN rfl ((hout 3 rfl (by decide)).trans au) ⟨rfl,KM.refl _ _⟩)
         refine KK ?_ ?_
         ·refine Lb.one rfl fun F_ w_ hR hout hD=>?_
          have b7:F_ 46 = .agg #[iv (f.W),iv (f.H),f0,f1,f2]:=(hD.get 0 rfl rfl rfl)
          have b8:F_ 47=iv p:=(hD.get 1 rfl rfl rfl)
          have b9:F_ 48=iv x:=(hD.get 2 rfl rfl rfl)
          have cd:F_ 49=iv y:=(hD.get 3 rfl rfl rfl)
          exact(LE rfl rfl rfl (fun _ _=>by kernel_rfl) (K2 _) (Lj b7 (Lj b8 (Lj b9 (Lj cd LP)))) (aBA p x y f f0 f1 f2 T_f0 T_f1 T_f2 _ (by omega) (by omega) (aP.all hR KJ.none) (aQ.all hR KJ.none) (aR.all hR KJ.none) ) (fun e_ w_ h_=>⟨_,h_.1,rfl,h_.2⟩))
         refine KK ?_ ?_
         ·refine Lb.one rfl fun F_ w_ hR hout hD=>?_
          have ce:F_ 45 = .agg (L6 4 (fun k=>NY f p x y ((k:Nat):Int))).toArray:=(hD.get 0 rfl rfl rfl)
          have cf:F_ 50 = .agg (L6 4 (fun k=>O4 f p x y ((k:Nat):Int))).toArray:=(hD.get 1 rfl rfl rfl)
          exact(LE rfl rfl rfl (fun _ _=>by kernel_rfl) (K2 _) (Lj ce (Lj cf LP)) (Ve (fun k=>NY f p x y ((k:Nat):Int)) (fun k=>O4 f p x y ((k:Nat):Int))  _ (fun i=>az5 hb p x y _) (fun i=>aBd hb p x y _)  ) (fun e_ w_ h_=>by obtain⟨v_,he_,k_,hb_⟩:=h_;exact⟨v_,he_,hb_,k_⟩))
         refine KK ?_ ?_
         ·refine Lb.one rfl fun F_ w_ hR hout hD=>?_
          exact(KN rfl ((hout 4 rfl (by decide)).trans av) ⟨rfl,KM.refl _ _⟩)
         refine KK ?_ ?_
         ·refine Lb.one rfl fun F_ w_ hR hout hD=>?_
          have cg:(Pd.fns (Uf (fun k=>NY f p x y ((k:Nat):Int)) (fun k=>O4 f p x y ((k:Nat):Int)))).says (F_ 51) w_:=hD.get 0 rfl rfl rfl
          have ci:F_ 52=iv mode:=(hD.get 1 rfl rfl rfl)
          exact aC4 (mode.toNat) rfl rfl cg ci (by omega) (by omega) fun c_ hc_=>⟨hc_,KM.refl _ _⟩
         refine KK ?_ ?_
         ·refine Lb.one rfl fun F_ w_ hR hout hD=>?_
          have cj:(Pd.ask2 4 (Uf (fun k=>NY f p x y ((k:Nat):Int)) (fun k=>O4 f p x y ((k:Nat):Int)) mode.toNat)).says (F_ 53) w_:=hD.get 0 rfl rfl rfl
          exact(LE rfl rfl rfl (fun _ _=>by kernel_rfl) (K2 _) (Lj rfl LP) (ZN (F_ 53) (Uf (fun k=>NY f p x y ((k:Nat):Int)) (fun k=>O4 f p x y ((k:Nat):Int)) mode.toNat)  _ cj  ) (fun e_ w_ h_=>⟨_,h_.1,congrArg LH (aAf hm),h_.2⟩))
         exact L0
        intro cY cm cZ aU aV aC
        have cn:=aA.all aU id
        obtain⟨co,aW⟩:=t2 aC 55 ae 10 aa
        have cq:cm 54=LH (Xj f p x y mode):=(aC 54).trans (aV 13 (by decide))
        clear aV aC
        refine Lm KW rfl rfl rfl aW cq cn fun c6 cr ct=>?_
        refine KG (iv 0) rfl rfl (KT rfl rfl rr) (KL ?_)
        have cu:=K4 (iv 0)
        refine KE (La ?_)
        exact L4 co rfl (Mn KW rfl aW cr) (Lu (v:=iv 0) rfl cu) ⟨(by first|rw[(NO hno).1,(NO hno).2]|rw[(MZ hpl hm).1,(MZ hpl hm).2]|rw[(Ng hpl hm).1,(Ng hpl hm).2]),((aB.tr aU).trans ct (KP.ok (S:=fun _=>False) ac K3))⟩
     ·skip
      refine KF (KG (.agg #[iv (f.W),iv (f.H),f0,f1,f2]) rfl rfl (KU KZ rfl af ak rr) (LV rfl rfl rfl rfl rfl (fun _ _=>by kernel_rfl) (Lj rfl LP) (M8 f f0 f1 f2 T_f0 T_f1 T_f2 _  ah ai aj ) fun cv aX=>?_))
      have cw:=am.all aX id
      refine KG (.bool false) rfl rfl (L9 rfl rfl rfl (decide_eq_false ao) rr) (KG (.bool false) rfl rfl (KN rfl rfl rr) (KO (iv p) 3 false 15 rfl rfl rfl rfl rfl (KN rfl ab rr) (KO (.bool false) 3 false 15 rfl rfl rfl rfl rfl (L2 rfl rfl rfl (decide_eq_false aq) rr) (KG (.bool false) rfl rfl (K6 rfl rfl rfl rr) (KG (.bool false) rfl rfl (KN rfl rfl rr) (KO (iv p) 7 false 19 rfl rfl rfl rfl rfl (KN rfl ab rr) (KO (.bool false) 7 false 19 rfl rfl rfl rfl rfl (Nh rfl rfl rfl (decide_eq_false aw) rr) (KG (.bool false) rfl rfl (K6 rfl rfl rfl rr) (KG (.bool false) rfl rfl (KN rfl rfl rr) (KO (iv x) 11 false 23 rfl rfl rfl rfl rfl (KN rfl ap rr) (Lz (R:=fun v_ w_=>v_ = .bool true/\KM (fun _=>False) cv w_) 11 false 23 rfl rfl rfl rfl rfl (LE rfl rfl rfl (fun _ _=>by kernel_rfl) (K2 _) (Lj rfl LP) (RJ x  _   ) (fun e_ w_ h_=>⟨_,h_.1,(congrArg Value.bool (decide_eq_true az)),h_.2⟩)) ?_)))))))))))
      rintro _ cy ⟨rfl,aY⟩
      have cz:=cw.all aY id
      refine KO (.bool false) 11 false 23 rfl rfl rfl rfl rfl (LT rfl rfl rfl rr) (KG (.bool false) rfl rfl (K6 rfl rfl rfl rr) (KG (.bool false) rfl rfl (KN rfl rfl rr) (KO (iv y) 16 false 28 rfl rfl rfl rfl rfl (KN rfl au rr) (Lz (R:=fun v_ w_=>v_ = .bool false/\KM (fun _=>False) cy w_) 16 false 28 rfl rfl rfl rfl rfl (LE rfl rfl rfl (fun _ _=>by kernel_rfl) (K2 _) (Lj rfl LP) (RJ y  _   ) (fun e_ w_ h_=>⟨_,h_.1,(congrArg Value.bool (decide_eq_false aL)),h_.2⟩)) ?_))))
      rintro _ c7 ⟨rfl,aZ⟩
      have cA:=cz.all aZ id
      refine KO (.bool true) 16 false 28 rfl rfl rfl rfl rfl (LT rfl rfl rfl rr) (KG (.bool true) rfl rfl (K6 rfl rfl rfl rr) (KL ?_))
      have cB:=K4 (.bool true)
      refine KE ?_
      refine K5 (t:=true) cB (fun _=>?_) (fun e=>by cases e)
      refine KH ?_
      have hno:¬ MW f p x y:=by rintro ⟨h1,h2,h3,h4,h5,h6,h7⟩;first|exact absurd ((Mw f).2 h1) (by assumption)|omega
      refine KF (KG (LH (fun _=>0)) rfl rfl (Mt (cells:=(L6 16 (fun _=>0)).toArray) rfl (by kernel_rfl) rfl rr) (Lm KW rfl rfl rfl aa rfl cA fun c9 cC cD=>?_))
      refine KG (iv 70) rfl rfl (KT rfl rfl rr) (KL ?_)
      have cE:=K4 (iv 70)
      refine KE (La (Ln ?_))
      exact L4 ae rfl (Mn KW rfl aa cC) (Lu (v:=iv 70) rfl cE) ⟨(by first|rw[(NO hno).1,(NO hno).2]|rw[(MZ hpl hm).1,(MZ hpl hm).2]|rw[(Ng hpl hm).1,(Ng hpl hm).2]),((((an.tr aX).tr aY).tr aZ).trans cD (KP.ok (S:=fun _=>False) ac K3))⟩
    ·skip
     refine KF (KG (.agg #[iv (f.W),iv (f.H),f0,f1,f2]) rfl rfl (KU KZ rfl af ak rr) (LV rfl rfl rfl rfl rfl (fun _ _=>by kernel_rfl) (Lj rfl LP) (M8 f f0 f1 f2 T_f0 T_f1 T_f2 _  ah ai aj ) fun cF a8=>?_))
     have cG:=am.all a8 id
     refine KG (.bool false) rfl rfl (L9 rfl rfl rfl (decide_eq_false ao) rr) (KG (.bool false) rfl rfl (KN rfl rfl rr) (KO (iv p) 3 false 15 rfl rfl rfl rfl rfl (KN rfl ab rr) (KO (.bool false) 3 false 15 rfl rfl rfl rfl rfl (L2 rfl rfl rfl (decide_eq_false aq) rr) (KG (.bool false) rfl rfl (K6 rfl rfl rfl rr) (KG (.bool false) rfl rfl (KN rfl rfl rr) (KO (iv p) 7 false 19 rfl rfl rfl rfl rfl (KN rfl ab rr) (KO (.bool false) 7 false 19 rfl rfl rfl rfl rfl (Nh rfl rfl rfl (decide_eq_false aw) rr) (KG (.bool false) rfl rfl (K6 rfl rfl rfl rr) (KG (.bool false) rfl rfl (KN rfl rfl rr) (KO (iv x) 11 false 23 rfl rfl rfl rfl rfl (KN rfl ap rr) (Lz (R:=fun v_ w_=>v_ = .bool false/\KM (fun _=>False) cF w_) 11 false 23 rfl rfl rfl rfl rfl (LE rfl rfl rfl (fun _ _=>by kernel_rfl) (K2 _) (Lj rfl LP) (RJ x  _   ) (fun e_ w_ h_=>⟨_,h_.1,(congrArg Value.bool (decide_eq_false az)),h_.2⟩)) ?_)))))))))))
     rintro _ da ⟨rfl,a9⟩
     have cH:=cG.all a9 id
     refine KO (.bool true) 11 false 23 rfl rfl rfl rfl rfl (LT rfl rfl rfl rr) (KG (.bool true) rfl rfl (K6 rfl rfl rfl rr) (KG (.bool true) rfl rfl (KN rfl rfl rr) (KI 16 false 28 rfl rfl rfl (Or.inl rfl) rfl (KI 16 false 28 rfl rfl rfl (Or.inl rfl) rfl (KI 16 false 28 rfl rfl rfl (Or.inl rfl) rfl (KG (.bool true) rfl rfl (Ld rfl rfl rfl rr) (KL ?_)))))))
     have cI:=K4 (.bool true)
     refine KE ?_
     refine K5 (t:=true) cI (fun _=>?_) (fun e=>by cases e)
     refine KH ?_
     have hno:¬ MW f p x y:=by rintro ⟨h1,h2,h3,h4,h5,h6,h7⟩;first|exact absurd ((Mw f).2 h1) (by assumption)|omega
     refine KF (KG (LH (fun _=>0)) rfl rfl (Mt (cells:=(L6 16 (fun _=>0)).toArray) rfl (by kernel_rfl) rfl rr) (Lm KW rfl rfl rfl aa rfl cH fun db cJ cK=>?_))
     refine KG (iv 70) rfl rfl (KT rfl rfl rr) (KL ?_)
     have cL:=K4 (iv 70)
     refine KE (La (Ln ?_))
     exact L4 ae rfl (Mn KW rfl aa cJ) (Lu (v:=iv 70) rfl cL) ⟨(by first|rw[(NO hno).1,(NO hno).2]|rw[(MZ hpl hm).1,(MZ hpl hm).2]|rw[(Ng hpl hm).1,(Ng hpl hm).2]),(((an.tr a8).tr a9).trans cK (KP.ok (S:=fun _=>False) ac K3))⟩
end Go.Proofs.YtknjpdcpmpfklaaGreatDoor
set_option maxRecDepth 100000
namespace Go.Proofs.YtknjpdcpmpfklaaGreatDoor
open Go.RowKit
theorem LL:Qs Tryz.prog 67 2:=⟨_,Tryz.underlying67,rfl,by kernel_rfl⟩
end Go.Proofs.YtknjpdcpmpfklaaGreatDoor
set_option maxRecDepth 100000
namespace Go.Proofs.YtknjpdcpmpfklaaGreatDoor
def c34(n:Int):Int:=max (-34) (min n 34)
def nx(a:Int)(k:Nat):Int:=a-2+((k%5:Nat):Int)
def ny(c:Int)(k:Nat):Int:=c-2+((k/5:Nat):Int)
end Go.Proofs.YtknjpdcpmpfklaaGreatDoor
set_option maxRecDepth 100000
namespace Go.Proofs.YtknjpdcpmpfklaaGreatDoor
open Go.RowKit
inductive Pc where
  | eq (v:Value)
  | turn (j:Nat)
  | blk (t:TypeId) (zs:List Value) (k:Nat) (us:List Value)
  | told (p:Nat) (t:TypeId) (zs us:List Value)
def Pc.none:Pc:=.eq undef
def Sm:Pc->Bool
 | .blk _ _ _ _=>true
 | _=>false
def aAv(n0:Nat)(p:Pc)(L:Nat->Bool)(v:Value)(w:World):Prop:=match p with
 | .eq x=>v=x
 | .turn _=>True
 | .told _ _ _ _=>True
 | .blk t zs k us=>∃ q,v = .pointer (some ⟨q,0,none⟩)/\n0<=q/\Mu w q t (if L k=true then us else zs)
def Rg(p:Nat):List Pc->Prop
 | []=>True
 | .told q _ _ _::r=>p≠q/\Rg p r
 | .eq _::r=>Rg p r
 | .turn _::r=>Rg p r
 | .blk _ _ _ _::r=>Rg p r
def S8(S:Nat->Prop)(w0:World):List Pc->Prop
 | []=>True
 | .told p t zs _::r=>(S p/\Mu w0 p t zs/\Rg p r)/\S8 S w0 r
 | .eq _::r=>S8 S w0 r
 | .turn _::r=>S8 S w0 r
 | .blk _ _ _ _::r=>S8 S w0 r
theorem Rg.at{p:Nat}:∀ {Gs:List Pc},Rg p Gs->∀ i q t zs us,Gs.getD i Pc.none = .told q t zs us->p≠q:=by
 intro Gs
 induction Gs with
 | nil=>intro _ i q t zs us h;cases h
 | cons g r ih =>
  intro h i q t zs us e
  cases i with
  | zero =>
   have e:g = .told q t zs us:=by simpa using e
   subst e;exact h.1
  | succ i =>
   have e:r.getD i Pc.none = .told q t zs us:=by simpa using e
   cases g <;> first|exact ih h.2 i q t zs us e|exact ih h i q t zs us e
theorem S8.at{S:Nat->Prop}{w0:World}:∀ {Gs:List Pc},S8 S w0 Gs->∀ i p t zs us,Gs.getD i Pc.none = .told p t zs us->S p/\Mu w0 p t zs:=by
 intro Gs
 induction Gs with
 | nil=>intro _ i q t zs us h;cases h
 | cons g r ih =>
  intro h i q t zs us e
  cases i with
  | zero =>
   have e:g = .told q t zs us:=by simpa using e
   subst e;exact⟨h.1.1,h.1.2.1⟩
  | succ i =>
   have e:r.getD i Pc.none = .told q t zs us:=by simpa using e
   cases g <;> first|exact ih h.2 i q t zs us e|exact ih h i q t zs us e
theorem S8.ne{S:Nat->Prop}{w0:World}:∀ {Gs:List Pc},S8 S w0 Gs->∀ i j p t zs us p' t' zs' us',i≠j->Gs.getD i Pc.none = .told p t zs us->Gs.getD j Pc.none = .told p' t' zs' us'->p≠p':=by
 intro Gs
 induction Gs with
 | nil=>intro _ i j p t zs us p' t' zs' us' _ h;cases h
 | cons g r ih =>
  intro h i j p t zs us p' t' zs' us' hij e1 e2
  cases i with
  | zero =>
   have e1:g = .told p t zs us:=by simpa using e1
   subst e1
   cases j with
   | zero=>exact absurd rfl hij
   | succ j=>exact h.1.2.2.at j p' t' zs' us' (by simpa using e2)
  | succ i =>
   cases j with
   | zero =>
    have e2:g = .told p' t' zs' us':=by simpa using e2
    subst e2
    exact fun e=>h.1.2.2.at i p t zs us (by simpa using e1) e.symm
   | succ j =>
    have hr:S8 S w0 r:=by cases g <;> first|exact h.2|exact h
    exact ih hr i j p t zs us p' t' zs' us' (fun e=>hij (by rw[e])) (by simpa using e1) (by simpa using e2)
structure JC (S:Nat->Prop) (w0:World) (Gs:List Pc) (L:Nat->Bool) (v:Nat->Value) (w:World):Prop where
  kept:KM S w0 w
  olds:∀ i p t zs us,Gs.getD i Pc.none = .told p t zs us->Mu w p t (if L i=true then us else zs)
  holds:∀ i,L i=true->aAv w0.heap.size (Gs.getD i Pc.none) L (v i) w
  apart:∀ i j,i≠j->L i=true->L j=true->Sm (Gs.getD i Pc.none)=true->Sm (Gs.getD j Pc.none)=true->v i≠v j
  clos:∀ k j,L k=true->Gs.getD k Pc.none = .turn j->L j=true
def aAB(os:List Oper)(D:List (Option Tmp))(Gs:List Pc)(i:Nat):Pc->Bool
 | .eq _=>true
 | .told _ _ _ _=>true
 | .turn j=>(match Gs.getD j Pc.none with | .blk _ _ k _=>k==i|_=>false) && (match D.getD j none with|some _=>true|none=>false) && (match os[i]? with|some o=>Tk o j|none=>false)
 | .blk _ _ k _=>match Gs.getD k Pc.none with | .turn j=>j==i|_=>false
def wfC(os:List Oper)(D:List (Option Tmp))(Gs:List Pc):Bool:=(List.range Gs.length).all fun i=>aAB os D Gs i (Gs.getD i Pc.none)
theorem YQ{os:List Oper}{D:List (Option Tmp)}{Gs:List Pc}(h:wfC os D Gs=true)(i:Nat):aAB os D Gs i (Gs.getD i Pc.none)=true:=by
 by_cases hi:i<Gs.length
 ·exact List.all_eq_true.1 h i (List.mem_range.2 hi)
 ·have:Gs.getD i Pc.none=Pc.none:=by simp[List.getD,List.getElem?_eq_none (show Gs.length<=i by omega)]
  rw[this];rfl
theorem US{os:List Oper}{D:List (Option Tmp)}{Gs:List Pc}(h:wfC os D Gs=true){i k:Nat}{t:TypeId}{zs us:List Value}(e:Gs.getD i Pc.none = .blk t zs k us):Gs.getD k Pc.none = .turn i:=by
 have:=YQ h i
 rw[e] at this
 simp only[aAB] at this
 split at this
 ·rename_i j hj;rw[hj];have:j=i:=by simpa using this
  rw[this]
 ·cases this
def Zj(n0:Nat)(Gs:List Pc)(i:Nat):Nat->Value->World->Prop:=fun j v w=>match Gs.getD j Pc.none with
 | .eq x=>v=x
 | .turn _=>True
 | .told _ _ _ _=>True
 | .blk t zs k _=>k=i->∃ q,v = .pointer (some ⟨q,0,none⟩)/\n0<=q/\Mu w q t zs
def Xm(Gs:List Pc)(D:List (Option Tmp))(i:Nat)(ρ:Operand->Value)(w:World)(v:Value)(w':World):Prop:=match Gs.getD i Pc.none with
 | .eq x=>v=x/\KM (fun _=>False) w w'
 | .blk t zs _ _=>∃ q,v = .pointer (some ⟨q,0,none⟩)/\w.heap.size<=q/\Mu w' q t zs/\KM (fun _=>False) w w'
 | .told p t _ us=>Mu w' p t us/\KM (Le p) w w'
 | .turn j=>∃ d q,D.getD j none=some d/\ρ (.tmp d) = .pointer (some ⟨q,0,none⟩)/\(∀ t zs us,Gs.getD j Pc.none = .blk t zs i us->Mu w' q t us)/\KM (Le q) w w'
section
variable {P:Program} {N:Nat} {F:Nat->Value} {w:World} {Q:Exit->(Nat->Value)->World->Prop}
def Nk(S:Nat->Prop)(N:Nat)(P:Program)(D:List (Option Tmp))(Gs:List Pc)(F0:Nat->Value)(w0:World)(i:Nat)(o:Oper):Prop :=
 ∀ (F:Nat->Value) (w:World),KM S w0 w->(∀ t,Nat.blt t N=true->some t∉D->F t=F0 t)->OB D (Zj w0.heap.size Gs i) F w o.after.toList->(∀ p t zs us,Gs.getD i Pc.none = .told p t zs us->Mu w p t zs) →
  match o.guard with
  | none=>Lg P (ev F) o w (Xm Gs D i (ev F) w)
  | some (j,want)=>∃ d,D.getD j none=some d ∧
   ((F d = .bool want/\Lg P (ev F) o w (Xm Gs D i (ev F) w))\/((F d = .bool (!want)\/F d=undef)/\Gs.getD i Pc.none = .eq undef))
def Rc(S:Nat->Prop)(N:Nat)(P:Program)(D:List (Option Tmp))(Gs:List Pc)(F0:Nat->Value)(w0:World):Nat->List Oper->Prop
 | _,[]=>True
 | i,o::r=>Nk S N P D Gs F0 w0 i o/\Rc S N P D Gs F0 w0 (i+1) r
theorem Xy{S:Nat->Prop}{D:List (Option Tmp)}{Gs:List Pc}{F0:Nat->Value}{w0:World}{i:Nat}:Rc S N P D Gs F0 w0 i []:=trivial
theorem Ml{S:Nat->Prop}{D:List (Option Tmp)}{Gs:List Pc}{F0:Nat->Value}{w0:World}{i:Nat}{o:Oper}{r:List Oper}(h:Nk S N P D Gs F0 w0 i o)(k:Rc S N P D Gs F0 w0 (i+1) r):Rc S N P D Gs F0 w0 i (o::r):=⟨h,k⟩
theorem Nk.one{S:Nat->Prop}{D:List (Option Tmp)}{Gs:List Pc}{F0:Nat->Value}{w0:World}{i:Nat}{o:Oper}(hg:o.guard=none)
  (h:∀ (F:Nat->Value) (w:World),KM S w0 w->(∀ t,Nat.blt t N=true->some t∉D->F t=F0 t)->OB D (Zj w0.heap.size Gs i) F w o.after.toList->Lg P (ev F) o w (Xm Gs D i (ev F) w)):Nk S N P D Gs F0 w0 i o:=by
 intro F w h1 h2 h3 _
 rw[hg]
 exact h F w h1 h2 h3
theorem QS{L:Nat->Bool}{i:Nat}:Ra L i i=true:=if_pos rfl
theorem Nj{L:Nat->Bool}{i j:Nat}(h:j≠i):Ra L i j=L j:=if_neg h
theorem RR{v:Nat->Value}{i:Nat}{x:Value}:UN v i x i=x:=if_pos rfl
theorem QN{v:Nat->Value}{i j:Nat}{x:Value}(h:j≠i):UN v i x j=v j:=if_neg h
theorem SV{α:Type}{l:List α}{d x:α}{i:Nat}(h:l.getD i d=x)(hn:x≠d):l[i]? = some x:=by
 unfold List.getD at h
 cases hq:l[i]? with
 | none=>rw[hq] at h;exact absurd h.symm hn
 | some y=>rw[hq] at h;simpa using h
theorem JC.more{S:Nat->Prop}{os:List Oper}{D:List (Option Tmp)}{Gs:List Pc}{w0 w w':World}{L:Nat->Bool}{v:Nat->Value}{i:Nat}{x:Value}(hwf:wfC os D Gs=true)(h:JC S w0 Gs L v w)(hi:L i=false)(k:KM (fun _=>False) w w')
  (hnt:∀ j,Gs.getD i Pc.none ≠ .turn j) (hnd:∀ p t zs us,Gs.getD i Pc.none ≠ .told p t zs us) (hx:aAv w0.heap.size (Gs.getD i Pc.none) (Ra L i) x w') (hb:Sm (Gs.getD i Pc.none)=true->∃ q,x = .pointer (some ⟨q,0,none⟩)/\w.heap.size<=q):JC S w0 Gs (Ra L i) (UN v i x) w':=by
 have hkeep:∀ j,L j=true->aAv w0.heap.size (Gs.getD j Pc.none) (Ra L i) (v j) w':=by
  intro j hj
  have:=h.holds j hj
  revert this
  cases e:Gs.getD j Pc.none with
  | eq y=>exact id
  | turn y=>exact id
  | told y1 y2 y3 y4=>exact id
  | blk t zs kk us =>
   rintro ⟨q,e1,e2,e3⟩
   have hki:kk≠i:=fun e'=>hnt j (by rw[← e'];exact US hwf e)
   refine⟨q,e1,e2,?_⟩
   rw[Nj hki]
   exact e3.all k id
 refine⟨h.kept.trans k (fun _ _ x=>x.elim),fun j p t zs us hj=>?_,fun j hj=>?_,fun a b hab ha hb' hA hB=>?_,fun a b ha hab=>?_⟩
 ·have hji:j≠i:=fun e=>hnd p t zs us (by rw[← e];exact hj)
  rw[Nj hji]
  exact(h.olds j p t zs us hj).all k id
 ·by_cases hji:j=i
  ·subst hji;rw[RR];exact hx
  ·rw[Nj hji] at hj;rw[QN hji];exact hkeep j hj
 ·have hnew:∀ c,c≠i->L c=true->Sm (Gs.getD c Pc.none)=true->Sm (Gs.getD i Pc.none)=true->v c≠x:=by
   intro c _ hc hC hI e
   obtain⟨q,e1,e2⟩:=hb hI
   have:=h.holds c hc
   revert this hC
   cases e':Gs.getD c Pc.none with
   | eq y=>intro hC;cases hC
   | turn y=>intro hC;cases hC
   | told y1 y2 y3 y4=>intro hC;cases hC
   | blk t zs kk us =>
    rintro - ⟨q',f1,f2,f3⟩
    rw[f1,e1] at e
    cases e
    have:=f3.lt
    omega
  by_cases hai:a=i
  ·subst hai
   have hba:b≠a:=fun e=>hab e.symm
   rw[Nj hba] at hb'
   rw[RR,QN hba]
   exact fun e=>hnew b hba hb' hB hA e.symm
  ·rw[Nj hai] at ha
   rw[QN hai]
   by_cases hbi:b=i
   ·subst hbi;rw[RR];exact hnew a hai ha hA hB
   ·rw[Nj hbi] at hb';rw[QN hbi];exact h.apart a b hab ha hb' hA hB
 ·by_cases hai:a=i
  ·subst hai;exact absurd hab (hnt b)
  ·rw[Nj hai] at ha
   have:=h.clos a b ha hab
   by_cases hbi:b=i
   ·subst hbi;exact QS
   ·rw[Nj hbi];exact this
theorem JC.turned{S:Nat->Prop}{os:List Oper}{D:List (Option Tmp)}{Gs:List Pc}{w0 w w':World}{L:Nat->Bool}{v:Nat->Value}{i j q:Nat}{x:Value}(hwf:wfC os D Gs=true)(hO:S8 S w0 Gs)(h:JC S w0 Gs L v w)(hi:L i=false)(hj:L j=true)(he:Gs.getD i Pc.none = .turn j)
  (hv:v j = .pointer (some ⟨q,0,none⟩)) (hq:∀ t zs us,Gs.getD j Pc.none = .blk t zs i us->Mu w' q t us) (k:KM (Le q) w w'):JC S w0 Gs (Ra L i) (UN v i x) w':=by
 have hw:=YQ hwf i
 rw[he] at hw
 simp only[aAB,Bool.and_eq_true] at hw
 have hn0:w0.heap.size<=q:=by
  have:=h.holds j hj
  revert this
  obtain⟨⟨h1,_⟩,_⟩:=hw
  cases e:Gs.getD j Pc.none with
  | eq y=>rw[e] at h1;cases h1
  | turn y=>rw[e] at h1;cases h1
  | told y1 y2 y3 y4=>rw[e] at h1;cases h1
  | blk t zs kk us =>
   rintro ⟨q',e1,e2,_⟩
   rw[hv] at e1;cases e1;exact e2
 have hjB:Sm (Gs.getD j Pc.none)=true:=by
  obtain⟨⟨h1,_⟩,_⟩:=hw
  cases e:Gs.getD j Pc.none with
  | eq y=>rw[e] at h1;cases h1
  | turn y=>rw[e] at h1;cases h1
  | told y1 y2 y3 y4=>rw[e] at h1;cases h1
  | blk t zs kk us=>rfl
 refine⟨h.kept.trans k (fun b hb e=>by cases e;omega),fun a p t zs us ha=>?_,fun a ha=>?_,fun a b hab ha hb hA hB=>?_,fun a b ha hab=>?_⟩
 ·have hai:a≠i:=fun e=>by rw[e,he] at ha;cases ha
  rw[Nj hai]
  exact(h.olds a p t zs us ha).all k (fun e=>by have:=(hO.at a p t zs us ha).2.lt;rw[show p=q from e] at this;omega)
 ·by_cases hai:a=i
  ·subst hai;rw[RR,he];exact trivial
  ·rw[Nj hai] at ha;rw[QN hai]
   have:=h.holds a ha
   revert this
   cases e:Gs.getD a Pc.none with
   | eq y=>exact id
   | turn y=>exact id
   | told y1 y2 y3 y4=>exact id
   | blk t zs kk us =>
    rintro ⟨q',e1,e2,e3⟩
    have hk:=US hwf e
    by_cases haj:a=j
    ·subst haj
     have hki:kk=i:=by
      obtain⟨⟨h1,_⟩,_⟩:=hw
      rw[e] at h1;simpa using h1
     subst hki
     rw[hv] at e1;cases e1
     refine⟨q,hv,hn0,?_⟩
     rw[if_pos QS]
     exact hq t zs us e
    ·have hki:kk≠i:=fun e'=>by rw[e',he] at hk;cases hk;exact haj rfl
     refine⟨q',e1,e2,?_⟩
     rw[Nj hki]
     refine e3.all k (fun e'=>?_)
     have:=h.apart a j haj ha hj (by rw[e];rfl) hjB
     rw[e1,hv] at this
     exact this (by rw[show q'=q from e'])
 ·have hni:∀ c,Sm (Gs.getD c Pc.none)=true->c≠i:=fun c hc e=>by rw[e,he] at hc;cases hc
  rw[QN (hni a hA),QN (hni b hB)]
  rw[Nj (hni a hA)] at ha
  rw[Nj (hni b hB)] at hb
  exact h.apart a b hab ha hb hA hB
 ·by_cases hai:a=i
  ·subst hai
   rw[he] at hab;cases hab
   by_cases hji:j=a
   ·subst hji;exact QS
   ·rw[Nj hji];exact hj
  ·rw[Nj hai] at ha
   have:=h.clos a b ha hab
   by_cases hbi:b=i
   ·subst hbi;exact QS
   ·rw[Nj hbi];exact this
theorem JC.oldTurned{S:Nat->Prop}{os:List Oper}{D:List (Option Tmp)}{Gs:List Pc}{w0 w w':World}{L:Nat->Bool}{v:Nat->Value}{i p:Nat}{t:TypeId}{zs us:List Value}{x:Value}(hwf:wfC os D Gs=true)(hO:S8 S w0 Gs)(h:JC S w0 Gs L v w)(he:Gs.getD i Pc.none = .told p t zs us)
  (hq:Mu w' p t us) (k:KM (Le p) w w'):JC S w0 Gs (Ra L i) (UN v i x) w':=by
 have hp:=hO.at i p t zs us he
 have hni:∀ c,Sm (Gs.getD c Pc.none)=true->c≠i:=fun c hc e=>by rw[e,he] at hc;cases hc
 refine⟨h.kept.trans k (fun b hb e=>by cases e;exact hp.1),fun a p' t' zs' us' ha=>?_,fun a ha=>?_,fun a b hab ha hb hA hB=>?_,fun a b ha hab=>?_⟩
 ·by_cases hai:a=i
  ·subst hai
   rw[he] at ha;cases ha
   rw[if_pos QS];exact hq
  ·rw[Nj hai]
   exact(h.olds a p' t' zs' us' ha).all k (fun e=>hO.ne a i p' t' zs' us' p t zs us hai ha he e)
 ·by_cases hai:a=i
  ·subst hai;rw[RR,he];exact trivial
  ·rw[Nj hai] at ha;rw[QN hai]
   have:=h.holds a ha
   revert this
   cases e:Gs.getD a Pc.none with
   | eq y=>exact id
   | turn y=>exact id
   | told y1 y2 y3 y4=>exact id
   | blk t zs kk us =>
    rintro ⟨q',e1,e2,e3⟩
    have hk:=US hwf e
    have hki:kk≠i:=fun e'=>by rw[e',he] at hk;cases hk
    refine⟨q',e1,e2,?_⟩
    rw[Nj hki]
    exact e3.all k (fun e'=>by have:=hp.2.lt;rw[show q'=p from e'] at e2;omega)
 ·rw[QN (hni a hA),QN (hni b hB)]
  rw[Nj (hni a hA)] at ha
  rw[Nj (hni b hB)] at hb
  exact h.apart a b hab ha hb hA hB
 ·have hai:a≠i:=fun e=>by rw[e,he] at hab;cases hab
  rw[Nj hai] at ha
  have:=h.clos a b ha hab
  by_cases hbi:b=i
  ·subst hbi;exact QS
  ·rw[Nj hbi];exact this
theorem Nk.step{S:Nat->Prop}{os:List Oper}{D:List (Option Tmp)}{Gs:List Pc}{w0:World}{i:Nat}{o:Oper}{a0:Act}(hwf:wfC os D Gs=true)(hO:S8 S w0 Gs)(ho:os[i]? = some o)(ha:Fr N F a0)(h:Nk S N P D Gs F w0 i o):XO os P D (JC S w0 Gs) a0 i o:=by
 intro L v a w hJ hi hdone hout hhere _
 have hdeps:OB D (Zj w0.heap.size Gs i) (fun t=>a.tmps.getD t undef) w o.after.toList:=by
  refine RE.toF (RE.mk fun e he hb d hd=>?_)
  have hl:=hdone e he hb
  have hDe:=SV hd (by simp)
  have hv:=hhere e.on d hl hDe
  rw[hv]
  have:=hJ.holds e.on hl
  unfold Zj
  revert this
  cases e':Gs.getD e.on Pc.none with
  | eq y=>exact id
  | turn y=>exact id
  | told y1 y2 y3 y4=>exact id
  | blk t zs kk us =>
   rintro ⟨q,e1,e2,e3⟩ hk
   refine⟨q,e1,e2,?_⟩
   subst hk
   rw[hi,if_neg (by simp)] at e3
   exact e3
 have h1:=h (fun t=>a.tmps.getD t undef) w hJ.kept (fun t hb ht=>by rw[← ha.at' t hb];exact hout t ht) hdeps (fun p t zs us e=>by have:=hJ.olds i p t zs us e;rw[hi,if_neg (by simp)] at this;exact this)
 rw[← Sf a] at h1
 have hleft:∀ x w',Xm Gs D i a.eval w x w'->JC S w0 Gs (Ra L i) (UN v i x) w':=by
  intro x w' hx
  unfold Xm at hx
  cases e:Gs.getD i Pc.none with
  | eq y =>
   rw[e] at hx
   exact hJ.more hwf hi hx.2 (fun j hj=>by rw[e] at hj;cases hj) (fun _ _ _ _ hj=>by rw[e] at hj;cases hj) (by rw[e];exact hx.1) (by rw[e];intro hb;cases hb)
  | blk t zs kk us =>
   rw[e] at hx
   obtain⟨q,e1,e2,e3,e4⟩:=hx
   have hk:=US hwf e
   have hki:kk≠i:=fun e'=>by rw[e',e] at hk;cases hk
   have hLk:L kk=false:=by
    cases hq:L kk with
    | false=>rfl
    | true=>have:=hJ.clos kk i hq hk;rw[hi] at this;cases this
   refine hJ.more hwf hi e4 (fun j hj=>by rw[e] at hj;cases hj) (fun _ _ _ _ hj=>by rw[e] at hj;cases hj) ?_ (fun _=>⟨q,e1,e2⟩)
   rw[e]
   refine⟨q,e1,Nat.le_trans hJ.kept.size e2,?_⟩
   rw[Nj hki,hLk,if_neg (by simp)]
   exact e3
  | told p t zs us =>
   rw[e] at hx
   exact hJ.oldTurned hwf hO e hx.1 hx.2
  | turn j =>
   rw[e] at hx
   obtain⟨d,q,hd,e1,e2,e3⟩:=hx
   have hw:=YQ hwf i
   rw[e] at hw
   simp only[aAB,Bool.and_eq_true,ho] at hw
   obtain⟨ed,hed,hb,hon⟩:=RY.1 hw.2
   have hLj:=hdone ed hed hb
   rw[hon] at hLj
   have hv:=hhere j d hLj (SV hd (by simp))
   exact hJ.turned hwf hO hi hLj e (by rw[← hv];exact e1) e2 e3
 unfold PU
 cases hg:o.guard with
 | none=>rw[hg] at h1;exact⟨fun _=>h1.mono' hleft,fun e=>by cases e⟩
 | some g =>
  obtain⟨j,want⟩:=g
  rw[hg] at h1
  obtain⟨d,hd,h1⟩:=h1
  simp only[hd]
  have hev:a.eval (.tmp d)=a.tmps.getD d undef:=rfl
  rcases h1 with ⟨hv,hy⟩ | ⟨hv,hs⟩
  ·rw[hev,hv];exact⟨fun _=>hy.mono' hleft,fun e=>by simp at e⟩
  ·refine⟨fun e=>?_,fun _=>hJ.more hwf hi (KM.refl _ _) (fun j hj=>by rw[hs] at hj;cases hj) (fun _ _ _ _ hj=>by rw[hs] at hj;cases hj) (by rw[hs];rfl) (by rw[hs];intro hb;cases hb)⟩
   rcases hv with hv|hv
   ·rw[hev,hv] at e;cases want <;> simp at e
   ·rw[hev,hv] at e;simp[undef] at e
theorem Rc.steps{S:Nat->Prop}{all:List Oper}{D:List (Option Tmp)}{Gs:List Pc}{w0:World}{a0:Act}(hwf:wfC all D Gs=true)(hO:S8 S w0 Gs)(ha:Fr N F a0):∀ {os:List Oper} {i:Nat},(∀ k o,os[k]? = some o->all[i+k]? = some o)->Rc S N P D Gs F w0 i os->QD all P D (JC S w0 Gs) a0 i os:=by
 intro os
 induction os with
 | nil=>intro i _ _;exact trivial
 | cons o r ih =>
  intro i hat h
  exact⟨h.1.step hwf hO (hat 0 o rfl) ha,ih (fun k o' hk=>by have:=hat (k+1) o' hk;rwa [show i+(k+1)=i+1+k by omega] at this) h.2⟩
def aC7(n0:Nat)(Gs:List Pc)(i:Nat)(v:Value)(w:World):Prop:=match Gs.getD i Pc.none with
 | .eq x=>v=x
 | .turn _=>True
 | .told p t _ us=>Mu w p t us
 | .blk t _ _ us=>∃ q,v = .pointer (some ⟨q,0,none⟩)/\n0<=q/\Mu w q t us
theorem azi{S:Nat->Prop}{id:Nat}{ops:Array Oper}(D:List (Option Tmp))(Gs:List Pc)(hm:P.follows .mixedOrders=true)(hpl:plain N 0 D ops.toList=true)(hwf:wfC ops.toList D Gs=true)(hsz:Gs.length=ops.size)(hO:S8 S w Gs)(hsteps:Rc S N P D Gs F w 0 ops.toList)
  (hend:∀ (v:Nat->Value) (F':Nat->Value) (w':World),KM S w w'->(∀ i,i<ops.size->aC7 w.heap.size Gs i (v i) w')->(∀ i j,i≠j->i<ops.size->j<ops.size->Sm (Gs.getD i Pc.none)=true->Sm (Gs.getD j Pc.none)=true->v i≠v j)->(∀ t,F' t=Q5 v 0 D F t)->Q .normal F' w'):wq none P N (.region id ops true) Q F w:=by
 intro a ha
 refine wpIn_wide.2 ?_
 refine Sr D (JC S w Gs) hm (by rw[ha.size];exact hpl) ⟨(KM.refl _ w).drew,fun i p t zs us e=>(by rw[if_neg (by simp)];exact(hO.at i p t zs us e).2.all ((KM.refl (fun _=>False) w).drew) (fun z=>z)),fun _ e=>(by cases e),fun _ _ _ e=>(by cases e),fun _ _ e=>(by cases e)⟩ (hsteps.steps hwf hO ha (fun k o hk=>by rw[Nat.zero_add];exact hk)) fun L v w' hJ hL=>?_
 refine⟨Q5 v 0 D F,Pg v D 0 F a ha (OH hpl),hend v _ w' hJ.kept (fun i hi=>?_) (fun i j hij hi hj hI hJ'=>hJ.apart i j hij (hL i hi) (hL j hj) hI hJ') fun _=>rfl⟩
 have:=hJ.holds i (hL i hi)
 unfold aC7
 revert this
 cases e:Gs.getD i Pc.none with
 | eq y=>exact fun z=>z
 | turn y=>exact fun z=>z
 | told p t zs us =>
  intro _
  have:=hJ.olds i p t zs us e
  rw[if_pos (hL i hi)] at this
  exact this
 | blk t zs kk us =>
  rintro ⟨q,e1,e2,e3⟩
  have hk:=US hwf e
  have hkk:kk<ops.size:=by
   rw[← hsz]
   rcases Nat.lt_or_ge kk Gs.length with h'|h'
   ·exact h'
   ·have:Gs.getD kk Pc.none=Pc.none:=by simp[List.getD,List.getElem?_eq_none h']
    rw[this] at hk;cases hk
  rw[if_pos (hL kk hkk)] at e3
  exact⟨q,e1,e2,e3⟩
end
end Go.Proofs.YtknjpdcpmpfklaaGreatDoor
