/- What PictureKeeps reaches of my texts, part 3. -/
import Derived.Test.YtknjpdcpmpfklaaGreatDoorPictureKeepsB
set_option maxRecDepth 100000
set_option maxHeartbeats 4000000
set_option maxRecDepth 100000
namespace Go.Proofs.YtknjpdcpmpfklaaGreatDoor
open Go.RowKit
section
variable {ρ:Operand->Value} {o:Oper} {w:World} {R:Value->World->Prop}
theorem aCq {t : TypeId} {x : Operand} {p k : Nat} {vs : List Value} {a b c : Value} (ho : o.op = .load 27 x) (hx : ρ x = .pointer (some ⟨p, k, none⟩)) (hB : My w p t vs) (h0 : vs[k]? = some a) (h1 : vs[k + 1]? = some b) (h2 : vs[k + 2]? = some c) (h : R (.agg #[a, b, c]) w) : Lj Tryz.prog ρ o w R := by
  have hr : w.rangeAt p k [a, b, c] := by
    intro j v hj
    match j, hj with
    | 0, hj => obtain rfl : a = v := by simpa using hj
               exact hB.cell h0
    | 1, hj => obtain rfl : b = v := by simpa using hj
               exact hB.cell h1
    | 2, hj => obtain rfl : c = v := by simpa using hj
               exact hB.cell h2
    | n + 3, hj => simp at hj
  refine MS (v := .agg #[a, b, c]) (w' := w) ?_ h
  simp only [execOp, ho, hx, Sem.run_bind, run_loadAt_mid w p k 27 [a, b, c] _ hr Tryz.underlying27 rfl (by kernel_rfl), Result.andThen_ok, Sem.run_pure]
theorem YS{x y:Operand}{k:IntKind}{cs:Array Value}{v:Value}(j:Nat)(ho:o.op = .index 27 x y)(hx:ρ x = .agg cs)(hy:ρ y = .int k (j:Int))(hj:j<3)(hv:cs[j]? = some v)(h:R v w):Lj Tryz.prog ρ o w R:=by
 have hs:(Tryz.prog.info? 26).map (·.size)=some 1:=by kernel_rfl
 cases hq:Tryz.prog.info? 26 with
 | none=>simp[hq] at hs
 | some i =>
  have hs':i.size=1:=by simpa [hq] using hs
  have hp:(part 26 cs j).run Tryz.prog w = .ok v w:=by simp[part,isAgg,run_underlying Tryz.underlying26,hv]
  have h1:(0:Int)<=(j:Int):=by omega
  have h2:(j:Int)<3:=by omega
  exact MS (v:=v) (w':=w) (by simp[execOp,ho,hx,hy,Instr.index,run_underlying Tryz.underlying27,asIntOf,sizeOf,typeInfo,hq,hs',hj,hp]) h
theorem WA{x lo:Operand}{T:Nat->Prop}{v:Value}{l:List Nat}{kl:IntKind}{i j m:Nat}(k:Nat){il:Int}(ho:o.op = .slice 26 x (some lo) none none)(hx:ρ x=Mx v i j m)(hl:ρ lo = .int kl il)(e1:il=(k:Int))(hb:L9 w T v l)(h1:k<=j-i)(h:R (Mx (Mx v i j m) k (j-i) (m-i)) w):Lj Tryz.prog ρ o w R:=by
 subst e1
 obtain⟨a,e⟩:=UM hb i j m
 obtain⟨i0,hi0,hz0,hz1,hz2⟩:=info_parts Tryz.info_u8
 refine MS (v:=Mx (Mx v i j m) k (j-i) (m-i)) (w':=w) ?_ h
 rw[e] at hx ⊢
 have b1:(Instr.sliceBounds true (j-i) (m-i) (some (.int kl (k:Int))) none none).run Tryz.prog w = .ok (k,j-i,m-i) w:=by
  simp[Instr.sliceBounds,Instr.sliceBound,asIntOf,h1]
 simp[execOp,ho,hx,hl,Instr.sliceAt,Instr.slice,run_underlying Tryz.underlying26,b1,sizeOf,typeInfo,hi0,hz1,Mx]
theorem Zy{x hi:Operand}{T:Nat->Prop}{v:Value}{l:List Nat}{kl:IntKind}{i j m:Nat}(k:Nat){il:Int}(ho:o.op = .slice 26 x none (some hi) none)(hx:ρ x=Mx v i j m)(hl:ρ hi = .int kl il)(e1:il=(k:Int))(hb:L9 w T v l)(h1:k<=m-i)(h:R (Mx (Mx v i j m) 0 k (m-i)) w):Lj Tryz.prog ρ o w R:=by
 subst e1
 obtain⟨a,e⟩:=UM hb i j m
 obtain⟨i0,hi0,hz0,hz1,hz2⟩:=info_parts Tryz.info_u8
 refine MS (v:=Mx (Mx v i j m) 0 k (m-i)) (w':=w) ?_ h
 rw[e] at hx ⊢
 have b1:(Instr.sliceBounds true (j-i) (m-i) none (some (.int kl (k:Int))) none).run Tryz.prog w = .ok (0,k,m-i) w:=by
  simp[Instr.sliceBounds,Instr.sliceBound,asIntOf,h1]
 simp[execOp,ho,hx,hl,Instr.sliceAt,Instr.slice,run_underlying Tryz.underlying26,b1,sizeOf,typeInfo,hi0,hz1,Mx]
theorem aBl{x hi mx:Operand}{T:Nat->Prop}{v:Value}{l:List Nat}{kh km:IntKind}(j m:Nat){ih im:Int}(ho:o.op = .slice 26 x none (some hi) (some mx))(hx:ρ x=v)(hh:ρ hi = .int kh ih)(hm:ρ mx = .int km im)(e2:ih=(j:Int))(e3:im=(m:Int))(hb:L9 w T v l)(h2:j<=m)(h4:m<=l.length)(h:R (Mx v 0 j m) w):Lj Tryz.prog ρ o w R:=by
 subst e2;subst e3
 obtain⟨⟨a,cap,rfl,k1,_⟩,_⟩:=hb
 obtain⟨i0,hi0,hz0,hz1,hz2⟩:=info_parts Tryz.info_u8
 have hmc:m<=cap:=by omega
 refine MS (v:=Mx (.slice a l.length cap) 0 j m) (w':=w) ?_ h
 have b1:(Instr.sliceBounds true l.length cap none (some (.int kh (j:Int))) (some (.int km (m:Int)))).run Tryz.prog w = .ok (0,j,m) w:=by
  simp[Instr.sliceBounds,Instr.sliceBound,asIntOf,hmc,h2]
 simp[execOp,ho,hx,hh,hm,Instr.sliceAt,Instr.slice,run_underlying Tryz.underlying26,b1,sizeOf,typeInfo,hi0,hz1,Mx]
end
def WO(x v:Value)(off n:Nat):Prop:=∃ d cp,x = .slice d n cp/\(0<n->∀ g nn cc,v = .slice (some ⟨g,0,none⟩) nn cc->d=some ⟨g,off,none⟩)
theorem S8{w:World}{T:Nat->Prop}{v:Value}{l:List Nat}(hb:L9 w T v l){i j m:Nat}(h2:j<=m):WO (Mx v i j m) v i (j-i):=by
 obtain⟨⟨a,cap,rfl,k1,k2,k3,k4,k5⟩,k6⟩:=hb
 clear k3 k4 k5 k6
 refine⟨_,_,rfl,fun hp g nn cc e=>?_⟩
 cases e
 rw[if_neg (by omega)]
 simp[Addr.add_lit]
theorem Wd{w:World}{T:Nat->Prop}{v:Value}{l:List Nat}(hb:L9 w T v l){i j m k q r:Nat}(h2:j<=m)(h3:q<=j-i)(hr:r=i+k):WO (Mx (Mx v i j m) k q (m-i)) v r (q-k):=by
 subst hr
 obtain⟨⟨a,cap,rfl,k1,k2,k3,k4,k5⟩,k6⟩:=hb
 clear k3 k4 k5 k6
 refine⟨_,_,rfl,fun hp g nn cc e=>?_⟩
 cases e
 rw[if_neg (by omega),if_neg (by omega)]
 simp[Addr.add_lit]
section
variable {ro:Option Nat} {N:Nat} {Q:(Exit->(Nat->Value)->World->Prop)} {F:Nat->Value} {w:World} {o:Oper}
theorem Wn{ρ:Operand->Value}{c:Call}{x y:Operand}{T U:Nat->Prop}{v u:Value}{l m:List Nat}{off n:Nat}(ho:o.op = .call c)(hc:c={ callee:=.builtin .copy,args:=#[x,y],argTypes:=#[26,26] })(hx:WO (ρ x) v off n)(hy:ρ y=u)(hv:L4 w T v l)(hu:L9 w U u m)(hoff:off+n<=l.length) :
  ∃ w',(execOp ρ o).run Tryz.prog w = .ok (.value (.int .i64 ((min n m.length:Nat):Int))) w'/\L4 w' T v (l.take off++(m.take n++l.drop (off+min n m.length)))/\KP T w w':=by
 subst hc
 have hsz:(Tryz.prog.info? 5).map (·.size)=some 1:=by
  obtain⟨i0,hi0,hz0,hz1,hz2⟩:=info_parts Tryz.info_u8
  rw[hi0];simp[hz1]
 have hlen:(l.take off++(m.take n++l.drop (off+min n m.length))).length=l.length:=by simp;omega
 have hml:(m.take n).length=min n m.length:=by simp
 have hall:∀ y∈l.take off++(m.take n++l.drop (off+min n m.length)),y<256:=by
  intro y hy
  rcases List.mem_append.1 hy with h'|h'
  ·exact hv.lt256 y (List.mem_of_mem_take h')
  ·rcases List.mem_append.1 h' with h'|h'
   ·exact hu.lt256 y (List.mem_of_mem_take h')
   ·exact hv.lt256 y (List.mem_of_mem_drop h')
 obtain⟨d,cp,hxx,hd⟩:=hx
 by_cases h0:min n m.length=0
 ·have h0':min m.length n=0:=by omega
  obtain⟨⟨a,cap,rfl,k1,k2,k3,h256,hcu⟩,_⟩:=hu
  clear hcu hd
  have hm:m.take n=[]:=List.eq_nil_of_length_eq_zero (by omega)
  have hrun:=run_copy_none (P:=Tryz.prog) w 26 26 o.type 5 d a n cp m.length cap Tryz.underlying26 hsz h0'
  refine⟨w,by rw[h0];simp[execOp,ho,resolve,invoke,builtin,hxx,hy,hrun,Result.andThen];rfl,?_,KP.refl _ _⟩
  rw[h0,hm,List.nil_append,Nat.add_zero,List.take_append_drop];exact hv
 ·have hm0:0<m.length:=by omega
  have hn0:0<n:=by omega
  obtain⟨⟨a,cap,rfl,k1,k2,k3,h256,hcu⟩,hu2⟩:=hu
  clear k3 hu2
  obtain⟨b,o1,rfl,hb1,hcell⟩:=hcu hm0
  clear hcu
  replace hd:=hd hn0
  rcases hv.1.1.2 with ⟨rfl,hz⟩ | ⟨g,cp2,cur,rfl,hb,hgg,hnc,hcm,hcs,htake⟩
  ·omega
  ·obtain rfl:=hd g _ _ rfl
   have hbl:(LF (m.take n)).length=min n m.length:=by rw[LC,hml]
   have hrun:=run_copy_row (P:=Tryz.prog) w 26 26 o.type 5 g off n cp ⟨b,o1,none⟩ m.length cap cur 5 (LF (m.take n)) Tryz.underlying26 hsz hgg (by rw[hbl];show min n m.length=min m.length n;omega) (fun t u ht=>by
    have hjl:t<(m.take n).length:=by
     have:=(List.getElem?_eq_some_iff.1 ht).1
     rwa [LC] at this
    rw[Addr.add_lit,hcell t (by omega),← ht,OQ (m.take n) t hjl]
    rw[show (m.take n).getD t 0=m.getD t 0 by simp[List.getD,show t<n by omega]]) (by rw[hbl];omega) (P2 _)
   refine⟨w.setRow g (cur.toList.take off++LF (m.take n)++cur.toList.drop (off+(LF (m.take n)).length)).toArray,by simp[execOp,ho,resolve,invoke,builtin,hxx,hy,hrun,Result.andThen,hbl];rfl,⟨⟨⟨?_,.inr ⟨g,cp2,_,?_,hb,setRow_heap w g cur _ _ _ hgg,?_,hcm,?_,?_⟩⟩,hall⟩,hv.2⟩,(KP.refl T w).setRow g (fun _=>(hv.2 g).2 rfl) _⟩
   ·rw[LC];omega
   ·rw[hlen]
   ·omega
   ·simp[LC];omega
   ·have htk:cur.toList.take l.length=LF l:=by simpa using htake
    have hcl:cur.toList=LF l++cur.toList.drop l.length:=by rw[← htk,List.take_append_drop]
    rw[hcl]
    generalize cur.toList.drop l.length=rest2
    have hli:off<=(LF l).length:=by rw[LC];omega
    have hlj:off+(LF (m.take n)).length<=(LF l).length:=by rw[hbl,LC];omega
    rw[List.take_append_of_le_length hli,List.drop_append_of_le_length hlj,hlen,Nat.mul_one]
    have e2:LF (l.take off++(m.take n++l.drop (off+min n m.length)))=(LF l).take off++(LF (m.take n)++(LF l).drop (off+(LF (m.take n)).length)):=by
     rw[hbl]
     simp[LF,List.map_take,List.map_drop]
    rw[e2]
    have e3:((LF l).take off++LF (m.take n)++((LF l).drop (off+(LF (m.take n)).length)++rest2))=((LF l).take off++(LF (m.take n)++(LF l).drop (off+(LF (m.take n)).length)))++rest2:=by simp
    rw[e3,List.take_append_of_le_length (by simp[LC];omega)]
    rw[List.take_of_length_le (by simp[LC];omega)]
theorem RU{ops:Array Oper}{rest:List Oper}{c:Call}{x y:Operand}{T U:Nat->Prop}{v u:Value}{l m:List Nat}{off n:Nat}{X:Value}(hg:o.guard=none)(hd:Oj N o.dst=true)(ho:o.op = .call c)(hc:c={ callee:=.builtin .copy,args:=#[x,y],argTypes:=#[26,26] })(hxX:ev (MN N F) x=X)(hp:WO X v off n)(hy:ev (MN N F) y=u)(hv:L4 w T v l)(hu:L9 w U u m)(hoff:off+n<=l.length)
  (h:∀ w',L4 w' T v (l.take off++(m.take n++l.drop (off+min n m.length)))->KP T w w'->wl ro Tryz.prog N ops Q rest (OL F o.dst (.int .i64 ((min n m.length:Nat):Int))) w'):wl ro Tryz.prog N ops Q (o::rest) F w:=by
 obtain⟨w',hr,h1,h2⟩:=Wn ho hc (by rw[hxX];exact hp) hy hv hu hoff
 exact Nu hg hd (MS hr (h w' h1 h2))
end
theorem VQ:QA Tryz.prog 123 4:=⟨_,Tryz.underlying123,rfl,by kernel_rfl⟩
def Yx(p k:Nat):Value:=.slice (some (if 4=k then ⟨p,0,none⟩ else ⟨p,k,none⟩)) (4-k) (4-k)
theorem My.bytes{w:World}{p t:Nat}{a b c d:Nat}(h:My w p t [.int .u8 (a:Int),.int .u8 (b:Int),.int .u8 (c:Int),.int .u8 (d:Int)])(ha:a<256)(hb:b<256)(hc:c<256)(hd:d<256){k:Nat}(hk:k<=4):L9 w (Lh p) (Yx p k) ([a,b,c,d].drop k):=by
 have hl:([a,b,c,d].drop k).length=4-k:=by simp
 refine⟨⟨some (if 4=k then ⟨p,0,none⟩ else ⟨p,k,none⟩),4-k,by rw[hl];rfl,by omega,Nat.le_trans (Nat.sub_le 4 k) (by decide),(fun e=>by cases e),?_,fun hp=>⟨p,k,by rw[if_neg (by omega)],h.lt,fun i hi=>?_⟩⟩,LO h.lt,fun _ a' n c' e=>?_⟩
 ·intro x hx
  have:=List.mem_of_mem_drop hx
  simp at this
  omega
 ·rw[hl] at hi
  have hc:=h.cell (i:=k+i) (v:=.int .u8 (([a,b,c,d].drop k).getD i 0:Nat)) (by
   have:k=0\/k=1\/k=2\/k=3:=by omega
   have hi4:i=0\/i=1\/i=2\/i=3:=by omega
   rcases this with rfl|rfl|rfl|rfl <;> rcases hi4 with rfl|rfl|rfl|rfl <;> first|rfl|omega)
  exact hc
 ·unfold Yx at e
  simp only[Value.slice.injEq,Option.some.injEq] at e
  rw[← e.1]
  split <;> rfl
section
variable {ρ:Operand->Value} {o:Oper} {w:World} {R:Value->World->Prop}
theorem aCm{x lo:Operand}{p:Nat}{kl:IntKind}(k:Nat){il:Int}(ho:o.op = .slice 123 x (some lo) none none)(hx:ρ x = .pointer (some ⟨p,0,none⟩))(hl:ρ lo = .int kl il)(e1:il=(k:Int))(hk:k<=4)(h:R (Yx p k) w):Lj Tryz.prog ρ o w R:=by
 subst e1
 obtain⟨i0,hi0,hz0,hz1,hz2⟩:=info_parts Tryz.info_u8
 refine MS (v:=Yx p k) (w':=w) ?_ h
 have b1:(Instr.sliceBounds false 4 4 (some (.int kl (k:Int))) none none).run Tryz.prog w = .ok (k,4,4) w:=by
  simp[Instr.sliceBounds,Instr.sliceBound,asIntOf,hk]
 simp[execOp,ho,hx,hl,Instr.sliceAt,Instr.sureAddr,run_underlying Tryz.underlying123,b1,sizeOf,typeInfo,hi0,hz1,Yx,Addr.add_lit]
end
theorem Th:∀ (n t:Nat) (acc:List Nat),(∀ x∈acc,x<256)->∃ l:List Nat,Extern.BytealgMakeNoZero.digits n t (LF acc).toArray=(LF l).toArray/\(∀ x∈l,x<256)/\l.length=acc.length+n
 | 0,_,acc,h=>⟨acc,rfl,h,rfl⟩
 | n+1,t,acc,h=>by
  obtain⟨l,h1,h2,h3⟩:=Th n (t/256) (acc ++ [t%256]) (by
   intro x hx
   rcases List.mem_append.1 hx with hx|hx
   ·exact h x hx
   ·simp at hx;omega)
  refine⟨l,?_,h2,by simp at h3;omega⟩
  rw[Extern.BytealgMakeNoZero.digits,← h1]
  congr 1
  simp[LF]
theorem R6(w:World)(n:Nat)(hn:n<1099511627776) :
  ∃ cs:Array Value,(Extern.BytealgMakeNoZero.makeNoZero #[3] #[26] #[.int .i64 n]).run Tryz.prog w = .ok (.slice (some ⟨w.heap.size,0,none⟩) n cs.size) (w.drew.drew.alloc (.cells cs 5))/\n<=cs.size/\cs.size<=maxLen/\∃ l:List Nat,cs=(LF l).toArray/\(∀ x∈l,x<256)/\l.length=cs.size:=by
 obtain⟨cs,hr,h1,h2⟩:=Lib.run_makeNoZero (P:=Tryz.prog) w #[3] 26 5 Tryz.underlying26 n (by omega)
 refine⟨cs,hr,h1,h2 (Nat.le_trans (Nat.le_of_lt hn) (by decide)),?_⟩
 have h0:¬ (n:Int)<0:=by omega
 have h3:¬ (281474976710656:Int)<(n:Int):=by omega
 have hd:Extern.BytealgMakeNoZero.makeNoZero #[3] #[26] #[.int .i64 n]=underlying 26 >>= _:=rfl
 have hr2:=hr
 rw[hd] at hr2
 simp[run_underlying Tryz.underlying26,h0,h3,Question.forced,newRow] at hr2
 have e:=congrArg (fun W:World=>W.heap[w.drew.drew.heap.size]?) hr2.2
 simp only[heap_alloc_new] at e
 have e2:=(Obj.cells.inj (Option.some.inj e)).1
 rw[hr2.1] at e2
 obtain⟨T,hT⟩:∃ T,Extern.BytealgMakeNoZero.digits cs.size T #[]=cs:=⟨_,e2⟩
 obtain⟨l,k1,k2,k3⟩:=Th cs.size T [] (by simp)
 exact⟨l,hT.symm.trans k1,k2,by simpa using k3⟩
theorem aCE{ro:Option Nat}{N:Nat}{Q:(Exit->(Nat->Value)->World->Prop)}{F:Nat->Value}{w:World}{o:Oper}{ops:Array Oper}{rest:List Oper}{c:Call}{x:Operand}{f:FuncId}{fn:Func}{n:Nat}{i:Int}(hg:o.guard=none)(hd:Oj N o.dst=true)(ho:o.op = .call c)(hc:c={ callee:=.value (.func f),args:=#[x],argTypes:=#[3] })(hx:ev (MN N F) x = .int .i64 i)(hi:i=(n:Int))(hn:n<1099511627776)
  (hf : Tryz.prog.funcs[f]? = some fn) (hname : (fn.name == "runtime.NumGoroutine") = false) (hb : fn.body.isNone = true) (hnx : Extern.findNext fn = none) (he : Extern.find fn = some (Extern.BytealgMakeNoZero.makeNoZero #[3] #[26]))
  (h:∀ v w' T (l:List Nat),L4 w' T v l->l.length=n->KS w Ma T->KP (fun _=>False) w w'->wl ro Tryz.prog N ops Q rest (OL F o.dst v) w'):wl ro Tryz.prog N ops Q (o::rest) F w:=by
 subst hc;subst hi
 obtain⟨cs,hrun,hle,hmx,hcap⟩:=R6 w n hn
 obtain⟨J,hJ,hJ2,hJ3⟩:=hcap
 have hcall:(callFunc f #[.int .i64 (n:Int)]).run Tryz.prog w = .ok (.value (.slice (some ⟨w.heap.size,0,none⟩) n cs.size)) (w.drew.drew.alloc (.cells cs 5)):=by
  rw[run_callFunc_extern hf hname hb hnx he,hrun];rfl
 have hsz:cs.size=J.length:=by rw[hJ];simp[LC]
 refine Nu hg hd (MS (v:=.slice (some ⟨w.heap.size,0,none⟩) n cs.size) (w':=w.drew.drew.alloc (.cells cs 5)) (by simp[execOp,ho,resolve,K4,Deferred.ofValue,invoke,hx,hcall]) (h _ _ _ (J.take n) (L4.of ⟨⟨by rw[LC];omega,.inr ⟨w.heap.size,cs.size,cs,by rw[List.length_take,Nat.min_eq_left (by omega)],Nat.zero_le _,?_,by rw[List.length_take];omega,hmx,by omega,?_⟩⟩,fun y hy=>hJ2 y (List.mem_of_mem_take hy)⟩) (by rw[List.length_take];omega) (fun i hi=>.inr ?_) (((KP.refl _ w).drew.drew).alloc _)))
 ·exact heap_alloc_new w.drew.drew _
 ·rw[hJ,List.length_take,Nat.min_eq_left (by omega),Nat.mul_one]
  simp[LF,List.map_take]
 ·cases hi;exact Nat.le_refl _
end Go.Proofs.YtknjpdcpmpfklaaGreatDoor
set_option maxRecDepth 100000
namespace Go.Proofs.YtknjpdcpmpfklaaGreatDoor
open Go.RowKit
theorem N3(n a b:Int)(w0:World) :
  Calls Tryz.prog 116 #[.int .i64 (n),.int .i64 (a),.int .i64 (b)] w0 fun e w'=>e = .returned (.int .i64 (max a (min n b)))/\KP (fun _=>False) w0 w':=by
 refine Ls (args:=[iv n,iv a,iv b]) 12 Tryz.func116 rfl rfl (Nat.le_of_ble_eq_true rfl) ?_
 refine KK (KI (KJ (iv 0) rfl rfl (KX rfl rfl rr) (KO ?_)))
 have s3:=La (iv n)
 have s4:=La (iv a)
 have s5:=La (iv b)
 have s6:=La (undef)
 refine KH (KK (KI (KW rfl rfl rfl s4 (KW rfl rfl rfl s3 (KW rfl rfl rfl s5 (KJ (iv (min n b)) rfl rfl (QO rfl rfl rfl rfl rr) (KJ (iv (max a (min n b))) rfl rfl (Rn rfl rfl rfl rfl rr) (KJ (iv (max a (min n b))) rfl rfl (KX rfl rfl rr) (KO ?_)))))))))
 have af:=La (iv (max a (min n b)))
 refine KH (Ld ?_)
 exact Lu (v:=iv (max a (min n b))) s6 rfl rfl af ⟨rfl,(KP.refl (fun _=>False) w0)⟩
theorem Pn(n:Int)(w0:World) :
  Calls Tryz.prog 51 #[.int .i64 (n)] w0 fun e w'=>e = .returned (.bool (Mm n))/\KP (fun _=>False) w0 w':=by
 refine Ls (args:=[iv n]) 14 Tryz.func51 rfl rfl (Nat.le_of_ble_eq_true rfl) ?_
 have K0:=KP.refl (fun _=>False) w0
 refine KK (KI (KJ (.bool false) rfl rfl (KX rfl rfl rr) (KO ?_)))
 have s3:=La (iv n)
 have s4:=La (undef)
 refine KH (KK ?_)
 by_cases d5:8<=n
 ·skip
  by_cases d6:n<=64
  ·skip
   refine KI (KW rfl rfl rfl s3 (KJ (.bool true) rfl rfl (Nl rfl rfl rfl (decide_eq_true d5) rr) (KJ (.bool true) rfl rfl (KQ rfl rfl rr) (KR (iv n) 2 true 5 rfl rfl rfl rfl rfl (KQ rfl s3 rr) (KR (.bool true) 2 true 5 rfl rfl rfl rfl rfl (Nf rfl rfl rfl (decide_eq_true d6) rr) (KJ (.bool true) rfl rfl (Lg rfl rfl rfl rr) (KJ (.bool true) rfl rfl (KQ rfl rfl rr) (KR (iv n) 6 true 9 rfl rfl rfl rfl rfl (KQ rfl s3 rr) (KR (iv (Int.tmod n 8)) 6 true 9 rfl rfl rfl rfl rfl (Ya rfl rfl rfl (by first|decide|omega) rfl rr) (KR (.bool (decide ((Int.tmod n 8)=0))) 6 true 9 rfl rfl rfl rfl rfl (Mj rfl rfl rfl rfl rr) (KJ (.bool (decide ((Int.tmod n 8)=0))) rfl rfl (Lg rfl rfl rfl rr) ?_)))))))))))
   refine KJ (.bool (decide ((Int.tmod n 8)=0))) rfl rfl (KX rfl rfl rr) (KO ?_)
   have ah:=La (.bool (decide ((Int.tmod n 8)=0)))
   refine KH (Ld ?_)
   exact Lu (v:=.bool (decide ((Int.tmod n 8)=0))) s4 rfl rfl ah ⟨(by first|rw[TL (by omega)]|rw[SL (by omega)]|rw[Tw (by omega) (by omega)]),K0⟩
  ·skip
   refine KI (KW rfl rfl rfl s3 (KJ (.bool true) rfl rfl (Nl rfl rfl rfl (decide_eq_true d5) rr) (KJ (.bool true) rfl rfl (KQ rfl rfl rr) (KR (iv n) 2 true 5 rfl rfl rfl rfl rfl (KQ rfl s3 rr) (KR (.bool false) 2 true 5 rfl rfl rfl rfl rfl (Nf rfl rfl rfl (decide_eq_false d6) rr) (KJ (.bool false) rfl rfl (Lg rfl rfl rfl rr) (KJ (.bool false) rfl rfl (KQ rfl rfl rr) (KL 6 true 9 rfl rfl rfl (Or.inl rfl) rfl (KL 6 true 9 rfl rfl rfl (Or.inl rfl) rfl (KL 6 true 9 rfl rfl rfl (Or.inl rfl) rfl (KJ (.bool false) rfl rfl (Lb rfl rfl rfl rr) ?_)))))))))))
   refine KJ (.bool false) rfl rfl (KX rfl rfl rr) (KO ?_)
   have ai:=La (.bool false)
   refine KH (Ld ?_)
   exact Lu (v:=.bool false) s4 rfl rfl ai ⟨(by first|rw[TL (by omega)]|rw[SL (by omega)]|rw[Tw (by omega) (by omega)]),K0⟩
 ·skip
  refine KI (KW rfl rfl rfl s3 (KJ (.bool false) rfl rfl (Nl rfl rfl rfl (decide_eq_false d5) rr) (KJ (.bool false) rfl rfl (KQ rfl rfl rr) (KL 2 true 5 rfl rfl rfl (Or.inl rfl) rfl (KL 2 true 5 rfl rfl rfl (Or.inl rfl) rfl (KJ (.bool false) rfl rfl (Lb rfl rfl rfl rr) (KJ (.bool false) rfl rfl (KQ rfl rfl rr) (KL 6 true 9 rfl rfl rfl (Or.inl rfl) rfl (KL 6 true 9 rfl rfl rfl (Or.inl rfl) rfl (KL 6 true 9 rfl rfl rfl (Or.inl rfl) rfl (KJ (.bool false) rfl rfl (Lb rfl rfl rfl rr) ?_)))))))))))
  refine KJ (.bool false) rfl rfl (KX rfl rfl rr) (KO ?_)
  have aj:=La (.bool false)
  refine KH (Ld ?_)
  exact Lu (v:=.bool false) s4 rfl rfl aj ⟨(by first|rw[TL (by omega)]|rw[SL (by omega)]|rw[Tw (by omega) (by omega)]),K0⟩
def LG(f:FD)(p:Int):Int×Int:=if p=0 then (f.W,f.H) else (Int.tdiv f.W 2,Int.tdiv f.H 2)
theorem Qv(p:Int)(f:FD)(f0 f1 f2:Value)(T_f0:Nat->Prop)(T_f1:Nat->Prop)(T_f2:Nat->Prop)(w0:World)(hw:0<=f.W/\f.W<=64)(hh:0<=f.H/\f.H<=64)(_h_f0:L9 w0 T_f0 f0 ((f).p0))(_h_f1:L9 w0 T_f1 f1 ((f).p1))(_h_f2:L9 w0 T_f2 f2 ((f).p2)) :
  Calls Tryz.prog 52 #[.agg #[.int .i64 ((f).W),.int .i64 ((f).H),f0,f1,f2],.int .i64 (p)] w0 fun e w'=>e = .returned (.tuple #[.int .i64 ((LG f p).1),.int .i64 ((LG f p).2)])/\KP (fun _=>False) w0 w':=by
 refine Ls (args:=[.agg #[iv (f.W),iv (f.H),f0,f1,f2],iv p]) 18 Tryz.func52 rfl rfl (Nat.le_of_ble_eq_true rfl) ?_
 have g_f0:=KS.refl w0 T_f0
 have g_f1:=KS.refl w0 T_f1
 have g_f2:=KS.refl w0 T_f2
 refine KK (KI (Lx (vs:=[iv (f.W),iv (f.H),f0,f1,f2]) rfl rfl rfl rfl fun p1 w2 B4 g5 k3=>?_))
 have ak:=(KP.refl (fun _=>False) w0).tr k3
 refine KJ (iv 0) rfl rfl (KX rfl rfl rr) (KJ (iv 0) rfl rfl (KX rfl rfl rr) (KO ?_))
 have aq:=La (iv p)
 have am:=La (undef)
 have ae:=La (pt p1 0)
 refine KH (KK (KK (KI (KW rfl rfl rfl aq (KJ (.bool (decide (p=0))) rfl rfl (Mj rfl rfl rfl rfl rr) (KO ?_))))))
 have ar:=La (.bool (decide (p=0)))
 refine KH ?_
 refine Lc ar (fun ab=>?_) (fun ab=>?_)
 ·replace ab:=of_decide_eq_true ab
  refine KK ?_
  refine Rd [some 8,some 9,some 10,some 11,some 4,some 5] [Pd.eq (pt p1 0),Pd.eq (iv (f.W)),Pd.eq (pt p1 1),Pd.eq (iv (f.H)),Pd.eq (iv (f.W)),Pd.eq (iv (f.H))] (by kernel_rfl) (by kernel_rfl) ?_ ?_
  ·refine KN ?_ ?_
   ·refine Le.one rfl fun F_ w_ hR hout hD=>?_
    exact(KT (n:=1) rfl ((hout 2 rfl (by decide)).trans ae) Tryz.underlying29 rfl (by kernel_rfl) (by decide) rfl ⟨rfl,KP.refl _ _⟩)
   refine KN ?_ ?_
   ·refine Le.one rfl fun F_ w_ hR hout hD=>?_
    have g8:F_ 8=pt p1 0:=(hD.get 0 rfl rfl rfl)
    exact(KV rfl g8 Tryz.underlying3 (B4.all hR id) rfl rfl ⟨rfl,KP.refl _ _⟩)
   refine KN ?_ ?_
   ·refine Le.one rfl fun F_ w_ hR hout hD=>?_
    exact(KT (n:=1) rfl ((hout 2 rfl (by decide)).trans ae) Tryz.underlying29 rfl (by kernel_rfl) (by decide) rfl ⟨rfl,KP.refl _ _⟩)
   refine KN ?_ ?_
   ·refine Le.one rfl fun F_ w_ hR hout hD=>?_
    have av:F_ 10=pt p1 1:=(hD.get 0 rfl rfl rfl)
    exact(KV rfl av Tryz.underlying3 (B4.all hR id) rfl rfl ⟨rfl,KP.refl _ _⟩)
   refine KN ?_ ?_
   ·refine Le.one rfl fun F_ w_ hR hout hD=>?_
    have g9:F_ 9=iv (f.W):=(hD.get 0 rfl rfl rfl)
    exact(KX rfl g9 ⟨rfl,KP.refl _ _⟩)
   refine KN ?_ ?_
   ·refine Le.one rfl fun F_ w_ hR hout hD=>?_
    have az:F_ 11=iv (f.H):=(hD.get 0 rfl rfl rfl)
    exact(KX rfl az ⟨rfl,KP.refl _ _⟩)
   exact L3
  intro aQ an aR aA ai af
  have aB:=(af 18).trans am
  have aC:an 4=iv (f.W):=(af 4).trans (ai 4 (by decide))
  have aD:an 5=iv (f.H):=(af 5).trans (ai 5 (by decide))
  clear ai af
  refine KH (Ld (Lq ?_))
  exact L7 aB rfl (Lz (v:=iv (f.W)) rfl aC) (Lz (v:=iv (f.H)) rfl aD) ⟨(by unfold LG;first|rw[if_pos (by assumption)]|rw[if_neg (by assumption)]),(ak.tr aA)⟩
 ·replace ab:=of_decide_eq_false ab
  refine Li (KH (KK ?_))
  refine Rd [some 12,some 13,some 14,some 15,some 16,some 17,some 4,some 5] [Pd.eq (pt p1 0),Pd.eq (iv (f.W)),Pd.eq (iv (Int.tdiv f.W 2)),Pd.eq (pt p1 1),Pd.eq (iv (f.H)),Pd.eq (iv (Int.tdiv f.H 2)),Pd.eq (iv (Int.tdiv f.W 2)),Pd.eq (iv (Int.tdiv f.H 2))] (by kernel_rfl) (by kernel_rfl) ?_ ?_
  ·refine KN ?_ ?_
   ·refine Le.one rfl fun F_ w_ hR hout hD=>?_
    exact(KT (n:=1) rfl ((hout 2 rfl (by decide)).trans ae) Tryz.underlying29 rfl (by kernel_rfl) (by decide) rfl ⟨rfl,KP.refl _ _⟩)
   refine KN ?_ ?_
   ·refine Le.one rfl fun F_ w_ hR hout hD=>?_
    have aE:F_ 12=pt p1 0:=(hD.get 0 rfl rfl rfl)
    exact(KV rfl aE Tryz.underlying3 (B4.all hR id) rfl rfl ⟨rfl,KP.refl _ _⟩)
   refine KN ?_ ?_
   ·refine Le.one rfl fun F_ w_ hR hout hD=>?_
    have aF:F_ 13=iv (f.W):=(hD.get 0 rfl rfl rfl)
    exact(Qd rfl aF rfl (by first|decide|omega) (Mb rfl (by rw[O7 (by omega)];omega)) ⟨rfl,KP.refl _ _⟩)
   refine KN ?_ ?_
   ·refine Le.one rfl fun F_ w_ hR hout hD=>?_
    exact(KT (n:=1) rfl ((hout 2 rfl (by decide)).trans ae) Tryz.underlying29 rfl (by kernel_rfl) (by decide) rfl ⟨rfl,KP.refl _ _⟩)
   refine KN ?_ ?_
   ·refine Le.one rfl fun F_ w_ hR hout hD=>?_
    have aG:F_ 15=pt p1 1:=(hD.get 0 rfl rfl rfl)
    exact(KV rfl aG Tryz.underlying3 (B4.all hR id) rfl rfl ⟨rfl,KP.refl _ _⟩)
   refine KN ?_ ?_
   ·refine Le.one rfl fun F_ w_ hR hout hD=>?_
    have aH:F_ 16=iv (f.H):=(hD.get 0 rfl rfl rfl)
    exact(Qd rfl aH rfl (by first|decide|omega) (Mb rfl (by rw[O7 (by omega)];omega)) ⟨rfl,KP.refl _ _⟩)
   refine KN ?_ ?_
   ·refine Le.one rfl fun F_ w_ hR hout hD=>?_
    have aI:F_ 14=iv (Int.tdiv f.W 2):=(hD.get 0 rfl rfl rfl)
    exact(KX rfl aI ⟨rfl,KP.refl _ _⟩)
   refine KN ?_ ?_
   ·refine Le.one rfl fun F_ w_ hR hout hD=>?_
    have aJ:F_ 17=iv (Int.tdiv f.H 2):=(hD.get 0 rfl rfl rfl)
    exact(KX rfl aJ ⟨rfl,KP.refl _ _⟩)
   exact L3
  intro aS ao aT aK aj ah
  have aL:=(ah 18).trans am
  have aM:ao 4=iv (Int.tdiv f.W 2):=(ah 4).trans (aj 6 (by decide))
  have aN:ao 5=iv (Int.tdiv f.H 2):=(ah 5).trans (aj 7 (by decide))
  clear aj ah
  refine KH (Ld ?_)
  exact L7 aL rfl (Lz (v:=iv (Int.tdiv f.W 2)) rfl aM) (Lz (v:=iv (Int.tdiv f.H 2)) rfl aN) ⟨(by unfold LG;first|rw[if_pos (by assumption)]|rw[if_neg (by assumption)]),(ak.tr aK)⟩
theorem WG{w h:Int}(h1:w%8=0)(h2:h%8=0)(hw:0<=w)(hh:0<=h):Int.tdiv w 2*Int.tdiv h 2=w*h/4:=by
 rw[O7 hw,O7 hh]
 obtain⟨a,rfl⟩:∃ a,w=2*a:=⟨w/2,by omega⟩
 obtain⟨b,rfl⟩:∃ b,h=2*b:=⟨h/2,by omega⟩
 rw[show 2*a/2=a by omega,show 2*b/2=b by omega,show 2*a*(2*b)=4*(a*b) by rw[Int.mul_assoc,Int.mul_left_comm a 2 b,← Int.mul_assoc];rfl]
 omega
theorem Ra{f:FD}(hw:Mm f.W=true)(hh:Mm f.H=true)(p:Int):0<=(LG f p).1*(LG f p).2/\(LG f p).1*(LG f p).2<=4096/\(LG f p).1*(LG f p).2=(if p=0 then f.W*f.H else f.W*f.H/4):=by
 have h:=Ol hw hh
 have h1:=(Mv _).1 hw
 have h2:=(Mv _).1 hh
 unfold LG
 by_cases hp:p=0
 ·rw[if_pos hp,if_pos hp];refine⟨?_,?_,rfl⟩ <;> (dsimp only;omega)
 ·rw[if_neg hp,if_neg hp]
  have q:=WG h1.2.2 h2.2.2 (by omega) (by omega)
  dsimp only
  rw[q];refine⟨?_,?_,rfl⟩ <;> omega
theorem QC{f:FD}(hw:Mm f.W=true)(hh:Mm f.H=true):QB f↔(f.p0.length:Int)=(LG f ((0:Nat):Int)).1*(LG f ((0:Nat):Int)).2/\(f.p1.length:Int)=(LG f ((1:Nat):Int)).1*(LG f ((1:Nat):Int)).2/\(f.p2.length:Int)=(LG f ((2:Nat):Int)).1*(LG f ((2:Nat):Int)).2:=by
 have har:=Ol hw hh
 rw[(Ra hw hh _).2.2,(Ra hw hh _).2.2,(Ra hw hh _).2.2,if_pos (show ((0:Nat):Int)=0 from rfl),if_neg (by decide),if_neg (by decide)]
 unfold QB
 rw[X7 (by omega)]
 exact⟨fun h=>h.2.2,fun h=>⟨hw,hh,h⟩⟩
theorem Qc{f:FD}(hw:Mm f.W=true)(hh:Mm f.H=true)(h0:(f.p0.length:Int)=(LG f ((0:Nat):Int)).1*(LG f ((0:Nat):Int)).2)(h1:(f.p1.length:Int)=(LG f ((1:Nat):Int)).1*(LG f ((1:Nat):Int)).2)(h2:(f.p2.length:Int)=(LG f ((2:Nat):Int)).1*(LG f ((2:Nat):Int)).2):Na f=0:=ayK ((QC hw hh).2 ⟨h0,h1,h2⟩)
theorem Qb{f:FD}(hw:Mm f.W=true)(hh:Mm f.H=true)(h:(f.p0.length:Int)≠(LG f ((0:Nat):Int)).1*(LG f ((0:Nat):Int)).2):Na f=70:=Ox fun k=>h ((QC hw hh).1 k).1
theorem P9{f:FD}(hw:Mm f.W=true)(hh:Mm f.H=true)(h:(f.p1.length:Int)≠(LG f ((1:Nat):Int)).1*(LG f ((1:Nat):Int)).2):Na f=70:=Ox fun k=>h ((QC hw hh).1 k).2.1
theorem P6{f:FD}(hw:Mm f.W=true)(hh:Mm f.H=true)(h:(f.p2.length:Int)≠(LG f ((2:Nat):Int)).1*(LG f ((2:Nat):Int)).2):Na f=70:=Ox fun k=>h ((QC hw hh).1 k).2.2
theorem M0(f:FD)(f0 f1 f2:Value)(T_f0:Nat->Prop)(T_f1:Nat->Prop)(T_f2:Nat->Prop)(w0:World)(h_f0:L9 w0 T_f0 f0 ((f).p0))(h_f1:L9 w0 T_f1 f1 ((f).p1))(h_f2:L9 w0 T_f2 f2 ((f).p2)) :
  Calls Tryz.prog 19 #[.agg #[.int .i64 ((f).W),.int .i64 ((f).H),f0,f1,f2]] w0 fun e w'=>e = .returned (.int .i64 (Na f))/\KP (fun _=>False) w0 w':=by
 refine Ls (args:=[.agg #[iv (f.W),iv (f.H),f0,f1,f2]]) 36 Tryz.func19 rfl rfl (Nat.le_of_ble_eq_true rfl) ?_
 have g_f0:=KS.refl w0 T_f0
 have g_f1:=KS.refl w0 T_f1
 have g_f2:=KS.refl w0 T_f2
 refine KK (KI (Lx (vs:=[iv (f.W),iv (f.H),f0,f1,f2]) rfl rfl rfl rfl fun p1 w2 B4 g5 k3=>?_))
 obtain⟨aR,aS,aT⟩:=ND k3 h_f0 h_f1 h_f2
 have ap:=(KP.refl (fun _=>False) w0).tr k3
 refine KJ (iv 0) rfl rfl (KX rfl rfl rr) (KO ?_)
 have ac:=La (undef)
 have aa:=La (pt p1 0)
 refine KH (KK (KK ?_))
 rcases Bool.eq_false_or_eq_true (Mm (f.W)) with aj|aj
 ·skip
  rcases Bool.eq_false_or_eq_true (Mm (f.H)) with aq|aq
  ·skip
   refine KI (KJ (pt p1 0) rfl rfl (KT (n:=1) rfl aa Tryz.underlying29 rfl (by kernel_rfl) (by decide) rfl rr) (KJ (iv (f.W)) rfl rfl (KV rfl rfl Tryz.underlying3 B4 rfl rfl rr) (Ly (R:=fun v_ w_=>v_ = .bool true/\KP (fun _=>False) w2 w_) rfl rfl (LE rfl rfl rfl (fun _ _=>by kernel_rfl) (K4 _) (Lm rfl LS) (Pn (f.W)  _   ) (fun e_ w_ h_=>⟨_,h_.1,(congrArg Value.bool aj),h_.2⟩)) ?_)))
   rintro _ aU ⟨rfl,az⟩
   obtain⟨aV,aW,aX,aA⟩:=OW az aR aS aT B4
   refine KJ (.bool false) rfl rfl (LW rfl rfl rfl rr) (KJ (.bool false) rfl rfl (KQ rfl rfl rr) (KR (pt p1 1) 4 false 11 rfl rfl rfl rfl rfl (KT (n:=1) rfl aa Tryz.underlying29 rfl (by kernel_rfl) (by decide) rfl rr) (KR (iv (f.H)) 4 false 11 rfl rfl rfl rfl rfl (KV rfl rfl Tryz.underlying3 aA rfl rfl rr) (LA (R:=fun v_ w_=>v_ = .bool true/\KP (fun _=>False) aU w_) 4 false 11 rfl rfl rfl rfl rfl (LE rfl rfl rfl (fun _ _=>by kernel_rfl) (K4 _) (Lm rfl LS) (Pn (f.H)  _   ) (fun e_ w_ h_=>⟨_,h_.1,(congrArg Value.bool aq),h_.2⟩)) ?_))))
   rintro _ bN ⟨rfl,aB⟩
   obtain⟨aC,aD,aE,ar⟩:=OW aB aV aW aX aA
   refine KR (.bool false) 4 false 11 rfl rfl rfl rfl rfl (LW rfl rfl rfl rr) (KJ (.bool false) rfl rfl (Lb rfl rfl rfl rr) (KO ?_))
   have aY:=La (.bool false)
   refine KH ?_
   refine Lc (t:=false) aY (fun e=>by cases e) (fun _=>?_)
   refine Li (KH (KK (KK ?_)))
   have hsw:Mm f.W=true:=by assumption
   have hsh:Mm f.H=true:=by assumption
   have hws:=(Mv _).1 hsw
   have hhs:=(Mv _).1 hsh
   have hA:=Ra hsw hsh
   have har:=Ol hsw hsh
   refine KI (KJ (pt p1 2) rfl rfl (KT (n:=3) rfl aa Tryz.underlying29 rfl (by kernel_rfl) (by decide) rfl rr) (KJ (.agg #[f0,f1,f2]) rfl rfl (aCq rfl rfl ar rfl rfl rfl rr) (KJ (iv 0) rfl rfl (KQ rfl rfl rr) (KO ?_))))
   have au:=La (.agg #[f0,f1,f2])
   have ak:=La (iv 0)
   refine KH (Lo (OA 4 (Md (KK (KI (KJ (.bool true) rfl rfl (L5 rfl ak rfl rfl rr) (KO ?_)))))))
   have aZ:=La (.bool true)
   refine KH (KK ?_)
   refine Lc (t:=true) aZ (fun _=>?_) (fun e=>by cases e)
   refine Li (KH (KK (Lo (KK (KI (KW rfl rfl rfl ak (KJ f0 rfl rfl (YS 0 rfl au ak (by decide) rfl rr) (KJ (iv 0) rfl rfl (KX rfl rfl rr) (KJ f0 rfl rfl (KX rfl rfl rr) (KO ?_))))))))))
   have a8:=La (iv 0)
   have a9:=La (f0)
   refine KH (KK (KI (KJ (.agg #[iv (f.W),iv (f.H),f0,f1,f2]) rfl rfl (KU K3 rfl aa ar rr) (KW rfl rfl rfl a8 (LY rfl rfl rfl rfl rfl (fun _ _=>by kernel_rfl) (Lm rfl (Lm rfl LS)) (Qv 0 f f0 f1 f2 T_f0 T_f1 T_f2 _ (by omega) (by omega) aC aD aE ) fun bO aF=>?_)))))
   obtain⟨av,aG,aH,aI⟩:=OW aF aC aD aE ar
   have aJ:=((ap.tr az).tr aB).tr aF
   refine KJ (.tuple #[iv ((LG f 0).1),iv ((LG f 0).2)]) rfl rfl (KQ rfl rfl rr) (KJ (iv ((LG f 0).1)) rfl rfl (LM rfl rfl rfl rr) (KJ (iv ((LG f 0).2)) rfl rfl (LM rfl rfl rfl rr) (KJ (iv ((LG f 0).1)) rfl rfl (KX rfl rfl rr) (KJ (iv ((LG f 0).2)) rfl rfl (KX rfl rfl rr) (KO ?_)))))
   have ba:=La (iv ((LG f 0).1))
   have bb:=La (iv ((LG f 0).2))
   refine KH (KK (KI (KW rfl rfl rfl a9 (KJ (iv (((f.p0).length:Nat):Int)) rfl rfl (M3 rfl rfl rfl av rr) (KW rfl rfl rfl ba (KW rfl rfl rfl bb (KJ (iv ((LG f ((0:Nat):Int)).1*(LG f ((0:Nat):Int)).2)) rfl rfl (NH rfl rfl rfl (Mb rfl ⟨Int.le_trans (by decide) (hA _).1,Int.le_trans (hA _).2.1 (by decide)⟩) rr) (KJ (.bool (decide ((((f.p0).length:Nat):Int)≠((LG f ((0:Nat):Int)).1*(LG f ((0:Nat):Int)).2)))) rfl rfl (Mc rfl rfl rfl rfl rr) (KO ?_)))))))))
   have bc:=La (.bool (decide ((((f.p0).length:Nat):Int)≠((LG f ((0:Nat):Int)).1*(LG f ((0:Nat):Int)).2))))
   refine KH ?_
   refine Lc bc (fun af=>?_) (fun af=>?_)
   ·replace af:=of_decide_eq_true af
    refine KK (KI (KJ (iv 70) rfl rfl (KX rfl rfl rr) (KO ?_)))
    have bd:=La (iv 70)
    refine KH (Ld (NV (Lq (Lq (NV (Lq ?_))))))
    exact Lu (v:=iv 70) ac rfl rfl bd ⟨(by first|rw[Qc hsw hsh (by first|assumption|(apply Decidable.byContradiction;assumption)) (by first|assumption|(apply Decidable.byContradiction;assumption)) (by first|assumption|(apply Decidable.byContradiction;assumption))]|rw[Qb hsw hsh (by assumption)]|rw[P9 hsw hsh (by assumption)]|rw[P6 hsw hsh (by assumption)]|rw[Ox (by rintro ⟨h1,h2,h3,h4,h5⟩;simp_all;done)]),aJ⟩
   ·replace af:=of_decide_eq_false af
    refine Li (LD (KH (KI (KJ (iv ((1:Nat):Int)) rfl rfl (LR rfl ak rfl (L2 (by omega) (by omega)) rr) (KJ (iv ((1:Nat):Int)) rfl rfl (KQ rfl rfl rr) (KO ?_))))))
    have am:=La (iv ((1:Nat):Int))
    refine KH (Md (KK (KI (KJ (.bool true) rfl rfl (L5 rfl am rfl rfl rr) (KO ?_)))))
    have be:=La (.bool true)
    refine KH (KK ?_)
    refine Lc (t:=true) be (fun _=>?_) (fun e=>by cases e)
    refine Li (KH (KK (Lo (KK (KI (KW rfl rfl rfl am (KJ f1 rfl rfl (YS 1 rfl au am (by decide) rfl rr) (KJ (iv ((1:Nat):Int)) rfl rfl (KX rfl rfl rr) (KJ f1 rfl rfl (KX rfl rfl rr) (KO ?_))))))))))
    have bf:=La (iv ((1:Nat):Int))
    have bg:=La (f1)
    refine KH (KK (KI (KJ (.agg #[iv (f.W),iv (f.H),f0,f1,f2]) rfl rfl (KU K3 rfl aa aI rr) (KW rfl rfl rfl bf (LY rfl rfl rfl rfl rfl (fun _ _=>by kernel_rfl) (Lm rfl (Lm rfl LS)) (Qv ((1:Nat):Int) f f0 f1 f2 T_f0 T_f1 T_f2 _ (by omega) (by omega) av aG aH ) fun bP aK=>?_)))))
    obtain⟨bh,aL,aM,bi⟩:=OW aK av aG aH aI
    have aN:=aJ.tr aK
    refine KJ (.tuple #[iv ((LG f ((1:Nat):Int)).1),iv ((LG f ((1:Nat):Int)).2)]) rfl rfl (KQ rfl rfl rr) (KJ (iv ((LG f ((1:Nat):Int)).1)) rfl rfl (LM rfl rfl rfl rr) (KJ (iv ((LG f ((1:Nat):Int)).2)) rfl rfl (LM rfl rfl rfl rr) (KJ (iv ((LG f ((1:Nat):Int)).1)) rfl rfl (KX rfl rfl rr) (KJ (iv ((LG f ((1:Nat):Int)).2)) rfl rfl (KX rfl rfl rr) (KO ?_)))))
    have bj:=La (iv ((LG f ((1:Nat):Int)).1))
    have bl:=La (iv ((LG f ((1:Nat):Int)).2))
    refine KH (KK (KI (KW rfl rfl rfl bg (KJ (iv (((f.p1).length:Nat):Int)) rfl rfl (M3 rfl rfl rfl aL rr) (KW rfl rfl rfl bj (KW rfl rfl rfl bl (KJ (iv ((LG f ((1:Nat):Int)).1*(LG f ((1:Nat):Int)).2)) rfl rfl (NH rfl rfl rfl (Mb rfl ⟨Int.le_trans (by decide) (hA _).1,Int.le_trans (hA _).2.1 (by decide)⟩) rr) (KJ (.bool (decide ((((f.p1).length:Nat):Int)≠((LG f ((1:Nat):Int)).1*(LG f ((1:Nat):Int)).2)))) rfl rfl (Mc rfl rfl rfl rfl rr) (KO ?_)))))))))
    have bm:=La (.bool (decide ((((f.p1).length:Nat):Int)≠((LG f ((1:Nat):Int)).1*(LG f ((1:Nat):Int)).2))))
    refine KH ?_
    refine Lc bm (fun ah=>?_) (fun ah=>?_)
    ·replace ah:=of_decide_eq_true ah
     refine KK (KI (KJ (iv 70) rfl rfl (KX rfl rfl rr) (KO ?_)))
     have bn:=La (iv 70)
     refine KH (Ld (NV (Lq (Lq (NV (Lq ?_))))))
     exact Lu (v:=iv 70) ac rfl rfl bn ⟨(by first|rw[Qc hsw hsh (by first|assumption|(apply Decidable.byContradiction;assumption)) (by first|assumption|(apply Decidable.byContradiction;assumption)) (by first|assumption|(apply Decidable.byContradiction;assumption))]|rw[Qb hsw hsh (by assumption)]|rw[P9 hsw hsh (by assumption)]|rw[P6 hsw hsh (by assumption)]|rw[Ox (by rintro ⟨h1,h2,h3,h4,h5⟩;simp_all;done)]),aN⟩
    ·replace ah:=of_decide_eq_false ah
     refine Li (LD (KH (KI (KJ (iv ((2:Nat):Int)) rfl rfl (LR rfl am rfl (L2 (by omega) (by omega)) rr) (KJ (iv ((2:Nat):Int)) rfl rfl (KQ rfl rfl rr) (KO ?_))))))
     have an:=La (iv ((2:Nat):Int))
     refine KH (Md (KK (KI (KJ (.bool true) rfl rfl (L5 rfl an rfl rfl rr) (KO ?_)))))
     have bo:=La (.bool true)
     refine KH (KK ?_)
     refine Lc (t:=true) bo (fun _=>?_) (fun e=>by cases e)
     refine Li (KH (KK (Lo (KK (KI (KW rfl rfl rfl an (KJ f2 rfl rfl (YS 2 rfl au an (by decide) rfl rr) (KJ (iv ((2:Nat):Int)) rfl rfl (KX rfl rfl rr) (KJ f2 rfl rfl (KX rfl rfl rr) (KO ?_))))))))))
     have bp:=La (iv ((2:Nat):Int))
     have bq:=La (f2)
     refine KH (KK (KI (KJ (.agg #[iv (f.W),iv (f.H),f0,f1,f2]) rfl rfl (KU K3 rfl aa bi rr) (KW rfl rfl rfl bp (LY rfl rfl rfl rfl rfl (fun _ _=>by kernel_rfl) (Lm rfl (Lm rfl LS)) (Qv ((2:Nat):Int) f f0 f1 f2 T_f0 T_f1 T_f2 _ (by omega) (by omega) bh aL aM ) fun bQ aO=>?_)))))
     have bt:=aM.all aO KM.none
     have aP:=aN.tr aO
     refine KJ (.tuple #[iv ((LG f ((2:Nat):Int)).1),iv ((LG f ((2:Nat):Int)).2)]) rfl rfl (KQ rfl rfl rr) (KJ (iv ((LG f ((2:Nat):Int)).1)) rfl rfl (LM rfl rfl rfl rr) (KJ (iv ((LG f ((2:Nat):Int)).2)) rfl rfl (LM rfl rfl rfl rr) (KJ (iv ((LG f ((2:Nat):Int)).1)) rfl rfl (KX rfl rfl rr) (KJ (iv ((LG f ((2:Nat):Int)).2)) rfl rfl (KX rfl rfl rr) (KO ?_)))))
     have bu:=La (iv ((LG f ((2:Nat):Int)).1))
     have bv:=La (iv ((LG f ((2:Nat):Int)).2))
     refine KH (KK (KI (KW rfl rfl rfl bq (KJ (iv (((f.p2).length:Nat):Int)) rfl rfl (M3 rfl rfl rfl bt rr) (KW rfl rfl rfl bu (KW rfl rfl rfl bv (KJ (iv ((LG f ((2:Nat):Int)).1*(LG f ((2:Nat):Int)).2)) rfl rfl (NH rfl rfl rfl (Mb rfl ⟨Int.le_trans (by decide) (hA _).1,Int.le_trans (hA _).2.1 (by decide)⟩) rr) (KJ (.bool (decide ((((f.p2).length:Nat):Int)≠((LG f ((2:Nat):Int)).1*(LG f ((2:Nat):Int)).2)))) rfl rfl (Mc rfl rfl rfl rfl rr) (KO ?_)))))))))
     have bz:=La (.bool (decide ((((f.p2).length:Nat):Int)≠((LG f ((2:Nat):Int)).1*(LG f ((2:Nat):Int)).2))))
     refine KH ?_
     refine Lc bz (fun ai=>?_) (fun ai=>?_)
     ·replace ai:=of_decide_eq_true ai
      refine KK (KI (KJ (iv 70) rfl rfl (KX rfl rfl rr) (KO ?_)))
      have bA:=La (iv 70)
      refine KH (Ld (NV (Lq (Lq (NV (Lq ?_))))))
      exact Lu (v:=iv 70) ac rfl rfl bA ⟨(by first|rw[Qc hsw hsh (by first|assumption|(apply Decidable.byContradiction;assumption)) (by first|assumption|(apply Decidable.byContradiction;assumption)) (by first|assumption|(apply Decidable.byContradiction;assumption))]|rw[Qb hsw hsh (by assumption)]|rw[P9 hsw hsh (by assumption)]|rw[P6 hsw hsh (by assumption)]|rw[Ox (by rintro ⟨h1,h2,h3,h4,h5⟩;simp_all;done)]),aP⟩
     ·replace ai:=of_decide_eq_false ai
      refine Li (LD (KH (KI (KJ (iv ((3:Nat):Int)) rfl rfl (LR rfl an rfl (L2 (by omega) (by omega)) rr) (KJ (iv ((3:Nat):Int)) rfl rfl (KQ rfl rfl rr) (KO ?_))))))
      have bB:=La (iv ((3:Nat):Int))
      refine KH (Md (KK (KI (KJ (.bool false) rfl rfl (L5 rfl bB rfl rfl rr) (KO ?_)))))
      have bC:=La (.bool false)
      refine KH (KK ?_)
      refine Lc (t:=false) bC (fun e=>by cases e) (fun _=>?_)
      refine Mg (Lt (Lt (Mh (KH (KK (KI (KJ (iv 0) rfl rfl (KX rfl rfl rr) (KO ?_))))))))
      have bD:=La (iv 0)
      refine KH (Ld ?_)
      exact Lu (v:=iv 0) ac rfl rfl bD ⟨(by first|rw[Qc hsw hsh (by first|assumption|(apply Decidable.byContradiction;assumption)) (by first|assumption|(apply Decidable.byContradiction;assumption)) (by first|assumption|(apply Decidable.byContradiction;assumption))]|rw[Qb hsw hsh (by assumption)]|rw[P9 hsw hsh (by assumption)]|rw[P6 hsw hsh (by assumption)]|rw[Ox (by rintro ⟨h1,h2,h3,h4,h5⟩;simp_all;done)]),aP⟩
  ·skip
   refine KI (KJ (pt p1 0) rfl rfl (KT (n:=1) rfl aa Tryz.underlying29 rfl (by kernel_rfl) (by decide) rfl rr) (KJ (iv (f.W)) rfl rfl (KV rfl rfl Tryz.underlying3 B4 rfl rfl rr) (Ly (R:=fun v_ w_=>v_ = .bool true/\KP (fun _=>False) w2 w_) rfl rfl (LE rfl rfl rfl (fun _ _=>by kernel_rfl) (K4 _) (Lm rfl LS) (Pn (f.W)  _   ) (fun e_ w_ h_=>⟨_,h_.1,(congrArg Value.bool aj),h_.2⟩)) ?_)))
   rintro _ bE ⟨rfl,aQ⟩
   have bF:=B4.all aQ id
   refine KJ (.bool false) rfl rfl (LW rfl rfl rfl rr) (KJ (.bool false) rfl rfl (KQ rfl rfl rr) (KR (pt p1 1) 4 false 11 rfl rfl rfl rfl rfl (KT (n:=1) rfl aa Tryz.underlying29 rfl (by kernel_rfl) (by decide) rfl rr) (KR (iv (f.H)) 4 false 11 rfl rfl rfl rfl rfl (KV rfl rfl Tryz.underlying3 bF rfl rfl rr) (LA (R:=fun v_ w_=>v_ = .bool false/\KP (fun _=>False) bE w_) 4 false 11 rfl rfl rfl rfl rfl (LE rfl rfl rfl (fun _ _=>by kernel_rfl) (K4 _) (Lm rfl LS) (Pn (f.H)  _   ) (fun e_ w_ h_=>⟨_,h_.1,(congrArg Value.bool aq),h_.2⟩)) ?_))))
   rintro _ bR ⟨rfl,bG⟩
   refine KR (.bool true) 4 false 11 rfl rfl rfl rfl rfl (LW rfl rfl rfl rr) (KJ (.bool true) rfl rfl (Lb rfl rfl rfl rr) (KO ?_))
   have bH:=La (.bool true)
   refine KH ?_
   refine Lc (t:=true) bH (fun _=>?_) (fun e=>by cases e)
   refine KK (KI (KJ (iv 70) rfl rfl (KX rfl rfl rr) (KO ?_)))
   have bI:=La (iv 70)
   refine KH (Ld (Lq ?_))
   exact Lu (v:=iv 70) ac rfl rfl bI ⟨(by first|rw[Qc hsw hsh (by first|assumption|(apply Decidable.byContradiction;assumption)) (by first|assumption|(apply Decidable.byContradiction;assumption)) (by first|assumption|(apply Decidable.byContradiction;assumption))]|rw[Qb hsw hsh (by assumption)]|rw[P9 hsw hsh (by assumption)]|rw[P6 hsw hsh (by assumption)]|rw[Ox (by rintro ⟨h1,h2,h3,h4,h5⟩;simp_all;done)]),((ap.tr aQ).tr bG)⟩
 ·skip
  refine KI (KJ (pt p1 0) rfl rfl (KT (n:=1) rfl aa Tryz.underlying29 rfl (by kernel_rfl) (by decide) rfl rr) (KJ (iv (f.W)) rfl rfl (KV rfl rfl Tryz.underlying3 B4 rfl rfl rr) (Ly (R:=fun v_ w_=>v_ = .bool false/\KP (fun _=>False) w2 w_) rfl rfl (LE rfl rfl rfl (fun _ _=>by kernel_rfl) (K4 _) (Lm rfl LS) (Pn (f.W)  _   ) (fun e_ w_ h_=>⟨_,h_.1,(congrArg Value.bool aj),h_.2⟩)) ?_)))
  rintro _ bS ⟨rfl,bJ⟩
  refine KJ (.bool true) rfl rfl (LW rfl rfl rfl rr) (KJ (.bool true) rfl rfl (KQ rfl rfl rr) (KL 4 false 11 rfl rfl rfl (Or.inl rfl) rfl (KL 4 false 11 rfl rfl rfl (Or.inl rfl) rfl (KL 4 false 11 rfl rfl rfl (Or.inl rfl) rfl (KL 4 false 11 rfl rfl rfl (Or.inl rfl) rfl (KJ (.bool true) rfl rfl (Lg rfl rfl rfl rr) (KO ?_)))))))
  have bK:=La (.bool true)
  refine KH ?_
  refine Lc (t:=true) bK (fun _=>?_) (fun e=>by cases e)
  refine KK (KI (KJ (iv 70) rfl rfl (KX rfl rfl rr) (KO ?_)))
  have bL:=La (iv 70)
  refine KH (Ld (Lq ?_))
  exact Lu (v:=iv 70) ac rfl rfl bL ⟨(by first|rw[Qc hsw hsh (by first|assumption|(apply Decidable.byContradiction;assumption)) (by first|assumption|(apply Decidable.byContradiction;assumption)) (by first|assumption|(apply Decidable.byContradiction;assumption))]|rw[Qb hsw hsh (by assumption)]|rw[P9 hsw hsh (by assumption)]|rw[P6 hsw hsh (by assumption)]|rw[Ox (by rintro ⟨h1,h2,h3,h4,h5⟩;simp_all;done)]),(ap.tr bJ)⟩
theorem SE(v:Value)(l:List Nat)(w y:Int)(T_s:Nat->Prop)(w0:World)(hw:0<=w/\w<=64)(hy:0<=y/\y<=64)(hl:y*w+w<=(l.length:Int))(hyw:0<=y*w/\y*w<=4096)(h_s:L9 w0 T_s v (l)) :
  Calls Tryz.prog 56 #[v,.int .i64 (w),.int .i64 (y)] w0 fun e w'=>e = .returned (Mx (v) ((y*w).toNat) ((y*w+w).toNat) ((y*w+w).toNat))/\KP (fun _=>False) w0 w':=by
 refine Ls (args:=[v,iv w,iv y]) 20 Tryz.func56 rfl rfl (Nat.le_of_ble_eq_true rfl) ?_
 have g_s:=KS.refl w0 T_s
 refine KK (KI (KJ (.slice none 0 0) rfl rfl (KX rfl rfl rr) (KO ?_)))
 have s3:=La (v)
 have s4:=La (iv w)
 have s5:=La (iv y)
 have s6:=La (undef)
 refine KH (KK (KI (KW rfl rfl rfl s3 (KW rfl rfl rfl s5 (KW rfl rfl rfl s4 (KJ (iv (y*w)) rfl rfl (NH rfl rfl rfl (Mb rfl (by omega)) rr) (KW rfl rfl rfl s5 (KJ (iv (y+1)) rfl rfl (LR rfl rfl rfl (Mb rfl (by omega)) rr) (KW rfl rfl rfl s4 (KJ (iv (y*w+w)) rfl rfl (NH rfl rfl rfl (Mb (by rw[Int.add_mul,Int.one_mul]) (by omega)) rr) (KW rfl rfl rfl s5 ?_)))))))))))
 refine KJ (iv (y+1)) rfl rfl (LR rfl rfl rfl (Mb rfl (by omega)) rr) (KW rfl rfl rfl s4 (KJ (iv (y*w+w)) rfl rfl (NH rfl rfl rfl (Mb (by rw[Int.add_mul,Int.one_mul]) (by omega)) rr) (KJ (Mx v ((y*w).toNat) ((y*w+w).toNat) ((y*w+w).toNat)) rfl rfl (aCO ((y*w).toNat) ((y*w+w).toNat) ((y*w+w).toNat) rfl rfl rfl rfl rfl (by omega) (by omega) (by omega) h_s (by omega) (by omega) (by omega) rr) (KJ (Mx v ((y*w).toNat) ((y*w+w).toNat) ((y*w+w).toNat)) rfl rfl (KX rfl rfl rr) (KO ?_)))))
 have af:=La (Mx v ((y*w).toNat) ((y*w+w).toNat) ((y*w+w).toNat))
 refine KH (Ld ?_)
 exact Lu (v:=Mx v ((y*w).toNat) ((y*w+w).toNat) ((y*w+w).toNat)) s6 rfl rfl af ⟨rfl,(KP.refl (fun _=>False) w0)⟩
def RB(l:List Nat)(w h x y:Int):Int:=((l.getD ((max 0 (min y (h-1))*w).toNat+(max 0 (min x (w-1))).toNat) 0:Nat):Int)
theorem ST(v:Value)(l:List Nat)(w h x y:Int)(T_s:Nat->Prop)(w0:World)(hw:0<w/\w<=64)(hh:0<h/\h<=64)(hl:max 0 (min y (h-1))*w+w<=(l.length:Int))(hyw:0<=max 0 (min y (h-1))*w/\max 0 (min y (h-1))*w<=4096)(h_s:L9 w0 T_s v (l)) :
  Calls Tryz.prog 169 #[v,.int .i64 (w),.int .i64 (h),.int .i64 (x),.int .i64 (y)] w0 fun e w'=>e = .returned (.int .i64 (RB l w h x y))/\KP (fun _=>False) w0 w':=by
 refine Ls (args:=[v,iv w,iv h,iv x,iv y]) 25 Tryz.func169 rfl rfl (Nat.le_of_ble_eq_true rfl) ?_
 have g_s:=KS.refl w0 T_s
 refine KK (KI (KJ (iv 0) rfl rfl (KX rfl rfl rr) (KO ?_)))
 have s3:=La (v)
 have s4:=La (iv w)
 have s5:=La (iv h)
 have s6:=La (iv x)
 have s7:=La (iv y)
 have s8:=La (undef)
 refine KH (KK (KI (KW rfl rfl rfl s3 (KW rfl rfl rfl s4 (KW rfl rfl rfl s7 (KW rfl rfl rfl s5 (KJ (iv (h-1)) rfl rfl (VB rfl rfl rfl (Mb rfl (by omega)) rr) (LY rfl rfl rfl rfl rfl (fun _ _=>by kernel_rfl) (Lm rfl (Lm rfl (Lm rfl LS))) (N3 y 0 (h-1)  _   ) fun w9 ac=>?_))))))))
 have ae:=h_s.all ac KM.none
 refine LY rfl rfl rfl rfl rfl (fun _ _=>by kernel_rfl) (Lm rfl (Lm rfl (Lm rfl LS))) (SE v l w (max 0 (min y (h-1))) T_s _ (by omega) (by omega) (by exact hl) (by exact hyw) ae ) fun ao af=>?_
 have ap:=ae.all af KM.none
 refine KW rfl rfl rfl s6 (KW rfl rfl rfl s4 (KJ (iv (w-1)) rfl rfl (VB rfl rfl rfl (Mb rfl (by omega)) rr) (Ly (R:=fun v_ w_=>v_=iv (((max 0 (min x (w-1))).toNat:Nat):Int)/\KP (fun _=>False) ao w_) rfl rfl (LE rfl rfl rfl (fun _ _=>by kernel_rfl) (K4 _) (Lm rfl (Lm rfl (Lm rfl LS))) (N3 x 0 (w-1)  _   ) (fun e_ w_ h_=>⟨_,h_.1,congrArg (Value.int .i64) (by omega),h_.2⟩)) ?_)))
 rintro _ au ⟨rfl,ah⟩
 have aa:=ap.all ah KM.none
 refine KJ (Ny v (((max 0 (min y (h-1)))*w).toNat+(max 0 (min x (w-1))).toNat)) rfl rfl (aC6 ((max 0 (min x (w-1))).toNat) rfl rfl rfl (by omega) aa (by omega) (by have hc_:=aa.cap;omega) (by omega) (by have hc_:=aa.cap;omega) (by omega) rr) ?_
 have av:=UG aa.lt256 (((max 0 (min y (h-1)))*w).toNat+(max 0 (min x (w-1))).toNat)
 refine KJ (.int .u8 ((l.getD (((max 0 (min y (h-1)))*w).toNat+(max 0 (min x (w-1))).toNat) 0:Nat):Int)) rfl rfl (aDb rfl rfl aa (by omega) rr) (KJ (iv ((l.getD (((max 0 (min y (h-1)))*w).toNat+(max 0 (min x (w-1))).toNat) 0:Nat):Int)) rfl rfl (Pq rfl rfl Tryz.underlying5 Tryz.underlying3 (Mb rfl (by omega)) rr) (KJ (iv ((l.getD (((max 0 (min y (h-1)))*w).toNat+(max 0 (min x (w-1))).toNat) 0:Nat):Int)) rfl rfl (KX rfl rfl rr) (KO ?_)))
 have aq:=La (iv ((l.getD (((max 0 (min y (h-1)))*w).toNat+(max 0 (min x (w-1))).toNat) 0:Nat):Int))
 refine KH (Ld ?_)
 exact Lu (v:=iv ((l.getD (((max 0 (min y (h-1)))*w).toNat+(max 0 (min x (w-1))).toNat) 0:Nat):Int)) s8 rfl rfl aq ⟨rfl,((((KP.refl (fun _=>False) w0).tr ac).tr af).tr ah)⟩
theorem Zb(n:Int)(w0:World) :
  Calls Tryz.prog 77 #[.int .i64 (n)] w0 fun e w'=>e = .returned (.int .i64 (LN n))/\KP (fun _=>False) w0 w':=by
 refine Ls (args:=[iv n]) 5 Tryz.func77 rfl rfl (Nat.le_of_ble_eq_true rfl) ?_
 refine KK (KI (KJ (iv 0) rfl rfl (KX rfl rfl rr) (KO ?_)))
 have s3:=La (iv n)
 have s4:=La (undef)
 refine KH (KK (KI (KW rfl rfl rfl s3 (Ly (R:=fun v_ w_=>v_=iv (LN n)/\KP (fun _=>False) w0 w_) rfl rfl (LE rfl rfl rfl (fun _ _=>by kernel_rfl) (K4 _) (Lm rfl (Lm rfl (Lm rfl LS))) (N3 n (-64) 128  _   ) (fun e_ w_ h_=>⟨_,h_.1,congrArg (Value.int .i64) (by unfold LN;omega),h_.2⟩)) ?_))))
 rintro _ w5 ⟨rfl,k6⟩
 refine KJ (iv (LN n)) rfl rfl (KX rfl rfl rr) (KO ?_)
 have ae:=La (iv (LN n))
 refine KH (Ld ?_)
 exact Lu (v:=iv (LN n)) s4 rfl rfl ae ⟨rfl,((KP.refl (fun _=>False) w0).tr k6)⟩
theorem Y1{f:FD}{p:Int}(y:Int)(h:(Lf f p).1≠0):max 0 (min y ((Lf f p).2-1))*(Lf f p).1+(Lf f p).1<=((f.pl p).length:Int)/\0<=max 0 (min y ((Lf f p).2-1))*(Lf f p).1/\max 0 (min y ((Lf f p).2-1))*(Lf f p).1<=4096:=by
 have h2:=Ul (Lf f p).1 y h
 have hb:=Nq f p
 have hs:=Ot (NE h)
 rw[show max 0 (min y ((Lf f p).2-1))=min (max y 0) ((Lf f p).2-1) by omega]
 unfold Sl at h2
 omega
theorem UP{f:FD}{p:Int}(x y:Int)(h:(Lf f p).1≠0):RB (f.pl p) (Lf f p).1 (Lf f p).2 x y=Nw f p x y:=by
 have hc:=Ul x y h
 have hb:=Nq f p
 have hs:=Ot (NE h)
 rw[Xz x y h]
 unfold RB
 have e:(Sl f p x y).toNat=(max 0 (min y ((Lf f p).2-1))*(Lf f p).1).toNat+(max 0 (min x ((Lf f p).1-1))).toNat:=by
  rw[show max 0 (min y ((Lf f p).2-1))=min (max y 0) ((Lf f p).2-1) by omega,show max 0 (min x ((Lf f p).1-1))=min (max x 0) ((Lf f p).1-1) by omega]
  unfold Sl at *
  rw[Int.toNat_add (by omega) (by omega)]
 rw[e]
theorem Ts(p:Int)(f:FD)(f0 f1 f2:Value)(T_f0:Nat->Prop)(T_f1:Nat->Prop)(T_f2:Nat->Prop)(w0:World)(h_f0:L9 w0 T_f0 f0 ((f).p0))(h_f1:L9 w0 T_f1 f1 ((f).p1))(h_f2:L9 w0 T_f2 f2 ((f).p2)) :
  Calls Tryz.prog 55 #[.agg #[.int .i64 ((f).W),.int .i64 ((f).H),f0,f1,f2],.int .i64 (p)] w0 fun e w'=>e = .returned (.tuple #[.int .i64 ((Lf f p).1),.int .i64 ((Lf f p).2)])/\KP (fun _=>False) w0 w':=by
 refine Ls (args:=[.agg #[iv (f.W),iv (f.H),f0,f1,f2],iv p]) 22 Tryz.func55 rfl rfl (Nat.le_of_ble_eq_true rfl) ?_
 have g_f0:=KS.refl w0 T_f0
 have g_f1:=KS.refl w0 T_f1
 have g_f2:=KS.refl w0 T_f2
 refine KK (KI (Lx (vs:=[iv (f.W),iv (f.H),f0,f1,f2]) rfl rfl rfl rfl fun p1 w2 B4 g5 k3=>?_))
 obtain⟨aj,ak,am⟩:=ND k3 h_f0 h_f1 h_f2
 have ae:=(KP.refl (fun _=>False) w0).tr k3
 refine KJ (iv 0) rfl rfl (KX rfl rfl rr) (KJ (iv 0) rfl rfl (KX rfl rfl rr) (KO ?_))
 have aa:=La (iv p)
 have ac:=La (undef)
 have an:=La (pt p1 0)
 refine KH (KK (KK ?_))
 by_cases af:p<0
 ·skip
  refine KI (KW rfl rfl rfl aa (KJ (.bool true) rfl rfl (L5 rfl rfl rfl (decide_eq_true af) rr) (KJ (.bool true) rfl rfl (KQ rfl rfl rr) (KL 2 false 8 rfl rfl rfl (Or.inl rfl) rfl (KL 2 false 8 rfl rfl rfl (Or.inl rfl) rfl (KJ (.bool true) rfl rfl (Lg rfl rfl rfl rr) (KJ (.bool true) rfl rfl (KQ rfl rfl rr) (KL 6 false 12 rfl rfl rfl (Or.inl rfl) rfl (KL 6 false 12 rfl rfl rfl (Or.inl rfl) rfl (KL 6 false 12 rfl rfl rfl (Or.inl rfl) rfl (KJ (.bool true) rfl rfl (Lg rfl rfl rfl rr) ?_)))))))))))
  refine KO ?_
  have av:=La (.bool true)
  refine KH ?_
  refine Lc (t:=true) av (fun _=>?_) (fun e=>by cases e)
  refine KK (KI (KJ (iv 0) rfl rfl (KX rfl rfl rr) (KJ (iv 0) rfl rfl (KX rfl rfl rr) (KO ?_))))
  have aw:=La (iv 0)
  have az:=La (iv 0)
  refine KH (Ld (Lq ?_))
  exact L7 ac rfl (Lz (v:=iv 0) rfl aw) (Lz (v:=iv 0) rfl az) ⟨(by first|rw[he]|rw[PA (by rintro ⟨h1,h2,h3⟩;first|exact absurd ((Mu f).2 h1) (by assumption)|omega)]),ae⟩
 ·skip
  by_cases ao:3<=p
  ·skip
   refine KI (KW rfl rfl rfl aa (KJ (.bool false) rfl rfl (L5 rfl rfl rfl (decide_eq_false af) rr) (KJ (.bool false) rfl rfl (KQ rfl rfl rr) (KR (iv p) 2 false 8 rfl rfl rfl rfl rfl (KQ rfl aa rr) (KR (.bool true) 2 false 8 rfl rfl rfl rfl rfl (Nl rfl rfl rfl (decide_eq_true ao) rr) (KJ (.bool true) rfl rfl (Lb rfl rfl rfl rr) (KJ (.bool true) rfl rfl (KQ rfl rfl rr) (KL 6 false 12 rfl rfl rfl (Or.inl rfl) rfl (KL 6 false 12 rfl rfl rfl (Or.inl rfl) rfl (KL 6 false 12 rfl rfl rfl (Or.inl rfl) rfl (KJ (.bool true) rfl rfl (Lg rfl rfl rfl rr) ?_)))))))))))
   refine KO ?_
   have aA:=La (.bool true)
   refine KH ?_
   refine Lc (t:=true) aA (fun _=>?_) (fun e=>by cases e)
   refine KK (KI (KJ (iv 0) rfl rfl (KX rfl rfl rr) (KJ (iv 0) rfl rfl (KX rfl rfl rr) (KO ?_))))
   have aB:=La (iv 0)
   have aC:=La (iv 0)
   refine KH (Ld (Lq ?_))
   exact L7 ac rfl (Lz (v:=iv 0) rfl aB) (Lz (v:=iv 0) rfl aC) ⟨(by first|rw[he]|rw[PA (by rintro ⟨h1,h2,h3⟩;first|exact absurd ((Mu f).2 h1) (by assumption)|omega)]),ae⟩
  ·skip
   refine KI (KW rfl rfl rfl aa (KJ (.bool false) rfl rfl (L5 rfl rfl rfl (decide_eq_false af) rr) (KJ (.bool false) rfl rfl (KQ rfl rfl rr) (KR (iv p) 2 false 8 rfl rfl rfl rfl rfl (KQ rfl aa rr) (KR (.bool false) 2 false 8 rfl rfl rfl rfl rfl (Nl rfl rfl rfl (decide_eq_false ao) rr) (KJ (.bool false) rfl rfl (Lb rfl rfl rfl rr) (KJ (.bool false) rfl rfl (KQ rfl rfl rr) (KR (.agg #[iv (f.W),iv (f.H),f0,f1,f2]) 6 false 12 rfl rfl rfl rfl rfl (KU K3 rfl an B4 rr) (LA (R:=fun v_ w_=>v_=iv (Na f)/\KP (fun _=>False) w2 w_) 6 false 12 rfl rfl rfl rfl rfl (LE rfl rfl rfl (fun _ _=>by kernel_rfl) (K4 _) (Lm rfl LS) (M0 f f0 f1 f2 T_f0 T_f1 T_f2 _  aj ak am ) (fun e_ w_ h_=>⟨_,h_.1,rfl,h_.2⟩)) ?_)))))))))
   rintro _ aO ⟨rfl,ap⟩
   obtain⟨aD,aE,aF,aG⟩:=OW ap aj ak am B4
   have aq:=ae.tr ap
   refine KR (.bool (decide ((Na f)≠0))) 6 false 12 rfl rfl rfl rfl rfl (Mc rfl rfl rfl rfl rr) (KJ (.bool (decide ((Na f)≠0))) rfl rfl (Lb rfl rfl rfl rr) (KO ?_))
   have aH:=La (.bool (decide ((Na f)≠0)))
   refine KH ?_
   refine Lc aH (fun ab=>?_) (fun ab=>?_)
   ·replace ab:=of_decide_eq_true ab
    refine KK (KI (KJ (iv 0) rfl rfl (KX rfl rfl rr) (KJ (iv 0) rfl rfl (KX rfl rfl rr) (KO ?_))))
    have aI:=La (iv 0)
    have aJ:=La (iv 0)
    refine KH (Ld (Lq ?_))
    exact L7 ac rfl (Lz (v:=iv 0) rfl aI) (Lz (v:=iv 0) rfl aJ) ⟨(by first|rw[he]|rw[PA (by rintro ⟨h1,h2,h3⟩;first|exact absurd ((Mu f).2 h1) (by assumption)|omega)]),aq⟩
   ·replace ab:=of_decide_eq_false ab
    refine Li (KH (KK ?_))
    have hok:=(Mu f).1 (by first|assumption|(apply Decidable.byContradiction;assumption))
    have hws:=(Mv _).1 hok.1
    have hhs:=(Mv _).1 hok.2.1
    have he:Lf f p=LG f p:=by unfold Lf LG;rw[if_pos ⟨hok,by omega,by omega⟩]
    refine KI (KJ (.agg #[iv (f.W),iv (f.H),f0,f1,f2]) rfl rfl (KU K3 rfl an aG rr) (KW rfl rfl rfl aa (LY rfl rfl rfl rfl rfl (fun _ _=>by kernel_rfl) (Lm rfl (Lm rfl LS)) (Qv p f f0 f1 f2 T_f0 T_f1 T_f2 _ (by omega) (by omega) aD aE aF ) fun aP aK=>?_)))
    refine KJ (iv ((LG f p).1)) rfl rfl (LM rfl rfl rfl rr) (KJ (iv ((LG f p).2)) rfl rfl (LM rfl rfl rfl rr) (KJ (iv ((LG f p).1)) rfl rfl (KX rfl rfl rr) (KJ (iv ((LG f p).2)) rfl rfl (KX rfl rfl rr) (KO ?_))))
    have aL:=La (iv ((LG f p).1))
    have aM:=La (iv ((LG f p).2))
    refine KH (Ld ?_)
    exact L7 ac rfl (Lz (v:=iv ((LG f p).1)) rfl aL) (Lz (v:=iv ((LG f p).2)) rfl aM) ⟨(by first|rw[he]|rw[PA (by rintro ⟨h1,h2,h3⟩;first|exact absurd ((Mu f).2 h1) (by assumption)|omega)]),(aq.tr aK)⟩
theorem S2(p x y:Int)(f:FD)(f0 f1 f2:Value)(T_f0:Nat->Prop)(T_f1:Nat->Prop)(T_f2:Nat->Prop)(w0:World)(h_f0:L9 w0 T_f0 f0 ((f).p0))(h_f1:L9 w0 T_f1 f1 ((f).p1))(h_f2:L9 w0 T_f2 f2 ((f).p2)) :
  Calls Tryz.prog 157 #[.agg #[.int .i64 ((f).W),.int .i64 ((f).H),f0,f1,f2],.int .i64 (p),.int .i64 (x),.int .i64 (y)] w0 fun e w'=>e = .returned (.int .i64 (Nw f p x y))/\KP (fun _=>False) w0 w':=by
 refine Ls (args:=[.agg #[iv (f.W),iv (f.H),f0,f1,f2],iv p,iv x,iv y]) 28 Tryz.func157 rfl rfl (Nat.le_of_ble_eq_true rfl) ?_
 have g_f0:=KS.refl w0 T_f0
 have g_f1:=KS.refl w0 T_f1
 have g_f2:=KS.refl w0 T_f2
 refine KK (KI (Lx (vs:=[iv (f.W),iv (f.H),f0,f1,f2]) rfl rfl rfl rfl fun p1 w2 B4 g5 k3=>?_))
 obtain⟨aq,ar,au⟩:=ND k3 h_f0 h_f1 h_f2
 refine KJ (iv 0) rfl rfl (KX rfl rfl rr) (KO ?_)
 have ac:=La (iv p)
 have aj:=La (iv x)
 have ak:=La (iv y)
 have ae:=La (undef)
 have af:=La (pt p1 0)
 refine KH (KK (KI (KJ (.agg #[iv (f.W),iv (f.H),f0,f1,f2]) rfl rfl (KU K3 rfl af B4 rr) (KW rfl rfl rfl ac (LY rfl rfl rfl rfl rfl (fun _ _=>by kernel_rfl) (Lm rfl (Lm rfl LS)) (Ts p f f0 f1 f2 T_f0 T_f1 T_f2 _  aq ar au ) fun aL av=>?_)))))
 obtain⟨aw,az,aA,am⟩:=OW av aq ar au B4
 have ah:=((KP.refl (fun _=>False) w0).tr k3).tr av
 refine KJ (.tuple #[iv ((Lf f p).1),iv ((Lf f p).2)]) rfl rfl (KQ rfl rfl rr) (KJ (iv ((Lf f p).1)) rfl rfl (LM rfl rfl rfl rr) (KJ (iv ((Lf f p).2)) rfl rfl (LM rfl rfl rfl rr) (KJ (iv ((Lf f p).1)) rfl rfl (KX rfl rfl rr) (KJ (iv ((Lf f p).2)) rfl rfl (KX rfl rfl rr) (KO ?_)))))
 have ai:=La (iv ((Lf f p).1))
 have an:=La (iv ((Lf f p).2))
 refine KH (KK (KK (KI (KW rfl rfl rfl ai (KJ (.bool (decide (((Lf f p).1)=0))) rfl rfl (Mj rfl rfl rfl rfl rr) (KO ?_))))))
 have aB:=La (.bool (decide (((Lf f p).1)=0)))
 refine KH ?_
 refine Lc aB (fun ab=>?_) (fun ab=>?_)
 ·replace ab:=of_decide_eq_true ab
  refine KK (KI (KJ (iv 0) rfl rfl (KX rfl rfl rr) (KO ?_)))
  have aC:=La (iv 0)
  refine KH (Ld (Lq ?_))
  exact Lu (v:=iv 0) ae rfl rfl aC ⟨(by first|rw[R7 x y (by assumption)]|(rw[← UP x y hsz];rfl)),ah⟩
 ·replace ab:=of_decide_eq_false ab
  refine Li (KH (KK ?_))
  rcases (show p=0\/p=1\/p=2 from SN (f:=f) (by assumption)) with rfl|rfl|rfl
  ·skip
   have hsz:(Lf f 0).1≠0:=by assumption
   have hb:=Nq f 0
   have hsp:=Ot (NE hsz)
   have hr:=Y1 y hsz
   refine KI (KW rfl rfl rfl ac (KJ (pt p1 2) rfl rfl (KT (n:=3) rfl af Tryz.underlying29 rfl (by kernel_rfl) (by decide) rfl rr) (KJ (pt p1 2) rfl rfl (LU 0 (s:=1) rfl rfl rfl (by omega) Tryz.underlying27 (by omega) (by kernel_rfl) (by omega) rr) (KJ f0 rfl rfl (KV rfl rfl Tryz.underlying26 am rfl rfl rr) (KW rfl rfl rfl ai (KW rfl rfl rfl an (KW rfl rfl rfl aj (KW rfl rfl rfl ak (LY rfl rfl rfl rfl rfl (fun _ _=>by kernel_rfl) (Lm rfl (Lm rfl (Lm rfl (Lm rfl (Lm rfl LS))))) (ST f0 (f.p0) ((Lf f 0).1) ((Lf f 0).2) x y T_f0 _ (by omega) (by omega) (by exact hr.1) (by exact hr.2) aw ) fun aM aD=>?_)))))))))
   refine KJ (iv (RB (f.p0) ((Lf f 0).1) ((Lf f 0).2) x y)) rfl rfl (KX rfl rfl rr) (KO ?_)
   have aE:=La (iv (RB (f.p0) ((Lf f 0).1) ((Lf f 0).2) x y))
   refine KH (Ld ?_)
   exact Lu (v:=iv (RB (f.p0) ((Lf f 0).1) ((Lf f 0).2) x y)) ae rfl rfl aE ⟨(by first|rw[R7 x y (by assumption)]|(rw[← UP x y hsz];rfl)),(ah.tr aD)⟩
  ·skip
   have hsz:(Lf f 1).1≠0:=by assumption
   have hb:=Nq f 1
   have hsp:=Ot (NE hsz)
   have hr:=Y1 y hsz
   refine KI (KW rfl rfl rfl ac (KJ (pt p1 2) rfl rfl (KT (n:=3) rfl af Tryz.underlying29 rfl (by kernel_rfl) (by decide) rfl rr) (KJ (pt p1 3) rfl rfl (LU 1 (s:=1) rfl rfl rfl (by omega) Tryz.underlying27 (by omega) (by kernel_rfl) (by omega) rr) (KJ f1 rfl rfl (KV rfl rfl Tryz.underlying26 am rfl rfl rr) (KW rfl rfl rfl ai (KW rfl rfl rfl an (KW rfl rfl rfl aj (KW rfl rfl rfl ak (LY rfl rfl rfl rfl rfl (fun _ _=>by kernel_rfl) (Lm rfl (Lm rfl (Lm rfl (Lm rfl (Lm rfl LS))))) (ST f1 (f.p1) ((Lf f 1).1) ((Lf f 1).2) x y T_f1 _ (by omega) (by omega) (by exact hr.1) (by exact hr.2) az ) fun aN aF=>?_)))))))))
   refine KJ (iv (RB (f.p1) ((Lf f 1).1) ((Lf f 1).2) x y)) rfl rfl (KX rfl rfl rr) (KO ?_)
   have aG:=La (iv (RB (f.p1) ((Lf f 1).1) ((Lf f 1).2) x y))
   refine KH (Ld ?_)
   exact Lu (v:=iv (RB (f.p1) ((Lf f 1).1) ((Lf f 1).2) x y)) ae rfl rfl aG ⟨(by first|rw[R7 x y (by assumption)]|(rw[← UP x y hsz];rfl)),(ah.tr aF)⟩
  ·skip
   have hsz:(Lf f 2).1≠0:=by assumption
   have hb:=Nq f 2
   have hsp:=Ot (NE hsz)
   have hr:=Y1 y hsz
   refine KI (KW rfl rfl rfl ac (KJ (pt p1 2) rfl rfl (KT (n:=3) rfl af Tryz.underlying29 rfl (by kernel_rfl) (by decide) rfl rr) (KJ (pt p1 4) rfl rfl (LU 2 (s:=1) rfl rfl rfl (by omega) Tryz.underlying27 (by omega) (by kernel_rfl) (by omega) rr) (KJ f2 rfl rfl (KV rfl rfl Tryz.underlying26 am rfl rfl rr) (KW rfl rfl rfl ai (KW rfl rfl rfl an (KW rfl rfl rfl aj (KW rfl rfl rfl ak (LY rfl rfl rfl rfl rfl (fun _ _=>by kernel_rfl) (Lm rfl (Lm rfl (Lm rfl (Lm rfl (Lm rfl LS))))) (ST f2 (f.p2) ((Lf f 2).1) ((Lf f 2).2) x y T_f2 _ (by omega) (by omega) (by exact hr.1) (by exact hr.2) aA ) fun aO aH=>?_)))))))))
   refine KJ (iv (RB (f.p2) ((Lf f 2).1) ((Lf f 2).2) x y)) rfl rfl (KX rfl rfl rr) (KO ?_)
   have aI:=La (iv (RB (f.p2) ((Lf f 2).1) ((Lf f 2).2) x y))
   refine KH (Ld ?_)
   exact Lu (v:=iv (RB (f.p2) ((Lf f 2).1) ((Lf f 2).2) x y)) ae rfl rfl aI ⟨(by first|rw[R7 x y (by assumption)]|(rw[← UP x y hsz];rfl)),(ah.tr aH)⟩
def Qq(a b:Nat):Nat->Nat
 | 0=>a
 | _=>b
theorem Re(a b k:Nat):Qq a b k=a\/Qq a b k=b:=by cases k <;> simp[Qq]
theorem Mn{w h:Int}(s:Nat)(hw:Mm w=true)(hh:Mm h=true):(LJ w h s).W=w/\(LJ w h s).H=h:=by rw[Pu s hw hh];exact⟨rfl,rfl⟩
theorem Y6{f:FD}(h:QB f):(LJ f.W f.H 0).p0.length=f.p0.length/\(LJ f.W f.H 0).p1.length=f.p1.length/\(LJ f.W f.H 0).p2.length=f.p2.length:=by
 have h3:=h.2.2
 have hw:=Xd 0 h.1 h.2.1
 have h4:=hw.2.2
 have e:=Mn 0 h.1 h.2.1
 rw[e.1,e.2] at h4
 omega
theorem XL(w h:Int)(w0:World)(hsw:Mm w=true)(hsh:Mm h=true) :
  Calls Tryz.prog 50 #[.int .i64 (w),.int .i64 (h)] w0 fun e w'=>∃ (v1:Value) (T1:Nat->Prop) (v2:Value) (T2:Nat->Prop) (v3:Value) (T3:Nat->Prop),e = .returned (.agg #[.int .i64 ((LJ w h 0).W),.int .i64 ((LJ w h 0).H),v1,v2,v3])/\KP (fun _=>False) w0 w'/\(L4 w' T1 v1 ((LJ w h 0).p0)/\KS w0 Ma T1)/\(L4 w' T2 v2 ((LJ w h 0).p1)/\KS w0 Ma T2)/\(L4 w' T3 v3 ((LJ w h 0).p2)/\KS w0 Ma T3)/\KM T1 T2/\KM T1 T3/\KM T2 T3:=by
 refine Ls (args:=[iv w,iv h]) 30 Tryz.func50 rfl rfl (Nat.le_of_ble_eq_true rfl) ?_
 have K0:=KP.refl (fun _=>False) w0
 have hws:=(Mv _).1 hsw
 have hhs:=(Mv _).1 hsh
 have har:=Ol hsw hsh
 obtain⟨n0,hn0⟩:∃ n:Nat,(n:Int)=w*h:=⟨(w*h).toNat,by omega⟩
 obtain⟨n1,hn1⟩:∃ n:Nat,(n:Int)=Int.tdiv w 2*Int.tdiv h 2:=⟨(Int.tdiv w 2*Int.tdiv h 2).toNat,Int.toNat_of_nonneg (Int.mul_nonneg (by rw[O7 (by omega)];omega) (by rw[O7 (by omega)];omega))⟩
 have hq:(n1:Int)=w*h/4:=by rw[hn1];exact WG hws.2.2 hhs.2.2 (by omega) (by omega)
 have hF:LJ w h 0=⟨w,h,List.replicate n0 0,List.replicate n1 0,List.replicate n1 0⟩:=by rw[Pu 0 hsw hsh,← hq,← hn0,Int.toNat_natCast,Int.toNat_natCast]
 refine KK (KI (LI (n:=5) (vs:=[iv 0,iv 0,.slice none 0 0,.slice none 0 0,.slice none 0 0]) rfl rfl rfl (by kernel_rfl) fun p1 w2 B4 g5 k3=>?_))
 have K7:=K0.tr k3
 refine KO ?_
 have bA:=La (iv w)
 have bB:=La (iv h)
 have bC:=La (undef)
 have aG:=La (pt p1 0)
 refine KH (KK (KI (KW rfl rfl rfl bA (KW rfl rfl rfl bB (KJ (.agg #[iv w,iv h,.slice none 0 0,.slice none 0 0,.slice none 0 0]) rfl rfl (L0 (l':=[(0,iv w),(1,iv h)]) (cells:=#[iv w,iv h,.slice none 0 0,.slice none 0 0,.slice none 0 0]) rfl (SU rfl (SU rfl Rc)) (by kernel_rfl) rfl rr) (LI (n:=5) (vs:=[iv 0,iv 0,.slice none 0 0,.slice none 0 0,.slice none 0 0]) rfl rfl rfl (by kernel_rfl) fun ae cz bD aH aI=>?_))))))
 have am:=KS.new K7 aH
 have an:=KM.new aH (LO B4.lt)
 have bE:=B4.all aI id
 refine Ll (us:=[iv w,iv h,.slice none 0 0,.slice none 0 0,.slice none 0 0]) K3 rfl rfl rfl rfl rfl bD rfl (K2 rfl (K2 rfl (K2 rfl (K2 rfl (K2 rfl MI))))) fun cA aJ aK=>?_
 have bF:=bE.all aK (an.symm p1 rfl)
 refine KO ?_
 have ah:=La (pt ae 0)
 refine KH (KK (KK (KI (KJ (iv 0) rfl rfl (KQ rfl rfl rr) (KO ?_)))))
 have au:=La (iv 0)
 refine KH (Lo (OA 4 (Md (KK (KI (KJ (.bool true) rfl rfl (L5 rfl au rfl rfl rr) (KO ?_)))))))
 have bG:=La (.bool true)
 refine KH (KK ?_)
 refine Lc (t:=true) bG (fun _=>?_) (fun e=>by cases e)
 refine Li (KH (KK (Lo (KK (KI (KW rfl rfl rfl au (KJ (iv 0) rfl rfl (KX rfl rfl rr) (KO ?_))))))))
 have aL:=La (iv 0)
 refine KH (KK (KI (KJ (.agg #[iv w,iv h,.slice none 0 0,.slice none 0 0,.slice none 0 0]) rfl rfl (KU K3 rfl ah aJ rr) (KW rfl rfl rfl aL (LY rfl rfl rfl rfl rfl (fun _ _=>by kernel_rfl) (Lm rfl (Lm rfl LS)) (Qv 0 (FD.mk w h ([]) ([]) ([])) (.slice none 0 0) (.slice none 0 0) (.slice none 0 0) Ma Ma Ma _ (by dsimp only;omega) (by dsimp only;omega) (L9.nil _) (L9.nil _) (L9.nil _) ) fun cB aM=>?_)))))
 obtain⟨aN,aO⟩:=NL aM bF aJ
 have aP:=((K7.tr aI).trans aK (KS.ok (S:=fun _=>False) am K6)).tr aM
 refine KJ (.tuple #[iv ((LG (FD.mk w h ([]) ([]) ([])) 0).1),iv ((LG (FD.mk w h ([]) ([]) ([])) 0).2)]) rfl rfl (KQ rfl rfl rr) (KJ (iv ((LG (FD.mk w h ([]) ([]) ([])) 0).1)) rfl rfl (LM rfl rfl rfl rr) (KJ (iv ((LG (FD.mk w h ([]) ([]) ([])) 0).2)) rfl rfl (LM rfl rfl rfl rr) (KJ (iv ((LG (FD.mk w h ([]) ([]) ([])) 0).1)) rfl rfl (KX rfl rfl rr) (KJ (iv ((LG (FD.mk w h ([]) ([]) ([])) 0).2)) rfl rfl (KX rfl rfl rr) (KO ?_)))))
 have bH:=La (iv ((LG (FD.mk w h ([]) ([]) ([])) 0).1))
 have bI:=La (iv ((LG (FD.mk w h ([]) ([]) ([])) 0).2))
 refine KH ?_
 have hpq:=Re n0 n1 0
 refine KI (KW rfl rfl rfl aL (KW rfl rfl rfl bH (KW rfl rfl rfl bI (KJ (iv (((Qq n0 n1 0):Nat):Int)) rfl rfl (NH rfl rfl rfl (by first|exact(Mb rfl (by show _<=w*h/\w*h<=_;omega)).trans (hn0.symm)|exact(Mb rfl (by show _<=Int.tdiv w 2*Int.tdiv h 2/\Int.tdiv w 2*Int.tdiv h 2<=_;omega)).trans hn1.symm) rr) (VG (n:=(Qq n0 n1 0)) rfl rfl rfl rfl rfl (by omega) (by omega) (by omega) fun ac cC av aQ aR aS=>?_)))))
 obtain⟨bJ,aw⟩:=S3 aR aN aO
 obtain⟨bK,bL⟩:=NL aS aN aO
 refine KJ (pt ae 2) rfl rfl (KT (n:=3) rfl ah Tryz.underlying29 rfl (by kernel_rfl) (by decide) rfl rr) (KJ (pt ae 2) rfl rfl (LU 0 (s:=1) rfl rfl rfl (by omega) Tryz.underlying27 (by omega) (by kernel_rfl) (by omega) rr) (N1 rfl rfl rfl rfl rfl bL rfl aQ.oneC (by kernel_rfl) fun bM ao az=>?_))
 replace ao:My bM ae 29 [iv w,iv h,ac,.slice none 0 0,.slice none 0 0]:=ao
 have bN:=bK.all az (an.symm p1 rfl)
 have aT:=aQ.all az aw
 refine KO ?_
 refine LD (KH (KI (KJ (iv ((1:Nat):Int)) rfl rfl (LR rfl au rfl (L2 (by omega) (by omega)) rr) (KJ (iv ((1:Nat):Int)) rfl rfl (KQ rfl rfl rr) (KO ?_)))))
 have aA:=La (iv ((1:Nat):Int))
 refine KH (Md (KK (KI (KJ (.bool true) rfl rfl (L5 rfl aA rfl rfl rr) (KO ?_)))))
 have bO:=La (.bool true)
 refine KH (KK ?_)
 refine Lc (t:=true) bO (fun _=>?_) (fun e=>by cases e)
 refine Li (KH (KK (Lo (KK (KI (KW rfl rfl rfl aA (KJ (iv ((1:Nat):Int)) rfl rfl (KX rfl rfl rr) (KO ?_))))))))
 have aU:=La (iv ((1:Nat):Int))
 refine KH (KK (KI (KJ (.agg #[iv w,iv h,ac,.slice none 0 0,.slice none 0 0]) rfl rfl (KU K3 rfl ah ao rr) (KW rfl rfl rfl aU (LY rfl rfl rfl rfl rfl (fun _ _=>by kernel_rfl) (Lm rfl (Lm rfl LS)) (Qv ((1:Nat):Int) (FD.mk w h (List.replicate (Qq n0 n1 0) 0) ([]) ([])) ac (.slice none 0 0) (.slice none 0 0) av Ma Ma _ (by dsimp only;omega) (by dsimp only;omega) aT.byt (L9.nil _) (L9.nil _) ) fun cD aV=>?_)))))
 obtain⟨aW,aX,aY⟩:=ND aV bN ao aT
 have aZ:=((aP.tr aS).trans az (KS.ok (S:=fun _=>False) am K6)).tr aV
 refine KJ (.tuple #[iv ((LG (FD.mk w h (List.replicate (Qq n0 n1 0) 0) ([]) ([])) ((1:Nat):Int)).1),iv ((LG (FD.mk w h (List.replicate (Qq n0 n1 0) 0) ([]) ([])) ((1:Nat):Int)).2)]) rfl rfl (KQ rfl rfl rr) (KJ (iv ((LG (FD.mk w h (List.replicate (Qq n0 n1 0) 0) ([]) ([])) ((1:Nat):Int)).1)) rfl rfl (LM rfl rfl rfl rr) (KJ (iv ((LG (FD.mk w h (List.replicate (Qq n0 n1 0) 0) ([]) ([])) ((1:Nat):Int)).2)) rfl rfl (LM rfl rfl rfl rr) (KJ (iv ((LG (FD.mk w h (List.replicate (Qq n0 n1 0) 0) ([]) ([])) ((1:Nat):Int)).1)) rfl rfl (KX rfl rfl rr) (KJ (iv ((LG (FD.mk w h (List.replicate (Qq n0 n1 0) 0) ([]) ([])) ((1:Nat):Int)).2)) rfl rfl (KX rfl rfl rr) (KO ?_)))))
 have bP:=La (iv ((LG (FD.mk w h (List.replicate (Qq n0 n1 0) 0) ([]) ([])) ((1:Nat):Int)).1))
 have bQ:=La (iv ((LG (FD.mk w h (List.replicate (Qq n0 n1 0) 0) ([]) ([])) ((1:Nat):Int)).2))
 refine KH ?_
 have hpq:=Re n0 n1 1
 refine KI (KW rfl rfl rfl aU (KW rfl rfl rfl bP (KW rfl rfl rfl bQ (KJ (iv (((Qq n0 n1 1):Nat):Int)) rfl rfl (NH rfl rfl rfl (by first|exact(Mb rfl (by show _<=w*h/\w*h<=_;omega)).trans (hn0.symm)|exact(Mb rfl (by show _<=Int.tdiv w 2*Int.tdiv h 2/\Int.tdiv w 2*Int.tdiv h 2<=_;omega)).trans hn1.symm) rr) (VG (n:=(Qq n0 n1 1)) rfl rfl rfl rfl rfl (by omega) (by omega) (by omega) fun af cE a8 a9 ba bb=>?_)))))
 obtain⟨bR,bc,bS⟩:=Tn ba aW aX aY
 obtain⟨bT,bU,bV⟩:=ND bb aW aX aY
 refine KJ (pt ae 2) rfl rfl (KT (n:=3) rfl ah Tryz.underlying29 rfl (by kernel_rfl) (by decide) rfl rr) (KJ (pt ae 3) rfl rfl (LU 1 (s:=1) rfl rfl rfl (by omega) Tryz.underlying27 (by omega) (by kernel_rfl) (by omega) rr) (N1 rfl rfl rfl rfl rfl bU rfl a9.oneC (by kernel_rfl) fun bW ap aq=>?_))
 replace ap:My bW ae 29 [iv w,iv h,ac,af,.slice none 0 0]:=ap
 have bX:=bT.all aq (an.symm p1 rfl)
 have bd:=bV.all aq aw
 have be:=a9.all aq bc
 refine KO ?_
 refine LD (KH (KI (KJ (iv ((2:Nat):Int)) rfl rfl (LR rfl aA rfl (L2 (by omega) (by omega)) rr) (KJ (iv ((2:Nat):Int)) rfl rfl (KQ rfl rfl rr) (KO ?_)))))
 have aB:=La (iv ((2:Nat):Int))
 refine KH (Md (KK (KI (KJ (.bool true) rfl rfl (L5 rfl aB rfl rfl rr) (KO ?_)))))
 have bY:=La (.bool true)
 refine KH (KK ?_)
 refine Lc (t:=true) bY (fun _=>?_) (fun e=>by cases e)
 refine Li (KH (KK (Lo (KK (KI (KW rfl rfl rfl aB (KJ (iv ((2:Nat):Int)) rfl rfl (KX rfl rfl rr) (KO ?_))))))))
 have bf:=La (iv ((2:Nat):Int))
 refine KH (KK (KI (KJ (.agg #[iv w,iv h,ac,af,.slice none 0 0]) rfl rfl (KU K3 rfl ah ap rr) (KW rfl rfl rfl bf (LY rfl rfl rfl rfl rfl (fun _ _=>by kernel_rfl) (Lm rfl (Lm rfl LS)) (Qv ((2:Nat):Int) (FD.mk w h (List.replicate (Qq n0 n1 0) 0) (List.replicate (Qq n0 n1 1) 0) ([])) ac af (.slice none 0 0) av a8 Ma _ (by dsimp only;omega) (by dsimp only;omega) bd.byt be.byt (L9.nil _) ) fun cF bg=>?_)))))
 obtain⟨bh,bi,bj,bl⟩:=OW bg bX ap bd be
 have bm:=((aZ.tr bb).trans aq (KS.ok (S:=fun _=>False) am K6)).tr bg
 refine KJ (.tuple #[iv ((LG (FD.mk w h (List.replicate (Qq n0 n1 0) 0) (List.replicate (Qq n0 n1 1) 0) ([])) ((2:Nat):Int)).1),iv ((LG (FD.mk w h (List.replicate (Qq n0 n1 0) 0) (List.replicate (Qq n0 n1 1) 0) ([])) ((2:Nat):Int)).2)]) rfl rfl (KQ rfl rfl rr) (KJ (iv ((LG (FD.mk w h (List.replicate (Qq n0 n1 0) 0) (List.replicate (Qq n0 n1 1) 0) ([])) ((2:Nat):Int)).1)) rfl rfl (LM rfl rfl rfl rr) (KJ (iv ((LG (FD.mk w h (List.replicate (Qq n0 n1 0) 0) (List.replicate (Qq n0 n1 1) 0) ([])) ((2:Nat):Int)).2)) rfl rfl (LM rfl rfl rfl rr) (KJ (iv ((LG (FD.mk w h (List.replicate (Qq n0 n1 0) 0) (List.replicate (Qq n0 n1 1) 0) ([])) ((2:Nat):Int)).1)) rfl rfl (KX rfl rfl rr) (KJ (iv ((LG (FD.mk w h (List.replicate (Qq n0 n1 0) 0) (List.replicate (Qq n0 n1 1) 0) ([])) ((2:Nat):Int)).2)) rfl rfl (KX rfl rfl rr) (KO ?_)))))
 have bZ:=La (iv ((LG (FD.mk w h (List.replicate (Qq n0 n1 0) 0) (List.replicate (Qq n0 n1 1) 0) ([])) ((2:Nat):Int)).1))
 have b7:=La (iv ((LG (FD.mk w h (List.replicate (Qq n0 n1 0) 0) (List.replicate (Qq n0 n1 1) 0) ([])) ((2:Nat):Int)).2))
 refine KH ?_
 have hpq:=Re n0 n1 2
 refine KI (KW rfl rfl rfl bf (KW rfl rfl rfl bZ (KW rfl rfl rfl b7 (KJ (iv (((Qq n0 n1 2):Nat):Int)) rfl rfl (NH rfl rfl rfl (by first|exact(Mb rfl (by show _<=w*h/\w*h<=_;omega)).trans (hn0.symm)|exact(Mb rfl (by show _<=Int.tdiv w 2*Int.tdiv h 2/\Int.tdiv w 2*Int.tdiv h 2<=_;omega)).trans hn1.symm) rr) (VG (n:=(Qq n0 n1 2)) rfl rfl rfl rfl rfl (by omega) (by omega) (by omega) fun aj cG b8 bn bo bp=>?_)))))
 obtain⟨b9,cd,ce,cf⟩:=VK bo bh bi bj bl
 obtain⟨cg,ci,cj,cm⟩:=OW bp bh bi bj bl
 refine KJ (pt ae 2) rfl rfl (KT (n:=3) rfl ah Tryz.underlying29 rfl (by kernel_rfl) (by decide) rfl rr) (KJ (pt ae 4) rfl rfl (LU 2 (s:=1) rfl rfl rfl (by omega) Tryz.underlying27 (by omega) (by kernel_rfl) (by omega) rr) (N1 rfl rfl rfl rfl rfl ci rfl bn.oneC (by kernel_rfl) fun cn aC ak=>?_))
 replace aC:My cn ae 29 [iv w,iv h,ac,af,aj]:=aC
 have co:=cg.all ak (an.symm p1 rfl)
 have bq:=cj.all ak aw
 have bt:=cm.all ak bc
 have bu:=bn.all ak cd
 refine KO ?_
 refine LD (KH (KI (KJ (iv ((3:Nat):Int)) rfl rfl (LR rfl aB rfl (L2 (by omega) (by omega)) rr) (KJ (iv ((3:Nat):Int)) rfl rfl (KQ rfl rfl rr) (KO ?_)))))
 have cq:=La (iv ((3:Nat):Int))
 refine KH (Md (KK (KI (KJ (.bool false) rfl rfl (L5 rfl cq rfl rfl rr) (KO ?_)))))
 have cr:=La (.bool false)
 refine KH (KK ?_)
 refine Lc (t:=false) cr (fun e=>by cases e) (fun _=>?_)
 refine Mg (Lt (Lt (Mh (KH (KK (KI (KJ (.agg #[iv w,iv h,ac,af,aj]) rfl rfl (KU K3 rfl ah aC rr) (Ll (us:=[iv w,iv h,ac,af,aj]) K3 rfl rfl rfl aG rfl co rfl (K2 rfl (K2 rfl (K2 bq.one (K2 bt.one (K2 bu.one MI))))) fun cH ct ar=>?_))))))))
 have cu:=bq.all ar bJ
 have cv:=bt.all ar bR
 have cw:=bu.all ar b9
 refine KO ?_
 refine KH (Ld ?_)
 exact OY (vs:=[iv w,iv h,ac,af,aj]) K3 bC rfl rfl aG ct ⟨ac,av,af,a8,aj,b8,(by rw[hF]),(((bm.tr bp).trans ak (KS.ok (S:=fun _=>False) am K6)).trans ar (KS.ok (S:=fun _=>False) (KS.new K0 g5) K6)),⟨(by rw[hF];exact cu),(KS.new aP aR)⟩,⟨(by rw[hF];exact cv),(KS.new aZ ba)⟩,⟨(by rw[hF];exact cw),(KS.new bm bo)⟩,bS.symm,ce.symm,cf.symm⟩
theorem Zl(f:FD)(f0 f1 f2:Value)(T_f0:Nat->Prop)(T_f1:Nat->Prop)(T_f2:Nat->Prop)(w0:World)(h_f0:L9 w0 T_f0 f0 ((f).p0))(h_f1:L9 w0 T_f1 f1 ((f).p1))(h_f2:L9 w0 T_f2 f2 ((f).p2)) :
  Calls Tryz.prog 18 #[.agg #[.int .i64 ((f).W),.int .i64 ((f).H),f0,f1,f2]] w0 fun e w'=>∃ (v1:Value) (T1:Nat->Prop) (v2:Value) (T2:Nat->Prop) (v3:Value) (T3:Nat->Prop),e = .returned (.agg #[.int .i64 ((MD f).W),.int .i64 ((MD f).H),v1,v2,v3])/\KP (fun _=>False) w0 w'/\(L4 w' T1 v1 ((MD f).p0)/\KS w0 Ma T1)/\(L4 w' T2 v2 ((MD f).p1)/\KS w0 Ma T2)/\(L4 w' T3 v3 ((MD f).p2)/\KS w0 Ma T3)/\KM T1 T2/\KM T1 T3/\KM T2 T3:=by
 refine Ls (args:=[.agg #[iv (f.W),iv (f.H),f0,f1,f2]]) 28 Tryz.func18 rfl rfl (Nat.le_of_ble_eq_true rfl) ?_
 have g_f0:=KS.refl w0 T_f0
 have g_f1:=KS.refl w0 T_f1
 have g_f2:=KS.refl w0 T_f2
 refine KK (KI (Lx (vs:=[iv (f.W),iv (f.H),f0,f1,f2]) rfl rfl rfl rfl fun p1 w2 B4 g5 k3=>?_))
 obtain⟨co,cq,cr⟩:=ND k3 h_f0 h_f1 h_f2
 have aW:=(KP.refl (fun _=>False) w0).tr k3
 refine LI (n:=5) (vs:=[iv 0,iv 0,.slice none 0 0,.slice none 0 0,.slice none 0 0]) rfl rfl rfl (by kernel_rfl) fun ap ek ct aj aX=>?_
 have aY:=KS.new aW aj
 obtain⟨aZ,a8,a9,ba⟩:=OW aX co cq cr B4
 refine KO ?_
 have bb:=La (undef)
 have aq:=La (pt p1 0)
 have aK:=La (pt ap 0)
 refine KH (KK (KK (KI (KJ (.agg #[iv (f.W),iv (f.H),f0,f1,f2]) rfl rfl (KU K3 rfl aq ba rr) (LY rfl rfl rfl rfl rfl (fun _ _=>by kernel_rfl) (Lm rfl LS) (M0 f f0 f1 f2 T_f0 T_f1 T_f2 _  aZ a8 a9 ) fun aF bc=>?_)))))
 obtain⟨cu,bd,aL,ar,au⟩:=OJ bc aZ a8 a9 ba ct
 have av:=(aW.tr aX).tr bc
 refine KJ (.bool (decide ((Na f)≠0))) rfl rfl (Mc rfl rfl rfl rfl rr) (KO ?_)
 have cv:=La (.bool (decide ((Na f)≠0)))
 refine KH ?_
 refine Lc cv (fun aw=>?_) (fun aw=>?_)
 ·replace aw:=of_decide_eq_true aw
  refine KK ?_
  have hno:¬ QB f:=fun h=>absurd ((Mu f).2 h) (by assumption)
  refine KI (KJ (.agg #[iv 0,iv 0,.slice none 0 0,.slice none 0 0,.slice none 0 0]) rfl rfl (L0 (l':=[]) (cells:=#[iv 0,iv 0,.slice none 0 0,.slice none 0 0,.slice none 0 0]) rfl Rc (by kernel_rfl) rfl rr) (Ll (us:=[iv 0,iv 0,.slice none 0 0,.slice none 0 0,.slice none 0 0]) K3 rfl rfl rfl aK rfl au rfl (K2 rfl (K2 rfl (K2 rfl (K2 rfl (K2 rfl MI))))) fun en cw cy=>?_))
  refine KO ?_
  refine KH (Ld (Lq ?_))
  exact OY (vs:=[iv 0,iv 0,.slice none 0 0,.slice none 0 0,.slice none 0 0]) K3 bb rfl rfl aK cw ⟨(.slice none 0 0),Ma,(.slice none 0 0),Ma,(.slice none 0 0),Ma,(by first|rw[Ng hok,(Mn 0 hok.1 hok.2.1).1,(Mn 0 hok.1 hok.2.1).2]|rw[O6 hno];rfl),(av.trans cy (KS.ok (S:=fun _=>False) aY K6)),⟨(by first|(rw[Ng hok];exact(L4.nil _))|(rw[O6 hno];exact(L4.nil _))),(KS.refl _ _)⟩,⟨(by first|(rw[Ng hok];exact(L4.nil _))|(rw[O6 hno];exact(L4.nil _))),(KS.refl _ _)⟩,⟨(by first|(rw[Ng hok];exact(L4.nil _))|(rw[O6 hno];exact(L4.nil _))),(KS.refl _ _)⟩,KM.none,KM.none,KM.none⟩
 ·replace aw:=of_decide_eq_false aw
  refine Li (KH (KK ?_))
  have hok:=(Mu f).1 (by first|assumption|(apply Decidable.byContradiction;assumption))
  have hmost:=aBy hok
  have hnl:=Y6 hok
  refine KI (KJ (pt p1 0) rfl rfl (KT (n:=1) rfl aq Tryz.underlying29 rfl (by kernel_rfl) (by decide) rfl rr) (KJ (iv (f.W)) rfl rfl (KV rfl rfl Tryz.underlying3 ar rfl rfl rr) (KJ (pt p1 1) rfl rfl (KT (n:=1) rfl aq Tryz.underlying29 rfl (by kernel_rfl) (by decide) rfl rr) (KJ (iv (f.H)) rfl rfl (KV rfl rfl Tryz.underlying3 ar rfl rfl rr) (Ly (R:=fun v_ w_=>∃ (ac:Value) (am:Nat->Prop) (ae:Value) (an:Nat->Prop) (af:Value) (ao:Nat->Prop),.agg #[iv ((LJ (f.W) (f.H) 0).W),iv ((LJ (f.W) (f.H) 0).H),ac,ae,af]=v_/\KP (fun _=>False) aF w_/\(L4 w_ am ac ((LJ (f.W) (f.H) 0).p0)/\KS aF Ma am)/\(L4 w_ an ae ((LJ (f.W) (f.H) 0).p1)/\KS aF Ma an)/\(L4 w_ ao af ((LJ (f.W) (f.H) 0).p2)/\KS aF Ma ao)/\KM am an/\KM am ao/\KM an ao) rfl rfl (LE rfl rfl rfl (fun _ _=>by kernel_rfl) (K4 _) (Lm rfl (Lm rfl LS)) (XL (f.W) (f.H)  _ hok.1 hok.2.1  ) (fun e_ w_ h_=>by obtain⟨v61_,T66_,v62_,T67_,v63_,T68_,he_,hr_⟩:=h_;exact⟨_,he_,v61_,T66_,v62_,T67_,v63_,T68_,rfl,hr_⟩)) ?_)))))
  rintro _ eo ⟨ac,am,ae,an,af,ao,rfl,be,⟨bf,bg⟩,⟨bh,bi⟩,⟨bj,bl⟩,aM,aN,aO⟩
  obtain⟨bm,bn,bo,bp,bq⟩:=OJ be cu bd aL ar au
  have bt:=av.tr be
  have bu:=KS.new av bg
  obtain⟨cz,cA,cB,bv⟩:=VK bg bd aL ar au
  have bz:=KS.new av bi
  obtain⟨cC,cD,bA⟩:=Tn bi aL ar au
  have bB:=KS.new av bl
  have bC:=KM.new bl (LO au.lt)
  refine LI (n:=5) (vs:=[iv 0,iv 0,.slice none 0 0,.slice none 0 0,.slice none 0 0]) rfl rfl rfl (by kernel_rfl) fun ab ep cE bD bE=>?_
  obtain⟨cF,cG,cH,cI,cJ,bF,bG,bH⟩:=W9 bD bm bn bo bp bq bf bh bj
  obtain⟨cK,cL,cM,cN,cO,bI,bJ,bK⟩:=Xj bE bm bn bo bp bq bf bh bj
  refine Ll (us:=[iv ((LJ (f.W) (f.H) 0).W),iv ((LJ (f.W) (f.H) 0).H),ac,ae,af]) K3 rfl rfl rfl rfl rfl cE rfl (K2 rfl (K2 rfl (K2 bI.one (K2 bJ.one (K2 bK.one MI))))) fun er bL ah=>?_
  have cP:=cK.all ah cF.symm
  have cQ:=cL.all ah cG.symm
  have cR:=cM.all ah cH.symm
  have bM:=cN.all ah (cI.symm p1 rfl)
  have cS:=cO.all ah (cJ.symm ap rfl)
  have cT:=bI.all ah bF.symm
  have cU:=bJ.all ah bG.symm
  have cV:=bK.all ah bH.symm
  refine KO ?_
  have bN:=La (pt ab 0)
  refine KH (KK (KK (KI (KJ (iv 0) rfl rfl (KQ rfl rfl rr) (KO ?_)))))
  have aP:=La (iv 0)
  refine KH (Lo (OA 4 (Md (KK (KI (KJ (.bool true) rfl rfl (L5 rfl aP rfl rfl rr) (KO ?_)))))))
  have cW:=La (.bool true)
  refine KH (KK ?_)
  refine Lc (t:=true) cW (fun _=>?_) (fun e=>by cases e)
  refine Li (KH (KK (Lo (KK (KI (KW rfl rfl rfl aP (KJ (iv 0) rfl rfl (KX rfl rfl rr) (KO ?_))))))))
  have bO:=La (iv 0)
  refine KH ?_
  refine Nd 8 [some 17,some 18,some 19,some 20,some 21,some 22,some 23,some 24] [Pd.eq (iv 0),Pd.eq (pt ab 2),Pd.eq (pt ab 2),Pd.eq ac,Pd.eq (iv 0),Pd.eq (pt p1 2),Pd.eq (pt p1 2),Pd.eq f0] (by kernel_rfl) (by kernel_rfl) (by kernel_rfl) ?_ ?_
  ·refine KN ?_ ?_
   ·refine Le.one rfl fun F_ w_ hR hout hD=>?_
    exact(KQ rfl ((hout 4 rfl (by decide)).trans bO) ⟨rfl,KP.refl _ _⟩)
   refine KN ?_ ?_
   ·refine Le.one rfl fun F_ w_ hR hout hD=>?_
    exact(KT (n:=3) rfl ((hout 3 rfl (by decide)).trans bN) Tryz.underlying29 rfl (by kernel_rfl) (by decide) rfl ⟨rfl,KP.refl _ _⟩)
   refine KN ?_ ?_
   ·refine Le.one rfl fun F_ w_ hR hout hD=>?_
    have aj:F_ 18=pt ab 2:=(hD.get 0 rfl rfl rfl)
    have az:F_ 17=iv 0:=(hD.get 1 rfl rfl rfl)
    exact(LU 0 (s:=1) rfl aj az (by omega) Tryz.underlying27 (by omega) (by kernel_rfl) (by omega) ⟨rfl,KP.refl _ _⟩)
   refine KN ?_ ?_
   ·refine Le.one rfl fun F_ w_ hR hout hD=>?_
    have aA:F_ 19=pt ab 2:=(hD.get 0 rfl rfl rfl)
    exact(KV rfl aA Tryz.underlying26 (bL.all hR id) rfl rfl ⟨rfl,KP.refl _ _⟩)
   refine KN ?_ ?_
   ·refine Le.one rfl fun F_ w_ hR hout hD=>?_
    exact(KQ rfl ((hout 4 rfl (by decide)).trans bO) ⟨rfl,KP.refl _ _⟩)
   refine KN ?_ ?_
   ·refine Le.one rfl fun F_ w_ hR hout hD=>?_
    exact(KT (n:=3) rfl ((hout 1 rfl (by decide)).trans aq) Tryz.underlying29 rfl (by kernel_rfl) (by decide) rfl ⟨rfl,KP.refl _ _⟩)
   refine KN ?_ ?_
   ·refine Le.one rfl fun F_ w_ hR hout hD=>?_
    have aB:F_ 22=pt p1 2:=(hD.get 0 rfl rfl rfl)
    have aC:F_ 21=iv 0:=(hD.get 1 rfl rfl rfl)
    exact(LU 0 (s:=1) rfl aB aC (by omega) Tryz.underlying27 (by omega) (by kernel_rfl) (by omega) ⟨rfl,KP.refl _ _⟩)
   refine KN ?_ ?_
   ·refine Le.one rfl fun F_ w_ hR hout hD=>?_
    have aD:F_ 23=pt p1 2:=(hD.get 0 rfl rfl rfl)
    exact(KV rfl aD Tryz.underlying26 (bM.all hR id) rfl rfl ⟨rfl,KP.refl _ _⟩)
   exact L3
  intro et bP eu bQ aQ aG
  obtain⟨cX,cY,cZ,c5,c6,c7,c9,da,db⟩:=X9 bQ cP cQ cR bM cS cT cU cV bL
  obtain⟨dc,bR,dd,bS,de⟩:=t5 aG 28 bb 1 aq 2 aK 3 bN 14 aP
  have dg:bP 20=ac:=(aG 20).trans (aQ 3 (by decide))
  have dh:bP 24=f0:=(aG 24).trans (aQ 7 (by decide))
  clear aQ aG
  refine UU rfl rfl rfl rfl dg dh c7 cX (by first|exact hnl.1|exact hnl.2.1|exact hnl.2.2) fun ew di ai=>?_
  have dj:=cY.all ai cz.symm
  have dk:=cZ.all ai cA.symm
  have bT:=c5.all ai (cB.symm p1 rfl)
  have dl:=c6.all ai (bv.symm ap rfl)
  have dm:=c9.all ai aM.symm
  have dn:=da.all ai aN.symm
  have bU:=db.all ai (bF ab rfl)
  refine KO ?_
  refine LD (KH (KI (KJ (iv ((1:Nat):Int)) rfl rfl (LR rfl de rfl (L2 (by omega) (by omega)) rr) (KJ (iv ((1:Nat):Int)) rfl rfl (KQ rfl rfl rr) (KO ?_)))))
  have aR:=La (iv ((1:Nat):Int))
  refine KH (Md (KK (KI (KJ (.bool true) rfl rfl (L5 rfl aR rfl rfl rr) (KO ?_)))))
  have dp:=La (.bool true)
  refine KH (KK ?_)
  refine Lc (t:=true) dp (fun _=>?_) (fun e=>by cases e)
  refine Li (KH (KK (Lo (KK (KI (KW rfl rfl rfl aR (KJ (iv ((1:Nat):Int)) rfl rfl (KX rfl rfl rr) (KO ?_))))))))
  have bV:=La (iv ((1:Nat):Int))
  refine KH ?_
  refine Nd 8 [some 17,some 18,some 19,some 20,some 21,some 22,some 23,some 24] [Pd.eq (iv ((1:Nat):Int)),Pd.eq (pt ab 2),Pd.eq (pt ab 3),Pd.eq ae,Pd.eq (iv ((1:Nat):Int)),Pd.eq (pt p1 2),Pd.eq (pt p1 3),Pd.eq f1] (by kernel_rfl) (by kernel_rfl) (by kernel_rfl) ?_ ?_
  ·refine KN ?_ ?_
   ·refine Le.one rfl fun F_ w_ hR hout hD=>?_
    exact(KQ rfl ((hout 4 rfl (by decide)).trans bV) ⟨rfl,KP.refl _ _⟩)
   refine KN ?_ ?_
   ·refine Le.one rfl fun F_ w_ hR hout hD=>?_
    exact(KT (n:=3) rfl ((hout 3 rfl (by decide)).trans bS) Tryz.underlying29 rfl (by kernel_rfl) (by decide) rfl ⟨rfl,KP.refl _ _⟩)
   refine KN ?_ ?_
   ·refine Le.one rfl fun F_ w_ hR hout hD=>?_
    have aj:F_ 18=pt ab 2:=(hD.get 0 rfl rfl rfl)
    have az:F_ 17=iv ((1:Nat):Int):=(hD.get 1 rfl rfl rfl)
    exact(LU 1 (s:=1) rfl aj az (by omega) Tryz.underlying27 (by omega) (by kernel_rfl) (by omega) ⟨rfl,KP.refl _ _⟩)
   refine KN ?_ ?_
   ·refine Le.one rfl fun F_ w_ hR hout hD=>?_
    have aA:F_ 19=pt ab 3:=(hD.get 0 rfl rfl rfl)
    exact(KV rfl aA Tryz.underlying26 (bU.all hR id) rfl rfl ⟨rfl,KP.refl _ _⟩)
   refine KN ?_ ?_
   ·refine Le.one rfl fun F_ w_ hR hout hD=>?_
    exact(KQ rfl ((hout 4 rfl (by decide)).trans bV) ⟨rfl,KP.refl _ _⟩)
   refine KN ?_ ?_
   ·refine Le.one rfl fun F_ w_ hR hout hD=>?_
    exact(KT (n:=3) rfl ((hout 1 rfl (by decide)).trans bR) Tryz.underlying29 rfl (by kernel_rfl) (by decide) rfl ⟨rfl,KP.refl _ _⟩)
   refine KN ?_ ?_
   ·refine Le.one rfl fun F_ w_ hR hout hD=>?_
    have aB:F_ 22=pt p1 2:=(hD.get 0 rfl rfl rfl)
    have aC:F_ 21=iv ((1:Nat):Int):=(hD.get 1 rfl rfl rfl)
    exact(LU 1 (s:=1) rfl aB aC (by omega) Tryz.underlying27 (by omega) (by kernel_rfl) (by omega) ⟨rfl,KP.refl _ _⟩)
   refine KN ?_ ?_
   ·refine Le.one rfl fun F_ w_ hR hout hD=>?_
    have aD:F_ 23=pt p1 3:=(hD.get 0 rfl rfl rfl)
    exact(KV rfl aD Tryz.underlying26 (bT.all hR id) rfl rfl ⟨rfl,KP.refl _ _⟩)
   exact L3
  intro ex bW ey bX aS aH
  obtain⟨dq,dr,dt,du,dv,dw,dy,dz⟩:=Xj bX dj dk bT dl di dm dn bU
  obtain⟨dA,dB,dC,bY,dD⟩:=t5 aH 28 dc 1 bR 2 dd 3 bS 14 aR
  have dE:bW 20=ae:=(aH 20).trans (aS 3 (by decide))
  have dF:bW 24=f1:=(aH 24).trans (aS 7 (by decide))
  clear aS aH
  refine UU rfl rfl rfl rfl dE dF dw dq (by first|exact hnl.1|exact hnl.2.1|exact hnl.2.2) fun ez dG ak=>?_
  have dH:=dr.all ak cC.symm
  have dI:=dt.all ak (cD.symm p1 rfl)
  have dJ:=du.all ak (bA.symm ap rfl)
  have dK:=dv.all ak aM
  have dL:=dy.all ak aO.symm
  have bZ:=dz.all ak (bG ab rfl)
  have dM:=(((((bt.tr bE).trans ah (KS.ok (S:=fun _=>False) (KS.new bt bD) K6)).tr bQ).trans ai (KS.ok (S:=fun _=>False) bu K6)).tr bX).trans ak (KS.ok (S:=fun _=>False) bz K6)
  refine KO ?_
  refine LD (KH (KI (KJ (iv ((2:Nat):Int)) rfl rfl (LR rfl dD rfl (L2 (by omega) (by omega)) rr) (KJ (iv ((2:Nat):Int)) rfl rfl (KQ rfl rfl rr) (KO ?_)))))
  have aT:=La (iv ((2:Nat):Int))
  refine KH (Md (KK (KI (KJ (.bool true) rfl rfl (L5 rfl aT rfl rfl rr) (KO ?_)))))
  have dN:=La (.bool true)
  refine KH (KK ?_)
  refine Lc (t:=true) dN (fun _=>?_) (fun e=>by cases e)
  refine Li (KH (KK (Lo (KK (KI (KW rfl rfl rfl aT (KJ (iv ((2:Nat):Int)) rfl rfl (KX rfl rfl rr) (KO ?_))))))))
  have b7:=La (iv ((2:Nat):Int))
  refine KH ?_
  refine Nd 8 [some 17,some 18,some 19,some 20,some 21,some 22,some 23,some 24] [Pd.eq (iv ((2:Nat):Int)),Pd.eq (pt ab 2),Pd.eq (pt ab 4),Pd.eq af,Pd.eq (iv ((2:Nat):Int)),Pd.eq (pt p1 2),Pd.eq (pt p1 4),Pd.eq f2] (by kernel_rfl) (by kernel_rfl) (by kernel_rfl) ?_ ?_
  ·refine KN ?_ ?_
   ·refine Le.one rfl fun F_ w_ hR hout hD=>?_
    exact(KQ rfl ((hout 4 rfl (by decide)).trans b7) ⟨rfl,KP.refl _ _⟩)
   refine KN ?_ ?_
   ·refine Le.one rfl fun F_ w_ hR hout hD=>?_
    exact(KT (n:=3) rfl ((hout 3 rfl (by decide)).trans bY) Tryz.underlying29 rfl (by kernel_rfl) (by decide) rfl ⟨rfl,KP.refl _ _⟩)
   refine KN ?_ ?_
   ·refine Le.one rfl fun F_ w_ hR hout hD=>?_
    have aj:F_ 18=pt ab 2:=(hD.get 0 rfl rfl rfl)
    have az:F_ 17=iv ((2:Nat):Int):=(hD.get 1 rfl rfl rfl)
    exact(LU 2 (s:=1) rfl aj az (by omega) Tryz.underlying27 (by omega) (by kernel_rfl) (by omega) ⟨rfl,KP.refl _ _⟩)
   refine KN ?_ ?_
   ·refine Le.one rfl fun F_ w_ hR hout hD=>?_
    have aA:F_ 19=pt ab 4:=(hD.get 0 rfl rfl rfl)
    exact(KV rfl aA Tryz.underlying26 (bZ.all hR id) rfl rfl ⟨rfl,KP.refl _ _⟩)
   refine KN ?_ ?_
   ·refine Le.one rfl fun F_ w_ hR hout hD=>?_
    exact(KQ rfl ((hout 4 rfl (by decide)).trans b7) ⟨rfl,KP.refl _ _⟩)
   refine KN ?_ ?_
   ·refine Le.one rfl fun F_ w_ hR hout hD=>?_
    exact(KT (n:=3) rfl ((hout 1 rfl (by decide)).trans dB) Tryz.underlying29 rfl (by kernel_rfl) (by decide) rfl ⟨rfl,KP.refl _ _⟩)
   refine KN ?_ ?_
   ·refine Le.one rfl fun F_ w_ hR hout hD=>?_
    have aB:F_ 22=pt p1 2:=(hD.get 0 rfl rfl rfl)
    have aC:F_ 21=iv ((2:Nat):Int):=(hD.get 1 rfl rfl rfl)
    exact(LU 2 (s:=1) rfl aB aC (by omega) Tryz.underlying27 (by omega) (by kernel_rfl) (by omega) ⟨rfl,KP.refl _ _⟩)
   refine KN ?_ ?_
   ·refine Le.one rfl fun F_ w_ hR hout hD=>?_
    have aD:F_ 23=pt p1 4:=(hD.get 0 rfl rfl rfl)
    exact(KV rfl aD Tryz.underlying26 (dI.all hR id) rfl rfl ⟨rfl,KP.refl _ _⟩)
   exact L3
  intro eA b8 eB b9 aU aI
  obtain⟨dO,dP,dQ,dR,dS,dT⟩:=Qz b9 dH dJ dK dG dL bZ
  obtain⟨dU,cd,dV,dW⟩:=t4 aI 28 dA 2 dC 3 bY 14 aT
  have dX:b8 20=af:=(aI 20).trans (aU 3 (by decide))
  have dY:b8 24=f2:=(aI 24).trans (aU 7 (by decide))
  clear aU aI
  refine UU rfl rfl rfl rfl dX dY dS dO (by first|exact hnl.1|exact hnl.2.1|exact hnl.2.2) fun eD ce aE=>?_
  have dZ:=dP.all aE (bC.symm ap rfl)
  have cf:=dQ.all aE aN
  have cg:=dR.all aE aO
  have d8:=dT.all aE (bH ab rfl)
  refine KO ?_
  refine LD (KH (KI (KJ (iv ((3:Nat):Int)) rfl rfl (LR rfl dW rfl (L2 (by omega) (by omega)) rr) (KJ (iv ((3:Nat):Int)) rfl rfl (KQ rfl rfl rr) (KO ?_)))))
  have d9:=La (iv ((3:Nat):Int))
  refine KH (Md (KK (KI (KJ (.bool false) rfl rfl (L5 rfl d9 rfl rfl rr) (KO ?_)))))
  have eb:=La (.bool false)
  refine KH (KK ?_)
  refine Lc (t:=false) eb (fun e=>by cases e) (fun _=>?_)
  refine Mg (Lt (Lt (Mh (KH (KK (KI (KJ (.agg #[iv ((LJ (f.W) (f.H) 0).W),iv ((LJ (f.W) (f.H) 0).H),ac,ae,af]) rfl rfl (KU K3 rfl dV d8 rr) (Ll (us:=[iv ((LJ (f.W) (f.H) 0).W),iv ((LJ (f.W) (f.H) 0).H),ac,ae,af]) K3 rfl rfl rfl cd rfl dZ rfl (K2 rfl (K2 rfl (K2 cf.one (K2 cg.one (K2 ce.one MI))))) fun eE ee aJ=>?_))))))))
  have ci:=cf.all aJ bv
  have cj:=cg.all aJ bA
  have cm:=ce.all aJ bC
  refine KO ?_
  refine KH (Ld ?_)
  exact OY (vs:=[iv ((LJ (f.W) (f.H) 0).W),iv ((LJ (f.W) (f.H) 0).H),ac,ae,af]) K3 dU rfl rfl cd ee ⟨ac,am,ae,an,af,ao,(by first|rw[Ng hok,(Mn 0 hok.1 hok.2.1).1,(Mn 0 hok.1 hok.2.1).2]|rw[O6 hno];rfl),(((dM.tr b9).trans aE (KS.ok (S:=fun _=>False) bB K6)).trans aJ (KS.ok (S:=fun _=>False) aY K6)),⟨(by first|(rw[Ng hok];exact ci)|(rw[O6 hno];exact ci)),bu⟩,⟨(by first|(rw[Ng hok];exact cj)|(rw[O6 hno];exact cj)),bz⟩,⟨(by first|(rw[Ng hok];exact cm)|(rw[O6 hno];exact cm)),bB⟩,aM,aN,aO⟩
end Go.Proofs.YtknjpdcpmpfklaaGreatDoor
set_option maxRecDepth 100000
namespace Go.Proofs.YtknjpdcpmpfklaaGreatDoor
open Go.RowKit
theorem O9{a b:Bool}(h:a=b):Ending.returned (.bool a) = .returned (.bool b):=by rw[h]
def YI(w:World)(n:Nat)(v:Value)(g:Nat->Int):Prop :=
 ∃ (f:FuncId) (cs:List Value),v = .func (.func f) #[] cs.toArray/\(∀ args w,(callFunc f args).run Tryz.prog w = .ok (.enter f args) w) ∧
  ∀ w',KP (fun _=>False) w w'->∀ k:Nat,k<n->Calls Tryz.prog f (.int .i64 (k:Int)::cs).toArray w' fun e w''=>e = .returned (.int .i64 (g k))/\KP (fun _=>False) w' w''
theorem YI.all{w w':World}{n:Nat}{v:Value}{g:Nat->Int}(h:YI w n v g)(k:KP (fun _=>False) w w'):YI w' n v g:=by
 obtain⟨f,cs,e,hf,h⟩:=h
 exact⟨f,cs,e,hf,fun w2 k2=>h w2 (k.trans k2 (fun _ _ x=>x))⟩
def Xp(w:World)(n:Nat)(v:Value)(g:Nat->Nat->Int):Prop :=
 ∃ (f:FuncId) (cs:List Value),v = .func (.func f) #[] cs.toArray/\(∀ args w,(callFunc f args).run Tryz.prog w = .ok (.enter f args) w) ∧
  ∀ w',KP (fun _=>False) w w'->∀ i k:Nat,i<n->k<n->Calls Tryz.prog f (.int .i64 (i:Int) :: .int .i64 (k:Int)::cs).toArray w' fun e w''=>e = .returned (.int .i64 (g i k))/\KP (fun _=>False) w' w''
theorem Xp.all{w w':World}{n:Nat}{v:Value}{g:Nat->Nat->Int}(h:Xp w n v g)(k:KP (fun _=>False) w w'):Xp w' n v g:=by
 obtain⟨f,cs,e,hf,h⟩:=h
 exact⟨f,cs,e,hf,fun w2 k2=>h w2 (k.trans k2 (fun _ _ x=>x))⟩
def Pd.ask2(n:Nat)(g:Nat->Nat->Int):Pd:=⟨fun v w=>Xp w n v g,fun _ _ _ h k=>h.all k⟩
section
variable {ρ:Operand->Value} {o:Oper} {w:World} {R:Value->World->Prop}
theorem Wp{P:Program}{f:FuncId}{xs:List Operand}{vs:List Value}(ho:o.op = .makeFunc (.func f) #[] xs.toArray)(hx:xs.map ρ=vs)(h:R (.func (.func f) #[] vs.toArray) w):Lj P ρ o w R:=by
 subst hx
 exact Ob (v:=.func (.func f) #[] (xs.map ρ).toArray) (w':=w) (by simp[execOp,ho,show ∀ cap,(Instr.makeFunc (.func f) #[] cap).run P w = .ok (.func (.func f) #[] cap) w from fun _=>rfl]) h
theorem aCe{c:Call}{cx x:Operand}{v:Value}{n k:Nat}{g:Nat->Int}(ho:o.op = .call c)(hc:c.callee = .value cx)(hcx:ρ cx=v)(hx:c.args = #[x])(hv:ρ x = .int .i64 (k:Int))(ha:YI w n v g)(hk:k<n)
  (hS:∀ (e:Ending) w',(e = .returned (.int .i64 (g k))/\KP (fun _=>False) w w')->∃ v,e = .returned v/\R v w'):Lj Tryz.prog ρ o w R:=by
 obtain⟨f,cs,rfl,hf,h⟩:=ha
 obtain⟨cl,ag,ts⟩:=c
 simp only at hc hx
 subst hc;subst hx
 unfold Lj
 have e:(execOp ρ o).run Tryz.prog w = .ok (.enter f (.int .i64 (k:Int)::cs).toArray) w:=by simp[execOp,ho,resolve,hcx,hv,Deferred.ofValue,invoke,hf]
 rw[e]
 exact(h w (KP.refl _ _) k hk).mono hS
theorem aCk{c:Call}{cx x y:Operand}{v:Value}{n i k:Nat}{g:Nat->Nat->Int}(ho:o.op = .call c)(hc:c.callee = .value cx)(hcx:ρ cx=v)(hx:c.args = #[x,y])(hv:ρ x = .int .i64 (i:Int))(hv2:ρ y = .int .i64 (k:Int))(ha:Xp w n v g)(hi:i<n)(hk:k<n)
  (hS:∀ (e:Ending) w',(e = .returned (.int .i64 (g i k))/\KP (fun _=>False) w w')->∃ v,e = .returned v/\R v w'):Lj Tryz.prog ρ o w R:=by
 obtain⟨f,cs,rfl,hf,h⟩:=ha
 obtain⟨cl,ag,ts⟩:=c
 simp only at hc hx
 subst hc;subst hx
 unfold Lj
 have e:(execOp ρ o).run Tryz.prog w = .ok (.enter f (.int .i64 (i:Int) :: .int .i64 (k:Int)::cs).toArray) w:=by simp[execOp,ho,resolve,hcx,hv,hv2,Deferred.ofValue,invoke,hf]
 rw[e]
 exact(h w (KP.refl _ _) i k hi hk).mono hS
theorem aBk{t:TypeId}{x y:Operand}{k:IntKind}{n:Nat}(j:Nat){a:Nat->Int}{r:Int}(ht:VZ t n)(ho:o.op = .index t x y)(hx:ρ x = .agg (L8 n a).toArray)(hy:ρ y = .int k (j:Int))(hj:j<n)(hr:a j=r)(h:R (.int .i64 r) w):Lj Tryz.prog ρ o w R:=by
 subst hr
 have h1:(L8 n a).toArray[j]? = some (.int .i64 (a j)):=by rw[List.getElem?_toArray];exact Rx hj
 cases hq:Tryz.prog.info? 3 with
 | none=>have:=Tryz.size_int;simp[hq] at this
 | some i =>
  have hs':i.size=1:=by have:=Tryz.size_int;simpa [hq] using this
  have hp:(part 3 (L8 n a).toArray j).run Tryz.prog w = .ok (.int .i64 (a j)) w:=by simp[part,isAgg,run_underlying Tryz.underlying3,h1]
  have h2:(j:Int)<(n:Int):=by omega
  exact Ob (v:=.int .i64 (a j)) (w':=w) (by simp[execOp,ho,hx,hy,Instr.index,run_underlying ht.1,asIntOf,sizeOf,typeInfo,hq,hs',hj,hp]) h
theorem Wu{N n:Nat}{F:Nat->Value}{fn:Func}{p:Tmp}{ty t:TypeId}{q:Nat}{b:Nat->Int}{R:Ending->World->Prop}(hT:VZ ty n)(hm:F N=undef)(ht:Nat.blt p N=true)(h:fn.results = #[.cell p ty])(hp:F p = .pointer (some ⟨q,0,none⟩))(hB:Pp w q t n b)(hR:R (.returned (.agg (L8 n b).toArray)) w):X6 Tryz.prog fn N R .ret F w :=
 ⟨hm,fun a ha=>⟨_,Rq h _ _ q (by rw[ha.at' p ht];exact hp) _ t (0,0) _ hB hT.1 rfl (hT.size b),hR⟩⟩
def Pd.cel(n:Nat)(t:TypeId)(v:Value):Pd:=⟨fun u w=>∃ p,u = .pointer (some ⟨p,0,none⟩)/\n<=p/\PM w p t v,fun _ _ _ ⟨p,e,hn,h⟩ k=>⟨p,e,hn,h.all k id⟩⟩
theorem XN{P:Program}{t:TypeId}{v:Value}(ho:o.op = .alloc t)(hi:(P.info? t).map (fun i=>(i.zero,i.size))=some (some v,1))(hv:oneC v=true)(h:R (.pointer (some ⟨w.heap.size,0,none⟩)) (w.alloc (.cells #[v] t))):Lj P ρ o w R :=
 Ob (v:=.pointer (some ⟨w.heap.size,0,none⟩)) (w':=w.alloc (.cells #[v] t)) (by simp[execOp,ho,(zero_of_info hi).1,go_sem];cases v <;> first|rfl|(simp[oneC] at hv;done)) h
end
end Go.Proofs.YtknjpdcpmpfklaaGreatDoor
set_option maxRecDepth 100000
namespace Go.Proofs.YtknjpdcpmpfklaaGreatDoor
open Go.RowKit
theorem M9:VZ 172 4:=VZ.of Tryz.underlying172 (by kernel_rfl)
theorem XF:QA Tryz.prog 169 4:=⟨_,Tryz.underlying169,rfl,by kernel_rfl⟩
theorem Pp.first{w:World}{p n:Nat}{t:TypeId}{b c:Nat->Int}(h:Pp w p t n b):Pp w p t n (upto 0 b c):=by rw[Wt];exact h
theorem Pp.next{w:World}{p n:Nat}{t:TypeId}{b c:Nat->Int}{k:Nat}{x:Int}(h:Pp w p t n (VV (upto k b c) k x))(e:x=c k):Pp w p t n (upto (k+1) b c):=by rw[← X4,← e];exact h
theorem ayP(b:Nat->Int)(k:Nat)(x y:Int):VV (VV b k x) k y=VV b k y:=by funext i;unfold VV;split <;> rfl
theorem Pp.next2{w:World}{p n:Nat}{t:TypeId}{b c:Nat->Int}{k:Nat}{x y:Int}(h:Pp w p t n (VV (VV (upto k b c) k x) k y))(e:y=c k):Pp w p t n (upto (k+1) b c):=by rw[ayP] at h;exact h.next e
theorem Pp.last{w:World}{p n:Nat}{t:TypeId}{b c:Nat->Int}(h:Pp w p t n (upto n b c)):Pp w p t n c:=h.congr (fun i hi=>by simp[upto,hi])
theorem RS(n:Int)(w0:World) :
  Calls Tryz.prog 139 #[.int .i64 (n)] w0 fun e w'=>e = .returned (.bool (decide (0<=n/\n<=64)))/\KP (fun _=>False) w0 w':=by
 refine Ls (args:=[iv n]) 9 Tryz.func139 rfl rfl (Nat.le_of_ble_eq_true rfl) ?_
 have K0:=KP.refl (fun _=>False) w0
 refine KK (KI (KJ (.bool false) rfl rfl (KX rfl rfl rr) (KO ?_)))
 have s3:=La (iv n)
 have s4:=La (undef)
 refine KH (KK ?_)
 by_cases d5:0<=n
 ·skip
  refine KI (KW rfl rfl rfl s3 (KJ (.bool true) rfl rfl (Nl rfl rfl rfl (decide_eq_true d5) rr) (KJ (.bool true) rfl rfl (KQ rfl rfl rr) (KR (iv n) 2 true 5 rfl rfl rfl rfl rfl (KQ rfl s3 rr) (KR (.bool (decide (n<=64))) 2 true 5 rfl rfl rfl rfl rfl (Nf rfl rfl rfl rfl rr) (KJ (.bool (decide (n<=64))) rfl rfl (Lg rfl rfl rfl rr) (KJ (.bool (decide (n<=64))) rfl rfl (KX rfl rfl rr) (KO ?_))))))))
  have s9:=La (.bool (decide (n<=64)))
  refine KH (Ld ?_)
  exact Lu (v:=.bool (decide (n<=64))) s4 rfl rfl s9 ⟨(O9 (by first|exact(decide_eq_true (by omega)).symm|exact(decide_eq_false (by omega)).symm|exact decide_eq_decide.2 (by omega))),K0⟩
 ·skip
  refine KI (KW rfl rfl rfl s3 (KJ (.bool false) rfl rfl (Nl rfl rfl rfl (decide_eq_false d5) rr) (KJ (.bool false) rfl rfl (KQ rfl rfl rr) (KL 2 true 5 rfl rfl rfl (Or.inl rfl) rfl (KL 2 true 5 rfl rfl rfl (Or.inl rfl) rfl (KJ (.bool false) rfl rfl (Lb rfl rfl rfl rr) (KJ (.bool false) rfl rfl (KX rfl rfl rr) (KO ?_))))))))
  have ah:=La (.bool false)
  refine KH (Ld ?_)
  exact Lu (v:=.bool false) s4 rfl rfl ah ⟨(O9 (by first|exact(decide_eq_true (by omega)).symm|exact(decide_eq_false (by omega)).symm|exact decide_eq_decide.2 (by omega))),K0⟩
theorem ayI(p x y:Int)(k:Nat)(f:FD)(f0 f1 f2:Value)(b1:Nat)(b2:Nat)(b3:Nat)(b4:Nat)(T_f0:Nat->Prop)(T_f1:Nat->Prop)(T_f2:Nat->Prop)(w0:World)(hx:0<=x/\x<=64)(hy:0<=y/\y<=64)(hk:k<4)(h_f0:L9 w0 T_f0 f0 ((f).p0))(h_f1:L9 w0 T_f1 f1 ((f).p1))(h_f2:L9 w0 T_f2 f2 ((f).p2))(h_b1:My w0 b1 29 [.int .i64 ((f).W),.int .i64 ((f).H),f0,f1,f2])(h_b2:PM w0 b2 3 (.int .i64 (p)))(h_b3:PM w0 b3 3 (.int .i64 (x)))(h_b4:PM w0 b4 3 (.int .i64 (y))) :
  Calls Tryz.prog 164 #[.int .i64 (((k:Nat):Int)),.pointer (some ⟨b1,0,none⟩),.pointer (some ⟨b2,0,none⟩),.pointer (some ⟨b3,0,none⟩),.pointer (some ⟨b4,0,none⟩)] w0 fun e w'=>e = .returned (.int .i64 (Nw f p (x+(k:Int)) (y-1)))/\KP (fun _=>False) w0 w':=by
 refine Ls (args:=[iv ((k:Nat):Int),pt b1 0,pt b2 0,pt b3 0,pt b4 0]) 15 Tryz.func164 rfl rfl (Nat.le_of_ble_eq_true rfl) ?_
 have g_f0:=KS.refl w0 T_f0
 have g_f1:=KS.refl w0 T_f1
 have g_f2:=KS.refl w0 T_f2
 refine KK (KI (KJ (iv 0) rfl rfl (KX rfl rfl rr) (KO ?_)))
 have s3:=La (iv ((k:Nat):Int))
 have s4:=La (pt b1 0)
 have s5:=La (pt b2 0)
 have s6:=La (pt b3 0)
 have s7:=La (pt b4 0)
 have s8:=La (undef)
 refine KH (KK (KI (KJ (.agg #[iv (f.W),iv (f.H),f0,f1,f2]) rfl rfl (KU K3 rfl s4 h_b1 rr) (KJ (iv p) rfl rfl (MF rfl s5 Tryz.underlying3 h_b2 rfl rr) (KJ (iv x) rfl rfl (MF rfl s6 Tryz.underlying3 h_b3 rfl rr) (KW rfl rfl rfl s3 (KJ (iv (x+((k:Nat):Int))) rfl rfl (LR rfl rfl rfl (Mb rfl (by omega)) rr) (KJ (iv y) rfl rfl (MF rfl s7 Tryz.underlying3 h_b4 rfl rr) (KJ (iv (y-1)) rfl rfl (VB rfl rfl rfl (Mb rfl (by omega)) rr) (LY rfl rfl rfl rfl rfl (fun _ _=>by kernel_rfl) (Lm rfl (Lm rfl (Lm rfl (Lm rfl LS)))) (S2 p (x+((k:Nat):Int)) (y-1) f f0 f1 f2 T_f0 T_f1 T_f2 _  h_f0 h_f1 h_f2 ) fun w9 ai=>?_))))))))))
 refine KJ (iv (Nw f p (x+((k:Nat):Int)) (y-1))) rfl rfl (KX rfl rfl rr) (KO ?_)
 have aj:=La (iv (Nw f p (x+((k:Nat):Int)) (y-1)))
 refine KH (Ld ?_)
 exact Lu (v:=iv (Nw f p (x+((k:Nat):Int)) (y-1))) s8 rfl rfl aj ⟨rfl,((KP.refl (fun _=>False) w0).tr ai)⟩
theorem aAJ(p x y:Int)(k:Nat)(f:FD)(f0 f1 f2:Value)(b1:Nat)(b2:Nat)(b3:Nat)(b4:Nat)(T_f0:Nat->Prop)(T_f1:Nat->Prop)(T_f2:Nat->Prop)(w0:World)(hx:0<=x/\x<=64)(hy:0<=y/\y<=64)(hk:k<4)(h_f0:L9 w0 T_f0 f0 ((f).p0))(h_f1:L9 w0 T_f1 f1 ((f).p1))(h_f2:L9 w0 T_f2 f2 ((f).p2))(h_b1:My w0 b1 29 [.int .i64 ((f).W),.int .i64 ((f).H),f0,f1,f2])(h_b2:PM w0 b2 3 (.int .i64 (p)))(h_b3:PM w0 b3 3 (.int .i64 (x)))(h_b4:PM w0 b4 3 (.int .i64 (y))) :
  Calls Tryz.prog 165 #[.int .i64 (((k:Nat):Int)),.pointer (some ⟨b1,0,none⟩),.pointer (some ⟨b2,0,none⟩),.pointer (some ⟨b3,0,none⟩),.pointer (some ⟨b4,0,none⟩)] w0 fun e w'=>e = .returned (.int .i64 (Nw f p (x-1) (y+(k:Int))))/\KP (fun _=>False) w0 w':=by
 refine Ls (args:=[iv ((k:Nat):Int),pt b1 0,pt b2 0,pt b3 0,pt b4 0]) 15 Tryz.func165 rfl rfl (Nat.le_of_ble_eq_true rfl) ?_
 have g_f0:=KS.refl w0 T_f0
 have g_f1:=KS.refl w0 T_f1
 have g_f2:=KS.refl w0 T_f2
 refine KK (KI (KJ (iv 0) rfl rfl (KX rfl rfl rr) (KO ?_)))
 have s3:=La (iv ((k:Nat):Int))
 have s4:=La (pt b1 0)
 have s5:=La (pt b2 0)
 have s6:=La (pt b3 0)
 have s7:=La (pt b4 0)
 have s8:=La (undef)
 refine KH (KK (KI (KJ (.agg #[iv (f.W),iv (f.H),f0,f1,f2]) rfl rfl (KU K3 rfl s4 h_b1 rr) (KJ (iv p) rfl rfl (MF rfl s5 Tryz.underlying3 h_b2 rfl rr) (KJ (iv x) rfl rfl (MF rfl s6 Tryz.underlying3 h_b3 rfl rr) (KJ (iv (x-1)) rfl rfl (VB rfl rfl rfl (Mb rfl (by omega)) rr) (KJ (iv y) rfl rfl (MF rfl s7 Tryz.underlying3 h_b4 rfl rr) (KW rfl rfl rfl s3 (KJ (iv (y+((k:Nat):Int))) rfl rfl (LR rfl rfl rfl (Mb rfl (by omega)) rr) (LY rfl rfl rfl rfl rfl (fun _ _=>by kernel_rfl) (Lm rfl (Lm rfl (Lm rfl (Lm rfl LS)))) (S2 p (x-1) (y+((k:Nat):Int)) f f0 f1 f2 T_f0 T_f1 T_f2 _  h_f0 h_f1 h_f2 ) fun w9 ai=>?_))))))))))
 refine KJ (iv (Nw f p (x-1) (y+((k:Nat):Int)))) rfl rfl (KX rfl rfl rr) (KO ?_)
 have aj:=La (iv (Nw f p (x-1) (y+((k:Nat):Int))))
 refine KH (Ld ?_)
 exact Lu (v:=iv (Nw f p (x-1) (y+((k:Nat):Int)))) s8 rfl rfl aj ⟨rfl,((KP.refl (fun _=>False) w0).tr ai)⟩
def QS(ahead:Int)(g:Nat->Int):Nat->Int:=fun i=>if ahead > 0 then g i else 128
theorem Xo{a:Int}{g:Nat->Int}{k:Nat}(h:a > 0):g k=QS a g k:=(if_pos h).symm
theorem ZB{a:Int}{g:Nat->Int}{k:Nat}(h:¬ a > 0):128=QS a g k:=(if_neg h).symm
theorem Xk(ahead:Int)(fv:Value)(g:Nat->Int)(w0:World)(hg:YI w0 4 fv g) :
  Calls Tryz.prog 163 #[.int .i64 (ahead),fv] w0 fun e w'=>e = .returned (.agg (L8 4 (QS ahead g)).toArray)/\KP (fun _=>False) w0 w':=by
 refine Ls (args:=[iv ahead,fv]) 21 Tryz.func163 rfl rfl (Nat.le_of_ble_eq_true rfl) ?_
 have K0:=KP.refl (fun _=>False) w0
 refine KK (KI (PP rfl rfl rfl M9.2.2 fun p1 w2 e5 B3 k4=>?_))
 have K8:=K0.tr k4
 refine KO ?_
 have aM:=La (iv ahead)
 have aN:=La (fv)
 have aO:=La (undef)
 have aP:=La (pt p1 0)
 refine KH (KK (KI (PP rfl rfl rfl M9.2.2 fun aa bg aw aQ az=>?_)))
 have aj:=LV (Nat.le_of_eq aw.symm)
 have aA:=KS.new K8 aj
 have aB:=KM.new aj (LO B3.lt)
 clear aw aj
 have aR:=B3.all az id
 refine KO ?_
 have aS:=La (pt aa 0)
 refine KH (KK (KK (KI (KJ (iv 0) rfl rfl (KQ rfl rfl rr) (KO ?_)))))
 have aT:=La (iv 0)
 refine KH (Lo (M4 (fun nn FF ww=>∃ (k:Nat),(k<=4)/\nn=4-k/\FF 0=iv ahead/\FF 1=fv/\FF 4=pt p1 0/\FF 5=pt aa 0/\FF 21=undef/\FF 7=iv ((k:Nat):Int)/\KP (fun _=>False) w0 ww/\Pp ww p1 172 4 (fun _=>0)/\Pp ww aa 172 4 (upto k (fun _=>0) (QS ahead g))) (4-0) ⟨0,by omega,rfl,aM,aN,aP,aS,aO,aT,(K8.tr az),aR,aQ.first⟩ ?_))
 rintro bh bi aU ⟨k,i44,hn43,ak,am,ah,ac,an,ai,aC,aD,aE⟩
 refine KK (KI (KJ (.bool (decide (((k:Nat):Int)<4))) rfl rfl (L5 rfl ai rfl rfl rr) (KO ?_)))
 have aV:=La (.bool (decide (((k:Nat):Int)<4)))
 refine KH (KK ?_)
 refine Lc aV (fun ae=>?_) (fun ae=>?_)
 ·replace ae:=of_decide_eq_true ae
  refine Li (KH (KK (Lo (KK (KI (KW rfl rfl rfl ai (KJ (iv ((k:Nat):Int)) rfl rfl (KX rfl rfl rr) (KO ?_))))))))
  have ao:=La (iv ((k:Nat):Int))
  refine KH (KK (KI (KW rfl rfl rfl ao (KJ (.pointer (some ⟨aa,k,none⟩)) rfl rfl (LU k (s:=1) rfl ac rfl (by omega) Tryz.underlying172 (by omega) (by kernel_rfl) (by omega) rr) (Vx rfl rfl rfl rfl rfl aE (by omega) (by kernel_rfl) fun aW ap aF=>?_)))))
  have aG:=aD.all aF (aB.symm p1 rfl)
  have aq:=aC.trans aF (KS.ok (S:=fun _=>False) aA K6)
  refine KO ?_
  refine KH (KK (KI (KW rfl rfl rfl ak (KJ (.bool (decide (0<ahead))) rfl rfl (Ms rfl rfl rfl rfl rr) (KO ?_)))))
  have aX:=La (.bool (decide (0<ahead)))
  refine KH ?_
  refine Lc aX (fun af=>?_) (fun af=>?_)
  ·replace af:=of_decide_eq_true af
   refine KI (KW rfl rfl rfl ao (KW rfl rfl rfl am (KW rfl rfl rfl ao (Ly (R:=fun v_ w_=>v_=iv (g k)/\KP (fun _=>False) aW w_) rfl rfl (aCe rfl rfl rfl rfl rfl (hg.all aq) (by omega) (fun e_ w_ h_=>⟨_,h_.1,rfl,h_.2⟩)) ?_))))
   rintro _ bj ⟨rfl,aH⟩
   obtain⟨aY,aZ⟩:=NL aH aG ap
   refine KJ (.pointer (some ⟨aa,k,none⟩)) rfl rfl (LU k (s:=1) rfl ac rfl (by omega) Tryz.underlying172 (by omega) (by kernel_rfl) (by omega) rr) (Vx rfl rfl rfl rfl rfl aZ (by omega) (by kernel_rfl) fun bl aI aJ=>?_)
   have a8:=aY.all aJ (aB.symm p1 rfl)
   refine KO ?_
   refine LD (KH (KI (KJ (iv ((k+1:Nat):Int)) rfl rfl (LR rfl ai rfl (L2 (by omega) (by omega)) rr) (KJ (iv ((k+1:Nat):Int)) rfl rfl (KQ rfl rfl rr) (KO ?_)))))
   have a9:=La (iv ((k+1:Nat):Int))
   exact KH ⟨(4-(k+1)),by omega,k+1,by omega,rfl,ak,am,ah,ac,an,a9,((aq.tr aH).trans aJ (KS.ok (S:=fun _=>False) aA K6)),a8,(by first|exact aI.next2 (Xo (by omega))|exact aI.next (ZB (by omega)))⟩
  ·replace af:=of_decide_eq_false af
   refine Li (LD (KH (KI (KJ (iv ((k+1:Nat):Int)) rfl rfl (LR rfl ai rfl (L2 (by omega) (by omega)) rr) (KJ (iv ((k+1:Nat):Int)) rfl rfl (KQ rfl rfl rr) (KO ?_))))))
   have ba:=La (iv ((k+1:Nat):Int))
   exact KH ⟨(4-(k+1)),by omega,k+1,by omega,rfl,ak,am,ah,ac,an,ba,aq,aG,(by first|exact ap.next2 (Xo (by omega))|exact ap.next (ZB (by omega)))⟩
 ·replace ae:=of_decide_eq_false ae
  refine Mg (Lt (Lt ?_))
  have bb:4=k:=by omega
  subst bb
  have bc:Pp aU aa 172 4 (QS ahead g):=(aE.last)
  refine Mh (KH (KK (KI (KJ (.agg (L8 4 (QS ahead g)).toArray) rfl rfl (Rf M9 rfl ac bc rr) (Rl M9 rfl rfl rfl ah rfl aD fun bm bd be=>?_)))))
  refine KO ?_
  refine KH (Ld ?_)
  exact Wu M9 an rfl rfl ah bd ⟨rfl,(aC.trans be (KS.ok (S:=fun _=>False) (KS.new K0 (LV (Nat.le_of_eq e5.symm))) K6))⟩
theorem ZX{p x y:Int}{f:FD}{f0 f1 f2:Value}{b1 b2 b3 b4:Nat}{T0 T1 T2:Nat->Prop}{w:World}(hx:0<=x/\x<=64)(hy:0<=y/\y<=64)(h0:L9 w T0 f0 f.p0)(h1:L9 w T1 f1 f.p1)(h2:L9 w T2 f2 f.p2)
  (g1:My w b1 29 [.int .i64 f.W,.int .i64 f.H,f0,f1,f2]) (g2:PM w b2 3 (.int .i64 p)) (g3:PM w b3 3 (.int .i64 x)) (g4:PM w b4 3 (.int .i64 y)) :
  YI w 4 (.func (.func 164) #[] #[.pointer (some ⟨b1,0,none⟩),.pointer (some ⟨b2,0,none⟩),.pointer (some ⟨b3,0,none⟩),.pointer (some ⟨b4,0,none⟩)]) (fun k=>Nw f p (x+(k:Int)) (y-1)) :=
 ⟨_,[.pointer (some ⟨b1,0,none⟩),.pointer (some ⟨b2,0,none⟩),.pointer (some ⟨b3,0,none⟩),.pointer (some ⟨b4,0,none⟩)],rfl,fun _ _=>by kernel_rfl,fun w' k i hi =>
  ayI p x y i f f0 f1 f2 b1 b2 b3 b4 T0 T1 T2 w' hx hy hi (h0.all k KM.none) (h1.all k KM.none) (h2.all k KM.none) (g1.all k id) (g2.all k id) (g3.all k id) (g4.all k id)⟩
theorem azI{p x y:Int}{f:FD}{f0 f1 f2:Value}{b1 b2 b3 b4:Nat}{T0 T1 T2:Nat->Prop}{w:World}(hx:0<=x/\x<=64)(hy:0<=y/\y<=64)(h0:L9 w T0 f0 f.p0)(h1:L9 w T1 f1 f.p1)(h2:L9 w T2 f2 f.p2)
  (g1:My w b1 29 [.int .i64 f.W,.int .i64 f.H,f0,f1,f2]) (g2:PM w b2 3 (.int .i64 p)) (g3:PM w b3 3 (.int .i64 x)) (g4:PM w b4 3 (.int .i64 y)) :
  YI w 4 (.func (.func 165) #[] #[.pointer (some ⟨b1,0,none⟩),.pointer (some ⟨b2,0,none⟩),.pointer (some ⟨b3,0,none⟩),.pointer (some ⟨b4,0,none⟩)]) (fun k=>Nw f p (x-1) (y+(k:Int))) :=
 ⟨_,[.pointer (some ⟨b1,0,none⟩),.pointer (some ⟨b2,0,none⟩),.pointer (some ⟨b3,0,none⟩),.pointer (some ⟨b4,0,none⟩)],rfl,fun _ _=>by kernel_rfl,fun w' k i hi =>
  aAJ p x y i f f0 f1 f2 b1 b2 b3 b4 T0 T1 T2 w' hx hy hi (h0.all k KM.none) (h1.all k KM.none) (h2.all k KM.none) (g1.all k id) (g2.all k id) (g3.all k id) (g4.all k id)⟩
theorem Yv(f:FD)(p x y:Int):QS y (fun k=>Nw f p (x+(k:Int)) (y-1))=fun k=>N4 f p x y ((k:Nat):Int):=by
 funext k;unfold QS N4;by_cases h:y<=0
 ·rw[if_neg (by omega),if_pos h]
 ·rw[if_pos (by omega),if_neg h]
theorem ayD(f:FD)(p x y:Int):QS x (fun k=>Nw f p (x-1) (y+(k:Int)))=fun k=>O0 f p x y ((k:Nat):Int):=by
 funext k;unfold QS O0;by_cases h:x<=0
 ·rw[if_neg (by omega),if_pos h]
 ·rw[if_pos (by omega),if_neg h]
theorem azq(p x y:Int)(f:FD)(f0 f1 f2:Value)(T_f0:Nat->Prop)(T_f1:Nat->Prop)(T_f2:Nat->Prop)(w0:World)(hx:0<=x/\x<=64)(hy:0<=y/\y<=64)(h_f0:L9 w0 T_f0 f0 ((f).p0))(h_f1:L9 w0 T_f1 f1 ((f).p1))(h_f2:L9 w0 T_f2 f2 ((f).p2)) :
  Calls Tryz.prog 142 #[.agg #[.int .i64 ((f).W),.int .i64 ((f).H),f0,f1,f2],.int .i64 (p),.int .i64 (x),.int .i64 (y)] w0 fun e w'=>e = .returned (.agg (L8 4 (fun k=>N4 f p x y ((k:Nat):Int))).toArray)/\KP (fun _=>False) w0 w':=by
 refine Ls (args:=[.agg #[iv (f.W),iv (f.H),f0,f1,f2],iv p,iv x,iv y]) 12 Tryz.func142 rfl rfl (Nat.le_of_ble_eq_true rfl) ?_
 have g_f0:=KS.refl w0 T_f0
 have g_f1:=KS.refl w0 T_f1
 have g_f2:=KS.refl w0 T_f2
 refine KK (KI (Lx (vs:=[iv (f.W),iv (f.H),f0,f1,f2]) rfl rfl rfl rfl fun p1 w2 B4 g5 k3=>?_))
 obtain⟨au,av,aw⟩:=ND k3 h_f0 h_f1 h_f2
 refine Pk rfl rfl rfl rfl (by rfl) fun ab bi az bj ah=>?_
 obtain⟨aA,aB,aC,aD⟩:=OW ah au av aw B4
 refine Pk rfl rfl rfl rfl (by rfl) fun ac bl aE bm ai=>?_
 obtain⟨aF,aG,aH,aI,aJ⟩:=OJ ai aA aB aC aD az
 refine Pk rfl rfl rfl rfl (by rfl) fun ae bn aK bo aj=>?_
 obtain⟨aL,aM,aN,aO,aP,aQ⟩:=Qz aj aF aG aH aI aJ aE
 have ak:=((((KP.refl (fun _=>False) w0).tr k3).tr ah).tr ai).tr aj
 refine PP rfl rfl rfl M9.2.2 fun aR aS aT aU am=>?_
 obtain⟨aV,aW,aX,aY,aZ,a8,an⟩:=SO am aL aM aN aO aP aQ aK
 refine KO ?_
 have a9:=La (undef)
 have ba:=La (pt p1 0)
 have bb:=La (pt ab 0)
 have bc:=La (pt ac 0)
 have ao:=La (pt ae 0)
 have ap:=La (pt aR 0)
 refine KH (KK (KI (KJ (iv y) rfl rfl (MF rfl ao Tryz.underlying3 an rfl rr) (KJ (.func (.func 164) #[] #[pt p1 0,pt ab 0,pt ac 0,pt ae 0]) rfl rfl (Wp rfl (Lm ba (Lm bb (Lm bc (Lm ao LS)))) rr) (Ly (R:=fun v_ w_=>v_ = .agg (L8 4 (fun k=>N4 f p x y ((k:Nat):Int))).toArray/\KP (fun _=>False) aS w_) rfl rfl (LE rfl rfl rfl (fun _ _=>by kernel_rfl) (K4 _) (Lm rfl (Lm rfl LS)) (Xk y (.func (.func 164) #[] #[pt p1 0,pt ab 0,pt ac 0,pt ae 0]) (fun k=>Nw f p (x+(k:Int)) (y-1))  _ (ZX hx hy aV aW aX aY aZ a8 an)  ) (fun e_ w_ h_=>⟨_,h_.1,congrArg (fun z=>Value.agg (L8 4 z).toArray) (Yv f p x y),h_.2⟩)) ?_)))))
 rintro _ bp ⟨rfl,aq⟩
 have bd:=aU.all aq id
 refine Rl M9 rfl rfl rfl ap rfl bd fun bq be bf=>?_
 refine KO ?_
 refine KH (Ld ?_)
 exact Wu M9 a9 rfl rfl ap be ⟨rfl,(((ak.tr am).tr aq).trans bf (KS.ok (S:=fun _=>False) (KS.new ak (LV (Nat.le_of_eq aT.symm))) K6))⟩
theorem aA4(p x y:Int)(f:FD)(f0 f1 f2:Value)(T_f0:Nat->Prop)(T_f1:Nat->Prop)(T_f2:Nat->Prop)(w0:World)(hx:0<=x/\x<=64)(hy:0<=y/\y<=64)(h_f0:L9 w0 T_f0 f0 ((f).p0))(h_f1:L9 w0 T_f1 f1 ((f).p1))(h_f2:L9 w0 T_f2 f2 ((f).p2)) :
  Calls Tryz.prog 143 #[.agg #[.int .i64 ((f).W),.int .i64 ((f).H),f0,f1,f2],.int .i64 (p),.int .i64 (x),.int .i64 (y)] w0 fun e w'=>e = .returned (.agg (L8 4 (fun k=>O0 f p x y ((k:Nat):Int))).toArray)/\KP (fun _=>False) w0 w':=by
 refine Ls (args:=[.agg #[iv (f.W),iv (f.H),f0,f1,f2],iv p,iv x,iv y]) 12 Tryz.func143 rfl rfl (Nat.le_of_ble_eq_true rfl) ?_
 have g_f0:=KS.refl w0 T_f0
 have g_f1:=KS.refl w0 T_f1
 have g_f2:=KS.refl w0 T_f2
 refine KK (KI (Lx (vs:=[iv (f.W),iv (f.H),f0,f1,f2]) rfl rfl rfl rfl fun p1 w2 B4 g5 k3=>?_))
 obtain⟨au,av,aw⟩:=ND k3 h_f0 h_f1 h_f2
 refine Pk rfl rfl rfl rfl (by rfl) fun ab bi az bj ah=>?_
 obtain⟨aA,aB,aC,aD⟩:=OW ah au av aw B4
 refine Pk rfl rfl rfl rfl (by rfl) fun ac bl aE bm ai=>?_
 obtain⟨aF,aG,aH,aI,aJ⟩:=OJ ai aA aB aC aD az
 refine Pk rfl rfl rfl rfl (by rfl) fun ae bn aK bo aj=>?_
 obtain⟨aL,aM,aN,aO,aP,aQ⟩:=Qz aj aF aG aH aI aJ aE
 have ak:=((((KP.refl (fun _=>False) w0).tr k3).tr ah).tr ai).tr aj
 refine PP rfl rfl rfl M9.2.2 fun aR aS aT aU am=>?_
 obtain⟨aV,aW,aX,aY,aZ,an,a8⟩:=SO am aL aM aN aO aP aQ aK
 refine KO ?_
 have a9:=La (undef)
 have ba:=La (pt p1 0)
 have bb:=La (pt ab 0)
 have ao:=La (pt ac 0)
 have bc:=La (pt ae 0)
 have ap:=La (pt aR 0)
 refine KH (KK (KI (KJ (iv x) rfl rfl (MF rfl ao Tryz.underlying3 an rfl rr) (KJ (.func (.func 165) #[] #[pt p1 0,pt ab 0,pt ac 0,pt ae 0]) rfl rfl (Wp rfl (Lm ba (Lm bb (Lm ao (Lm bc LS)))) rr) (Ly (R:=fun v_ w_=>v_ = .agg (L8 4 (fun k=>O0 f p x y ((k:Nat):Int))).toArray/\KP (fun _=>False) aS w_) rfl rfl (LE rfl rfl rfl (fun _ _=>by kernel_rfl) (K4 _) (Lm rfl (Lm rfl LS)) (Xk x (.func (.func 165) #[] #[pt p1 0,pt ab 0,pt ac 0,pt ae 0]) (fun k=>Nw f p (x-1) (y+(k:Int)))  _ (azI hx hy aV aW aX aY aZ an a8)  ) (fun e_ w_ h_=>⟨_,h_.1,congrArg (fun z=>Value.agg (L8 4 z).toArray) (ayD f p x y),h_.2⟩)) ?_)))))
 rintro _ bp ⟨rfl,aq⟩
 have bd:=aU.all aq id
 refine Rl M9 rfl rfl rfl ap rfl bd fun bq be bf=>?_
 refine KO ?_
 refine KH (Ld ?_)
 exact Wu M9 a9 rfl rfl ap be ⟨rfl,(((ak.tr am).tr aq).trans bf (KS.ok (S:=fun _=>False) (KS.new ak (LV (Nat.le_of_eq aT.symm))) K6))⟩
def Nh(e:Nat->Int):Nat->Int
 | 0=>0
 | k+1=>Nh e k+e k
theorem U0{e:Nat->Int}(h:∀ i,0<=e i/\e i<=255)(k:Nat):0<=Nh e k/\Nh e k<=255*k:=by
 induction k with
 | zero=>simp[Nh]
 | succ k ih=>have:=h k;rw[Nh];omega
theorem Yh(s:Nat->Int)(w0:World)(he:∀ i,0<=s i/\s i<=255) :
  Calls Tryz.prog 158 #[.agg (L8 4 (s)).toArray] w0 fun e w'=>e = .returned (.int .i64 (Nh s 4))/\KP (fun _=>False) w0 w':=by
 refine Ls (args:=[.agg (L8 4 s).toArray]) 15 Tryz.func158 rfl rfl (Nat.le_of_ble_eq_true rfl) ?_
 refine KK (KI (SR rfl rfl rfl rfl fun p1 w2 e5 B3 k4=>?_))
 have g6:=LV (Nat.le_of_eq e5.symm)
 clear e5 g6
 refine KJ (iv 0) rfl rfl (KX rfl rfl rr) (KO ?_)
 have ao:=La (undef)
 have ap:=La (pt p1 0)
 refine KH (KK (KI (KJ (iv 0) rfl rfl (KX rfl rfl rr) (KO ?_))))
 have aq:=La (iv 0)
 refine KH (KK (KK (KI (KJ (.agg (L8 4 s).toArray) rfl rfl (Rf M9 rfl ap B3 rr) (KJ (iv 0) rfl rfl (KQ rfl rfl rr) (KO ?_))))))
 have ar:=La (.agg (L8 4 s).toArray)
 have au:=La (iv 0)
 refine KH (Lo (M4 (fun nn FF ww=>∃ (k:Nat),(k<=4)/\nn=4-k/\FF 6 = .agg (L8 4 s).toArray/\FF 15=undef/\FF 3=iv (Nh s k)/\FF 7=iv ((k:Nat):Int)/\KP (fun _=>False) w0 ww/\Pp ww p1 172 4 s) (4-0) ⟨0,by omega,rfl,ar,ao,aq,au,((KP.refl (fun _=>False) w0).tr k4),B3⟩ ?_))
 rintro aF aG aH ⟨k,i28,hn27,ah,ai,aj,ab,ak,av⟩
 refine KK (KI (KJ (.bool (decide (((k:Nat):Int)<4))) rfl rfl (L5 rfl ab rfl rfl rr) (KO ?_)))
 have aw:=La (.bool (decide (((k:Nat):Int)<4)))
 refine KH (KK ?_)
 refine Lc aw (fun aa=>?_) (fun aa=>?_)
 ·replace aa:=of_decide_eq_true aa
  refine Li (KH (KK (Lo (KK (KI (KJ (iv (s k)) rfl rfl (aBk k M9 rfl ah ab (by omega) rfl rr) (KJ (iv (s k)) rfl rfl (KX rfl rfl rr) (KO ?_))))))))
  have az:=La (iv (s k))
  refine KH ?_
  have ht:=U0 he k
  have hk:=he k
  refine KI (KW rfl rfl rfl aj (KW rfl rfl rfl az (KJ (iv ((Nh s k)+(s k))) rfl rfl (LR rfl rfl rfl (Mb rfl (by omega)) rr) (KJ (iv ((Nh s k)+(s k))) rfl rfl (KX rfl rfl rr) (KO ?_)))))
  have aA:=La (iv ((Nh s k)+(s k)))
  refine LD (KH (KI (KJ (iv ((k+1:Nat):Int)) rfl rfl (LR rfl ab rfl (L2 (by omega) (by omega)) rr) (KJ (iv ((k+1:Nat):Int)) rfl rfl (KQ rfl rfl rr) (KO ?_)))))
  have aB:=La (iv ((k+1:Nat):Int))
  exact KH ⟨(4-(k+1)),by omega,k+1,by omega,rfl,ah,ai,aA,aB,ak,av⟩
 ·replace aa:=of_decide_eq_false aa
  refine Mg (Lt (Lt ?_))
  have aC:4=k:=by omega
  subst aC
  refine Mh (KH (KK (KI (KW rfl rfl rfl aj (KJ (iv (Nh s 4)) rfl rfl (KX rfl rfl rr) (KO ?_))))))
  have aD:=La (iv (Nh s 4))
  refine KH (Ld ?_)
  exact Lu (v:=iv (Nh s 4)) ai rfl rfl aD ⟨rfl,ak⟩
def Uk(a l:Nat->Int)(m i k:Nat):Int :=
 if m=0 then Int.tdiv (Nh a 4+Nh l 4+4) 8 else if m=1 then a k else if m=2 then l i else Int.tdiv (a k+l i+1) 2
theorem aDB(i k:Nat)(n:Int)(b1:Nat)(w0:World)(h_b1:PM w0 b1 3 (.int .i64 (n))) :
  Calls Tryz.prog 159 #[.int .i64 (((i:Nat):Int)),.int .i64 (((k:Nat):Int)),.pointer (some ⟨b1,0,none⟩)] w0 fun e w'=>e = .returned (.int .i64 (n))/\KP (fun _=>False) w0 w':=by
 refine Ls (args:=[iv ((i:Nat):Int),iv ((k:Nat):Int),pt b1 0]) 7 Tryz.func159 rfl rfl (Nat.le_of_ble_eq_true rfl) ?_
 refine KK (KI (KJ (iv 0) rfl rfl (KX rfl rfl rr) (KO ?_)))
 have s3:=La (pt b1 0)
 have s4:=La (undef)
 refine KH (KK (KI (KJ (iv n) rfl rfl (MF rfl s3 Tryz.underlying3 h_b1 rfl rr) (KJ (iv n) rfl rfl (KX rfl rfl rr) (KO ?_)))))
 have s8:=La (iv n)
 refine KH (Ld ?_)
 exact Lu (v:=iv n) s4 rfl rfl s8 ⟨rfl,(KP.refl (fun _=>False) w0)⟩
theorem aC7(i k:Nat)(a:Nat->Int)(b1:Nat)(w0:World)(hk:k<4)(h_b1:Pp w0 b1 172 4 (a)) :
  Calls Tryz.prog 160 #[.int .i64 (((i:Nat):Int)),.int .i64 (((k:Nat):Int)),.pointer (some ⟨b1,0,none⟩)] w0 fun e w'=>e = .returned (.int .i64 (a k))/\KP (fun _=>False) w0 w':=by
 refine Ls (args:=[iv ((i:Nat):Int),iv ((k:Nat):Int),pt b1 0]) 9 Tryz.func160 rfl rfl (Nat.le_of_ble_eq_true rfl) ?_
 refine KK (KI (KJ (iv 0) rfl rfl (KX rfl rfl rr) (KO ?_)))
 have s3:=La (iv ((k:Nat):Int))
 have s4:=La (pt b1 0)
 have s5:=La (undef)
 refine KH (KK (KI (KW rfl rfl rfl s3 (KJ (.pointer (some ⟨b1,k,none⟩)) rfl rfl (LU k (s:=1) rfl s4 rfl (by omega) Tryz.underlying172 (by omega) (by kernel_rfl) (by omega) rr) (KJ (iv (a k)) rfl rfl (OI rfl rfl Tryz.underlying3 (h_b1.cell (by omega)) rr) (KJ (iv (a k)) rfl rfl (KX rfl rfl rr) (KO ?_)))))))
 have s9:=La (iv (a k))
 refine KH (Ld ?_)
 exact Lu (v:=iv (a k)) s5 rfl rfl s9 ⟨rfl,(KP.refl (fun _=>False) w0)⟩
theorem aC4(i k:Nat)(l:Nat->Int)(b1:Nat)(w0:World)(hi:i<4)(h_b1:Pp w0 b1 172 4 (l)) :
  Calls Tryz.prog 161 #[.int .i64 (((i:Nat):Int)),.int .i64 (((k:Nat):Int)),.pointer (some ⟨b1,0,none⟩)] w0 fun e w'=>e = .returned (.int .i64 (l i))/\KP (fun _=>False) w0 w':=by
 refine Ls (args:=[iv ((i:Nat):Int),iv ((k:Nat):Int),pt b1 0]) 9 Tryz.func161 rfl rfl (Nat.le_of_ble_eq_true rfl) ?_
 refine KK (KI (KJ (iv 0) rfl rfl (KX rfl rfl rr) (KO ?_)))
 have s3:=La (iv ((i:Nat):Int))
 have s4:=La (pt b1 0)
 have s5:=La (undef)
 refine KH (KK (KI (KW rfl rfl rfl s3 (KJ (.pointer (some ⟨b1,i,none⟩)) rfl rfl (LU i (s:=1) rfl s4 rfl (by omega) Tryz.underlying172 (by omega) (by kernel_rfl) (by omega) rr) (KJ (iv (l i)) rfl rfl (OI rfl rfl Tryz.underlying3 (h_b1.cell (by omega)) rr) (KJ (iv (l i)) rfl rfl (KX rfl rfl rr) (KO ?_)))))))
 have s9:=La (iv (l i))
 refine KH (Ld ?_)
 exact Lu (v:=iv (l i)) s5 rfl rfl s9 ⟨rfl,(KP.refl (fun _=>False) w0)⟩
theorem aDt(i k:Nat)(a l:Nat->Int)(b1:Nat)(b2:Nat)(w0:World)(hi:i<4)(hk:k<4)(ha:∀ i,0<=a i/\a i<=255)(hl:∀ i,0<=l i/\l i<=255)(h_b1:Pp w0 b1 172 4 (a))(h_b2:Pp w0 b2 172 4 (l)) :
  Calls Tryz.prog 162 #[.int .i64 (((i:Nat):Int)),.int .i64 (((k:Nat):Int)),.pointer (some ⟨b1,0,none⟩),.pointer (some ⟨b2,0,none⟩)] w0 fun e w'=>e = .returned (.int .i64 (Int.tdiv (a k+l i+1) 2))/\KP (fun _=>False) w0 w':=by
 refine Ls (args:=[iv ((i:Nat):Int),iv ((k:Nat):Int),pt b1 0,pt b2 0]) 16 Tryz.func162 rfl rfl (Nat.le_of_ble_eq_true rfl) ?_
 refine KK (KI (KJ (iv 0) rfl rfl (KX rfl rfl rr) (KO ?_)))
 have s3:=La (iv ((i:Nat):Int))
 have s4:=La (iv ((k:Nat):Int))
 have s5:=La (pt b1 0)
 have s6:=La (pt b2 0)
 have s7:=La (undef)
 refine KH (KK ?_)
 have h1:=ha k
 have h2:=hl i
 refine Rd [some 7,some 8,some 9,some 10,some 11,some 12,some 13,some 14,some 15,some 6] [Pd.eq (iv ((k:Nat):Int)),Pd.eq (.pointer (some ⟨b1,k,none⟩)),Pd.eq (iv (a k)),Pd.eq (iv ((i:Nat):Int)),Pd.eq (.pointer (some ⟨b2,i,none⟩)),Pd.eq (iv (l i)),Pd.eq (iv ((a k)+(l i))),Pd.eq (iv (((a k)+(l i))+1)),Pd.eq (iv (Int.tdiv (a k+l i+1) 2)),Pd.eq (iv (Int.tdiv (a k+l i+1) 2))] (by kernel_rfl) (by kernel_rfl) ?_ ?_
 ·refine KN ?_ ?_
  ·refine Le.one rfl fun F_ w_ hR hout hD=>?_
   exact(KQ rfl ((hout 1 rfl (by decide)).trans s4) ⟨rfl,KP.refl _ _⟩)
  refine KN ?_ ?_
  ·refine Le.one rfl fun F_ w_ hR hout hD=>?_
   have g7:F_ 7=iv ((k:Nat):Int):=(hD.get 0 rfl rfl rfl)
   exact(LU k (s:=1) rfl ((hout 2 rfl (by decide)).trans s5) g7 (by omega) Tryz.underlying172 (by omega) (by kernel_rfl) (by omega) ⟨rfl,KP.refl _ _⟩)
  refine KN ?_ ?_
  ·refine Le.one rfl fun F_ w_ hR hout hD=>?_
   have g8:F_ 8 = .pointer (some ⟨b1,k,none⟩):=(hD.get 0 rfl rfl rfl)
   exact(OI rfl g8 Tryz.underlying3 ((h_b1.all hR id).cell (by omega)) ⟨rfl,KP.refl _ _⟩)
  refine KN ?_ ?_
  ·refine Le.one rfl fun F_ w_ hR hout hD=>?_
   exact(KQ rfl ((hout 0 rfl (by decide)).trans s3) ⟨rfl,KP.refl _ _⟩)
  refine KN ?_ ?_
  ·refine Le.one rfl fun F_ w_ hR hout hD=>?_
   have am:F_ 10=iv ((i:Nat):Int):=(hD.get 0 rfl rfl rfl)
   exact(LU i (s:=1) rfl ((hout 3 rfl (by decide)).trans s6) am (by omega) Tryz.underlying172 (by omega) (by kernel_rfl) (by omega) ⟨rfl,KP.refl _ _⟩)
  refine KN ?_ ?_
  ·refine Le.one rfl fun F_ w_ hR hout hD=>?_
   have an:F_ 11 = .pointer (some ⟨b2,i,none⟩):=(hD.get 0 rfl rfl rfl)
   exact(OI rfl an Tryz.underlying3 ((h_b2.all hR id).cell (by omega)) ⟨rfl,KP.refl _ _⟩)
  refine KN ?_ ?_
  ·refine Le.one rfl fun F_ w_ hR hout hD=>?_
   have g9:F_ 9=iv (a k):=(hD.get 0 rfl rfl rfl)
   have ap:F_ 12=iv (l i):=(hD.get 1 rfl rfl rfl)
   exact(LR rfl g9 ap (Mb rfl (by omega)) ⟨rfl,KP.refl _ _⟩)
  refine KN ?_ ?_
  ·refine Le.one rfl fun F_ w_ hR hout hD=>?_
   have aq:F_ 13=iv ((a k)+(l i)):=(hD.get 0 rfl rfl rfl)
   exact(LR rfl aq rfl (Mb rfl (by omega)) ⟨rfl,KP.refl _ _⟩)
  refine KN ?_ ?_
  ·refine Le.one rfl fun F_ w_ hR hout hD=>?_
   have ar:F_ 14=iv (((a k)+(l i))+1):=(hD.get 0 rfl rfl rfl)
   exact(Qd rfl ar rfl (by first|decide|omega) (Mb rfl (by rw[O7 (by omega)];omega)) ⟨rfl,KP.refl _ _⟩)
  refine KN ?_ ?_
  ·refine Le.one rfl fun F_ w_ hR hout hD=>?_
   have au:F_ 15=iv (Int.tdiv (a k+l i+1) 2):=(hD.get 0 rfl rfl rfl)
   exact(KX rfl au ⟨rfl,KP.refl _ _⟩)
  exact L3
 intro v8 F9 aC aw ab aa
 have az:=(aa 16).trans s7
 have aA:F9 6=iv (Int.tdiv (a k+l i+1) 2):=(aa 6).trans (ab 9 (by decide))
 clear ab aa
 refine KH (Ld ?_)
 exact Lu (v:=iv (Int.tdiv (a k+l i+1) 2)) az rfl rfl aA ⟨rfl,((KP.refl (fun _=>False) w0).tr aw)⟩
def Fns(w:World)(v:Value)(g:Nat->Nat->Nat->Int):Prop:=∃ c:Nat->Value,v = .agg #[c 0,c 1,c 2,c 3]/\∀ m,m<4->Xp w 4 (c m) (g m)
theorem Fns.all{w w':World}{v:Value}{g:Nat->Nat->Nat->Int}(h:Fns w v g)(k:KP (fun _=>False) w w'):Fns w' v g:=by
 obtain⟨c,e,h⟩:=h;exact⟨c,e,fun m hm=>(h m hm).all k⟩
def Pd.fns(g:Nat->Nat->Nat->Int):Pd:=⟨fun v w=>Fns w v g,fun _ _ _ h k=>h.all k⟩
theorem aDf{ρ:Operand->Value}{o:Oper}{w:World}{R:Value->World->Prop}{x y:Operand}{k:IntKind}{v:Value}{g:Nat->Nat->Nat->Int}(j:Nat){i:Int}(ho:o.op = .index 169 x y)(hx:ρ x=v)(hb:Fns w v g)(hy:ρ y = .int k i)(hi:i=(j:Int))(hj:j<4)(h:∀ c,Xp w 4 c (g j)->R c w):Lj Tryz.prog ρ o w R:=by
 obtain⟨c,rfl,hc⟩:=hb
 subst hi
 have hs:(Tryz.prog.info? 167).map (·.size)=some 1:=by kernel_rfl
 have hv : #[c 0,c 1,c 2,c 3][j]? = some (c j):=by
  rcases (by omega:j=0\/j=1\/j=2\/j=3) with rfl|rfl|rfl|rfl <;> rfl
 cases hq:Tryz.prog.info? 167 with
 | none=>simp[hq] at hs
 | some i =>
  have hs':i.size=1:=by simpa [hq] using hs
  have hp:(part 167 #[c 0,c 1,c 2,c 3] j).run Tryz.prog w = .ok (c j) w:=by simp[part,isAgg,run_underlying Tryz.underlying167,hv]
  have h1:(0:Int)<=(j:Int):=by omega
  exact Ob (v:=c j) (w':=w) (by simp[execOp,ho,hx,hy,Instr.index,run_underlying Tryz.underlying169,asIntOf,sizeOf,typeInfo,hq,hs',hp,h1,hj]) (h _ (hc j hj))
theorem aCV{w:World}{a l:Nat->Int}{b2 b3 b5:Nat}(ha:∀ i,0<=a i/\a i<=255)(hl:∀ i,0<=l i/\l i<=255)(h2:Pp w b2 172 4 a)(h3:Pp w b3 172 4 l)(h5:PM w b5 3 (.int .i64 (Int.tdiv (Nh a 4+Nh l 4+4) 8))) :
  Fns w (.agg [.func (.func 159) #[] #[.pointer (some ⟨b5,0,none⟩)],.func (.func 160) #[] #[.pointer (some ⟨b2,0,none⟩)],.func (.func 161) #[] #[.pointer (some ⟨b3,0,none⟩)],.func (.func 162) #[] #[.pointer (some ⟨b2,0,none⟩),.pointer (some ⟨b3,0,none⟩)]].toArray) (Uk a l):=by
 refine⟨fun m=>match m with
  | 0=>.func (.func 159) #[] #[.pointer (some ⟨b5,0,none⟩)]
  | 1=>.func (.func 160) #[] #[.pointer (some ⟨b2,0,none⟩)]
  | 2=>.func (.func 161) #[] #[.pointer (some ⟨b3,0,none⟩)]
  | _=>.func (.func 162) #[] #[.pointer (some ⟨b2,0,none⟩),.pointer (some ⟨b3,0,none⟩)],rfl,fun m hm=>?_⟩
 rcases (by omega:m=0\/m=1\/m=2\/m=3) with rfl|rfl|rfl|rfl
 ·exact⟨_,[_],rfl,fun _ _=>by kernel_rfl,fun w' k i j hi hj=>aDB i j _ b5 w' (h5.all k id)⟩
 ·exact⟨_,[_],rfl,fun _ _=>by kernel_rfl,fun w' k i j hi hj=>aC7 i j a b2 w' hj (h2.all k id)⟩
 ·exact⟨_,[_],rfl,fun _ _=>by kernel_rfl,fun w' k i j hi hj=>aC4 i j l b3 w' hi (h3.all k id)⟩
 ·exact⟨_,[_,_],rfl,fun _ _=>by kernel_rfl,fun w' k i j hi hj=>aDt i j a l b2 b3 w' hi hj ha hl (h2.all k id) (h3.all k id)⟩
theorem U7(a l:Nat->Int)(w0:World)(ha:∀ i,0<=a i/\a i<=255)(hl:∀ i,0<=l i/\l i<=255) :
  Calls Tryz.prog 141 #[.agg (L8 4 (a)).toArray,.agg (L8 4 (l)).toArray] w0 fun e w'=>∃ (v1:Value),e = .returned v1/\KP (fun _=>False) w0 w'/\(Pd.fns (Uk a l)).says v1 w':=by
 refine Ls (args:=[.agg (L8 4 a).toArray,.agg (L8 4 l).toArray]) 18 Tryz.func141 rfl rfl (Nat.le_of_ble_eq_true rfl) ?_
 refine KK (KI (SR rfl rfl rfl rfl fun p1 w2 e5 B3 k4=>?_))
 have g6:=LV (Nat.le_of_eq e5.symm)
 clear e5 g6
 refine SR rfl rfl rfl rfl fun p9 bt aq ar au=>?_
 have aP:=LV (Nat.le_of_eq aq.symm)
 clear aq aP
 have av:=B3.all au id
 have aw:=((KP.refl (fun _=>False) w0).tr k4).tr au
 refine LI (n:=4) (vs:=[Value.nilFunc,Value.nilFunc,Value.nilFunc,Value.nilFunc]) rfl rfl rfl (by kernel_rfl) fun az aQ aA aB aC=>?_
 obtain⟨aR,aS⟩:=S3 aB av ar
 obtain⟨ak,am⟩:=NL aC av ar
 have aD:=aw.tr aC
 refine KO ?_
 have aT:=La (undef)
 have aE:=La (pt p1 0)
 have aF:=La (pt p9 0)
 have aU:=La (pt az 0)
 refine KH (KK ?_)
 have h1:=U0 ha 4
 have h2:=U0 hl 4
 refine Nd 8 [some 6,some 7,some 8,some 9,some 10,some 11,some 12,some 5] [Pd.eq (.agg (L8 4 a).toArray),Pd.eq (iv (Nh a 4)),Pd.eq (.agg (L8 4 l).toArray),Pd.eq (iv (Nh l 4)),Pd.eq (iv ((Nh a 4)+(Nh l 4))),Pd.eq (iv (((Nh a 4)+(Nh l 4))+4)),Pd.eq (iv (Int.tdiv (Nh a 4+Nh l 4+4) 8)),Pd.cel aQ.heap.size 3 (iv 0)] (by kernel_rfl) (by kernel_rfl) (by kernel_rfl) ?_ ?_
 ·refine KN ?_ ?_
  ·refine Le.one rfl fun F_ w_ hR hout hD=>?_
   exact(Rf M9 rfl ((hout 2 rfl (by decide)).trans aE) (ak.all hR id) ⟨rfl,KP.refl _ _⟩)
  refine KN ?_ ?_
  ·refine Le.one rfl fun F_ w_ hR hout hD=>?_
   have g6:F_ 6 = .agg (L8 4 a).toArray:=(hD.get 0 rfl rfl rfl)
   exact(LE rfl rfl rfl (fun _ _=>by kernel_rfl) (K4 _) (Lm g6 LS) (Yh a  _ ha  ) (fun e_ w_ h_=>⟨_,h_.1,rfl,h_.2⟩))
  refine KN ?_ ?_
  ·refine Le.one rfl fun F_ w_ hR hout hD=>?_
   exact(Rf M9 rfl ((hout 3 rfl (by decide)).trans aF) (am.all hR id) ⟨rfl,KP.refl _ _⟩)
  refine KN ?_ ?_
  ·refine Le.one rfl fun F_ w_ hR hout hD=>?_
   have g8:F_ 8 = .agg (L8 4 l).toArray:=(hD.get 0 rfl rfl rfl)
   exact(LE rfl rfl rfl (fun _ _=>by kernel_rfl) (K4 _) (Lm g8 LS) (Yh l  _ hl  ) (fun e_ w_ h_=>⟨_,h_.1,rfl,h_.2⟩))
  refine KN ?_ ?_
  ·refine Le.one rfl fun F_ w_ hR hout hD=>?_
   have g7:F_ 7=iv (Nh a 4):=(hD.get 0 rfl rfl rfl)
   have g9:F_ 9=iv (Nh l 4):=(hD.get 1 rfl rfl rfl)
   exact(LR rfl g7 g9 (Mb rfl (by omega)) ⟨rfl,KP.refl _ _⟩)
  refine KN ?_ ?_
  ·refine Le.one rfl fun F_ w_ hR hout hD=>?_
   have aY:F_ 10=iv ((Nh a 4)+(Nh l 4)):=(hD.get 0 rfl rfl rfl)
   exact(LR rfl aY rfl (Mb rfl (by omega)) ⟨rfl,KP.refl _ _⟩)
  refine KN ?_ ?_
  ·refine Le.one rfl fun F_ w_ hR hout hD=>?_
   have aZ:F_ 11=iv (((Nh a 4)+(Nh l 4))+4):=(hD.get 0 rfl rfl rfl)
   exact(Qd rfl aZ rfl (by first|decide|omega) (Mb rfl (by rw[aC5 (by omega)];omega)) ⟨rfl,KP.refl _ _⟩)
  refine KN ?_ ?_
  ·refine Le.one rfl fun F_ w_ hR hout hD=>?_
   exact XN (v:=iv 0) rfl (by kernel_rfl) rfl ⟨⟨_,rfl,hR.size,heap_alloc_new _ _⟩,(KP.refl _ _).alloc _⟩
  exact L3
 intro bu aG a8 aH an ae
 obtain⟨a9,ba,bb⟩:=ND aH ak am aA
 obtain⟨bc,aI,aJ,aK⟩:=t4 ae 18 aT 2 aE 3 aF 4 aU
 obtain⟨ac,bd,af,ao⟩:=an 7 (by decide)
 replace ao:PM a8 ac 3 (iv 0):=ao
 have be:=KM.new (LV af) (LO ak.lt)
 have bf:=KM.new (LV af) (LO am.lt)
 have aL:=KM.new (LV af) (LO aA.lt)
 have aM:aG 5=pt ac 0:=(ae 5).trans bd
 have bg:aG 12=iv (Int.tdiv (Nh a 4+Nh l 4+4) 8):=(ae 12).trans (an 6 (by decide))
 clear an ae
 refine L6 rfl rfl rfl aM bg ao (by rfl) (by kernel_rfl) fun bz bh ah=>?_
 have bi:=a9.all ah (be.symm p1 rfl)
 have bj:=ba.all ah (bf.symm p9 rfl)
 have bl:=bb.all ah (aL.symm az rfl)
 refine KO ?_
 refine KH (KK (KI (KJ (.func (.func 159) #[] #[pt ac 0]) rfl rfl (Wp rfl (Lm aM LS) rr) (KJ (.func (.func 160) #[] #[pt p1 0]) rfl rfl (Wp rfl (Lm aI LS) rr) (KJ (.func (.func 161) #[] #[pt p9 0]) rfl rfl (Wp rfl (Lm aJ LS) rr) (KJ (.func (.func 162) #[] #[pt p1 0,pt p9 0]) rfl rfl (Wp rfl (Lm aI (Lm aJ LS)) rr) (KJ (.agg #[.func (.func 159) #[] #[pt ac 0],.func (.func 160) #[] #[pt p1 0],.func (.func 161) #[] #[pt p9 0],.func (.func 162) #[] #[pt p1 0,pt p9 0]]) rfl rfl (L0 (l':=[(0,.func (.func 159) #[] #[pt ac 0]),(1,.func (.func 160) #[] #[pt p1 0]),(2,.func (.func 161) #[] #[pt p9 0]),(3,.func (.func 162) #[] #[pt p1 0,pt p9 0])]) (cells:=#[.func (.func 159) #[] #[pt ac 0],.func (.func 160) #[] #[pt p1 0],.func (.func 161) #[] #[pt p9 0],.func (.func 162) #[] #[pt p1 0,pt p9 0]]) rfl (SU rfl (SU rfl (SU rfl (SU rfl Rc)))) (by kernel_rfl) rfl rr) (Ll (us:=[.func (.func 159) #[] #[pt ac 0],.func (.func 160) #[] #[pt p1 0],.func (.func 161) #[] #[pt p9 0],.func (.func 162) #[] #[pt p1 0,pt p9 0]]) XF rfl rfl rfl aK rfl bl rfl (K2 rfl (K2 rfl (K2 rfl (K2 rfl MI)))) fun bA bm ai=>?_))))))))
 have bn:=bi.all ai (aR.symm p1 rfl)
 have bo:=bj.all ai (aS.symm p9 rfl)
 have bp:=bh.all ai (aL ac rfl)
 refine KO ?_
 refine KH (Ld ?_)
 exact OY (vs:=[.func (.func 159) #[] #[pt ac 0],.func (.func 160) #[] #[pt p1 0],.func (.func 161) #[] #[pt p9 0],.func (.func 162) #[] #[pt p1 0,pt p9 0]]) XF bc rfl rfl aK bm ⟨_,rfl,(((aD.tr aH).trans ah (KS.ok (S:=fun _=>False) (KS.new aD (LV af)) K6)).trans ai (KS.ok (S:=fun _=>False) (KS.new aw aB) K6)),aCV ha hl bn bo bp⟩
theorem ZP(fv:Value)(g:Nat->Nat->Int)(w0:World)(hg:Xp w0 4 fv g) :
  Calls Tryz.prog 140 #[fv] w0 fun e w'=>e = .returned (LK (fun n=>g (n/4) (n%4)))/\KP (fun _=>False) w0 w':=by
 refine Ls (args:=[fv]) 18 Tryz.func140 rfl rfl (Nat.le_of_ble_eq_true rfl) ?_
 have K0:=KP.refl (fun _=>False) w0
 refine KK (KI (L1 rfl rfl rfl KZ.2.2 fun p1 w2 e5 B3 k4=>?_))
 have K8:=K0.tr k4
 refine KO ?_
 have aE:=La (fv)
 have aF:=La (undef)
 have aG:=La (pt p1 0)
 refine KH (KK (KI (L1 rfl rfl rfl KZ.2.2 fun aa aX ao aH ap=>?_)))
 have aq:=LV (Nat.le_of_eq ao.symm)
 have aI:=KM.new aq (LO B3.lt)
 clear ao
 have aJ:=B3.all ap id
 refine KO ?_
 have aK:=La (pt aa 0)
 refine KH (KK (KK (KI (KJ (iv 0) rfl rfl (KQ rfl rfl rr) (KO ?_)))))
 have aL:=La (iv 0)
 refine KH (Lo (M4 (fun nn FF ww=>∃ (n:Nat),(n<=16)/\nn=16-n/\FF 0=fv/\FF 2=pt p1 0/\FF 3=pt aa 0/\FF 18=undef/\FF 5=iv ((n:Nat):Int)/\KP (fun _=>False) w0 ww/\NO ww p1 69 (fun _=>0)/\NO ww aa 69 (upto n (fun _=>0) (fun n=>g (n/4) (n%4)))) (16-0) ⟨0,by omega,rfl,aE,aG,aK,aF,aL,(K8.tr ap),aJ,aH.first⟩ ?_))
 rintro aY aZ ar ⟨n,i41,hn40,au,ae,af,av,ah,ai,aw,az⟩
 refine KK (KI (KJ (.bool (decide (((n:Nat):Int)<16))) rfl rfl (L5 rfl ah rfl rfl rr) (KO ?_)))
 have aM:=La (.bool (decide (((n:Nat):Int)<16)))
 refine KH (KK ?_)
 refine Lc aM (fun ab=>?_) (fun ab=>?_)
 ·replace ab:=of_decide_eq_true ab
  refine Li (KH (KK (Lo (KK (KI (KW rfl rfl rfl ah (KJ (iv ((n:Nat):Int)) rfl rfl (KX rfl rfl rr) (KO ?_))))))))
  have aj:=La (iv ((n:Nat):Int))
  refine KH (KI (KW rfl rfl rfl aj (KW rfl rfl rfl au (KW rfl rfl rfl aj (KJ (iv (((n/4):Nat):Int)) rfl rfl (Qd rfl rfl rfl (by first|decide|omega) (L2 (Xa n 4) (by omega)) rr) (KW rfl rfl rfl aj (KJ (iv (((n%4):Nat):Int)) rfl rfl (Ya rfl rfl rfl (by first|decide|omega) (Xf n 4) rr) (Ly (R:=fun v_ w_=>v_=iv (g (n/4) (n%4))/\KP (fun _=>False) ar w_) rfl rfl (aCk rfl rfl rfl rfl rfl rfl (hg.all ai) (by omega) (by omega) (fun e_ w_ h_=>⟨_,h_.1,rfl,h_.2⟩)) ?_))))))))
  rintro _ a8 ⟨rfl,aA⟩
  obtain⟨aN,aO⟩:=NL aA aw az
  refine KJ (.pointer (some ⟨aa,n,none⟩)) rfl rfl (LU n (s:=1) rfl af rfl (by omega) Tryz.underlying69 (by omega) (by kernel_rfl) (by omega) rr) (NQ rfl rfl rfl rfl rfl aO (by omega) (by kernel_rfl) fun a9 aP aB=>?_)
  have aQ:=aN.all aB (aI.symm p1 rfl)
  refine KO ?_
  refine LD (KH (KI (KJ (iv ((n+1:Nat):Int)) rfl rfl (LR rfl ah rfl (L2 (by omega) (by omega)) rr) (KJ (iv ((n+1:Nat):Int)) rfl rfl (KQ rfl rfl rr) (KO ?_)))))
  have aR:=La (iv ((n+1:Nat):Int))
  exact KH ⟨(16-(n+1)),by omega,n+1,by omega,rfl,au,ae,af,av,aR,((ai.tr aA).trans aB (KS.ok (S:=fun _=>False) (KS.new K8 aq) K6)),aQ,(aP.next rfl)⟩
 ·replace ab:=of_decide_eq_false ab
  refine Mg (Lt (Lt ?_))
  have aS:16=n:=by omega
  subst aS
  have aT:NO ar aa 69 (fun n=>g (n/4) (n%4)):=(az.last)
  refine Mh (KH (KK (KI (KJ (LK (fun n=>g (n/4) (n%4))) rfl rfl (LZ KZ rfl af aT rr) (Lp KZ rfl rfl rfl ae rfl aw fun ba aU aV=>?_)))))
  refine KO ?_
  refine KH (Ld ?_)
  exact QE KZ av rfl rfl ae aU ⟨rfl,(ai.trans aV (KS.ok (S:=fun _=>False) (KS.new K0 (LV (Nat.le_of_eq e5.symm))) K6))⟩
theorem aAi{f:FD}{p x y mode:Int}(hm:0<=mode/\mode<=3):(fun n=>Uk (fun k=>N4 f p x y ((k:Nat):Int)) (fun k=>O0 f p x y ((k:Nat):Int)) mode.toNat (n/4) (n%4))=XY f p x y mode:=by
 funext n
 rcases (by omega:mode=0\/mode=1\/mode=2\/mode=3) with rfl|rfl|rfl|rfl
 ·show Int.tdiv _ 8=Int.tdiv _ 8
  congr 1
  simp only[Nh,azc];omega
 ·rfl
 ·rfl
 ·rfl
theorem YO(p x y mode:Int)(f:FD)(f0 f1 f2:Value)(T_f0:Nat->Prop)(T_f1:Nat->Prop)(T_f2:Nat->Prop)(w0:World)(h_f0:L9 w0 T_f0 f0 ((f).p0))(h_f1:L9 w0 T_f1 f1 ((f).p1))(h_f2:L9 w0 T_f2 f2 ((f).p2)) :
  Calls Tryz.prog 112 #[.agg #[.int .i64 ((f).W),.int .i64 ((f).H),f0,f1,f2],.int .i64 (p),.int .i64 (x),.int .i64 (y),.int .i64 (mode)] w0 fun e w'=>e = .returned (.tuple #[LK (US f p x y mode),.int .i64 (RA f p x y mode)])/\KP (fun _=>False) w0 w':=by
 refine Ls (args:=[.agg #[iv (f.W),iv (f.H),f0,f1,f2],iv p,iv x,iv y,iv mode]) 55 Tryz.func112 rfl rfl (Nat.le_of_ble_eq_true rfl) ?_
 have hb:U5 f:=⟨h_f0.lt256,h_f1.lt256,h_f2.lt256⟩
 have g_f0:=KS.refl w0 T_f0
 have g_f1:=KS.refl w0 T_f1
 have g_f2:=KS.refl w0 T_f2
 refine KK (KI (Lx (vs:=[iv (f.W),iv (f.H),f0,f1,f2]) rfl rfl rfl rfl fun p1 w2 B4 g5 k3=>?_))
 obtain⟨bc,bd,be⟩:=ND k3 h_f0 h_f1 h_f2
 have aE:=(KP.refl (fun _=>False) w0).tr k3
 refine L1 rfl rfl rfl KZ.2.2 fun bf cO aF am aG=>?_
 have aH:=LV (Nat.le_of_eq aF.symm)
 have ac:=KS.new aE aH
 clear aF aH
 obtain⟨ah,ai,aj,ak⟩:=OW aG bc bd be B4
 have an:=aE.tr aG
 refine KJ (iv 0) rfl rfl (KX rfl rfl rr) (KO ?_)
 have ab:=La (iv p)
 have ap:=La (iv x)
 have au:=La (iv y)
 have av:=La (iv mode)
 have ae:=La (undef)
 have af:=La (pt p1 0)
 have aa:=La (pt bf 0)
 refine KH (KK (KK ?_))
 by_cases ao:(Na f)≠0
 ·skip
  refine KI (KJ (.agg #[iv (f.W),iv (f.H),f0,f1,f2]) rfl rfl (KU K3 rfl af ak rr) (LY rfl rfl rfl rfl rfl (fun _ _=>by kernel_rfl) (Lm rfl LS) (M0 f f0 f1 f2 T_f0 T_f1 T_f2 _  ah ai aj ) fun cP aI=>?_))
  have bg:=am.all aI id
  refine KJ (.bool true) rfl rfl (Mc rfl rfl rfl (decide_eq_true ao) rr) (KJ (.bool true) rfl rfl (KQ rfl rfl rr) (KL 3 false 15 rfl rfl rfl (Or.inl rfl) rfl (KL 3 false 15 rfl rfl rfl (Or.inl rfl) rfl (KJ (.bool true) rfl rfl (Lg rfl rfl rfl rr) (KJ (.bool true) rfl rfl (KQ rfl rfl rr) (KL 7 false 19 rfl rfl rfl (Or.inl rfl) rfl (KL 7 false 19 rfl rfl rfl (Or.inl rfl) rfl (KJ (.bool true) rfl rfl (Lg rfl rfl rfl rr) (KJ (.bool true) rfl rfl (KQ rfl rfl rr) (KL 11 false 23 rfl rfl rfl (Or.inl rfl) rfl (KL 11 false 23 rfl rfl rfl (Or.inl rfl) rfl ?_)))))))))))
  refine KL 11 false 23 rfl rfl rfl (Or.inl rfl) rfl (KJ (.bool true) rfl rfl (Lg rfl rfl rfl rr) (KJ (.bool true) rfl rfl (KQ rfl rfl rr) (KL 16 false 28 rfl rfl rfl (Or.inl rfl) rfl (KL 16 false 28 rfl rfl rfl (Or.inl rfl) rfl (KL 16 false 28 rfl rfl rfl (Or.inl rfl) rfl (KJ (.bool true) rfl rfl (Lg rfl rfl rfl rr) (KO ?_)))))))
  have bh:=La (.bool true)
  refine KH ?_
  refine Lc (t:=true) bh (fun _=>?_) (fun e=>by cases e)
  refine KK ?_
  have hno:¬ MX f p x y:=by rintro ⟨h1,h2,h3,h4,h5,h6,h7⟩;first|exact absurd ((Mu f).2 h1) (by assumption)|omega
  refine KI (KJ (LK (fun _=>0)) rfl rfl (Mz (cells:=(L8 16 (fun _=>0)).toArray) rfl (by kernel_rfl) rfl rr) (Lp KZ rfl rfl rfl aa rfl bg fun cQ bi bj=>?_))
  refine KJ (iv 70) rfl rfl (KX rfl rfl rr) (KO ?_)
  have bl:=La (iv 70)
  refine KH (Ld (Lq ?_))
  exact L7 ae rfl (Mq KZ rfl aa bi) (Lz (v:=iv 70) rfl bl) ⟨(by first|rw[(NR hno).1,(NR hno).2]|rw[(M2 hpl hm).1,(M2 hpl hm).2]|rw[(Nk hpl hm).1,(Nk hpl hm).2]),((an.tr aI).trans bj (KS.ok (S:=fun _=>False) ac K6))⟩
 ·skip
  by_cases aq:p<0
  ·skip
   refine KI (KJ (.agg #[iv (f.W),iv (f.H),f0,f1,f2]) rfl rfl (KU K3 rfl af ak rr) (LY rfl rfl rfl rfl rfl (fun _ _=>by kernel_rfl) (Lm rfl LS) (M0 f f0 f1 f2 T_f0 T_f1 T_f2 _  ah ai aj ) fun cR aJ=>?_))
   have bm:=am.all aJ id
   refine KJ (.bool false) rfl rfl (Mc rfl rfl rfl (decide_eq_false ao) rr) (KJ (.bool false) rfl rfl (KQ rfl rfl rr) (KR (iv p) 3 false 15 rfl rfl rfl rfl rfl (KQ rfl ab rr) (KR (.bool true) 3 false 15 rfl rfl rfl rfl rfl (L5 rfl rfl rfl (decide_eq_true aq) rr) (KJ (.bool true) rfl rfl (Lb rfl rfl rfl rr) (KJ (.bool true) rfl rfl (KQ rfl rfl rr) (KL 7 false 19 rfl rfl rfl (Or.inl rfl) rfl (KL 7 false 19 rfl rfl rfl (Or.inl rfl) rfl (KJ (.bool true) rfl rfl (Lg rfl rfl rfl rr) (KJ (.bool true) rfl rfl (KQ rfl rfl rr) (KL 11 false 23 rfl rfl rfl (Or.inl rfl) rfl (KL 11 false 23 rfl rfl rfl (Or.inl rfl) rfl ?_)))))))))))
   refine KL 11 false 23 rfl rfl rfl (Or.inl rfl) rfl (KJ (.bool true) rfl rfl (Lg rfl rfl rfl rr) (KJ (.bool true) rfl rfl (KQ rfl rfl rr) (KL 16 false 28 rfl rfl rfl (Or.inl rfl) rfl (KL 16 false 28 rfl rfl rfl (Or.inl rfl) rfl (KL 16 false 28 rfl rfl rfl (Or.inl rfl) rfl (KJ (.bool true) rfl rfl (Lg rfl rfl rfl rr) (KO ?_)))))))
   have bn:=La (.bool true)
   refine KH ?_
   refine Lc (t:=true) bn (fun _=>?_) (fun e=>by cases e)
   refine KK ?_
   have hno:¬ MX f p x y:=by rintro ⟨h1,h2,h3,h4,h5,h6,h7⟩;first|exact absurd ((Mu f).2 h1) (by assumption)|omega
   refine KI (KJ (LK (fun _=>0)) rfl rfl (Mz (cells:=(L8 16 (fun _=>0)).toArray) rfl (by kernel_rfl) rfl rr) (Lp KZ rfl rfl rfl aa rfl bm fun cS bo bp=>?_))
   refine KJ (iv 70) rfl rfl (KX rfl rfl rr) (KO ?_)
   have bq:=La (iv 70)
   refine KH (Ld (Lq ?_))
   exact L7 ae rfl (Mq KZ rfl aa bo) (Lz (v:=iv 70) rfl bq) ⟨(by first|rw[(NR hno).1,(NR hno).2]|rw[(M2 hpl hm).1,(M2 hpl hm).2]|rw[(Nk hpl hm).1,(Nk hpl hm).2]),((an.tr aJ).trans bp (KS.ok (S:=fun _=>False) ac K6))⟩
  ·skip
   by_cases aw:3<=p
   ·skip
    refine KI (KJ (.agg #[iv (f.W),iv (f.H),f0,f1,f2]) rfl rfl (KU K3 rfl af ak rr) (LY rfl rfl rfl rfl rfl (fun _ _=>by kernel_rfl) (Lm rfl LS) (M0 f f0 f1 f2 T_f0 T_f1 T_f2 _  ah ai aj ) fun cT aK=>?_))
    have bt:=am.all aK id
    refine KJ (.bool false) rfl rfl (Mc rfl rfl rfl (decide_eq_false ao) rr) (KJ (.bool false) rfl rfl (KQ rfl rfl rr) (KR (iv p) 3 false 15 rfl rfl rfl rfl rfl (KQ rfl ab rr) (KR (.bool false) 3 false 15 rfl rfl rfl rfl rfl (L5 rfl rfl rfl (decide_eq_false aq) rr) (KJ (.bool false) rfl rfl (Lb rfl rfl rfl rr) (KJ (.bool false) rfl rfl (KQ rfl rfl rr) (KR (iv p) 7 false 19 rfl rfl rfl rfl rfl (KQ rfl ab rr) (KR (.bool true) 7 false 19 rfl rfl rfl rfl rfl (Nl rfl rfl rfl (decide_eq_true aw) rr) (KJ (.bool true) rfl rfl (Lb rfl rfl rfl rr) (KJ (.bool true) rfl rfl (KQ rfl rfl rr) (KL 11 false 23 rfl rfl rfl (Or.inl rfl) rfl (KL 11 false 23 rfl rfl rfl (Or.inl rfl) rfl ?_)))))))))))
    refine KL 11 false 23 rfl rfl rfl (Or.inl rfl) rfl (KJ (.bool true) rfl rfl (Lg rfl rfl rfl rr) (KJ (.bool true) rfl rfl (KQ rfl rfl rr) (KL 16 false 28 rfl rfl rfl (Or.inl rfl) rfl (KL 16 false 28 rfl rfl rfl (Or.inl rfl) rfl (KL 16 false 28 rfl rfl rfl (Or.inl rfl) rfl (KJ (.bool true) rfl rfl (Lg rfl rfl rfl rr) (KO ?_)))))))
    have bu:=La (.bool true)
    refine KH ?_
    refine Lc (t:=true) bu (fun _=>?_) (fun e=>by cases e)
    refine KK ?_
    have hno:¬ MX f p x y:=by rintro ⟨h1,h2,h3,h4,h5,h6,h7⟩;first|exact absurd ((Mu f).2 h1) (by assumption)|omega
    refine KI (KJ (LK (fun _=>0)) rfl rfl (Mz (cells:=(L8 16 (fun _=>0)).toArray) rfl (by kernel_rfl) rfl rr) (Lp KZ rfl rfl rfl aa rfl bt fun cU bv bz=>?_))
    refine KJ (iv 70) rfl rfl (KX rfl rfl rr) (KO ?_)
    have bA:=La (iv 70)
    refine KH (Ld (Lq ?_))
    exact L7 ae rfl (Mq KZ rfl aa bv) (Lz (v:=iv 70) rfl bA) ⟨(by first|rw[(NR hno).1,(NR hno).2]|rw[(M2 hpl hm).1,(M2 hpl hm).2]|rw[(Nk hpl hm).1,(Nk hpl hm).2]),((an.tr aK).trans bz (KS.ok (S:=fun _=>False) ac K6))⟩
   ·skip
    by_cases az:0<=x/\x<=64
    ·skip
     by_cases aL:0<=y/\y<=64
     ·skip
      refine KI (KJ (.agg #[iv (f.W),iv (f.H),f0,f1,f2]) rfl rfl (KU K3 rfl af ak rr) (LY rfl rfl rfl rfl rfl (fun _ _=>by kernel_rfl) (Lm rfl LS) (M0 f f0 f1 f2 T_f0 T_f1 T_f2 _  ah ai aj ) fun bB aM=>?_))
      obtain⟨bC,bD,bE,bF,bG⟩:=OJ aM ah ai aj ak am
      refine KJ (.bool false) rfl rfl (Mc rfl rfl rfl (decide_eq_false ao) rr) (KJ (.bool false) rfl rfl (KQ rfl rfl rr) (KR (iv p) 3 false 15 rfl rfl rfl rfl rfl (KQ rfl ab rr) (KR (.bool false) 3 false 15 rfl rfl rfl rfl rfl (L5 rfl rfl rfl (decide_eq_false aq) rr) (KJ (.bool false) rfl rfl (Lb rfl rfl rfl rr) (KJ (.bool false) rfl rfl (KQ rfl rfl rr) (KR (iv p) 7 false 19 rfl rfl rfl rfl rfl (KQ rfl ab rr) (KR (.bool false) 7 false 19 rfl rfl rfl rfl rfl (Nl rfl rfl rfl (decide_eq_false aw) rr) (KJ (.bool false) rfl rfl (Lb rfl rfl rfl rr) (KJ (.bool false) rfl rfl (KQ rfl rfl rr) (KR (iv x) 11 false 23 rfl rfl rfl rfl rfl (KQ rfl ap rr) (LA (R:=fun v_ w_=>v_ = .bool true/\KP (fun _=>False) bB w_) 11 false 23 rfl rfl rfl rfl rfl (LE rfl rfl rfl (fun _ _=>by kernel_rfl) (K4 _) (Lm rfl LS) (RS x  _   ) (fun e_ w_ h_=>⟨_,h_.1,(congrArg Value.bool (decide_eq_true az)),h_.2⟩)) ?_)))))))))))
      rintro _ bH ⟨rfl,aN⟩
      obtain⟨bI,bJ,bK,bL,bM⟩:=OJ aN bC bD bE bF bG
      refine KR (.bool false) 11 false 23 rfl rfl rfl rfl rfl (LW rfl rfl rfl rr) (KJ (.bool false) rfl rfl (Lb rfl rfl rfl rr) (KJ (.bool false) rfl rfl (KQ rfl rfl rr) (KR (iv y) 16 false 28 rfl rfl rfl rfl rfl (KQ rfl au rr) (LA (R:=fun v_ w_=>v_ = .bool true/\KP (fun _=>False) bH w_) 16 false 28 rfl rfl rfl rfl rfl (LE rfl rfl rfl (fun _ _=>by kernel_rfl) (K4 _) (Lm rfl LS) (RS y  _   ) (fun e_ w_ h_=>⟨_,h_.1,(congrArg Value.bool (decide_eq_true aL)),h_.2⟩)) ?_))))
      rintro _ cV ⟨rfl,aO⟩
      obtain⟨aP,aQ,aR,aS,aA⟩:=OJ aO bI bJ bK bL bM
      have aB:=((an.tr aM).tr aN).tr aO
      refine KR (.bool false) 16 false 28 rfl rfl rfl rfl rfl (LW rfl rfl rfl rr) (KJ (.bool false) rfl rfl (Lb rfl rfl rfl rr) (KO ?_))
      have bN:=La (.bool false)
      refine KH ?_
      refine Lc (t:=false) bN (fun e=>by cases e) (fun _=>?_)
      refine Li (KH (KK (KK ?_)))
      have hpl:MX f p x y:=⟨(Mu f).1 (by first|assumption|(apply Decidable.byContradiction;assumption)),by omega,by omega,by omega,by omega,by omega,by omega⟩
      by_cases aT:mode<0
      ·skip
       refine KI (KW rfl rfl rfl av (KJ (.bool true) rfl rfl (L5 rfl rfl rfl (decide_eq_true aT) rr) (KJ (.bool true) rfl rfl (KQ rfl rfl rr) (KL 2 false 36 rfl rfl rfl (Or.inl rfl) rfl (KL 2 false 36 rfl rfl rfl (Or.inl rfl) rfl (KJ (.bool true) rfl rfl (Lg rfl rfl rfl rr) (KO ?_)))))))
       have bO:=La (.bool true)
       refine KH ?_
       refine Lc (t:=true) bO (fun _=>?_) (fun e=>by cases e)
       refine KK ?_
       have hm:¬ (0<=mode/\mode<=3):=by omega
       refine KI (KJ (LK (fun _=>0)) rfl rfl (Mz (cells:=(L8 16 (fun _=>0)).toArray) rfl (by kernel_rfl) rfl rr) (Lp KZ rfl rfl rfl aa rfl aA fun cW bP bQ=>?_))
       refine KJ (iv 80) rfl rfl (KX rfl rfl rr) (KO ?_)
       have bR:=La (iv 80)
       refine KH (Ld (Lq ?_))
       exact L7 ae rfl (Mq KZ rfl aa bP) (Lz (v:=iv 80) rfl bR) ⟨(by first|rw[(NR hno).1,(NR hno).2]|rw[(M2 hpl hm).1,(M2 hpl hm).2]|rw[(Nk hpl hm).1,(Nk hpl hm).2]),(aB.trans bQ (KS.ok (S:=fun _=>False) ac K6))⟩
      ·skip
       refine KI (KW rfl rfl rfl av (KJ (.bool false) rfl rfl (L5 rfl rfl rfl (decide_eq_false aT) rr) (KJ (.bool false) rfl rfl (KQ rfl rfl rr) (KR (iv mode) 2 false 36 rfl rfl rfl rfl rfl (KQ rfl av rr) (KR (.bool (decide (4<=mode))) 2 false 36 rfl rfl rfl rfl rfl (Nl rfl rfl rfl rfl rr) (KJ (.bool (decide (4<=mode))) rfl rfl (Lb rfl rfl rfl rr) (KO ?_)))))))
       have bS:=La (.bool (decide (4<=mode)))
       refine KH ?_
       refine Lc bS (fun ar=>?_) (fun ar=>?_)
       ·replace ar:=of_decide_eq_true ar
        refine KK ?_
        have hm:¬ (0<=mode/\mode<=3):=by omega
        refine KI (KJ (LK (fun _=>0)) rfl rfl (Mz (cells:=(L8 16 (fun _=>0)).toArray) rfl (by kernel_rfl) rfl rr) (Lp KZ rfl rfl rfl aa rfl aA fun cX bT bU=>?_))
        refine KJ (iv 80) rfl rfl (KX rfl rfl rr) (KO ?_)
        have bV:=La (iv 80)
        refine KH (Ld (Lq ?_))
        exact L7 ae rfl (Mq KZ rfl aa bT) (Lz (v:=iv 80) rfl bV) ⟨(by first|rw[(NR hno).1,(NR hno).2]|rw[(M2 hpl hm).1,(M2 hpl hm).2]|rw[(Nk hpl hm).1,(Nk hpl hm).2]),(aB.trans bU (KS.ok (S:=fun _=>False) ac K6))⟩
       ·replace ar:=of_decide_eq_false ar
        refine Li (KH (KK ?_))
        have hm:0<=mode/\mode<=3:=by omega
        refine Nd 14 [some 41,some 42,some 43,some 44,some 45,some 46,some 47,some 48,some 49,some 50,some 51,some 52,some 53,some 54] [Pd.eq (.agg #[iv (f.W),iv (f.H),f0,f1,f2]),Pd.eq (iv p),Pd.eq (iv x),Pd.eq (iv y),Pd.eq (.agg (L8 4 (fun k=>N4 f p x y ((k:Nat):Int))).toArray),Pd.eq (.agg #[iv (f.W),iv (f.H),f0,f1,f2]),Pd.eq (iv p),Pd.eq (iv x),Pd.eq (iv y),Pd.eq (.agg (L8 4 (fun k=>O0 f p x y ((k:Nat):Int))).toArray),Pd.fns (Uk (fun k=>N4 f p x y ((k:Nat):Int)) (fun k=>O0 f p x y ((k:Nat):Int))),Pd.eq (iv mode),Pd.ask2 4 (Uk (fun k=>N4 f p x y ((k:Nat):Int)) (fun k=>O0 f p x y ((k:Nat):Int)) mode.toNat),Pd.eq (LK (XY f p x y mode))] (by kernel_rfl) (by kernel_rfl) (by kernel_rfl) ?_ ?_
        ·refine KN ?_ ?_
         ·refine Le.one rfl fun F_ w_ hR hout hD=>?_
          exact(KU K3 rfl ((hout 5 rfl (by decide)).trans af) (aS.all hR id) ⟨rfl,KP.refl _ _⟩)
         refine KN ?_ ?_
         ·refine Le.one rfl fun F_ w_ hR hout hD=>?_
          exact(KQ rfl ((hout 1 rfl (by decide)).trans ab) ⟨rfl,KP.refl _ _⟩)
         refine KN ?_ ?_
         ·refine Le.one rfl fun F_ w_ hR hout hD=>?_
          exact(KQ rfl ((hout 2 rfl (by decide)).trans ap) ⟨rfl,KP.refl _ _⟩)
         refine KN ?_ ?_
         ·refine Le.one rfl fun F_ w_ hR hout hD=>?_
          exact(KQ rfl ((hout 3 rfl (by decide)).trans au) ⟨rfl,KP.refl _ _⟩)
         refine KN ?_ ?_
         ·refine Le.one rfl fun F_ w_ hR hout hD=>?_
          have bW:F_ 41 = .agg #[iv (f.W),iv (f.H),f0,f1,f2]:=(hD.get 0 rfl rfl rfl)
          have bX:F_ 42=iv p:=(hD.get 1 rfl rfl rfl)
          have bY:F_ 43=iv x:=(hD.get 2 rfl rfl rfl)
          have bZ:F_ 44=iv y:=(hD.get 3 rfl rfl rfl)
          exact(LE rfl rfl rfl (fun _ _=>by kernel_rfl) (K4 _) (Lm bW (Lm bX (Lm bY (Lm bZ LS)))) (azq p x y f f0 f1 f2 T_f0 T_f1 T_f2 _ (by omega) (by omega) (aP.all hR KM.none) (aQ.all hR KM.none) (aR.all hR KM.none) ) (fun e_ w_ h_=>⟨_,h_.1,rfl,h_.2⟩))
         refine KN ?_ ?_
         ·refine Le.one rfl fun F_ w_ hR hout hD=>?_
          exact(KU K3 rfl ((hout 5 rfl (by decide)).trans af) (aS.all hR id) ⟨rfl,KP.refl _ _⟩)
         refine KN ?_ ?_
         ·refine Le.one rfl fun F_ w_ hR hout hD=>?_
          exact(KQ rfl ((hout 1 rfl (by decide)).trans ab) ⟨rfl,KP.refl _ _⟩)
         refine KN ?_ ?_
         ·refine Le.one rfl fun F_ w_ hR hout hD=>?_
          exact(KQ rfl ((hout 2 rfl (by decide)).trans ap) ⟨rfl,KP.refl _ _⟩)
         refine KN ?_ ?_
         ·refine Le.one rfl fun F_ w_ hR hout hD=>?_
          exact(KQ rfl ((hout 3 rfl (by decide)).trans au) ⟨rfl,KP.refl _ _⟩)
         refine KN ?_ ?_
         ·refine Le.one rfl fun F_ w_ hR hout hD=>?_
          have b7:F_ 46 = .agg #[iv (f.W),iv (f.H),f0,f1,f2]:=(hD.get 0 rfl rfl rfl)
          have b8:F_ 47=iv p:=(hD.get 1 rfl rfl rfl)
          have b9:F_ 48=iv x:=(hD.get 2 rfl rfl rfl)
          have cd:F_ 49=iv y:=(hD.get 3 rfl rfl rfl)
          exact(LE rfl rfl rfl (fun _ _=>by kernel_rfl) (K4 _) (Lm b7 (Lm b8 (Lm b9 (Lm cd LS)))) (aA4 p x y f f0 f1 f2 T_f0 T_f1 T_f2 _ (by omega) (by omega) (aP.all hR KM.none) (aQ.all hR KM.none) (aR.all hR KM.none) ) (fun e_ w_ h_=>⟨_,h_.1,rfl,h_.2⟩))
         refine KN ?_ ?_
         ·refine Le.one rfl fun F_ w_ hR hout hD=>?_
          have ce:F_ 45 = .agg (L8 4 (fun k=>N4 f p x y ((k:Nat):Int))).toArray:=(hD.get 0 rfl rfl rfl)
          have cf:F_ 50 = .agg (L8 4 (fun k=>O0 f p x y ((k:Nat):Int))).toArray:=(hD.get 1 rfl rfl rfl)
          exact(LE rfl rfl rfl (fun _ _=>by kernel_rfl) (K4 _) (Lm ce (Lm cf LS)) (U7 (fun k=>N4 f p x y ((k:Nat):Int)) (fun k=>O0 f p x y ((k:Nat):Int))  _ (fun i=>azW hb p x y _) (fun i=>aA2 hb p x y _)  ) (fun e_ w_ h_=>by obtain⟨v_,he_,k_,hb_⟩:=h_;exact⟨v_,he_,hb_,k_⟩))
         refine KN ?_ ?_
         ·refine Le.one rfl fun F_ w_ hR hout hD=>?_
          exact(KQ rfl ((hout 4 rfl (by decide)).trans av) ⟨rfl,KP.refl _ _⟩)
         refine KN ?_ ?_
         ·refine Le.one rfl fun F_ w_ hR hout hD=>?_
          have cg:(Pd.fns (Uk (fun k=>N4 f p x y ((k:Nat):Int)) (fun k=>O0 f p x y ((k:Nat):Int)))).says (F_ 51) w_:=hD.get 0 rfl rfl rfl
          have ci:F_ 52=iv mode:=(hD.get 1 rfl rfl rfl)
          exact aDf (mode.toNat) rfl rfl cg ci (by omega) (by omega) fun c_ hc_=>⟨hc_,KP.refl _ _⟩
         refine KN ?_ ?_
         ·refine Le.one rfl fun F_ w_ hR hout hD=>?_
          have cj:(Pd.ask2 4 (Uk (fun k=>N4 f p x y ((k:Nat):Int)) (fun k=>O0 f p x y ((k:Nat):Int)) mode.toNat)).says (F_ 53) w_:=hD.get 0 rfl rfl rfl
          exact(LE rfl rfl rfl (fun _ _=>by kernel_rfl) (K4 _) (Lm rfl LS) (ZP (F_ 53) (Uk (fun k=>N4 f p x y ((k:Nat):Int)) (fun k=>O0 f p x y ((k:Nat):Int)) mode.toNat)  _ cj  ) (fun e_ w_ h_=>⟨_,h_.1,congrArg LK (aAi hm),h_.2⟩))
         exact L3
        intro cY cm cZ aU aV aC
        have cn:=aA.all aU id
        obtain⟨co,aW⟩:=t2 aC 55 ae 10 aa
        have cq:cm 54=LK (XY f p x y mode):=(aC 54).trans (aV 13 (by decide))
        clear aV aC
        refine Lp KZ rfl rfl rfl aW cq cn fun c6 cr ct=>?_
        refine KJ (iv 0) rfl rfl (KX rfl rfl rr) (KO ?_)
        have cu:=La (iv 0)
        refine KH (Ld ?_)
        exact L7 co rfl (Mq KZ rfl aW cr) (Lz (v:=iv 0) rfl cu) ⟨(by first|rw[(NR hno).1,(NR hno).2]|rw[(M2 hpl hm).1,(M2 hpl hm).2]|rw[(Nk hpl hm).1,(Nk hpl hm).2]),((aB.tr aU).trans ct (KS.ok (S:=fun _=>False) ac K6))⟩
     ·skip
      refine KI (KJ (.agg #[iv (f.W),iv (f.H),f0,f1,f2]) rfl rfl (KU K3 rfl af ak rr) (LY rfl rfl rfl rfl rfl (fun _ _=>by kernel_rfl) (Lm rfl LS) (M0 f f0 f1 f2 T_f0 T_f1 T_f2 _  ah ai aj ) fun cv aX=>?_))
      have cw:=am.all aX id
      refine KJ (.bool false) rfl rfl (Mc rfl rfl rfl (decide_eq_false ao) rr) (KJ (.bool false) rfl rfl (KQ rfl rfl rr) (KR (iv p) 3 false 15 rfl rfl rfl rfl rfl (KQ rfl ab rr) (KR (.bool false) 3 false 15 rfl rfl rfl rfl rfl (L5 rfl rfl rfl (decide_eq_false aq) rr) (KJ (.bool false) rfl rfl (Lb rfl rfl rfl rr) (KJ (.bool false) rfl rfl (KQ rfl rfl rr) (KR (iv p) 7 false 19 rfl rfl rfl rfl rfl (KQ rfl ab rr) (KR (.bool false) 7 false 19 rfl rfl rfl rfl rfl (Nl rfl rfl rfl (decide_eq_false aw) rr) (KJ (.bool false) rfl rfl (Lb rfl rfl rfl rr) (KJ (.bool false) rfl rfl (KQ rfl rfl rr) (KR (iv x) 11 false 23 rfl rfl rfl rfl rfl (KQ rfl ap rr) (LA (R:=fun v_ w_=>v_ = .bool true/\KP (fun _=>False) cv w_) 11 false 23 rfl rfl rfl rfl rfl (LE rfl rfl rfl (fun _ _=>by kernel_rfl) (K4 _) (Lm rfl LS) (RS x  _   ) (fun e_ w_ h_=>⟨_,h_.1,(congrArg Value.bool (decide_eq_true az)),h_.2⟩)) ?_)))))))))))
      rintro _ cy ⟨rfl,aY⟩
      have cz:=cw.all aY id
      refine KR (.bool false) 11 false 23 rfl rfl rfl rfl rfl (LW rfl rfl rfl rr) (KJ (.bool false) rfl rfl (Lb rfl rfl rfl rr) (KJ (.bool false) rfl rfl (KQ rfl rfl rr) (KR (iv y) 16 false 28 rfl rfl rfl rfl rfl (KQ rfl au rr) (LA (R:=fun v_ w_=>v_ = .bool false/\KP (fun _=>False) cy w_) 16 false 28 rfl rfl rfl rfl rfl (LE rfl rfl rfl (fun _ _=>by kernel_rfl) (K4 _) (Lm rfl LS) (RS y  _   ) (fun e_ w_ h_=>⟨_,h_.1,(congrArg Value.bool (decide_eq_false aL)),h_.2⟩)) ?_))))
      rintro _ c7 ⟨rfl,aZ⟩
      have cA:=cz.all aZ id
      refine KR (.bool true) 16 false 28 rfl rfl rfl rfl rfl (LW rfl rfl rfl rr) (KJ (.bool true) rfl rfl (Lb rfl rfl rfl rr) (KO ?_))
      have cB:=La (.bool true)
      refine KH ?_
      refine Lc (t:=true) cB (fun _=>?_) (fun e=>by cases e)
      refine KK ?_
      have hno:¬ MX f p x y:=by rintro ⟨h1,h2,h3,h4,h5,h6,h7⟩;first|exact absurd ((Mu f).2 h1) (by assumption)|omega
      refine KI (KJ (LK (fun _=>0)) rfl rfl (Mz (cells:=(L8 16 (fun _=>0)).toArray) rfl (by kernel_rfl) rfl rr) (Lp KZ rfl rfl rfl aa rfl cA fun c9 cC cD=>?_))
      refine KJ (iv 70) rfl rfl (KX rfl rfl rr) (KO ?_)
      have cE:=La (iv 70)
      refine KH (Ld (Lq ?_))
      exact L7 ae rfl (Mq KZ rfl aa cC) (Lz (v:=iv 70) rfl cE) ⟨(by first|rw[(NR hno).1,(NR hno).2]|rw[(M2 hpl hm).1,(M2 hpl hm).2]|rw[(Nk hpl hm).1,(Nk hpl hm).2]),((((an.tr aX).tr aY).tr aZ).trans cD (KS.ok (S:=fun _=>False) ac K6))⟩
    ·skip
     refine KI (KJ (.agg #[iv (f.W),iv (f.H),f0,f1,f2]) rfl rfl (KU K3 rfl af ak rr) (LY rfl rfl rfl rfl rfl (fun _ _=>by kernel_rfl) (Lm rfl LS) (M0 f f0 f1 f2 T_f0 T_f1 T_f2 _  ah ai aj ) fun cF a8=>?_))
     have cG:=am.all a8 id
     refine KJ (.bool false) rfl rfl (Mc rfl rfl rfl (decide_eq_false ao) rr) (KJ (.bool false) rfl rfl (KQ rfl rfl rr) (KR (iv p) 3 false 15 rfl rfl rfl rfl rfl (KQ rfl ab rr) (KR (.bool false) 3 false 15 rfl rfl rfl rfl rfl (L5 rfl rfl rfl (decide_eq_false aq) rr) (KJ (.bool false) rfl rfl (Lb rfl rfl rfl rr) (KJ (.bool false) rfl rfl (KQ rfl rfl rr) (KR (iv p) 7 false 19 rfl rfl rfl rfl rfl (KQ rfl ab rr) (KR (.bool false) 7 false 19 rfl rfl rfl rfl rfl (Nl rfl rfl rfl (decide_eq_false aw) rr) (KJ (.bool false) rfl rfl (Lb rfl rfl rfl rr) (KJ (.bool false) rfl rfl (KQ rfl rfl rr) (KR (iv x) 11 false 23 rfl rfl rfl rfl rfl (KQ rfl ap rr) (LA (R:=fun v_ w_=>v_ = .bool false/\KP (fun _=>False) cF w_) 11 false 23 rfl rfl rfl rfl rfl (LE rfl rfl rfl (fun _ _=>by kernel_rfl) (K4 _) (Lm rfl LS) (RS x  _   ) (fun e_ w_ h_=>⟨_,h_.1,(congrArg Value.bool (decide_eq_false az)),h_.2⟩)) ?_)))))))))))
     rintro _ da ⟨rfl,a9⟩
     have cH:=cG.all a9 id
     refine KR (.bool true) 11 false 23 rfl rfl rfl rfl rfl (LW rfl rfl rfl rr) (KJ (.bool true) rfl rfl (Lb rfl rfl rfl rr) (KJ (.bool true) rfl rfl (KQ rfl rfl rr) (KL 16 false 28 rfl rfl rfl (Or.inl rfl) rfl (KL 16 false 28 rfl rfl rfl (Or.inl rfl) rfl (KL 16 false 28 rfl rfl rfl (Or.inl rfl) rfl (KJ (.bool true) rfl rfl (Lg rfl rfl rfl rr) (KO ?_)))))))
     have cI:=La (.bool true)
     refine KH ?_
     refine Lc (t:=true) cI (fun _=>?_) (fun e=>by cases e)
     refine KK ?_
     have hno:¬ MX f p x y:=by rintro ⟨h1,h2,h3,h4,h5,h6,h7⟩;first|exact absurd ((Mu f).2 h1) (by assumption)|omega
     refine KI (KJ (LK (fun _=>0)) rfl rfl (Mz (cells:=(L8 16 (fun _=>0)).toArray) rfl (by kernel_rfl) rfl rr) (Lp KZ rfl rfl rfl aa rfl cH fun db cJ cK=>?_))
     refine KJ (iv 70) rfl rfl (KX rfl rfl rr) (KO ?_)
     have cL:=La (iv 70)
     refine KH (Ld (Lq ?_))
     exact L7 ae rfl (Mq KZ rfl aa cJ) (Lz (v:=iv 70) rfl cL) ⟨(by first|rw[(NR hno).1,(NR hno).2]|rw[(M2 hpl hm).1,(M2 hpl hm).2]|rw[(Nk hpl hm).1,(Nk hpl hm).2]),(((an.tr a8).tr a9).trans cK (KS.ok (S:=fun _=>False) ac K6))⟩
end Go.Proofs.YtknjpdcpmpfklaaGreatDoor
set_option maxRecDepth 100000
namespace Go.Proofs.YtknjpdcpmpfklaaGreatDoor
open Go.RowKit
theorem LP:QA Tryz.prog 67 2:=⟨_,Tryz.underlying67,rfl,by kernel_rfl⟩
end Go.Proofs.YtknjpdcpmpfklaaGreatDoor
set_option maxRecDepth 100000
namespace Go.Proofs.YtknjpdcpmpfklaaGreatDoor
def c34(n:Int):Int:=max (-34) (min n 34)
def nx(a:Int)(k:Nat):Int:=a-2+((k%5:Nat):Int)
def ny(c:Int)(k:Nat):Int:=c-2+((k/5:Nat):Int)
end Go.Proofs.YtknjpdcpmpfklaaGreatDoor
set_option maxRecDepth 100000
namespace Go.Proofs.YtknjpdcpmpfklaaGreatDoor
open Go.RowKit
inductive Pc where
  | eq (v:Value)
  | turn (j:Nat)
  | blk (t:TypeId) (zs:List Value) (k:Nat) (us:List Value)
  | told (p:Nat) (t:TypeId) (zs us:List Value)
def Pc.none:Pc:=.eq undef
def Sm:Pc->Bool
 | .blk _ _ _ _=>true
 | _=>false
def az2(n0:Nat)(p:Pc)(L:Nat->Bool)(v:Value)(w:World):Prop:=match p with
 | .eq x=>v=x
 | .turn _=>True
 | .told _ _ _ _=>True
 | .blk t zs k us=>∃ q,v = .pointer (some ⟨q,0,none⟩)/\n0<=q/\My w q t (if L k=true then us else zs)
def Q9(p:Nat):List Pc->Prop
 | []=>True
 | .told q _ _ _::r=>p≠q/\Q9 p r
 | .eq _::r=>Q9 p r
 | .turn _::r=>Q9 p r
 | .blk _ _ _ _::r=>Q9 p r
def Ta(S:Nat->Prop)(w0:World):List Pc->Prop
 | []=>True
 | .told p t zs _::r=>(S p/\My w0 p t zs/\Q9 p r)/\Ta S w0 r
 | .eq _::r=>Ta S w0 r
 | .turn _::r=>Ta S w0 r
 | .blk _ _ _ _::r=>Ta S w0 r
theorem Q9.at{p:Nat}:∀ {Gs:List Pc},Q9 p Gs->∀ i q t zs us,Gs.getD i Pc.none = .told q t zs us->p≠q:=by
 intro Gs
 induction Gs with
 | nil=>intro _ i q t zs us h;cases h
 | cons g r ih =>
  intro h i q t zs us e
  cases i with
  | zero =>
   have e:g = .told q t zs us:=by simpa using e
   subst e;exact h.1
  | succ i =>
   have e:r.getD i Pc.none = .told q t zs us:=by simpa using e
   cases g <;> first|exact ih h.2 i q t zs us e|exact ih h i q t zs us e
theorem Ta.at{S:Nat->Prop}{w0:World}:∀ {Gs:List Pc},Ta S w0 Gs->∀ i p t zs us,Gs.getD i Pc.none = .told p t zs us->S p/\My w0 p t zs:=by
 intro Gs
 induction Gs with
 | nil=>intro _ i q t zs us h;cases h
 | cons g r ih =>
  intro h i q t zs us e
  cases i with
  | zero =>
   have e:g = .told q t zs us:=by simpa using e
   subst e;exact⟨h.1.1,h.1.2.1⟩
  | succ i =>
   have e:r.getD i Pc.none = .told q t zs us:=by simpa using e
   cases g <;> first|exact ih h.2 i q t zs us e|exact ih h i q t zs us e
theorem Ta.ne{S:Nat->Prop}{w0:World}:∀ {Gs:List Pc},Ta S w0 Gs->∀ i j p t zs us p' t' zs' us',i≠j->Gs.getD i Pc.none = .told p t zs us->Gs.getD j Pc.none = .told p' t' zs' us'->p≠p':=by
 intro Gs
 induction Gs with
 | nil=>intro _ i j p t zs us p' t' zs' us' _ h;cases h
 | cons g r ih =>
  intro h i j p t zs us p' t' zs' us' hij e1 e2
  cases i with
  | zero =>
   have e1:g = .told p t zs us:=by simpa using e1
   subst e1
   cases j with
   | zero=>exact absurd rfl hij
   | succ j=>exact h.1.2.2.at j p' t' zs' us' (by simpa using e2)
  | succ i =>
   cases j with
   | zero =>
    have e2:g = .told p' t' zs' us':=by simpa using e2
    subst e2
    exact fun e=>h.1.2.2.at i p t zs us (by simpa using e1) e.symm
   | succ j =>
    have hr:Ta S w0 r:=by cases g <;> first|exact h.2|exact h
    exact ih hr i j p t zs us p' t' zs' us' (fun e=>hij (by rw[e])) (by simpa using e1) (by simpa using e2)
structure JC (S:Nat->Prop) (w0:World) (Gs:List Pc) (L:Nat->Bool) (v:Nat->Value) (w:World):Prop where
  kept:KP S w0 w
  olds:∀ i p t zs us,Gs.getD i Pc.none = .told p t zs us->My w p t (if L i=true then us else zs)
  holds:∀ i,L i=true->az2 w0.heap.size (Gs.getD i Pc.none) L (v i) w
  apart:∀ i j,i≠j->L i=true->L j=true->Sm (Gs.getD i Pc.none)=true->Sm (Gs.getD j Pc.none)=true->v i≠v j
  clos:∀ k j,L k=true->Gs.getD k Pc.none = .turn j->L j=true
def aAb(os:List Oper)(D:List (Option Tmp))(Gs:List Pc)(i:Nat):Pc->Bool
 | .eq _=>true
 | .told _ _ _ _=>true
 | .turn j=>(match Gs.getD j Pc.none with | .blk _ _ k _=>k==i|_=>false) && (match D.getD j none with|some _=>true|none=>false) && (match os[i]? with|some o=>S7 o j|none=>false)
 | .blk _ _ k _=>match Gs.getD k Pc.none with | .turn j=>j==i|_=>false
def wfC(os:List Oper)(D:List (Option Tmp))(Gs:List Pc):Bool:=(List.range Gs.length).all fun i=>aAb os D Gs i (Gs.getD i Pc.none)
theorem YD{os:List Oper}{D:List (Option Tmp)}{Gs:List Pc}(h:wfC os D Gs=true)(i:Nat):aAb os D Gs i (Gs.getD i Pc.none)=true:=by
 by_cases hi:i<Gs.length
 ·exact List.all_eq_true.1 h i (List.mem_range.2 hi)
 ·have:Gs.getD i Pc.none=Pc.none:=by simp[List.getD,List.getElem?_eq_none (show Gs.length<=i by omega)]
  rw[this];rfl
theorem Vp{os:List Oper}{D:List (Option Tmp)}{Gs:List Pc}(h:wfC os D Gs=true){i k:Nat}{t:TypeId}{zs us:List Value}(e:Gs.getD i Pc.none = .blk t zs k us):Gs.getD k Pc.none = .turn i:=by
 have:=YD h i
 rw[e] at this
 simp only[aAb] at this
 split at this
 ·rename_i j hj;rw[hj];have:j=i:=by simpa using this
  rw[this]
 ·cases this
def ZK(n0:Nat)(Gs:List Pc)(i:Nat):Nat->Value->World->Prop:=fun j v w=>match Gs.getD j Pc.none with
 | .eq x=>v=x
 | .turn _=>True
 | .told _ _ _ _=>True
 | .blk t zs k _=>k=i->∃ q,v = .pointer (some ⟨q,0,none⟩)/\n0<=q/\My w q t zs
def Xq(Gs:List Pc)(D:List (Option Tmp))(i:Nat)(ρ:Operand->Value)(w:World)(v:Value)(w':World):Prop:=match Gs.getD i Pc.none with
 | .eq x=>v=x/\KP (fun _=>False) w w'
 | .blk t zs _ _=>∃ q,v = .pointer (some ⟨q,0,none⟩)/\w.heap.size<=q/\My w' q t zs/\KP (fun _=>False) w w'
 | .told p t _ us=>My w' p t us/\KP (Lh p) w w'
 | .turn j=>∃ d q,D.getD j none=some d/\ρ (.tmp d) = .pointer (some ⟨q,0,none⟩)/\(∀ t zs us,Gs.getD j Pc.none = .blk t zs i us->My w' q t us)/\KP (Lh q) w w'
section
variable {P:Program} {N:Nat} {F:Nat->Value} {w:World} {Q:Exit->(Nat->Value)->World->Prop}
def Np(S:Nat->Prop)(N:Nat)(P:Program)(D:List (Option Tmp))(Gs:List Pc)(F0:Nat->Value)(w0:World)(i:Nat)(o:Oper):Prop :=
 ∀ (F:Nat->Value) (w:World),KP S w0 w->(∀ t,Nat.blt t N=true->some t∉D->F t=F0 t)->OG D (ZK w0.heap.size Gs i) F w o.after.toList->(∀ p t zs us,Gs.getD i Pc.none = .told p t zs us->My w p t zs) →
  match o.guard with
  | none=>Lj P (ev F) o w (Xq Gs D i (ev F) w)
  | some (j,want)=>∃ d,D.getD j none=some d ∧
   ((F d = .bool want/\Lj P (ev F) o w (Xq Gs D i (ev F) w))\/((F d = .bool (!want)\/F d=undef)/\Gs.getD i Pc.none = .eq undef))
def Ro(S:Nat->Prop)(N:Nat)(P:Program)(D:List (Option Tmp))(Gs:List Pc)(F0:Nat->Value)(w0:World):Nat->List Oper->Prop
 | _,[]=>True
 | i,o::r=>Np S N P D Gs F0 w0 i o/\Ro S N P D Gs F0 w0 (i+1) r
theorem X1{S:Nat->Prop}{D:List (Option Tmp)}{Gs:List Pc}{F0:Nat->Value}{w0:World}{i:Nat}:Ro S N P D Gs F0 w0 i []:=trivial
theorem Mo{S:Nat->Prop}{D:List (Option Tmp)}{Gs:List Pc}{F0:Nat->Value}{w0:World}{i:Nat}{o:Oper}{r:List Oper}(h:Np S N P D Gs F0 w0 i o)(k:Ro S N P D Gs F0 w0 (i+1) r):Ro S N P D Gs F0 w0 i (o::r):=⟨h,k⟩
theorem Np.one{S:Nat->Prop}{D:List (Option Tmp)}{Gs:List Pc}{F0:Nat->Value}{w0:World}{i:Nat}{o:Oper}(hg:o.guard=none)
  (h:∀ (F:Nat->Value) (w:World),KP S w0 w->(∀ t,Nat.blt t N=true->some t∉D->F t=F0 t)->OG D (ZK w0.heap.size Gs i) F w o.after.toList->Lj P (ev F) o w (Xq Gs D i (ev F) w)):Np S N P D Gs F0 w0 i o:=by
 intro F w h1 h2 h3 _
 rw[hg]
 exact h F w h1 h2 h3
theorem QZ{L:Nat->Bool}{i:Nat}:Rs L i i=true:=if_pos rfl
theorem Nn{L:Nat->Bool}{i j:Nat}(h:j≠i):Rs L i j=L j:=if_neg h
theorem RZ{v:Nat->Value}{i:Nat}{x:Value}:UE v i x i=x:=if_pos rfl
theorem QQ{v:Nat->Value}{i j:Nat}{x:Value}(h:j≠i):UE v i x j=v j:=if_neg h
theorem Tk{α:Type}{l:List α}{d x:α}{i:Nat}(h:l.getD i d=x)(hn:x≠d):l[i]? = some x:=by
 unfold List.getD at h
 cases hq:l[i]? with
 | none=>rw[hq] at h;exact absurd h.symm hn
 | some y=>rw[hq] at h;simpa using h
theorem JC.more{S:Nat->Prop}{os:List Oper}{D:List (Option Tmp)}{Gs:List Pc}{w0 w w':World}{L:Nat->Bool}{v:Nat->Value}{i:Nat}{x:Value}(hwf:wfC os D Gs=true)(h:JC S w0 Gs L v w)(hi:L i=false)(k:KP (fun _=>False) w w')
  (hnt:∀ j,Gs.getD i Pc.none ≠ .turn j) (hnd:∀ p t zs us,Gs.getD i Pc.none ≠ .told p t zs us) (hx:az2 w0.heap.size (Gs.getD i Pc.none) (Rs L i) x w') (hb:Sm (Gs.getD i Pc.none)=true->∃ q,x = .pointer (some ⟨q,0,none⟩)/\w.heap.size<=q):JC S w0 Gs (Rs L i) (UE v i x) w':=by
 have hkeep:∀ j,L j=true->az2 w0.heap.size (Gs.getD j Pc.none) (Rs L i) (v j) w':=by
  intro j hj
  have:=h.holds j hj
  revert this
  cases e:Gs.getD j Pc.none with
  | eq y=>exact id
  | turn y=>exact id
  | told y1 y2 y3 y4=>exact id
  | blk t zs kk us =>
   rintro ⟨q,e1,e2,e3⟩
   have hki:kk≠i:=fun e'=>hnt j (by rw[← e'];exact Vp hwf e)
   refine⟨q,e1,e2,?_⟩
   rw[Nn hki]
   exact e3.all k id
 refine⟨h.kept.trans k (fun _ _ x=>x.elim),fun j p t zs us hj=>?_,fun j hj=>?_,fun a b hab ha hb' hA hB=>?_,fun a b ha hab=>?_⟩
 ·have hji:j≠i:=fun e=>hnd p t zs us (by rw[← e];exact hj)
  rw[Nn hji]
  exact(h.olds j p t zs us hj).all k id
 ·by_cases hji:j=i
  ·subst hji;rw[RZ];exact hx
  ·rw[Nn hji] at hj;rw[QQ hji];exact hkeep j hj
 ·have hnew:∀ c,c≠i->L c=true->Sm (Gs.getD c Pc.none)=true->Sm (Gs.getD i Pc.none)=true->v c≠x:=by
   intro c _ hc hC hI e
   obtain⟨q,e1,e2⟩:=hb hI
   have:=h.holds c hc
   revert this hC
   cases e':Gs.getD c Pc.none with
   | eq y=>intro hC;cases hC
   | turn y=>intro hC;cases hC
   | told y1 y2 y3 y4=>intro hC;cases hC
   | blk t zs kk us =>
    rintro - ⟨q',f1,f2,f3⟩
    rw[f1,e1] at e
    cases e
    have:=f3.lt
    omega
  by_cases hai:a=i
  ·subst hai
   have hba:b≠a:=fun e=>hab e.symm
   rw[Nn hba] at hb'
   rw[RZ,QQ hba]
   exact fun e=>hnew b hba hb' hB hA e.symm
  ·rw[Nn hai] at ha
   rw[QQ hai]
   by_cases hbi:b=i
   ·subst hbi;rw[RZ];exact hnew a hai ha hA hB
   ·rw[Nn hbi] at hb';rw[QQ hbi];exact h.apart a b hab ha hb' hA hB
 ·by_cases hai:a=i
  ·subst hai;exact absurd hab (hnt b)
  ·rw[Nn hai] at ha
   have:=h.clos a b ha hab
   by_cases hbi:b=i
   ·subst hbi;exact QZ
   ·rw[Nn hbi];exact this
theorem JC.turned{S:Nat->Prop}{os:List Oper}{D:List (Option Tmp)}{Gs:List Pc}{w0 w w':World}{L:Nat->Bool}{v:Nat->Value}{i j q:Nat}{x:Value}(hwf:wfC os D Gs=true)(hO:Ta S w0 Gs)(h:JC S w0 Gs L v w)(hi:L i=false)(hj:L j=true)(he:Gs.getD i Pc.none = .turn j)
  (hv:v j = .pointer (some ⟨q,0,none⟩)) (hq:∀ t zs us,Gs.getD j Pc.none = .blk t zs i us->My w' q t us) (k:KP (Lh q) w w'):JC S w0 Gs (Rs L i) (UE v i x) w':=by
 have hw:=YD hwf i
 rw[he] at hw
 simp only[aAb,Bool.and_eq_true] at hw
 have hn0:w0.heap.size<=q:=by
  have:=h.holds j hj
  revert this
  obtain⟨⟨h1,_⟩,_⟩:=hw
  cases e:Gs.getD j Pc.none with
  | eq y=>rw[e] at h1;cases h1
  | turn y=>rw[e] at h1;cases h1
  | told y1 y2 y3 y4=>rw[e] at h1;cases h1
  | blk t zs kk us =>
   rintro ⟨q',e1,e2,_⟩
   rw[hv] at e1;cases e1;exact e2
 have hjB:Sm (Gs.getD j Pc.none)=true:=by
  obtain⟨⟨h1,_⟩,_⟩:=hw
  cases e:Gs.getD j Pc.none with
  | eq y=>rw[e] at h1;cases h1
  | turn y=>rw[e] at h1;cases h1
  | told y1 y2 y3 y4=>rw[e] at h1;cases h1
  | blk t zs kk us=>rfl
 refine⟨h.kept.trans k (fun b hb e=>by cases e;omega),fun a p t zs us ha=>?_,fun a ha=>?_,fun a b hab ha hb hA hB=>?_,fun a b ha hab=>?_⟩
 ·have hai:a≠i:=fun e=>by rw[e,he] at ha;cases ha
  rw[Nn hai]
  exact(h.olds a p t zs us ha).all k (fun e=>by have:=(hO.at a p t zs us ha).2.lt;rw[show p=q from e] at this;omega)
 ·by_cases hai:a=i
  ·subst hai;rw[RZ,he];exact trivial
  ·rw[Nn hai] at ha;rw[QQ hai]
   have:=h.holds a ha
   revert this
   cases e:Gs.getD a Pc.none with
   | eq y=>exact id
   | turn y=>exact id
   | told y1 y2 y3 y4=>exact id
   | blk t zs kk us =>
    rintro ⟨q',e1,e2,e3⟩
    have hk:=Vp hwf e
    by_cases haj:a=j
    ·subst haj
     have hki:kk=i:=by
      obtain⟨⟨h1,_⟩,_⟩:=hw
      rw[e] at h1;simpa using h1
     subst hki
     rw[hv] at e1;cases e1
     refine⟨q,hv,hn0,?_⟩
     rw[if_pos QZ]
     exact hq t zs us e
    ·have hki:kk≠i:=fun e'=>by rw[e',he] at hk;cases hk;exact haj rfl
     refine⟨q',e1,e2,?_⟩
     rw[Nn hki]
     refine e3.all k (fun e'=>?_)
     have:=h.apart a j haj ha hj (by rw[e];rfl) hjB
     rw[e1,hv] at this
     exact this (by rw[show q'=q from e'])
 ·have hni:∀ c,Sm (Gs.getD c Pc.none)=true->c≠i:=fun c hc e=>by rw[e,he] at hc;cases hc
  rw[QQ (hni a hA),QQ (hni b hB)]
  rw[Nn (hni a hA)] at ha
  rw[Nn (hni b hB)] at hb
  exact h.apart a b hab ha hb hA hB
 ·by_cases hai:a=i
  ·subst hai
   rw[he] at hab;cases hab
   by_cases hji:j=a
   ·subst hji;exact QZ
   ·rw[Nn hji];exact hj
  ·rw[Nn hai] at ha
   have:=h.clos a b ha hab
   by_cases hbi:b=i
   ·subst hbi;exact QZ
   ·rw[Nn hbi];exact this
theorem JC.oldTurned{S:Nat->Prop}{os:List Oper}{D:List (Option Tmp)}{Gs:List Pc}{w0 w w':World}{L:Nat->Bool}{v:Nat->Value}{i p:Nat}{t:TypeId}{zs us:List Value}{x:Value}(hwf:wfC os D Gs=true)(hO:Ta S w0 Gs)(h:JC S w0 Gs L v w)(he:Gs.getD i Pc.none = .told p t zs us)
  (hq:My w' p t us) (k:KP (Lh p) w w'):JC S w0 Gs (Rs L i) (UE v i x) w':=by
 have hp:=hO.at i p t zs us he
 have hni:∀ c,Sm (Gs.getD c Pc.none)=true->c≠i:=fun c hc e=>by rw[e,he] at hc;cases hc
 refine⟨h.kept.trans k (fun b hb e=>by cases e;exact hp.1),fun a p' t' zs' us' ha=>?_,fun a ha=>?_,fun a b hab ha hb hA hB=>?_,fun a b ha hab=>?_⟩
 ·by_cases hai:a=i
  ·subst hai
   rw[he] at ha;cases ha
   rw[if_pos QZ];exact hq
  ·rw[Nn hai]
   exact(h.olds a p' t' zs' us' ha).all k (fun e=>hO.ne a i p' t' zs' us' p t zs us hai ha he e)
 ·by_cases hai:a=i
  ·subst hai;rw[RZ,he];exact trivial
  ·rw[Nn hai] at ha;rw[QQ hai]
   have:=h.holds a ha
   revert this
   cases e:Gs.getD a Pc.none with
   | eq y=>exact id
   | turn y=>exact id
   | told y1 y2 y3 y4=>exact id
   | blk t zs kk us =>
    rintro ⟨q',e1,e2,e3⟩
    have hk:=Vp hwf e
    have hki:kk≠i:=fun e'=>by rw[e',he] at hk;cases hk
    refine⟨q',e1,e2,?_⟩
    rw[Nn hki]
    exact e3.all k (fun e'=>by have:=hp.2.lt;rw[show q'=p from e'] at e2;omega)
 ·rw[QQ (hni a hA),QQ (hni b hB)]
  rw[Nn (hni a hA)] at ha
  rw[Nn (hni b hB)] at hb
  exact h.apart a b hab ha hb hA hB
 ·have hai:a≠i:=fun e=>by rw[e,he] at hab;cases hab
  rw[Nn hai] at ha
  have:=h.clos a b ha hab
  by_cases hbi:b=i
  ·subst hbi;exact QZ
  ·rw[Nn hbi];exact this
theorem Np.step{S:Nat->Prop}{os:List Oper}{D:List (Option Tmp)}{Gs:List Pc}{w0:World}{i:Nat}{o:Oper}{a0:Act}(hwf:wfC os D Gs=true)(hO:Ta S w0 Gs)(ho:os[i]? = some o)(ha:Fr N F a0)(h:Np S N P D Gs F w0 i o):XJ os P D (JC S w0 Gs) a0 i o:=by
 intro L v a w hJ hi hdone hout hhere _
 have hdeps:OG D (ZK w0.heap.size Gs i) (fun t=>a.tmps.getD t undef) w o.after.toList:=by
  refine RE.toF (RE.mk fun e he hb d hd=>?_)
  have hl:=hdone e he hb
  have hDe:=Tk hd (by simp)
  have hv:=hhere e.on d hl hDe
  rw[hv]
  have:=hJ.holds e.on hl
  unfold ZK
  revert this
  cases e':Gs.getD e.on Pc.none with
  | eq y=>exact id
  | turn y=>exact id
  | told y1 y2 y3 y4=>exact id
  | blk t zs kk us =>
   rintro ⟨q,e1,e2,e3⟩ hk
   refine⟨q,e1,e2,?_⟩
   subst hk
   rw[hi,if_neg (by simp)] at e3
   exact e3
 have h1:=h (fun t=>a.tmps.getD t undef) w hJ.kept (fun t hb ht=>by rw[← ha.at' t hb];exact hout t ht) hdeps (fun p t zs us e=>by have:=hJ.olds i p t zs us e;rw[hi,if_neg (by simp)] at this;exact this)
 rw[← Sf a] at h1
 have hleft:∀ x w',Xq Gs D i a.eval w x w'->JC S w0 Gs (Rs L i) (UE v i x) w':=by
  intro x w' hx
  unfold Xq at hx
  cases e:Gs.getD i Pc.none with
  | eq y =>
   rw[e] at hx
   exact hJ.more hwf hi hx.2 (fun j hj=>by rw[e] at hj;cases hj) (fun _ _ _ _ hj=>by rw[e] at hj;cases hj) (by rw[e];exact hx.1) (by rw[e];intro hb;cases hb)
  | blk t zs kk us =>
   rw[e] at hx
   obtain⟨q,e1,e2,e3,e4⟩:=hx
   have hk:=Vp hwf e
   have hki:kk≠i:=fun e'=>by rw[e',e] at hk;cases hk
   have hLk:L kk=false:=by
    cases hq:L kk with
    | false=>rfl
    | true=>have:=hJ.clos kk i hq hk;rw[hi] at this;cases this
   refine hJ.more hwf hi e4 (fun j hj=>by rw[e] at hj;cases hj) (fun _ _ _ _ hj=>by rw[e] at hj;cases hj) ?_ (fun _=>⟨q,e1,e2⟩)
   rw[e]
   refine⟨q,e1,Nat.le_trans hJ.kept.size e2,?_⟩
   rw[Nn hki,hLk,if_neg (by simp)]
   exact e3
  | told p t zs us =>
   rw[e] at hx
   exact hJ.oldTurned hwf hO e hx.1 hx.2
  | turn j =>
   rw[e] at hx
   obtain⟨d,q,hd,e1,e2,e3⟩:=hx
   have hw:=YD hwf i
   rw[e] at hw
   simp only[aAb,Bool.and_eq_true,ho] at hw
   obtain⟨ed,hed,hb,hon⟩:=Sa.1 hw.2
   have hLj:=hdone ed hed hb
   rw[hon] at hLj
   have hv:=hhere j d hLj (Tk hd (by simp))
   exact hJ.turned hwf hO hi hLj e (by rw[← hv];exact e1) e2 e3
 unfold PW
 cases hg:o.guard with
 | none=>rw[hg] at h1;exact⟨fun _=>h1.mono' hleft,fun e=>by cases e⟩
 | some g =>
  obtain⟨j,want⟩:=g
  rw[hg] at h1
  obtain⟨d,hd,h1⟩:=h1
  simp only[hd]
  have hev:a.eval (.tmp d)=a.tmps.getD d undef:=rfl
  rcases h1 with ⟨hv,hy⟩ | ⟨hv,hs⟩
  ·rw[hev,hv];exact⟨fun _=>hy.mono' hleft,fun e=>by simp at e⟩
  ·refine⟨fun e=>?_,fun _=>hJ.more hwf hi (KP.refl _ _) (fun j hj=>by rw[hs] at hj;cases hj) (fun _ _ _ _ hj=>by rw[hs] at hj;cases hj) (by rw[hs];rfl) (by rw[hs];intro hb;cases hb)⟩
   rcases hv with hv|hv
   ·rw[hev,hv] at e;cases want <;> simp at e
   ·rw[hev,hv] at e;simp[undef] at e
theorem Ro.steps{S:Nat->Prop}{all:List Oper}{D:List (Option Tmp)}{Gs:List Pc}{w0:World}{a0:Act}(hwf:wfC all D Gs=true)(hO:Ta S w0 Gs)(ha:Fr N F a0):∀ {os:List Oper} {i:Nat},(∀ k o,os[k]? = some o->all[i+k]? = some o)->Ro S N P D Gs F w0 i os->QT all P D (JC S w0 Gs) a0 i os:=by
 intro os
 induction os with
 | nil=>intro i _ _;exact trivial
 | cons o r ih =>
  intro i hat h
  exact⟨h.1.step hwf hO (hat 0 o rfl) ha,ih (fun k o' hk=>by have:=hat (k+1) o' hk;rwa [show i+(k+1)=i+1+k by omega] at this) h.2⟩
def aDe(n0:Nat)(Gs:List Pc)(i:Nat)(v:Value)(w:World):Prop:=match Gs.getD i Pc.none with
 | .eq x=>v=x
 | .turn _=>True
 | .told p t _ us=>My w p t us
 | .blk t _ _ us=>∃ q,v = .pointer (some ⟨q,0,none⟩)/\n0<=q/\My w q t us
theorem azj{S:Nat->Prop}{id:Nat}{ops:Array Oper}(D:List (Option Tmp))(Gs:List Pc)(hm:P.follows .mixedOrders=true)(hpl:plain N 0 D ops.toList=true)(hwf:wfC ops.toList D Gs=true)(hsz:Gs.length=ops.size)(hO:Ta S w Gs)(hsteps:Ro S N P D Gs F w 0 ops.toList)
  (hend:∀ (v:Nat->Value) (F':Nat->Value) (w':World),KP S w w'->(∀ i,i<ops.size->aDe w.heap.size Gs i (v i) w')->(∀ i j,i≠j->i<ops.size->j<ops.size->Sm (Gs.getD i Pc.none)=true->Sm (Gs.getD j Pc.none)=true->v i≠v j)->(∀ t,F' t=Q6 v 0 D F t)->Q .normal F' w'):wq none P N (.region id ops true) Q F w:=by
 intro a ha
 refine wpIn_wide.2 ?_
 refine Sr D (JC S w Gs) hm (by rw[ha.size];exact hpl) ⟨(KP.refl _ w).drew,fun i p t zs us e=>(by rw[if_neg (by simp)];exact(hO.at i p t zs us e).2.all ((KP.refl (fun _=>False) w).drew) (fun z=>z)),fun _ e=>(by cases e),fun _ _ _ e=>(by cases e),fun _ _ e=>(by cases e)⟩ (hsteps.steps hwf hO ha (fun k o hk=>by rw[Nat.zero_add];exact hk)) fun L v w' hJ hL=>?_
 refine⟨Q6 v 0 D F,Pj v D 0 F a ha (OO hpl),hend v _ w' hJ.kept (fun i hi=>?_) (fun i j hij hi hj hI hJ'=>hJ.apart i j hij (hL i hi) (hL j hj) hI hJ') fun _=>rfl⟩
 have:=hJ.holds i (hL i hi)
 unfold aDe
 revert this
 cases e:Gs.getD i Pc.none with
 | eq y=>exact fun z=>z
 | turn y=>exact fun z=>z
 | told p t zs us =>
  intro _
  have:=hJ.olds i p t zs us e
  rw[if_pos (hL i hi)] at this
  exact this
 | blk t zs kk us =>
  rintro ⟨q,e1,e2,e3⟩
  have hk:=Vp hwf e
  have hkk:kk<ops.size:=by
   rw[← hsz]
   rcases Nat.lt_or_ge kk Gs.length with h'|h'
   ·exact h'
   ·have:Gs.getD kk Pc.none=Pc.none:=by simp[List.getD,List.getElem?_eq_none h']
    rw[this] at hk;cases hk
  rw[if_pos (hL kk hkk)] at e3
  exact⟨q,e1,e2,e3⟩
end
end Go.Proofs.YtknjpdcpmpfklaaGreatDoor
