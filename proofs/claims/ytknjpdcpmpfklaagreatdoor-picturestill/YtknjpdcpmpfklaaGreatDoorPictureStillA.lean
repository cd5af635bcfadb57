/- What PictureStill reaches of my texts, part 1. -/
import Derived.WalkKit
import Derived.WalkSpells
import Derived.WalkLawsBesides
import Derived.BigQuiet
import Derived.BigRegion
import Derived.Deep.QuietTactic
import Derived.Lib.Hide
import Derived.Orders
import Derived.Deep.LoopGhost
import Derived.TacticsIn
import Derived.RangeFuncCalls
import Derived.IntWalk
import Derived.Test.YtknjpdcpmpfklaaGreatDoorChecked
import Derived.Deep.WholeRow
import Derived.Deep.MidRow
import Derived.Laws.Tables
import Derived.ChangeKeysEq
import Derived.ProofKit
import Derived.OpenShut
import Derived.LaidMore
import Derived.Stop.Joined
import Derived.Laws.OwnMore
import Derived.Shelf.Strconv.Itoa0
import Derived.Lib.ItoaNum
import Derived.Test.YtknjpdcpmpfklaaGreatDoorProg
import Derived.Deep.OwnRows
import Derived.Laws.CopyOwn
import Derived.Deep.RegionWith
import Derived.Defers
import Derived.Recover
import Derived.Conc.MuLone
import Derived.Scope
import Derived.RangeFuncLeaves
import Derived.RangeFuncRecord
import Derived.RangeFuncNested
import Derived.LoopNIn
import Derived.Laws.MakeOwn
import Derived.Laws.Cover1
import Derived.Lib.MakeNoZero
import Derived.Laws.Externs
import Derived.Great.BuildSlice
import Derived.MapKept
import Derived.Deep.Strs
import Derived.Laws.BitsAllLaws
import Derived.Lib.SliceRun
import Derived.OrdersIn
import Derived.SevenTiedAt
import Derived.ChangeOld
import Derived.Below
import Derived.Test.YtknjpdcpmpfklaaGreatDoorRows
set_option maxRecDepth 100000
set_option maxHeartbeats 4000000
set_option maxRecDepth 100000
namespace Go.Proofs.YtknjpdcpmpfklaaGreatDoor
open Go.RowKit
structure KR (S:Nat->Prop) (w w':World):Prop where
  os:w'.os=w.os
  tape:w'.tape=w.tape
  output:w'.output=w.output
  size:w.heap.size<=w'.heap.size
  block:∀ k,k<w.heap.size->¬ S k->w'.heap[k]? = w.heap[k]?
theorem KR.refl(S:Nat->Prop)(w:World):KR S w w:=⟨rfl,rfl,rfl,Nat.le_refl _,fun _ _ _=>rfl⟩
theorem KR.trans{S S':Nat->Prop}{a b c:World}(h:KR S a b)(k:KR S' b c)(hs:∀ i,i<a.heap.size->S' i->S i):KR S a c :=
  ⟨k.os.trans h.os,k.tape.trans h.tape,k.output.trans h.output,Nat.le_trans h.size k.size,
   fun i hi hn=>(k.block i (Nat.lt_of_lt_of_le hi h.size) (fun x=>hn (hs i hi x))).trans (h.block i hi hn)⟩
theorem KR.mono{S S':Nat->Prop}{a b:World}(h:KR S a b)(hs:∀ i,i<a.heap.size->S i->S' i):KR S' a b :=
 ⟨h.os,h.tape,h.output,h.size,fun i hi hn=>h.block i hi (fun x=>hn (hs i hi x))⟩
theorem KR.drew{S:Nat->Prop}{a w:World}(h:KR S a w):KR S a w.drew:=⟨h.os,h.tape,h.output,h.size,h.block⟩
theorem aAz(w:World)(n:Nat):(w.drewN n).os=w.os/\(w.drewN n).tape=w.tape/\(w.drewN n).output=w.output/\(w.drewN n).heap=w.heap:=⟨rfl,rfl,rfl,rfl⟩
theorem KR.drewN{S:Nat->Prop}{a w:World}(h:KR S a w)(n:Nat):KR S a (w.drewN n):=by
 obtain⟨e1,e2,e3,e4⟩:=aAz w n
 exact⟨e1.trans h.os,e2.trans h.tape,e3.trans h.output,by rw[e4];exact h.size,by rw[e4];exact h.block⟩
theorem KR.alloc{S:Nat->Prop}{a w:World}(h:KR S a w)(o:Obj):KR S a (w.alloc o) :=
 h.trans (S':=fun _=>False) ⟨rfl,rfl,rfl,by simp,fun k hk _=>Below.heap_alloc _ _ _ (by omega)⟩ (fun _ _ x=>x.elim)
theorem KR.setCell{S:Nat->Prop}{a w:World}(h:KR S a w)(p:Addr)(hp:p.block<a.heap.size->S p.block)(u:Value):KR S a (w.setCell p u) :=
 h.trans (S':=fun k=>k=p.block) ⟨rfl,rfl,rfl,by simp[World.setCell],fun k hk hn=>Below.heap_setCell _ _ _ _ hn⟩ (fun i hi x=>by subst x;exact hp hi)
theorem KR.grown{S:Nat->Prop}{a w w':World}{row:Option Nat}(h:KR S a w)(hg:w.grownBy w' row)(hr:∀ k,row=some k->k<a.heap.size->S k):KR S a w' :=
 h.trans (S':=fun k=>row=some k) ⟨hg.os,hg.tape,hg.output,hg.size,fun k hk hn=>hg.block k hk (fun e=>hn e.symm)⟩ (fun i hi x=>hr i x hi)
theorem KR.below{S:Nat->Prop}{B:Nat}{w w':World}(h:KR S w w')(hB:B<=w.heap.size)(hs:∀ k,k<B->¬ S k):Below B w w' :=
 ⟨h.os,h.tape,h.output,h.size,fun k hk=>h.block k (by omega) (hs k hk)⟩
theorem Below.kept{w w':World}(h:Below w.heap.size w w'):KR (fun _=>False) w w' :=
 ⟨h.os,h.tape,h.output,h.size,fun k hk _=>h.block k hk⟩
theorem M5{w:World}{k:Nat}{o:Obj}(h:w.heap[k]? = some o):k<w.heap.size:=(Array.getElem?_eq_some_iff.1 h).1
theorem KR.at{S:Nat->Prop}{w w':World}(h:KR S w w'){k:Nat}{o:Obj}(hk:w.heap[k]? = some o)(hn:¬ S k):w'.heap[k]? = some o :=
 (h.block k (M5 hk) hn).trans hk
theorem Np(w:World)(b off:Nat)(v:Value){c:Array Value}{e:TypeId}{f:Nat×Nat}(h:w.heap[b]? = some (.cells c e f)) :
  (w.setCell ⟨b,off,none⟩ v).heap[b]? = some (.cells (c.setIfInBounds off v) e f):=by
 simp[World.setCell,Array.getElem?_modify,h]
theorem Q1(w:World)(b off k:Nat)(v:Value)(h:k≠b):(w.setCell ⟨b,off,none⟩ v).heap[k]? = w.heap[k]? :=
 Below.heap_setCell w ⟨b,off,none⟩ v k h
theorem ML{w:World}{b off:Nat}{c:Array Value}{e:TypeId}{f:Nat×Nat}(h:w.heap[b]? = some (.cells c e f)):w.cell? ⟨b,off,none⟩=c[off]? := by
 simp[World.cell?,h]
theorem Nm{w:World}{b off:Nat}{c:Array Value}{e:TypeId}(h:w.heap[b]? = some (.cells c e (0,0))):w.frozen? ⟨b,off,none⟩=false:=by
 simp[World.frozen?,h]
theorem RJ{P:Program}(w:World)(t ty e:TypeId)(i:TypeInfo)(z:Value)(size bytes:Nat)(ht:P.underlying t=some (.slice e))(hi:P.info? e=some i)(hz:i.zero=some z)
  (hsize:i.size=size) (hby:i.bytes=bytes) (hzs:z.cells.size=size) (hsz:0<size)
  (v:Value) (n:Nat) (xs:List Value) (hown:w.ownsRow 0 e size v n xs)
  (a:Addr) (m c:Nat) (news:List Value) (hl:news.length=m*size) (hnews:∀ j u,news[j]? = some u->w.cell? (a.add j)=some u) (h1:∀ u∈news,u.oneCell'=true)
  (h63:n+m<=maxLen) (hbytes:(n+m)*bytes<=140737488355328) :
  ∃ v' w',(Builtin.append_ #[t,t] ty #[v,.slice (some a) m c]).run P w = .ok v' w'/\w'.ownsRow 0 e size v' (n+m) (xs++news)/\w.grownBy w' v.ownBlock ∧
   (v'.ownBlock=v.ownBlock\/∃ g,v'.ownBlock=some g/\w.heap.size<=g):=by
 obtain⟨v',w',hr,ho,hg,_⟩:=run_append_own (P:=P) w 0 t ty e i z size bytes ht hi hz hsize hby hzs hsz v n xs hown a m c news hl hnews h1 h63 hbytes (Nat.zero_le _)
 refine⟨v',w',hr,ho,hg,?_⟩
 rcases hown.2 with ⟨rfl,rfl⟩ | ⟨g,cap,cur,rfl,_,hgg,hnc,hcm,hcs,htake⟩
 ·have hx:xs=[]:=List.eq_nil_of_length_eq_zero (by simpa using hown.1)
  subst hx
  obtain⟨v2,w2,hr2,ho2,_,_⟩:=run_append_own (P:=P) w w.heap.size t ty e i z size bytes ht hi hz hsize hby hzs hsz _ 0 [] (World.ownsRow_nil w w.heap.size e size) a m c news hl hnews h1 h63 hbytes (Nat.le_refl _)
  rw[hr] at hr2
  cases hr2
  rcases ho2.2 with ⟨rfl,_⟩ | ⟨g,cap,cur,rfl,hb,_⟩
  ·exact .inl rfl
  ·exact .inr ⟨g,rfl,hb⟩
 ·subst hsize
  by_cases hroom:n+m<=cap
  ·have hfit:n*i.size+news.length<=cur.size:=by rw[hl,hcs,← Nat.add_mul];exact Nat.mul_le_mul_right _ hroom
   have hr2:=run_append_room (P:=P) w t ty e i ht hi g n cap cur hgg a m c news hl hnews h1 hroom hfit
   rw[hr] at hr2
   cases hr2
   exact .inl rfl
  ·subst hby
   have hr2:=run_append_grow (P:=P) w t ty e i z ht hi hz ⟨g,0,none⟩ n cap xs hown.1 (hown.cells (g:=g) rfl) a m c news hl hnews (by omega) (by unfold maxLen at h63;omega) (growslice_fits (by omega) hbytes)
   rw[hr] at hr2
   cases hr2
   exact .inr ⟨w.heap.size,rfl,Nat.le_refl _⟩
theorem Tn{P:Program}(w:World){ops:Array Oper}{rest:List Oper}{o:Oper}{a:Act}{Q:Exit->Act->World->Prop}(hgd:o.guard=none)(s x:Operand)(t:TypeId)
  (ho:o.op = .call { callee:=.builtin .append,args:=#[s,x],argTypes:=#[t,t] })
  (e:TypeId) (i:TypeInfo) (z:Value) (size bytes:Nat) (ht:P.underlying t=some (.slice e)) (hi:P.info? e=some i) (hz:i.zero=some z)
  (hsize:i.size=size) (hby:i.bytes=bytes) (hzs:z.cells.size=size) (hsz:0<size)
  (v:Value) (n:Nat) (xs:List Value) (hs:a.eval s=v) (hown:w.ownsRow 0 e size v n xs)
  (ad:Addr) (m c:Nat) (news:List Value) (hx:a.eval x = .slice (some ad) m c) (hl:news.length=m*size) (hnews:∀ j u,news[j]? = some u->w.cell? (ad.add j)=some u) (h1:∀ u∈news,u.oneCell'=true)
  (h63:n+m<=maxLen) (hbytes:(n+m)*bytes<=140737488355328)
  (h:∀ v' w',w'.ownsRow 0 e size v' (n+m) (xs++news)->w.grownBy w' v.ownBlock->(v'.ownBlock=v.ownBlock\/∃ g,v'.ownBlock=some g/\w.heap.size<=g)->wpList P ops Q rest (a.put o.dst v') w'):wpList P ops Q (o::rest) a w:=by
 refine wpList_plain hgd fun K hK=>?_
 obtain⟨v',w',hr,h2,h3,h4⟩:=RJ (P:=P) w t o.type e i z size bytes ht hi hz hsize hby hzs hsz v n xs hown ad m c news hl hnews h1 h63 hbytes
 unfold Oper.wp execOp
 simp only[ho,resolve,invoke,builtin,Sem.run_bind,Sem.run_pure,Result.andThen_ok,List.map_toArray,List.map_cons,List.map_nil,hs,hx,hr]
 exact hK _ _ (h v' w' h2 h3 h4)
open Go.RowKit
def Lg(P:Program)(ρ:Operand->Value)(o:Oper)(w:World)(R:Value->World->Prop):Prop :=
 match (execOp ρ o).run P w with
 | .ok (.value v) w'=>R v w'
 | .ok .skip w'=>R undef w'
 | .ok (.enter f args) w'=>Calls P f args w' fun e w''=>∃ v,e = .returned v/\R v w''
 | _=>False
theorem Lg.wp{P:Program}{a:Act}{o:Oper}{w:World}{K:Act->World->Prop}{Q:Exit->Act->World->Prop}(h:Lg P a.eval o w (fun v w'=>K (a.put o.dst v) w')):o.wp P a w K Q:=by
 unfold Lg at h
 unfold Oper.wp
 generalize (execOp a.eval o).run P w=r at *
 cases r with
 | ok n w' =>
  cases n <;> simp only[Oper.upon] at h ⊢ <;> first
   | exact h
   | exact h.elim
   | exact Calls.mono h (fun e w'' ⟨v,he,hk⟩=>by subst he;exact hk)
 | halt x w'=>exact h.elim
def Qs(D:List (Option Tmp))(o:Oper)(a:Act):Bool :=
 match o.guard with
 | none=>true
 | some (j,want)=>match D.getD j none with
  | none=>false
  | some d=>match a.eval (.tmp d) with
   | .bool b=>b==want
   | _=>false
def RS(D:List (Option Tmp))(G:Nat->Value->World->Prop)(a:Act)(w:World):List Edge->Prop
 | []=>True
 | e::r=>(Region.binds .any e=true->match D.getD e.on none with
  | some d=>G e.on (a.eval (.tmp d)) w
  | none=>True)/\RS D G a w r
def aDN(P:Program)(R:World->World->Prop)(D:List (Option Tmp))(G:Nat->Value->World->Prop)(a0:Act)(w0:World)(i:Nat)(o:Oper):Prop :=
 ∀ (a:Act) (w:World),R w0 w->(∀ t,some t∉D->a.eval (.tmp t)=a0.eval (.tmp t))->RS D G a w o.after.toList →
  (Qs D o a=true->Lg P a.eval o w (fun v w'=>G i v w'/\R w w'))/\(Qs D o a=false->G i undef w)
def Steps(P:Program)(R:World->World->Prop)(D:List (Option Tmp))(G:Nat->Value->World->Prop)(a0:Act)(w0:World):Nat->List Oper->Prop
 | _,[]=>True
 | i,o::r=>aDN P R D G a0 w0 i o/\Steps P R D G a0 w0 (i+1) r
def MI(v:Nat->Value):Nat->List (Option Tmp)->Act->Act
 | _,[],a=>a
 | i,d::r,a=>MI v (i+1) r (a.put d (v i))
def plain(size:Nat):Nat->List (Option Tmp)->List Oper->Bool
 | _,[],[]=>true
 | i,d::D,o::r=>(o.dst==d) && (match d with|none=>true|some d=>decide (d<size) && !D.contains (some d)) && (o.after.toList.all fun e => !Region.binds .any e || decide (e.on<i)) && plain size (i+1) D r
 | _,_,_=>false
theorem SO{size:Nat}:∀ {i:Nat} {D:List (Option Tmp)} {os:List Oper},plain size i D os=true->D.length=os.length/\∀ k o,os[k]? = some o →
  D[k]? = some o.dst/\(∀ d,o.dst=some d->d<size/\∀ j,k<j->D[j]? ≠ some (some d))/\∀ e∈o.after.toList,Region.binds .any e=true->e.on<i+k:=by
 intro i D os
 induction os generalizing i D with
 | nil =>
  intro h
  cases D with
  | nil=>exact⟨rfl,by simp⟩
  | cons d D=>simp[plain] at h
 | cons o r ih =>
  intro h
  cases D with
  | nil=>simp[plain] at h
  | cons d D =>
   simp only[plain,Bool.and_eq_true] at h
   obtain⟨⟨⟨h1,h2⟩,h3⟩,h4⟩:=h
   have hd:o.dst=d:=by simpa using h1
   obtain⟨hl,hr⟩:=ih h4
   refine⟨by simp[hl],fun k o' hk=>?_⟩
   cases k with
   | zero =>
    simp at hk
    subst hk
    refine⟨by simp[hd],fun d' hd'=>?_,fun e he hb=>?_⟩
    ·rw[hd'] at hd
     subst hd
     simp only[Bool.and_eq_true,decide_eq_true_eq,Bool.not_eq_true',List.contains_eq_mem,decide_eq_false_iff_not] at h2
     refine⟨h2.1,fun j hj hD=>?_⟩
     cases j with
     | zero=>omega
     | succ j=>exact h2.2 (List.mem_of_getElem? (by simpa using hD))
    ·have:=List.all_eq_true.1 h3 e he
     simp[hb] at this;omega
   | succ k =>
    simp at hk
    obtain⟨g1,g2,g3⟩:=hr k o' hk
    refine⟨by simpa using g1,fun d' hd'=>⟨(g2 d' hd').1,fun j hj=>?_⟩,fun e he hb=>by have:=g3 e he hb;omega⟩
    cases j with
    | zero=>omega
    | succ j=>simpa using (g2 d' hd').2 j (by omega)
theorem Steps.at{P:Program}{R:World->World->Prop}{D:List (Option Tmp)}{G:Nat->Value->World->Prop}{a0:Act}{w0:World}:∀ {i:Nat} {os:List Oper},Steps P R D G a0 w0 i os->∀ k o,os[k]? = some o->aDN P R D G a0 w0 (i+k) o:=by
 intro i os
 induction os generalizing i with
 | nil=>intro _ k o h;simp at h
 | cons x r ih =>
  intro h k o hk
  cases k with
  | zero=>simp at hk;subst hk;exact h.1
  | succ k =>
   simp at hk
   have:=ih h.2 k o hk
   rwa [show i+1+k=i+(k+1) by omega] at this
theorem RS.mk{D:List (Option Tmp)}{G:Nat->Value->World->Prop}{a:Act}{w:World}:∀ {es:List Edge},(∀ e∈es,Region.binds .any e=true->∀ d,D.getD e.on none=some d->G e.on (a.eval (.tmp d)) w)->RS D G a w es:=by
 intro es
 induction es with
 | nil=>intro _;exact trivial
 | cons e r ih =>
  intro h
  refine⟨fun hb=>?_,ih fun e' he'=>h e' (by simp[he'])⟩
  split
  ·exact h e (by simp) hb _ ‹_›
  ·trivial
structure Mid (ops:Array Oper) (R:World->World->Prop) (D:List (Option Tmp)) (G:Nat->Value->World->Prop) (a0:Act) (w0:World) (v:Nat->Value) (listed:Array Bool) (a:Act) (w:World):Prop where
  size:a.tmps.size=a0.tmps.size
  ls:listed.size=ops.size
  defers:a.defers=a0.defers
  rel:R w0 w
  out:∀ t,(∀ j,listed.getD j false=true->D[j]? ≠ some (some t))->a.tmps.getD t undef=a0.tmps.getD t undef
  here:∀ j d,listed.getD j false=true->D[j]? = some (some d)->a.tmps.getD d undef=v j
  good:∀ j,listed.getD j false=true->G j (v j) w
theorem LA(l:Array Bool)(i j:Nat)(hi:i<l.size):(l.setIfInBounds i true).getD j false=(if j=i then true else l.getD j false):=by
 by_cases h:j=i
 ·subst h;simp[Array.getD,hi]
 ·rw[if_neg h]
  by_cases hj:j<l.size
  ·simp[Array.getD,hj,Ne.symm h]
  ·simp[Array.getD,hj]
theorem PW(l:Array Bool)(y:Nat)(h:y<l.size):l.getD y true=l.getD y false:=by simp[Array.getD,h]
theorem NA{md:Region.Mode}{ops:Array Oper}{listed:Array Bool}{i:Nat}(h:i∈Region.ready md ops listed) :
  i<ops.size/\listed.getD i true=false/\∃ o,ops[i]? = some o/\∀ e∈o.after.toList,Region.binds md e=true->listed.getD e.on false=true:=by
 unfold Region.ready at h
 obtain⟨h1,h2⟩:=List.mem_filter.1 h
 have hi:i<ops.size:=by simpa using h1
 simp only[Bool.and_eq_true,Bool.not_eq_true'] at h2
 refine⟨hi,h2.1,ops[i],by simp[hi],fun e he hb=>?_⟩
 have h3:=h2.2
 simp only[Array.getElem?_eq_getElem hi,Option.map_some,Option.getD_some] at h3
 have h4:=(Array.all_eq_true'.1 h3) e (by simpa using he)
 simpa [hb] using h4
theorem Q8{ops:Array Oper}{listed:Array Bool}(hb:∀ (k:Nat) (o:Oper),ops[k]? = some o->∀ e∈o.after.toList,Region.binds .any e=true->e.on<k)(hr:Region.ready .any ops listed=[])(hls:listed.size=ops.size):∀ i,i<ops.size->listed.getD i false=true:=by
 intro i
 induction i using Nat.strongRecOn with
 | _ i ih =>
  intro hi
  cases hl:listed.getD i false with
  | true=>rfl
  | false =>
   have hmem:i∈Region.ready .any ops listed:=by
    unfold Region.ready
    refine List.mem_filter.2 ⟨by simpa using hi,?_⟩
    have hl2:listed.getD i true=false:=by
     have:i<listed.size:=by omega
     simpa [Array.getD,this] using hl
    simp only[hl2,Array.getElem?_eq_getElem hi,Option.map_some,Option.getD_some,Bool.not_false,Bool.true_and]
    refine Array.all_eq_true'.2 fun e he=>?_
    cases hbe:Region.binds .any e with
    | false=>rfl
    | true =>
     have hlt:=hb i ops[i] (by simp[hi]) e (by simpa using he) hbe
     have:=ih e.on hlt (by omega)
     simp only[this,Bool.or_true]
   rw[hr] at hmem
   cases hmem
theorem PM(v:Nat->Value):∀ (D:List (Option Tmp)) (i:Nat) (a:Act),(MI v i D a).tmps.size=a.tmps.size/\(MI v i D a).defers=a.defers ∧
  (∀ t,some t∉D->(MI v i D a).tmps.getD t undef=a.tmps.getD t undef) ∧
  (∀ j d,D[j]? = some (some d)->(∀ k,j<k->D[k]? ≠ some (some d))->d<a.tmps.size->(MI v i D a).tmps.getD d undef=v (i+j)):=by
 intro D
 induction D with
 | nil=>intro i a;exact⟨rfl,rfl,fun _ _=>rfl,fun j d h=>by simp at h⟩
 | cons x r ih =>
  intro i a
  obtain⟨h1,h2,h3,h4⟩:=ih (i+1) (a.put x (v i))
  have hs:(a.put x (v i)).tmps.size=a.tmps.size:=by cases x <;> simp[Act.put]
  have hd:(a.put x (v i)).defers=a.defers:=by cases x <;> rfl
  refine⟨h1.trans hs,h2.trans hd,fun t ht=>?_,fun j d hj hlast hlt=>?_⟩
  ·simp only[List.mem_cons,not_or] at ht
   rw[MI,h3 t ht.2]
   cases x with
   | none=>rfl
   | some y =>
    have hne:y≠t:=fun e=>ht.1 (by rw[e])
    simp only[Act.put,Array.getD_eq_getD_getElem?,Array.getElem?_setIfInBounds_ne hne]
  ·cases j with
   | zero =>
    simp at hj
    subst hj
    have hn:some d∉r:=by
     intro hm
     obtain⟨k,hk⟩:=List.mem_iff_getElem?.1 hm
     exact hlast (k+1) (by omega) (by simpa using hk)
    rw[MI,h3 d hn]
    simp[Act.put,Array.getD_eq_getD_getElem?,hlt]
   | succ j =>
    have:=h4 j d (by simpa using hj) (fun k hk=>by simpa using hlast (k+1) (by omega)) (by rw[hs];exact hlt)
    rw[MI,this];congr 1;omega
theorem azu{P:Program}{ops:Array Oper}{Q:Exit->Act->World->Prop}{a0:Act}{w0:World}(R:World->World->Prop)(D:List (Option Tmp))(G:Nat->Value->World->Prop)
  (hpl:plain a0.tmps.size 0 D ops.toList=true) (hrf:∀ a,R a a) (htr:∀ a b c,R a b->R b c->R a c) (hst:∀ i v w w',G i v w->R w w'->G i v w') (hsteps:Steps P R D G a0 w0 0 ops.toList)
  (hend:∀ (v:Nat->Value) (w:World),R w0 w->(∀ i,i<ops.size->G i (v i) w)->Q .normal (MI v 0 D a0) w) :
  ∀ (fuel:Nat) (listed:Array Bool) (v:Nat->Value) (a:Act) (w:World),Mid ops R D G a0 w0 v listed a w->(fuel=0->Region.ready .any ops listed=[]) →
   (List.range ops.size).countP (fun i => !listed.getD i false)<=fuel->wpAny P .any ops Q fuel listed a w:=by
 obtain⟨hDl,hpa⟩:=SO hpl
 have hlen:D.length=ops.size:=by simpa using hDl
 have hback:∀ (k:Nat) (o:Oper),ops[k]? = some o->∀ e∈o.after.toList,Region.binds .any e=true->e.on<k:=by
  intro k o hk e he hb
  have:=(hpa k o (by simpa using hk)).2.2 e he hb
  omega
 have fin:∀ (listed:Array Bool) (v:Nat->Value) (a:Act) (w:World),Mid ops R D G a0 w0 v listed a w->Region.ready .any ops listed=[]->Q .normal a w:=by
  intro listed v a w hm hr
  have hall:=Q8 hback hr hm.ls
  have hp:=PM v D 0 a0
  have ha:a=MI v 0 D a0:=by
   have ht:a.tmps=(MI v 0 D a0).tmps:=by
    apply Array.ext
    ·rw[hm.size,hp.1]
    ·intro t h1 h2
     have e:a.tmps.getD t undef=(MI v 0 D a0).tmps.getD t undef:=by
      by_cases hmem:some t∈D
      ·obtain⟨j,hj⟩:=List.mem_iff_getElem?.1 hmem
       have hjs:j<ops.size:=by rw[← hlen];exact(List.getElem?_eq_some_iff.1 hj).1
       obtain⟨g1,g2,_⟩:=hpa j ops[j] (by simp[hjs])
       have hdst:ops[j].dst=some t:=by rw[hj] at g1;exact(Option.some.inj g1).symm
       obtain⟨k1,k2⟩:=g2 t hdst
       rw[hm.here j t (hall j hjs) hj,hp.2.2.2 j t hj k2 k1,Nat.zero_add]
      ·rw[hp.2.2.1 t hmem,hm.out t (fun j _ hj=>hmem (List.mem_of_getElem? hj))]
     simpa [Array.getD_eq_getD_getElem?,h1,h2] using e
   have hd:a.defers=(MI v 0 D a0).defers:=by rw[hm.defers,hp.2.1]
   cases a
   cases hq:MI v 0 D a0
   rw[hq] at ht hd
   simp only at ht hd
   rw[ht,hd]
  rw[ha]
  exact hend v w hm.rel (fun i hi=>hm.good i (hall i hi))
 intro fuel
 induction fuel with
 | zero =>
  intro listed v a w hm h0 _
  exact⟨h0 rfl,fin listed v a w hm (h0 rfl)⟩
 | succ fuel ih =>
  intro listed v a w hm _ hcount
  refine⟨fin listed v a w hm,fun i hi=>?_⟩
  obtain⟨hlt,hnl,o,ho,haft⟩:=NA hi
  have hlsz:i<listed.size:=by rw[hm.ls];exact hlt
  have hnl':listed.getD i false=false:=by simpa [Array.getD,hlsz] using hnl
  obtain⟨g1,g2,g3⟩:=hpa i o (by simpa using ho)
  have hstep:=hsteps.at i o (by simpa using ho)
  rw[Nat.zero_add] at hstep
  have hout:∀ t,some t∉D->a.eval (.tmp t)=a0.eval (.tmp t):=fun t ht=>hm.out t (fun j _ hj=>ht (List.mem_of_getElem? hj))
  have hdeps:RS D G a w o.after.toList:=RS.mk fun e he hb d hd=>by
   have hl:=haft e he hb
   have hlt':=hback i o ho e he hb
   have hDe:D[e.on]? = some (some d):=by
    have hlt2:e.on<D.length:=by rw[hlen];omega
    simp only[List.getD,List.getElem?_eq_getElem hlt2,Option.getD_some] at hd
    rw[List.getElem?_eq_getElem hlt2,hd]
   have:=hm.here e.on d hl hDe
   show G e.on (a.tmps.getD d undef) w
   rw[this];exact hm.good e.on hl
  obtain⟨s1,s2⟩:=hstep a w hm.rel hout hdeps
  -- what is left when it answers x in the world w'
  have next:∀ (x:Value) (w':World),G i x w'->R w w'->wpAny P .any ops Q fuel (listed.setIfInBounds i true) (a.put o.dst x) w':=by
   intro x w' hG hR
   have hcnt:(List.range ops.size).countP (fun j => !(listed.setIfInBounds i true).getD j false)<=fuel:=by
    have h1:(List.range ops.size).countP (fun j => !(listed.setIfInBounds i true).getD j false)<(List.range ops.size).countP (fun j => !listed.getD j false):=by
     have hmemi:i∈List.range ops.size:=by simpa using hlt
     have key:∀ (l:List Nat),i∈l->(∀ j,(!(listed.setIfInBounds i true).getD j false)=true->(!listed.getD j false)=true)->l.countP (fun j => !(listed.setIfInBounds i true).getD j false)<l.countP (fun j => !listed.getD j false):=by
      intro l
      induction l with
      | nil=>intro h;cases h
      | cons y r ihl =>
       intro hy himp
       have hle:r.countP (fun j => !(listed.setIfInBounds i true).getD j false)<=r.countP (fun j => !listed.getD j false):=List.countP_mono_left fun j _ hj=>himp j hj
       by_cases hyi:y=i
       ·subst hyi
        have e1:(!(listed.setIfInBounds y true).getD y false)=false:=by rw[LA _ _ _ hlsz,if_pos rfl];rfl
        have e2:(!listed.getD y false)=true:=by rw[hnl'];rfl
        rw[List.countP_cons,List.countP_cons]
        simp only[e1,e2,if_true,Bool.false_eq_true,if_false]
        omega
       ·have hir:i∈r:=by
         rcases List.mem_cons.1 hy with h|h
         ·exact absurd h.symm hyi
         ·exact h
        have:=ihl hir himp
        rw[List.countP_cons,List.countP_cons]
        have e3:(listed.setIfInBounds i true).getD y false=listed.getD y false:=by rw[LA _ _ _ hlsz,if_neg hyi]
        rw[e3];omega
     refine key _ hmemi fun j hj=>?_
     rw[LA _ _ _ hlsz] at hj
     by_cases hji:j=i
     ·rw[if_pos hji] at hj;cases hj
     ·rwa [if_neg hji] at hj
    omega
   have hmid:Mid ops R D G a0 w0 (fun j=>if j=i then x else v j) (listed.setIfInBounds i true) (a.put o.dst x) w':=by
    refine⟨?_,by simpa using hm.ls,?_,htr _ _ _ hm.rel hR,?_,?_,?_⟩
    ·rw[← hm.size];cases o.dst <;> simp[Act.put]
    ·rw[← hm.defers];cases o.dst <;> rfl
    ·intro t ht
     have hold:=hm.out t (fun j hj=>ht j (by rw[LA _ _ _ hlsz];split <;> first|rfl|exact hj))
     have hne:o.dst≠some t:=by
      intro e
      exact ht i (by rw[LA _ _ _ hlsz,if_pos rfl]) (by rw[g1,e])
     rw[← hold]
     cases hd:o.dst with
     | none=>rfl
     | some d =>
      have:d≠t:=fun e=>hne (by rw[hd,e])
      simp only[Act.put,Array.getD_eq_getD_getElem?,Array.getElem?_setIfInBounds_ne this]
    ·intro j d hj hD
     by_cases hji:j=i
     ·subst hji
      have hd:o.dst=some d:=by rw[g1] at hD;exact Option.some.inj hD
      have hsz:d<a.tmps.size:=by rw[hm.size];exact(g2 d hd).1
      simp[hd,Act.put,Array.getD_eq_getD_getElem?,hsz]
     ·rw[LA _ _ _ hlsz,if_neg hji] at hj
      have hold:=hm.here j d hj hD
      rw[if_neg hji,← hold]
      cases hd:o.dst with
      | none=>rfl
      | some y =>
       have hne:y≠d:=by
        rintro rfl
        rw[hd] at g1
        rcases Nat.lt_or_gt_of_ne hji with hlt2|hgt2
        ·have hjs:j<ops.size:=by rw[← hlen];exact(List.getElem?_eq_some_iff.1 hD).1
         obtain⟨k1,k2,_⟩:=hpa j ops[j] (by simp[hjs])
         have hdst:ops[j].dst=some y:=by rw[hD] at k1;exact(Option.some.inj k1).symm
         exact(k2 y hdst).2 i hlt2 g1
        ·exact(g2 y hd).2 j hgt2 hD
       simp only[Act.put,Array.getD_eq_getD_getElem?,Array.getElem?_setIfInBounds_ne hne]
    ·intro j hj
     by_cases hji:j=i
     ·subst hji;simpa using hG
     ·rw[LA _ _ _ hlsz,if_neg hji] at hj
      simp only[if_neg hji]
      exact hst _ _ _ _ (hm.good j hj) hR
   refine ih _ _ _ _ hmid ?_ hcnt
   intro hz
   subst hz
   have hz0:(List.range ops.size).countP (fun j => !(listed.setIfInBounds i true).getD j false)=0:=by omega
   rw[List.countP_eq_zero] at hz0
   cases hr:Region.ready .any ops (listed.setIfInBounds i true) with
   | nil=>rfl
   | cons y r =>
    have hy:y∈Region.ready .any ops (listed.setIfInBounds i true):=by rw[hr];simp
    obtain⟨q1,q2,_⟩:=NA hy
    have:=hz0 y (by simpa using q1)
    have hys:y<(listed.setIfInBounds i true).size:=by simp[hm.ls];exact q1
    have q3:(listed.setIfInBounds i true).getD y false=false:=by rw[← PW _ y hys];exact q2
    rw[q3] at this
    exact absurd rfl this
  have hwant:Region.wanted o (yielded ops a.tmps)=Qs D o a:=by
   unfold Region.wanted Qs
   cases hg:o.guard with
   | none=>rfl
   | some p =>
    obtain⟨j,want⟩:=p
    simp only[yielded]
    by_cases hj:j<ops.size
    ·obtain⟨k1,k2,_⟩:=hpa j ops[j] (by simp[hj])
     have hDj:D.getD j none=ops[j].dst:=by simp[List.getD,k1]
     rw[hDj]
     simp only[Array.getElem?_eq_getElem hj,Option.bind_some]
     cases hd:ops[j].dst with
     | none=>simp
     | some d =>
      have hsz:d<a.tmps.size:=by rw[hm.size];exact(k2 d hd).1
      simp only[Option.bind_some,Array.getElem?_eq_getElem hsz]
      have he:a.eval (.tmp d)=a.tmps[d]:=by simp[Act.eval,Array.getD,hsz]
      rw[he]
      cases a.tmps[d] <;> simp
    ·have hDj:D.getD j none=none:=by simp[List.getD,List.getElem?_eq_none (show D.length<=j by omega)]
     rw[hDj]
     simp[Array.getElem?_eq_none (show ops.size<=j by omega)]
  unfold wpOp
  rw[ho]
  simp only[hwant]
  cases hgo:Qs D o a with
  | true =>
   simp only[if_true]
   refine .inl (Lg.wp ?_)
   have:=s1 hgo
   revert this
   unfold Lg
   generalize (execOp a.eval o).run P w=res
   intro h
   cases res with
   | ok n w' =>
    cases n <;> simp only at h ⊢ <;> first
     | exact next _ _ h.1 h.2
     | exact h.elim
     | exact Calls.mono h (fun e w'' ⟨y,he,hk⟩=>⟨y,he,next _ _ hk.1 hk.2⟩)
   | halt y w'=>exact h.elim
  | false =>
   simp only[Bool.false_eq_true,if_false]
   exact next undef w (s2 hgo) (hrf w)
theorem Xc{P:Program}{id:Nat}{ops:Array Oper}{Q:Exit->Act->World->Prop}{a0:Act}{w0:World}(R:World->World->Prop)(D:List (Option Tmp))(G:Nat->Value->World->Prop)
  (hm:P.follows .mixedOrders=true) (hpl:plain a0.tmps.size 0 D ops.toList=true) (hrf:∀ a,R a a) (htr:∀ a b c,R a b->R b c->R a c) (hdr:R w0 w0.drew) (hst:∀ i v w w',G i v w->R w w'->G i v w')
  (hsteps:Steps P R D G a0 w0 0 ops.toList)
  (hend:∀ (v:Nat->Value) (w:World),R w0 w->(∀ i,i<ops.size->G i (v i) w)->Q .normal (MI v 0 D a0) w):(Code.region id ops true).wp P Q a0 w0:=by
 refine wp_region_any hm ?_
 have hno:∀ j,(Array.replicate ops.size false).getD j false=false:=by
  intro j
  by_cases h:j<ops.size <;> simp[Array.getD,h]
 refine azu R D G hpl hrf htr hst hsteps hend ops.size _ (fun _=>undef) a0 _ ⟨rfl,by simp,rfl,hdr,fun _ _=>rfl,fun j _ hj=>?_,fun j hj=>?_⟩ ?_ ?_
 ·rw[hno] at hj;cases hj
 ·rw[hno] at hj;cases hj
 ·intro h0
  cases hr:Region.ready .any ops (Array.replicate ops.size false) with
  | nil=>rfl
  | cons y r =>
   have hy:y∈Region.ready .any ops (Array.replicate ops.size false):=by rw[hr];simp
   have:=(NA hy).1
   omega
 ·exact Nat.le_trans (List.countP_le_length) (by simp)
structure Pd where
  says:Value->World->Prop
  stays:∀ v w w',says v w->KR (fun _=>False) w w'->says v w'
def Pd.any:Pd:=⟨fun _ _=>True,fun _ _ _ _ _=>trivial⟩
def Pd.eq(c:Value):Pd:=⟨fun v _=>v=c,fun _ _ _ h _=>h⟩
def RE(Gs:List Pd)(i:Nat)(v:Value)(w:World):Prop:=(Gs.getD i Pd.any).says v w
theorem WZ{P:Program}{id:Nat}{ops:Array Oper}{Q:Exit->Act->World->Prop}{a0:Act}{w0:World}(D:List (Option Tmp))(Gs:List Pd)
  (hm:P.follows .mixedOrders=true) (hpl:plain a0.tmps.size 0 D ops.toList=true)
  (hsteps:Steps P (KR (fun _=>False)) D (RE Gs) a0 w0 0 ops.toList)
  (hend:∀ (v:Nat->Value) (w:World),KR (fun _=>False) w0 w->(∀ i,i<ops.size->RE Gs i (v i) w)->Q .normal (MI v 0 D a0) w):(Code.region id ops true).wp P Q a0 w0 :=
 Xc (KR (fun _=>False)) D (RE Gs) hm hpl (fun a=>KR.refl _ a) (fun _ _ _ h k=>h.trans k (fun _ _ x=>x)) (KR.refl _ _).drew (fun i _ _ _ h k=>(Gs.getD i Pd.any).stays _ _ _ h k) hsteps hend
open Go.RowKit
def Ud(o:Oper)(j:Nat):Bool:=o.after.toList.any fun e=>Region.binds .any e && e.on==j
def TL(os:List Oper)(n:Nat):Bool :=
 decide (n<os.length) &&
 ((List.range n).all fun i=>(List.range (n+1)).any fun j=>decide (i<j) && (os[j]?.any fun o=>Ud o i)) &&
 ((List.range os.length).all fun j => !decide (n<j) || (os[j]?.any fun o=>Ud o (j-1))) &&
 ((List.range os.length).all fun j=>os[j]?.all fun o=>o.after.toList.all fun e => !Region.binds .any e || decide (e.on<j)) &&
 ((List.range n).all fun j=>os[j]?.all fun o=>match o.guard with|none=>true|some g=>decide (g.1<n))
structure WB (ops:Array Oper) (n:Nat):Prop where
  lt:n<ops.size
  cov:∀ i,i<n->∃ j o,i<j/\j<=n/\ops[j]? = some o/\∃ e∈o.after.toList,Region.binds .any e=true/\e.on=i
  line:∀ j o,n<j->ops[j]? = some o->∃ e∈o.after.toList,Region.binds .any e=true/\e.on=j-1
  back:∀ (k:Nat) (o:Oper),ops[k]? = some o->∀ e∈o.after.toList,Region.binds .any e=true->e.on<k
  guards:∀ (k:Nat) (o:Oper),k<n->ops[k]? = some o->∀ g,o.guard=some g->g.1<n
theorem SE{o:Oper}{j:Nat}:Ud o j=true ↔ ∃ e∈o.after.toList,Region.binds .any e=true/\e.on=j:=by
 unfold Ud
 rw[List.any_eq_true]
 constructor
 ·rintro ⟨e,he,h⟩;simp only[Bool.and_eq_true,beq_iff_eq] at h;exact⟨e,he,h.1,h.2⟩
 ·rintro ⟨e,he,h1,h2⟩;exact⟨e,he,by simp[h1,h2]⟩
theorem TD{ops:Array Oper}{n:Nat}(h:TL ops.toList n=true):WB ops n:=by
 unfold TL at h
 simp only[Bool.and_eq_true,decide_eq_true_eq,List.all_eq_true,List.mem_range] at h
 obtain⟨⟨⟨⟨h1,h2⟩,h3⟩,h4⟩,h5⟩:=h
 refine⟨by simpa using h1,fun i hi=>?_,fun j o hj ho=>?_,fun k o hk e he hb=>?_,fun k o hkn hk g hg=>?_⟩
 ·obtain⟨j,hj,h⟩:=List.any_eq_true.1 (h2 i hi)
  have hj':j<n+1:=by simpa using hj
  simp only[Bool.and_eq_true,decide_eq_true_eq] at h
  cases ho:ops.toList[j]? with
  | none=>rw[ho] at h;simp at h
  | some o =>
   rw[ho] at h
   exact⟨j,o,h.1,by omega,by simpa using ho,SE.1 (by simpa using h.2)⟩
 ·have hlt:j<ops.toList.length:=by have:=(Array.getElem?_eq_some_iff.1 ho).1;simpa using this
  have h:=h3 j hlt
  have ho':ops.toList[j]? = some o:=by simpa using ho
  rw[ho'] at h
  simp only[hj,decide_true,Bool.not_true,Bool.false_or,Option.any_some] at h
  exact SE.1 h
 ·have hlt:k<ops.toList.length:=by have:=(Array.getElem?_eq_some_iff.1 hk).1;simpa using this
  have h:=h4 k hlt
  have ho':ops.toList[k]? = some o:=by simpa using hk
  rw[ho'] at h
  simp only[Option.all_some] at h
  have:=List.all_eq_true.1 h e he
  simpa [hb] using this
 ·have h:=h5 k hkn
  have ho':ops.toList[k]? = some o:=by simpa using hk
  rw[ho'] at h
  simp only[Option.all_some,hg] at h
  simpa using h
theorem Z8{ops:Array Oper}{listed:Array Bool}{i:Nat}{o:Oper}(hi:i<ops.size)(hls:listed.size=ops.size)(hl:listed.getD i false=false)(ho:ops[i]? = some o)
  (h:∀ e∈o.after.toList,Region.binds .any e=true->listed.getD e.on false=true):i∈Region.ready .any ops listed:=by
 unfold Region.ready
 refine List.mem_filter.2 ⟨by simpa using hi,?_⟩
 have hl2:listed.getD i true=false:=by
  have:i<listed.size:=by omega
  simpa [Array.getD,this] using hl
 simp only[hl2,ho,Option.map_some,Option.getD_some,Bool.not_false,Bool.true_and]
 refine Array.all_eq_true'.2 fun e he=>?_
 cases hbe:Region.binds .any e with
 | false=>rfl
 | true =>
  have:=h e (by simpa using he) hbe
  simp only[this,Bool.or_true]
theorem azz{P:Program}{ops:Array Oper}{Q:Exit->Act->World->Prop}{n:Nat}(T:WB ops n) :
  ∀ (fuel k:Nat) (listed:Array Bool) (a:Act) (w:World),n<=k->k<=ops.size->ops.size-k<=fuel->listed.size=ops.size->(∀ j,j<k->listed.getD j false=true)->(∀ j,k<=j->listed.getD j false=false) →
   wpList P ops Q (ops.toList.drop k) a w->wpAny P .any ops Q fuel listed a w:=by
 have none_ready:∀ (listed:Array Bool),listed.size=ops.size->(∀ j,j<ops.size->listed.getD j false=true)->Region.ready .any ops listed=[]:=by
  intro listed hls hall
  cases hr:Region.ready .any ops listed with
  | nil=>rfl
  | cons y r =>
   have hy:y∈Region.ready .any ops listed:=by rw[hr];simp
   obtain⟨q1,q2,_⟩:=NA hy
   have h1:=hall y q1
   rw[PW _ y (by omega)] at q2
   rw[q2] at h1;cases h1
 intro fuel
 induction fuel with
 | zero =>
  intro k listed a w hn hk hf hls h1 h2 hw
  have hke:k=ops.size:=by omega
  subst hke
  rw[List.drop_of_length_le (by simp)] at hw
  exact⟨none_ready listed hls h1,hw⟩
 | succ fuel ih =>
  intro k listed a w hn hk hf hls h1 h2 hw
  by_cases hke:k=ops.size
  ·subst hke
   rw[List.drop_of_length_le (by simp)] at hw
   have hr:=none_ready listed hls h1
   exact⟨fun _=>hw,fun i hi=>by rw[hr] at hi;cases hi⟩
  ·have hlt:k<ops.size:=by omega
   have hok:ops[k]? = some ops[k]:=by simp[hlt]
   have hdrop:ops.toList.drop k=ops[k]::ops.toList.drop (k+1):=by
    rw[List.drop_eq_getElem_cons (by simpa using hlt)];simp
   rw[hdrop] at hw
   have hrk:k∈Region.ready .any ops listed:=Z8 hlt hls (h2 k (Nat.le_refl _)) hok fun e he hb=>h1 _ (T.back k _ hok e he hb)
   refine⟨fun hr=>(by rw[hr] at hrk;cases hrk),fun i hi=>?_⟩
   obtain⟨q1,q2,o,ho,haft⟩:=NA hi
   rw[PW _ i (by omega)] at q2
   have hik:i=k:=by
    rcases Nat.lt_trichotomy i k with h|h|h
    ·rw[h1 i h] at q2;cases q2
    ·exact h
    ·obtain⟨e,he,hb,hon⟩:=T.line i o (by omega) ho
     have:=haft e he hb
     rw[hon,h2 (i-1) (by omega)] at this;cases this
   subst hik
   have next:∀ (a':Act) (w':World),wpList P ops Q (ops.toList.drop (i+1)) a' w'->wpAny P .any ops Q fuel (listed.setIfInBounds i true) a' w':=by
    intro a' w' h'
    have hlsz:i<listed.size:=by omega
    refine ih (i+1) _ a' w' (by omega) (by omega) (by omega) (by simpa using hls) (fun j hj=>?_) (fun j hj=>?_) h'
    ·rw[LA _ _ _ hlsz];split
     ·rfl
     ·exact h1 j (by omega)
    ·rw[LA _ _ _ hlsz,if_neg (by omega)];exact h2 j (by omega)
   unfold wpList at hw
   unfold wpOp
   rw[hok]
   simp only
   split at hw
   ·rw[if_pos ‹_›]
    rcases hw with h|h
    ·exact .inl (Oper.wp_mono next h)
    ·exact .inr h
   ·rw[if_neg ‹_›]
    exact next _ _ hw
theorem Xb{P:Program}{ops:Array Oper}{Q:Exit->Act->World->Prop}{a0:Act}{w0:World}(n:Nat)(T:WB ops n)(R:World->World->Prop)(D:List (Option Tmp))(G:Nat->Value->World->Prop)
  (hpl:plain a0.tmps.size 0 D (ops.toList.take n)=true) (hrf:∀ a,R a a) (htr:∀ a b c,R a b->R b c->R a c) (hst:∀ i v w w',G i v w->R w w'->G i v w') (hsteps:Steps P R D G a0 w0 0 (ops.toList.take n))
  (hend:∀ (v:Nat->Value) (w:World),R w0 w->(∀ i,i<n->G i (v i) w)->wpList P ops Q (ops.toList.drop n) (MI v 0 D a0) w) :
  ∀ (fuel:Nat) (listed:Array Bool) (v:Nat->Value) (a:Act) (w:World),Mid ops R D G a0 w0 v listed a w →
   (∀ (k:Nat) (o:Oper),ops[k]? = some o->listed.getD k false=true->∀ e∈o.after.toList,Region.binds .any e=true->listed.getD e.on false=true)->(∀ j,n<=j->listed.getD j false=false) →
   (List.range ops.size).countP (fun i => !listed.getD i false)<=fuel->wpAny P .any ops Q fuel listed a w:=by
 have hlt0:=T.lt
 obtain⟨hDl,hpa'⟩:=SO hpl
 have hlen:D.length=n:=by
  have:D.length=min n ops.size:=by simpa using hDl
  omega
 have hpa:∀ k o,k<n->ops.toList[k]? = some o->D[k]? = some o.dst/\(∀ d,o.dst=some d->d<a0.tmps.size/\∀ j,k<j->D[j]? ≠ some (some d)):=by
  intro k o hk ho
  have h:=hpa' k o (by rw[List.getElem?_take,if_pos hk];exact ho)
  exact⟨h.1,h.2.1⟩
 have hback:=T.back
 have fin:∀ (listed:Array Bool) (v:Nat->Value) (a:Act) (w:World),Mid ops R D G a0 w0 v listed a w->(∀ i,i<n->listed.getD i false=true)->wpList P ops Q (ops.toList.drop n) a w:=by
  intro listed v a w hm hall
  have hp:=PM v D 0 a0
  have ha:a=MI v 0 D a0:=by
   have ht:a.tmps=(MI v 0 D a0).tmps:=by
    apply Array.ext
    ·rw[hm.size,hp.1]
    ·intro t h1 h2
     have e:a.tmps.getD t undef=(MI v 0 D a0).tmps.getD t undef:=by
      by_cases hmem:some t∈D
      ·obtain⟨j,hj⟩:=List.mem_iff_getElem?.1 hmem
       have hjs:j<n:=by rw[← hlen];exact(List.getElem?_eq_some_iff.1 hj).1
       have hjo:j<ops.size:=by omega
       obtain⟨g1,g2⟩:=hpa j ops[j] hjs (by simp[hjo])
       have hdst:ops[j].dst=some t:=by rw[hj] at g1;exact(Option.some.inj g1).symm
       obtain⟨k1,k2⟩:=g2 t hdst
       rw[hm.here j t (hall j hjs) hj,hp.2.2.2 j t hj k2 k1,Nat.zero_add]
      ·rw[hp.2.2.1 t hmem,hm.out t (fun j _ hj=>hmem (List.mem_of_getElem? hj))]
     simpa [Array.getD_eq_getD_getElem?,h1,h2] using e
   have hd:a.defers=(MI v 0 D a0).defers:=by rw[hm.defers,hp.2.1]
   cases a
   cases hq:MI v 0 D a0
   rw[hq] at ht hd
   simp only at ht hd
   rw[ht,hd]
  rw[ha]
  exact hend v w hm.rel (fun i hi=>hm.good i (hall i hi))
 intro fuel
 induction fuel with
 | zero =>
  intro listed v a w hm _ htl hcount
  exfalso
  have hz:(List.range ops.size).countP (fun i => !listed.getD i false)=0:=by omega
  rw[List.countP_eq_zero] at hz
  have:=hz n (by simpa using hlt0)
  rw[htl n (Nat.le_refl _)] at this
  exact this rfl
 | succ fuel ih =>
  intro listed v a w hm hcl htl hcount
  refine⟨fun hr=>?_,fun i hi=>?_⟩
  ·have:=Q8 hback hr hm.ls n hlt0
   rw[htl n (Nat.le_refl _)] at this;cases this
  obtain⟨hlt,hnl,o,ho,haft⟩:=NA hi
  have hlsz:i<listed.size:=by rw[hm.ls];exact hlt
  have hnl':listed.getD i false=false:=by simpa [Array.getD,hlsz] using hnl
  have hin:i<=n:=by
   rcases Nat.lt_or_ge n i with h|h
   ·obtain⟨e,he,hb,hon⟩:=T.line i o h ho
    have:=haft e he hb
    rw[hon,htl (i-1) (by omega)] at this;cases this
   ·exact h
  by_cases hine:i=n
  ·-- all others are done
   have hall:∀ j,j<n->listed.getD j false=true:=by
    suffices h:∀ m j,j+m=n->j<n->listed.getD j false=true by
     intro j hj;exact h (n-j) j (by omega) hj
    intro m
    induction m using Nat.strongRecOn with
    | _ m ihm =>
     intro j hm2 hj
     obtain⟨j',o',h1,h2,h3,e,he,hb,hon⟩:=T.cov j hj
     by_cases hj':j'=n
     ·subst hj'
      rw[← hine] at h3
      rw[ho] at h3
      cases h3
      rw[← hon];exact haft e he hb
     ·have hl:=ihm (n-j') (by omega) j' (by omega) (by omega)
      rw[← hon];exact hcl j' o' h3 hl e he hb
   have hw:=fin listed v a w hm hall
   have hfu:ops.size-n<=fuel+1:=by
    have hle:(List.range' n (ops.size-n)).countP (fun i => !listed.getD i false)<=(List.range ops.size).countP (fun i => !listed.getD i false):=by
     apply List.Sublist.countP_le
     rw[List.range_eq_range',show ops.size=n+(ops.size-n) by omega,← List.range'_append_1]
     simp
    have he:(List.range' n (ops.size-n)).countP (fun i => !listed.getD i false)=ops.size-n:=by
     rw[List.countP_eq_length.2]
     ·simp
     ·intro x hx
      have:=(List.mem_range'_1.1 hx).1
      rw[htl x this];rfl
    omega
   have hall2:=azz (P:=P) (Q:=Q) T (fuel+1) n listed a w (Nat.le_refl _) (by omega) hfu hm.ls hall htl hw
   exact hall2.2 i hi
  have hin':i<n:=by omega
  obtain⟨g1,g2⟩:=hpa i o hin' (by simpa using ho)
  have hstep:=hsteps.at i o (by rw[List.getElem?_take,if_pos hin'];simpa using ho)
  rw[Nat.zero_add] at hstep
  have hout:∀ t,some t∉D->a.eval (.tmp t)=a0.eval (.tmp t):=fun t ht=>hm.out t (fun j _ hj=>ht (List.mem_of_getElem? hj))
  have hdeps:RS D G a w o.after.toList:=RS.mk fun e he hb d hd=>by
   have hl:=haft e he hb
   have hlt':=hback i o ho e he hb
   have hDe:D[e.on]? = some (some d):=by
    have hlt2:e.on<D.length:=by rw[hlen];omega
    simp only[List.getD,List.getElem?_eq_getElem hlt2,Option.getD_some] at hd
    rw[List.getElem?_eq_getElem hlt2,hd]
   have:=hm.here e.on d hl hDe
   show G e.on (a.tmps.getD d undef) w
   rw[this];exact hm.good e.on hl
  obtain⟨s1,s2⟩:=hstep a w hm.rel hout hdeps
  -- what is left when it answers x in the world w'
  have next:∀ (x:Value) (w':World),G i x w'->R w w'->wpAny P .any ops Q fuel (listed.setIfInBounds i true) (a.put o.dst x) w':=by
   intro x w' hG hR
   have hcnt:(List.range ops.size).countP (fun j => !(listed.setIfInBounds i true).getD j false)<=fuel:=by
    have h1:(List.range ops.size).countP (fun j => !(listed.setIfInBounds i true).getD j false)<(List.range ops.size).countP (fun j => !listed.getD j false):=by
     have hmemi:i∈List.range ops.size:=by simpa using hlt
     have key:∀ (l:List Nat),i∈l->(∀ j,(!(listed.setIfInBounds i true).getD j false)=true->(!listed.getD j false)=true)->l.countP (fun j => !(listed.setIfInBounds i true).getD j false)<l.countP (fun j => !listed.getD j false):=by
      intro l
      induction l with
      | nil=>intro h;cases h
      | cons y r ihl =>
       intro hy himp
       have hle:r.countP (fun j => !(listed.setIfInBounds i true).getD j false)<=r.countP (fun j => !listed.getD j false):=List.countP_mono_left fun j _ hj=>himp j hj
       by_cases hyi:y=i
       ·subst hyi
        have e1:(!(listed.setIfInBounds y true).getD y false)=false:=by rw[LA _ _ _ hlsz,if_pos rfl];rfl
        have e2:(!listed.getD y false)=true:=by rw[hnl'];rfl
        rw[List.countP_cons,List.countP_cons]
        simp only[e1,e2,if_true,Bool.false_eq_true,if_false]
        omega
       ·have hir:i∈r:=by
         rcases List.mem_cons.1 hy with h|h
         ·exact absurd h.symm hyi
         ·exact h
        have:=ihl hir himp
        rw[List.countP_cons,List.countP_cons]
        have e3:(listed.setIfInBounds i true).getD y false=listed.getD y false:=by rw[LA _ _ _ hlsz,if_neg hyi]
        rw[e3];omega
     refine key _ hmemi fun j hj=>?_
     rw[LA _ _ _ hlsz] at hj
     by_cases hji:j=i
     ·rw[if_pos hji] at hj;cases hj
     ·rwa [if_neg hji] at hj
    omega
   have hmid:Mid ops R D G a0 w0 (fun j=>if j=i then x else v j) (listed.setIfInBounds i true) (a.put o.dst x) w':=by
    refine⟨?_,by simpa using hm.ls,?_,htr _ _ _ hm.rel hR,?_,?_,?_⟩
    ·rw[← hm.size];cases o.dst <;> simp[Act.put]
    ·rw[← hm.defers];cases o.dst <;> rfl
    ·intro t ht
     have hold:=hm.out t (fun j hj=>ht j (by rw[LA _ _ _ hlsz];split <;> first|rfl|exact hj))
     have hne:o.dst≠some t:=by
      intro e
      exact ht i (by rw[LA _ _ _ hlsz,if_pos rfl]) (by rw[g1,e])
     rw[← hold]
     cases hd:o.dst with
     | none=>rfl
     | some d =>
      have:d≠t:=fun e=>hne (by rw[hd,e])
      simp only[Act.put,Array.getD_eq_getD_getElem?,Array.getElem?_setIfInBounds_ne this]
    ·intro j d hj hD
     by_cases hji:j=i
     ·subst hji
      have hd:o.dst=some d:=by rw[g1] at hD;exact Option.some.inj hD
      have hsz:d<a.tmps.size:=by rw[hm.size];exact(g2 d hd).1
      simp[hd,Act.put,Array.getD_eq_getD_getElem?,hsz]
     ·rw[LA _ _ _ hlsz,if_neg hji] at hj
      have hold:=hm.here j d hj hD
      rw[if_neg hji,← hold]
      cases hd:o.dst with
      | none=>rfl
      | some y =>
       have hne:y≠d:=by
        rintro rfl
        rw[hd] at g1
        rcases Nat.lt_or_gt_of_ne hji with hlt2|hgt2
        ·have hjn:j<n:=by rw[← hlen];exact(List.getElem?_eq_some_iff.1 hD).1
         have hjs:j<ops.size:=by omega
         obtain⟨k1,k2⟩:=hpa j ops[j] hjn (by simp[hjs])
         have hdst:ops[j].dst=some y:=by rw[hD] at k1;exact(Option.some.inj k1).symm
         exact(k2 y hdst).2 i hlt2 g1
        ·exact(g2 y hd).2 j hgt2 hD
       simp only[Act.put,Array.getD_eq_getD_getElem?,Array.getElem?_setIfInBounds_ne hne]
    ·intro j hj
     by_cases hji:j=i
     ·subst hji;simpa using hG
     ·rw[LA _ _ _ hlsz,if_neg hji] at hj
      simp only[if_neg hji]
      exact hst _ _ _ _ (hm.good j hj) hR
   refine ih _ _ _ _ hmid ?_ ?_ hcnt
   ·intro k o' hk hl e he hb
    rw[LA _ _ _ hlsz] at hl ⊢
    by_cases hee:e.on=i
    ·rw[if_pos hee]
    ·rw[if_neg hee]
     by_cases hki:k=i
     ·subst hki
      rw[ho] at hk
      cases hk
      exact haft e he hb
     ·rw[if_neg hki] at hl
      exact hcl k o' hk hl e he hb
   ·intro j hj
    rw[LA _ _ _ hlsz,if_neg (by omega)];exact htl j hj
  have hwant:Region.wanted o (yielded ops a.tmps)=Qs D o a:=by
   unfold Region.wanted Qs
   cases hg:o.guard with
   | none=>rfl
   | some p =>
    obtain⟨j,want⟩:=p
    simp only[yielded]
    by_cases hj:j<n
    ·have hjo:j<ops.size:=by omega
     obtain⟨k1,k2⟩:=hpa j ops[j] hj (by simp[hjo])
     have hDj:D.getD j none=ops[j].dst:=by simp[List.getD,k1]
     rw[hDj]
     simp only[Array.getElem?_eq_getElem hjo,Option.bind_some]
     cases hd:ops[j].dst with
     | none=>simp
     | some d =>
      have hsz:d<a.tmps.size:=by rw[hm.size];exact(k2 d hd).1
      simp only[Option.bind_some,Array.getElem?_eq_getElem hsz]
      have he:a.eval (.tmp d)=a.tmps[d]:=by simp[Act.eval,Array.getD,hsz]
      rw[he]
      cases a.tmps[d] <;> simp
    ·exact absurd (T.guards i o hin' ho _ hg) hj
  unfold wpOp
  rw[ho]
  simp only[hwant]
  cases hgo:Qs D o a with
  | true =>
   simp only[if_true]
   refine .inl (Lg.wp ?_)
   have:=s1 hgo
   revert this
   unfold Lg
   generalize (execOp a.eval o).run P w=res
   intro h
   cases res with
   | ok n w' =>
    cases n <;> simp only at h ⊢ <;> first
     | exact next _ _ h.1 h.2
     | exact h.elim
     | exact Calls.mono h (fun e w'' ⟨y,he,hk⟩=>⟨y,he,next _ _ hk.1 hk.2⟩)
   | halt y w'=>exact h.elim
  | false =>
   simp only[Bool.false_eq_true,if_false]
   exact next undef w (s2 hgo) (hrf w)
theorem We{P:Program}{id:Nat}{ops:Array Oper}{Q:Exit->Act->World->Prop}{a0:Act}{w0:World}(n:Nat)(D:List (Option Tmp))(Gs:List Pd)
  (hm:P.follows .mixedOrders=true) (hta:TL ops.toList n=true) (hpl:plain a0.tmps.size 0 D (ops.toList.take n)=true)
  (hsteps:Steps P (KR (fun _=>False)) D (RE Gs) a0 w0 0 (ops.toList.take n))
  (hend:∀ (v:Nat->Value) (w:World),KR (fun _=>False) w0 w->(∀ i,i<n->RE Gs i (v i) w)->wpList P ops Q (ops.toList.drop n) (MI v 0 D a0) w):(Code.region id ops true).wp P Q a0 w0:=by
 refine wp_region_any hm ?_
 have T:=TD hta
 have hno:∀ j,(Array.replicate ops.size false).getD j false=false:=by
  intro j
  by_cases h:j<ops.size <;> simp[Array.getD,h]
 refine Xb n T (KR (fun _=>False)) D (RE Gs) hpl (fun a=>KR.refl _ a) (fun _ _ _ h k=>h.trans k (fun _ _ x=>x)) (fun i _ _ _ h k=>(Gs.getD i Pd.any).stays _ _ _ h k) hsteps hend ops.size _ (fun _=>undef) a0 _ ⟨rfl,by simp,rfl,(KR.refl _ _).drew,fun _ _=>rfl,fun j _ hj=>?_,fun j hj=>?_⟩ ?_ ?_ ?_
 ·rw[hno] at hj;cases hj
 ·rw[hno] at hj;cases hj
 ·intro k o _ hl;rw[hno] at hl;cases hl
 ·intro j _;exact hno j
 ·exact Nat.le_trans (List.countP_le_length) (by simp)
open Go.RowKit
section
variable {P:Program} {ρ:Operand->Value} {o:Oper} {w:World} {R:Value->World->Prop}
theorem Nf{v:Value}{w':World}(h:(execOp ρ o).run P w = .ok (.value v) w')(hR:R v w'):Lg P ρ o w R:=by
 unfold Lg;rw[h];exact hR
theorem aEY{x:Operand}(ho:o.op = .move x)(h:R (ρ x) w):Lg P ρ o w R:=Nf (by simp[execOp,ho]) h
theorem aC5{x:Operand}(ho:o.op = .assign x)(h:R (ρ x) w):Lg P ρ o w R:=Nf (by simp[execOp,ho]) h
theorem ZJ{c x y:Operand}(ho:o.op = .pick c x y)(hc:ρ c = .bool true)(h:R (ρ x) w):Lg P ρ o w R:=Nf (by simp[execOp,ho,hc,asBool]) h
theorem Yy{c x y:Operand}(ho:o.op = .pick c x y)(hc:ρ c = .bool false)(h:R (ρ y) w):Lg P ρ o w R:=Nf (by simp[execOp,ho,hc,asBool]) h
theorem aAZ{t t':TypeId}{k:IntKind}{x y:Operand}{m n:Int}(ho:o.op = .binOp .eql t x y t')(hx:ρ x = .int k m)(hy:ρ y = .int k n)(h:R (.bool (m==n)) w):Lg P ρ o w R :=
 Nf (by simp[execOp,ho,hx,hy,go_sem]) h
theorem ay5{t t':TypeId}{x y:Operand}{m n:ByteArray}(ho:o.op = .binOp .eql t x y t')(hx:ρ x = .string m)(hy:ρ y = .string n)(h:R (.bool (m.toList==n.toList)) w):Lg P ρ o w R :=
 Nf (by simp[execOp,ho,hx,hy,go_sem]) h
end
section
variable {P:Program} {ρ:Operand->Value} {o:Oper} {w:World} {R:Value->World->Prop}
theorem aF4{t t':TypeId}{k k':IntKind}{x y:Operand}{m:Int}{n:Nat}(ho:o.op = .binOp .shr t x y t')(hx:ρ x = .int k m)(hy:ρ y = .int k' (n:Int))(hn:n<=k.bits)(h:R (.int k (m/2 ^ n)) w):Lg P ρ o w R :=
 Nf (by
  have h0:¬ ((n:Int)<0):=by omega
  have hm:min n k.bits=n:=by omega
  have hd:m.fdiv (2 ^ n)=m/2 ^ n:=Int.fdiv_eq_ediv_of_nonneg _ (Int.le_of_lt (Int.pow_pos (by decide)))
  simp only[execOp,ho,hx,hy,binOp_shr,Op.shift,if_neg h0,Int.toNat_natCast,hm,hd,eqGuard]
  rfl) h
theorem aFp{src dst:TypeId}{x:Operand}{k k':IntKind}{n:Int}{d:TypeDesc}(ho:o.op = .convert src dst x)(hx:ρ x = .int k n)(hs:P.underlying src=some d)(hd:P.underlying dst=some (.int k'))(h:R (.int k' (k'.wrap n)) w):Lg P ρ o w R :=
 Nf (v:=.int k' (k'.wrap n)) (w':=w) (by simp[execOp,ho,hx,convert,run_underlying hs,run_underlying hd,Conv.intToInt]) h
theorem aGu{ty:TypeId}{x:Operand}{a:Addr}{v:Value}{k:IntKind}(ho:o.op = .load ty x)(hx:ρ x = .pointer (some a))(hc:w.cell? a=some v)(hu:P.underlying ty=some (.int k))(h:R v w):Lg P ρ o w R :=
 Nf (v:=v) (w':=w) (by simp[execOp,ho,hx,Instr.loadAt,Instr.sureAddr,loadVar,isAgg,run_underlying hu,hc]) h
end
open Go.RowKit
def ON:Value->List Nat
 | .tuple vs=>vs.toList.filterMap fun | .int .i64 n=>some n.toNat|_=>none
 | _=>[]
def OZ(ms:List Nat):Value:=.tuple (ms.map fun D:Nat=>Value.int .i64 (D:Int)).toArray
theorem Tx(ms:List Nat):ON (OZ ms)=ms:=by
 unfold ON OZ
 induction ms with
 | nil=>rfl
 | cons D ms ih=>simpa using ih
def Va(v:Value):List Deferred:=(ON v).map fun D=>{ target:=.collected D,args:=#[] }
structure Fr (N:Nat) (F:Nat->Value) (a:Act):Prop where
  size:a.tmps.size=N
  defers:a.defers=Va (F N)
  at':∀ t,Nat.blt t N=true->a.tmps.getD t undef=F t
def ev(F:Nat->Value):Operand->Value
 | .tmp t=>F t
 | .const v=>v
 | .global g=>.pointer (some ⟨g,0,none⟩)
 | .func f=>.func (.func f) #[] #[]
def M3(N:Nat)(F:Nat->Value):Nat->Value:=fun t=>cond (Nat.blt t N) (F t) undef
theorem R6(a:Act):a.eval=ev (fun t=>a.tmps.getD t undef):=by funext x;cases x <;> rfl
theorem Fr.cut{N:Nat}{F:Nat->Value}{a:Act}(h:Fr N F a):(fun t=>a.tmps.getD t undef)=M3 N F:=by
 funext t
 unfold M3
 cases hb:Nat.blt t N with
 | true=>exact h.at' t hb
 | false =>
  have hle:N<=t:=by
   rcases Nat.lt_or_ge t N with h1|h1
   ·have hb2:Nat.blt t N=true:=by simpa [Nat.blt_eq] using h1
    rw[hb2] at hb;cases hb
   ·exact h1
  simp[Array.getD_eq_getD_getElem?,Array.getElem?_eq_none (by rw[h.size];exact hle)]
theorem Fr.eval{N:Nat}{F:Nat->Value}{a:Act}(h:Fr N F a):a.eval=ev (M3 N F):=by rw[R6,h.cut]
def up(F:Nat->Value)(d:Nat)(v:Value):Nat->Value:=fun t=>cond (Nat.beq t d) v (F t)
def OQ(F:Nat->Value):Option Tmp->Value->Nat->Value
 | none,_=>F
 | some d,v=>up F d v
def OD(N:Nat):Option Tmp->Bool
 | none=>true
 | some d=>Nat.blt d N
theorem Fr.put{N:Nat}{F:Nat->Value}{a:Act}(h:Fr N F a){d:Option Tmp}(hd:OD N d=true)(v:Value):Fr N (OQ F d v) (a.put d v):=by
 cases d with
 | none=>exact h
 | some d =>
  have hdn:d<N:=by simpa [OD,Nat.blt_eq] using hd
  have hlt:d<a.tmps.size:=by rw[h.size];exact hdn
  have hN:up F d v N=F N:=by
   unfold up
   cases hb:Nat.beq N d with
   | false=>rfl
   | true=>exact absurd (Nat.eq_of_beq_eq_true hb) (Nat.ne_of_gt hdn)
  refine⟨by rw[← h.size];simp[Act.put],?_,fun t ht=>?_⟩
  ·show a.defers=Va (up F d v N)
   rw[hN];exact h.defers
  ·show (a.tmps.setIfInBounds d v).getD t undef=up F d v t
   unfold up
   by_cases e:t=d
   ·subst e;simp[Array.getD_eq_getD_getElem?,hlt]
   ·have:Nat.beq t d=false:=by
     cases hb:Nat.beq t d with
     | false=>rfl
     | true=>exact absurd (Nat.eq_of_beq_eq_true hb) e
    rw[this,cond_false,← h.at' t ht]
    simp only[Array.getD_eq_getD_getElem?,Array.getElem?_setIfInBounds_ne (Ne.symm e)]
def Fp(N:Nat)(Q:(Exit->(Nat->Value)->World->Prop)):Exit->Act->World->Prop:=fun e a w=>∃ F,Fr N F a/\Q e F w
def Xf:Option Nat->Fence
 | none=>Fence.wide
 | some 0=>Fence.wide
 | some (l+1)=>Fence.wide.inRound l
theorem YJ(l:Option Nat)(f:FuncId):(Xf l).fn f:=by
 rcases l with _|_|l <;> trivial
theorem aBb(l:Option Nat):(Xf l).depth=none:=by
 rcases l with _|_|l <;> rfl
def wq(l:Option Nat)(P:Program)(N:Nat)(c:Code)(Q:(Exit->(Nat->Value)->World->Prop))(F:Nat->Value)(w:World):Prop:=∀ a,Fr N F a->c.wpIn (Xf l) 0 P (Fp N Q) a w
theorem YH{P:Program}{ρ:Operand->Value}{o:Oper}{w:World}{R:Value->World->Prop}(h:Lg P ρ o w R):∀ c,o.op ≠ .defer c:=by
 intro c hc
 unfold Lg at h
 simp only[execOp,hc,Sem.run_bind] at h
 cases hr:(resolve ρ c o.type).run P w with
 | ok d w'=>simp[hr] at h
 | halt x w'=>simp[hr] at h
theorem aAO{l:Option Nat}{n:Nat}{P:Program}{f:FuncId}{args:Array Value}{w:World}{R:Ending->World->Prop}(h:Calls P f args w R):CallsIn (Xf l) n P f args w R:=by
 rcases l with _|_|l
 ·exact callsIn_wide.2 h
 ·exact callsIn_wide.2 h
 ·exact CallsIn.inRound l (callsIn_wide.2 h)
theorem Lg.wpIn{l:Option Nat}{P:Program}{a:Act}{o:Oper}{w:World}{K:Act->World->Prop}{Q:Exit->Act->World->Prop}(h:Lg P a.eval o w (fun v w'=>K (a.put o.dst v) w')):o.wpIn (Xf l) 0 P a w K Q:=by
 refine⟨fun f _=>YJ l f,?_⟩
 rw[Oper.semAt_eq _ _ _ (YH h)]
 unfold Lg at h
 generalize (execOp a.eval o).run P w=r at *
 cases r with
 | ok n w' =>
  cases n <;> simp only at h <;> first
   | exact h
   | exact h.elim
   | exact⟨fun e=>(by rw[aBb] at e;cases e),(aAO h).mono (fun e w'' ⟨v,he,hk⟩=>by subst he;exact hk)⟩
 | halt x w'=>exact h.elim
def Vw(next:(Nat->Value)->World->Prop)(Q:(Exit->(Nat->Value)->World->Prop)):(Exit->(Nat->Value)->World->Prop)
 | .normal,F,w=>next F w
 | e,F,w=>Q e F w
def inP(id:Nat)(Q:(Exit->(Nat->Value)->World->Prop)):(Exit->(Nat->Value)->World->Prop)
 | .exit id',F,w=>if id'=id then Q .normal F w else Q (.exit id') F w
 | e,F,w=>Q e F w
section
variable {l:Option Nat} {P:Program} {N:Nat} {Q:(Exit->(Nat->Value)->World->Prop)} {F:Nat->Value} {w:World}
theorem KK{next:(Nat->Value)->World->Prop}(h:next F w):Vw next Q .normal F w:=h
theorem Lp{next:(Nat->Value)->World->Prop}{id:Nat}(h:Q (.exit id) F w):Vw next Q (.exit id) F w:=h
theorem Lx{next:(Nat->Value)->World->Prop}(h:Q .ret F w):Vw next Q .ret F w:=h
theorem Lz{id:Nat}(h:Q .normal F w):inP id Q .normal F w:=h
theorem Mk{id:Nat}(h:Q .normal F w):inP id Q (.exit id) F w:=by simp only[inP,if_true];exact h
theorem RF{id id':Nat}(hn:id'≠id)(h:Q (.exit id') F w):inP id Q (.exit id') F w:=by simp only[inP,if_neg hn];exact h
theorem Ot{id:Nat}(h:Q .ret F w):inP id Q .ret F w:=h
theorem KM{x y:Code}(h:wq l P N x (Vw (wq l P N y Q) Q) F w):wq l P N (.seq x y) Q F w:=by
 intro a ha
 refine wpIn_seq (wpIn_mono (h a ha) ?_)
 rintro e a' w' ⟨F',hF,hq⟩
 cases e <;> first|exact hq a' hF|exact⟨F',hF,hq⟩
theorem Lf(h:Q .normal F w):wq l P N .skip Q F w:=fun _ ha=>wpIn_skip ⟨F,ha,h⟩
theorem Mm{id:Nat}(h:Q (.exit id) F w):wq l P N (.exit id) Q F w:=fun _ ha=>wpIn_exit ⟨F,ha,h⟩
theorem Le(h:Q .ret F w):wq l P N .ret Q F w:=fun _ ha=>wpIn_ret ⟨F,ha,h⟩
theorem K5{c:Operand}{x y:Code}{t:Bool}(hc:ev (M3 N F) c = .bool t)(ht:t=true->wq l P N x Q F w)(hf:t=false->wq l P N y Q F w):wq l P N (.cond c x y) Q F w :=
 fun a ha=>wpIn_cond_split (by rw[ha.eval];exact hc) (fun e=>ht e a ha) (fun e=>hf e a ha)
theorem Lm{id:Nat}{c:Code}(h:wq l P N c (inP id Q) F w):wq l P N (.block id c) Q F w:=by
 intro a ha
 refine wpIn_block (wpIn_mono (h a ha) ?_)
 rintro e a' w' ⟨F',hF,hq⟩
 cases e with
 | exit id' =>
  simp only[inP] at hq
  simp only[Exit.inBlock]
  split
  ·rename_i e;rw[if_pos e] at hq;exact⟨F',hF,hq⟩
  ·rename_i e;rw[if_neg e] at hq;exact⟨F',hF,hq⟩
 | _=>exact⟨F',hF,hq⟩
theorem M8{c:Code}(I:Nat->(Nat->Value)->World->Prop)(n0:Nat)(h0:I n0 F w)
  (round:∀ n F w,I n F w->wq l P N c (Vw (fun F' w'=>∃ n',n'<n/\I n' F' w') Q) F w):wq l P N (.loop c) Q F w:=by
 intro a ha
 refine wpIn_loop (fun a w=>∃ n,∃ F,Fr N F a/\I n F w) (fun a w=>leastOf (fun n=>∃ F,Fr N F a/\I n F w)) ⟨n0,F,ha,h0⟩ ?_
 intro a w hex
 have hl:=leastOf_spec hex
 generalize leastOf (fun n=>∃ F,Fr N F a/\I n F w)=n at hl
 obtain⟨⟨F,hF,hI⟩,_⟩:=hl
 refine wpIn_mono (round n F w hI a hF) ?_
 rintro e a' w' ⟨F',hF',hq⟩
 cases e with
 | normal =>
  obtain⟨n',hlt,hI'⟩:=hq
  refine⟨⟨n',F',hF',hI'⟩,Nat.lt_of_le_of_lt ?_ hlt⟩
  exact(leastOf_spec (p:=fun n=>∃ F,Fr N F a'/\I n F w') ⟨n',F',hF',hI'⟩).2 n' ⟨F',hF',hI'⟩
 | _=>exact⟨F',hF',hq⟩
def lists(l:Option Nat)(P:Program)(ops:Array Oper)(Q:Exit->Act->World->Prop)(rest:List Oper)(a:Act)(w:World):Prop :=
 match l with
 | none=>wpList P ops Q rest a w
 | some l=>wpListIn (Xf (some l)) 0 P ops Q rest a w
def wl(l:Option Nat)(P:Program)(N:Nat)(ops:Array Oper)(Q:(Exit->(Nat->Value)->World->Prop))(rest:List Oper)(F:Nat->Value)(w:World):Prop:=∀ a,Fr N F a->lists l P ops (Fp N Q) rest a w
theorem WN{l:Option Nat}{P:Program}{ops:Array Oper}{Q:Exit->Act->World->Prop}{o:Oper}{rest:List Oper}{a:Act}{w:World}(hw:Region.wanted o (yielded ops a.tmps)=true)(h:Lg P a.eval o w (fun v w'=>lists l P ops Q rest (a.put o.dst v) w')):lists l P ops Q (o::rest) a w:=by
 cases l with
 | none =>
  refine BigFrame.wpList_want hw fun K hK=>Lg.wp ?_
  revert h
  unfold Lg
  generalize (execOp a.eval o).run P w=r
  intro h
  cases r with
  | ok n w' =>
   cases n <;> simp only at h ⊢ <;> first
    | exact hK _ _ h
    | exact h.elim
    | exact Calls.mono h (fun e w'' ⟨v,he,hk⟩=>⟨v,he,hK _ _ hk⟩)
  | halt x w'=>exact h.elim
 | some l =>
  refine wpListIn_step fun K hK=>?_
  rw[if_pos hw]
  refine Lg.wpIn (l:=some l) ?_
  revert h
  unfold Lg
  generalize (execOp a.eval o).run P w=r
  intro h
  cases r with
  | ok n w' =>
   cases n <;> simp only at h ⊢ <;> first
    | exact hK _ _ h
    | exact h.elim
    | exact Calls.mono h (fun e w'' ⟨v,he,hk⟩=>⟨v,he,hK _ _ hk⟩)
  | halt x w'=>exact h.elim
theorem ay4{l:Option Nat}{P:Program}{ops:Array Oper}{Q:Exit->Act->World->Prop}{o:Oper}{rest:List Oper}{a:Act}{w:World}(hw:Region.wanted o (yielded ops a.tmps)=false)(h:lists l P ops Q rest (a.put o.dst undef) w):lists l P ops Q (o::rest) a w:=by
 cases l with
 | none =>
  show wpList P ops Q (o::rest) a w
  unfold wpList
  rw[hw];exact h
 | some l =>
  show wpListIn (Xf (some l)) 0 P ops Q (o::rest) a w
  unfold wpListIn
  rw[hw];exact⟨fun f _=>YJ _ f,h⟩
theorem Yc{l:Option Nat}{P:Program}{Q:Exit->Act->World->Prop}{id:Nat}{ops:List Oper}{a:Act}{w:World}(h:lists l P ops.toArray Q ops a w):(Code.region id ops.toArray false).wpIn (Xf l) 0 P Q a w:=by
 cases l with
 | none=>exact wpIn_wide.2 (wp_region_lit h)
 | some l=>exact wpIn_region_lit h
theorem XD{l:Option Nat}{P:Program}{ops:Array Oper}{Q:Exit->Act->World->Prop}{a:Act}{w:World}(h:Q .normal a w):lists l P ops Q [] a w:=by
 cases l <;> exact h
theorem KL{id:Nat}{os:List Oper}(h:wl l P N os.toArray Q os F w):wq l P N (.region id os.toArray false) Q F w:=fun a ha=>Yc (h a ha)
theorem PQ{ops:Array Oper}(h:∀ F',(∀ t,F' t=F t)->Q .normal F' w):wl l P N ops Q [] F w:=fun _ ha=>XD ⟨F,ha,h F fun _=>rfl⟩
theorem KQ{ops:Array Oper}(h:Q .normal F w):wl l P N ops Q [] F w:=fun _ ha=>XD ⟨F,ha,h⟩
theorem K4(v:Value):v=v:=rfl
theorem az3{N:Nat}{F:Nat->Value}{a:Act}{l:Option Nat}{P:Program}{ops:Array Oper}{Q:(Exit->(Nat->Value)->World->Prop)}{o:Oper}{rest:List Oper}{w:World}(ha:Fr N F a)(hd:OD N o.dst=true)(h:Lg P (ev (M3 N F)) o w (fun v w'=>wl l P N ops Q rest (OQ F o.dst v) w')) :
  Lg P a.eval o w (fun v w'=>lists l P ops (Fp N Q) rest (a.put o.dst v) w'):=by
 rw[← ha.eval] at h
 revert h
 unfold Lg
 generalize (execOp a.eval o).run P w=r
 intro h
 cases r with
 | ok n w' =>
  cases n <;> simp only at h ⊢ <;> first
   | exact h _ (ha.put hd _)
   | exact h.elim
   | exact Calls.mono h (fun e w'' ⟨v,he,hk⟩=>⟨v,he,hk _ (ha.put hd _)⟩)
 | halt x w'=>exact h.elim
theorem NV{ops:Array Oper}{o:Oper}{rest:List Oper}(hg:o.guard=none)(hd:OD N o.dst=true)(h:Lg P (ev (M3 N F)) o w (fun v w'=>wl l P N ops Q rest (OQ F o.dst v) w')):wl l P N ops Q (o::rest) F w :=
 fun _ ha=>WN (by unfold Region.wanted;rw[hg]) (az3 ha hd h)
theorem V9{ops:Array Oper}{a:Act}{j:Nat}{d:Tmp}(ha:Fr N F a)(hj:(ops[j]?).bind (·.dst)=some d)(hd:Nat.blt d N=true):yielded ops a.tmps j=match F d with | .bool b=>some b|_=>none:=by
 have hlt:d<a.tmps.size:=by rw[ha.size];simpa [Nat.blt_eq] using hd
 have he:a.tmps[d]=F d:=by rw[← ha.at' d hd];simp[Array.getD,hlt]
 unfold yielded
 rw[hj]
 simp only[Option.bind_some,Array.getElem?_eq_getElem hlt,he]
 cases F d <;> rfl
theorem az9{ops:Array Oper}{o:Oper}{rest:List Oper}(j:Nat)(want:Bool)(d:Tmp)(hg:o.guard=some (j,want))(hj:(ops[j]?).bind (·.dst)=some d)(hdn:Nat.blt d N=true)(hv:F d = .bool want)(hd:OD N o.dst=true)
  (h:Lg P (ev (M3 N F)) o w (fun v w'=>wl l P N ops Q rest (OQ F o.dst v) w')):wl l P N ops Q (o::rest) F w:=by
 intro a ha
 refine WN ?_ (az3 ha hd h)
 unfold Region.wanted
 rw[hg]
 simp only[V9 ha hj hdn,hv]
 simp
theorem Th{ops:Array Oper}{o:Oper}{rest:List Oper}(j:Nat)(want:Bool)(d:Tmp)(hg:o.guard=some (j,want))(hj:(ops[j]?).bind (·.dst)=some d)(hdn:Nat.blt d N=true)(hv:F d = .bool (!want)\/F d=undef)(hd:OD N o.dst=true)
  (h:wl l P N ops Q rest (OQ F o.dst undef) w):wl l P N ops Q (o::rest) F w:=by
 intro a ha
 refine ay4 ?_ (h _ (ha.put hd _))
 unfold Region.wanted
 rw[hg]
 simp only[V9 ha hj hdn]
 rcases hv with hv|hv <;> rw[hv]
 ·cases want <;> simp
 ·simp[undef]
theorem LH{ops:Array Oper}{o:Oper}{rest:List Oper}{R:Value->World->Prop}(hg:o.guard=none)(hd:OD N o.dst=true)(hy:Lg P (ev (M3 N F)) o w R)(h:∀ v w',R v w'->wl l P N ops Q rest (OQ F o.dst v) w'):wl l P N ops Q (o::rest) F w:=by
 refine NV hg hd ?_
 revert hy
 unfold Lg
 generalize (execOp (ev (M3 N F)) o).run P w=r
 intro hy
 cases r with
 | ok n w' =>
  cases n <;> simp only at hy ⊢ <;> first
   | exact h _ _ hy
   | exact hy.elim
   | exact Calls.mono hy (fun e w'' ⟨v,he,hk⟩=>⟨v,he,h _ _ hk⟩)
 | halt x w'=>exact hy.elim
def Ol(D:List (Option Tmp))(G:Nat->Value->World->Prop)(F:Nat->Value)(w:World):List Edge->Prop
 | []=>True
 | e::r=>(Region.binds .any e=true->match D.getD e.on none with
  | some d=>G e.on (F d) w
  | none=>True)/\Ol D G F w r
theorem RS.toF{D:List (Option Tmp)}{G:Nat->Value->World->Prop}{a:Act}{w:World}:∀ {es:List Edge},RS D G a w es->Ol D G (fun t=>a.tmps.getD t undef) w es:=by
 intro es
 induction es with
 | nil=>intro _;exact trivial
 | cons e r ih=>intro h;exact⟨h.1,ih h.2⟩
theorem Ol.get{D:List (Option Tmp)}{G:Nat->Value->World->Prop}{F:Nat->Value}{w:World}:∀ {es:List Edge} (k:Nat) {e:Edge} {d:Tmp},Ol D G F w es->es[k]? = some e->Region.binds .any e=true->D.getD e.on none=some d->G e.on (F d) w:=by
 intro es
 induction es with
 | nil=>intro k e d _ h;simp at h
 | cons x r ih =>
  intro k e d h hk hb hd
  cases k with
  | zero =>
   simp at hk
   subst hk
   have:=h.1 hb
   rw[hd] at this
   exact this
  | succ k=>exact ih k h.2 (by simpa using hk) hb hd
def Ld(N:Nat)(P:Program)(D:List (Option Tmp))(Gs:List Pd)(F0:Nat->Value)(w0:World)(i:Nat)(o:Oper):Prop :=
 ∀ (F:Nat->Value) (w:World),KR (fun _=>False) w0 w->(∀ t,Nat.blt t N=true->some t∉D->F t=F0 t)->Ol D (RE Gs) F w o.after.toList →
  match o.guard with
  | none=>Lg P (ev F) o w (fun v w'=>RE Gs i v w'/\KR (fun _=>False) w w')
  | some (j,want)=>∃ d,D.getD j none=some d ∧
   ((F d = .bool want/\Lg P (ev F) o w (fun v w'=>RE Gs i v w'/\KR (fun _=>False) w w'))\/((F d = .bool (!want)\/F d=undef)/\RE Gs i undef w))
def RX(N:Nat)(P:Program)(D:List (Option Tmp))(Gs:List Pd)(F0:Nat->Value)(w0:World):Nat->List Oper->Prop
 | _,[]=>True
 | i,o::r=>Ld N P D Gs F0 w0 i o/\RX N P D Gs F0 w0 (i+1) r
theorem Ld.step{D:List (Option Tmp)}{Gs:List Pd}{w0:World}{i:Nat}{o:Oper}{a0:Act}(ha:Fr N F a0)(h:Ld N P D Gs F w0 i o):aDN P (KR (fun _=>False)) D (RE Gs) a0 w0 i o:=by
 intro a w hR hout hD
 have h1:=h (fun t=>a.tmps.getD t undef) w hR (fun t hb ht=>by rw[← ha.at' t hb];exact hout t ht) hD.toF
 rw[← R6 a] at h1
 unfold Qs
 cases hg:o.guard with
 | none=>rw[hg] at h1;exact⟨fun _=>h1,fun e=>by cases e⟩
 | some g =>
  obtain⟨j,want⟩:=g
  rw[hg] at h1
  obtain⟨d,hd,h1⟩:=h1
  simp only[hd]
  have hev:a.eval (.tmp d)=a.tmps.getD d undef:=rfl
  rcases h1 with ⟨hv,hy⟩ | ⟨hv,hs⟩
  ·rw[hev,hv];exact⟨fun _=>hy,fun e=>by simp at e⟩
  ·refine⟨fun e=>?_,fun _=>hs⟩
   rcases hv with hv|hv
   ·rw[hev,hv] at e;cases want <;> simp at e
   ·rw[hev,hv] at e;simp[undef] at e
theorem RX.steps{D:List (Option Tmp)}{Gs:List Pd}{w0:World}{a0:Act}(ha:Fr N F a0):∀ {os:List Oper} {i:Nat},RX N P D Gs F w0 i os->Steps P (KR (fun _=>False)) D (RE Gs) a0 w0 i os:=by
 intro os
 induction os with
 | nil=>intro i _;exact trivial
 | cons o r ih=>intro i h;exact⟨h.1.step ha,ih h.2⟩
theorem Mj{D:List (Option Tmp)}{Gs:List Pd}{F0:Nat->Value}{w0:World}{i:Nat}:RX N P D Gs F0 w0 i []:=trivial
theorem KP{D:List (Option Tmp)}{Gs:List Pd}{F0:Nat->Value}{w0:World}{i:Nat}{o:Oper}{r:List Oper}(h:Ld N P D Gs F0 w0 i o)(k:RX N P D Gs F0 w0 (i+1) r):RX N P D Gs F0 w0 i (o::r):=⟨h,k⟩
theorem Ld.one{D:List (Option Tmp)}{Gs:List Pd}{F0:Nat->Value}{w0:World}{i:Nat}{o:Oper}(hg:o.guard=none)
  (h:∀ (F:Nat->Value) (w:World),KR (fun _=>False) w0 w->(∀ t,Nat.blt t N=true->some t∉D->F t=F0 t)->Ol D (RE Gs) F w o.after.toList->Lg P (ev F) o w (fun v w'=>RE Gs i v w'/\KR (fun _=>False) w w')):Ld N P D Gs F0 w0 i o:=by
 intro F w h1 h2 h3
 rw[hg]
 exact h F w h1 h2 h3
def Q9(v:Nat->Value):Nat->List (Option Tmp)->(Nat->Value)->Nat->Value
 | _,[],F=>F
 | i,d::r,F=>Q9 v (i+1) r (OQ F d (v i))
theorem OS{size:Nat}:∀ {i:Nat} {D:List (Option Tmp)} {os:List Oper},plain size i D os=true->∀ d∈D,OD size d=true:=by
 intro i D os
 induction os generalizing i D with
 | nil =>
  intro h
  cases D with
  | nil=>intro d hd;cases hd
  | cons d D=>simp[plain] at h
 | cons o r ih =>
  intro h
  cases D with
  | nil=>intro d hd;cases hd
  | cons x D =>
   simp only[plain,Bool.and_eq_true] at h
   obtain⟨⟨⟨h1,h2⟩,h3⟩,h4⟩:=h
   intro d hd
   rcases List.mem_cons.1 hd with rfl|hd
   ·cases d with
    | none=>rfl
    | some d =>
     simp only[Bool.and_eq_true,decide_eq_true_eq] at h2
     simpa [OD,Nat.blt_eq] using h2.1
   ·exact ih h4 d hd
theorem Py(v:Nat->Value):∀ (D:List (Option Tmp)) (i:Nat) (F:Nat->Value) (a:Act),Fr N F a->(∀ d∈D,OD N d=true)->Fr N (Q9 v i D F) (MI v i D a):=by
 intro D
 induction D with
 | nil=>intro i F a h _;exact h
 | cons d r ih=>intro i F a h hf;exact ih (i+1) _ _ (h.put (hf d (by simp)) _) (fun x hx=>hf x (by simp[hx]))
theorem RZ{id:Nat}{ops:Array Oper}(D:List (Option Tmp))(Gs:List Pd)(hm:P.follows .mixedOrders=true)(hpl:plain N 0 D ops.toList=true)(hsteps:RX N P D Gs F w 0 ops.toList)
  (hend:∀ (v:Nat->Value) (F':Nat->Value) (w':World),KR (fun _=>False) w w'->(∀ i,i<ops.size->RE Gs i (v i) w')->(∀ t,F' t=Q9 v 0 D F t)->Q .normal F' w'):wq none P N (.region id ops true) Q F w:=by
 intro a ha
 refine wpIn_wide.2 ?_
 refine WZ D Gs hm (by rw[ha.size];exact hpl) (hsteps.steps ha) fun v w' hk hG=>?_
 exact⟨Q9 v 0 D F,Py v D 0 F a ha (OS hpl),hend v _ w' hk hG fun _=>rfl⟩
theorem NJ{id:Nat}{ops:Array Oper}(n:Nat)(D:List (Option Tmp))(Gs:List Pd)(hm:P.follows .mixedOrders=true)(hta:TL ops.toList n=true)(hpl:plain N 0 D (ops.toList.take n)=true)(hsteps:RX N P D Gs F w 0 (ops.toList.take n))
  (hend:∀ (v:Nat->Value) (F':Nat->Value) (w':World),KR (fun _=>False) w w'->(∀ i,i<n->RE Gs i (v i) w')->(∀ t,F' t=Q9 v 0 D F t)->wl none P N ops Q (ops.toList.drop n) F' w'):wq none P N (.region id ops true) Q F w:=by
 intro a ha
 refine wpIn_wide.2 ?_
 refine We n D Gs hm hta (by rw[ha.size];exact hpl) (hsteps.steps ha) fun v w' hk hG=>?_
 exact hend v _ w' hk hG (fun _=>rfl) _ (Py v D 0 F a ha (OS hpl))
end
def Z5(P:Program)(fn:Func)(N:Nat)(R:Ending->World->Prop):(Exit->(Nat->Value)->World->Prop)
 | .normal,F,w | .ret,F,w=>F N=undef/\∀ a,Fr N F a->∃ v,(results fn a.tmps).run P w = .ok v w/\R (.returned v) w
 | _,_,_=>False
def ZB(args:List Value):Nat->Value:=fun t=>args.getD t undef
theorem Ly{P:Program}{f:FuncId}{fn:Func}{c:Code}{args:List Value}{w:World}{R:Ending->World->Prop}(N:Nat)(hf:P.funcs[f]? = some fn)(hb:fn.body=some c)(hn:fn.ntmps=N)(hl:args.length<=N)
  (h:wq none P N c (Z5 P fn N R) (ZB args) w):Calls P f args.toArray w R:=by
 refine calls_of_wp hf hb ?_
 subst hn
 have hs:(args.toArray++Array.replicate (fn.ntmps-args.toArray.size) undef).size=fn.ntmps:=by simp;omega
 have hu:ZB args fn.ntmps=undef:=by
  unfold ZB
  rw[List.getD_eq_getElem?_getD,List.getElem?_eq_none hl];rfl
 refine wp_mono (wpIn_wide.1 (h _ ⟨hs,by rw[hu];rfl,fun t _=>?_⟩)) ?_
 ·unfold ZB
  simp only[Array.getD_eq_getD_getElem?,List.getD_eq_getElem?_getD]
  by_cases h1:t<args.length
  ·rw[Array.getElem?_append_left (by simpa using h1)];simp
  ·rw[Array.getElem?_append_right (by simp;omega),List.getElem?_eq_none (by omega)]
   by_cases h2:t<fn.ntmps
   ·rw[Array.getElem?_replicate];split <;> rfl
   ·rw[Array.getElem?_eq_none (by simp;omega)]
 ·rintro e a' w' ⟨F',hF,hq⟩
  cases e <;> first
   | exact⟨by rw[hF.defers,hq.1];rfl,hq.2 a' hF⟩
   | exact hq.elim
section
variable {P:Program} {fn:Func} {N:Nat} {R:Ending->World->Prop} {F:Nat->Value} {w:World}
theorem LC{t:Tmp}{v:Value}(hm:F N=undef)(ht:Nat.blt t N=true)(h:fn.results = #[.tmp t])(hv:F t=v)(hR:R (.returned v) w):Z5 P fn N R .ret F w :=
 ⟨hm,fun a ha=>⟨v,by rw[results_tmp h];rw[ha.at' t ht,hv],hR⟩⟩
theorem ZC(hm:F N=undef)(h:fn.results = #[])(hR:R (.returned (.tuple #[])) w):Z5 P fn N R .normal F w:=⟨hm,fun _ _=>⟨_,results_none h _ _ _,hR⟩⟩
theorem X1(hm:F N=undef)(h:fn.results = #[])(hR:R (.returned (.tuple #[])) w):Z5 P fn N R .ret F w:=⟨hm,fun _ _=>⟨_,results_none h _ _ _,hR⟩⟩
def Ts(P:Program)(N:Nat)(F:Nat->Value)(w:World):ResultVar->Value->Prop
 | .tmp t,v=>Nat.blt t N=true/\F t=v
 | .cell a t,v=>Nat.blt a N=true/\∃ ad,F a = .pointer (some ad)/\(loadVar t ad).run P w = .ok v w
theorem LF{t:Tmp}{v:Value}(ht:Nat.blt t N=true)(h:F t=v):Ts P N F w (.tmp t) v:=⟨ht,h⟩
theorem Mo{r1 r2:ResultVar}{v1 v2:Value}(hm:F N=undef)(h:fn.results = #[r1,r2])(h1:Ts P N F w r1 v1)(h2:Ts P N F w r2 v2)
  (hR:R (.returned (.tuple #[v1,v2])) w):Z5 P fn N R .ret F w:=by
 refine⟨hm,fun a ha=>⟨_,?_,hR⟩⟩
 cases r1 <;> cases r2 <;> simp only[Ts] at h1 h2
 ·obtain⟨b1,h1⟩:=h1;obtain⟨b2,h2⟩:=h2
  rw[← ha.at' _ b1] at h1;rw[← ha.at' _ b2] at h2
  simp[results,h] at *;simp[h1,h2]
 ·obtain⟨b1,h1⟩:=h1;obtain⟨b2,ad,e,hl⟩:=h2
  rw[← ha.at' _ b1] at h1;rw[← ha.at' _ b2] at e
  simp[results,h] at *;simp[h1,e,asAddr,hl]
 ·obtain⟨b1,ad,e,hl⟩:=h1;obtain⟨b2,h2⟩:=h2
  rw[← ha.at' _ b2] at h2;rw[← ha.at' _ b1] at e
  simp[results,h] at *;simp[h2,e,asAddr,hl]
 ·obtain⟨b1,ad,e,hl⟩:=h1;obtain⟨b2,ad2,e2,hl2⟩:=h2
  rw[← ha.at' _ b1] at e;rw[← ha.at' _ b2] at e2
  simp[results,h] at *;simp[e,e2,asAddr,hl,hl2]
end
open Go.RowKit
theorem LX{x:Int}{m:Nat}(h:x=(m:Int))(hm:m<=9223372036854775807):IntKind.i64.wrap x=(m:Int):=by subst h;exact IntWalk.i64_in _ (by omega)
theorem Mn{x y:Int}(h:x=y)(hy : -9223372036854775808<=y/\y<=9223372036854775807):IntKind.i64.wrap x=y:=by subst h;exact IntWalk.i64_in _ hy
theorem OJ{P:Program}{ρ:Operand->Value}{o:Oper}{w:World}{R:Value->World->Prop}{v:Value}{w':World}(h:(execOp ρ o).run P w = .ok (.value v) w')(hR:R v w'):Lg P ρ o w R:=by
 unfold Lg;rw[h];exact hR
section
variable {ro:Option Nat} {P:Program} {ρ:Operand->Value} {o:Oper} {w:World} {R:Value->World->Prop}
theorem KT{x:Operand}{v:Value}(ho:o.op = .move x)(hx:ρ x=v)(h:R v w):Lg P ρ o w R:=aEY ho (by rw[hx];exact h)
theorem Pv{x:Operand}{v:Value}(ho:o.op = .assign x)(hx:ρ x=v)(h:R v w):Lg P ρ o w R:=aC5 ho (by rw[hx];exact h)
theorem LB{c x y:Operand}{v:Value}(ho:o.op = .pick c x y)(hc:ρ c = .bool true)(hx:ρ x=v)(h:R v w):Lg P ρ o w R:=ZJ ho hc (by rw[hx];exact h)
theorem Lt{c x y:Operand}{v:Value}(ho:o.op = .pick c x y)(hc:ρ c = .bool false)(hy:ρ y=v)(h:R v w):Lg P ρ o w R:=Yy ho hc (by rw[hy];exact h)
theorem LS{t t':TypeId}{k:IntKind}{x y:Operand}{m n r:Int}(ho:o.op = .binOp .add t x y t')(hx:ρ x = .int k m)(hy:ρ y = .int k n)(hr:k.wrap (m+n)=r)(h:R (.int k r) w):Lg P ρ o w R :=
 OJ (v:=.int k (k.wrap (m+n))) (w':=w) (by simp[execOp,ho,hx,hy,go_sem]) (by rw[hr];exact h)
theorem V8{t t':TypeId}{k:IntKind}{x y:Operand}{m n r:Int}(ho:o.op = .binOp .sub t x y t')(hx:ρ x = .int k m)(hy:ρ y = .int k n)(hr:k.wrap (m-n)=r)(h:R (.int k r) w):Lg P ρ o w R :=
 OJ (v:=.int k (k.wrap (m-n))) (w':=w) (by simp[execOp,ho,hx,hy,go_sem]) (by rw[hr];exact h)
theorem Nb{t t':TypeId}{k:IntKind}{x y:Operand}{m n r:Int}(ho:o.op = .binOp .mul t x y t')(hx:ρ x = .int k m)(hy:ρ y = .int k n)(hr:k.wrap (m*n)=r)(h:R (.int k r) w):Lg P ρ o w R :=
 OJ (v:=.int k (k.wrap (m*n))) (w':=w) (by simp[execOp,ho,hx,hy,go_sem]) (by rw[hr];exact h)
theorem O8{t t':TypeId}{k:IntKind}{x y:Operand}{m n r:Int}(ho:o.op = .binOp .quo t x y t')(hx:ρ x = .int k m)(hy:ρ y = .int k n)(hn:n≠0)(hr:k.wrap (m.tdiv n)=r)(h:R (.int k r) w):Lg P ρ o w R :=
 OJ (v:=.int k (k.wrap (m.tdiv n))) (w':=w) (by simp[execOp,ho,hx,hy,hn,go_sem]) (by rw[hr];exact h)
theorem Rh{t t':TypeId}{k:IntKind}{x y:Operand}{m n r:Int}(ho:o.op = .binOp .rem t x y t')(hx:ρ x = .int k m)(hy:ρ y = .int k n)(hn:n≠0)(hr:m.tmod n=r)(h:R (.int k r) w):Lg P ρ o w R :=
 OJ (v:=.int k (m.tmod n)) (w':=w) (by simp[execOp,ho,hx,hy,hn,go_sem]) (by rw[hr];exact h)
theorem aF3{t:TypeId}{k:IntKind}{x:Operand}{m r:Int}(ho:o.op = .unOp .neg t x)(hx:ρ x = .int k m)(hr:k.wrap (-m)=r)(h:R (.int k r) w):Lg P ρ o w R :=
 OJ (v:=.int k (k.wrap (-m))) (w':=w) (by simp[execOp,ho,hx,go_sem]) (by rw[hr];exact h)
theorem SD{t t':TypeId}{k k':IntKind}{x y:Operand}{m r:Int}(n:Nat)(ho:o.op = .binOp .shr t x y t')(hx:ρ x = .int k m)(hy:ρ y = .int k' (n:Int))(hn:n<=k.bits)(hr:m/2 ^ n=r)(h:R (.int k r) w):Lg P ρ o w R :=
 aF4 ho hx hy hn (by rw[hr];exact h)
theorem N1{src dst:TypeId}{x:Operand}{k k':IntKind}{n r:Int}{d:TypeDesc}(ho:o.op = .convert src dst x)(hx:ρ x = .int k n)(hs:P.underlying src=some d)(hd:P.underlying dst=some (.int k'))(hr:k'.wrap n=r)(h:R (.int k' r) w):Lg P ρ o w R :=
 aFp ho hx hs hd (by rw[hr];exact h)
theorem Mc{t t':TypeId}{k:IntKind}{x y:Operand}{m n:Int}{b:Bool}(ho:o.op = .binOp .lss t x y t')(hx:ρ x = .int k m)(hy:ρ y = .int k n)(hr:decide (m<n)=b)(h:R (.bool b) w):Lg P ρ o w R :=
 OJ (v:=.bool (decide (m<n))) (w':=w) (by simp[execOp,ho,hx,hy,go_sem]) (by rw[hr];exact h)
theorem Vx{t t':TypeId}{k:IntKind}{x y:Operand}{m n:Int}{b:Bool}(ho:o.op = .binOp .leq t x y t')(hx:ρ x = .int k m)(hy:ρ y = .int k n)(hr:decide (m<=n)=b)(h:R (.bool b) w):Lg P ρ o w R :=
 OJ (v:=.bool (decide (m<=n))) (w':=w) (by simp[execOp,ho,hx,hy,go_sem]) (by rw[hr];exact h)
theorem RN{t t':TypeId}{k:IntKind}{x y:Operand}{m n:Int}{b:Bool}(ho:o.op = .binOp .gtr t x y t')(hx:ρ x = .int k m)(hy:ρ y = .int k n)(hr:decide (n<m)=b)(h:R (.bool b) w):Lg P ρ o w R :=
 OJ (v:=.bool (decide (n<m))) (w':=w) (by simp[execOp,ho,hx,hy,go_sem]) (by rw[hr];exact h)
theorem NO{t t':TypeId}{k:IntKind}{x y:Operand}{m n:Int}{b:Bool}(ho:o.op = .binOp .geq t x y t')(hx:ρ x = .int k m)(hy:ρ y = .int k n)(hr:decide (n<=m)=b)(h:R (.bool b) w):Lg P ρ o w R :=
 OJ (v:=.bool (decide (n<=m))) (w':=w) (by simp[execOp,ho,hx,hy,go_sem]) (by rw[hr];exact h)
theorem MA{t t':TypeId}{k:IntKind}{x y:Operand}{m n:Int}{b:Bool}(ho:o.op = .binOp .eql t x y t')(hx:ρ x = .int k m)(hy:ρ y = .int k n)(hr:decide (m=n)=b)(h:R (.bool b) w):Lg P ρ o w R :=
 aAZ ho hx hy (by rw[show (m==n)=b from hr];exact h)
theorem Mw{t t':TypeId}{k:IntKind}{x y:Operand}{m n:Int}{b:Bool}(ho:o.op = .binOp .neq t x y t')(hx:ρ x = .int k m)(hy:ρ y = .int k n)(hr:decide (m≠n)=b)(h:R (.bool b) w):Lg P ρ o w R:=by
 refine OJ (v:=.bool (m != n)) (w':=w) (by simp[execOp,ho,hx,hy,go_sem,bne]) ?_
 rw[show (m != n)=b by rw[← hr];by_cases e:m=n <;> simp[bne,e]];exact h
theorem Mq{t:TypeId}{x:Operand}{b c:Bool}(ho:o.op = .unOp .not t x)(hx:ρ x = .bool b)(hr:(!b)=c)(h:R (.bool c) w):Lg P ρ o w R :=
 OJ (v:=.bool (!b)) (w':=w) (by simp[execOp,ho,hx,go_sem]) (by rw[hr];exact h)
theorem RB{ts:Array TypeId}{k:IntKind}{x y:Operand}{m n r:Int}(ho:o.op = .call { callee:=.builtin .min,args:=#[x,y],argTypes:=ts })(hx:ρ x = .int k m)(hy:ρ y = .int k n)(he:min m n=r)(h:R (.int k r) w):Lg P ρ o w R:=by
 have e:(if n<m then n else m)=min m n:=by split <;> omega
 have hr:=run_min_int2 (P:=P) w ts o.type k k m n
 rw[e,he] at hr
 exact OJ (v:=.int k r) (w':=w) (by simp only[execOp,ho,resolve,invoke,builtin,Sem.run_bind,Sem.run_pure,Result.andThen_ok,List.map_toArray,List.map_cons,List.map_nil,hx,hy,hr]) h
theorem R9{ts:Array TypeId}{k:IntKind}{x y:Operand}{m n r:Int}(ho:o.op = .call { callee:=.builtin .max,args:=#[x,y],argTypes:=ts })(hx:ρ x = .int k m)(hy:ρ y = .int k n)(he:max m n=r)(h:R (.int k r) w):Lg P ρ o w R:=by
 have e:(if n > m then n else m)=max m n:=by split <;> omega
 have hr:=run_max_int2 (P:=P) w ts o.type k k m n
 rw[e,he] at hr
 exact OJ (v:=.int k r) (w':=w) (by simp only[execOp,ho,resolve,invoke,builtin,Sem.run_bind,Sem.run_pure,Result.andThen_ok,List.map_toArray,List.map_cons,List.map_nil,hx,hy,hr]) h
theorem L3{t e:TypeId}{n b off off' s:Nat}{k:IntKind}{x ix:Operand}(j:Nat){i:Int}(ho:o.op = .indexAddr t x ix)(hx:ρ x = .pointer (some ⟨b,off,none⟩))(hi:ρ ix = .int k i)(hij:i=(j:Int))(hu:P.underlying t=some (.array n e))(hj:j<n)(hs:(P.info? e).map (·.size)=some s)(hoff:off+j*s=off')
  (h:R (.pointer (some ⟨b,off',none⟩)) w):Lg P ρ o w R:=by
 subst hij
 cases hq:P.info? e with
 | none=>simp[hq] at hs
 | some i =>
  have hs':i.size=s:=by simpa [hq] using hs
  refine OJ (v:=.pointer (some ⟨b,off+j*s,none⟩)) (w':=w) ?_ (by rw[hoff];exact h)
  simp only[execOp,ho,hx,hi]
  by_cases h0:j*s=0
  ·simp[Instr.indexAt,run_underlying hu,Instr.sureAddr,asIntOf,sizeOf,typeInfo,hq,hs',hj,Addr.add,h0]
  ·simp[Instr.indexAt,run_underlying hu,Instr.sureAddr,asIntOf,sizeOf,typeInfo,hq,hs',hj,Addr.add,h0]
theorem MQ{t:TypeId}{parts:Array (Nat×Operand)}{cells:Array Value}{v:Value}(ho:o.op = .build t parts)(hc:P.built t (parts.map fun (i,x)=>(i,ρ x)).toList=some cells)(hv : .agg cells=v)(h:R v w):Lg P ρ o w R :=
 OJ (v:=.agg cells) (w':=w) (by simp only[execOp,ho,Sem.run_bind,run_build w t _ cells hc,Result.andThen_ok,Sem.run_pure]) (by rw[hv];exact h)
theorem Pj{ty:TypeId}{x:Operand}{a:Addr}{v:Value}{k:IntKind}(ho:o.op = .load ty x)(hx:ρ x = .pointer (some a))(hu:P.underlying ty=some (.int k))(hc:w.cell? a=some v)(h:R v w):Lg P ρ o w R:=aGu ho hx hc hu h
theorem LY{x:Operand}{i:Nat}{vs:Array Value}{v:Value}(ho:o.op = .extract x i)(hx:ρ x = .tuple vs)(hi:vs[i]? = some v)(h:R v w):Lg P ρ o w R :=
 OJ (v:=v) (w':=w) (by simp[execOp,ho,hx,Instr.extract,hi]) h
theorem LQ{f:FuncId}{c:Call}{S:Ending->World->Prop}{xs:List Operand}{vs:List Value}(ho:o.op = .call c)(hc:c.callee = .value (.func f))(hx:c.args=xs.toArray)(hf:∀ args w,(callFunc f args).run P w = .ok (.enter f args) w)
  (ev0:∀ f,ρ (.func f) = .func (.func f) #[] #[]) (hv:xs.map ρ=vs) (h:Calls P f vs.toArray w S) (hS:∀ e w',S e w'->∃ v,e = .returned v/\R v w'):Lg P ρ o w R:=by
 obtain⟨cl,ag,ts⟩:=c
 simp only at hc hx
 subst hc;subst hx;subst hv
 unfold Lg
 have e:(execOp ρ o).run P w = .ok (.enter f (xs.map ρ).toArray) w:=by simp[execOp,ho,resolve,ev0,Deferred.ofValue,invoke,hf]
 rw[e]
 exact h.mono hS
theorem aGm{f:FuncId}{c:Call}{S:Ending->World->Prop}{cx:Operand}{xs:List Operand}{vs:List Value}(ho:o.op = .call c)(hc:c.callee = .value cx)(hcx:ρ cx = .func (.func f) #[] #[])(hx:c.args=xs.toArray)(hf:∀ args w,(callFunc f args).run P w = .ok (.enter f args) w)
  (hv:xs.map ρ=vs) (h:Calls P f vs.toArray w S) (hS:∀ e w',S e w'->∃ v,e = .returned v/\R v w'):Lg P ρ o w R:=by
 obtain⟨cl,ag,ts⟩:=c
 simp only at hc hx
 subst hc;subst hx;subst hv
 unfold Lg
 have e:(execOp ρ o).run P w = .ok (.enter f (xs.map ρ).toArray) w:=by simp[execOp,ho,resolve,hcx,Deferred.ofValue,invoke,hf]
 rw[e]
 exact h.mono hS
end
theorem K6(F:Nat->Value):∀ f,ev F (.func f) = .func (.func f) #[] #[]:=fun _=>rfl
theorem vs1{ρ:Operand->Value}{x:Operand}{v:Value}(h:ρ x=v):[x].map ρ=[v]:=by simp[h]
theorem vs2{ρ:Operand->Value}{x y:Operand}{v u:Value}(h:ρ x=v)(h2:ρ y=u):[x,y].map ρ=[v,u]:=by simp[h,h2]
theorem L5{ρ:Operand->Value}:([]:List Operand).map ρ=[]:=rfl
theorem Lo{ρ:Operand->Value}{x:Operand}{v:Value}{xs:List Operand}{vs:List Value}(h:ρ x=v)(h2:xs.map ρ=vs):(x::xs).map ρ=v::vs:=by simp[h,← h2]
section
variable {ro:Option Nat} {P:Program} {N:Nat} {Q:(Exit->(Nat->Value)->World->Prop)} {F:Nat->Value} {w:World}
theorem aDJ{ops:Array Oper}{o:Oper}{rest:List Oper}(v:Value)(hg:o.guard=none)(hd:OD N o.dst=true)(hy:Lg P (ev (M3 N F)) o w (fun u w'=>u=v/\w'=w))(h:wl ro P N ops Q rest (OQ F o.dst v) w):wl ro P N ops Q (o::rest) F w :=
 LH hg hd hy fun u w' ⟨h1,h2⟩=>by subst h1;subst h2;exact h
theorem aFO{ops:Array Oper}{o:Oper}{rest:List Oper}(v:Value)(j:Nat)(want:Bool)(d:Tmp)(hg:o.guard=some (j,want))(hj:(ops[j]?).bind (·.dst)=some d)(hdn:Nat.blt d N=true)(hv:F d = .bool want)(hd:OD N o.dst=true)
  (hy:Lg P (ev (M3 N F)) o w (fun u w'=>u=v/\w'=w)) (h:wl ro P N ops Q rest (OQ F o.dst v) w):wl ro P N ops Q (o::rest) F w:=by
 refine az9 j want d hg hj hdn hv hd ?_
 revert hy
 unfold Lg
 generalize (execOp (ev (M3 N F)) o).run P w=r
 intro hy
 cases r with
 | ok n w' =>
  cases n <;> simp only at hy ⊢ <;> first
   | (obtain⟨h1,h2⟩:=hy;subst h1;subst h2;exact h)
   | exact hy.elim
   | exact Calls.mono hy (fun e w'' ⟨u,he,h1,h2⟩=>⟨u,he,by subst h1;subst h2;exact h⟩)
 | halt x w'=>exact hy.elim
end
theorem rr{α β:Type}{a:α}{b:β}:a=a/\b=b:=⟨rfl,rfl⟩
abbrev pt(p k:Nat):Value:=.pointer (some ⟨p,k,none⟩)
abbrev iv(n:Int):Value:=.int .i64 n
section
variable {ro:Option Nat} {P:Program} {N:Nat} {Q:(Exit->(Nat->Value)->World->Prop)} {F:Nat->Value} {w:World}
theorem aFC{ops:Array Oper}{o:Oper}{rest:List Oper}{x:Operand}{v:Value}(hg:o.guard=none)(hd:OD N o.dst=true)(ho:o.op = .move x)(hx:ev (M3 N F) x=v)(h:wl ro P N ops Q rest (OQ F o.dst v) w):wl ro P N ops Q (o::rest) F w :=
 aDJ v hg hd (KT ho hx ⟨rfl,rfl⟩) h
theorem Lw{α β γ:Type}{a:α}{b:β}{c:γ}:a=a/\b=b/\c=c:=⟨rfl,rfl,rfl⟩
theorem LE{α β γ δ:Type}{a:α}{b:β}{c:γ}{d:δ}:a=a/\b=b/\c=c/\d=d:=⟨rfl,rfl,rfl,rfl⟩
theorem Li{α β γ δ ε:Type}{a:α}{b:β}{c:γ}{d:δ}{e:ε}:a=a/\b=b/\c=c/\d=d/\e=e:=⟨rfl,rfl,rfl,rfl,rfl⟩
theorem KN{ops:Array Oper}{o:Oper}{rest:List Oper}(v:Value)(hg:o.guard=none/\OD N o.dst=true)(hy:Lg P (ev (M3 N F)) o w (fun u w'=>u=v/\w'=w))(h:wl ro P N ops Q rest (OQ F o.dst v) w):wl ro P N ops Q (o::rest) F w:=aDJ v hg.1 hg.2 hy h
theorem Lb{ops:Array Oper}{o:Oper}{rest:List Oper}{x:Operand}(v:Value)(hg:o.guard=none/\OD N o.dst=true/\o.op = .assign x/\ev (M3 N F) x=v)(h:wl ro P N ops Q rest (OQ F o.dst v) w):wl ro P N ops Q (o::rest) F w:=aDJ v hg.1 hg.2.1 (Pv hg.2.2.1 hg.2.2.2 ⟨rfl,rfl⟩) h
theorem K2{ops:Array Oper}{o:Oper}{rest:List Oper}{x:Operand}{v:Value}(hg:o.guard=none/\OD N o.dst=true/\o.op = .move x)(hx:ev (M3 N F) x=v)(h:wl ro P N ops Q rest (OQ F o.dst v) w):wl ro P N ops Q (o::rest) F w:=aFC hg.1 hg.2.1 hg.2.2 hx h
theorem Lq{ops:Array Oper}{o:Oper}{rest:List Oper}(j:Nat)(want:Bool)(d:Tmp)(hg:o.guard=some (j,want)/\(ops[j]?).bind (·.dst)=some d/\Nat.blt d N=true/\F d = .bool (!want)/\OD N o.dst=true)(h:wl ro P N ops Q rest (OQ F o.dst undef) w):wl ro P N ops Q (o::rest) F w:=Th j want d hg.1 hg.2.1 hg.2.2.1 (Or.inl hg.2.2.2.1) hg.2.2.2.2 h
theorem Lj{ops:Array Oper}{o:Oper}{rest:List Oper}(v:Value)(j:Nat)(want:Bool)(d:Tmp)(hg:o.guard=some (j,want)/\(ops[j]?).bind (·.dst)=some d/\Nat.blt d N=true/\F d = .bool want/\OD N o.dst=true)(hy:Lg P (ev (M3 N F)) o w (fun u w'=>u=v/\w'=w))(h:wl ro P N ops Q rest (OQ F o.dst v) w):wl ro P N ops Q (o::rest) F w:=aFO v j want d hg.1 hg.2.1 hg.2.2.1 hg.2.2.2.1 hg.2.2.2.2 hy h
theorem aEv{ops:Array Oper}{o:Oper}{rest:List Oper}{x:Operand}{v:Value}(hg:o.guard=none)(hd:OD N o.dst=true)(ho:o.op = .assign x)(hx:ev (M3 N F) x=v)(h:wl ro P N ops Q rest (OQ F o.dst v) w):wl ro P N ops Q (o::rest) F w :=
 aDJ v hg hd (Pv ho hx ⟨rfl,rfl⟩) h
theorem L9{ops:Array Oper}{o:Oper}{rest:List Oper}{f:FuncId}{c:Call}{v:Value}{xs:List Operand}{vs:List Value}(hg:o.guard=none)(hd:OD N o.dst=true)(ho:o.op = .call c)(hc:c.callee = .value (.func f))(hx:c.args=xs.toArray)(hf:∀ args w,(callFunc f args).run P w = .ok (.enter f args) w)
  (hv:xs.map (ev (M3 N F))=vs) (h:Calls P f vs.toArray w (fun e w'=>e = .returned v/\KR (fun _=>False) w w')) (k:∀ w',KR (fun _=>False) w w'->wl ro P N ops Q rest (OQ F o.dst v) w'):wl ro P N ops Q (o::rest) F w :=
 LH (R:=fun u w'=>u=v/\KR (fun _=>False) w w') hg hd (LQ ho hc hx hf (K6 _) hv h (fun _ _ hh=>⟨_,hh.1,rfl,hh.2⟩)) (fun _ w' hh=>by obtain⟨h1,h2⟩:=hh;subst h1;exact k w' h2)
end
theorem KR.tr{S:Nat->Prop}{a b c:World}(h:KR S a b)(k:KR (fun _=>False) b c):KR S a c:=h.trans k (fun _ _ x=>x.elim)
section
variable {F G:Nat->Value}
theorem t2(h:∀ i,F i=G i)(i0:Nat){x0:Value}(p0:G i0=x0)(i1:Nat){x1:Value}(p1:G i1=x1):F i0=x0/\F i1=x1 :=
 ⟨(h i0).trans p0,(h i1).trans p1⟩
theorem t3(h:∀ i,F i=G i)(i0:Nat){x0:Value}(p0:G i0=x0)(i1:Nat){x1:Value}(p1:G i1=x1)(i2:Nat){x2:Value}(p2:G i2=x2):F i0=x0/\F i1=x1/\F i2=x2 :=
 ⟨(h i0).trans p0,(h i1).trans p1,(h i2).trans p2⟩
theorem t4(h:∀ i,F i=G i)(i0:Nat){x0:Value}(p0:G i0=x0)(i1:Nat){x1:Value}(p1:G i1=x1)(i2:Nat){x2:Value}(p2:G i2=x2)(i3:Nat){x3:Value}(p3:G i3=x3):F i0=x0/\F i1=x1/\F i2=x2/\F i3=x3 :=
 ⟨(h i0).trans p0,(h i1).trans p1,(h i2).trans p2,(h i3).trans p3⟩
theorem t5(h:∀ i,F i=G i)(i0:Nat){x0:Value}(p0:G i0=x0)(i1:Nat){x1:Value}(p1:G i1=x1)(i2:Nat){x2:Value}(p2:G i2=x2)(i3:Nat){x3:Value}(p3:G i3=x3)(i4:Nat){x4:Value}(p4:G i4=x4):F i0=x0/\F i1=x1/\F i2=x2/\F i3=x3/\F i4=x4 :=
 ⟨(h i0).trans p0,(h i1).trans p1,(h i2).trans p2,(h i3).trans p3,(h i4).trans p4⟩
theorem t6(h:∀ i,F i=G i)(i0:Nat){x0:Value}(p0:G i0=x0)(i1:Nat){x1:Value}(p1:G i1=x1)(i2:Nat){x2:Value}(p2:G i2=x2)(i3:Nat){x3:Value}(p3:G i3=x3)(i4:Nat){x4:Value}(p4:G i4=x4)(i5:Nat){x5:Value}(p5:G i5=x5):F i0=x0/\F i1=x1/\F i2=x2/\F i3=x3/\F i4=x4/\F i5=x5 :=
 ⟨(h i0).trans p0,(h i1).trans p1,(h i2).trans p2,(h i3).trans p3,(h i4).trans p4,(h i5).trans p5⟩
theorem t7(h:∀ i,F i=G i)(i0:Nat){x0:Value}(p0:G i0=x0)(i1:Nat){x1:Value}(p1:G i1=x1)(i2:Nat){x2:Value}(p2:G i2=x2)(i3:Nat){x3:Value}(p3:G i3=x3)(i4:Nat){x4:Value}(p4:G i4=x4)(i5:Nat){x5:Value}(p5:G i5=x5)(i6:Nat){x6:Value}(p6:G i6=x6):F i0=x0/\F i1=x1/\F i2=x2/\F i3=x3/\F i4=x4/\F i5=x5/\F i6=x6 :=
 ⟨(h i0).trans p0,(h i1).trans p1,(h i2).trans p2,(h i3).trans p3,(h i4).trans p4,(h i5).trans p5,(h i6).trans p6⟩
theorem t8(h:∀ i,F i=G i)(i0:Nat){x0:Value}(p0:G i0=x0)(i1:Nat){x1:Value}(p1:G i1=x1)(i2:Nat){x2:Value}(p2:G i2=x2)(i3:Nat){x3:Value}(p3:G i3=x3)(i4:Nat){x4:Value}(p4:G i4=x4)(i5:Nat){x5:Value}(p5:G i5=x5)(i6:Nat){x6:Value}(p6:G i6=x6)(i7:Nat){x7:Value}(p7:G i7=x7):F i0=x0/\F i1=x1/\F i2=x2/\F i3=x3/\F i4=x4/\F i5=x5/\F i6=x6/\F i7=x7 :=
 ⟨(h i0).trans p0,(h i1).trans p1,(h i2).trans p2,(h i3).trans p3,(h i4).trans p4,(h i5).trans p5,(h i6).trans p6,(h i7).trans p7⟩
theorem t9(h:∀ i,F i=G i)(i0:Nat){x0:Value}(p0:G i0=x0)(i1:Nat){x1:Value}(p1:G i1=x1)(i2:Nat){x2:Value}(p2:G i2=x2)(i3:Nat){x3:Value}(p3:G i3=x3)(i4:Nat){x4:Value}(p4:G i4=x4)(i5:Nat){x5:Value}(p5:G i5=x5)(i6:Nat){x6:Value}(p6:G i6=x6)(i7:Nat){x7:Value}(p7:G i7=x7)(i8:Nat){x8:Value}(p8:G i8=x8):F i0=x0/\F i1=x1/\F i2=x2/\F i3=x3/\F i4=x4/\F i5=x5/\F i6=x6/\F i7=x7/\F i8=x8 :=
 ⟨(h i0).trans p0,(h i1).trans p1,(h i2).trans p2,(h i3).trans p3,(h i4).trans p4,(h i5).trans p5,(h i6).trans p6,(h i7).trans p7,(h i8).trans p8⟩
theorem t10(h:∀ i,F i=G i)(i0:Nat){x0:Value}(p0:G i0=x0)(i1:Nat){x1:Value}(p1:G i1=x1)(i2:Nat){x2:Value}(p2:G i2=x2)(i3:Nat){x3:Value}(p3:G i3=x3)(i4:Nat){x4:Value}(p4:G i4=x4)(i5:Nat){x5:Value}(p5:G i5=x5)(i6:Nat){x6:Value}(p6:G i6=x6)(i7:Nat){x7:Value}(p7:G i7=x7)(i8:Nat){x8:Value}(p8:G i8=x8)(i9:Nat){x9:Value}(p9:G i9=x9):F i0=x0/\F i1=x1/\F i2=x2/\F i3=x3/\F i4=x4/\F i5=x5/\F i6=x6/\F i7=x7/\F i8=x8/\F i9=x9 :=
 ⟨(h i0).trans p0,(h i1).trans p1,(h i2).trans p2,(h i3).trans p3,(h i4).trans p4,(h i5).trans p5,(h i6).trans p6,(h i7).trans p7,(h i8).trans p8,(h i9).trans p9⟩
theorem t11(h:∀ i,F i=G i)(i0:Nat){x0:Value}(p0:G i0=x0)(i1:Nat){x1:Value}(p1:G i1=x1)(i2:Nat){x2:Value}(p2:G i2=x2)(i3:Nat){x3:Value}(p3:G i3=x3)(i4:Nat){x4:Value}(p4:G i4=x4)(i5:Nat){x5:Value}(p5:G i5=x5)(i6:Nat){x6:Value}(p6:G i6=x6)(i7:Nat){x7:Value}(p7:G i7=x7)(i8:Nat){x8:Value}(p8:G i8=x8)(i9:Nat){x9:Value}(p9:G i9=x9)(i10:Nat){x10:Value}(p10:G i10=x10):F i0=x0/\F i1=x1/\F i2=x2/\F i3=x3/\F i4=x4/\F i5=x5/\F i6=x6/\F i7=x7/\F i8=x8/\F i9=x9/\F i10=x10 :=
 ⟨(h i0).trans p0,(h i1).trans p1,(h i2).trans p2,(h i3).trans p3,(h i4).trans p4,(h i5).trans p5,(h i6).trans p6,(h i7).trans p7,(h i8).trans p8,(h i9).trans p9,(h i10).trans p10⟩
theorem t12(h:∀ i,F i=G i)(i0:Nat){x0:Value}(p0:G i0=x0)(i1:Nat){x1:Value}(p1:G i1=x1)(i2:Nat){x2:Value}(p2:G i2=x2)(i3:Nat){x3:Value}(p3:G i3=x3)(i4:Nat){x4:Value}(p4:G i4=x4)(i5:Nat){x5:Value}(p5:G i5=x5)(i6:Nat){x6:Value}(p6:G i6=x6)(i7:Nat){x7:Value}(p7:G i7=x7)(i8:Nat){x8:Value}(p8:G i8=x8)(i9:Nat){x9:Value}(p9:G i9=x9)(i10:Nat){x10:Value}(p10:G i10=x10)(i11:Nat){x11:Value}(p11:G i11=x11):F i0=x0/\F i1=x1/\F i2=x2/\F i3=x3/\F i4=x4/\F i5=x5/\F i6=x6/\F i7=x7/\F i8=x8/\F i9=x9/\F i10=x10/\F i11=x11 :=
 ⟨(h i0).trans p0,(h i1).trans p1,(h i2).trans p2,(h i3).trans p3,(h i4).trans p4,(h i5).trans p5,(h i6).trans p6,(h i7).trans p7,(h i8).trans p8,(h i9).trans p9,(h i10).trans p10,(h i11).trans p11⟩
theorem t13(h:∀ i,F i=G i)(i0:Nat){x0:Value}(p0:G i0=x0)(i1:Nat){x1:Value}(p1:G i1=x1)(i2:Nat){x2:Value}(p2:G i2=x2)(i3:Nat){x3:Value}(p3:G i3=x3)(i4:Nat){x4:Value}(p4:G i4=x4)(i5:Nat){x5:Value}(p5:G i5=x5)(i6:Nat){x6:Value}(p6:G i6=x6)(i7:Nat){x7:Value}(p7:G i7=x7)(i8:Nat){x8:Value}(p8:G i8=x8)(i9:Nat){x9:Value}(p9:G i9=x9)(i10:Nat){x10:Value}(p10:G i10=x10)(i11:Nat){x11:Value}(p11:G i11=x11)(i12:Nat){x12:Value}(p12:G i12=x12):F i0=x0/\F i1=x1/\F i2=x2/\F i3=x3/\F i4=x4/\F i5=x5/\F i6=x6/\F i7=x7/\F i8=x8/\F i9=x9/\F i10=x10/\F i11=x11/\F i12=x12 :=
 ⟨(h i0).trans p0,(h i1).trans p1,(h i2).trans p2,(h i3).trans p3,(h i4).trans p4,(h i5).trans p5,(h i6).trans p6,(h i7).trans p7,(h i8).trans p8,(h i9).trans p9,(h i10).trans p10,(h i11).trans p11,(h i12).trans p12⟩
theorem t14(h:∀ i,F i=G i)(i0:Nat){x0:Value}(p0:G i0=x0)(i1:Nat){x1:Value}(p1:G i1=x1)(i2:Nat){x2:Value}(p2:G i2=x2)(i3:Nat){x3:Value}(p3:G i3=x3)(i4:Nat){x4:Value}(p4:G i4=x4)(i5:Nat){x5:Value}(p5:G i5=x5)(i6:Nat){x6:Value}(p6:G i6=x6)(i7:Nat){x7:Value}(p7:G i7=x7)(i8:Nat){x8:Value}(p8:G i8=x8)(i9:Nat){x9:Value}(p9:G i9=x9)(i10:Nat){x10:Value}(p10:G i10=x10)(i11:Nat){x11:Value}(p11:G i11=x11)(i12:Nat){x12:Value}(p12:G i12=x12)(i13:Nat){x13:Value}(p13:G i13=x13):F i0=x0/\F i1=x1/\F i2=x2/\F i3=x3/\F i4=x4/\F i5=x5/\F i6=x6/\F i7=x7/\F i8=x8/\F i9=x9/\F i10=x10/\F i11=x11/\F i12=x12/\F i13=x13 :=
 ⟨(h i0).trans p0,(h i1).trans p1,(h i2).trans p2,(h i3).trans p3,(h i4).trans p4,(h i5).trans p5,(h i6).trans p6,(h i7).trans p7,(h i8).trans p8,(h i9).trans p9,(h i10).trans p10,(h i11).trans p11,(h i12).trans p12,(h i13).trans p13⟩
theorem t15(h:∀ i,F i=G i)(i0:Nat){x0:Value}(p0:G i0=x0)(i1:Nat){x1:Value}(p1:G i1=x1)(i2:Nat){x2:Value}(p2:G i2=x2)(i3:Nat){x3:Value}(p3:G i3=x3)(i4:Nat){x4:Value}(p4:G i4=x4)(i5:Nat){x5:Value}(p5:G i5=x5)(i6:Nat){x6:Value}(p6:G i6=x6)(i7:Nat){x7:Value}(p7:G i7=x7)(i8:Nat){x8:Value}(p8:G i8=x8)(i9:Nat){x9:Value}(p9:G i9=x9)(i10:Nat){x10:Value}(p10:G i10=x10)(i11:Nat){x11:Value}(p11:G i11=x11)(i12:Nat){x12:Value}(p12:G i12=x12)(i13:Nat){x13:Value}(p13:G i13=x13)(i14:Nat){x14:Value}(p14:G i14=x14):F i0=x0/\F i1=x1/\F i2=x2/\F i3=x3/\F i4=x4/\F i5=x5/\F i6=x6/\F i7=x7/\F i8=x8/\F i9=x9/\F i10=x10/\F i11=x11/\F i12=x12/\F i13=x13/\F i14=x14 :=
 ⟨(h i0).trans p0,(h i1).trans p1,(h i2).trans p2,(h i3).trans p3,(h i4).trans p4,(h i5).trans p5,(h i6).trans p6,(h i7).trans p7,(h i8).trans p8,(h i9).trans p9,(h i10).trans p10,(h i11).trans p11,(h i12).trans p12,(h i13).trans p13,(h i14).trans p14⟩
theorem t17(h:∀ i,F i=G i)(i0:Nat){x0:Value}(p0:G i0=x0)(i1:Nat){x1:Value}(p1:G i1=x1)(i2:Nat){x2:Value}(p2:G i2=x2)(i3:Nat){x3:Value}(p3:G i3=x3)(i4:Nat){x4:Value}(p4:G i4=x4)(i5:Nat){x5:Value}(p5:G i5=x5)(i6:Nat){x6:Value}(p6:G i6=x6)(i7:Nat){x7:Value}(p7:G i7=x7)(i8:Nat){x8:Value}(p8:G i8=x8)(i9:Nat){x9:Value}(p9:G i9=x9)(i10:Nat){x10:Value}(p10:G i10=x10)(i11:Nat){x11:Value}(p11:G i11=x11)(i12:Nat){x12:Value}(p12:G i12=x12)(i13:Nat){x13:Value}(p13:G i13=x13)(i14:Nat){x14:Value}(p14:G i14=x14)(i15:Nat){x15:Value}(p15:G i15=x15)(i16:Nat){x16:Value}(p16:G i16=x16):F i0=x0/\F i1=x1/\F i2=x2/\F i3=x3/\F i4=x4/\F i5=x5/\F i6=x6/\F i7=x7/\F i8=x8/\F i9=x9/\F i10=x10/\F i11=x11/\F i12=x12/\F i13=x13/\F i14=x14/\F i15=x15/\F i16=x16 :=
 ⟨(h i0).trans p0,(h i1).trans p1,(h i2).trans p2,(h i3).trans p3,(h i4).trans p4,(h i5).trans p5,(h i6).trans p6,(h i7).trans p7,(h i8).trans p8,(h i9).trans p9,(h i10).trans p10,(h i11).trans p11,(h i12).trans p12,(h i13).trans p13,(h i14).trans p14,(h i15).trans p15,(h i16).trans p16⟩
theorem t19(h:∀ i,F i=G i)(i0:Nat){x0:Value}(p0:G i0=x0)(i1:Nat){x1:Value}(p1:G i1=x1)(i2:Nat){x2:Value}(p2:G i2=x2)(i3:Nat){x3:Value}(p3:G i3=x3)(i4:Nat){x4:Value}(p4:G i4=x4)(i5:Nat){x5:Value}(p5:G i5=x5)(i6:Nat){x6:Value}(p6:G i6=x6)(i7:Nat){x7:Value}(p7:G i7=x7)(i8:Nat){x8:Value}(p8:G i8=x8)(i9:Nat){x9:Value}(p9:G i9=x9)(i10:Nat){x10:Value}(p10:G i10=x10)(i11:Nat){x11:Value}(p11:G i11=x11)(i12:Nat){x12:Value}(p12:G i12=x12)(i13:Nat){x13:Value}(p13:G i13=x13)(i14:Nat){x14:Value}(p14:G i14=x14)(i15:Nat){x15:Value}(p15:G i15=x15)(i16:Nat){x16:Value}(p16:G i16=x16)(i17:Nat){x17:Value}(p17:G i17=x17)(i18:Nat){x18:Value}(p18:G i18=x18):F i0=x0/\F i1=x1/\F i2=x2/\F i3=x3/\F i4=x4/\F i5=x5/\F i6=x6/\F i7=x7/\F i8=x8/\F i9=x9/\F i10=x10/\F i11=x11/\F i12=x12/\F i13=x13/\F i14=x14/\F i15=x15/\F i16=x16/\F i17=x17/\F i18=x18 :=
 ⟨(h i0).trans p0,(h i1).trans p1,(h i2).trans p2,(h i3).trans p3,(h i4).trans p4,(h i5).trans p5,(h i6).trans p6,(h i7).trans p7,(h i8).trans p8,(h i9).trans p9,(h i10).trans p10,(h i11).trans p11,(h i12).trans p12,(h i13).trans p13,(h i14).trans p14,(h i15).trans p15,(h i16).trans p16,(h i17).trans p17,(h i18).trans p18⟩
theorem t20(h:∀ i,F i=G i)(i0:Nat){x0:Value}(p0:G i0=x0)(i1:Nat){x1:Value}(p1:G i1=x1)(i2:Nat){x2:Value}(p2:G i2=x2)(i3:Nat){x3:Value}(p3:G i3=x3)(i4:Nat){x4:Value}(p4:G i4=x4)(i5:Nat){x5:Value}(p5:G i5=x5)(i6:Nat){x6:Value}(p6:G i6=x6)(i7:Nat){x7:Value}(p7:G i7=x7)(i8:Nat){x8:Value}(p8:G i8=x8)(i9:Nat){x9:Value}(p9:G i9=x9)(i10:Nat){x10:Value}(p10:G i10=x10)(i11:Nat){x11:Value}(p11:G i11=x11)(i12:Nat){x12:Value}(p12:G i12=x12)(i13:Nat){x13:Value}(p13:G i13=x13)(i14:Nat){x14:Value}(p14:G i14=x14)(i15:Nat){x15:Value}(p15:G i15=x15)(i16:Nat){x16:Value}(p16:G i16=x16)(i17:Nat){x17:Value}(p17:G i17=x17)(i18:Nat){x18:Value}(p18:G i18=x18)(i19:Nat){x19:Value}(p19:G i19=x19):F i0=x0/\F i1=x1/\F i2=x2/\F i3=x3/\F i4=x4/\F i5=x5/\F i6=x6/\F i7=x7/\F i8=x8/\F i9=x9/\F i10=x10/\F i11=x11/\F i12=x12/\F i13=x13/\F i14=x14/\F i15=x15/\F i16=x16/\F i17=x17/\F i18=x18/\F i19=x19 :=
 ⟨(h i0).trans p0,(h i1).trans p1,(h i2).trans p2,(h i3).trans p3,(h i4).trans p4,(h i5).trans p5,(h i6).trans p6,(h i7).trans p7,(h i8).trans p8,(h i9).trans p9,(h i10).trans p10,(h i11).trans p11,(h i12).trans p12,(h i13).trans p13,(h i14).trans p14,(h i15).trans p15,(h i16).trans p16,(h i17).trans p17,(h i18).trans p18,(h i19).trans p19⟩
end
open Go.RowKit
def KS(w:World)(T T':Nat->Prop):Prop:=∀ i,T' i->T i\/w.heap.size<=i
def KO(T U:Nat->Prop):Prop:=∀ i,T i->¬ U i
def Mb:Nat->Prop:=fun _=>False
def PI(w:World)(T:Nat->Prop):Prop:=∀ i,T i->i<w.heap.size
theorem KS.refl(w:World)(T:Nat->Prop):KS w T T:=fun _ h=>.inl h
theorem KS.trans{S:Nat->Prop}{w0 w:World}{B T T':Nat->Prop}(h:KS w0 B T)(k:KR S w0 w)(g:KS w T T'):KS w0 B T':=fun i hi=>by
 rcases g i hi with h1|h1
 ·exact h i h1
 ·exact .inr (Nat.le_trans k.size h1)
theorem KS.new{S:Nat->Prop}{w0 w:World}{T:Nat->Prop}(k:KR S w0 w)(g:KS w Mb T):KS w0 Mb T:=(KS.refl w0 Mb).trans k g
theorem KS.weak{w0:World}{B B' T:Nat->Prop}(h:KS w0 B T)(hb:∀ i,B i->B' i):KS w0 B' T:=fun i hi=>(h i hi).elim (fun x=>.inl (hb i x)) .inr
theorem KS.ok{w0:World}{B T S:Nat->Prop}(h:KS w0 B T)(hb:∀ i,B i->S i):∀ i,i<w0.heap.size->T i->S i:=fun i hi ht=>by
 rcases h i ht with h1|h1
 ·exact hb i h1
 ·omega
theorem KZ{S:Nat->Prop}:∀ i,Mb i->S i:=fun _ h=>h.elim
theorem KO.symm{T U:Nat->Prop}(h:KO T U):KO U T:=fun i hu ht=>h i ht hu
theorem KO.grew{w:World}{T T' U:Nat->Prop}(h:KO T U)(g:KS w T T')(hl:PI w U):KO T' U:=fun i ht hu=>by
 rcases g i ht with h1|h1
 ·exact h i h1 hu
 ·have:=hl i hu;omega
theorem KO.new{w:World}{T' U:Nat->Prop}(g:KS w Mb T')(hl:PI w U):KO T' U:=KO.grew (T:=Mb) (fun _ h=>h.elim) g hl
theorem KO.none{T:Nat->Prop}:KO T Mb:=fun _ _ h=>h
def Lh(p:Nat):Nat->Prop:=fun i=>i=p
theorem L7{w:World}{p:Nat}(h:w.heap.size<=p):KS w Mb (Lh p):=fun i hi=>.inr (by unfold Lh at hi;omega)
theorem L8{w:World}{p:Nat}(h:p<w.heap.size):PI w (Lh p):=fun i hi=>by unfold Lh at hi;omega
class Cr (w w':World) (A:Prop) (B:outParam Prop):Prop where
 c:A->KR (fun _=>False) w w'->B
class Lv (w:World) (A:Prop) (T:outParam (Nat->Prop)):Prop where
 c:A->PI w T
theorem Oe{w w':World}{A0 B0:Prop}[Cr w w' A0 B0]{A1 B1:Prop}[Cr w w' A1 B1](k:KR (fun _=>False) w w')(h0:A0)(h1:A1):B0/\B1:=⟨Cr.c h0 k,Cr.c h1 k⟩
theorem Od{w w':World}{A0 B0:Prop}[Cr w w' A0 B0]{A1 B1:Prop}[Cr w w' A1 B1]{A2 B2:Prop}[Cr w w' A2 B2](k:KR (fun _=>False) w w')(h0:A0)(h1:A1)(h2:A2):B0/\B1/\B2:=⟨Cr.c h0 k,Cr.c h1 k,Cr.c h2 k⟩
theorem Pg{w w':World}{A0 B0:Prop}[Cr w w' A0 B0]{A1 B1:Prop}[Cr w w' A1 B1]{A2 B2:Prop}[Cr w w' A2 B2]{A3 B3:Prop}[Cr w w' A3 B3](k:KR (fun _=>False) w w')(h0:A0)(h1:A1)(h2:A2)(h3:A3):B0/\B1/\B2/\B3:=⟨Cr.c h0 k,Cr.c h1 k,Cr.c h2 k,Cr.c h3 k⟩
theorem O6{w w':World}{A0 B0:Prop}[Cr w w' A0 B0]{A1 B1:Prop}[Cr w w' A1 B1]{A2 B2:Prop}[Cr w w' A2 B2]{A3 B3:Prop}[Cr w w' A3 B3]{A4 B4:Prop}[Cr w w' A4 B4](k:KR (fun _=>False) w w')(h0:A0)(h1:A1)(h2:A2)(h3:A3)(h4:A4):B0/\B1/\B2/\B3/\B4:=⟨Cr.c h0 k,Cr.c h1 k,Cr.c h2 k,Cr.c h3 k,Cr.c h4 k⟩
theorem Qh{w w':World}{A0 B0:Prop}[Cr w w' A0 B0]{A1 B1:Prop}[Cr w w' A1 B1]{A2 B2:Prop}[Cr w w' A2 B2]{A3 B3:Prop}[Cr w w' A3 B3]{A4 B4:Prop}[Cr w w' A4 B4]{A5 B5:Prop}[Cr w w' A5 B5](k:KR (fun _=>False) w w')(h0:A0)(h1:A1)(h2:A2)(h3:A3)(h4:A4)(h5:A5):B0/\B1/\B2/\B3/\B4/\B5:=⟨Cr.c h0 k,Cr.c h1 k,Cr.c h2 k,Cr.c h3 k,Cr.c h4 k,Cr.c h5 k⟩
theorem Uc{w w':World}{A0 B0:Prop}[Cr w w' A0 B0]{A1 B1:Prop}[Cr w w' A1 B1]{A2 B2:Prop}[Cr w w' A2 B2]{A3 B3:Prop}[Cr w w' A3 B3]{A4 B4:Prop}[Cr w w' A4 B4]{A5 B5:Prop}[Cr w w' A5 B5]{A6 B6:Prop}[Cr w w' A6 B6](k:KR (fun _=>False) w w')(h0:A0)(h1:A1)(h2:A2)(h3:A3)(h4:A4)(h5:A5)(h6:A6):B0/\B1/\B2/\B3/\B4/\B5/\B6:=⟨Cr.c h0 k,Cr.c h1 k,Cr.c h2 k,Cr.c h3 k,Cr.c h4 k,Cr.c h5 k,Cr.c h6 k⟩
theorem Yf{w w':World}{A0 B0:Prop}[Cr w w' A0 B0]{A1 B1:Prop}[Cr w w' A1 B1]{A2 B2:Prop}[Cr w w' A2 B2]{A3 B3:Prop}[Cr w w' A3 B3]{A4 B4:Prop}[Cr w w' A4 B4]{A5 B5:Prop}[Cr w w' A5 B5]{A6 B6:Prop}[Cr w w' A6 B6]{A7 B7:Prop}[Cr w w' A7 B7](k:KR (fun _=>False) w w')(h0:A0)(h1:A1)(h2:A2)(h3:A3)(h4:A4)(h5:A5)(h6:A6)(h7:A7):B0/\B1/\B2/\B3/\B4/\B5/\B6/\B7:=⟨Cr.c h0 k,Cr.c h1 k,Cr.c h2 k,Cr.c h3 k,Cr.c h4 k,Cr.c h5 k,Cr.c h6 k,Cr.c h7 k⟩
theorem aA9{w w':World}{A0 B0:Prop}[Cr w w' A0 B0]{A1 B1:Prop}[Cr w w' A1 B1]{A2 B2:Prop}[Cr w w' A2 B2]{A3 B3:Prop}[Cr w w' A3 B3]{A4 B4:Prop}[Cr w w' A4 B4]{A5 B5:Prop}[Cr w w' A5 B5]{A6 B6:Prop}[Cr w w' A6 B6]{A7 B7:Prop}[Cr w w' A7 B7]{A8 B8:Prop}[Cr w w' A8 B8](k:KR (fun _=>False) w w')(h0:A0)(h1:A1)(h2:A2)(h3:A3)(h4:A4)(h5:A5)(h6:A6)(h7:A7)(h8:A8):B0/\B1/\B2/\B3/\B4/\B5/\B6/\B7/\B8:=⟨Cr.c h0 k,Cr.c h1 k,Cr.c h2 k,Cr.c h3 k,Cr.c h4 k,Cr.c h5 k,Cr.c h6 k,Cr.c h7 k,Cr.c h8 k⟩
theorem Uo{w w':World}{A0 B0:Prop}[Cr w w' A0 B0]{A1 B1:Prop}[Cr w w' A1 B1]{A2 B2:Prop}[Cr w w' A2 B2]{A3 B3:Prop}[Cr w w' A3 B3]{A4 B4:Prop}[Cr w w' A4 B4]{A5 B5:Prop}[Cr w w' A5 B5]{A6 B6:Prop}[Cr w w' A6 B6]{A7 B7:Prop}[Cr w w' A7 B7]{A8 B8:Prop}[Cr w w' A8 B8]{A9 B9:Prop}[Cr w w' A9 B9](k:KR (fun _=>False) w w')(h0:A0)(h1:A1)(h2:A2)(h3:A3)(h4:A4)(h5:A5)(h6:A6)(h7:A7)(h8:A8)(h9:A9):B0/\B1/\B2/\B3/\B4/\B5/\B6/\B7/\B8/\B9:=⟨Cr.c h0 k,Cr.c h1 k,Cr.c h2 k,Cr.c h3 k,Cr.c h4 k,Cr.c h5 k,Cr.c h6 k,Cr.c h7 k,Cr.c h8 k,Cr.c h9 k⟩
theorem aCY{w w':World}{A0 B0:Prop}[Cr w w' A0 B0]{A1 B1:Prop}[Cr w w' A1 B1]{A2 B2:Prop}[Cr w w' A2 B2]{A3 B3:Prop}[Cr w w' A3 B3]{A4 B4:Prop}[Cr w w' A4 B4]{A5 B5:Prop}[Cr w w' A5 B5]{A6 B6:Prop}[Cr w w' A6 B6]{A7 B7:Prop}[Cr w w' A7 B7]{A8 B8:Prop}[Cr w w' A8 B8]{A9 B9:Prop}[Cr w w' A9 B9]{A10 B10:Prop}[Cr w w' A10 B10](k:KR (fun _=>False) w w')(h0:A0)(h1:A1)(h2:A2)(h3:A3)(h4:A4)(h5:A5)(h6:A6)(h7:A7)(h8:A8)(h9:A9)(h10:A10):B0/\B1/\B2/\B3/\B4/\B5/\B6/\B7/\B8/\B9/\B10:=⟨Cr.c h0 k,Cr.c h1 k,Cr.c h2 k,Cr.c h3 k,Cr.c h4 k,Cr.c h5 k,Cr.c h6 k,Cr.c h7 k,Cr.c h8 k,Cr.c h9 k,Cr.c h10 k⟩
theorem aCl{w w':World}{A0 B0:Prop}[Cr w w' A0 B0]{A1 B1:Prop}[Cr w w' A1 B1]{A2 B2:Prop}[Cr w w' A2 B2]{A3 B3:Prop}[Cr w w' A3 B3]{A4 B4:Prop}[Cr w w' A4 B4]{A5 B5:Prop}[Cr w w' A5 B5]{A6 B6:Prop}[Cr w w' A6 B6]{A7 B7:Prop}[Cr w w' A7 B7]{A8 B8:Prop}[Cr w w' A8 B8]{A9 B9:Prop}[Cr w w' A9 B9]{A10 B10:Prop}[Cr w w' A10 B10]{A11 B11:Prop}[Cr w w' A11 B11](k:KR (fun _=>False) w w')(h0:A0)(h1:A1)(h2:A2)(h3:A3)(h4:A4)(h5:A5)(h6:A6)(h7:A7)(h8:A8)(h9:A9)(h10:A10)(h11:A11):B0/\B1/\B2/\B3/\B4/\B5/\B6/\B7/\B8/\B9/\B10/\B11:=⟨Cr.c h0 k,Cr.c h1 k,Cr.c h2 k,Cr.c h3 k,Cr.c h4 k,Cr.c h5 k,Cr.c h6 k,Cr.c h7 k,Cr.c h8 k,Cr.c h9 k,Cr.c h10 k,Cr.c h11 k⟩
theorem ZI{w w':World}{A0 B0:Prop}[Cr w w' A0 B0]{A1 B1:Prop}[Cr w w' A1 B1]{A2 B2:Prop}[Cr w w' A2 B2]{A3 B3:Prop}[Cr w w' A3 B3]{A4 B4:Prop}[Cr w w' A4 B4]{A5 B5:Prop}[Cr w w' A5 B5]{A6 B6:Prop}[Cr w w' A6 B6]{A7 B7:Prop}[Cr w w' A7 B7]{A8 B8:Prop}[Cr w w' A8 B8]{A9 B9:Prop}[Cr w w' A9 B9]{A10 B10:Prop}[Cr w w' A10 B10]{A11 B11:Prop}[Cr w w' A11 B11]{A12 B12:Prop}[Cr w w' A12 B12](k:KR (fun _=>False) w w')(h0:A0)(h1:A1)(h2:A2)(h3:A3)(h4:A4)(h5:A5)(h6:A6)(h7:A7)(h8:A8)(h9:A9)(h10:A10)(h11:A11)(h12:A12):B0/\B1/\B2/\B3/\B4/\B5/\B6/\B7/\B8/\B9/\B10/\B11/\B12:=⟨Cr.c h0 k,Cr.c h1 k,Cr.c h2 k,Cr.c h3 k,Cr.c h4 k,Cr.c h5 k,Cr.c h6 k,Cr.c h7 k,Cr.c h8 k,Cr.c h9 k,Cr.c h10 k,Cr.c h11 k,Cr.c h12 k⟩
theorem PT{w w':World}{A0 B0:Prop}[Cr w w' A0 B0]{A1 B1:Prop}[Cr w w' A1 B1]{A2 B2:Prop}[Cr w w' A2 B2]{A3 B3:Prop}[Cr w w' A3 B3]{A4 B4:Prop}[Cr w w' A4 B4]{A5 B5:Prop}[Cr w w' A5 B5]{A6 B6:Prop}[Cr w w' A6 B6]{A7 B7:Prop}[Cr w w' A7 B7]{A8 B8:Prop}[Cr w w' A8 B8]{A9 B9:Prop}[Cr w w' A9 B9]{A10 B10:Prop}[Cr w w' A10 B10]{A11 B11:Prop}[Cr w w' A11 B11]{A12 B12:Prop}[Cr w w' A12 B12]{A13 B13:Prop}[Cr w w' A13 B13](k:KR (fun _=>False) w w')(h0:A0)(h1:A1)(h2:A2)(h3:A3)(h4:A4)(h5:A5)(h6:A6)(h7:A7)(h8:A8)(h9:A9)(h10:A10)(h11:A11)(h12:A12)(h13:A13):B0/\B1/\B2/\B3/\B4/\B5/\B6/\B7/\B8/\B9/\B10/\B11/\B12/\B13:=⟨Cr.c h0 k,Cr.c h1 k,Cr.c h2 k,Cr.c h3 k,Cr.c h4 k,Cr.c h5 k,Cr.c h6 k,Cr.c h7 k,Cr.c h8 k,Cr.c h9 k,Cr.c h10 k,Cr.c h11 k,Cr.c h12 k,Cr.c h13 k⟩
theorem UJ{w:World}{T:Nat->Prop}{A0:Prop}{T0:Nat->Prop}[Lv w A0 T0]{A1:Prop}{T1:Nat->Prop}[Lv w A1 T1](g:KS w Mb T)(h0:A0)(h1:A1):KO T T0/\KO T T1:=⟨KO.new g (Lv.c h0),KO.new g (Lv.c h1)⟩
theorem Us{w:World}{T:Nat->Prop}{A0:Prop}{T0:Nat->Prop}[Lv w A0 T0]{A1:Prop}{T1:Nat->Prop}[Lv w A1 T1]{A2:Prop}{T2:Nat->Prop}[Lv w A2 T2](g:KS w Mb T)(h0:A0)(h1:A1)(h2:A2):KO T T0/\KO T T1/\KO T T2:=⟨KO.new g (Lv.c h0),KO.new g (Lv.c h1),KO.new g (Lv.c h2)⟩
theorem WI{w:World}{T:Nat->Prop}{A0:Prop}{T0:Nat->Prop}[Lv w A0 T0]{A1:Prop}{T1:Nat->Prop}[Lv w A1 T1]{A2:Prop}{T2:Nat->Prop}[Lv w A2 T2]{A3:Prop}{T3:Nat->Prop}[Lv w A3 T3](g:KS w Mb T)(h0:A0)(h1:A1)(h2:A2)(h3:A3):KO T T0/\KO T T1/\KO T T2/\KO T T3:=⟨KO.new g (Lv.c h0),KO.new g (Lv.c h1),KO.new g (Lv.c h2),KO.new g (Lv.c h3)⟩
theorem azg{w:World}{T:Nat->Prop}{A0:Prop}{T0:Nat->Prop}[Lv w A0 T0]{A1:Prop}{T1:Nat->Prop}[Lv w A1 T1]{A2:Prop}{T2:Nat->Prop}[Lv w A2 T2]{A3:Prop}{T3:Nat->Prop}[Lv w A3 T3]{A4:Prop}{T4:Nat->Prop}[Lv w A4 T4](g:KS w Mb T)(h0:A0)(h1:A1)(h2:A2)(h3:A3)(h4:A4):KO T T0/\KO T T1/\KO T T2/\KO T T3/\KO T T4:=⟨KO.new g (Lv.c h0),KO.new g (Lv.c h1),KO.new g (Lv.c h2),KO.new g (Lv.c h3),KO.new g (Lv.c h4)⟩
theorem WS{w:World}{T:Nat->Prop}{A0:Prop}{T0:Nat->Prop}[Lv w A0 T0]{A1:Prop}{T1:Nat->Prop}[Lv w A1 T1]{A2:Prop}{T2:Nat->Prop}[Lv w A2 T2]{A3:Prop}{T3:Nat->Prop}[Lv w A3 T3]{A4:Prop}{T4:Nat->Prop}[Lv w A4 T4]{A5:Prop}{T5:Nat->Prop}[Lv w A5 T5](g:KS w Mb T)(h0:A0)(h1:A1)(h2:A2)(h3:A3)(h4:A4)(h5:A5):KO T T0/\KO T T1/\KO T T2/\KO T T3/\KO T T4/\KO T T5:=⟨KO.new g (Lv.c h0),KO.new g (Lv.c h1),KO.new g (Lv.c h2),KO.new g (Lv.c h3),KO.new g (Lv.c h4),KO.new g (Lv.c h5)⟩
theorem aGg{w:World}{T:Nat->Prop}{A0:Prop}{T0:Nat->Prop}[Lv w A0 T0]{A1:Prop}{T1:Nat->Prop}[Lv w A1 T1]{A2:Prop}{T2:Nat->Prop}[Lv w A2 T2]{A3:Prop}{T3:Nat->Prop}[Lv w A3 T3]{A4:Prop}{T4:Nat->Prop}[Lv w A4 T4]{A5:Prop}{T5:Nat->Prop}[Lv w A5 T5]{A6:Prop}{T6:Nat->Prop}[Lv w A6 T6](g:KS w Mb T)(h0:A0)(h1:A1)(h2:A2)(h3:A3)(h4:A4)(h5:A5)(h6:A6):KO T T0/\KO T T1/\KO T T2/\KO T T3/\KO T T4/\KO T T5/\KO T T6:=⟨KO.new g (Lv.c h0),KO.new g (Lv.c h1),KO.new g (Lv.c h2),KO.new g (Lv.c h3),KO.new g (Lv.c h4),KO.new g (Lv.c h5),KO.new g (Lv.c h6)⟩
theorem Zp{w:World}{T:Nat->Prop}{A0:Prop}{T0:Nat->Prop}[Lv w A0 T0]{A1:Prop}{T1:Nat->Prop}[Lv w A1 T1]{A2:Prop}{T2:Nat->Prop}[Lv w A2 T2]{A3:Prop}{T3:Nat->Prop}[Lv w A3 T3]{A4:Prop}{T4:Nat->Prop}[Lv w A4 T4]{A5:Prop}{T5:Nat->Prop}[Lv w A5 T5]{A6:Prop}{T6:Nat->Prop}[Lv w A6 T6]{A7:Prop}{T7:Nat->Prop}[Lv w A7 T7](g:KS w Mb T)(h0:A0)(h1:A1)(h2:A2)(h3:A3)(h4:A4)(h5:A5)(h6:A6)(h7:A7):KO T T0/\KO T T1/\KO T T2/\KO T T3/\KO T T4/\KO T T5/\KO T T6/\KO T T7:=⟨KO.new g (Lv.c h0),KO.new g (Lv.c h1),KO.new g (Lv.c h2),KO.new g (Lv.c h3),KO.new g (Lv.c h4),KO.new g (Lv.c h5),KO.new g (Lv.c h6),KO.new g (Lv.c h7)⟩
theorem aGw{w:World}{T:Nat->Prop}{A0:Prop}{T0:Nat->Prop}[Lv w A0 T0]{A1:Prop}{T1:Nat->Prop}[Lv w A1 T1]{A2:Prop}{T2:Nat->Prop}[Lv w A2 T2]{A3:Prop}{T3:Nat->Prop}[Lv w A3 T3]{A4:Prop}{T4:Nat->Prop}[Lv w A4 T4]{A5:Prop}{T5:Nat->Prop}[Lv w A5 T5]{A6:Prop}{T6:Nat->Prop}[Lv w A6 T6]{A7:Prop}{T7:Nat->Prop}[Lv w A7 T7]{A8:Prop}{T8:Nat->Prop}[Lv w A8 T8](g:KS w Mb T)(h0:A0)(h1:A1)(h2:A2)(h3:A3)(h4:A4)(h5:A5)(h6:A6)(h7:A7)(h8:A8):KO T T0/\KO T T1/\KO T T2/\KO T T3/\KO T T4/\KO T T5/\KO T T6/\KO T T7/\KO T T8:=⟨KO.new g (Lv.c h0),KO.new g (Lv.c h1),KO.new g (Lv.c h2),KO.new g (Lv.c h3),KO.new g (Lv.c h4),KO.new g (Lv.c h5),KO.new g (Lv.c h6),KO.new g (Lv.c h7),KO.new g (Lv.c h8)⟩
theorem aFL{w:World}{T:Nat->Prop}{A0:Prop}{T0:Nat->Prop}[Lv w A0 T0]{A1:Prop}{T1:Nat->Prop}[Lv w A1 T1]{A2:Prop}{T2:Nat->Prop}[Lv w A2 T2]{A3:Prop}{T3:Nat->Prop}[Lv w A3 T3]{A4:Prop}{T4:Nat->Prop}[Lv w A4 T4]{A5:Prop}{T5:Nat->Prop}[Lv w A5 T5]{A6:Prop}{T6:Nat->Prop}[Lv w A6 T6]{A7:Prop}{T7:Nat->Prop}[Lv w A7 T7]{A8:Prop}{T8:Nat->Prop}[Lv w A8 T8]{A9:Prop}{T9:Nat->Prop}[Lv w A9 T9](g:KS w Mb T)(h0:A0)(h1:A1)(h2:A2)(h3:A3)(h4:A4)(h5:A5)(h6:A6)(h7:A7)(h8:A8)(h9:A9):KO T T0/\KO T T1/\KO T T2/\KO T T3/\KO T T4/\KO T T5/\KO T T6/\KO T T7/\KO T T8/\KO T T9:=⟨KO.new g (Lv.c h0),KO.new g (Lv.c h1),KO.new g (Lv.c h2),KO.new g (Lv.c h3),KO.new g (Lv.c h4),KO.new g (Lv.c h5),KO.new g (Lv.c h6),KO.new g (Lv.c h7),KO.new g (Lv.c h8),KO.new g (Lv.c h9)⟩
theorem aGG{w:World}{T:Nat->Prop}{A0:Prop}{T0:Nat->Prop}[Lv w A0 T0]{A1:Prop}{T1:Nat->Prop}[Lv w A1 T1]{A2:Prop}{T2:Nat->Prop}[Lv w A2 T2]{A3:Prop}{T3:Nat->Prop}[Lv w A3 T3]{A4:Prop}{T4:Nat->Prop}[Lv w A4 T4]{A5:Prop}{T5:Nat->Prop}[Lv w A5 T5]{A6:Prop}{T6:Nat->Prop}[Lv w A6 T6]{A7:Prop}{T7:Nat->Prop}[Lv w A7 T7]{A8:Prop}{T8:Nat->Prop}[Lv w A8 T8]{A9:Prop}{T9:Nat->Prop}[Lv w A9 T9]{A10:Prop}{T10:Nat->Prop}[Lv w A10 T10](g:KS w Mb T)(h0:A0)(h1:A1)(h2:A2)(h3:A3)(h4:A4)(h5:A5)(h6:A6)(h7:A7)(h8:A8)(h9:A9)(h10:A10):KO T T0/\KO T T1/\KO T T2/\KO T T3/\KO T T4/\KO T T5/\KO T T6/\KO T T7/\KO T T8/\KO T T9/\KO T T10:=⟨KO.new g (Lv.c h0),KO.new g (Lv.c h1),KO.new g (Lv.c h2),KO.new g (Lv.c h3),KO.new g (Lv.c h4),KO.new g (Lv.c h5),KO.new g (Lv.c h6),KO.new g (Lv.c h7),KO.new g (Lv.c h8),KO.new g (Lv.c h9),KO.new g (Lv.c h10)⟩
theorem aGH{w:World}{T:Nat->Prop}{A0:Prop}{T0:Nat->Prop}[Lv w A0 T0]{A1:Prop}{T1:Nat->Prop}[Lv w A1 T1]{A2:Prop}{T2:Nat->Prop}[Lv w A2 T2]{A3:Prop}{T3:Nat->Prop}[Lv w A3 T3]{A4:Prop}{T4:Nat->Prop}[Lv w A4 T4]{A5:Prop}{T5:Nat->Prop}[Lv w A5 T5]{A6:Prop}{T6:Nat->Prop}[Lv w A6 T6]{A7:Prop}{T7:Nat->Prop}[Lv w A7 T7]{A8:Prop}{T8:Nat->Prop}[Lv w A8 T8]{A9:Prop}{T9:Nat->Prop}[Lv w A9 T9]{A10:Prop}{T10:Nat->Prop}[Lv w A10 T10]{A11:Prop}{T11:Nat->Prop}[Lv w A11 T11](g:KS w Mb T)(h0:A0)(h1:A1)(h2:A2)(h3:A3)(h4:A4)(h5:A5)(h6:A6)(h7:A7)(h8:A8)(h9:A9)(h10:A10)(h11:A11):KO T T0/\KO T T1/\KO T T2/\KO T T3/\KO T T4/\KO T T5/\KO T T6/\KO T T7/\KO T T8/\KO T T9/\KO T T10/\KO T T11:=⟨KO.new g (Lv.c h0),KO.new g (Lv.c h1),KO.new g (Lv.c h2),KO.new g (Lv.c h3),KO.new g (Lv.c h4),KO.new g (Lv.c h5),KO.new g (Lv.c h6),KO.new g (Lv.c h7),KO.new g (Lv.c h8),KO.new g (Lv.c h9),KO.new g (Lv.c h10),KO.new g (Lv.c h11)⟩
theorem aGF{w:World}{T:Nat->Prop}{A0:Prop}{T0:Nat->Prop}[Lv w A0 T0]{A1:Prop}{T1:Nat->Prop}[Lv w A1 T1]{A2:Prop}{T2:Nat->Prop}[Lv w A2 T2]{A3:Prop}{T3:Nat->Prop}[Lv w A3 T3]{A4:Prop}{T4:Nat->Prop}[Lv w A4 T4]{A5:Prop}{T5:Nat->Prop}[Lv w A5 T5]{A6:Prop}{T6:Nat->Prop}[Lv w A6 T6]{A7:Prop}{T7:Nat->Prop}[Lv w A7 T7]{A8:Prop}{T8:Nat->Prop}[Lv w A8 T8]{A9:Prop}{T9:Nat->Prop}[Lv w A9 T9]{A10:Prop}{T10:Nat->Prop}[Lv w A10 T10]{A11:Prop}{T11:Nat->Prop}[Lv w A11 T11]{A12:Prop}{T12:Nat->Prop}[Lv w A12 T12](g:KS w Mb T)(h0:A0)(h1:A1)(h2:A2)(h3:A3)(h4:A4)(h5:A5)(h6:A6)(h7:A7)(h8:A8)(h9:A9)(h10:A10)(h11:A11)(h12:A12):KO T T0/\KO T T1/\KO T T2/\KO T T3/\KO T T4/\KO T T5/\KO T T6/\KO T T7/\KO T T8/\KO T T9/\KO T T10/\KO T T11/\KO T T12:=⟨KO.new g (Lv.c h0),KO.new g (Lv.c h1),KO.new g (Lv.c h2),KO.new g (Lv.c h3),KO.new g (Lv.c h4),KO.new g (Lv.c h5),KO.new g (Lv.c h6),KO.new g (Lv.c h7),KO.new g (Lv.c h8),KO.new g (Lv.c h9),KO.new g (Lv.c h10),KO.new g (Lv.c h11),KO.new g (Lv.c h12)⟩
theorem SQ{w:World}{T:Nat->Prop}{A0:Prop}{T0:Nat->Prop}[Lv w A0 T0]{A1:Prop}{T1:Nat->Prop}[Lv w A1 T1]{A2:Prop}{T2:Nat->Prop}[Lv w A2 T2]{A3:Prop}{T3:Nat->Prop}[Lv w A3 T3]{A4:Prop}{T4:Nat->Prop}[Lv w A4 T4]{A5:Prop}{T5:Nat->Prop}[Lv w A5 T5]{A6:Prop}{T6:Nat->Prop}[Lv w A6 T6]{A7:Prop}{T7:Nat->Prop}[Lv w A7 T7]{A8:Prop}{T8:Nat->Prop}[Lv w A8 T8]{A9:Prop}{T9:Nat->Prop}[Lv w A9 T9]{A10:Prop}{T10:Nat->Prop}[Lv w A10 T10]{A11:Prop}{T11:Nat->Prop}[Lv w A11 T11]{A12:Prop}{T12:Nat->Prop}[Lv w A12 T12]{A13:Prop}{T13:Nat->Prop}[Lv w A13 T13](g:KS w Mb T)(h0:A0)(h1:A1)(h2:A2)(h3:A3)(h4:A4)(h5:A5)(h6:A6)(h7:A7)(h8:A8)(h9:A9)(h10:A10)(h11:A11)(h12:A12)(h13:A13):KO T T0/\KO T T1/\KO T T2/\KO T T3/\KO T T4/\KO T T5/\KO T T6/\KO T T7/\KO T T8/\KO T T9/\KO T T10/\KO T T11/\KO T T12/\KO T T13:=⟨KO.new g (Lv.c h0),KO.new g (Lv.c h1),KO.new g (Lv.c h2),KO.new g (Lv.c h3),KO.new g (Lv.c h4),KO.new g (Lv.c h5),KO.new g (Lv.c h6),KO.new g (Lv.c h7),KO.new g (Lv.c h8),KO.new g (Lv.c h9),KO.new g (Lv.c h10),KO.new g (Lv.c h11),KO.new g (Lv.c h12),KO.new g (Lv.c h13)⟩
theorem WX{w:World}{T T':Nat->Prop}{A0:Prop}{T0:Nat->Prop}[Lv w A0 T0]{A1:Prop}{T1:Nat->Prop}[Lv w A1 T1](g:KS w T T')(a0:KO T T0)(h0:A0)(a1:KO T T1)(h1:A1):KO T' T0/\KO T' T1:=⟨a0.grew g (Lv.c h0),a1.grew g (Lv.c h1)⟩
theorem aCy{w:World}{T T':Nat->Prop}{A0:Prop}{T0:Nat->Prop}[Lv w A0 T0]{A1:Prop}{T1:Nat->Prop}[Lv w A1 T1]{A2:Prop}{T2:Nat->Prop}[Lv w A2 T2](g:KS w T T')(a0:KO T T0)(h0:A0)(a1:KO T T1)(h1:A1)(a2:KO T T2)(h2:A2):KO T' T0/\KO T' T1/\KO T' T2:=⟨a0.grew g (Lv.c h0),a1.grew g (Lv.c h1),a2.grew g (Lv.c h2)⟩
theorem aFz{w:World}{T T':Nat->Prop}{A0:Prop}{T0:Nat->Prop}[Lv w A0 T0]{A1:Prop}{T1:Nat->Prop}[Lv w A1 T1]{A2:Prop}{T2:Nat->Prop}[Lv w A2 T2]{A3:Prop}{T3:Nat->Prop}[Lv w A3 T3](g:KS w T T')(a0:KO T T0)(h0:A0)(a1:KO T T1)(h1:A1)(a2:KO T T2)(h2:A2)(a3:KO T T3)(h3:A3):KO T' T0/\KO T' T1/\KO T' T2/\KO T' T3:=⟨a0.grew g (Lv.c h0),a1.grew g (Lv.c h1),a2.grew g (Lv.c h2),a3.grew g (Lv.c h3)⟩
theorem aEV{w:World}{T T':Nat->Prop}{A0:Prop}{T0:Nat->Prop}[Lv w A0 T0]{A1:Prop}{T1:Nat->Prop}[Lv w A1 T1]{A2:Prop}{T2:Nat->Prop}[Lv w A2 T2]{A3:Prop}{T3:Nat->Prop}[Lv w A3 T3]{A4:Prop}{T4:Nat->Prop}[Lv w A4 T4](g:KS w T T')(a0:KO T T0)(h0:A0)(a1:KO T T1)(h1:A1)(a2:KO T T2)(h2:A2)(a3:KO T T3)(h3:A3)(a4:KO T T4)(h4:A4):KO T' T0/\KO T' T1/\KO T' T2/\KO T' T3/\KO T' T4:=⟨a0.grew g (Lv.c h0),a1.grew g (Lv.c h1),a2.grew g (Lv.c h2),a3.grew g (Lv.c h3),a4.grew g (Lv.c h4)⟩
theorem Yo{w:World}{T T':Nat->Prop}{A0:Prop}{T0:Nat->Prop}[Lv w A0 T0]{A1:Prop}{T1:Nat->Prop}[Lv w A1 T1]{A2:Prop}{T2:Nat->Prop}[Lv w A2 T2]{A3:Prop}{T3:Nat->Prop}[Lv w A3 T3]{A4:Prop}{T4:Nat->Prop}[Lv w A4 T4]{A5:Prop}{T5:Nat->Prop}[Lv w A5 T5](g:KS w T T')(a0:KO T T0)(h0:A0)(a1:KO T T1)(h1:A1)(a2:KO T T2)(h2:A2)(a3:KO T T3)(h3:A3)(a4:KO T T4)(h4:A4)(a5:KO T T5)(h5:A5):KO T' T0/\KO T' T1/\KO T' T2/\KO T' T3/\KO T' T4/\KO T' T5:=⟨a0.grew g (Lv.c h0),a1.grew g (Lv.c h1),a2.grew g (Lv.c h2),a3.grew g (Lv.c h3),a4.grew g (Lv.c h4),a5.grew g (Lv.c h5)⟩
theorem aGN{w:World}{T T':Nat->Prop}{A0:Prop}{T0:Nat->Prop}[Lv w A0 T0]{A1:Prop}{T1:Nat->Prop}[Lv w A1 T1]{A2:Prop}{T2:Nat->Prop}[Lv w A2 T2]{A3:Prop}{T3:Nat->Prop}[Lv w A3 T3]{A4:Prop}{T4:Nat->Prop}[Lv w A4 T4]{A5:Prop}{T5:Nat->Prop}[Lv w A5 T5]{A6:Prop}{T6:Nat->Prop}[Lv w A6 T6](g:KS w T T')(a0:KO T T0)(h0:A0)(a1:KO T T1)(h1:A1)(a2:KO T T2)(h2:A2)(a3:KO T T3)(h3:A3)(a4:KO T T4)(h4:A4)(a5:KO T T5)(h5:A5)(a6:KO T T6)(h6:A6):KO T' T0/\KO T' T1/\KO T' T2/\KO T' T3/\KO T' T4/\KO T' T5/\KO T' T6:=⟨a0.grew g (Lv.c h0),a1.grew g (Lv.c h1),a2.grew g (Lv.c h2),a3.grew g (Lv.c h3),a4.grew g (Lv.c h4),a5.grew g (Lv.c h5),a6.grew g (Lv.c h6)⟩
theorem Sx{w:World}{T T':Nat->Prop}{A0:Prop}{T0:Nat->Prop}[Lv w A0 T0]{A1:Prop}{T1:Nat->Prop}[Lv w A1 T1]{A2:Prop}{T2:Nat->Prop}[Lv w A2 T2]{A3:Prop}{T3:Nat->Prop}[Lv w A3 T3]{A4:Prop}{T4:Nat->Prop}[Lv w A4 T4]{A5:Prop}{T5:Nat->Prop}[Lv w A5 T5]{A6:Prop}{T6:Nat->Prop}[Lv w A6 T6]{A7:Prop}{T7:Nat->Prop}[Lv w A7 T7](g:KS w T T')(a0:KO T T0)(h0:A0)(a1:KO T T1)(h1:A1)(a2:KO T T2)(h2:A2)(a3:KO T T3)(h3:A3)(a4:KO T T4)(h4:A4)(a5:KO T T5)(h5:A5)(a6:KO T T6)(h6:A6)(a7:KO T T7)(h7:A7):KO T' T0/\KO T' T1/\KO T' T2/\KO T' T3/\KO T' T4/\KO T' T5/\KO T' T6/\KO T' T7:=⟨a0.grew g (Lv.c h0),a1.grew g (Lv.c h1),a2.grew g (Lv.c h2),a3.grew g (Lv.c h3),a4.grew g (Lv.c h4),a5.grew g (Lv.c h5),a6.grew g (Lv.c h6),a7.grew g (Lv.c h7)⟩
theorem PI.mono{S:Nat->Prop}{w w':World}{T:Nat->Prop}(h:PI w T)(k:KR S w w'):PI w' T:=fun i hi=>Nat.lt_of_lt_of_le (h i hi) k.size
section
variable {ro:Option Nat} {P:Program} {N:Nat} {Q:(Exit->(Nat->Value)->World->Prop)} {F:Nat->Value} {w:World}
theorem LZ{ops:Array Oper}{o:Oper}{rest:List Oper}{R:Value->World->Prop}(j:Nat)(want:Bool)(d:Tmp)(hg:o.guard=some (j,want))(hj:(ops[j]?).bind (·.dst)=some d)(hdn:Nat.blt d N=true)(hv:F d = .bool want)(hd:OD N o.dst=true)
  (hy:Lg P (ev (M3 N F)) o w R) (h:∀ v w',R v w'->wl ro P N ops Q rest (OQ F o.dst v) w'):wl ro P N ops Q (o::rest) F w:=by
 refine az9 j want d hg hj hdn hv hd ?_
 revert hy
 unfold Lg
 generalize (execOp (ev (M3 N F)) o).run P w=r
 intro hy
 cases r with
 | ok n w' =>
  cases n <;> simp only at hy ⊢ <;> first
   | exact h _ _ hy
   | exact hy.elim
   | exact Calls.mono hy (fun e w'' ⟨v,he,hk⟩=>⟨v,he,h _ _ hk⟩)
 | halt x w'=>exact hy.elim
end
open Go.RowKit
theorem KR.setRow{S:Nat->Prop}{a w:World}(h:KR S a w)(g:Nat)(hg:g<a.heap.size->S g)(c:Array Value):KR S a (w.setRow g c) :=
 h.trans (S':=fun k=>k=g) ⟨rfl,rfl,rfl,by simp[World.setRow],fun k hk hn=>setRow_other _ _ _ _ hn⟩ (fun i hi x=>by subst x;exact hg hi)
section
variable {P:Program}
theorem VJ{w:World}{b:Nat}{c:List Value}{t:TypeId}{f:Nat×Nat}(h:w.heap[b]? = some (.cells c.toArray t f)):w.rangeAt b 0 c:=by
 intro j v hv
 rw[Nat.zero_add,ML h]
 simpa using hv
theorem OO(w:World)(b:Nat)(t ty:TypeId)(cs:Array Value)(fr:Nat×Nat)(d:TypeDesc)(hg:w.heap[b]? = some (.cells cs t fr))
  (hu:P.underlying ty=some d) (hd:d.isRow=true) (hi:(P.info? ty).map (·.size)=some cs.size):(loadVar ty ⟨b,0,none⟩).run P w = .ok (.agg cs) w:=by
 have e:=run_loadVar_mid (P:=P) w b 0 ty cs.toList d (VJ (t:=t) (f:=fr) (by simpa using hg)) hu hd (by simpa using hi)
 simpa using e
theorem P8{ρ:Operand->Value}{op:Oper}{w:World}{R:Value->World->Prop}(ty:TypeId)(x y:Operand)(ho:op.op = .store ty x y)
  (b:Nat) (old cells:Array Value) (t:TypeId) (hx:ρ x = .pointer (some ⟨b,0,none⟩)) (hy:ρ y = .agg cells)
  (hg:w.heap[b]? = some (.cells old t (0,0))) (hs:old.size=cells.size) (hi:(P.info? ty).map (·.size)=some cells.size) (h1:cells.all (·.oneCell')=true)
  (h:∀ w',w'.heap[b]? = some (.cells cells t (0,0))->KR (fun k=>k=b) w w'->R undef w'):Lg P ρ op w R:=by
 unfold Lg execOp
 simp only[ho,hx,hy,Instr.storeAt,Instr.sureAddr,Sem.run_bind,Sem.run_pure,Result.andThen_ok,run_storeVar_row w b t ty old cells hg hi hs h1]
 exact h _ (setRow_heap _ _ _ _ _ _ hg) ((KR.refl (fun k=>k=b) w).setRow b (fun _=>rfl) cells)
theorem Sd{fn:Func}{p:Tmp}{ty:TypeId}(h:fn.results = #[.cell p ty])(tmps:Array Value)(w:World)(b:Nat)(hp:tmps.getD p undef = .pointer (some ⟨b,0,none⟩))
  (cs:Array Value) (t:TypeId) (fr:Nat×Nat) (d:TypeDesc) (hg:w.heap[b]? = some (.cells cs t fr))
  (hu:P.underlying ty=some d) (hd:d.isRow=true) (hi:(P.info? ty).map (·.size)=some cs.size):(results fn tmps).run P w = .ok (.agg cs) w:=by
 have hl:=OO (P:=P) w b t ty cs fr d hg hu hd hi
 have hp':tmps[p]?.getD undef = .pointer (some ⟨b,0,none⟩):=by rw[← hp];simp
 simp only[results,h]
 simp[hp',asAddr,hl]
theorem TF{ρ:Operand->Value}{o:Oper}{w:World}{R:Value->World->Prop}{ty:TypeId}{x:Operand}(ho:o.op = .load ty x)
  (b:Nat) (hx:ρ x = .pointer (some ⟨b,0,none⟩)) (cs:Array Value) (t:TypeId) (fr:Nat×Nat) (d:TypeDesc) (hg:w.heap[b]? = some (.cells cs t fr))
  (hu:P.underlying ty=some d) (hd:d.isRow=true) (hi:(P.info? ty).map (·.size)=some cs.size) (h:R (.agg cs) w):Lg P ρ o w R:=by
 have e:(execOp ρ o).run P w = .ok (.value (.agg cs)) w:=by
  simp only[execOp,ho,hx,Instr.loadAt,Instr.sureAddr,Sem.run_bind,Sem.run_pure,Result.andThen_ok,OO w b t ty cs fr d hg hu hd hi]
 unfold Lg;rw[e];exact h
end
open Go.RowKit
def Mp(n:Nat)(b:Nat->Int):List Value:=(List.range n).map fun i=>.int .i64 (b i)
theorem OV(n:Nat)(b:Nat->Int):(Mp n b).length=n:=by simp[Mp]
theorem R3{n:Nat}{b:Nat->Int}{i:Nat}(h:i<n):(Mp n b)[i]? = some (.int .i64 (b i)):=by
 unfold Mp
 rw[List.getElem?_map,List.getElem?_range h];rfl
theorem ZR(n:Nat)(b:Nat->Int):∀ u∈Mp n b,u.oneCell'=true:=by
 intro u hu
 obtain⟨x,_,rfl⟩:=List.mem_map.1 hu
 rfl
theorem TJ{n:Nat}{b c:Nat->Int}(h:∀ i,i<n->b i=c i):Mp n b=Mp n c:=by
 unfold Mp
 apply List.map_congr_left
 intro i hi
 rw[h i (by simpa using hi)]
def Vo(b:Nat->Int)(k:Nat)(x:Int):Nat->Int:=fun i=>if i=k then x else b i
theorem Zb(n:Nat)(b:Nat->Int)(k:Nat)(x:Int):(Mp n b).toArray.setIfInBounds k (.int .i64 x)=(Mp n (Vo b k x)).toArray:=by
 rw[List.setIfInBounds_toArray]
 congr 1
 apply List.ext_getElem?
 intro i
 unfold Mp Vo
 rw[List.getElem?_set]
 simp only[List.length_map,List.length_range,List.getElem?_map]
 by_cases h:k=i
 ·subst h
  by_cases hk:k<n
  ·simp[hk]
  ·simp[hk]
 ·rw[if_neg h]
  by_cases hi:i<n
  ·rw[List.getElem?_range hi]
   simp[Ne.symm h]
  ·rw[List.getElem?_eq_none (by simp;omega)];rfl
theorem XA(n:Nat):(Mp n (fun _=>0)).toArray=Array.replicate n (.int .i64 0):=by
 unfold Mp
 apply Array.ext'
 rw[Array.toList_replicate]
 show List.map (fun _=>Value.int .i64 0) (List.range n)=_
 rw[List.map_const',List.length_range]
def LW(b:Nat->Int):Value:=.agg (Mp 16 b).toArray
theorem aze{b c:Nat->Int}(h:∀ i,i<16->b i=c i):LW b=LW c:=by unfold LW;rw[TJ h]
def Of(w:World)(p:Nat)(t:TypeId)(b:Nat->Int):Prop:=w.heap[p]? = some (.cells (Mp 16 b).toArray t (0,0))
theorem Of.all{w w':World}{S:Nat->Prop}{p:Nat}{t:TypeId}{b:Nat->Int}(h:Of w p t b)(k:KR S w w')(hn:¬ S p):Of w' p t b:=k.at h hn
theorem Of.congr{w:World}{p:Nat}{t:TypeId}{b c:Nat->Int}(h:Of w p t b)(e:∀ i,i<16->b i=c i):Of w p t c:=by unfold Of at *;rw[← TJ e];exact h
theorem Of.cell{w:World}{p:Nat}{t:TypeId}{b:Nat->Int}(h:Of w p t b){i:Nat}(hi:i<16):w.cell? ⟨p,i,none⟩=some (.int .i64 (b i)):=by
 rw[ML h,List.getElem?_toArray];exact R3 hi
theorem Of.free{w:World}{p:Nat}{t:TypeId}{b:Nat->Int}(h:Of w p t b)(i:Nat):w.frozen? ⟨p,i,none⟩=false:=Nm h
theorem Of.lt{w:World}{p:Nat}{t:TypeId}{b:Nat->Int}(h:Of w p t b):p<w.heap.size:=M5 h
instance {w w':World} {p:Nat} {t:TypeId} {b:Nat->Int}:Cr w w' (Of w p t b) (Of w' p t b):=⟨fun h k=>h.all k id⟩
instance {w:World} {p:Nat} {t:TypeId} {b:Nat->Int}:Lv w (Of w p t b) (Lh p):=⟨fun h=>L8 h.lt⟩
theorem Of.set{w:World}{p:Nat}{t:TypeId}{b:Nat->Int}(h:Of w p t b)(k:Nat)(x:Int):Of (w.setCell ⟨p,k,none⟩ (.int .i64 x)) p t (Vo b k x):=by
 unfold Of;rw[Np _ _ _ _ h,Zb]
theorem Of.new(w:World)(t:TypeId)(b:Nat->Int):Of (w.alloc (.cells (Mp 16 b).toArray t)) w.heap.size t b:=heap_alloc_new w _
theorem Tryz.size_int:(Tryz.prog.info? 3).map (·.size)=some 1:=by kernel_rfl
theorem Tryz.info_blk:(Tryz.prog.info? 69).map (fun i=>(i.zero,i.size))=some (some (.agg (Array.replicate 16 (.int .i64 0))),16):=by kernel_rfl
def Yd(t:TypeId):Prop:=Tryz.prog.underlying t=some (.array 16 3)/\(Tryz.prog.info? t).map (·.size)=some 16/\(∀ w,(zeroValue t).run Tryz.prog w = .ok (.agg (Mp 16 (fun _=>0)).toArray) w)
theorem KW:Yd 69:=⟨Tryz.underlying69,(zero_of_info Tryz.info_blk).2,by rw[XA];exact(zero_of_info Tryz.info_blk).1⟩
theorem Yd.size{t:TypeId}(h:Yd t)(b:Nat->Int):(Tryz.prog.info? t).map (·.size)=some (Mp 16 b).toArray.size:=by rw[List.size_toArray,OV];exact h.2.1
theorem Ve{P:Program}{e:TypeId}(he:P.underlying e=some (.int .i64))(hce:P.cellsOf e=1)(w:World)(d n:Nat)(a b:Nat->Int) :
  ∀ (is:List Nat),(∀ i∈is,i<n)->(Op.eqItems (d+1) e (P.cellsOf e) (Mp n a).toArray (Mp n b).toArray is).run P w = .ok (is.all fun i=>a i==b i) w:=by
 have hp:∀ (c:Nat->Int) (i:Nat),i<n->(part e (Mp n c).toArray (i*P.cellsOf e)).run P w = .ok (.int .i64 (c i)) w:=by
  intro c i hi
  have h1:(Mp n c).toArray[i]? = some (.int .i64 (c i)):=by rw[List.getElem?_toArray];exact R3 hi
  rw[hce,Nat.mul_one]
  simp[part,isAgg,run_underlying he,h1]
 intro is
 induction is with
 | nil=>intro _;simp[Op.eqItems]
 | cons i is ih =>
  intro h
  have hi:=h i (by simp)
  simp only[Op.eqItems,Sem.run_bind,hp a i hi,hp b i hi,Result.andThen_ok,run_equalIn_int w d e .i64 .i64 _ _ he]
  cases hab:a i==b i
  ·simp[hab]
  ·simp only[Bool.not_true,Bool.false_eq_true,if_false]
   rw[ih (fun j hj=>h j (by simp[hj]))]
   simp[hab]
def Tz(a b:Nat->Int):Bool:=(List.range 16).all fun i=>a i==b i
theorem Vg{a b:Nat->Int}:Tz a b=true ↔ ∀ i,i<16->a i=b i:=by
 unfold Tz
 rw[List.all_eq_true]
 constructor
 ·intro h i hi;simpa using h i (by simpa using hi)
 ·intro h i hi;simpa using h i (by simpa using hi)
theorem ayG{a b:Nat->Int}(h:∀ i,i<16->a i=b i):Tz a b=true:=Vg.2 h
theorem Tryz.cells_int:Tryz.prog.cellsOf 3=1:=by kernel_rfl
theorem Zz(t:TypeId)(ht:Yd t)(w:World)(a b:Nat->Int):(binOp .eql t (LW a) (LW b)).run Tryz.prog w = .ok (.bool (Tz a b)) w:=by
 obtain⟨i0,hi⟩:∃ i,Tryz.prog.info? 3=some i:=by
  have:=Tryz.size_int
  cases h:Tryz.prog.info? 3 with
  | none=>rw[h] at this;cases this
  | some i=>exact⟨i,rfl⟩
 unfold LW
 rw[run_eql_struct,run_equalIn_array w 9999 _ _ ht.1 hi,Ve Tryz.underlying3 Tryz.cells_int w 9998 16 a b _ (fun i hi=>by simpa using hi)]
 rfl
theorem Tryz.guard_blk:Tryz.prog.eqGuardType Tryz.prog.depth 69=false:=by kernel_rfl
theorem Xn(x y:Operand)(w:World)(a b:Nat->Int):(eqGuard .eql 69 x y (LW a) (LW b)).run Tryz.prog w = .ok () w:=run_eqGuard_agg w .eql _ x y _ _ Tryz.guard_blk
open Go.RowKit
section
variable {ro:Option Nat} {P:Program} {N:Nat} {Q:(Exit->(Nat->Value)->World->Prop)} {F:Nat->Value} {w:World}
theorem Ny{ops:Array Oper}{o:Oper}{rest:List Oper}{t:TypeId}{x:Operand}{b:Nat->Int}(hg:o.guard=none)(hd:OD N o.dst=true)(ho:o.op = .box t x)(hx:ev (M3 N F) x=LW b)
  (h:∀ p w',p=w.heap.size->Of w' p t b->KR (fun _=>False) w w'->wl ro P N ops Q rest (OQ F o.dst (.pointer (some ⟨p,0,none⟩))) w'):wl ro P N ops Q (o::rest) F w :=
 NV hg hd (OJ (v:=.pointer (some ⟨w.heap.size,0,none⟩)) (w':=w.alloc (.cells (Mp 16 b).toArray t)) (by simp[execOp,ho,hx,LW,go_sem]) (h _ _ rfl (Of.new w t b) ((KR.refl _ _).alloc _)))
theorem Mf{ops:Array Oper}{o:Oper}{rest:List Oper}{t:TypeId}(hg:o.guard=none)(hd:OD N o.dst=true)(ho:o.op = .alloc t)(hz:∀ w,(zeroValue t).run P w = .ok (.agg (Mp 16 (fun _=>0)).toArray) w)
  (h:∀ p w',p=w.heap.size->Of w' p t (fun _=>0)->KR (fun _=>False) w w'->wl ro P N ops Q rest (OQ F o.dst (.pointer (some ⟨p,0,none⟩))) w'):wl ro P N ops Q (o::rest) F w :=
 NV hg hd (OJ (v:=.pointer (some ⟨w.heap.size,0,none⟩)) (w':=w.alloc (.cells (Mp 16 (fun _=>0)).toArray t)) (by simp[execOp,ho,hz,go_sem]) (h _ _ rfl (Of.new w t _) ((KR.refl _ _).alloc _)))
end
section
variable {ro:Option Nat} {N:Nat} {Q:(Exit->(Nat->Value)->World->Prop)} {F:Nat->Value} {w:World} {ρ:Operand->Value} {o:Oper} {R:Value->World->Prop}
theorem Me{ty t:TypeId}{x:Operand}{p:Nat}{b:Nat->Int}(hT:Yd ty)(ho:o.op = .load ty x)(hx:ρ x = .pointer (some ⟨p,0,none⟩))(hB:Of w p t b)(h:R (LW b) w):Lg Tryz.prog ρ o w R :=
 TF ho p hx _ t (0,0) _ hB hT.1 rfl (hT.size b) h
theorem Lu{ops:Array Oper}{rest:List Oper}{ty t:TypeId}{x y:Operand}{p:Nat}{b c:Nat->Int}(hT:Yd ty)(hg:o.guard=none)(hdn:o.dst=none)(ho:o.op = .store ty x y)(hx:ev (M3 N F) x = .pointer (some ⟨p,0,none⟩))(hy:ev (M3 N F) y=LW c)(hB:Of w p t b)
  (h:∀ w',Of w' p t c->KR (fun k=>k=p) w w'->wl ro Tryz.prog N ops Q rest F w'):wl ro Tryz.prog N ops Q (o::rest) F w:=by
 refine NV hg (by rw[hdn];rfl) (P8 ty x y ho p _ (Mp 16 c).toArray t hx hy hB (by rw[List.size_toArray,List.size_toArray,OV,OV]) (hT.size c) (all_oneCell_toArray (ZR _ _)) fun w' hw hk=>?_)
 rw[hdn]
 exact h w' hw hk
theorem Oh{ops:Array Oper}{rest:List Oper}{ty t:TypeId}{x y:Operand}{p k:Nat}{n:Int}{b:Nat->Int}(hg:o.guard=none)(hdn:o.dst=none)(ho:o.op = .store ty x y)(hx:ev (M3 N F) x = .pointer (some ⟨p,k,none⟩))(hy:ev (M3 N F) y = .int .i64 n)(hB:Of w p t b)(hk:k<16)
  (hs:(Tryz.prog.info? ty).map (·.size)=some 1)
  (h:∀ w',Of w' p t (Vo b k n)->KR (fun k=>k=p) w w'->wl ro Tryz.prog N ops Q rest F w'):wl ro Tryz.prog N ops Q (o::rest) F w:=by
 have hc:=hB.cell hk
 have hf:=hB.free k
 cases hq:Tryz.prog.info? ty with
 | none=>simp[hq] at hs
 | some i =>
  have hs':i.size=1:=by simpa [hq] using hs
  refine NV hg (by rw[hdn];rfl) ?_
  have e:(execOp (ev (M3 N F)) o).run Tryz.prog w = .ok .skip (w.setCell ⟨p,k,none⟩ (.int .i64 n))\/(execOp (ev (M3 N F)) o).run Tryz.prog w = .ok (.value undef) (w.setCell ⟨p,k,none⟩ (.int .i64 n)):=by
   simp[execOp,ho,hx,hy,Instr.storeAt,Instr.sureAddr,storeVar,sizeOf,typeInfo,hq,hs',Value.cells,hc,hf,go_sem]
  unfold Lg
  rw[hdn]
  rcases e with e|e <;> rw[e] <;> exact h _ (hB.set k n) ((KR.refl (fun k=>k=p) w).setCell ⟨p,k,none⟩ (fun _=>rfl) _)
theorem Rm{fn:Func}{p:Tmp}{ty t:TypeId}{q:Nat}{b:Nat->Int}{R:Ending->World->Prop}(hT:Yd ty)(hm:F N=undef)(ht:Nat.blt p N=true)(h:fn.results = #[.cell p ty])(hp:F p = .pointer (some ⟨q,0,none⟩))(hB:Of w q t b)(hR:R (.returned (LW b)) w):Z5 Tryz.prog fn N R .ret F w :=
 ⟨hm,fun a ha=>⟨_,Sd h _ _ q (by rw[ha.at' p ht];exact hp) _ t (0,0) _ hB hT.1 rfl (hT.size b),hR⟩⟩
theorem MH{p:Tmp}{ty t:TypeId}{q:Nat}{b:Nat->Int}(hT:Yd ty)(ht:Nat.blt p N=true)(hp:F p = .pointer (some ⟨q,0,none⟩))(hB:Of w q t b):Ts Tryz.prog N F w (.cell p ty) (LW b) :=
 ⟨ht,_,hp,OO w q t ty _ (0,0) _ hB hT.1 rfl (hT.size b)⟩
theorem aEl{t':TypeId}{x y:Operand}{a b:Nat->Int}{c:Bool}(ho:o.op = .binOp .eql 69 x y t')(hx:ρ x=LW a)(hy:ρ y=LW b)(hr:Tz a b=c)(h:R (.bool c) w):Lg Tryz.prog ρ o w R :=
 OJ (v:=.bool (Tz a b)) (w':=w) (by simp only[execOp,ho,hx,hy,Sem.run_bind,Xn,Zz _ KW,Result.andThen_ok,Sem.run_pure]) (by rw[hr];exact h)
theorem aBN{t:TypeId}{x y:Operand}{k:IntKind}(j:Nat){a:Nat->Int}{r:Int}(ht:Yd t)(ho:o.op = .index t x y)(hx:ρ x=LW a)(hy:ρ y = .int k (j:Int))(hj:j<16)(hr:a j=r)(h:R (.int .i64 r) w):Lg Tryz.prog ρ o w R:=by
 subst hr
 have h1:(Mp 16 a).toArray[j]? = some (.int .i64 (a j)):=by rw[List.getElem?_toArray];exact R3 hj
 cases hq:Tryz.prog.info? 3 with
 | none=>have:=Tryz.size_int;simp[hq] at this
 | some i =>
  have hs':i.size=1:=by have:=Tryz.size_int;simpa [hq] using this
  have hp:(part 3 (Mp 16 a).toArray j).run Tryz.prog w = .ok (.int .i64 (a j)) w:=by simp[part,isAgg,run_underlying Tryz.underlying3,h1]
  exact OJ (v:=.int .i64 (a j)) (w':=w) (by simp[execOp,ho,hx,hy,Instr.index,LW,run_underlying ht.1,asIntOf,sizeOf,typeInfo,hq,hs',hj,hp]) h
end
def wv(u c:Nat):Int:=([1,1,1,1,1,1,-1,-1,1,-1,-1,1,1,-1,1,-1]:List Int).getD (4*u+c) 0
def turn(b:Nat->Int)(i:Nat):Int :=
 b (4*(i%4))*wv (i/4) 0+b (4*(i%4)+1)*wv (i/4) 1+b (4*(i%4)+2)*wv (i/4) 2+b (4*(i%4)+3)*wv (i/4) 3
def fwd(b:Nat->Int):Nat->Int:=turn (turn b)
def rnd(n:Int):Int:=(n+8)/16
def cl(m x:Int):Int:=max (-m) (min x m)
def SC(m:Int)(b:Nat->Int):Nat->Int:=fun i=>cl m (b i)
theorem aBK(m x:Int)(h:0<=m) : -m<=cl m x/\cl m x<=m:=by unfold cl;omega
theorem azD(m x:Int)(h1 : -m<=x)(h2:x<=m):cl m x=x:=by unfold cl;omega
theorem aBX(u c:Nat):wv u c=1\/wv u c = -1\/wv u c=0:=by
 unfold wv
 have:∀ n,([1,1,1,1,1,1,-1,-1,1,-1,-1,1,1,-1,1,-1]:List Int).getD n 0=1\/([1,1,1,1,1,1,-1,-1,1,-1,-1,1,1,-1,1,-1]:List Int).getD n 0 = -1\/([1,1,1,1,1,1,-1,-1,1,-1,-1,1,1,-1,1,-1]:List Int).getD n 0=0:=by
  intro n
  by_cases h:n<16
  ·revert n;decide
  ·right;right
   rw[List.getD_eq_getElem?_getD,List.getElem?_eq_none (by simp;omega)];rfl
 exact this _
theorem UQ(x:Int)(M:Int)(u c:Nat)(h1 : -M<=x)(h2:x<=M) : -M<=x*wv u c/\x*wv u c<=M:=by
 rcases aBX u c with h|h|h <;> rw[h] <;> omega
theorem YM(b:Nat->Int)(M:Int)(h:∀ i,i<16 → -M<=b i/\b i<=M)(i:Nat) : -(4*M)<=turn b i/\turn b i<=4*M:=by
 unfold turn
 have h0:=h (4*(i%4)) (by omega)
 have h1:=h (4*(i%4)+1) (by omega)
 have h2:=h (4*(i%4)+2) (by omega)
 have h3:=h (4*(i%4)+3) (by omega)
 have k0:=UQ _ M (i/4) 0 h0.1 h0.2
 have k1:=UQ _ M (i/4) 1 h1.1 h1.2
 have k2:=UQ _ M (i/4) 2 h2.1 h2.2
 have k3:=UQ _ M (i/4) 3 h3.1 h3.2
 omega
theorem aFb(b:Nat->Int)(M:Int)(h:∀ i,i<16 → -M<=b i/\b i<=M)(i:Nat) : -(16*M)<=fwd b i/\fwd b i<=16*M:=by
 have:=YM (turn b) (4*M) (fun i _=>YM b M h i) i
 unfold fwd;omega
theorem ayL{b c:Nat->Int}(h:∀ i,i<16->b i=c i):turn b=turn c:=by
 funext i
 unfold turn
 rw[h _ (by omega),h (4*(i%4)+1) (by omega),h (4*(i%4)+2) (by omega),h (4*(i%4)+3) (by omega)]
theorem XZ{b c:Nat->Int}(h:∀ i,i<16->b i=c i):fwd b=fwd c:=by unfold fwd;rw[ayL h]
theorem XL:turn (fun _=>0)=fun _=>0:=by funext i;simp[turn]
theorem ZV:fwd (fun _=>0)=fun _=>0:=by unfold fwd;rw[XL,XL]
open Go.RowKit
def upto(k:Nat)(b c:Nat->Int):Nat->Int:=fun i=>if i<k then c i else b i
theorem XK(b c:Nat->Int):upto 0 b c=b:=by funext i;simp[upto]
theorem aAH(b c:Nat->Int)(i:Nat)(hi:i<16):upto 16 b c i=c i:=by simp[upto,hi]
theorem Y8(k:Nat)(b c:Nat->Int):Vo (upto k b c) k (c k)=upto (k+1) b c:=by
 funext i
 unfold Vo upto
 by_cases h:i=k
 ·subst h;simp
 ·rw[if_neg h]
  by_cases h2:i<k
  ·rw[if_pos h2,if_pos (by omega)]
  ·rw[if_neg h2,if_neg (by omega)]
theorem V3(k:Nat)(b c:Nat->Int):upto k b c k=b k:=by simp[upto]
theorem Of.first{w:World}{p:Nat}{t:TypeId}{b c:Nat->Int}(h:Of w p t b):Of w p t (upto 0 b c):=by rw[XK];exact h
theorem Of.next{w:World}{p:Nat}{t:TypeId}{b c:Nat->Int}{k:Nat}{x:Int}(h:Of w p t (Vo (upto k b c) k x))(e:x=c k):Of w p t (upto (k+1) b c):=by rw[← Y8,← e];exact h
theorem Of.last{w:World}{p:Nat}{t:TypeId}{b c:Nat->Int}(h:Of w p t (upto 16 b c)):Of w p t c:=h.congr (aAH b c)
theorem UC{x y:Int}(h:x=y):some (Value.int .i64 x)=some (Value.int .i64 y):=by rw[h]
def QZ(w:World):Prop:=4<w.heap.size/\∀ i,i<16->w.cell? ⟨4,i,none⟩=some (.int .i64 (wv 0 i))
theorem KR.cell0{S:Nat->Prop}{w w':World}(k:KR S w w'){b off:Nat}(hb:b<w.heap.size)(hn:¬ S b):w'.cell? ⟨b,off,none⟩=w.cell? ⟨b,off,none⟩:=by
 unfold World.cell?;rw[k.block b hb hn]
theorem QZ.all{w w':World}(h:QZ w)(k:KR (fun _=>False) w w'):QZ w' :=
 ⟨Nat.lt_of_lt_of_le h.1 k.size,fun i hi=>(k.cell0 h.1 id).trans (h.2 i hi)⟩
theorem aDy(u c:Nat):wv 0 (u*4+c)=wv u c:=by unfold wv;congr 1;omega
theorem QZ.at{w:World}(h:QZ w)(u c:Nat)(hu:u<4)(hc:c<4):w.cell? ⟨4,0+u*4+c,none⟩=some (.int .i64 (wv u c)):=by
 rw[← aDy u c,← h.2 (u*4+c) (by omega)]
 congr 2;omega
def ps(b:Nat->Int)(r u:Nat):Nat->Int
 | 0=>0
 | c+1=>ps b r u c+b (r*4+c)*wv u c
theorem aFD(b:Nat->Int)(M:Int)(h:∀ i,i<16 → -M<=b i/\b i<=M)(r u c:Nat)(hr:r<4)(hc:c<=4) : -(c*M)<=ps b r u c/\ps b r u c<=c*M:=by
 induction c with
 | zero=>simp[ps]
 | succ c ih =>
  have h1:=ih (by omega)
  have h2:=h (r*4+c) (by omega)
  have h3:=UQ _ M u c h2.1 h2.2
  have e:((c+1:Nat):Int)*M=(c:Int)*M+M:=by rw[Int.natCast_add,Int.add_mul];simp
  rw[e]
  unfold ps
  omega
theorem aDD(b:Nat->Int)(r u:Nat)(hr:r<4):ps b r u 4=turn b (u*4+r):=by
 have e1:(u*4+r)%4=r:=by omega
 have e2:(u*4+r)/4=u:=by omega
 simp only[ps,turn,e1,e2,Nat.mul_comm r 4,Nat.add_zero]
 omega
def PK(b:Nat->Int)(r u c i:Nat):Int:=if i%4<r\/(i%4=r/\i/4<u) then turn b i else if i%4=r/\i/4=u then ps b r u c else 0
theorem TH(b:Nat->Int)(r u c:Nat)(hr:r<4):PK b r u c (u*4+r)=ps b r u c:=by
 have e1:(u*4+r)%4=r:=by omega
 have e2:(u*4+r)/4=u:=by omega
 unfold PK
 rw[e1,e2,if_neg (by omega),if_pos ⟨rfl,rfl⟩]
theorem aA0(b:Nat->Int)(r u c:Nat)(hr:r<4):Vo (PK b r u c) (u*4+r) (ps b r u (c+1))=PK b r u (c+1):=by
 funext i
 unfold Vo
 by_cases h:i=u*4+r
 ·subst h;rw[if_pos rfl,TH b r u (c+1) hr]
 ·rw[if_neg h]
  have hn:¬ (i%4=r/\i/4=u):=by omega
  unfold PK
  rw[if_neg hn,if_neg hn]
theorem aBk(b:Nat->Int)(r u:Nat)(hr:r<4):PK b r u 4=PK b r (u+1) 0:=by
 funext i
 by_cases h:i=u*4+r
 ·subst h
  rw[TH b r u 4 hr,aDD b r u hr]
  unfold PK
  rw[if_pos (by omega)]
 ·unfold PK
  have hn:¬ (i%4=r/\i/4=u):=by omega
  by_cases h1:i%4<r\/(i%4=r/\i/4<u)
  ·rw[if_pos h1,if_pos (by omega)]
  ·rw[if_neg h1,if_neg hn,if_neg (by omega)]
   split <;> simp[ps]
theorem ay0(b:Nat->Int)(r:Nat)(i:Nat)(hi:i<16):PK b r 4 0 i=PK b (r+1) 0 0 i:=by
 unfold PK
 by_cases h1:i%4<r\/(i%4=r/\i/4<4)
 ·rw[if_pos h1,if_pos (by omega)]
 ·rw[if_neg h1,if_neg (by omega),if_neg (by omega)]
  split <;> simp[ps]
theorem Zg(b:Nat->Int):PK b 0 0 0=fun _=>0:=by
 funext i
 unfold PK
 rw[if_neg (by omega)]
 split <;> simp[ps]
theorem aAp(b:Nat->Int)(i:Nat):PK b 4 0 0 i=turn b i:=by
 unfold PK;rw[if_pos (by omega)]
theorem Xv{b:Nat->Int}(h:Tz b (fun _=>0)=true):Ending.returned (LW b) = .returned (LW (fwd b)):=by
 have e:=Vg.1 h
 rw[XZ (c:=fun _=>0) e,ZV,aze e]
def Pu(a b:Nat->Int):Nat->Int:=fun i=>SC 1048576 a i+SC 1048576 b i
def Ov(b:Nat->Int):Nat->Int:=fun i=>rnd (fwd (SC 1048576 b) i)
theorem Yr(b:Nat->Int)(i:Nat) : -1048576<=SC 1048576 b i/\SC 1048576 b i<=1048576:=aBK 1048576 (b i) (by omega)
theorem SY(b:Nat->Int)(w0:World) :
  Calls Tryz.prog 146 #[LW (b)] w0 fun e w'=>e = .returned (LW (SC 1048576 b))/\KR (fun _=>False) w0 w':=by
 refine Ly (args:=[LW b]) 16 Tryz.func146 rfl rfl (Nat.le_of_ble_eq_true rfl) ?_
 have K0:=KR.refl (fun _=>False) w0
 refine KM (KL (Ny rfl rfl rfl rfl fun p1 w2 e5 B3 k4=>?_))
 have K8:=K0.tr k4
 refine Mf rfl rfl rfl KW.2.2 fun p9 aS an aB ao=>?_
 have ap:=L7 (Nat.le_of_eq an.symm)
 have aC:=KO.new ap (L8 B3.lt)
 clear an
 have aD:=B3.all ao id
 refine KQ ?_
 have aE:=K4 (undef)
 have aF:=K4 (pt p1 0)
 have aG:=K4 (pt p9 0)
 refine KK (KM (KM (KL (KN (iv 0) rr (KT rfl rfl rr) (KQ ?_)))))
 have aH:=K4 (iv 0)
 refine KK (Lm (M8 (fun nn FF ww=>∃ (k:Nat),(k<=16)/\nn=16-k/\FF 1=pt p1 0/\FF 2=pt p9 0/\FF 16=undef/\FF 4=iv ((k:Nat):Int)/\KR (fun _=>False) w0 ww/\Of ww p1 69 (upto k b (SC 1048576 b))/\Of ww p9 69 (fun _=>0)) (16-0) ⟨0,by omega,rfl,aF,aG,aE,aH,(K8.tr ao),aD.first,aB⟩ ?_))
 rintro aT aU aI ⟨k,i34,hn33,ae,af,aq,ah,ar,ai,au⟩
 refine KM (KL (KN (.bool (decide (((k:Nat):Int)<16))) rr (Mc rfl ah rfl rfl rr) (KQ ?_)))
 have aJ:=K4 (.bool (decide (((k:Nat):Int)<16)))
 refine KK (KM ?_)
 refine K5 aJ (fun ab=>?_) (fun ab=>?_)
 ·replace ab:=of_decide_eq_true ab
  refine Lf (KK (KM (Lm (KM (KL (K2 Lw ah (Lb (iv ((k:Nat):Int)) LE (KQ ?_))))))))
  have av:=K4 (iv ((k:Nat):Int))
  refine KK (KL (K2 Lw av (K2 Lw av (KN (.pointer (some ⟨p1,k,none⟩)) rr (L3 k (s:=1) rfl ae rfl (by omega) Tryz.underlying69 (by omega) (by kernel_rfl) (by omega) rr) (KN (iv ((upto k b (SC 1048576 b)) k)) rr (Pj rfl rfl Tryz.underlying3 (ai.cell (by omega)) rr) (KN (iv (min ((upto k b (SC 1048576 b)) k) 1048576)) rr (RB rfl rfl rfl rfl rr) (KN (iv (max (-1048576) (min ((upto k b (SC 1048576 b)) k) 1048576))) rr (R9 rfl rfl rfl rfl rr) (KN (.pointer (some ⟨p1,k,none⟩)) rr (L3 k (s:=1) rfl ae rfl (by omega) Tryz.underlying69 (by omega) (by kernel_rfl) (by omega) rr) (Oh rfl rfl rfl rfl rfl ai (by omega) (by kernel_rfl) fun aV aK aw=>?_)))))))))
  have aL:=au.all aw (aC p9 rfl)
  refine KQ ?_
  refine Lz (KK (KL (KN (iv ((k+1:Nat):Int)) rr (LS rfl ah rfl (LX (by omega) (by omega)) rr) (KN (iv ((k+1:Nat):Int)) rr (KT rfl rfl rr) (KQ ?_)))))
  have aM:=K4 (iv ((k+1:Nat):Int))
  exact KK ⟨(16-(k+1)),by omega,k+1,by omega,rfl,ae,af,aq,aM,(ar.trans aw (KS.ok (S:=fun _=>False) (KS.new K0 (L7 (Nat.le_of_eq e5.symm))) KZ)),(aK.next (by rw[V3];rfl)),aL⟩
 ·replace ab:=of_decide_eq_false ab
  refine Mm (Lp (Lp ?_))
  have aN:16=k:=by omega
  subst aN
  have aO:Of aI p1 69 (SC 1048576 b):=(ai.last)
  refine Mk (KK (KM (KL (KN (LW (SC 1048576 b)) rr (Me KW rfl ae aO rr) (Lu KW rfl rfl rfl af rfl au fun aW aP aQ=>?_)))))
  refine KQ ?_
  refine KK (Le ?_)
  exact Rm KW aq rfl rfl af aP ⟨rfl,(ar.trans aQ (KS.ok (S:=fun _=>False) (KS.new K8 ap) KZ))⟩
theorem Ww(b:Nat->Int)(w0:World)(hw:QZ w0)(hb:∀ i,i<16 → -1099511627776<=b i/\b i<=1099511627776) :
  Calls Tryz.prog 168 #[LW (b)] w0 fun e w'=>e = .returned (LW (turn b))/\KR (fun _=>False) w0 w':=by
 refine Ly (args:=[LW b]) 40 Tryz.func168 rfl rfl (Nat.le_of_ble_eq_true rfl) ?_
 refine KM (KL (Ny rfl rfl rfl rfl fun p1 w2 e5 B3 k4=>?_))
 have g6:=L7 (Nat.le_of_eq e5.symm)
 clear e5 g6
 have K8:=(KR.refl (fun _=>False) w0).tr k4
 refine Mf rfl rfl rfl KW.2.2 fun p9 cH bi aF aG=>?_
 have aH:=B3.all aG id
 have aI:=K8.tr aG
 refine KQ ?_
 have bj:=K4 (undef)
 have bl:=K4 (pt p1 0)
 have bm:=K4 (pt p9 0)
 refine KK (KM (KL (Mf rfl rfl rfl KW.2.2 fun aa cI aJ bn aK=>?_)))
 have ai:=L7 (Nat.le_of_eq aJ.symm)
 obtain⟨bo,bp⟩:=UJ ai aH aF
 clear aJ
 obtain⟨bq,bt⟩:=Oe aK aH aF
 refine KQ ?_
 have bu:=K4 (pt aa 0)
 refine KK (KM (KM (KL (KN (iv 0) rr (KT rfl rfl rr) (KQ ?_)))))
 have bv:=K4 (iv 0)
 refine KK (Lm (M8 (fun nn FF ww=>∃ (r:Nat),(r<=4)/\nn=4-r/\FF 1=pt p1 0/\FF 2=pt p9 0/\FF 3=pt aa 0/\FF 40=undef/\FF 7=iv ((r:Nat):Int)/\KR (fun _=>False) w0 ww/\Of ww p1 69 b/\Of ww p9 69 (fun _=>0)/\Of ww aa 69 (PK b r 0 0)) (4-0) ⟨0,by omega,rfl,bl,bm,bu,bj,bv,(aI.tr aK),bq,bt,(by rw[Zg];exact bn)⟩ ?_))
 rintro cJ cK bz ⟨r,i53,hn52,bA,an,aL,aM,ao,aN,bB,aO,aP⟩
 refine KM (KL (KN (.bool (decide (((r:Nat):Int)<4))) rr (Mc rfl ao rfl rfl rr) (KQ ?_)))
 have bC:=K4 (.bool (decide (((r:Nat):Int)<4)))
 refine KK (KM ?_)
 refine K5 bC (fun ae=>?_) (fun ae=>?_)
 ·replace ae:=of_decide_eq_true ae
  refine Lf (KK (KM (Lm (KM (KL (K2 Lw ao (Lb (iv ((r:Nat):Int)) LE (KQ ?_))))))))
  have bD:=K4 (iv ((r:Nat):Int))
  refine KK (KM (KL (KN (iv 0) rr (KT rfl rfl rr) (KQ ?_))))
  have bE:=K4 (iv 0)
  refine KK (Lm (M8 (fun nn FF ww=>∃ (u:Nat),(u<=4)/\nn=4-u/\FF 1=pt p1 0/\FF 2=pt p9 0/\FF 3=pt aa 0/\FF 4=iv ((r:Nat):Int)/\FF 7=iv ((r:Nat):Int)/\FF 40=undef/\FF 10=iv ((u:Nat):Int)/\KR (fun _=>False) w0 ww/\Of ww p1 69 b/\Of ww p9 69 (fun _=>0)/\Of ww aa 69 (PK b r u 0)) (4-0) ⟨0,by omega,rfl,bA,an,aL,bD,ao,aM,bE,aN,bB,aO,aP⟩ ?_))
  rintro cL cM cN ⟨u,i92,hn91,aQ,aR,aS,bF,aT,aU,ap,aV,aW,aX,aY⟩
  refine KM (KL (KN (.bool (decide (((u:Nat):Int)<4))) rr (Mc rfl ap rfl rfl rr) (KQ ?_)))
  have bG:=K4 (.bool (decide (((u:Nat):Int)<4)))
  refine KK (KM ?_)
  refine K5 bG (fun af=>?_) (fun af=>?_)
  ·replace af:=of_decide_eq_true af
   refine Lf (KK (KM (Lm (KM (KL (K2 Lw ap (Lb (iv ((u:Nat):Int)) LE (KQ ?_))))))))
   have bH:=K4 (iv ((u:Nat):Int))
   refine KK (KM (KL (KN (iv 0) rr (KT rfl rfl rr) (KQ ?_))))
   have bI:=K4 (iv 0)
   refine KK (Lm (M8 (fun nn FF ww=>∃ (c:Nat),(c<=4)/\nn=4-c/\FF 1=pt p1 0/\FF 2=pt p9 0/\FF 3=pt aa 0/\FF 4=iv ((r:Nat):Int)/\FF 5=iv ((u:Nat):Int)/\FF 7=iv ((r:Nat):Int)/\FF 10=iv ((u:Nat):Int)/\FF 40=undef/\FF 13=iv ((c:Nat):Int)/\KR (fun _=>False) w0 ww/\Of ww p1 69 b/\Of ww p9 69 (fun _=>0)/\Of ww aa 69 (PK b r u c)) (4-0) ⟨0,by omega,rfl,aQ,aR,aS,bF,bH,aT,ap,aU,bI,aV,aW,aX,aY⟩ ?_))
   rintro cO cP cQ ⟨c,i139,hn138,aq,aZ,aj,ak,ar,a8,a9,ba,au,av,aw,bb,az⟩
   refine KM (KL (KN (.bool (decide (((c:Nat):Int)<4))) rr (Mc rfl au rfl rfl rr) (KQ ?_)))
   have bJ:=K4 (.bool (decide (((c:Nat):Int)<4)))
   refine KK (KM ?_)
   refine K5 bJ (fun ah=>?_) (fun ah=>?_)
   ·replace ah:=of_decide_eq_true ah
    refine Lf (KK (KM (Lm (KM (KL (K2 Lw au (Lb (iv ((c:Nat):Int)) LE (KQ ?_))))))))
    have bc:=K4 (iv ((c:Nat):Int))
    refine KK ?_
    have hbb:=hb (r*4+c) (by omega)
    have hmm:=UQ _ 1099511627776 u c hbb.1 hbb.2
    have hps:=aFD b 1099511627776 hb r u c (by omega) (by omega)
    refine NJ 20 [some 16,some 17,some 18,some 19,some 20,some 21,some 22,some 23,some 24,some 25,some 26,some 27,some 28,some 29,some 30,some 31,some 32,some 33,some 34,some 35] [Pd.eq (iv ((u:Nat):Int)),Pd.eq (iv ((u*4:Nat):Int)),Pd.eq (iv ((r:Nat):Int)),Pd.eq (iv (((u*4)+r:Nat):Int)),Pd.eq (.pointer (some ⟨aa,(u*4)+r,none⟩)),Pd.eq (iv (ps b r u c)),Pd.eq (iv ((r:Nat):Int)),Pd.eq (iv ((r*4:Nat):Int)),Pd.eq (iv ((c:Nat):Int)),Pd.eq (iv (((r*4)+c:Nat):Int)),Pd.eq (.pointer (some ⟨p1,(r*4)+c,none⟩)),Pd.eq (iv (b ((r*4)+c))),Pd.eq (iv ((u:Nat):Int)),Pd.eq (iv ((c:Nat):Int)),Pd.eq (.pointer (some ⟨4,0+u*4,none⟩)),Pd.eq (.pointer (some ⟨4,0+u*4+c,none⟩)),Pd.eq (iv (wv u c)),Pd.eq (iv ((b ((r*4)+c))*(wv u c))),Pd.eq (iv (ps b r u (c+1))),Pd.eq (.pointer (some ⟨aa,(u*4)+r,none⟩))] (by kernel_rfl) (by kernel_rfl) (by kernel_rfl) ?_ ?_
    ·refine KP ?_ ?_
     ·refine Ld.one rfl fun F_ w_ hR hout hD=>?_
      exact(KT rfl ((hout 5 rfl (by decide)).trans ar) ⟨rfl,KR.refl _ _⟩)
     refine KP ?_ ?_
     ·refine Ld.one rfl fun F_ w_ hR hout hD=>?_
      have bK:F_ 16=iv ((u:Nat):Int):=(hD.get 0 rfl rfl rfl)
      exact(Nb rfl bK rfl (LX (by omega) (by omega)) ⟨rfl,KR.refl _ _⟩)
     refine KP ?_ ?_
     ·refine Ld.one rfl fun F_ w_ hR hout hD=>?_
      exact(KT rfl ((hout 4 rfl (by decide)).trans ak) ⟨rfl,KR.refl _ _⟩)
     refine KP ?_ ?_
     ·refine Ld.one rfl fun F_ w_ hR hout hD=>?_
      have bL:F_ 17=iv ((u*4:Nat):Int):=(hD.get 0 rfl rfl rfl)
      have bM:F_ 18=iv ((r:Nat):Int):=(hD.get 1 rfl rfl rfl)
      exact(LS rfl bL bM (LX (by omega) (by omega)) ⟨rfl,KR.refl _ _⟩)
     refine KP ?_ ?_
     ·refine Ld.one rfl fun F_ w_ hR hout hD=>?_
      have aA:F_ 19=iv (((u*4)+r:Nat):Int):=(hD.get 0 rfl rfl rfl)
      exact(L3 ((u*4)+r) (s:=1) rfl ((hout 3 rfl (by decide)).trans aj) aA (by omega) Tryz.underlying69 (by omega) (by kernel_rfl) (by omega) ⟨rfl,KR.refl _ _⟩)
     refine KP ?_ ?_
     ·refine Ld.one rfl fun F_ w_ hR hout hD=>?_
      have bN:F_ 20 = .pointer (some ⟨aa,(u*4)+r,none⟩):=(hD.get 0 rfl rfl rfl)
      exact(Pj rfl bN Tryz.underlying3 (((az.all hR id).cell (by omega)).trans (UC (TH b r u c (by omega)))) ⟨rfl,KR.refl _ _⟩)
     refine KP ?_ ?_
     ·refine Ld.one rfl fun F_ w_ hR hout hD=>?_
      exact(KT rfl ((hout 4 rfl (by decide)).trans ak) ⟨rfl,KR.refl _ _⟩)
     refine KP ?_ ?_
     ·refine Ld.one rfl fun F_ w_ hR hout hD=>?_
      have bO:F_ 22=iv ((r:Nat):Int):=(hD.get 0 rfl rfl rfl)
      exact(Nb rfl bO rfl (LX (by omega) (by omega)) ⟨rfl,KR.refl _ _⟩)
     refine KP ?_ ?_
     ·refine Ld.one rfl fun F_ w_ hR hout hD=>?_
      exact(KT rfl ((hout 6 rfl (by decide)).trans bc) ⟨rfl,KR.refl _ _⟩)
     refine KP ?_ ?_
     ·refine Ld.one rfl fun F_ w_ hR hout hD=>?_
      have bP:F_ 23=iv ((r*4:Nat):Int):=(hD.get 0 rfl rfl rfl)
      have bQ:F_ 24=iv ((c:Nat):Int):=(hD.get 1 rfl rfl rfl)
      exact(LS rfl bP bQ (LX (by omega) (by omega)) ⟨rfl,KR.refl _ _⟩)
     refine KP ?_ ?_
     ·refine Ld.one rfl fun F_ w_ hR hout hD=>?_
      have bR:F_ 25=iv (((r*4)+c:Nat):Int):=(hD.get 0 rfl rfl rfl)
      exact(L3 ((r*4)+c) (s:=1) rfl ((hout 1 rfl (by decide)).trans aq) bR (by omega) Tryz.underlying69 (by omega) (by kernel_rfl) (by omega) ⟨rfl,KR.refl _ _⟩)
     refine KP ?_ ?_
     ·refine Ld.one rfl fun F_ w_ hR hout hD=>?_
      have bS:F_ 26 = .pointer (some ⟨p1,(r*4)+c,none⟩):=(hD.get 0 rfl rfl rfl)
      exact(Pj rfl bS Tryz.underlying3 ((aw.all hR id).cell (by omega)) ⟨rfl,KR.refl _ _⟩)
     refine KP ?_ ?_
     ·refine Ld.one rfl fun F_ w_ hR hout hD=>?_
      exact(KT rfl ((hout 5 rfl (by decide)).trans ar) ⟨rfl,KR.refl _ _⟩)
     refine KP ?_ ?_
     ·refine Ld.one rfl fun F_ w_ hR hout hD=>?_
      exact(KT rfl ((hout 6 rfl (by decide)).trans bc) ⟨rfl,KR.refl _ _⟩)
     refine KP ?_ ?_
     ·refine Ld.one rfl fun F_ w_ hR hout hD=>?_
      have bT:F_ 28=iv ((u:Nat):Int):=(hD.get 0 rfl rfl rfl)
      exact(L3 u (s:=4) rfl rfl bT (by omega) Tryz.underlying179 (by omega) (by kernel_rfl) (by omega) ⟨rfl,KR.refl _ _⟩)
     refine KP ?_ ?_
     ·refine Ld.one rfl fun F_ w_ hR hout hD=>?_
      have bU:F_ 30 = .pointer (some ⟨4,0+u*4,none⟩):=(hD.get 0 rfl rfl rfl)
      have ai:F_ 29=iv ((c:Nat):Int):=(hD.get 1 rfl rfl rfl)
      exact(L3 c (s:=1) rfl bU ai (by omega) Tryz.underlying171 (by omega) (by kernel_rfl) (by omega) ⟨rfl,KR.refl _ _⟩)
     refine KP ?_ ?_
     ·refine Ld.one rfl fun F_ w_ hR hout hD=>?_
      have bV:F_ 31 = .pointer (some ⟨4,0+u*4+c,none⟩):=(hD.get 0 rfl rfl rfl)
      exact(Pj rfl bV Tryz.underlying3 ((hw.all (av.trans hR (fun _ _ x=>x.elim))).at u c (by omega) (by omega)) ⟨rfl,KR.refl _ _⟩)
     refine KP ?_ ?_
     ·refine Ld.one rfl fun F_ w_ hR hout hD=>?_
      have bW:F_ 27=iv (b ((r*4)+c)):=(hD.get 0 rfl rfl rfl)
      have bX:F_ 32=iv (wv u c):=(hD.get 1 rfl rfl rfl)
      exact(Nb rfl bW bX (Mn rfl (by omega)) ⟨rfl,KR.refl _ _⟩)
     refine KP ?_ ?_
     ·refine Ld.one rfl fun F_ w_ hR hout hD=>?_
      have bY:F_ 21=iv (ps b r u c):=(hD.get 0 rfl rfl rfl)
      have bZ:F_ 33=iv ((b ((r*4)+c))*(wv u c)):=(hD.get 1 rfl rfl rfl)
      exact(LS rfl bY bZ (Mn rfl (by have e:ps b r u (c+1)=ps b r u c+b (r*4+c)*wv u c:=rfl;omega)) ⟨rfl,KR.refl _ _⟩)
     refine KP ?_ ?_
     ·refine Ld.one rfl fun F_ w_ hR hout hD=>?_
      have aA:F_ 19=iv (((u*4)+r:Nat):Int):=(hD.get 0 rfl rfl rfl)
      exact(L3 ((u*4)+r) (s:=1) rfl ((hout 3 rfl (by decide)).trans aj) aA (by omega) Tryz.underlying69 (by omega) (by kernel_rfl) (by omega) ⟨rfl,KR.refl _ _⟩)
     exact Mj
    intro cR bd cS be aB am
    obtain⟨b7,b8,b9⟩:=Od be aw bb az
    obtain⟨cd,ce,cf,cg,ci,cj,cm,cn,co⟩:=t9 am 1 aq 2 aZ 3 aj 4 ak 5 ar 7 a8 10 a9 40 ba 13 au
    have cq:bd 34=iv (ps b r u (c+1)):=(am 34).trans (aB 18 (by decide))
    have cr:bd 35 = .pointer (some ⟨aa,(u*4)+r,none⟩):=(am 35).trans (aB 19 (by decide))
    clear aB am
    refine Oh rfl rfl rfl cr cq b9 (by omega) (by kernel_rfl) fun cU ct aC=>?_
    have cu:=b7.all aC (bo.symm p1 rfl)
    have cv:=b8.all aC (bp.symm p9 rfl)
    refine KQ ?_
    refine Lz (KK (KL (KN (iv ((c+1:Nat):Int)) rr (LS rfl co rfl (LX (by omega) (by omega)) rr) (KN (iv ((c+1:Nat):Int)) rr (KT rfl rfl rr) (KQ ?_)))))
    have cw:=K4 (iv ((c+1:Nat):Int))
    exact KK ⟨(4-(c+1)),by omega,c+1,by omega,rfl,cd,ce,cf,cg,ci,cj,cm,cn,cw,((av.tr be).trans aC (KS.ok (S:=fun _=>False) (KS.new aI ai) KZ)),cu,cv,(by rw[← aA0 b r u c (by omega)];exact ct)⟩
   ·replace ah:=of_decide_eq_false ah
    refine Mm (Lp (Lp ?_))
    have cy:4=c:=by omega
    subst cy
    refine Mk (Lz (KK (KL (KN (iv ((u+1:Nat):Int)) rr (LS rfl a9 rfl (LX (by omega) (by omega)) rr) (KN (iv ((u+1:Nat):Int)) rr (KT rfl rfl rr) (KQ ?_))))))
    have cz:=K4 (iv ((u+1:Nat):Int))
    exact KK ⟨(4-(u+1)),by omega,u+1,by omega,rfl,aq,aZ,aj,ak,a8,ba,cz,av,aw,bb,(by rw[← aBk b r u (by omega)];exact az)⟩
  ·replace af:=of_decide_eq_false af
   refine Mm (Lp (Lp ?_))
   have cA:4=u:=by omega
   subst cA
   refine Mk (Lz (KK (KL (KN (iv ((r+1:Nat):Int)) rr (LS rfl aT rfl (LX (by omega) (by omega)) rr) (KN (iv ((r+1:Nat):Int)) rr (KT rfl rfl rr) (KQ ?_))))))
   have cB:=K4 (iv ((r+1:Nat):Int))
   exact KK ⟨(4-(r+1)),by omega,r+1,by omega,rfl,aQ,aR,aS,aU,cB,aV,aW,aX,(aY.congr (ay0 b r))⟩
 ·replace ae:=of_decide_eq_false ae
  refine Mm (Lp (Lp ?_))
  have cC:4=r:=by omega
  subst cC
  have cD:Of bz aa 69 (turn b):=(aP.congr (fun i _=>aAp b i))
  refine Mk (KK (KM (KL (KN (LW (turn b)) rr (Me KW rfl aL cD rr) (Lu KW rfl rfl rfl an rfl aO fun cV cE cF=>?_)))))
  refine KQ ?_
  refine KK (Le ?_)
  exact Rm KW aM rfl rfl an cE ⟨rfl,(aN.trans cF (KS.ok (S:=fun _=>False) (KS.new K8 (L7 (Nat.le_of_eq bi.symm))) KZ))⟩
theorem aCH(b:Nat->Int)(w0:World)(hw:QZ w0)(hb:∀ i,i<16 → -1048576<=b i/\b i<=1048576) :
  Calls Tryz.prog 147 #[LW (b)] w0 fun e w'=>e = .returned (LW (fwd b))/\KR (fun _=>False) w0 w':=by
 refine Ly (args:=[LW b]) 10 Tryz.func147 rfl rfl (Nat.le_of_ble_eq_true rfl) ?_
 refine KM (KL (Ny rfl rfl rfl rfl fun p1 w2 e5 B3 k4=>?_))
 have g6:=L7 (Nat.le_of_eq e5.symm)
 clear e5 g6
 have K8:=(KR.refl (fun _=>False) w0).tr k4
 refine Mf rfl rfl rfl KW.2.2 fun p9 aK ai aj ak=>?_
 have am:=L7 (Nat.le_of_eq ai.symm)
 have an:=KS.new K8 am
 clear ai am
 have ab:=B3.all ak id
 have ac:=K8.tr ak
 refine KQ ?_
 have ao:=K4 (undef)
 have ae:=K4 (pt p1 0)
 have aa:=K4 (pt p9 0)
 refine KK (KM (KM (KL (KN (LW b) rr (Me KW rfl ae ab rr) (KN (LW (fun _=>0)) rr (MQ (cells:=(Mp 16 (fun _=>0)).toArray) rfl (by kernel_rfl) rfl rr) (KN (.bool (Tz b (fun _=>0))) rr (aEl rfl rfl rfl rfl rr) (KQ ?_)))))))
 have aB:=K4 (.bool (Tz b (fun _=>0)))
 refine KK ?_
 refine K5 aB (fun aC=>?_) (fun aC=>?_)
 ·skip
  refine KM (KL (KN (LW b) rr (Me KW rfl ae ab rr) (Lu KW rfl rfl rfl aa rfl aj fun aL aD aE=>?_)))
  refine KQ ?_
  refine KK (Le (Lx ?_))
  exact Rm KW ao rfl rfl aa aD ⟨(by first|rfl|exact Xv ‹_›),(ac.trans aE (KS.ok (S:=fun _=>False) an KZ))⟩
 ·skip
  refine Lf (KK (KM (KL (KN (LW b) rr (Me KW rfl ae ab rr) (L9 rfl rfl rfl rfl rfl (fun _ _=>by kernel_rfl) (Lo rfl L5) (Ww b _ (hw.all ac) (fun i hi=>by have h:=hb i hi;omega)) fun aM ap=>?_)))))
  have aF:=aj.all ap id
  have aq:=ac.tr ap
  refine L9 rfl rfl rfl rfl rfl (fun _ _=>by kernel_rfl) (Lo rfl L5) (Ww (turn b) _ (hw.all aq) (fun i _=>by have h:=YM b 1048576 hb i;omega)) fun aN ar=>?_
  have aG:=aF.all ar id
  refine Lu KW rfl rfl rfl aa rfl aG fun aO aH aI=>?_
  refine KQ ?_
  refine KK (Le ?_)
  exact Rm KW ao rfl rfl aa aH ⟨(by first|rfl|exact Xv ‹_›),((aq.tr ar).trans aI (KS.ok (S:=fun _=>False) an KZ))⟩
theorem aCM(b:Nat->Int)(w0:World)(hw:QZ w0) :
  Calls Tryz.prog 115 #[LW (b)] w0 fun e w'=>e = .returned (LW (Ov b))/\KR (fun _=>False) w0 w':=by
 refine Ly (args:=[LW b]) 19 Tryz.func115 rfl rfl (Nat.le_of_ble_eq_true rfl) ?_
 have K0:=KR.refl (fun _=>False) w0
 refine KM (KL (Ny rfl rfl rfl rfl fun p1 w2 e5 B3 k4=>?_))
 have g6:=L7 (Nat.le_of_eq e5.symm)
 have ap:=KS.new K0 g6
 clear e5 g6
 have K8:=K0.tr k4
 refine Mf rfl rfl rfl KW.2.2 fun p9 bc ar aK au=>?_
 have av:=L7 (Nat.le_of_eq ar.symm)
 have aw:=KO.new av (L8 B3.lt)
 clear ar
 have az:=B3.all au id
 refine KQ ?_
 have aL:=K4 (undef)
 have af:=K4 (pt p1 0)
 have aM:=K4 (pt p9 0)
 refine KK (KM (KL (KN (LW b) rr (Me KW rfl af az rr) (L9 rfl rfl rfl rfl rfl (fun _ _=>by kernel_rfl) (Lo rfl L5) (SY b  _   ) fun bd aA=>?_))))
 obtain⟨aN,aO⟩:=Oe aA az aK
 have aB:=(K8.tr au).tr aA
 refine L9 rfl rfl rfl rfl rfl (fun _ _=>by kernel_rfl) (Lo rfl L5) (aCH (SC 1048576 b) _ (hw.all aB) (fun i _=>Yr b i)) fun be aC=>?_
 obtain⟨aP,aQ⟩:=Oe aC aN aO
 refine Lu KW rfl rfl rfl af rfl aP fun bf aR aD=>?_
 have aS:=aQ.all aD (aw p9 rfl)
 refine KQ ?_
 refine KK (KM (KM (KL (KN (iv 0) rr (KT rfl rfl rr) (KQ ?_)))))
 have aT:=K4 (iv 0)
 refine KK (Lm (M8 (fun nn FF ww=>∃ (k:Nat),(k<=16)/\nn=16-k/\FF 1=pt p1 0/\FF 2=pt p9 0/\FF 19=undef/\FF 7=iv ((k:Nat):Int)/\KR (fun _=>False) w0 ww/\Of ww p1 69 (upto k (fwd (SC 1048576 b)) (Ov b))/\Of ww p9 69 (fun _=>0)) (16-0) ⟨0,by omega,rfl,af,aM,aL,aT,((aB.tr aC).trans aD (KS.ok (S:=fun _=>False) ap KZ)),aR.first,aS⟩ ?_))
 rintro bg bh aU ⟨k,i54,hn53,ae,ah,aE,ai,aF,aj,aG⟩
 refine KM (KL (KN (.bool (decide (((k:Nat):Int)<16))) rr (Mc rfl ai rfl rfl rr) (KQ ?_)))
 have aV:=K4 (.bool (decide (((k:Nat):Int)<16)))
 refine KK (KM ?_)
 refine K5 aV (fun ac=>?_) (fun ac=>?_)
 ·replace ac:=of_decide_eq_true ac
  refine Lf (KK (KM (Lm (KM (KL (K2 Lw ai (Lb (iv ((k:Nat):Int)) LE (KQ ?_))))))))
  have aH:=K4 (iv ((k:Nat):Int))
  refine KK ?_
  have hf:=aFb (SC 1048576 b) 1048576 (fun i _=>Yr b i) k
  refine KL (K2 Lw aH (K2 Lw aH (KN (.pointer (some ⟨p1,k,none⟩)) rr (L3 k (s:=1) rfl ae rfl (by omega) Tryz.underlying69 (by omega) (by kernel_rfl) (by omega) rr) (KN (iv (fwd (SC 1048576 b) k)) rr (Pj rfl rfl Tryz.underlying3 ((aj.cell (by omega)).trans (UC (V3 k _ _))) rr) (KN (iv ((fwd (SC 1048576 b) k)+8)) rr (LS rfl rfl rfl (Mn rfl (by omega)) rr) (KN (iv (rnd (fwd (SC 1048576 b) k))) rr (SD 4 rfl rfl rfl (by decide) rfl rr) (KN (.pointer (some ⟨p1,k,none⟩)) rr (L3 k (s:=1) rfl ae rfl (by omega) Tryz.underlying69 (by omega) (by kernel_rfl) (by omega) rr) (Oh rfl rfl rfl rfl rfl aj (by omega) (by kernel_rfl) fun bi aW aI=>?_))))))))
  have aX:=aG.all aI (aw p9 rfl)
  refine KQ ?_
  refine Lz (KK (KL (KN (iv ((k+1:Nat):Int)) rr (LS rfl ai rfl (LX (by omega) (by omega)) rr) (KN (iv ((k+1:Nat):Int)) rr (KT rfl rfl rr) (KQ ?_)))))
  have aY:=K4 (iv ((k+1:Nat):Int))
  exact KK ⟨(16-(k+1)),by omega,k+1,by omega,rfl,ae,ah,aE,aY,(aF.trans aI (KS.ok (S:=fun _=>False) ap KZ)),(aW.next rfl),aX⟩
 ·replace ac:=of_decide_eq_false ac
  refine Mm (Lp (Lp ?_))
  have aZ:16=k:=by omega
  subst aZ
  have a8:Of aU p1 69 (Ov b):=(aj.last)
  refine Mk (KK (KM (KL (KN (LW (Ov b)) rr (Me KW rfl ae a8 rr) (Lu KW rfl rfl rfl ah rfl aG fun bj a9 ba=>?_)))))
  refine KQ ?_
  refine KK (Le ?_)
  exact Rm KW aE rfl rfl ah a9 ⟨rfl,(aF.trans ba (KS.ok (S:=fun _=>False) (KS.new K8 av) KZ))⟩
theorem aB5(a b:Nat->Int)(w0:World) :
  Calls Tryz.prog 114 #[LW (a),LW (b)] w0 fun e w'=>e = .returned (LW (Pu a b))/\KR (fun _=>False) w0 w':=by
 refine Ly (args:=[LW a,LW b]) 23 Tryz.func114 rfl rfl (Nat.le_of_ble_eq_true rfl) ?_
 have K0:=KR.refl (fun _=>False) w0
 refine KM (KL (Ny rfl rfl rfl rfl fun p1 w2 e5 B3 k4=>?_))
 have g6:=L7 (Nat.le_of_eq e5.symm)
 have aC:=KS.new K0 g6
 clear e5 g6
 have K8:=K0.tr k4
 refine Ny rfl rfl rfl rfl fun p9 b7 aE aF aG=>?_
 have af:=L7 (Nat.le_of_eq aE.symm)
 have ak:=KO.new af (L8 B3.lt)
 clear aE
 have aH:=B3.all aG id
 have aI:=K8.tr aG
 refine Mf rfl rfl rfl KW.2.2 fun ac b8 aJ bc aK=>?_
 have aL:=L7 (Nat.le_of_eq aJ.symm)
 obtain⟨aM,bd⟩:=UJ aL aH aF
 clear aJ
 obtain⟨aN,aO⟩:=Oe aK aH aF
 refine KQ ?_
 have be:=K4 (undef)
 have aP:=K4 (pt p1 0)
 have aQ:=K4 (pt p9 0)
 have bf:=K4 (pt ac 0)
 refine KK (KM ?_)
 refine NJ 4 [some 6,some 7,some 8,some 9] [Pd.eq (LW a),Pd.eq (LW (SC 1048576 a)),Pd.eq (LW b),Pd.eq (LW (SC 1048576 b))] (by kernel_rfl) (by kernel_rfl) (by kernel_rfl) ?_ ?_
 ·refine KP ?_ ?_
  ·refine Ld.one rfl fun F_ w_ hR hout hD=>?_
   exact(Me KW rfl ((hout 2 rfl (by decide)).trans aP) (aN.all hR id) ⟨rfl,KR.refl _ _⟩)
  refine KP ?_ ?_
  ·refine Ld.one rfl fun F_ w_ hR hout hD=>?_
   have g6:F_ 6=LW a:=(hD.get 0 rfl rfl rfl)
   exact(LQ rfl rfl rfl (fun _ _=>by kernel_rfl) (K6 _) (Lo g6 L5) (SY a  _   ) (fun e_ w_ h_=>⟨_,h_.1,rfl,h_.2⟩))
  refine KP ?_ ?_
  ·refine Ld.one rfl fun F_ w_ hR hout hD=>?_
   exact(Me KW rfl ((hout 3 rfl (by decide)).trans aQ) (aO.all hR id) ⟨rfl,KR.refl _ _⟩)
  refine KP ?_ ?_
  ·refine Ld.one rfl fun F_ w_ hR hout hD=>?_
   have g8:F_ 8=LW b:=(hD.get 0 rfl rfl rfl)
   exact(LQ rfl rfl rfl (fun _ _=>by kernel_rfl) (K6 _) (Lo g8 L5) (SY b  _   ) (fun e_ w_ h_=>⟨_,h_.1,rfl,h_.2⟩))
  exact Mj
 intro b9 aR cd aS am ah
 obtain⟨bh,bi,bj⟩:=Od aS aN aO bc
 obtain⟨bl,aT,aU,bm⟩:=t4 ah 23 be 2 aP 3 aQ 4 bf
 have bn:aR 7=LW (SC 1048576 a):=(ah 7).trans (am 1 (by decide))
 have bo:aR 9=LW (SC 1048576 b):=(ah 9).trans (am 3 (by decide))
 clear am ah
 refine Lu KW rfl rfl rfl aT bn bh fun cf bp an=>?_
 have bq:=bi.all an (ak p9 rfl)
 have bt:=bj.all an (aM ac rfl)
 refine Lu KW rfl rfl rfl aU bo bq fun cg bu ao=>?_
 have bv:=bp.all ao (ak.symm p1 rfl)
 have bz:=bt.all ao (bd ac rfl)
 refine KQ ?_
 refine KK (KM (KM (KL (KN (iv 0) rr (KT rfl rfl rr) (KQ ?_)))))
 have bA:=K4 (iv 0)
 refine KK (Lm (M8 (fun nn FF ww=>∃ (k:Nat),(k<=16)/\nn=16-k/\FF 2=pt p1 0/\FF 3=pt p9 0/\FF 4=pt ac 0/\FF 23=undef/\FF 10=iv ((k:Nat):Int)/\KR (fun _=>False) w0 ww/\Of ww p1 69 (upto k (SC 1048576 a) (Pu a b))/\Of ww p9 69 (SC 1048576 b)/\Of ww ac 69 (fun _=>0)) (16-0) ⟨0,by omega,rfl,aT,aU,bm,bl,bA,((((aI.tr aK).tr aS).trans an (KS.ok (S:=fun _=>False) aC KZ)).trans ao (KS.ok (S:=fun _=>False) (KS.new K8 af) KZ)),bv.first,bu,bz⟩ ?_))
 rintro ci cj bB ⟨k,i83,hn82,ai,aV,ap,aW,aq,aX,ar,aY,aZ⟩
 refine KM (KL (KN (.bool (decide (((k:Nat):Int)<16))) rr (Mc rfl aq rfl rfl rr) (KQ ?_)))
 have bC:=K4 (.bool (decide (((k:Nat):Int)<16)))
 refine KK (KM ?_)
 refine K5 bC (fun aAx=>?_) (fun aAx=>?_)
 ·replace aAx:=of_decide_eq_true aAx
  refine Lf (KK (KM (Lm (KM (KL (K2 Lw aq (Lb (iv ((k:Nat):Int)) LE (KQ ?_))))))))
  have a8:=K4 (iv ((k:Nat):Int))
  refine KK ?_
  have h1:=Yr a k
  have h2:=Yr b k
  refine NJ 8 [some 13,some 14,some 15,some 16,some 17,some 18,some 19,some 20] [Pd.eq (iv ((k:Nat):Int)),Pd.eq (.pointer (some ⟨p1,k,none⟩)),Pd.eq (iv (SC 1048576 a k)),Pd.eq (iv ((k:Nat):Int)),Pd.eq (.pointer (some ⟨p9,k,none⟩)),Pd.eq (iv ((SC 1048576 b) k)),Pd.eq (iv ((SC 1048576 a k)+((SC 1048576 b) k))),Pd.eq (.pointer (some ⟨p1,k,none⟩))] (by kernel_rfl) (by kernel_rfl) (by kernel_rfl) ?_ ?_
  ·refine KP ?_ ?_
   ·refine Ld.one rfl fun F_ w_ hR hout hD=>?_
    exact(KT rfl ((hout 5 rfl (by decide)).trans a8) ⟨rfl,KR.refl _ _⟩)
   refine KP ?_ ?_
   ·refine Ld.one rfl fun F_ w_ hR hout hD=>?_
    have au:F_ 13=iv ((k:Nat):Int):=(hD.get 0 rfl rfl rfl)
    exact(L3 k (s:=1) rfl ((hout 2 rfl (by decide)).trans ai) au (by omega) Tryz.underlying69 (by omega) (by kernel_rfl) (by omega) ⟨rfl,KR.refl _ _⟩)
   refine KP ?_ ?_
   ·refine Ld.one rfl fun F_ w_ hR hout hD=>?_
    have af:F_ 14 = .pointer (some ⟨p1,k,none⟩):=(hD.get 0 rfl rfl rfl)
    exact(Pj rfl af Tryz.underlying3 (((ar.all hR id).cell (by omega)).trans (UC (V3 k _ _))) ⟨rfl,KR.refl _ _⟩)
   refine KP ?_ ?_
   ·refine Ld.one rfl fun F_ w_ hR hout hD=>?_
    exact(KT rfl ((hout 5 rfl (by decide)).trans a8) ⟨rfl,KR.refl _ _⟩)
   refine KP ?_ ?_
   ·refine Ld.one rfl fun F_ w_ hR hout hD=>?_
    have bD:F_ 16=iv ((k:Nat):Int):=(hD.get 0 rfl rfl rfl)
    exact(L3 k (s:=1) rfl ((hout 3 rfl (by decide)).trans aV) bD (by omega) Tryz.underlying69 (by omega) (by kernel_rfl) (by omega) ⟨rfl,KR.refl _ _⟩)
   refine KP ?_ ?_
   ·refine Ld.one rfl fun F_ w_ hR hout hD=>?_
    have bE:F_ 17 = .pointer (some ⟨p9,k,none⟩):=(hD.get 0 rfl rfl rfl)
    exact(Pj rfl bE Tryz.underlying3 ((aY.all hR id).cell (by omega)) ⟨rfl,KR.refl _ _⟩)
   refine KP ?_ ?_
   ·refine Ld.one rfl fun F_ w_ hR hout hD=>?_
    have bF:F_ 15=iv (SC 1048576 a k):=(hD.get 0 rfl rfl rfl)
    have bG:F_ 18=iv ((SC 1048576 b) k):=(hD.get 1 rfl rfl rfl)
    exact(LS rfl bF bG (Mn rfl (by omega)) ⟨rfl,KR.refl _ _⟩)
   refine KP ?_ ?_
   ·refine Ld.one rfl fun F_ w_ hR hout hD=>?_
    have au:F_ 13=iv ((k:Nat):Int):=(hD.get 0 rfl rfl rfl)
    exact(L3 k (s:=1) rfl ((hout 2 rfl (by decide)).trans ai) au (by omega) Tryz.underlying69 (by omega) (by kernel_rfl) (by omega) ⟨rfl,KR.refl _ _⟩)
   exact Mj
  intro cm a9 cn ba av aj
  obtain⟨bH,bI,bJ⟩:=Od ba ar aY aZ
  obtain⟨bK,bL,bM,bN,bO⟩:=t5 aj 2 ai 3 aV 4 ap 23 aW 10 aq
  have bP:a9 19=iv ((SC 1048576 a k)+((SC 1048576 b) k)):=(aj 19).trans (av 6 (by decide))
  have bQ:a9 20 = .pointer (some ⟨p1,k,none⟩):=(aj 20).trans (av 7 (by decide))
  clear av aj
  refine Oh rfl rfl rfl bQ bP bH (by omega) (by kernel_rfl) fun cq bR aw=>?_
  have bS:=bI.all aw (ak p9 rfl)
  have bT:=bJ.all aw (aM ac rfl)
  refine KQ ?_
  refine Lz (KK (KL (KN (iv ((k+1:Nat):Int)) rr (LS rfl bO rfl (LX (by omega) (by omega)) rr) (KN (iv ((k+1:Nat):Int)) rr (KT rfl rfl rr) (KQ ?_)))))
  have bU:=K4 (iv ((k+1:Nat):Int))
  exact KK ⟨(16-(k+1)),by omega,k+1,by omega,rfl,bK,bL,bM,bN,bU,((aX.tr ba).trans aw (KS.ok (S:=fun _=>False) aC KZ)),(bR.next rfl),bS,bT⟩
 ·replace aAx:=of_decide_eq_false aAx
  refine Mm (Lp (Lp ?_))
  have bV:16=k:=by omega
  subst bV
  have bW:Of bB p1 69 (Pu a b):=(ar.last)
  refine Mk (KK (KM (KL (KN (LW (Pu a b)) rr (Me KW rfl ai bW rr) (Lu KW rfl rfl rfl ap rfl aZ fun cr bX bY=>?_)))))
  refine KQ ?_
  refine KK (Le ?_)
  exact Rm KW aW rfl rfl ap bX ⟨rfl,(aX.trans bY (KS.ok (S:=fun _=>False) (KS.new aI aL) KZ))⟩
def stl:List Int:=[1,2,3,4,5,6,8,10,12,16,20,24,32,40,48,64,80,96,128,160,192]
def XG(q:Int):Int:=if 0<=q/\q<=20 then stl.getD q.toNat 0 else 0
def Q5(q:Int):Int:=if 0<=q/\q<=20 then 0 else 50
theorem WE{q:Int}(h:0<=q/\q<=20):Q5 q=0:=if_pos h
theorem X3{q:Int}(h:¬ (0<=q/\q<=20)):Q5 q=50:=if_neg h
theorem azf{q:Int}(h:0<=q/\q<=20):XG q=stl.getD q.toNat 0:=if_pos h
theorem azj{q:Int}(h:¬ (0<=q/\q<=20)):XG q=0:=if_neg h
theorem aDr{q:Int}(h:Q5 q=0):0<=q/\q<=20:=by
 by_cases c:0<=q/\q<=20
 ·exact c
 ·rw[X3 c] at h;omega
theorem aFn:∀ k,k<21->1<=stl.getD k 0/\stl.getD k 0<=192:=by decide
theorem aEM{q:Int}(h:Q5 q=0):1<=XG q/\XG q<=192:=by
 have h1:=aDr h
 rw[azf h1]
 exact aFn _ (by omega)
theorem aGd{k:Nat}(h:k<21):XG (k:Int)=stl.getD k 0:=by rw[azf (by omega)];rfl
def UT(n s:Int):Int:=n*s
theorem aES{n s:Int}(hn : -1048576<=n/\n<=1048576)(hs:1<=s/\s<=192) : -201326592<=UT n s/\UT n s<=201326592:=by
 unfold UT
 have h1:n*s<=1048576*s:=Int.mul_le_mul_of_nonneg_right hn.2 (by omega)
 have h2 : -1048576*s<=n*s:=Int.mul_le_mul_of_nonneg_right hn.1 (by omega)
 omega
def Vn(g:Int->Int->Int)(b:Nat->Int)(q:Int):Nat->Int:=if Q5 q=0 then fun i=>g (cl 1048576 (b i)) (XG q) else fun _=>0
def TC(b:Nat->Int)(q:Int):Nat->Int:=Vn UT b q
theorem aAa{g:Int->Int->Int}{b:Nat->Int}{q:Int}(h:Q5 q=0):Vn g b q=fun i=>g (cl 1048576 (b i)) (XG q):=if_pos h
theorem az7{g:Int->Int->Int}{b:Nat->Int}{q:Int}(h:¬ Q5 q=0):Vn g b q=fun _=>0:=if_neg h
theorem aF5{b:Nat->Int}{q:Int}(h:Q5 q=0)(i:Nat):TC b q i=cl 1048576 (b i)*XG q:=by unfold TC;rw[aAa h];rfl
theorem az5{k:Nat}(h:k<21):Q5 (k:Int)=0:=WE (by omega)
open Go.RowKit
def P5(w:World)(p:Nat)(t:TypeId)(n:Nat)(b:Nat->Int):Prop:=w.heap[p]? = some (.cells (Mp n b).toArray t (0,0))
def Xp(t:TypeId)(n:Nat):Prop:=Tryz.prog.underlying t=some (.array n 3)/\(Tryz.prog.info? t).map (·.size)=some n/\∀ w,(zeroValue t).run Tryz.prog w = .ok (.agg (Mp n (fun _=>0)).toArray) w
theorem Xp.of{t:TypeId}{n:Nat}(hu:Tryz.prog.underlying t=some (.array n 3))(hi:(Tryz.prog.info? t).map (fun i=>(i.zero,i.size))=some (some (.agg (Array.replicate n (.int .i64 0))),n)):Xp t n :=
 ⟨hu,(zero_of_info hi).2,by rw[XA];exact(zero_of_info hi).1⟩
theorem Xp.size{t:TypeId}{n:Nat}(h:Xp t n)(b:Nat->Int):(Tryz.prog.info? t).map (·.size)=some (Mp n b).toArray.size:=by rw[List.size_toArray,OV];exact h.2.1
section
variable {w w':World} {p n:Nat} {t:TypeId} {b c:Nat->Int}
theorem P5.all{S:Nat->Prop}(h:P5 w p t n b)(k:KR S w w')(hn:¬ S p):P5 w' p t n b:=k.at h hn
theorem P5.congr(h:P5 w p t n b)(e:∀ i,i<n->b i=c i):P5 w p t n c:=by unfold P5 at *;rw[← TJ e];exact h
theorem P5.cell(h:P5 w p t n b){i:Nat}(hi:i<n):w.cell? ⟨p,i,none⟩=some (.int .i64 (b i)):=by
 rw[ML h,List.getElem?_toArray];exact R3 hi
theorem P5.free(h:P5 w p t n b)(i:Nat):w.frozen? ⟨p,i,none⟩=false:=Nm h
theorem P5.lt(h:P5 w p t n b):p<w.heap.size:=M5 h
instance {w w':World} {p:Nat} {t:TypeId} {n:Nat} {b:Nat->Int}:Cr w w' (P5 w p t n b) (P5 w' p t n b):=⟨fun h k=>h.all k id⟩
instance {w:World} {p:Nat} {t:TypeId} {n:Nat} {b:Nat->Int}:Lv w (P5 w p t n b) (Lh p):=⟨fun h=>L8 h.lt⟩
theorem P5.set(h:P5 w p t n b)(k:Nat)(x:Int):P5 (w.setCell ⟨p,k,none⟩ (.int .i64 x)) p t n (Vo b k x):=by
 unfold P5;rw[Np _ _ _ _ h,Zb]
theorem P5.new(w:World)(t:TypeId)(n:Nat)(b:Nat->Int):P5 (w.alloc (.cells (Mp n b).toArray t)) w.heap.size t n b:=heap_alloc_new w _
end
section
variable {ro:Option Nat} {P:Program} {N:Nat} {Q:(Exit->(Nat->Value)->World->Prop)} {F:Nat->Value} {w:World} {n:Nat}
theorem TN{ops:Array Oper}{o:Oper}{rest:List Oper}{t:TypeId}{x:Operand}{b:Nat->Int}(hg:o.guard=none)(hd:OD N o.dst=true)(ho:o.op = .box t x)(hx:ev (M3 N F) x = .agg (Mp n b).toArray)
  (h:∀ p w',p=w.heap.size->P5 w' p t n b->KR (fun _=>False) w w'->wl ro P N ops Q rest (OQ F o.dst (.pointer (some ⟨p,0,none⟩))) w'):wl ro P N ops Q (o::rest) F w :=
 NV hg hd (OJ (v:=.pointer (some ⟨w.heap.size,0,none⟩)) (w':=w.alloc (.cells (Mp n b).toArray t)) (by simp[execOp,ho,hx,go_sem]) (h _ _ rfl (P5.new w t n b) ((KR.refl _ _).alloc _)))
theorem QH{ops:Array Oper}{o:Oper}{rest:List Oper}{t:TypeId}(hg:o.guard=none)(hd:OD N o.dst=true)(ho:o.op = .alloc t)(hz:∀ w,(zeroValue t).run P w = .ok (.agg (Mp n (fun _=>0)).toArray) w)
  (h:∀ p w',p=w.heap.size->P5 w' p t n (fun _=>0)->KR (fun _=>False) w w'->wl ro P N ops Q rest (OQ F o.dst (.pointer (some ⟨p,0,none⟩))) w'):wl ro P N ops Q (o::rest) F w :=
 NV hg hd (OJ (v:=.pointer (some ⟨w.heap.size,0,none⟩)) (w':=w.alloc (.cells (Mp n (fun _=>0)).toArray t)) (by simp[execOp,ho,hz,go_sem]) (h _ _ rfl (P5.new w t n _) ((KR.refl _ _).alloc _)))
end
section
variable {ro:Option Nat} {N:Nat} {Q:(Exit->(Nat->Value)->World->Prop)} {F:Nat->Value} {w:World} {ρ:Operand->Value} {o:Oper} {R:Value->World->Prop} {n:Nat}
theorem So{ty t:TypeId}{x:Operand}{p:Nat}{b:Nat->Int}(hT:Xp ty n)(ho:o.op = .load ty x)(hx:ρ x = .pointer (some ⟨p,0,none⟩))(hB:P5 w p t n b)(h:R (.agg (Mp n b).toArray) w):Lg Tryz.prog ρ o w R :=
 TF ho p hx _ t (0,0) _ hB hT.1 rfl (hT.size b) h
theorem Sk{ops:Array Oper}{rest:List Oper}{ty t:TypeId}{x y:Operand}{p:Nat}{b c:Nat->Int}(hT:Xp ty n)(hg:o.guard=none)(hdn:o.dst=none)(ho:o.op = .store ty x y)(hx:ev (M3 N F) x = .pointer (some ⟨p,0,none⟩))(hy:ev (M3 N F) y = .agg (Mp n c).toArray)(hB:P5 w p t n b)
  (h:∀ w',P5 w' p t n c->KR (fun k=>k=p) w w'->wl ro Tryz.prog N ops Q rest F w'):wl ro Tryz.prog N ops Q (o::rest) F w:=by
 refine NV hg (by rw[hdn];rfl) (P8 ty x y ho p _ (Mp n c).toArray t hx hy hB (by rw[List.size_toArray,List.size_toArray,OV,OV]) (hT.size c) (all_oneCell_toArray (ZR _ _)) fun w' hw hk=>?_)
 rw[hdn]
 exact h w' hw hk
theorem WY{ops:Array Oper}{rest:List Oper}{ty t:TypeId}{x y:Operand}{p k:Nat}{m:Int}{b:Nat->Int}(hg:o.guard=none)(hdn:o.dst=none)(ho:o.op = .store ty x y)(hx:ev (M3 N F) x = .pointer (some ⟨p,k,none⟩))(hy:ev (M3 N F) y = .int .i64 m)(hB:P5 w p t n b)(hk:k<n)
  (hs:(Tryz.prog.info? ty).map (·.size)=some 1)
  (h:∀ w',P5 w' p t n (Vo b k m)->KR (fun k=>k=p) w w'->wl ro Tryz.prog N ops Q rest F w'):wl ro Tryz.prog N ops Q (o::rest) F w:=by
 have hc:=hB.cell hk
 have hf:=hB.free k
 cases hq:Tryz.prog.info? ty with
 | none=>simp[hq] at hs
 | some i =>
  have hs':i.size=1:=by simpa [hq] using hs
  refine NV hg (by rw[hdn];rfl) ?_
  have e:(execOp (ev (M3 N F)) o).run Tryz.prog w = .ok .skip (w.setCell ⟨p,k,none⟩ (.int .i64 m))\/(execOp (ev (M3 N F)) o).run Tryz.prog w = .ok (.value undef) (w.setCell ⟨p,k,none⟩ (.int .i64 m)):=by
   simp[execOp,ho,hx,hy,Instr.storeAt,Instr.sureAddr,storeVar,sizeOf,typeInfo,hq,hs',Value.cells,hc,hf,go_sem]
  unfold Lg
  rw[hdn]
  rcases e with e|e <;> rw[e] <;> exact h _ (hB.set k m) ((KR.refl (fun k=>k=p) w).setCell ⟨p,k,none⟩ (fun _=>rfl) _)
end
section
variable {ro:Option Nat} {P:Program} {ρ:Operand->Value} {o:Oper} {w:World} {R:Value->World->Prop}
theorem Ma{t:TypeId}{l:List (Nat×Operand)}{l':List (Nat×Value)}{cells:Array Value}{v:Value}(ho:o.op = .build t l.toArray)(hl:l.map (fun p=>(p.1,ρ p.2))=l')(hc:P.built t l'=some cells)(hv : .agg cells=v)(h:R v w):Lg P ρ o w R:=by
 subst hl
 exact MQ ho (by rw[← hc];congr 1;simp) hv h
theorem Rj:([]:List (Nat×Operand)).map (fun p=>(p.1,ρ p.2))=[]:=rfl
theorem RW{i:Nat}{x:Operand}{v:Value}{xs:List (Nat×Operand)}{vs:List (Nat×Value)}(h:ρ x=v)(h2:xs.map (fun p=>(p.1,ρ p.2))=vs):((i,x)::xs).map (fun p=>(p.1,ρ p.2))=(i,v)::vs:=by simp[h,← h2]
end
open Go.RowKit
def Ox(w:World):Prop:=3<w.heap.size/\∀ i,i<21->w.cell? ⟨3,i,none⟩=some (.int .i64 (stl.getD i 0))
theorem Ox.all{w w':World}(h:Ox w)(k:KR (fun _=>False) w w'):Ox w' :=
 ⟨Nat.lt_of_lt_of_le h.1 k.size,fun i hi=>(k.cell0 h.1 id).trans (h.2 i hi)⟩
theorem Ox.at{w:World}(h:Ox w){q:Int}(hq:0<=q/\q<=20):w.cell? ⟨3,q.toNat,none⟩=some (.int .i64 (XG q)):=by
 rw[azf hq,← h.2 q.toNat (by omega)]
def aFW(f:Nat)(g:Int->Int->Int):Prop:=(∀ args w,(callFunc f args).run Tryz.prog w = .ok (.enter f args) w) ∧
 ∀ (n s:Int) (w0:World),-1048576<=n/\n<=1048576->1<=s/\s<=192->Calls Tryz.prog f #[.int .i64 n,.int .i64 s] w0 fun e w'=>e = .returned (.int .i64 (g n s))/\KR (fun _=>False) w0 w'
theorem aA4(n s:Int)(w0:World)(hn : -1048576<=n/\n<=1048576)(hs:1<=s/\s<=192) :
  Calls Tryz.prog 145 #[.int .i64 (n),.int .i64 (s)] w0 fun e w'=>e = .returned (.int .i64 (UT n s))/\KR (fun _=>False) w0 w':=by
 refine Ly (args:=[iv n,iv s]) 8 Tryz.func145 rfl rfl (Nat.le_of_ble_eq_true rfl) ?_
 have hm:=aES hn hs
 refine KM (KL (Lb (iv 0) LE (KQ ?_)))
 have s3:=K4 (iv n)
 have s4:=K4 (iv s)
 have s5:=K4 (undef)
 refine KK (KM (KL (K2 Lw s3 (K2 Lw s4 (KN (iv (UT n s)) rr (Nb rfl rfl rfl (Mn (y:=UT n s) rfl (by omega)) rr) (Lb (iv (UT n s)) LE (KQ ?_)))))))
 have s9:=K4 (iv (UT n s))
 refine KK (Le ?_)
 exact LC (v:=iv (UT n s)) s5 rfl rfl s9 ⟨rfl,(KR.refl (fun _=>False) w0)⟩
theorem aB6:aFW 145 UT:=⟨fun _ _=>by kernel_rfl,fun n s w0 hn hs=>aA4 n s w0 hn hs⟩
theorem Yh(n:Int)(w0:World) :
  Calls Tryz.prog 167 #[.int .i64 (n)] w0 fun e w'=>e = .returned (.int .i64 (cl 1048576 n))/\KR (fun _=>False) w0 w':=by
 refine Ly (args:=[iv n]) 6 Tryz.func167 rfl rfl (Nat.le_of_ble_eq_true rfl) ?_
 refine KM (KL (Lb (iv 0) LE (KQ ?_)))
 have s3:=K4 (iv n)
 have s4:=K4 (undef)
 refine KK (KM (KL (K2 Lw s3 (KN (iv (min n 1048576)) rr (RB rfl rfl rfl rfl rr) (KN (iv (cl 1048576 n)) rr (R9 rfl rfl rfl (by unfold cl;omega) rr) (Lb (iv (cl 1048576 n)) LE (KQ ?_)))))))
 have s8:=K4 (iv (cl 1048576 n))
 refine KK (Le ?_)
 exact LC (v:=iv (cl 1048576 n)) s4 rfl rfl s8 ⟨rfl,(KR.refl (fun _=>False) w0)⟩
theorem aCd(q:Int)(w0:World)(hs:Ox w0) :
  Calls Tryz.prog 166 #[.int .i64 (q)] w0 fun e w'=>e = .returned (.tuple #[.int .i64 (XG q),.int .i64 (Q5 q)])/\KR (fun _=>False) w0 w':=by
 refine Ly (args:=[iv q]) 13 Tryz.func166 rfl rfl (Nat.le_of_ble_eq_true rfl) ?_
 have K0:=KR.refl (fun _=>False) w0
 refine KM (KL (Lb (iv 0) LE (Lb (iv 0) LE (KQ ?_))))
 have s3:=K4 (iv q)
 have s4:=K4 (undef)
 refine KK (KM (Lm (KM (Lm (Lm (KM (KM (KM (KL (K2 Lw s3 (KN (.bool (decide (q<0))) rr (Mc rfl rfl rfl rfl rr) ?_)))))))))))
 refine Lb (.bool (decide (q<0))) LE (KQ ?_)
 have s9:=K4 (.bool (decide (q<0)))
 refine KK ?_
 refine K5 s9 (fun aa=>?_) (fun aa=>?_)
 ·replace aa:=of_decide_eq_true aa
  refine Mm (Lp (Lp (Mk (Lz (KK (KM (KM (KL (Lb (iv 0) LE (Lb (iv 50) LE (KQ ?_)))))))))))
  have ai:=K4 (iv 0)
  have aj:=K4 (iv 50)
  refine KK (Le (Lx (Ot (Lx ?_))))
  exact Mo s4 rfl (LF (v:=iv 0) rfl ai) (LF (v:=iv 50) rfl aj) ⟨(by first|(rw[WE (by omega)])|(rw[azj (by omega),X3 (by omega)])),K0⟩
 ·replace aa:=of_decide_eq_false aa
  refine Lf (KK (KM (KL (K2 Lw s3 (KN (.bool (decide (20<q))) rr (RN rfl rfl rfl rfl rr) (Lb (.bool (decide (20<q))) LE (KQ ?_)))))))
  have ak:=K4 (.bool (decide (20<q)))
  refine KK ?_
  refine K5 ak (fun ab=>?_) (fun ab=>?_)
  ·replace ab:=of_decide_eq_true ab
   refine Mm (Lp (RF (by decide) (Mk (KK (KM (KM (KL (Lb (iv 0) LE (Lb (iv 50) LE (KQ ?_))))))))))
   have am:=K4 (iv 0)
   have an:=K4 (iv 50)
   refine KK (Le (Lx (Ot (Lx ?_))))
   exact Mo s4 rfl (LF (v:=iv 0) rfl am) (LF (v:=iv 50) rfl an) ⟨(by first|(rw[WE (by omega)])|(rw[azj (by omega),X3 (by omega)])),K0⟩
  ·replace ab:=of_decide_eq_false ab
   refine Lf (KK (Mm (RF (by decide) (RF (by decide) (Lp (Mk (KK (KM (KL (K2 Lw s3 (KN (.pointer (some ⟨3,q.toNat,none⟩)) rr (L3 (q.toNat) (s:=1) rfl rfl rfl (by omega) Tryz.underlying175 (by omega) (by kernel_rfl) (by omega) rr) ?_)))))))))))
   refine KN (iv (XG q)) rr (Pj rfl rfl Tryz.underlying3 ((hs.all K0).at (q:=q) (by omega)) rr) (Lb (iv (XG q)) LE (Lb (iv 0) LE (KQ ?_)))
   have ao:=K4 (iv (XG q))
   have ap:=K4 (iv 0)
   refine KK (Le ?_)
   exact Mo s4 rfl (LF (v:=iv (XG q)) rfl ao) (LF (v:=iv 0) rfl ap) ⟨(by first|(rw[WE (by omega)])|(rw[azj (by omega),X3 (by omega)])),K0⟩
theorem aCW(f:Nat)(g:Int->Int->Int)(b:Nat->Int)(q:Int)(w0:World)(hs:Ox w0)(hf:aFW f g) :
  Calls Tryz.prog 144 #[LW (b),.int .i64 (q),.func (.func (f)) #[] #[]] w0 fun e w'=>e = .returned (.tuple #[LW (Vn g b q),.int .i64 (Q5 q)])/\KR (fun _=>False) w0 w':=by
 refine Ly (args:=[LW b,iv q,.func (.func f) #[] #[]]) 35 Tryz.func144 rfl rfl (Nat.le_of_ble_eq_true rfl) ?_
 have K0:=KR.refl (fun _=>False) w0
 refine KM (KL (Ny rfl rfl rfl rfl fun p1 w2 e5 B3 k4=>?_))
 have K8:=K0.tr k4
 refine Mf rfl rfl rfl KW.2.2 fun p9 bv ap aQ aq=>?_
 have ah:=L7 (Nat.le_of_eq ap.symm)
 have ar:=KS.new K8 ah
 have aR:=KO.new ah (L8 B3.lt)
 clear ap ah
 have aS:=B3.all aq id
 have au:=K8.tr aq
 refine Lb (iv 0) LE (KQ ?_)
 have aT:=K4 (iv q)
 have aU:=K4 (.func (.func f) #[] #[])
 have av:=K4 (undef)
 have aw:=K4 (pt p1 0)
 have ai:=K4 (pt p9 0)
 refine KK (KM (KL (K2 Lw aT (L9 rfl rfl rfl rfl rfl (fun _ _=>by kernel_rfl) (Lo rfl L5) (aCd q  _ (hs.all au)  ) fun bz az=>?_))))
 obtain⟨aA,aB⟩:=Oe az aS aQ
 have aC:=au.tr az
 refine KN (.tuple #[iv (XG q),iv (Q5 q)]) rr (KT rfl rfl rr) (KN (iv (XG q)) rr (LY rfl rfl rfl rr) (KN (iv (Q5 q)) rr (LY rfl rfl rfl rr) (Lb (iv (XG q)) LE (Lb (iv (Q5 q)) LE (KQ ?_)))))
 have aV:=K4 (iv (XG q))
 have aD:=K4 (iv (Q5 q))
 refine KK (KM (KM (KL (K2 Lw aD (KN (.bool (decide ((Q5 q)≠0))) rr (Mw rfl rfl rfl rfl rr) (KQ ?_))))))
 have aW:=K4 (.bool (decide ((Q5 q)≠0)))
 refine KK ?_
 refine K5 aW (fun ab=>?_) (fun ab=>?_)
 ·replace ab:=of_decide_eq_true ab
  refine KM (KL (KN (LW (fun _=>0)) rr (MQ (cells:=(Mp 16 (fun _=>0)).toArray) rfl (by kernel_rfl) rfl rr) (K2 Lw aD (Lu KW rfl rfl rfl ai rfl aB fun bA aX aY=>?_))))
  refine Lb (iv (Q5 q)) LE (KQ ?_)
  have aZ:=K4 (iv (Q5 q))
  refine KK (Le (Lx ?_))
  exact Mo av rfl (MH KW rfl ai aX) (LF (v:=iv (Q5 q)) rfl aZ) ⟨(by first|(rw[az7 (by omega)])|(rw[show Q5 q=0 by omega])),(aC.trans aY (KS.ok (S:=fun _=>False) ar KZ))⟩
 ·replace ab:=of_decide_eq_false ab
  refine Lf (KK (KM (KM (KL (KN (LW b) rr (Me KW rfl aw aA rr) (KN (iv 0) rr (KT rfl rfl rr) (KQ ?_)))))))
  have a8:=K4 (LW b)
  have a9:=K4 (iv 0)
  refine KK (Lm (M8 (fun nn FF ww=>∃ (k:Nat),(k<=16)/\nn=16-k/\FF 2 = .func (.func f) #[] #[]/\FF 3=pt p1 0/\FF 6=pt p9 0/\FF 8=iv (XG q)/\FF 21=LW b/\FF 35=undef/\FF 22=iv ((k:Nat):Int)/\KR (fun _=>False) w0 ww/\Of ww p1 69 (upto k b (Vn g b q))/\Of ww p9 69 (fun _=>0)) (16-0) ⟨0,by omega,rfl,aU,aw,ai,aV,a8,av,a9,aC,aA.first,aB⟩ ?_))
  rintro bB bC ba ⟨k,i72,hn71,aE,aj,ak,aF,aG,aH,af,aI,aJ,aK⟩
  refine KM (KL (KN (.bool (decide (((k:Nat):Int)<16))) rr (Mc rfl af rfl rfl rr) (KQ ?_)))
  have bb:=K4 (.bool (decide (((k:Nat):Int)<16)))
  refine KK (KM ?_)
  refine K5 bb (fun ac=>?_) (fun ac=>?_)
  ·replace ac:=of_decide_eq_true ac
   refine Lf (KK (KM (Lm (KM (KL (K2 Lw af (KN (iv (b k)) rr (aBN k KW rfl aG af (by omega) rfl rr) (Lb (iv ((k:Nat):Int)) LE (Lb (iv (b k)) LE (KQ ?_))))))))))
   have bc:=K4 (iv ((k:Nat):Int))
   have bd:=K4 (iv (b k))
   refine KK ?_
   have hst:=aEM (q:=q) (by omega)
   refine KL (K2 Lw bc (K2 Lw aE (K2 Lw bd (L9 rfl rfl rfl rfl rfl (fun _ _=>by kernel_rfl) (Lo rfl L5) (Yh (b k)  _   ) fun be aL=>?_))))
   obtain⟨bf,bg⟩:=Oe aL aJ aK
   refine K2 Lw aF (LH (R:=fun v_ w_=>v_=iv (g (cl 1048576 (b k)) (XG q))/\KR (fun _=>False) be w_) rfl rfl (aGm rfl rfl rfl rfl (hf.1) (Lo rfl (Lo rfl L5)) (hf.2 _ _ _ (aBK 1048576 _ (by omega)) (by omega)) (fun e_ w_ h_=>⟨_,h_.1,rfl,h_.2⟩)) ?_)
   rintro _ bD ⟨rfl,aM⟩
   obtain⟨bh,bi⟩:=Oe aM bf bg
   refine KN (.pointer (some ⟨p1,k,none⟩)) rr (L3 k (s:=1) rfl aj rfl (by omega) Tryz.underlying69 (by omega) (by kernel_rfl) (by omega) rr) (Oh rfl rfl rfl rfl rfl bh (by omega) (by kernel_rfl) fun bE bj aN=>?_)
   have bl:=bi.all aN (aR p9 rfl)
   refine KQ ?_
   refine Lz (KK (KL (KN (iv ((k+1:Nat):Int)) rr (LS rfl af rfl (LX (by omega) (by omega)) rr) (KN (iv ((k+1:Nat):Int)) rr (KT rfl rfl rr) (KQ ?_)))))
   have bm:=K4 (iv ((k+1:Nat):Int))
   exact KK ⟨(16-(k+1)),by omega,k+1,by omega,rfl,aE,aj,ak,aF,aG,aH,bm,(((aI.tr aL).tr aM).trans aN (KS.ok (S:=fun _=>False) (KS.new K0 (L7 (Nat.le_of_eq e5.symm))) KZ)),(bj.next (by rw[aAa (by omega)])),bl⟩
  ·replace ac:=of_decide_eq_false ac
   refine Mm (Lp (Lp ?_))
   have bn:16=k:=by omega
   subst bn
   have bo:Of ba p1 69 (Vn g b q):=(aJ.last)
   refine Mk (KK (KM (KL (KN (LW (Vn g b q)) rr (Me KW rfl aj bo rr) (Lu KW rfl rfl rfl ak rfl aK fun bF bp bq=>?_)))))
   refine Lb (iv 0) LE (KQ ?_)
   have bt:=K4 (iv 0)
   refine KK (Le ?_)
   exact Mo aH rfl (MH KW rfl ak bp) (LF (v:=iv 0) rfl bt) ⟨(by first|(rw[az7 (by omega)])|(rw[show Q5 q=0 by omega])),(aI.trans bq (KS.ok (S:=fun _=>False) ar KZ))⟩
theorem aEW(b:Nat->Int)(q:Int)(w0:World)(hs:Ox w0) :
  Calls Tryz.prog 113 #[LW (b),.int .i64 (q)] w0 fun e w'=>e = .returned (.tuple #[LW (TC b q),.int .i64 (Q5 q)])/\KR (fun _=>False) w0 w':=by
 refine Ly (args:=[LW b,iv q]) 11 Tryz.func113 rfl rfl (Nat.le_of_ble_eq_true rfl) ?_
 refine KM (KL (Ny rfl rfl rfl rfl fun p1 w2 e5 B3 k4=>?_))
 have g6:=L7 (Nat.le_of_eq e5.symm)
 clear e5 g6
 have K8:=(KR.refl (fun _=>False) w0).tr k4
 refine Mf rfl rfl rfl KW.2.2 fun p9 aD ao ap ac=>?_
 have aq:=B3.all ac id
 have ae:=K8.tr ac
 refine Lb (iv 0) LE (KQ ?_)
 have ar:=K4 (iv q)
 have au:=K4 (undef)
 have av:=K4 (pt p1 0)
 have af:=K4 (pt p9 0)
 refine KK (KM (KL (KN (LW b) rr (Me KW rfl av aq rr) (K2 Lw ar (L9 rfl rfl rfl rfl rfl (fun _ _=>by kernel_rfl) (Lo rfl (Lo rfl (Lo rfl L5))) (aCW _ UT b q _ (hs.all ae) aB6) fun aE ah=>?_)))))
 have aw:=ap.all ah id
 refine KN (LW (Vn UT b q)) rr (LY rfl rfl rfl rr) (KN (iv (Q5 q)) rr (LY rfl rfl rfl rr) (Lu KW rfl rfl rfl af rfl aw fun aF az aA=>?_))
 refine Lb (iv (Q5 q)) LE (KQ ?_)
 have aB:=K4 (iv (Q5 q))
 refine KK (Le ?_)
 exact Mo au rfl (MH KW rfl af az) (LF (v:=iv (Q5 q)) rfl aB) ⟨rfl,((ae.tr ah).trans aA (KS.ok (S:=fun _=>False) (KS.new K8 (L7 (Nat.le_of_eq ao.symm))) KZ))⟩
open Go.ChangeShapes Go.WideShapes Go.ChangeAt Go.RowKit
def aCs{H:Type}(x:Int):DataW H:=.lit (.int .i64 x)
theorem Tryz.c1:Tryz.prog.cellsOf 3=1:=by kernel_rfl
theorem Ys{W:World}{f:Nat}{t:TypeId}{n:Nat}{l:List Int}{cs:List Value}{p:List MemPlace}(hu:Tryz.prog.underlying t=some (.array n 3))(hc:Tryz.prog.cellsOf t=n)
  (hd:DataW.trod (fun _=>()) Tryz.prog W 0 (fun _=>true) false f t cs=some (.agg (l.map aCs),p)):∀ i,i<n->cs[i]? = some (.int .i64 (l.getD i 0)):=by
 obtain⟨xs,m,rfl,hx,hl,hn,hel⟩:=DataW.trod_array hu hd
 rw[hc] at hl
 simp only[Prod.mk.injEq,DataW.agg.injEq] at hx
 intro i hi
 have h2:=hel i hi
 rw[Tryz.c1,Nat.mul_one,List.getElem?_eq_getElem (by omega)] at h2
 obtain⟨z,hz,hdz,_⟩:=DataW.trod_int Tryz.underlying3 h2
 have h3:cs[i]? = some (.int .i64 z):=by
  have:=congrArg (·[0]?) hz
  simpa [List.getElem?_take,List.getElem?_drop] using this
 have e2:(xs.map (·.1))[i]? = some (.lit (.int .i64 z)):=by
  rw[List.getElem?_map,List.getElem?_eq_getElem (by omega),hdz];rfl
 rw[← hx.1,List.getElem?_map] at e2
 rw[h3,List.getD_eq_getElem?_getD]
 cases hq:l[i]? with
 | none=>rw[hq] at e2;cases e2
 | some y =>
  rw[hq] at e2
  simp only[Option.map_some,Option.some.injEq,aCs,DataW.lit.injEq,Lit.int.injEq,true_and] at e2
  subst e2;rfl
theorem aDK{W:World}{f:Nat}{t r:TypeId}{n m:Nat}{l:List (List Int)}{cs:List Value}{p:List MemPlace}(hu:Tryz.prog.underlying t=some (.array n r))(hr:Tryz.prog.underlying r=some (.array m 3))(hcr:Tryz.prog.cellsOf r=m)
  (hd:DataW.trod (fun _=>()) Tryz.prog W 0 (fun _=>true) false f t cs=some (.agg (l.map fun q=>.agg (q.map aCs)),p)):∀ u c,u<n->c<m->cs[u*m+c]? = some (.int .i64 ((l.getD u []).getD c 0)):=by
 obtain⟨xs,k,rfl,hx,hl,hn,hel⟩:=DataW.trod_array hu hd
 simp only[Prod.mk.injEq,DataW.agg.injEq] at hx
 intro u c hu hc2
 have h1:=hel u hu
 rw[hcr,List.getElem?_eq_getElem (by omega)] at h1
 have e1:(xs.map (·.1))[u]? = some xs[u].1:=by rw[List.getElem?_map,List.getElem?_eq_getElem (by omega)];rfl
 rw[← hx.1,List.getElem?_map] at e1
 cases hq:l[u]? with
 | none=>rw[hq] at e1;cases e1
 | some y =>
  rw[hq] at e1
  simp only[Option.map_some,Option.some.injEq] at e1
  have h2:DataW.trod (fun _=>()) Tryz.prog W 0 (fun _=>true) false k r ((cs.drop (u*m)).take m)=some (.agg (y.map aCs),xs[u].2):=by
   rw[h1,e1]
  have h3:=Ys hr hcr h2 c hc2
  rw[List.getElem?_take,if_pos hc2,List.getElem?_drop] at h3
  rw[h3,show l.getD u []=y by rw[List.getD_eq_getElem?_getD,hq];rfl]
open Go.ChangeShapes Go.WideShapes Go.ChangeAt Go.RowKit
theorem Tryz.gSteps : Tryz.prog.globalNamed "clapboard/quant.steps" = some 3 := by kernel_rfl
theorem Tryz.tSteps:(Tryz.prog.globals[3]?).map (·.type)=some 175:=by kernel_rfl
theorem Tryz.gWaves : Tryz.prog.globalNamed "clapboard/wave.waves" = some 4 := by kernel_rfl
theorem Tryz.tWaves:(Tryz.prog.globals[4]?).map (·.type)=some 179:=by kernel_rfl
theorem Tryz.c21:Tryz.prog.cellsOf 175=21:=by kernel_rfl
theorem Tryz.c4:Tryz.prog.cellsOf 171=4:=by kernel_rfl
theorem aBy{W : World}{f : Nat}{cs : Array Value}{p : List MemPlace}(hv : World.var? Tryz.prog W "clapboard/quant.steps" = some cs)
  (hd:DataW.trod (fun _=>()) Tryz.prog W 0 (fun _=>true) false f 175 cs.toList=some (Rows.laid_clapboard_quant_steps,p)):Ox W:=by
 have key:=Ys (l:=stl) Tryz.underlying175 Tryz.c21 hd
 have cell:∀ i,i<21->W.cell? ⟨3,i,none⟩=some (.int .i64 (stl.getD i 0)):=by
  intro i hi
  rw[World.var?_cell Tryz.gSteps hv i]
  simpa using key i hi
 exact⟨World.block_lt_of_cell? W _ (cell 0 (by omega)),cell⟩
theorem aCr{W : World}{f : Nat}{cs : Array Value}{p : List MemPlace}(hv : World.var? Tryz.prog W "clapboard/wave.waves" = some cs)
  (hd:DataW.trod (fun _=>()) Tryz.prog W 0 (fun _=>true) false f 179 cs.toList=some (Rows.laid_clapboard_wave_waves,p)):QZ W:=by
 have key:=aDK (l:=[[1,1,1,1],[1,1,-1,-1],[1,-1,-1,1],[1,-1,1,-1]]) Tryz.underlying179 Tryz.underlying171 Tryz.c4 hd
 have cell:∀ i,i<16->W.cell? ⟨4,i,none⟩=some (.int .i64 (wv 0 i)):=by
  intro i hi
  rw[World.var?_cell Tryz.gWaves hv i]
  have h2:=key (i/4) (i%4) (by omega) (by omega)
  rw[show i/4*4+i%4=i by omega] at h2
  have e:∀ i,i<16->(([[1,1,1,1],[1,1,-1,-1],[1,-1,-1,1],[1,-1,1,-1]]:List (List Int)).getD (i/4) []).getD (i%4) 0=wv 0 i:=by decide
  rw[e i hi] at h2
  simpa using h2
 exact⟨World.block_lt_of_cell? W _ (cell 0 (by omega)),cell⟩
open Go.RowKit
def LK(l:List Nat):List Value:=l.map fun x:Nat=>.int .u8 (x:Int)
theorem LI(l:List Nat):(LK l).length=l.length:=by simp[LK]
theorem Sw(a b:List Nat):LK (a++b)=LK a++LK b:=by simp[LK]
theorem QB(l:List Nat):∀ u∈LK l,u.oneCell'=true:=by
 intro u hu
 obtain⟨x,_,rfl⟩:=List.mem_map.1 hu
 rfl
theorem Pz(l:List Nat)(i:Nat)(h:i<l.length):(LK l)[i]? = some (.int .u8 (l.getD i 0:Nat)):=by
 simp[LK,List.getD,h]
theorem Tryz.info_u8:(Tryz.prog.info? 5).map (fun i=>(i.zero,i.size,i.bytes))=some (some (.int .u8 0),1,1):=by kernel_rfl
def MG(w:World)(v:Value)(l:List Nat):Prop :=
 ∃ a cap,v = .slice a l.length cap/\l.length<=cap/\cap<=maxLen/\(a=none->cap=0)/\(∀ x∈l,x<256) ∧
  (0<l.length->∃ b off,a=some ⟨b,off,none⟩/\b<w.heap.size/\∀ i,i<l.length->w.cell? ⟨b,off+i,none⟩=some (.int .u8 (l.getD i 0:Nat)))
theorem MG.lt256{w:World}{v:Value}{l:List Nat}(h:MG w v l):∀ x∈l,x<256:=by
 obtain⟨a,cap,rfl,h1,h2,h3,hl,hc⟩:=h;exact hl
theorem MG.nil(w:World):MG w (.slice none 0 0) []:=⟨none,0,rfl,Nat.le_refl _,Nat.zero_le _,fun _=>rfl,by simp,by simp⟩
theorem Rk{l:List Nat}(h:∀ x∈l,x<256)(i:Nat):l.getD i 0<256:=by
 rw[List.getD]
 cases e:l[i]? with
 | none=>simp
 | some x=>simpa using h x (List.mem_of_getElem? e)
def VH(w:World)(B:Nat)(v:Value)(l:List Nat):Prop:=w.ownsRow B 5 1 v l.length (LK l)/\∀ x∈l,x<256
theorem VH.nil(w:World)(B:Nat):VH w B (.slice none 0 0) []:=⟨World.ownsRow_nil w B _ _,by simp⟩
theorem VH.lt{w:World}{B:Nat}{v:Value}{l:List Nat}(h:VH w B v l):∀ k,v.ownBlock=some k->B<=k/\k<w.heap.size:=h.1.lt
theorem VH.kept{S:Nat->Prop}{w w':World}{B:Nat}{v:Value}{l:List Nat}(h:VH w B v l)(k:KR S w w')(hs:∀ g,v.ownBlock=some g->¬ S g):VH w' B v l:=by
 obtain⟨⟨h0,h1⟩,h2⟩:=h
 refine⟨⟨h0,?_⟩,h2⟩
 rcases h1 with hn | ⟨g,cap,cur,rfl,hb,hg,rest⟩
 ·exact .inl hn
 ·exact .inr ⟨g,cap,cur,rfl,hb,k.at hg (hs g rfl),rest⟩
theorem VH.bytes{w:World}{B:Nat}{v:Value}{l:List Nat}(h:VH w B v l):MG w v l:=by
 obtain⟨h,h256⟩:=h
 rcases h.2 with ⟨rfl,h0⟩ | ⟨g,cap,cur,rfl,hb,hg,hc,hm,hs,ht⟩
 ·have hl:l=[]:=List.eq_nil_of_length_eq_zero h0
  subst hl;exact MG.nil w
 ·refine⟨some ⟨g,0,none⟩,cap,rfl,hc,hm,by simp,h256,fun hpos=>⟨g,0,rfl,M5 hg,fun i hi=>?_⟩⟩
  rw[Nat.zero_add,h.cellAt i (by omega)]
  exact Pz l i hi
theorem VH.of_new{w:World}{B g:Nat}{l:List Nat}(h:w.heap[g]? = some (.cells (LK l).toArray 5 (0,0)))(hB:B<=g)(hm:l.length<=maxLen)(h256:∀ x∈l,x<256) :
  VH w B (.slice (some ⟨g,0,none⟩) l.length l.length) l:=by
 refine⟨⟨by rw[LI];omega,.inr ⟨g,l.length,_,rfl,hB,h,Nat.le_refl _,hm,by simp[LI],?_⟩⟩,h256⟩
 rw[List.take_of_length_le (by simp[LI])]
def Z7(w w':World)(B:Nat)(v v':Value)(l:List Nat):Prop:=VH w' B v' l/\w.grownBy w' v.ownBlock
theorem RT(w:World)(ty:TypeId)(B:Nat)(v x:Value)(l m:List Nat)(hown:VH w B v l)(hx:MG w x m)(hl:l.length+m.length<1099511627776)(hB:B<=w.heap.size) :
  ∃ v' w',(Builtin.append_ #[26,26] ty #[v,x]).run Tryz.prog w = .ok v' w'/\Z7 w w' B v v' (l++m):=by
 obtain⟨i0,hi,hz0,hz1,hz2⟩:=info_parts Tryz.info_u8
 obtain⟨a,cap,rfl,h1,h2,h3,h256,hc⟩:=hx
 have hall:∀ y∈l++m,y<256:=by
  intro y hy
  rcases List.mem_append.1 hy with h|h
  ·exact hown.2 y h
  ·exact h256 y h
 have hlm:l.length+m.length<=maxLen:=by unfold maxLen;omega
 cases a with
 | none =>
  have hc0:=h3 rfl
  subst hc0
  have hm:m=[]:=List.eq_nil_of_length_eq_zero (by omega)
  subst hm
  refine⟨v,w,run_append_owned_none w B _ ty _ i0 1 Tryz.underlying26 hi v _ _ hown.1,⟨by simpa using hown.1,hall⟩,⟨rfl,rfl,rfl,Nat.le_refl _,fun _ _ _=>rfl⟩⟩
 | some ad =>
  have hcells:∀ j u,(LK m)[j]? = some u->w.cell? (ad.add j)=some u:=by
   intro j u hj
   have hjl:j<m.length:=by
    have:=(List.getElem?_eq_some_iff.1 hj).1
    rwa [LI] at this
   obtain⟨b,off,he,hb,hcell⟩:=hc (by omega)
   cases he
   rw[Addr.add_lit,hcell j hjl,← hj,Pz m j hjl]
  obtain⟨v',w',hr,ho,hg,_⟩:=run_append_own (P:=Tryz.prog) w B 26 ty 5 i0 (.int .u8 0) 1 1 Tryz.underlying26 hi hz0 hz1 hz2 rfl (by decide) v l.length (LK l) hown.1 ad m.length cap (LK m)
   (by rw[LI];omega) hcells (QB m) hlm (by omega) hB
  refine⟨v',w',hr,⟨?_,hall⟩,hg⟩
  rw[List.length_append,Sw];exact ho
def Mx(l:List Nat):ByteArray:=(l.map fun n:Nat=>(n:Int)).foldl (fun r n=>r.push (UInt8.ofNat n.toNat)) ByteArray.empty
theorem MG.text{w:World}{v:Value}{l:List Nat}(h:MG w v l):(convert 26 9 v).run Tryz.prog w = .ok (.string (Mx l)) w:=by
 obtain⟨a,cap,rfl,h1,h2,h3,h256,hc⟩:=h
 rw[run_convert_bytes_string w 26 9 5 _ _ _ Tryz.underlying26 Tryz.underlying5 Tryz.underlying9]
 cases a with
 | none =>
  have hc0:=h3 rfl
  subst hc0
  have hl:l=[]:=List.eq_nil_of_length_eq_zero (by omega)
  subst hl
  simp[Conv.bytesToString,Mx]
 | some ad =>
  have hl:=run_loadCells_list (P:=Tryz.prog) w ad (LK l) (by
   intro j u hj
   have hjl:j<l.length:=by
    have:=(List.getElem?_eq_some_iff.1 hj).1
    rwa [LI] at this
   obtain⟨b,off,he,hb,hcell⟩:=hc (by omega)
   cases he
   rw[Addr.add_lit,hcell j hjl,← hj,Pz l j hjl])
  rw[LI] at hl
  have e:(LK l).toArray=((l.map fun n:Nat=>(n:Int)).map (Value.int .u8)).toArray:=by simp[LK]
  rw[e] at hl
  exact run_bytesToString w ad l.length cap _ hl
open Go.RowKit
theorem My(x:Bool):x.toNat<=1:=by cases x <;> decide
theorem YB(x:Bool)(m:Nat)(h:m=x.toNat):decide (m=1)=x:=by subst h;cases x <;> decide
def Ry(b:Nat->Bool):Nat :=
 (b 0).toNat*128+(b 1).toNat*64+(b 2).toNat*32+(b 3).toNat*16+(b 4).toNat*8+(b 5).toNat*4+(b 6).toNat*2+(b 7).toNat
theorem aAV(b:Nat->Bool):Ry b<256:=by
 have:=My (b 0);have:=My (b 1);have:=My (b 2);have:=My (b 3)
 have:=My (b 4);have:=My (b 5);have:=My (b 6);have:=My (b 7)
 unfold Ry;omega
theorem azk(b:Nat->Bool)(j:Nat)(hj:j<8):(Ry b).testBit (7-j)=b j:=by
 have:=My (b 0);have:=My (b 1);have:=My (b 2);have:=My (b 3)
 have:=My (b 4);have:=My (b 5);have:=My (b 6);have:=My (b 7)
 rw[Nat.testBit_eq_decide_div_mod_eq]
 refine YB _ _ ?_
 unfold Ry
 match j,hj with
 | 0,_=>omega
 | 1,_=>omega
 | 2,_=>omega
 | 3,_=>omega
 | 4,_=>omega
 | 5,_=>omega
 | 6,_=>omega
 | 7,_=>omega
def Om(n:Nat):Nat:=(n+7)/8
def Mi(bs:List Bool):List Nat:=(List.range (Om bs.length)).map fun i=>Ry fun j=>bs.getD (8*i+j) false
theorem N8(bs:List Bool):(Mi bs).length=Om bs.length:=by simp[Mi]
theorem aAo(bs:List Bool)(i:Nat)(h:i<Om bs.length):(Mi bs).getD i 0=Ry fun j=>bs.getD (8*i+j) false:=by
 simp[Mi,List.getD,h]
def Oq(l:List Nat)(i:Nat):Bool:=(l.getD (i/8) 0).testBit (7-i%8)
theorem Z0(bs:List Bool)(i:Nat)(h:i<8*Om bs.length):Oq (Mi bs) i=bs.getD i false:=by
 unfold Oq
 rw[aAo bs (i/8) (by omega),azk _ _ (Nat.mod_lt _ (by decide))]
 congr 1;omega
open Go.RowKit
theorem ZP(n:Int):bits .and .i64 n 1=n%2:=by
 have h1:(BitVec.ofInt 64 1).toNat=2 ^ 1-1:=by decide
 have key:(BitVec.ofInt 64 n &&& BitVec.ofInt 64 1).toNat=(n%((2 ^ 64:Nat):Int)).toNat%2 ^ 1:=by
  rw[BitVec.toNat_and,BitVec.toNat_ofInt,h1,Nat.and_two_pow_sub_one_eq_mod]
 show IntKind.i64.wrap ((BitVec.ofInt 64 n &&& BitVec.ofInt 64 1).toNat:Nat)=n%2
 rw[key,IntKind.wrap_i64]
 omega
def S2(n:Int):Bool:=decide (n%2=1)
def MN(n:Int):Nat->List Bool
 | 0=>[]
 | k+1=>S2 (n/2 ^ k)::MN n k
theorem O1(n:Int)(k:Nat):(MN n k).length=k:=by
 induction k with
 | zero=>rfl
 | succ k ih=>simp[MN,ih]
open Go.RowKit
def Sj(m:Nat):List Bool:=MN 0 (Lib.bitLen m-1)++MN (m:Int) (Lib.bitLen m)
def M2(n:Int):Nat:=(min (max n 0) 2147483647).toNat
def LT(n:Int):List Bool:=Sj (M2 n+1)
theorem Xo(n:Int):M2 n<=2147483647:=by unfold M2;omega
theorem P4(m:Nat)(h0:m≠0)(h:m<2 ^ 64):1<=Lib.bitLen m/\2 ^ (Lib.bitLen m-1)<=m/\m<2 ^ Lib.bitLen m:=Lib.bitLenAux_bounds 64 m h h0
theorem S8(m:Nat)(h0:m≠0)(h:m<=2147483648):1<=Lib.bitLen m/\Lib.bitLen m<=32 :=
 ⟨(P4 m h0 (by omega)).1,Lib.bitLen_le m 32 (by omega) (by omega)⟩
def Ln(n:Nat):List Bool:=true::List.replicate (7-n%8) false
open Go.RowKit
def Qg(n:Int):Int:=min (max n (-1073741824)) 1073741824
def M4(n:Int):List Bool:=if 0<Qg n then LT (2*Qg n-1) else LT (-2*Qg n)
theorem Xl(z:Value)(n:Nat):madeCells #[z] n=(List.replicate n z).toArray:=by
 unfold madeCells
 apply Array.ext
 ·simp
 ·intro i h1 h2
  simp[Nat.mod_one]
theorem Yj{α:Type}(L cs:List α)(h:cs.length=L.length):splice L 0 cs=cs:=by
 unfold splice
 rw[List.take_zero,List.nil_append,Nat.zero_add,h,List.drop_length,List.append_nil]
theorem U6(l:List Nat):∀ v∈LK l,v.oneCell'=true:=by
 intro v hv
 obtain⟨x,_,rfl⟩:=List.mem_map.1 hv
 rfl
theorem Tryz.size_u8:(Tryz.prog.info? 5).map (·.size)=some 1:=by kernel_rfl
open Go.RowKit
def N2(w:World)(p g:Nat)(l:List Nat)(at_:Nat)(lost:Bool):Prop :=
 w.heap[p]? = some (.cells #[.slice (some ⟨g,0,none⟩) l.length l.length,.int .i64 (at_:Int),.bool lost] 106 (0,0)) ∧
  w.heap[g]? = some (.cells (LK l).toArray 5 (0,0))/\g≠p
theorem N2.kept{S:Nat->Prop}{w w':World}{p g:Nat}{l:List Nat}{at_:Nat}{lost:Bool}(h:N2 w p g l at_ lost)(k:KR S w w')(hp:¬ S p)(hg:¬ S g):N2 w' p g l at_ lost :=
 ⟨k.at h.1 hp,k.at h.2.1 hg,h.2.2⟩
theorem N2.drew{w:World}{p g:Nat}{l:List Nat}{at_:Nat}{lost:Bool}(h:N2 w p g l at_ lost):N2 w.drew p g l at_ lost:=h
theorem N2.facts{w:World}{p g:Nat}{l:List Nat}{at_:Nat}{lost:Bool}(h:N2 w p g l at_ lost) :
  w.cell? ⟨p,0,none⟩=some (.slice (some ⟨g,0,none⟩) l.length l.length)/\w.cell? ⟨p,1,none⟩=some (.int .i64 (at_:Int))/\w.cell? ⟨p,2,none⟩=some (.bool lost) ∧
  w.frozen? ⟨p,1,none⟩=false/\w.frozen? ⟨p,2,none⟩=false:=by
 refine⟨by rw[ML h.1];rfl,by rw[ML h.1];rfl,by rw[ML h.1];rfl,Nm h.1,Nm h.1⟩
theorem N2.byte{w:World}{p g:Nat}{l:List Nat}{at_:Nat}{lost:Bool}(h:N2 w p g l at_ lost)(i:Nat)(hi:i<l.length):w.cell? ⟨g,i,none⟩=some (.int .u8 (l.getD i 0:Nat)):=by
 rw[ML h.2.1];simp[LK,List.getD,hi]
theorem N2.setAt{w:World}{p g:Nat}{l:List Nat}{at_:Nat}{lost:Bool}(h:N2 w p g l at_ lost)(n:Nat)(x:Int)(hx:x=(n:Int)):N2 (w.setCell ⟨p,1,none⟩ (.int .i64 x)) p g l n lost:=by
 subst hx
 refine⟨?_,(Q1 _ p 1 g _ h.2.2).trans h.2.1,h.2.2⟩
 rw[Np _ p 1 _ h.1];simp
theorem N2.setLost{w:World}{p g:Nat}{l:List Nat}{at_:Nat}{lost:Bool}(h:N2 w p g l at_ lost)(b:Bool):N2 (w.setCell ⟨p,2,none⟩ (.bool b)) p g l at_ b:=by
 refine⟨?_,(Q1 _ p 2 g _ h.2.2).trans h.2.1,h.2.2⟩
 rw[Np _ p 2 _ h.1];simp
def YN:List PanicEntry:=[{ v:=.iface 33 (.int .i64 10),recovered:=false }]
def SH(w:World)(p g:Nat)(l:List Nat)(o:Option (Int×Nat))(e:Ending)(w':World):Prop :=
 match o with
 | some (n,a)=>e = .returned (.int .i64 n)/\N2 w' p g l a false/\KR (· = p) w w'
 | none=>e = .panicked YN/\(∃ a,N2 w' p g l a false)/\KR (· = p) w w'
def PA(l:List Nat):Prop:=(∀ x∈l,x<256)/\l.length<1099511627776
theorem PA.getD{l:List Nat}(h:PA l)(i:Nat):l.getD i 0<256:=by
 rw[List.getD]
 cases hh:l[i]? with
 | none=>simp
 | some x=>simpa using h.1 x (List.mem_of_getElem? hh)
theorem Sl(w:World) :
  Calls Tryz.prog 130 #[] w fun e w'=>e = .panicked YN/\w=w':=by
 go_enter Tryz.func130,Tryz.ntmps130
 go_wp2
 exact⟨rfl,rfl,rfl⟩
theorem Y3(x k:Nat)(hx:x<256):wrap64 (bits BinOp.and IntKind.u8 ((x:Int)/2 ^ k) 1)=((x.testBit k).toNat:Int):=by
 have e:((x:Int)/2 ^ k)=((x/2 ^ k:Nat):Int):=by simp
 have hle:x/2 ^ k<=x:=Nat.div_le_self _ _
 have:=Nat.mod_lt (x/2 ^ k) (show 0<2 by decide)
 rw[e,show (1:Int)=((1:Nat):Int) from rfl,u8_and_nat _ _ (by omega) (by omega),Nat.and_one_is_mod,Nat.toNat_testBit]
 unfold wrap64;omega
set_option maxHeartbeats 400000 in
theorem U7(p g:Nat)(l:List Nat)(a:Nat)(w:World)(hl:PA l)(h:N2 w p g l a false)(ha:a<8*l.length) :
  Calls Tryz.prog 152 #[.pointer (some ⟨p,0,none⟩)] w fun e w'=>e = .returned (.int .i64 ((Oq l a).toNat:Int))/\N2 w' p g l (a+1) false/\KR (· = p) w w':=by
 obtain⟨h0,h1,-,f1,-⟩:=h.facts
 have hx:=h.byte (a/8) (by omega)
 have hx256:=hl.getD (a/8)
 have hbit:=Y3 (l.getD (a/8) 0) (7-a%8) hx256
 have HB:=Lib.hid hbit;clear hbit
 have HA:=Lib.hid h;clear h
 have hlen:=hl.2
 clear hl
 generalize hX:l.getD (a/8) 0=x at *
 have HX:=Lib.hid hX;clear hX
 generalize hN:l.length=n at *
 have HN:=Lib.hid hN;clear hN
 have hq:(a:Int)/8<n:=by omega
 have hq1:0<=(a:Int)/8:=by omega
 have hq2:((a:Int)/8).toNat=a/8:=by omega
 go_enter Tryz.func152,Tryz.ntmps152
 go_wp2_with (fail)
 go_quiet (fail)
 go_wp2
 go_ret
 refine⟨?_,?_,?_⟩
 ·unfold Oq;rw[HX.out,← HB.out];rfl
 ·exact(N2.setAt (HA.out.kept ((KR.refl (fun _=>False) _).drewN _) id id) (a+1) _ (by omega))
 ·exact((KR.refl (· = p) _).drewN _).setCell _ (fun _=>rfl) _
set_option maxHeartbeats 400000 in
theorem Xw(p g:Nat)(l:List Nat)(a:Nat)(w:World)(hl:PA l)(h:N2 w p g l a false)(ha:8*l.length<=a)(ha2:a<8796093022208) :
  Calls Tryz.prog 152 #[.pointer (some ⟨p,0,none⟩)] w fun e w'=>e = .panicked YN/\w=w':=by
 obtain⟨h0,h1,-,-,-⟩:=h.facts
 clear h
 have hlen:=hl.2
 clear hl
 generalize l.length=n at *
 have hq:(n:Int)<=(a:Int)/8:=by omega
 go_enter Tryz.func152,Tryz.ntmps152
 go_wp2_with (go_at_call 130;refine(Sl _).mono ?_;rintro e w' ⟨rfl,rfl⟩)
 exact⟨rfl,rfl,rfl⟩
def Ou(l:List Nat)(a:Nat):Nat->Nat
 | 0=>0
 | k+1=>2*Ou l a k+(Oq l (a+k)).toNat
theorem WU(l:List Nat)(a k:Nat):Ou l a k<2 ^ k:=by
 induction k with
 | zero=>simp[Ou]
 | succ k ih=>have:=My (Oq l (a+k));simp only[Ou,Nat.pow_succ];omega
def QK(l:List Nat)(a k:Nat):Option (Int×Nat):=if a+k<=8*l.length then some ((Ou l a k:Int),a+k) else none
theorem aEr(x:Nat)(b:Bool)(hx:x<2 ^ 33):bits BinOp.or IntKind.i64 ((x:Int)*2) (b.toNat:Int)=((2*x+b.toNat:Nat):Int):=by
 have:=My b
 rw[bits_join .i64 63 (by decide) (fun n h0 h1=>by rw[IntKind.wrap_i64];omega) 1 ((x:Int)*2) (b.toNat:Int) (by omega) (by omega) (by omega) (by omega) (by omega) (by omega)]
 omega
set_option maxHeartbeats 400000 in
theorem ZH(p g:Nat)(l:List Nat)(a k:Nat)(w:World)(hl:PA l)(hk:k<=32)(h:N2 w p g l a false)(ha:a<=8*l.length) :
  Calls Tryz.prog 153 #[.pointer (some ⟨p,0,none⟩),.int .i64 (k:Int)] w (SH w p g l (QK l a k)):=by
 have H0:=Lib.hid h;clear h
 have HL:=Lib.hid hl
 have hlen:=hl.2
 clear hl
 go_enter Tryz.func153,Tryz.ntmps153
 go_wp2_with (fail)
 go_loopw [5,7] (fun s5 s7 wr=>∃ j:Nat,j<=k/\s7 = .int .i64 (j:Int)/\s5 = .int .i64 (Ou l a j:Int)/\a+j<=8*l.length/\N2 wr p g l (a+j) false/\KR (· = p) w wr) (fun _ i _=>k-(intOf i).toNat)
 case atStart=>exact⟨0,Nat.zero_le _,rfl,rfl,ha,H0.out,KR.refl _ _⟩
 case round =>
  obtain⟨j,hj,rfl,rfl,haj,hr,hkp⟩:=hrel
  have HR:=Lib.hid hr;clear hr
  have HK:=Lib.hid hkp;clear hkp
  have hv:=WU l a j
  have hv32:Ou l a j<4294967296:=Nat.lt_of_lt_of_le hv (by have:=Nat.pow_le_pow_right (n:=2) (by decide) (show j<=32 by omega);simpa using this)
  clear hv
  by_cases hlt:j<k
  ·by_cases hin:a+j<8*l.length
   ·go_wp2_with (fail)
    refine(U7 p g l (a+j) _ HL.out HR.out hin).mono ?_
    rintro e w1 ⟨rfl,hr1,hk1⟩
    have HR1:=Lib.hid hr1;clear hr1
    have HK1:=Lib.hid (HK.out.trans hk1 (fun _ _ x=>x));clear hk1
    go_wp2
    go_roundw
    case rel =>
     refine⟨j+1,by omega,by go_num,?_,by omega,HR1.out,HK1.out⟩
     rw[aEr _ _ (by omega)];rfl
    case measure=>simp[intOf];omega
   ·go_wp2_with (fail)
    refine(Xw p g l (a+j) _ HL.out HR.out (by omega) (by omega)).mono ?_
    rintro e w1 ⟨rfl,rfl⟩
    go_wp2
    refine⟨rfl,?_⟩
    have e:QK l a k=none:=by unfold QK;rw[if_neg (by omega)]
    rw[e]
    exact⟨rfl,⟨_,HR.out⟩,HK.out⟩
  ·go_wp2
   go_ret
   have ej:j=k:=by omega
   subst ej
   have e:QK l a j=some ((Ou l a j:Int),a+j):=by unfold QK;rw[if_pos haj]
   rw[e]
   exact⟨rfl,HR.out,HK.out⟩
theorem aAD(p g:Nat)(l:List Nat)(a k:Nat)(w:World)(hl:PA l)(hk:k<=32)(h:N2 w p g l a false)(ha:a+k<=8*l.length) :
  Calls Tryz.prog 153 #[.pointer (some ⟨p,0,none⟩),.int .i64 (k:Int)] w fun e w'=>e = .returned (.int .i64 (Ou l a k:Int))/\N2 w' p g l (a+k) false/\KR (· = p) w w':=by
 refine(ZH p g l a k w hl hk h (by omega)).mono fun e w' hp=>?_
 have e:QK l a k=some ((Ou l a k:Int),a+k):=by unfold QK;rw[if_pos ha]
 rw[e] at hp;exact hp
theorem azv(p g:Nat)(l:List Nat)(a k:Nat)(w:World)(hl:PA l)(hk:k<=32)(h:N2 w p g l a false)(ha:a<=8*l.length)(ha2:8*l.length<a+k) :
  Calls Tryz.prog 153 #[.pointer (some ⟨p,0,none⟩),.int .i64 (k:Int)] w fun e w'=>e = .panicked YN/\(∃ a,N2 w' p g l a false)/\KR (· = p) w w':=by
 refine(ZH p g l a k w hl hk h (by omega)).mono fun e w' hp=>?_
 have e:QK l a k=none:=by unfold QK;rw[if_neg (by omega)]
 rw[e] at hp;exact hp
def PV(l:List Nat)(a:Nat):Nat->Nat->Option (Int×Nat)
 | 0,_=>none
 | f+1,z=>if a+z<8*l.length then (if Oq l (a+z) then (if a+z+1+z<=8*l.length then some (((2 ^ z+Ou l (a+z+1) z:Nat):Int)-1,a+z+1+z) else none) else (if 31<z+1 then none else PV l a f (z+1))) else none
def MM(l:List Nat)(a:Nat):Option (Int×Nat):=PV l a 33 0
theorem aFh(x z:Nat)(hz:z<=31)(hx:x<2 ^ z):bits BinOp.or IntKind.i64 ((2:Int) ^ z) (x:Int)=((2 ^ z+x:Nat):Int):=by
 have hp:(2:Nat) ^ z<=2 ^ 31:=Nat.pow_le_pow_right (by decide) hz
 have e:(2:Int) ^ z=((2 ^ z:Nat):Int):=by simp
 rw[e,bits_join .i64 63 (by decide) (fun n h0 h1=>by rw[IntKind.wrap_i64];omega) z ((2 ^ z:Nat):Int) (x:Int) (by omega) (by simp) (by omega) (by omega) (by exact_mod_cast hx) (by omega)]
 omega
set_option maxHeartbeats 1000000 in
theorem Z4(p g:Nat)(l:List Nat)(a:Nat)(w:World)(hl:PA l)(h:N2 w p g l a false)(ha:a<=8*l.length) :
  Calls Tryz.prog 129 #[.pointer (some ⟨p,0,none⟩)] w (SH w p g l (MM l a)):=by
 have H0:=Lib.hid h;clear h
 have HL:=Lib.hid hl
 have hlen:=hl.2
 clear hl
 go_enter Tryz.func129,Tryz.ntmps129
 go_wp2_with (fail)
 go_loopw [3] (fun s3 wr=>∃ z:Nat,z<=31/\s3 = .int .i64 (z:Int)/\a+z<=8*l.length/\PV l a (33-z) z=MM l a/\N2 wr p g l (a+z) false/\KR (· = p) w wr) (fun i _=>32-(intOf i).toNat)
 case atStart=>exact⟨0,by omega,rfl,ha,rfl,H0.out,KR.refl _ _⟩
 case round =>
  obtain⟨z,hz,rfl,haz,hwf,hr,hkp⟩:=hrel
  have HR:=Lib.hid hr;clear hr
  have HK:=Lib.hid hkp;clear hkp
  have HF:=Lib.hid hwf;clear hwf
  have hfz:33-z=(32-z)+1:=by omega
  have hf2:=HF.out
  rw[hfz,PV] at hf2
  have HF2:=Lib.hid hf2;clear hf2 hfz
  by_cases hin:a+z<8*l.length
  ·cases hb:Oq l (a+z) with
   | true =>
    have hbt:((((Oq l (a+z)).toNat:Nat):Int)==0)=false:=by rw[hb];rfl
    have HB:=Lib.hid hb;clear hb
    go_wp2_with (fail)
    refine(U7 p g l (a+z) _ HL.out HR.out hin).mono ?_
    rintro e w1 ⟨rfl,hr1,hk1⟩
    have HR1:=Lib.hid hr1;clear hr1
    have HK1:=Lib.hid (HK.out.trans hk1 (fun _ _ x=>x));clear hk1
    have hv:=WU l (a+z+1) z
    have hor:=aFh (Ou l (a+z+1) z) z hz hv
    have HO:=Lib.hid hor;clear hor
    have hp31:(2:Nat) ^ z<=2147483648:=by have:=Nat.pow_le_pow_right (n:=2) (by decide) hz;simpa using this
    have hv32:Ou l (a+z+1) z<2147483648:=by omega
    have hw2:IntKind.i64.wrap (2 ^ z)=2 ^ z:=by
     have e:(2:Int) ^ z=((2 ^ z:Nat):Int):=by simp
     rw[e,IntKind.wrap_i64];omega
    clear hv hp31
    by_cases hfit:a+z+1+z<=8*l.length
    ·go_wp2_with (fail)
     go_region_with (go_at_call 153;refine(aAD p g l (a+z+1) z _ HL.out (by omega) ?_ hfit).mono ?_;exact HR1.out.drew;rintro e w2 ⟨rfl,hr2,hk2⟩)
     have HR2:=Lib.hid hr2;clear hr2
     have HK2:=Lib.hid (HK1.out.drew.trans hk2 (fun _ _ x=>x));clear hk2
     have hlo:0<=bits BinOp.or IntKind.i64 (2 ^ z) ↑(Ou l (a+z+1) z)/\bits BinOp.or IntKind.i64 (2 ^ z) ↑(Ou l (a+z+1) z)<4294967296:=by
      have hp31:(2:Nat) ^ z<=2147483648:=by have:=Nat.pow_le_pow_right (n:=2) (by decide) hz;simpa using this
      have hp0:0<(2:Nat) ^ z:=Nat.two_pow_pos z
      rw[HO.out];omega
     obtain⟨hlo1,hlo2⟩:=hlo
     go_wp2
     go_ret
     have e:MM l a=some (((2 ^ z+Ou l (a+z+1) z:Nat):Int)-1,a+z+1+z):=by rw[← HF2.out,if_pos hin,HB.out,if_pos rfl,if_pos hfit]
     rw[e]
     refine⟨?_,HR2.out,HK2.out⟩
     rw[← HO.out];rfl
    ·have e:MM l a=none:=by rw[← HF2.out,if_pos hin,HB.out,if_pos rfl,if_neg hfit]
     have HE:=Lib.hid e;clear e
     go_wp2_with (fail)
     refine wp_region_any (by kernel_rfl) ?_
     change wpAny _ _ _ _ _ _ _ (World.drew _)
     refine wpAny_take (i:=0) (v:=?_) rfl (by kernel_rfl) (by kernel_rfl) (by kernel_rfl) (fun _ _ _ h=>h) (Or.inl ⟨by rfl,?_⟩) ?_
     rotate_left
     ·intro w;go_simp;try with_reducible rfl
     rotate_left
     refine wpAny_take (i:=1) (v:=?_) rfl (by kernel_rfl) (by kernel_rfl) (by kernel_rfl) (fun _ _ _ h=>h) (Or.inl ⟨by rfl,?_⟩) ?_
     rotate_left
     ·intro w;go_simp;try with_reducible rfl
     rotate_left
     refine wpAny_take (i:=2) (v:=?_) rfl (by kernel_rfl) (by kernel_rfl) (by kernel_rfl) (fun _ _ _ h=>h) (Or.inl ⟨by rfl,?_⟩) ?_
     rotate_left
     ·intro w;go_simp;try with_reducible rfl
     rotate_left
     refine wpAny_take (i:=3) (v:=?_) rfl (by kernel_rfl) (by kernel_rfl) (by kernel_rfl) (fun _ _ _ h=>h) (Or.inl ⟨by rfl,?_⟩) ?_
     rotate_left
     ·intro w;go_simp;try with_reducible rfl
     rotate_left
     refine wpAny_ready (rs:=[4]) (by kernel_rfl) (by simp) ?_
     refine AllReady.cons rfl (fun K hK=>?_) AllReady.nil
     go_simp
     refine(azv p g l (a+z+1) z _ HL.out (by omega) ?_ (by omega) (by omega)).mono ?_
     ·exact HR1.out.drew
     rintro e w2 ⟨rfl,hr2,hk2⟩
     refine⟨rfl,?_⟩
     rw[HE.out]
     exact⟨rfl,hr2,HK1.out.drew.trans hk2 (fun _ _ x=>x)⟩
   | false =>
    have hbt:((((Oq l (a+z)).toNat:Nat):Int)==0)=true:=by rw[hb];rfl
    have HB:=Lib.hid hb;clear hb
    go_wp2_with (fail)
    refine(U7 p g l (a+z) _ HL.out HR.out hin).mono ?_
    rintro e w1 ⟨rfl,hr1,hk1⟩
    have HR1:=Lib.hid hr1;clear hr1
    have HK1:=Lib.hid (HK.out.trans hk1 (fun _ _ x=>x));clear hk1
    by_cases h31:31<z+1
    ·go_wp2_with (fail)
     refine(Sl _).mono ?_
     rintro e w2 ⟨rfl,rfl⟩
     go_wp2
     refine⟨rfl,?_⟩
     have e:MM l a=none:=by rw[← HF2.out,if_pos hin,HB.out,if_pos h31];rfl
     rw[e]
     exact⟨rfl,⟨_,HR1.out⟩,HK1.out⟩
    ·go_wp2
     go_roundw
     case rel =>
      refine⟨z+1,by omega,by go_num,by omega,?_,HR1.out,HK1.out⟩
      rw[← HF2.out,if_pos hin,HB.out,if_neg h31]
      simp
     case measure=>simp[intOf];omega
  ·go_wp2_with (fail)
   refine(Xw p g l (a+z) _ HL.out HR.out (by omega) (by omega)).mono ?_
   rintro e w1 ⟨rfl,rfl⟩
   go_wp2
   refine⟨rfl,?_⟩
   have e:MM l a=none:=by rw[← HF2.out,if_neg hin]
   rw[e]
   exact⟨rfl,⟨_,HR.out⟩,HK.out⟩
end Go.Proofs.YtknjpdcpmpfklaaGreatDoor
