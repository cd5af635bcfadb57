/- What PictureKeeps reaches of my texts, part 1. -/
import Derived.WalkKit
import Derived.WalkSpells
import Derived.WalkLawsBesides
import Derived.BigQuiet
import Derived.BigRegion
import Derived.Deep.QuietTactic
import Derived.Lib.Hide
import Derived.Orders
import Derived.Deep.LoopGhost
import Derived.TacticsIn
import Derived.RangeFuncCalls
import Derived.IntWalk
import Derived.Test.YtknjpdcpmpfklaaGreatDoorChecked
import Derived.Deep.WholeRow
import Derived.Deep.MidRow
import Derived.Laws.Tables
import Derived.ChangeKeysEq
import Derived.ProofKit
import Derived.OpenShut
import Derived.LaidMore
import Derived.Stop.Joined
import Derived.Laws.OwnMore
import Derived.Shelf.Strconv.Itoa0
import Derived.Lib.ItoaNum
import Derived.Test.YtknjpdcpmpfklaaGreatDoorProg
import Derived.Deep.OwnRows
import Derived.Laws.CopyOwn
import Derived.Deep.RegionWith
import Derived.Defers
import Derived.Recover
import Derived.Conc.MuLone
import Derived.Scope
import Derived.RangeFuncLeaves
import Derived.RangeFuncRecord
import Derived.RangeFuncNested
import Derived.LoopNIn
import Derived.Laws.MakeOwn
import Derived.Laws.Cover1
import Derived.Lib.MakeNoZero
import Derived.Laws.Externs
import Derived.Great.BuildSlice
import Derived.MapKept
import Derived.Deep.Strs
import Derived.Laws.BitsAllLaws
import Derived.Lib.SliceRun
import Derived.OrdersIn
import Derived.Lib.SmallJoins
import Derived.SevenTiedAt
import Derived.ChangeOld
import Derived.Below
import Derived.Test.YtknjpdcpmpfklaaGreatDoorRows
set_option maxRecDepth 100000
set_option maxHeartbeats 4000000
set_option maxRecDepth 100000
namespace Go.Proofs.YtknjpdcpmpfklaaGreatDoor
open Go.RowKit
structure KP (S:Nat->Prop) (w w':World):Prop where
  os:w'.os=w.os
  tape:w'.tape=w.tape
  output:w'.output=w.output
  size:w.heap.size<=w'.heap.size
  block:∀ k,k<w.heap.size->¬ S k->w'.heap[k]? = w.heap[k]?
theorem KP.refl(S:Nat->Prop)(w:World):KP S w w:=⟨rfl,rfl,rfl,Nat.le_refl _,fun _ _ _=>rfl⟩
theorem KP.trans{S S':Nat->Prop}{a b c:World}(h:KP S a b)(k:KP S' b c)(hs:∀ i,i<a.heap.size->S' i->S i):KP S a c :=
  ⟨k.os.trans h.os,k.tape.trans h.tape,k.output.trans h.output,Nat.le_trans h.size k.size,
   fun i hi hn=>(k.block i (Nat.lt_of_lt_of_le hi h.size) (fun x=>hn (hs i hi x))).trans (h.block i hi hn)⟩
theorem KP.mono{S S':Nat->Prop}{a b:World}(h:KP S a b)(hs:∀ i,i<a.heap.size->S i->S' i):KP S' a b :=
 ⟨h.os,h.tape,h.output,h.size,fun i hi hn=>h.block i hi (fun x=>hn (hs i hi x))⟩
theorem KP.drew{S:Nat->Prop}{a w:World}(h:KP S a w):KP S a w.drew:=⟨h.os,h.tape,h.output,h.size,h.block⟩
theorem ZM(w:World)(n:Nat):(w.drewN n).os=w.os/\(w.drewN n).tape=w.tape/\(w.drewN n).output=w.output/\(w.drewN n).heap=w.heap:=⟨rfl,rfl,rfl,rfl⟩
theorem KP.drewN{S:Nat->Prop}{a w:World}(h:KP S a w)(n:Nat):KP S a (w.drewN n):=by
 obtain⟨e1,e2,e3,e4⟩:=ZM w n
 exact⟨e1.trans h.os,e2.trans h.tape,e3.trans h.output,by rw[e4];exact h.size,by rw[e4];exact h.block⟩
theorem KP.alloc{S:Nat->Prop}{a w:World}(h:KP S a w)(o:Obj):KP S a (w.alloc o) :=
 h.trans (S':=fun _=>False) ⟨rfl,rfl,rfl,by simp,fun k hk _=>Below.heap_alloc _ _ _ (by omega)⟩ (fun _ _ x=>x.elim)
theorem KP.setCell{S:Nat->Prop}{a w:World}(h:KP S a w)(p:Addr)(hp:p.block<a.heap.size->S p.block)(u:Value):KP S a (w.setCell p u) :=
 h.trans (S':=fun k=>k=p.block) ⟨rfl,rfl,rfl,by simp[World.setCell],fun k hk hn=>Below.heap_setCell _ _ _ _ hn⟩ (fun i hi x=>by subst x;exact hp hi)
theorem KP.grown{S:Nat->Prop}{a w w':World}{row:Option Nat}(h:KP S a w)(hg:w.grownBy w' row)(hr:∀ k,row=some k->k<a.heap.size->S k):KP S a w' :=
 h.trans (S':=fun k=>row=some k) ⟨hg.os,hg.tape,hg.output,hg.size,fun k hk hn=>hg.block k hk (fun e=>hn e.symm)⟩ (fun i hi x=>hr i x hi)
theorem KP.below{S:Nat->Prop}{B:Nat}{w w':World}(h:KP S w w')(hB:B<=w.heap.size)(hs:∀ k,k<B->¬ S k):Below B w w' :=
 ⟨h.os,h.tape,h.output,h.size,fun k hk=>h.block k (by omega) (hs k hk)⟩
theorem Below.kept{w w':World}(h:Below w.heap.size w w'):KP (fun _=>False) w w' :=
 ⟨h.os,h.tape,h.output,h.size,fun k hk _=>h.block k hk⟩
theorem MK{w:World}{k:Nat}{o:Obj}(h:w.heap[k]? = some o):k<w.heap.size:=(Array.getElem?_eq_some_iff.1 h).1
theorem KP.at{S:Nat->Prop}{w w':World}(h:KP S w w'){k:Nat}{o:Obj}(hk:w.heap[k]? = some o)(hn:¬ S k):w'.heap[k]? = some o :=
 (h.block k (MK hk) hn).trans hk
theorem MY(w:World)(b off:Nat)(v:Value){c:Array Value}{e:TypeId}{f:Nat×Nat}(h:w.heap[b]? = some (.cells c e f)) :
  (w.setCell ⟨b,off,none⟩ v).heap[b]? = some (.cells (c.setIfInBounds off v) e f):=by
 simp[World.setCell,Array.getElem?_modify,h]
theorem Qm(w:World)(b off k:Nat)(v:Value)(h:k≠b):(w.setCell ⟨b,off,none⟩ v).heap[k]? = w.heap[k]? :=
 Below.heap_setCell w ⟨b,off,none⟩ v k h
theorem Mt{w:World}{b off:Nat}{c:Array Value}{e:TypeId}{f:Nat×Nat}(h:w.heap[b]? = some (.cells c e f)):w.cell? ⟨b,off,none⟩=c[off]? := by
 simp[World.cell?,h]
theorem M1{w:World}{b off:Nat}{c:Array Value}{e:TypeId}(h:w.heap[b]? = some (.cells c e (0,0))):w.frozen? ⟨b,off,none⟩=false:=by
 simp[World.frozen?,h]
theorem Q8{P:Program}(w:World)(t ty e:TypeId)(i:TypeInfo)(z:Value)(size bytes:Nat)(ht:P.underlying t=some (.slice e))(hi:P.info? e=some i)(hz:i.zero=some z)
  (hsize:i.size=size) (hby:i.bytes=bytes) (hzs:z.cells.size=size) (hsz:0<size)
  (v:Value) (n:Nat) (xs:List Value) (hown:w.ownsRow 0 e size v n xs)
  (a:Addr) (m c:Nat) (news:List Value) (hl:news.length=m*size) (hnews:∀ j u,news[j]? = some u->w.cell? (a.add j)=some u) (h1:∀ u∈news,u.oneCell'=true)
  (h63:n+m<=maxLen) (hbytes:(n+m)*bytes<=140737488355328) :
  ∃ v' w',(Builtin.append_ #[t,t] ty #[v,.slice (some a) m c]).run P w = .ok v' w'/\w'.ownsRow 0 e size v' (n+m) (xs++news)/\w.grownBy w' v.ownBlock ∧
   (v'.ownBlock=v.ownBlock\/∃ g,v'.ownBlock=some g/\w.heap.size<=g):=by
 obtain⟨v',w',hr,ho,hg,_⟩:=run_append_own (P:=P) w 0 t ty e i z size bytes ht hi hz hsize hby hzs hsz v n xs hown a m c news hl hnews h1 h63 hbytes (Nat.zero_le _)
 refine⟨v',w',hr,ho,hg,?_⟩
 rcases hown.2 with ⟨rfl,rfl⟩ | ⟨g,cap,cur,rfl,_,hgg,hnc,hcm,hcs,htake⟩
 ·have hx:xs=[]:=List.eq_nil_of_length_eq_zero (by simpa using hown.1)
  subst hx
  obtain⟨v2,w2,hr2,ho2,_,_⟩:=run_append_own (P:=P) w w.heap.size t ty e i z size bytes ht hi hz hsize hby hzs hsz _ 0 [] (World.ownsRow_nil w w.heap.size e size) a m c news hl hnews h1 h63 hbytes (Nat.le_refl _)
  rw[hr] at hr2
  cases hr2
  rcases ho2.2 with ⟨rfl,_⟩ | ⟨g,cap,cur,rfl,hb,_⟩
  ·exact .inl rfl
  ·exact .inr ⟨g,rfl,hb⟩
 ·subst hsize
  by_cases hroom:n+m<=cap
  ·have hfit:n*i.size+news.length<=cur.size:=by rw[hl,hcs,← Nat.add_mul];exact Nat.mul_le_mul_right _ hroom
   have hr2:=run_append_room (P:=P) w t ty e i ht hi g n cap cur hgg a m c news hl hnews h1 hroom hfit
   rw[hr] at hr2
   cases hr2
   exact .inl rfl
  ·subst hby
   have hr2:=run_append_grow (P:=P) w t ty e i z ht hi hz ⟨g,0,none⟩ n cap xs hown.1 (hown.cells (g:=g) rfl) a m c news hl hnews (by omega) (by unfold maxLen at h63;omega) (growslice_fits (by omega) hbytes)
   rw[hr] at hr2
   cases hr2
   exact .inr ⟨w.heap.size,rfl,Nat.le_refl _⟩
theorem Si{P:Program}(w:World){ops:Array Oper}{rest:List Oper}{o:Oper}{a:Act}{Q:Exit->Act->World->Prop}(hgd:o.guard=none)(s x:Operand)(t:TypeId)
  (ho:o.op = .call { callee:=.builtin .append,args:=#[s,x],argTypes:=#[t,t] })
  (e:TypeId) (i:TypeInfo) (z:Value) (size bytes:Nat) (ht:P.underlying t=some (.slice e)) (hi:P.info? e=some i) (hz:i.zero=some z)
  (hsize:i.size=size) (hby:i.bytes=bytes) (hzs:z.cells.size=size) (hsz:0<size)
  (v:Value) (n:Nat) (xs:List Value) (hs:a.eval s=v) (hown:w.ownsRow 0 e size v n xs)
  (ad:Addr) (m c:Nat) (news:List Value) (hx:a.eval x = .slice (some ad) m c) (hl:news.length=m*size) (hnews:∀ j u,news[j]? = some u->w.cell? (ad.add j)=some u) (h1:∀ u∈news,u.oneCell'=true)
  (h63:n+m<=maxLen) (hbytes:(n+m)*bytes<=140737488355328)
  (h:∀ v' w',w'.ownsRow 0 e size v' (n+m) (xs++news)->w.grownBy w' v.ownBlock->(v'.ownBlock=v.ownBlock\/∃ g,v'.ownBlock=some g/\w.heap.size<=g)->wpList P ops Q rest (a.put o.dst v') w'):wpList P ops Q (o::rest) a w:=by
 refine wpList_plain hgd fun K hK=>?_
 obtain⟨v',w',hr,h2,h3,h4⟩:=Q8 (P:=P) w t o.type e i z size bytes ht hi hz hsize hby hzs hsz v n xs hown ad m c news hl hnews h1 h63 hbytes
 unfold Oper.wp execOp
 simp only[ho,resolve,invoke,builtin,Sem.run_bind,Sem.run_pure,Result.andThen_ok,List.map_toArray,List.map_cons,List.map_nil,hs,hx,hr]
 exact hK _ _ (h v' w' h2 h3 h4)
end Go.Proofs.YtknjpdcpmpfklaaGreatDoor
set_option maxRecDepth 100000
namespace Go.Proofs.YtknjpdcpmpfklaaGreatDoor
open Go.RowKit
def Lj(P:Program)(ρ:Operand->Value)(o:Oper)(w:World)(R:Value->World->Prop):Prop :=
 match (execOp ρ o).run P w with
 | .ok (.value v) w'=>R v w'
 | .ok .skip w'=>R undef w'
 | .ok (.enter f args) w'=>Calls P f args w' fun e w''=>∃ v,e = .returned v/\R v w''
 | _=>False
theorem Lj.wp{P:Program}{a:Act}{o:Oper}{w:World}{K:Act->World->Prop}{Q:Exit->Act->World->Prop}(h:Lj P a.eval o w (fun v w'=>K (a.put o.dst v) w')):o.wp P a w K Q:=by
 unfold Lj at h
 unfold Oper.wp
 generalize (execOp a.eval o).run P w=r at *
 cases r with
 | ok n w' =>
  cases n <;> simp only[Oper.upon] at h ⊢ <;> first
   | exact h
   | exact h.elim
   | exact Calls.mono h (fun e w'' ⟨v,he,hk⟩=>by subst he;exact hk)
 | halt x w'=>exact h.elim
def PW(D:List (Option Tmp))(o:Oper)(a:Act):Bool :=
 match o.guard with
 | none=>true
 | some (j,want)=>match D.getD j none with
  | none=>false
  | some d=>match a.eval (.tmp d) with
   | .bool b=>b==want
   | _=>false
def RE(D:List (Option Tmp))(G:Nat->Value->World->Prop)(a:Act)(w:World):List Edge->Prop
 | []=>True
 | e::r=>(Region.binds .any e=true->match D.getD e.on none with
  | some d=>G e.on (a.eval (.tmp d)) w
  | none=>True)/\RE D G a w r
def aBc(P:Program)(R:World->World->Prop)(D:List (Option Tmp))(G:Nat->Value->World->Prop)(a0:Act)(w0:World)(i:Nat)(o:Oper):Prop :=
 ∀ (a:Act) (w:World),R w0 w->(∀ t,some t∉D->a.eval (.tmp t)=a0.eval (.tmp t))->RE D G a w o.after.toList →
  (PW D o a=true->Lj P a.eval o w (fun v w'=>G i v w'/\R w w'))/\(PW D o a=false->G i undef w)
def Steps(P:Program)(R:World->World->Prop)(D:List (Option Tmp))(G:Nat->Value->World->Prop)(a0:Act)(w0:World):Nat->List Oper->Prop
 | _,[]=>True
 | i,o::r=>aBc P R D G a0 w0 i o/\Steps P R D G a0 w0 (i+1) r
def Mr(v:Nat->Value):Nat->List (Option Tmp)->Act->Act
 | _,[],a=>a
 | i,d::r,a=>Mr v (i+1) r (a.put d (v i))
def plain(size:Nat):Nat->List (Option Tmp)->List Oper->Bool
 | _,[],[]=>true
 | i,d::D,o::r=>(o.dst==d) && (match d with|none=>true|some d=>decide (d<size) && !D.contains (some d)) && (o.after.toList.all fun e => !Region.binds .any e || decide (e.on<i)) && plain size (i+1) D r
 | _,_,_=>false
theorem RQ{size:Nat}:∀ {i:Nat} {D:List (Option Tmp)} {os:List Oper},plain size i D os=true->D.length=os.length/\∀ k o,os[k]? = some o →
  D[k]? = some o.dst/\(∀ d,o.dst=some d->d<size/\∀ j,k<j->D[j]? ≠ some (some d))/\∀ e∈o.after.toList,Region.binds .any e=true->e.on<i+k:=by
 intro i D os
 induction os generalizing i D with
 | nil =>
  intro h
  cases D with
  | nil=>exact⟨rfl,by simp⟩
  | cons d D=>simp[plain] at h
 | cons o r ih =>
  intro h
  cases D with
  | nil=>simp[plain] at h
  | cons d D =>
   simp only[plain,Bool.and_eq_true] at h
   obtain⟨⟨⟨h1,h2⟩,h3⟩,h4⟩:=h
   have hd:o.dst=d:=by simpa using h1
   obtain⟨hl,hr⟩:=ih h4
   refine⟨by simp[hl],fun k o' hk=>?_⟩
   cases k with
   | zero =>
    simp at hk
    subst hk
    refine⟨by simp[hd],fun d' hd'=>?_,fun e he hb=>?_⟩
    ·rw[hd'] at hd
     subst hd
     simp only[Bool.and_eq_true,decide_eq_true_eq,Bool.not_eq_true',List.contains_eq_mem,decide_eq_false_iff_not] at h2
     refine⟨h2.1,fun j hj hD=>?_⟩
     cases j with
     | zero=>omega
     | succ j=>exact h2.2 (List.mem_of_getElem? (by simpa using hD))
    ·have:=List.all_eq_true.1 h3 e he
     simp[hb] at this;omega
   | succ k =>
    simp at hk
    obtain⟨g1,g2,g3⟩:=hr k o' hk
    refine⟨by simpa using g1,fun d' hd'=>⟨(g2 d' hd').1,fun j hj=>?_⟩,fun e he hb=>by have:=g3 e he hb;omega⟩
    cases j with
    | zero=>omega
    | succ j=>simpa using (g2 d' hd').2 j (by omega)
theorem Steps.at{P:Program}{R:World->World->Prop}{D:List (Option Tmp)}{G:Nat->Value->World->Prop}{a0:Act}{w0:World}:∀ {i:Nat} {os:List Oper},Steps P R D G a0 w0 i os->∀ k o,os[k]? = some o->aBc P R D G a0 w0 (i+k) o:=by
 intro i os
 induction os generalizing i with
 | nil=>intro _ k o h;simp at h
 | cons x r ih =>
  intro h k o hk
  cases k with
  | zero=>simp at hk;subst hk;exact h.1
  | succ k =>
   simp at hk
   have:=ih h.2 k o hk
   rwa [show i+1+k=i+(k+1) by omega] at this
theorem RE.mk{D:List (Option Tmp)}{G:Nat->Value->World->Prop}{a:Act}{w:World}:∀ {es:List Edge},(∀ e∈es,Region.binds .any e=true->∀ d,D.getD e.on none=some d->G e.on (a.eval (.tmp d)) w)->RE D G a w es:=by
 intro es
 induction es with
 | nil=>intro _;exact trivial
 | cons e r ih =>
  intro h
  refine⟨fun hb=>?_,ih fun e' he'=>h e' (by simp[he'])⟩
  split
  ·exact h e (by simp) hb _ ‹_›
  ·trivial
structure Mid (ops:Array Oper) (R:World->World->Prop) (D:List (Option Tmp)) (G:Nat->Value->World->Prop) (a0:Act) (w0:World) (v:Nat->Value) (listed:Array Bool) (a:Act) (w:World):Prop where
  size:a.tmps.size=a0.tmps.size
  ls:listed.size=ops.size
  defers:a.defers=a0.defers
  rel:R w0 w
  out:∀ t,(∀ j,listed.getD j false=true->D[j]? ≠ some (some t))->a.tmps.getD t undef=a0.tmps.getD t undef
  here:∀ j d,listed.getD j false=true->D[j]? = some (some d)->a.tmps.getD d undef=v j
  good:∀ j,listed.getD j false=true->G j (v j) w
theorem Lw(l:Array Bool)(i j:Nat)(hi:i<l.size):(l.setIfInBounds i true).getD j false=(if j=i then true else l.getD j false):=by
 by_cases h:j=i
 ·subst h;simp[Array.getD,hi]
 ·rw[if_neg h]
  by_cases hj:j<l.size
  ·simp[Array.getD,hj,Ne.symm h]
  ·simp[Array.getD,hj]
theorem Pi(l:Array Bool)(y:Nat)(h:y<l.size):l.getD y true=l.getD y false:=by simp[Array.getD,h]
theorem M7{md:Region.Mode}{ops:Array Oper}{listed:Array Bool}{i:Nat}(h:i∈Region.ready md ops listed) :
  i<ops.size/\listed.getD i true=false/\∃ o,ops[i]? = some o/\∀ e∈o.after.toList,Region.binds md e=true->listed.getD e.on false=true:=by
 unfold Region.ready at h
 obtain⟨h1,h2⟩:=List.mem_filter.1 h
 have hi:i<ops.size:=by simpa using h1
 simp only[Bool.and_eq_true,Bool.not_eq_true'] at h2
 refine⟨hi,h2.1,ops[i],by simp[hi],fun e he hb=>?_⟩
 have h3:=h2.2
 simp only[Array.getElem?_eq_getElem hi,Option.map_some,Option.getD_some] at h3
 have h4:=(Array.all_eq_true'.1 h3) e (by simpa using he)
 simpa [hb] using h4
theorem Qe{ops:Array Oper}{listed:Array Bool}(hb:∀ (k:Nat) (o:Oper),ops[k]? = some o->∀ e∈o.after.toList,Region.binds .any e=true->e.on<k)(hr:Region.ready .any ops listed=[])(hls:listed.size=ops.size):∀ i,i<ops.size->listed.getD i false=true:=by
 intro i
 induction i using Nat.strongRecOn with
 | _ i ih =>
  intro hi
  cases hl:listed.getD i false with
  | true=>rfl
  | false =>
   have hmem:i∈Region.ready .any ops listed:=by
    unfold Region.ready
    refine List.mem_filter.2 ⟨by simpa using hi,?_⟩
    have hl2:listed.getD i true=false:=by
     have:i<listed.size:=by omega
     simpa [Array.getD,this] using hl
    simp only[hl2,Array.getElem?_eq_getElem hi,Option.map_some,Option.getD_some,Bool.not_false,Bool.true_and]
    refine Array.all_eq_true'.2 fun e he=>?_
    cases hbe:Region.binds .any e with
    | false=>rfl
    | true =>
     have hlt:=hb i ops[i] (by simp[hi]) e (by simpa using he) hbe
     have:=ih e.on hlt (by omega)
     simp only[this,Bool.or_true]
   rw[hr] at hmem
   cases hmem
theorem O3(v:Nat->Value):∀ (D:List (Option Tmp)) (i:Nat) (a:Act),(Mr v i D a).tmps.size=a.tmps.size/\(Mr v i D a).defers=a.defers ∧
  (∀ t,some t∉D->(Mr v i D a).tmps.getD t undef=a.tmps.getD t undef) ∧
  (∀ j d,D[j]? = some (some d)->(∀ k,j<k->D[k]? ≠ some (some d))->d<a.tmps.size->(Mr v i D a).tmps.getD d undef=v (i+j)):=by
 intro D
 induction D with
 | nil=>intro i a;exact⟨rfl,rfl,fun _ _=>rfl,fun j d h=>by simp at h⟩
 | cons x r ih =>
  intro i a
  obtain⟨h1,h2,h3,h4⟩:=ih (i+1) (a.put x (v i))
  have hs:(a.put x (v i)).tmps.size=a.tmps.size:=by cases x <;> simp[Act.put]
  have hd:(a.put x (v i)).defers=a.defers:=by cases x <;> rfl
  refine⟨h1.trans hs,h2.trans hd,fun t ht=>?_,fun j d hj hlast hlt=>?_⟩
  ·simp only[List.mem_cons,not_or] at ht
   rw[Mr,h3 t ht.2]
   cases x with
   | none=>rfl
   | some y =>
    have hne:y≠t:=fun e=>ht.1 (by rw[e])
    simp only[Act.put,Array.getD_eq_getD_getElem?,Array.getElem?_setIfInBounds_ne hne]
  ·cases j with
   | zero =>
    simp at hj
    subst hj
    have hn:some d∉r:=by
     intro hm
     obtain⟨k,hk⟩:=List.mem_iff_getElem?.1 hm
     exact hlast (k+1) (by omega) (by simpa using hk)
    rw[Mr,h3 d hn]
    simp[Act.put,Array.getD_eq_getD_getElem?,hlt]
   | succ j =>
    have:=h4 j d (by simpa using hj) (fun k hk=>by simpa using hlast (k+1) (by omega)) (by rw[hs];exact hlt)
    rw[Mr,this];congr 1;omega
theorem Yn{P:Program}{ops:Array Oper}{Q:Exit->Act->World->Prop}{a0:Act}{w0:World}(R:World->World->Prop)(D:List (Option Tmp))(G:Nat->Value->World->Prop)
  (hpl:plain a0.tmps.size 0 D ops.toList=true) (hrf:∀ a,R a a) (htr:∀ a b c,R a b->R b c->R a c) (hst:∀ i v w w',G i v w->R w w'->G i v w') (hsteps:Steps P R D G a0 w0 0 ops.toList)
  (hend:∀ (v:Nat->Value) (w:World),R w0 w->(∀ i,i<ops.size->G i (v i) w)->Q .normal (Mr v 0 D a0) w) :
  ∀ (fuel:Nat) (listed:Array Bool) (v:Nat->Value) (a:Act) (w:World),Mid ops R D G a0 w0 v listed a w->(fuel=0->Region.ready .any ops listed=[]) →
   (List.range ops.size).countP (fun i => !listed.getD i false)<=fuel->wpAny P .any ops Q fuel listed a w:=by
 obtain⟨hDl,hpa⟩:=RQ hpl
 have hlen:D.length=ops.size:=by simpa using hDl
 have hback:∀ (k:Nat) (o:Oper),ops[k]? = some o->∀ e∈o.after.toList,Region.binds .any e=true->e.on<k:=by
  intro k o hk e he hb
  have:=(hpa k o (by simpa using hk)).2.2 e he hb
  omega
 have fin:∀ (listed:Array Bool) (v:Nat->Value) (a:Act) (w:World),Mid ops R D G a0 w0 v listed a w->Region.ready .any ops listed=[]->Q .normal a w:=by
  intro listed v a w hm hr
  have hall:=Qe hback hr hm.ls
  have hp:=O3 v D 0 a0
  have ha:a=Mr v 0 D a0:=by
   have ht:a.tmps=(Mr v 0 D a0).tmps:=by
    apply Array.ext
    ·rw[hm.size,hp.1]
    ·intro t h1 h2
     have e:a.tmps.getD t undef=(Mr v 0 D a0).tmps.getD t undef:=by
      by_cases hmem:some t∈D
      ·obtain⟨j,hj⟩:=List.mem_iff_getElem?.1 hmem
       have hjs:j<ops.size:=by rw[← hlen];exact(List.getElem?_eq_some_iff.1 hj).1
       obtain⟨g1,g2,_⟩:=hpa j ops[j] (by simp[hjs])
       have hdst:ops[j].dst=some t:=by rw[hj] at g1;exact(Option.some.inj g1).symm
       obtain⟨k1,k2⟩:=g2 t hdst
       rw[hm.here j t (hall j hjs) hj,hp.2.2.2 j t hj k2 k1,Nat.zero_add]
      ·rw[hp.2.2.1 t hmem,hm.out t (fun j _ hj=>hmem (List.mem_of_getElem? hj))]
     simpa [Array.getD_eq_getD_getElem?,h1,h2] using e
   have hd:a.defers=(Mr v 0 D a0).defers:=by rw[hm.defers,hp.2.1]
   cases a
   cases hq:Mr v 0 D a0
   rw[hq] at ht hd
   simp only at ht hd
   rw[ht,hd]
  rw[ha]
  exact hend v w hm.rel (fun i hi=>hm.good i (hall i hi))
 intro fuel
 induction fuel with
 | zero =>
  intro listed v a w hm h0 _
  exact⟨h0 rfl,fin listed v a w hm (h0 rfl)⟩
 | succ fuel ih =>
  intro listed v a w hm _ hcount
  refine⟨fin listed v a w hm,fun i hi=>?_⟩
  obtain⟨hlt,hnl,o,ho,haft⟩:=M7 hi
  have hlsz:i<listed.size:=by rw[hm.ls];exact hlt
  have hnl':listed.getD i false=false:=by simpa [Array.getD,hlsz] using hnl
  obtain⟨g1,g2,g3⟩:=hpa i o (by simpa using ho)
  have hstep:=hsteps.at i o (by simpa using ho)
  rw[Nat.zero_add] at hstep
  have hout:∀ t,some t∉D->a.eval (.tmp t)=a0.eval (.tmp t):=fun t ht=>hm.out t (fun j _ hj=>ht (List.mem_of_getElem? hj))
  have hdeps:RE D G a w o.after.toList:=RE.mk fun e he hb d hd=>by
   have hl:=haft e he hb
   have hlt':=hback i o ho e he hb
   have hDe:D[e.on]? = some (some d):=by
    have hlt2:e.on<D.length:=by rw[hlen];omega
    simp only[List.getD,List.getElem?_eq_getElem hlt2,Option.getD_some] at hd
    rw[List.getElem?_eq_getElem hlt2,hd]
   have:=hm.here e.on d hl hDe
   show G e.on (a.tmps.getD d undef) w
   rw[this];exact hm.good e.on hl
  obtain⟨s1,s2⟩:=hstep a w hm.rel hout hdeps
  -- what is left when it answers x in the world w'
  have next:∀ (x:Value) (w':World),G i x w'->R w w'->wpAny P .any ops Q fuel (listed.setIfInBounds i true) (a.put o.dst x) w':=by
   intro x w' hG hR
   have hcnt:(List.range ops.size).countP (fun j => !(listed.setIfInBounds i true).getD j false)<=fuel:=by
    have h1:(List.range ops.size).countP (fun j => !(listed.setIfInBounds i true).getD j false)<(List.range ops.size).countP (fun j => !listed.getD j false):=by
     have hmemi:i∈List.range ops.size:=by simpa using hlt
     have key:∀ (l:List Nat),i∈l->(∀ j,(!(listed.setIfInBounds i true).getD j false)=true->(!listed.getD j false)=true)->l.countP (fun j => !(listed.setIfInBounds i true).getD j false)<l.countP (fun j => !listed.getD j false):=by
      intro l
      induction l with
      | nil=>intro h;cases h
      | cons y r ihl =>
       intro hy himp
       have hle:r.countP (fun j => !(listed.setIfInBounds i true).getD j false)<=r.countP (fun j => !listed.getD j false):=List.countP_mono_left fun j _ hj=>himp j hj
       by_cases hyi:y=i
       ·subst hyi
        have e1:(!(listed.setIfInBounds y true).getD y false)=false:=by rw[Lw _ _ _ hlsz,if_pos rfl];rfl
        have e2:(!listed.getD y false)=true:=by rw[hnl'];rfl
        rw[List.countP_cons,List.countP_cons]
        simp only[e1,e2,if_true,Bool.false_eq_true,if_false]
        omega
       ·have hir:i∈r:=by
         rcases List.mem_cons.1 hy with h|h
         ·exact absurd h.symm hyi
         ·exact h
        have:=ihl hir himp
        rw[List.countP_cons,List.countP_cons]
        have e3:(listed.setIfInBounds i true).getD y false=listed.getD y false:=by rw[Lw _ _ _ hlsz,if_neg hyi]
        rw[e3];omega
     refine key _ hmemi fun j hj=>?_
     rw[Lw _ _ _ hlsz] at hj
     by_cases hji:j=i
     ·rw[if_pos hji] at hj;cases hj
     ·rwa [if_neg hji] at hj
    omega
   have hmid:Mid ops R D G a0 w0 (fun j=>if j=i then x else v j) (listed.setIfInBounds i true) (a.put o.dst x) w':=by
    refine⟨?_,by simpa using hm.ls,?_,htr _ _ _ hm.rel hR,?_,?_,?_⟩
    ·rw[← hm.size];cases o.dst <;> simp[Act.put]
    ·rw[← hm.defers];cases o.dst <;> rfl
    ·intro t ht
     have hold:=hm.out t (fun j hj=>ht j (by rw[Lw _ _ _ hlsz];split <;> first|rfl|exact hj))
     have hne:o.dst≠some t:=by
      intro e
      exact ht i (by rw[Lw _ _ _ hlsz,if_pos rfl]) (by rw[g1,e])
     rw[← hold]
     cases hd:o.dst with
     | none=>rfl
     | some d =>
      have:d≠t:=fun e=>hne (by rw[hd,e])
      simp only[Act.put,Array.getD_eq_getD_getElem?,Array.getElem?_setIfInBounds_ne this]
    ·intro j d hj hD
     by_cases hji:j=i
     ·subst hji
      have hd:o.dst=some d:=by rw[g1] at hD;exact Option.some.inj hD
      have hsz:d<a.tmps.size:=by rw[hm.size];exact(g2 d hd).1
      simp[hd,Act.put,Array.getD_eq_getD_getElem?,hsz]
     ·rw[Lw _ _ _ hlsz,if_neg hji] at hj
      have hold:=hm.here j d hj hD
      rw[if_neg hji,← hold]
      cases hd:o.dst with
      | none=>rfl
      | some y =>
       have hne:y≠d:=by
        rintro rfl
        rw[hd] at g1
        rcases Nat.lt_or_gt_of_ne hji with hlt2|hgt2
        ·have hjs:j<ops.size:=by rw[← hlen];exact(List.getElem?_eq_some_iff.1 hD).1
         obtain⟨k1,k2,_⟩:=hpa j ops[j] (by simp[hjs])
         have hdst:ops[j].dst=some y:=by rw[hD] at k1;exact(Option.some.inj k1).symm
         exact(k2 y hdst).2 i hlt2 g1
        ·exact(g2 y hd).2 j hgt2 hD
       simp only[Act.put,Array.getD_eq_getD_getElem?,Array.getElem?_setIfInBounds_ne hne]
    ·intro j hj
     by_cases hji:j=i
     ·subst hji;simpa using hG
     ·rw[Lw _ _ _ hlsz,if_neg hji] at hj
      simp only[if_neg hji]
      exact hst _ _ _ _ (hm.good j hj) hR
   refine ih _ _ _ _ hmid ?_ hcnt
   intro hz
   subst hz
   have hz0:(List.range ops.size).countP (fun j => !(listed.setIfInBounds i true).getD j false)=0:=by omega
   rw[List.countP_eq_zero] at hz0
   cases hr:Region.ready .any ops (listed.setIfInBounds i true) with
   | nil=>rfl
   | cons y r =>
    have hy:y∈Region.ready .any ops (listed.setIfInBounds i true):=by rw[hr];simp
    obtain⟨q1,q2,_⟩:=M7 hy
    have:=hz0 y (by simpa using q1)
    have hys:y<(listed.setIfInBounds i true).size:=by simp[hm.ls];exact q1
    have q3:(listed.setIfInBounds i true).getD y false=false:=by rw[← Pi _ y hys];exact q2
    rw[q3] at this
    exact absurd rfl this
  have hwant:Region.wanted o (yielded ops a.tmps)=PW D o a:=by
   unfold Region.wanted PW
   cases hg:o.guard with
   | none=>rfl
   | some p =>
    obtain⟨j,want⟩:=p
    simp only[yielded]
    by_cases hj:j<ops.size
    ·obtain⟨k1,k2,_⟩:=hpa j ops[j] (by simp[hj])
     have hDj:D.getD j none=ops[j].dst:=by simp[List.getD,k1]
     rw[hDj]
     simp only[Array.getElem?_eq_getElem hj,Option.bind_some]
     cases hd:ops[j].dst with
     | none=>simp
     | some d =>
      have hsz:d<a.tmps.size:=by rw[hm.size];exact(k2 d hd).1
      simp only[Option.bind_some,Array.getElem?_eq_getElem hsz]
      have he:a.eval (.tmp d)=a.tmps[d]:=by simp[Act.eval,Array.getD,hsz]
      rw[he]
      cases a.tmps[d] <;> simp
    ·have hDj:D.getD j none=none:=by simp[List.getD,List.getElem?_eq_none (show D.length<=j by omega)]
     rw[hDj]
     simp[Array.getElem?_eq_none (show ops.size<=j by omega)]
  unfold wpOp
  rw[ho]
  simp only[hwant]
  cases hgo:PW D o a with
  | true =>
   simp only[if_true]
   refine .inl (Lj.wp ?_)
   have:=s1 hgo
   revert this
   unfold Lj
   generalize (execOp a.eval o).run P w=res
   intro h
   cases res with
   | ok n w' =>
    cases n <;> simp only at h ⊢ <;> first
     | exact next _ _ h.1 h.2
     | exact h.elim
     | exact Calls.mono h (fun e w'' ⟨y,he,hk⟩=>⟨y,he,next _ _ hk.1 hk.2⟩)
   | halt y w'=>exact h.elim
  | false =>
   simp only[Bool.false_eq_true,if_false]
   exact next undef w (s2 hgo) (hrf w)
theorem Vm{P:Program}{id:Nat}{ops:Array Oper}{Q:Exit->Act->World->Prop}{a0:Act}{w0:World}(R:World->World->Prop)(D:List (Option Tmp))(G:Nat->Value->World->Prop)
  (hm:P.follows .mixedOrders=true) (hpl:plain a0.tmps.size 0 D ops.toList=true) (hrf:∀ a,R a a) (htr:∀ a b c,R a b->R b c->R a c) (hdr:R w0 w0.drew) (hst:∀ i v w w',G i v w->R w w'->G i v w')
  (hsteps:Steps P R D G a0 w0 0 ops.toList)
  (hend:∀ (v:Nat->Value) (w:World),R w0 w->(∀ i,i<ops.size->G i (v i) w)->Q .normal (Mr v 0 D a0) w):(Code.region id ops true).wp P Q a0 w0:=by
 refine wp_region_any hm ?_
 have hno:∀ j,(Array.replicate ops.size false).getD j false=false:=by
  intro j
  by_cases h:j<ops.size <;> simp[Array.getD,h]
 refine Yn R D G hpl hrf htr hst hsteps hend ops.size _ (fun _=>undef) a0 _ ⟨rfl,by simp,rfl,hdr,fun _ _=>rfl,fun j _ hj=>?_,fun j hj=>?_⟩ ?_ ?_
 ·rw[hno] at hj;cases hj
 ·rw[hno] at hj;cases hj
 ·intro h0
  cases hr:Region.ready .any ops (Array.replicate ops.size false) with
  | nil=>rfl
  | cons y r =>
   have hy:y∈Region.ready .any ops (Array.replicate ops.size false):=by rw[hr];simp
   have:=(M7 hy).1
   omega
 ·exact Nat.le_trans (List.countP_le_length) (by simp)
structure Pd where
  says:Value->World->Prop
  stays:∀ v w w',says v w->KP (fun _=>False) w w'->says v w'
def Pd.any:Pd:=⟨fun _ _=>True,fun _ _ _ _ _=>trivial⟩
def Pd.eq(c:Value):Pd:=⟨fun v _=>v=c,fun _ _ _ h _=>h⟩
def QU(Gs:List Pd)(i:Nat)(v:Value)(w:World):Prop:=(Gs.getD i Pd.any).says v w
theorem U4{P:Program}{id:Nat}{ops:Array Oper}{Q:Exit->Act->World->Prop}{a0:Act}{w0:World}(D:List (Option Tmp))(Gs:List Pd)
  (hm:P.follows .mixedOrders=true) (hpl:plain a0.tmps.size 0 D ops.toList=true)
  (hsteps:Steps P (KP (fun _=>False)) D (QU Gs) a0 w0 0 ops.toList)
  (hend:∀ (v:Nat->Value) (w:World),KP (fun _=>False) w0 w->(∀ i,i<ops.size->QU Gs i (v i) w)->Q .normal (Mr v 0 D a0) w):(Code.region id ops true).wp P Q a0 w0 :=
 Vm (KP (fun _=>False)) D (QU Gs) hm hpl (fun a=>KP.refl _ a) (fun _ _ _ h k=>h.trans k (fun _ _ x=>x)) (KP.refl _ _).drew (fun i _ _ _ h k=>(Gs.getD i Pd.any).stays _ _ _ h k) hsteps hend
end Go.Proofs.YtknjpdcpmpfklaaGreatDoor
set_option maxRecDepth 100000
namespace Go.Proofs.YtknjpdcpmpfklaaGreatDoor
open Go.RowKit
def S7(o:Oper)(j:Nat):Bool:=o.after.toList.any fun e=>Region.binds .any e && e.on==j
def SM(os:List Oper)(n:Nat):Bool :=
 decide (n<os.length) &&
 ((List.range n).all fun i=>(List.range (n+1)).any fun j=>decide (i<j) && (os[j]?.any fun o=>S7 o i)) &&
 ((List.range os.length).all fun j => !decide (n<j) || (os[j]?.any fun o=>S7 o (j-1))) &&
 ((List.range os.length).all fun j=>os[j]?.all fun o=>o.after.toList.all fun e => !Region.binds .any e || decide (e.on<j)) &&
 ((List.range n).all fun j=>os[j]?.all fun o=>match o.guard with|none=>true|some g=>decide (g.1<n))
structure Vw (ops:Array Oper) (n:Nat):Prop where
  lt:n<ops.size
  cov:∀ i,i<n->∃ j o,i<j/\j<=n/\ops[j]? = some o/\∃ e∈o.after.toList,Region.binds .any e=true/\e.on=i
  line:∀ j o,n<j->ops[j]? = some o->∃ e∈o.after.toList,Region.binds .any e=true/\e.on=j-1
  back:∀ (k:Nat) (o:Oper),ops[k]? = some o->∀ e∈o.after.toList,Region.binds .any e=true->e.on<k
  guards:∀ (k:Nat) (o:Oper),k<n->ops[k]? = some o->∀ g,o.guard=some g->g.1<n
theorem Sa{o:Oper}{j:Nat}:S7 o j=true ↔ ∃ e∈o.after.toList,Region.binds .any e=true/\e.on=j:=by
 unfold S7
 rw[List.any_eq_true]
 constructor
 ·rintro ⟨e,he,h⟩;simp only[Bool.and_eq_true,beq_iff_eq] at h;exact⟨e,he,h.1,h.2⟩
 ·rintro ⟨e,he,h1,h2⟩;exact⟨e,he,by simp[h1,h2]⟩
theorem SJ{ops:Array Oper}{n:Nat}(h:SM ops.toList n=true):Vw ops n:=by
 unfold SM at h
 simp only[Bool.and_eq_true,decide_eq_true_eq,List.all_eq_true,List.mem_range] at h
 obtain⟨⟨⟨⟨h1,h2⟩,h3⟩,h4⟩,h5⟩:=h
 refine⟨by simpa using h1,fun i hi=>?_,fun j o hj ho=>?_,fun k o hk e he hb=>?_,fun k o hkn hk g hg=>?_⟩
 ·obtain⟨j,hj,h⟩:=List.any_eq_true.1 (h2 i hi)
  have hj':j<n+1:=by simpa using hj
  simp only[Bool.and_eq_true,decide_eq_true_eq] at h
  cases ho:ops.toList[j]? with
  | none=>rw[ho] at h;simp at h
  | some o =>
   rw[ho] at h
   exact⟨j,o,h.1,by omega,by simpa using ho,Sa.1 (by simpa using h.2)⟩
 ·have hlt:j<ops.toList.length:=by have:=(Array.getElem?_eq_some_iff.1 ho).1;simpa using this
  have h:=h3 j hlt
  have ho':ops.toList[j]? = some o:=by simpa using ho
  rw[ho'] at h
  simp only[hj,decide_true,Bool.not_true,Bool.false_or,Option.any_some] at h
  exact Sa.1 h
 ·have hlt:k<ops.toList.length:=by have:=(Array.getElem?_eq_some_iff.1 hk).1;simpa using this
  have h:=h4 k hlt
  have ho':ops.toList[k]? = some o:=by simpa using hk
  rw[ho'] at h
  simp only[Option.all_some] at h
  have:=List.all_eq_true.1 h e he
  simpa [hb] using this
 ·have h:=h5 k hkn
  have ho':ops.toList[k]? = some o:=by simpa using hk
  rw[ho'] at h
  simp only[Option.all_some,hg] at h
  simpa using h
theorem Ye{ops:Array Oper}{listed:Array Bool}{i:Nat}{o:Oper}(hi:i<ops.size)(hls:listed.size=ops.size)(hl:listed.getD i false=false)(ho:ops[i]? = some o)
  (h:∀ e∈o.after.toList,Region.binds .any e=true->listed.getD e.on false=true):i∈Region.ready .any ops listed:=by
 unfold Region.ready
 refine List.mem_filter.2 ⟨by simpa using hi,?_⟩
 have hl2:listed.getD i true=false:=by
  have:i<listed.size:=by omega
  simpa [Array.getD,this] using hl
 simp only[hl2,ho,Option.map_some,Option.getD_some,Bool.not_false,Bool.true_and]
 refine Array.all_eq_true'.2 fun e he=>?_
 cases hbe:Region.binds .any e with
 | false=>rfl
 | true =>
  have:=h e (by simpa using he) hbe
  simp only[this,Bool.or_true]
theorem YT{P:Program}{ops:Array Oper}{Q:Exit->Act->World->Prop}{n:Nat}(T:Vw ops n) :
  ∀ (fuel k:Nat) (listed:Array Bool) (a:Act) (w:World),n<=k->k<=ops.size->ops.size-k<=fuel->listed.size=ops.size->(∀ j,j<k->listed.getD j false=true)->(∀ j,k<=j->listed.getD j false=false) →
   wpList P ops Q (ops.toList.drop k) a w->wpAny P .any ops Q fuel listed a w:=by
 have none_ready:∀ (listed:Array Bool),listed.size=ops.size->(∀ j,j<ops.size->listed.getD j false=true)->Region.ready .any ops listed=[]:=by
  intro listed hls hall
  cases hr:Region.ready .any ops listed with
  | nil=>rfl
  | cons y r =>
   have hy:y∈Region.ready .any ops listed:=by rw[hr];simp
   obtain⟨q1,q2,_⟩:=M7 hy
   have h1:=hall y q1
   rw[Pi _ y (by omega)] at q2
   rw[q2] at h1;cases h1
 intro fuel
 induction fuel with
 | zero =>
  intro k listed a w hn hk hf hls h1 h2 hw
  have hke:k=ops.size:=by omega
  subst hke
  rw[List.drop_of_length_le (by simp)] at hw
  exact⟨none_ready listed hls h1,hw⟩
 | succ fuel ih =>
  intro k listed a w hn hk hf hls h1 h2 hw
  by_cases hke:k=ops.size
  ·subst hke
   rw[List.drop_of_length_le (by simp)] at hw
   have hr:=none_ready listed hls h1
   exact⟨fun _=>hw,fun i hi=>by rw[hr] at hi;cases hi⟩
  ·have hlt:k<ops.size:=by omega
   have hok:ops[k]? = some ops[k]:=by simp[hlt]
   have hdrop:ops.toList.drop k=ops[k]::ops.toList.drop (k+1):=by
    rw[List.drop_eq_getElem_cons (by simpa using hlt)];simp
   rw[hdrop] at hw
   have hrk:k∈Region.ready .any ops listed:=Ye hlt hls (h2 k (Nat.le_refl _)) hok fun e he hb=>h1 _ (T.back k _ hok e he hb)
   refine⟨fun hr=>(by rw[hr] at hrk;cases hrk),fun i hi=>?_⟩
   obtain⟨q1,q2,o,ho,haft⟩:=M7 hi
   rw[Pi _ i (by omega)] at q2
   have hik:i=k:=by
    rcases Nat.lt_trichotomy i k with h|h|h
    ·rw[h1 i h] at q2;cases q2
    ·exact h
    ·obtain⟨e,he,hb,hon⟩:=T.line i o (by omega) ho
     have:=haft e he hb
     rw[hon,h2 (i-1) (by omega)] at this;cases this
   subst hik
   have next:∀ (a':Act) (w':World),wpList P ops Q (ops.toList.drop (i+1)) a' w'->wpAny P .any ops Q fuel (listed.setIfInBounds i true) a' w':=by
    intro a' w' h'
    have hlsz:i<listed.size:=by omega
    refine ih (i+1) _ a' w' (by omega) (by omega) (by omega) (by simpa using hls) (fun j hj=>?_) (fun j hj=>?_) h'
    ·rw[Lw _ _ _ hlsz];split
     ·rfl
     ·exact h1 j (by omega)
    ·rw[Lw _ _ _ hlsz,if_neg (by omega)];exact h2 j (by omega)
   unfold wpList at hw
   unfold wpOp
   rw[hok]
   simp only
   split at hw
   ·rw[if_pos ‹_›]
    rcases hw with h|h
    ·exact .inl (Oper.wp_mono next h)
    ·exact .inr h
   ·rw[if_neg ‹_›]
    exact next _ _ hw
theorem VH{P:Program}{ops:Array Oper}{Q:Exit->Act->World->Prop}{a0:Act}{w0:World}(n:Nat)(T:Vw ops n)(R:World->World->Prop)(D:List (Option Tmp))(G:Nat->Value->World->Prop)
  (hpl:plain a0.tmps.size 0 D (ops.toList.take n)=true) (hrf:∀ a,R a a) (htr:∀ a b c,R a b->R b c->R a c) (hst:∀ i v w w',G i v w->R w w'->G i v w') (hsteps:Steps P R D G a0 w0 0 (ops.toList.take n))
  (hend:∀ (v:Nat->Value) (w:World),R w0 w->(∀ i,i<n->G i (v i) w)->wpList P ops Q (ops.toList.drop n) (Mr v 0 D a0) w) :
  ∀ (fuel:Nat) (listed:Array Bool) (v:Nat->Value) (a:Act) (w:World),Mid ops R D G a0 w0 v listed a w →
   (∀ (k:Nat) (o:Oper),ops[k]? = some o->listed.getD k false=true->∀ e∈o.after.toList,Region.binds .any e=true->listed.getD e.on false=true)->(∀ j,n<=j->listed.getD j false=false) →
   (List.range ops.size).countP (fun i => !listed.getD i false)<=fuel->wpAny P .any ops Q fuel listed a w:=by
 have hlt0:=T.lt
 obtain⟨hDl,hpa'⟩:=RQ hpl
 have hlen:D.length=n:=by
  have:D.length=min n ops.size:=by simpa using hDl
  omega
 have hpa:∀ k o,k<n->ops.toList[k]? = some o->D[k]? = some o.dst/\(∀ d,o.dst=some d->d<a0.tmps.size/\∀ j,k<j->D[j]? ≠ some (some d)):=by
  intro k o hk ho
  have h:=hpa' k o (by rw[List.getElem?_take,if_pos hk];exact ho)
  exact⟨h.1,h.2.1⟩
 have hback:=T.back
 have fin:∀ (listed:Array Bool) (v:Nat->Value) (a:Act) (w:World),Mid ops R D G a0 w0 v listed a w->(∀ i,i<n->listed.getD i false=true)->wpList P ops Q (ops.toList.drop n) a w:=by
  intro listed v a w hm hall
  have hp:=O3 v D 0 a0
  have ha:a=Mr v 0 D a0:=by
   have ht:a.tmps=(Mr v 0 D a0).tmps:=by
    apply Array.ext
    ·rw[hm.size,hp.1]
    ·intro t h1 h2
     have e:a.tmps.getD t undef=(Mr v 0 D a0).tmps.getD t undef:=by
      by_cases hmem:some t∈D
      ·obtain⟨j,hj⟩:=List.mem_iff_getElem?.1 hmem
       have hjs:j<n:=by rw[← hlen];exact(List.getElem?_eq_some_iff.1 hj).1
       have hjo:j<ops.size:=by omega
       obtain⟨g1,g2⟩:=hpa j ops[j] hjs (by simp[hjo])
       have hdst:ops[j].dst=some t:=by rw[hj] at g1;exact(Option.some.inj g1).symm
       obtain⟨k1,k2⟩:=g2 t hdst
       rw[hm.here j t (hall j hjs) hj,hp.2.2.2 j t hj k2 k1,Nat.zero_add]
      ·rw[hp.2.2.1 t hmem,hm.out t (fun j _ hj=>hmem (List.mem_of_getElem? hj))]
     simpa [Array.getD_eq_getD_getElem?,h1,h2] using e
   have hd:a.defers=(Mr v 0 D a0).defers:=by rw[hm.defers,hp.2.1]
   cases a
   cases hq:Mr v 0 D a0
   rw[hq] at ht hd
   simp only at ht hd
   rw[ht,hd]
  rw[ha]
  exact hend v w hm.rel (fun i hi=>hm.good i (hall i hi))
 intro fuel
 induction fuel with
 | zero =>
  intro listed v a w hm _ htl hcount
  exfalso
  have hz:(List.range ops.size).countP (fun i => !listed.getD i false)=0:=by omega
  rw[List.countP_eq_zero] at hz
  have:=hz n (by simpa using hlt0)
  rw[htl n (Nat.le_refl _)] at this
  exact this rfl
 | succ fuel ih =>
  intro listed v a w hm hcl htl hcount
  refine⟨fun hr=>?_,fun i hi=>?_⟩
  ·have:=Qe hback hr hm.ls n hlt0
   rw[htl n (Nat.le_refl _)] at this;cases this
  obtain⟨hlt,hnl,o,ho,haft⟩:=M7 hi
  have hlsz:i<listed.size:=by rw[hm.ls];exact hlt
  have hnl':listed.getD i false=false:=by simpa [Array.getD,hlsz] using hnl
  have hin:i<=n:=by
   rcases Nat.lt_or_ge n i with h|h
   ·obtain⟨e,he,hb,hon⟩:=T.line i o h ho
    have:=haft e he hb
    rw[hon,htl (i-1) (by omega)] at this;cases this
   ·exact h
  by_cases hine:i=n
  ·-- all others are done
   have hall:∀ j,j<n->listed.getD j false=true:=by
    suffices h:∀ m j,j+m=n->j<n->listed.getD j false=true by
     intro j hj;exact h (n-j) j (by omega) hj
    intro m
    induction m using Nat.strongRecOn with
    | _ m ihm =>
     intro j hm2 hj
     obtain⟨j',o',h1,h2,h3,e,he,hb,hon⟩:=T.cov j hj
     by_cases hj':j'=n
     ·subst hj'
      rw[← hine] at h3
      rw[ho] at h3
      cases h3
      rw[← hon];exact haft e he hb
     ·have hl:=ihm (n-j') (by omega) j' (by omega) (by omega)
      rw[← hon];exact hcl j' o' h3 hl e he hb
   have hw:=fin listed v a w hm hall
   have hfu:ops.size-n<=fuel+1:=by
    have hle:(List.range' n (ops.size-n)).countP (fun i => !listed.getD i false)<=(List.range ops.size).countP (fun i => !listed.getD i false):=by
     apply List.Sublist.countP_le
     rw[List.range_eq_range',show ops.size=n+(ops.size-n) by omega,← List.range'_append_1]
     simp
    have he:(List.range' n (ops.size-n)).countP (fun i => !listed.getD i false)=ops.size-n:=by
     rw[List.countP_eq_length.2]
     ·simp
     ·intro x hx
      have:=(List.mem_range'_1.1 hx).1
      rw[htl x this];rfl
    omega
   have hall2:=YT (P:=P) (Q:=Q) T (fuel+1) n listed a w (Nat.le_refl _) (by omega) hfu hm.ls hall htl hw
   exact hall2.2 i hi
  have hin':i<n:=by omega
  obtain⟨g1,g2⟩:=hpa i o hin' (by simpa using ho)
  have hstep:=hsteps.at i o (by rw[List.getElem?_take,if_pos hin'];simpa using ho)
  rw[Nat.zero_add] at hstep
  have hout:∀ t,some t∉D->a.eval (.tmp t)=a0.eval (.tmp t):=fun t ht=>hm.out t (fun j _ hj=>ht (List.mem_of_getElem? hj))
  have hdeps:RE D G a w o.after.toList:=RE.mk fun e he hb d hd=>by
   have hl:=haft e he hb
   have hlt':=hback i o ho e he hb
   have hDe:D[e.on]? = some (some d):=by
    have hlt2:e.on<D.length:=by rw[hlen];omega
    simp only[List.getD,List.getElem?_eq_getElem hlt2,Option.getD_some] at hd
    rw[List.getElem?_eq_getElem hlt2,hd]
   have:=hm.here e.on d hl hDe
   show G e.on (a.tmps.getD d undef) w
   rw[this];exact hm.good e.on hl
  obtain⟨s1,s2⟩:=hstep a w hm.rel hout hdeps
  -- what is left when it answers x in the world w'
  have next:∀ (x:Value) (w':World),G i x w'->R w w'->wpAny P .any ops Q fuel (listed.setIfInBounds i true) (a.put o.dst x) w':=by
   intro x w' hG hR
   have hcnt:(List.range ops.size).countP (fun j => !(listed.setIfInBounds i true).getD j false)<=fuel:=by
    have h1:(List.range ops.size).countP (fun j => !(listed.setIfInBounds i true).getD j false)<(List.range ops.size).countP (fun j => !listed.getD j false):=by
     have hmemi:i∈List.range ops.size:=by simpa using hlt
     have key:∀ (l:List Nat),i∈l->(∀ j,(!(listed.setIfInBounds i true).getD j false)=true->(!listed.getD j false)=true)->l.countP (fun j => !(listed.setIfInBounds i true).getD j false)<l.countP (fun j => !listed.getD j false):=by
      intro l
      induction l with
      | nil=>intro h;cases h
      | cons y r ihl =>
       intro hy himp
       have hle:r.countP (fun j => !(listed.setIfInBounds i true).getD j false)<=r.countP (fun j => !listed.getD j false):=List.countP_mono_left fun j _ hj=>himp j hj
       by_cases hyi:y=i
       ·subst hyi
        have e1:(!(listed.setIfInBounds y true).getD y false)=false:=by rw[Lw _ _ _ hlsz,if_pos rfl];rfl
        have e2:(!listed.getD y false)=true:=by rw[hnl'];rfl
        rw[List.countP_cons,List.countP_cons]
        simp only[e1,e2,if_true,Bool.false_eq_true,if_false]
        omega
       ·have hir:i∈r:=by
         rcases List.mem_cons.1 hy with h|h
         ·exact absurd h.symm hyi
         ·exact h
        have:=ihl hir himp
        rw[List.countP_cons,List.countP_cons]
        have e3:(listed.setIfInBounds i true).getD y false=listed.getD y false:=by rw[Lw _ _ _ hlsz,if_neg hyi]
        rw[e3];omega
     refine key _ hmemi fun j hj=>?_
     rw[Lw _ _ _ hlsz] at hj
     by_cases hji:j=i
     ·rw[if_pos hji] at hj;cases hj
     ·rwa [if_neg hji] at hj
    omega
   have hmid:Mid ops R D G a0 w0 (fun j=>if j=i then x else v j) (listed.setIfInBounds i true) (a.put o.dst x) w':=by
    refine⟨?_,by simpa using hm.ls,?_,htr _ _ _ hm.rel hR,?_,?_,?_⟩
    ·rw[← hm.size];cases o.dst <;> simp[Act.put]
    ·rw[← hm.defers];cases o.dst <;> rfl
    ·intro t ht
     have hold:=hm.out t (fun j hj=>ht j (by rw[Lw _ _ _ hlsz];split <;> first|rfl|exact hj))
     have hne:o.dst≠some t:=by
      intro e
      exact ht i (by rw[Lw _ _ _ hlsz,if_pos rfl]) (by rw[g1,e])
     rw[← hold]
     cases hd:o.dst with
     | none=>rfl
     | some d =>
      have:d≠t:=fun e=>hne (by rw[hd,e])
      simp only[Act.put,Array.getD_eq_getD_getElem?,Array.getElem?_setIfInBounds_ne this]
    ·intro j d hj hD
     by_cases hji:j=i
     ·subst hji
      have hd:o.dst=some d:=by rw[g1] at hD;exact Option.some.inj hD
      have hsz:d<a.tmps.size:=by rw[hm.size];exact(g2 d hd).1
      simp[hd,Act.put,Array.getD_eq_getD_getElem?,hsz]
     ·rw[Lw _ _ _ hlsz,if_neg hji] at hj
      have hold:=hm.here j d hj hD
      rw[if_neg hji,← hold]
      cases hd:o.dst with
      | none=>rfl
      | some y =>
       have hne:y≠d:=by
        rintro rfl
        rw[hd] at g1
        rcases Nat.lt_or_gt_of_ne hji with hlt2|hgt2
        ·have hjn:j<n:=by rw[← hlen];exact(List.getElem?_eq_some_iff.1 hD).1
         have hjs:j<ops.size:=by omega
         obtain⟨k1,k2⟩:=hpa j ops[j] hjn (by simp[hjs])
         have hdst:ops[j].dst=some y:=by rw[hD] at k1;exact(Option.some.inj k1).symm
         exact(k2 y hdst).2 i hlt2 g1
        ·exact(g2 y hd).2 j hgt2 hD
       simp only[Act.put,Array.getD_eq_getD_getElem?,Array.getElem?_setIfInBounds_ne hne]
    ·intro j hj
     by_cases hji:j=i
     ·subst hji;simpa using hG
     ·rw[Lw _ _ _ hlsz,if_neg hji] at hj
      simp only[if_neg hji]
      exact hst _ _ _ _ (hm.good j hj) hR
   refine ih _ _ _ _ hmid ?_ ?_ hcnt
   ·intro k o' hk hl e he hb
    rw[Lw _ _ _ hlsz] at hl ⊢
    by_cases hee:e.on=i
    ·rw[if_pos hee]
    ·rw[if_neg hee]
     by_cases hki:k=i
     ·subst hki
      rw[ho] at hk
      cases hk
      exact haft e he hb
     ·rw[if_neg hki] at hl
      exact hcl k o' hk hl e he hb
   ·intro j hj
    rw[Lw _ _ _ hlsz,if_neg (by omega)];exact htl j hj
  have hwant:Region.wanted o (yielded ops a.tmps)=PW D o a:=by
   unfold Region.wanted PW
   cases hg:o.guard with
   | none=>rfl
   | some p =>
    obtain⟨j,want⟩:=p
    simp only[yielded]
    by_cases hj:j<n
    ·have hjo:j<ops.size:=by omega
     obtain⟨k1,k2⟩:=hpa j ops[j] hj (by simp[hjo])
     have hDj:D.getD j none=ops[j].dst:=by simp[List.getD,k1]
     rw[hDj]
     simp only[Array.getElem?_eq_getElem hjo,Option.bind_some]
     cases hd:ops[j].dst with
     | none=>simp
     | some d =>
      have hsz:d<a.tmps.size:=by rw[hm.size];exact(k2 d hd).1
      simp only[Option.bind_some,Array.getElem?_eq_getElem hsz]
      have he:a.eval (.tmp d)=a.tmps[d]:=by simp[Act.eval,Array.getD,hsz]
      rw[he]
      cases a.tmps[d] <;> simp
    ·exact absurd (T.guards i o hin' ho _ hg) hj
  unfold wpOp
  rw[ho]
  simp only[hwant]
  cases hgo:PW D o a with
  | true =>
   simp only[if_true]
   refine .inl (Lj.wp ?_)
   have:=s1 hgo
   revert this
   unfold Lj
   generalize (execOp a.eval o).run P w=res
   intro h
   cases res with
   | ok n w' =>
    cases n <;> simp only at h ⊢ <;> first
     | exact next _ _ h.1 h.2
     | exact h.elim
     | exact Calls.mono h (fun e w'' ⟨y,he,hk⟩=>⟨y,he,next _ _ hk.1 hk.2⟩)
   | halt y w'=>exact h.elim
  | false =>
   simp only[Bool.false_eq_true,if_false]
   exact next undef w (s2 hgo) (hrf w)
theorem U3{P:Program}{id:Nat}{ops:Array Oper}{Q:Exit->Act->World->Prop}{a0:Act}{w0:World}(n:Nat)(D:List (Option Tmp))(Gs:List Pd)
  (hm:P.follows .mixedOrders=true) (hta:SM ops.toList n=true) (hpl:plain a0.tmps.size 0 D (ops.toList.take n)=true)
  (hsteps:Steps P (KP (fun _=>False)) D (QU Gs) a0 w0 0 (ops.toList.take n))
  (hend:∀ (v:Nat->Value) (w:World),KP (fun _=>False) w0 w->(∀ i,i<n->QU Gs i (v i) w)->wpList P ops Q (ops.toList.drop n) (Mr v 0 D a0) w):(Code.region id ops true).wp P Q a0 w0:=by
 refine wp_region_any hm ?_
 have T:=SJ hta
 have hno:∀ j,(Array.replicate ops.size false).getD j false=false:=by
  intro j
  by_cases h:j<ops.size <;> simp[Array.getD,h]
 refine VH n T (KP (fun _=>False)) D (QU Gs) hpl (fun a=>KP.refl _ a) (fun _ _ _ h k=>h.trans k (fun _ _ x=>x)) (fun i _ _ _ h k=>(Gs.getD i Pd.any).stays _ _ _ h k) hsteps hend ops.size _ (fun _=>undef) a0 _ ⟨rfl,by simp,rfl,(KP.refl _ _).drew,fun _ _=>rfl,fun j _ hj=>?_,fun j hj=>?_⟩ ?_ ?_ ?_
 ·rw[hno] at hj;cases hj
 ·rw[hno] at hj;cases hj
 ·intro k o _ hl;rw[hno] at hl;cases hl
 ·intro j _;exact hno j
 ·exact Nat.le_trans (List.countP_le_length) (by simp)
end Go.Proofs.YtknjpdcpmpfklaaGreatDoor
set_option maxRecDepth 100000
namespace Go.Proofs.YtknjpdcpmpfklaaGreatDoor
open Go.RowKit
section
variable {P:Program} {ρ:Operand->Value} {o:Oper} {w:World} {R:Value->World->Prop}
theorem MS{v:Value}{w':World}(h:(execOp ρ o).run P w = .ok (.value v) w')(hR:R v w'):Lj P ρ o w R:=by
 unfold Lj;rw[h];exact hR
theorem aCC{x:Operand}(ho:o.op = .move x)(h:R (ρ x) w):Lj P ρ o w R:=MS (by simp[execOp,ho]) h
theorem aAS{x:Operand}(ho:o.op = .assign x)(h:R (ρ x) w):Lj P ρ o w R:=MS (by simp[execOp,ho]) h
theorem Xs{c x y:Operand}(ho:o.op = .pick c x y)(hc:ρ c = .bool true)(h:R (ρ x) w):Lj P ρ o w R:=MS (by simp[execOp,ho,hc,asBool]) h
theorem WL{c x y:Operand}(ho:o.op = .pick c x y)(hc:ρ c = .bool false)(h:R (ρ y) w):Lj P ρ o w R:=MS (by simp[execOp,ho,hc,asBool]) h
theorem Z4{t t':TypeId}{k:IntKind}{x y:Operand}{m n:Int}(ho:o.op = .binOp .eql t x y t')(hx:ρ x = .int k m)(hy:ρ y = .int k n)(h:R (.bool (m==n)) w):Lj P ρ o w R :=
 MS (by simp[execOp,ho,hx,hy,go_sem]) h
theorem Y7{t t':TypeId}{x y:Operand}{m n:ByteArray}(ho:o.op = .binOp .eql t x y t')(hx:ρ x = .string m)(hy:ρ y = .string n)(h:R (.bool (m.toList==n.toList)) w):Lj P ρ o w R :=
 MS (by simp[execOp,ho,hx,hy,go_sem]) h
end
section
variable {P:Program} {ρ:Operand->Value} {o:Oper} {w:World} {R:Value->World->Prop}
theorem aDh{t t':TypeId}{k k':IntKind}{x y:Operand}{m:Int}{n:Nat}(ho:o.op = .binOp .shr t x y t')(hx:ρ x = .int k m)(hy:ρ y = .int k' (n:Int))(hn:n<=k.bits)(h:R (.int k (m/2 ^ n)) w):Lj P ρ o w R :=
 MS (by
  have h0:¬ ((n:Int)<0):=by omega
  have hm:min n k.bits=n:=by omega
  have hd:m.fdiv (2 ^ n)=m/2 ^ n:=Int.fdiv_eq_ediv_of_nonneg _ (Int.le_of_lt (Int.pow_pos (by decide)))
  simp only[execOp,ho,hx,hy,binOp_shr,Op.shift,if_neg h0,Int.toNat_natCast,hm,hd,eqGuard]
  rfl) h
theorem aB9{src dst:TypeId}{x:Operand}{k k':IntKind}{n:Int}{d:TypeDesc}(ho:o.op = .convert src dst x)(hx:ρ x = .int k n)(hs:P.underlying src=some d)(hd:P.underlying dst=some (.int k'))(h:R (.int k' (k'.wrap n)) w):Lj P ρ o w R :=
 MS (v:=.int k' (k'.wrap n)) (w':=w) (by simp[execOp,ho,hx,convert,run_underlying hs,run_underlying hd,Conv.intToInt]) h
theorem aDG{ty:TypeId}{x:Operand}{a:Addr}{v:Value}{k:IntKind}(ho:o.op = .load ty x)(hx:ρ x = .pointer (some a))(hc:w.cell? a=some v)(hu:P.underlying ty=some (.int k))(h:R v w):Lj P ρ o w R :=
 MS (v:=v) (w':=w) (by simp[execOp,ho,hx,Instr.loadAt,Instr.sureAddr,loadVar,isAgg,run_underlying hu,hc]) h
end
end Go.Proofs.YtknjpdcpmpfklaaGreatDoor
set_option maxRecDepth 100000
namespace Go.Proofs.YtknjpdcpmpfklaaGreatDoor
open Go.RowKit
def Og:Value->List Nat
 | .tuple vs=>vs.toList.filterMap fun | .int .i64 n=>some n.toNat|_=>none
 | _=>[]
def Oi(ms:List Nat):Value:=.tuple (ms.map fun D:Nat=>Value.int .i64 (D:Int)).toArray
theorem Sv(ms:List Nat):Og (Oi ms)=ms:=by
 unfold Og Oi
 induction ms with
 | nil=>rfl
 | cons D ms ih=>simpa using ih
def Ty(v:Value):List Deferred:=(Og v).map fun D=>{ target:=.collected D,args:=#[] }
structure Fr (N:Nat) (F:Nat->Value) (a:Act):Prop where
  size:a.tmps.size=N
  defers:a.defers=Ty (F N)
  at':∀ t,Nat.blt t N=true->a.tmps.getD t undef=F t
def ev(F:Nat->Value):Operand->Value
 | .tmp t=>F t
 | .const v=>v
 | .global g=>.pointer (some ⟨g,0,none⟩)
 | .func f=>.func (.func f) #[] #[]
def MN(N:Nat)(F:Nat->Value):Nat->Value:=fun t=>cond (Nat.blt t N) (F t) undef
theorem Sf(a:Act):a.eval=ev (fun t=>a.tmps.getD t undef):=by funext x;cases x <;> rfl
theorem Fr.cut{N:Nat}{F:Nat->Value}{a:Act}(h:Fr N F a):(fun t=>a.tmps.getD t undef)=MN N F:=by
 funext t
 unfold MN
 cases hb:Nat.blt t N with
 | true=>exact h.at' t hb
 | false =>
  have hle:N<=t:=by
   rcases Nat.lt_or_ge t N with h1|h1
   ·have hb2:Nat.blt t N=true:=by simpa [Nat.blt_eq] using h1
    rw[hb2] at hb;cases hb
   ·exact h1
  simp[Array.getD_eq_getD_getElem?,Array.getElem?_eq_none (by rw[h.size];exact hle)]
theorem Fr.eval{N:Nat}{F:Nat->Value}{a:Act}(h:Fr N F a):a.eval=ev (MN N F):=by rw[Sf,h.cut]
def up(F:Nat->Value)(d:Nat)(v:Value):Nat->Value:=fun t=>cond (Nat.beq t d) v (F t)
def OL(F:Nat->Value):Option Tmp->Value->Nat->Value
 | none,_=>F
 | some d,v=>up F d v
def Oj(N:Nat):Option Tmp->Bool
 | none=>true
 | some d=>Nat.blt d N
theorem Fr.put{N:Nat}{F:Nat->Value}{a:Act}(h:Fr N F a){d:Option Tmp}(hd:Oj N d=true)(v:Value):Fr N (OL F d v) (a.put d v):=by
 cases d with
 | none=>exact h
 | some d =>
  have hdn:d<N:=by simpa [Oj,Nat.blt_eq] using hd
  have hlt:d<a.tmps.size:=by rw[h.size];exact hdn
  have hN:up F d v N=F N:=by
   unfold up
   cases hb:Nat.beq N d with
   | false=>rfl
   | true=>exact absurd (Nat.eq_of_beq_eq_true hb) (Nat.ne_of_gt hdn)
  refine⟨by rw[← h.size];simp[Act.put],?_,fun t ht=>?_⟩
  ·show a.defers=Ty (up F d v N)
   rw[hN];exact h.defers
  ·show (a.tmps.setIfInBounds d v).getD t undef=up F d v t
   unfold up
   by_cases e:t=d
   ·subst e;simp[Array.getD_eq_getD_getElem?,hlt]
   ·have:Nat.beq t d=false:=by
     cases hb:Nat.beq t d with
     | false=>rfl
     | true=>exact absurd (Nat.eq_of_beq_eq_true hb) e
    rw[this,cond_false,← h.at' t ht]
    simp only[Array.getD_eq_getD_getElem?,Array.getElem?_setIfInBounds_ne (Ne.symm e)]
def Fp(N:Nat)(Q:(Exit->(Nat->Value)->World->Prop)):Exit->Act->World->Prop:=fun e a w=>∃ F,Fr N F a/\Q e F w
def VW:Option Nat->Fence
 | none=>Fence.wide
 | some 0=>Fence.wide
 | some (l+1)=>Fence.wide.inRound l
theorem WC(l:Option Nat)(f:FuncId):(VW l).fn f:=by
 rcases l with _|_|l <;> trivial
theorem Z8(l:Option Nat):(VW l).depth=none:=by
 rcases l with _|_|l <;> rfl
def wq(l:Option Nat)(P:Program)(N:Nat)(c:Code)(Q:(Exit->(Nat->Value)->World->Prop))(F:Nat->Value)(w:World):Prop:=∀ a,Fr N F a->c.wpIn (VW l) 0 P (Fp N Q) a w
theorem Wx{P:Program}{ρ:Operand->Value}{o:Oper}{w:World}{R:Value->World->Prop}(h:Lj P ρ o w R):∀ c,o.op ≠ .defer c:=by
 intro c hc
 unfold Lj at h
 simp only[execOp,hc,Sem.run_bind] at h
 cases hr:(resolve ρ c o.type).run P w with
 | ok d w'=>simp[hr] at h
 | halt x w'=>simp[hr] at h
theorem ZS{l:Option Nat}{n:Nat}{P:Program}{f:FuncId}{args:Array Value}{w:World}{R:Ending->World->Prop}(h:Calls P f args w R):CallsIn (VW l) n P f args w R:=by
 rcases l with _|_|l
 ·exact callsIn_wide.2 h
 ·exact callsIn_wide.2 h
 ·exact CallsIn.inRound l (callsIn_wide.2 h)
theorem Lj.wpIn{l:Option Nat}{P:Program}{a:Act}{o:Oper}{w:World}{K:Act->World->Prop}{Q:Exit->Act->World->Prop}(h:Lj P a.eval o w (fun v w'=>K (a.put o.dst v) w')):o.wpIn (VW l) 0 P a w K Q:=by
 refine⟨fun f _=>WC l f,?_⟩
 rw[Oper.semAt_eq _ _ _ (Wx h)]
 unfold Lj at h
 generalize (execOp a.eval o).run P w=r at *
 cases r with
 | ok n w' =>
  cases n <;> simp only at h <;> first
   | exact h
   | exact h.elim
   | exact⟨fun e=>(by rw[Z8] at e;cases e),(ZS h).mono (fun e w'' ⟨v,he,hk⟩=>by subst he;exact hk)⟩
 | halt x w'=>exact h.elim
def Up(next:(Nat->Value)->World->Prop)(Q:(Exit->(Nat->Value)->World->Prop)):(Exit->(Nat->Value)->World->Prop)
 | .normal,F,w=>next F w
 | e,F,w=>Q e F w
def inP(id:Nat)(Q:(Exit->(Nat->Value)->World->Prop)):(Exit->(Nat->Value)->World->Prop)
 | .exit id',F,w=>if id'=id then Q .normal F w else Q (.exit id') F w
 | e,F,w=>Q e F w
section
variable {l:Option Nat} {P:Program} {N:Nat} {Q:(Exit->(Nat->Value)->World->Prop)} {F:Nat->Value} {w:World}
theorem KH{next:(Nat->Value)->World->Prop}(h:next F w):Up next Q .normal F w:=h
theorem Lt{next:(Nat->Value)->World->Prop}{id:Nat}(h:Q (.exit id) F w):Up next Q (.exit id) F w:=h
theorem Lq{next:(Nat->Value)->World->Prop}(h:Q .ret F w):Up next Q .ret F w:=h
theorem LD{id:Nat}(h:Q .normal F w):inP id Q .normal F w:=h
theorem Mh{id:Nat}(h:Q .normal F w):inP id Q (.exit id) F w:=by simp only[inP,if_true];exact h
theorem Q7{id id':Nat}(hn:id'≠id)(h:Q (.exit id') F w):inP id Q (.exit id') F w:=by simp only[inP,if_neg hn];exact h
theorem NV{id:Nat}(h:Q .ret F w):inP id Q .ret F w:=h
theorem KK{x y:Code}(h:wq l P N x (Up (wq l P N y Q) Q) F w):wq l P N (.seq x y) Q F w:=by
 intro a ha
 refine wpIn_seq (wpIn_mono (h a ha) ?_)
 rintro e a' w' ⟨F',hF,hq⟩
 cases e <;> first|exact hq a' hF|exact⟨F',hF,hq⟩
theorem Li(h:Q .normal F w):wq l P N .skip Q F w:=fun _ ha=>wpIn_skip ⟨F,ha,h⟩
theorem Mg{id:Nat}(h:Q (.exit id) F w):wq l P N (.exit id) Q F w:=fun _ ha=>wpIn_exit ⟨F,ha,h⟩
theorem Ld(h:Q .ret F w):wq l P N .ret Q F w:=fun _ ha=>wpIn_ret ⟨F,ha,h⟩
theorem Lc{c:Operand}{x y:Code}{t:Bool}(hc:ev (MN N F) c = .bool t)(ht:t=true->wq l P N x Q F w)(hf:t=false->wq l P N y Q F w):wq l P N (.cond c x y) Q F w :=
 fun a ha=>wpIn_cond_split (by rw[ha.eval];exact hc) (fun e=>ht e a ha) (fun e=>hf e a ha)
theorem Lo{id:Nat}{c:Code}(h:wq l P N c (inP id Q) F w):wq l P N (.block id c) Q F w:=by
 intro a ha
 refine wpIn_block (wpIn_mono (h a ha) ?_)
 rintro e a' w' ⟨F',hF,hq⟩
 cases e with
 | exit id' =>
  simp only[inP] at hq
  simp only[Exit.inBlock]
  split
  ·rename_i e;rw[if_pos e] at hq;exact⟨F',hF,hq⟩
  ·rename_i e;rw[if_neg e] at hq;exact⟨F',hF,hq⟩
 | _=>exact⟨F',hF,hq⟩
theorem M4{c:Code}(I:Nat->(Nat->Value)->World->Prop)(n0:Nat)(h0:I n0 F w)
  (round:∀ n F w,I n F w->wq l P N c (Up (fun F' w'=>∃ n',n'<n/\I n' F' w') Q) F w):wq l P N (.loop c) Q F w:=by
 intro a ha
 refine wpIn_loop (fun a w=>∃ n,∃ F,Fr N F a/\I n F w) (fun a w=>leastOf (fun n=>∃ F,Fr N F a/\I n F w)) ⟨n0,F,ha,h0⟩ ?_
 intro a w hex
 have hl:=leastOf_spec hex
 generalize leastOf (fun n=>∃ F,Fr N F a/\I n F w)=n at hl
 obtain⟨⟨F,hF,hI⟩,_⟩:=hl
 refine wpIn_mono (round n F w hI a hF) ?_
 rintro e a' w' ⟨F',hF',hq⟩
 cases e with
 | normal =>
  obtain⟨n',hlt,hI'⟩:=hq
  refine⟨⟨n',F',hF',hI'⟩,Nat.lt_of_le_of_lt ?_ hlt⟩
  exact(leastOf_spec (p:=fun n=>∃ F,Fr N F a'/\I n F w') ⟨n',F',hF',hI'⟩).2 n' ⟨F',hF',hI'⟩
 | _=>exact⟨F',hF',hq⟩
def lists(l:Option Nat)(P:Program)(ops:Array Oper)(Q:Exit->Act->World->Prop)(rest:List Oper)(a:Act)(w:World):Prop :=
 match l with
 | none=>wpList P ops Q rest a w
 | some l=>wpListIn (VW (some l)) 0 P ops Q rest a w
def wl(l:Option Nat)(P:Program)(N:Nat)(ops:Array Oper)(Q:(Exit->(Nat->Value)->World->Prop))(rest:List Oper)(F:Nat->Value)(w:World):Prop:=∀ a,Fr N F a->lists l P ops (Fp N Q) rest a w
theorem UR{l:Option Nat}{P:Program}{ops:Array Oper}{Q:Exit->Act->World->Prop}{o:Oper}{rest:List Oper}{a:Act}{w:World}(hw:Region.wanted o (yielded ops a.tmps)=true)(h:Lj P a.eval o w (fun v w'=>lists l P ops Q rest (a.put o.dst v) w')):lists l P ops Q (o::rest) a w:=by
 cases l with
 | none =>
  refine BigFrame.wpList_want hw fun K hK=>Lj.wp ?_
  revert h
  unfold Lj
  generalize (execOp a.eval o).run P w=r
  intro h
  cases r with
  | ok n w' =>
   cases n <;> simp only at h ⊢ <;> first
    | exact hK _ _ h
    | exact h.elim
    | exact Calls.mono h (fun e w'' ⟨v,he,hk⟩=>⟨v,he,hK _ _ hk⟩)
  | halt x w'=>exact h.elim
 | some l =>
  refine wpListIn_step fun K hK=>?_
  rw[if_pos hw]
  refine Lj.wpIn (l:=some l) ?_
  revert h
  unfold Lj
  generalize (execOp a.eval o).run P w=r
  intro h
  cases r with
  | ok n w' =>
   cases n <;> simp only at h ⊢ <;> first
    | exact hK _ _ h
    | exact h.elim
    | exact Calls.mono h (fun e w'' ⟨v,he,hk⟩=>⟨v,he,hK _ _ hk⟩)
  | halt x w'=>exact h.elim
theorem YJ{l:Option Nat}{P:Program}{ops:Array Oper}{Q:Exit->Act->World->Prop}{o:Oper}{rest:List Oper}{a:Act}{w:World}(hw:Region.wanted o (yielded ops a.tmps)=false)(h:lists l P ops Q rest (a.put o.dst undef) w):lists l P ops Q (o::rest) a w:=by
 cases l with
 | none =>
  show wpList P ops Q (o::rest) a w
  unfold wpList
  rw[hw];exact h
 | some l =>
  show wpListIn (VW (some l)) 0 P ops Q (o::rest) a w
  unfold wpListIn
  rw[hw];exact⟨fun f _=>WC _ f,h⟩
theorem WD{l:Option Nat}{P:Program}{Q:Exit->Act->World->Prop}{id:Nat}{ops:List Oper}{a:Act}{w:World}(h:lists l P ops.toArray Q ops a w):(Code.region id ops.toArray false).wpIn (VW l) 0 P Q a w:=by
 cases l with
 | none=>exact wpIn_wide.2 (wp_region_lit h)
 | some l=>exact wpIn_region_lit h
theorem Wk{l:Option Nat}{P:Program}{ops:Array Oper}{Q:Exit->Act->World->Prop}{a:Act}{w:World}(h:Q .normal a w):lists l P ops Q [] a w:=by
 cases l <;> exact h
theorem KI{id:Nat}{os:List Oper}(h:wl l P N os.toArray Q os F w):wq l P N (.region id os.toArray false) Q F w:=fun a ha=>WD (h a ha)
theorem RK{ops:Array Oper}(h:∀ F',(∀ t,F' t=F t)->Q .normal F' w):wl l P N ops Q [] F w:=fun _ ha=>Wk ⟨F,ha,h F fun _=>rfl⟩
theorem KO{ops:Array Oper}(h:Q .normal F w):wl l P N ops Q [] F w:=fun _ ha=>Wk ⟨F,ha,h⟩
theorem La(v:Value):v=v:=rfl
theorem ZG{N:Nat}{F:Nat->Value}{a:Act}{l:Option Nat}{P:Program}{ops:Array Oper}{Q:(Exit->(Nat->Value)->World->Prop)}{o:Oper}{rest:List Oper}{w:World}(ha:Fr N F a)(hd:Oj N o.dst=true)(h:Lj P (ev (MN N F)) o w (fun v w'=>wl l P N ops Q rest (OL F o.dst v) w')) :
  Lj P a.eval o w (fun v w'=>lists l P ops (Fp N Q) rest (a.put o.dst v) w'):=by
 rw[← ha.eval] at h
 revert h
 unfold Lj
 generalize (execOp a.eval o).run P w=r
 intro h
 cases r with
 | ok n w' =>
  cases n <;> simp only at h ⊢ <;> first
   | exact h _ (ha.put hd _)
   | exact h.elim
   | exact Calls.mono h (fun e w'' ⟨v,he,hk⟩=>⟨v,he,hk _ (ha.put hd _)⟩)
 | halt x w'=>exact h.elim
theorem Nu{ops:Array Oper}{o:Oper}{rest:List Oper}(hg:o.guard=none)(hd:Oj N o.dst=true)(h:Lj P (ev (MN N F)) o w (fun v w'=>wl l P N ops Q rest (OL F o.dst v) w')):wl l P N ops Q (o::rest) F w :=
 fun _ ha=>UR (by unfold Region.wanted;rw[hg]) (ZG ha hd h)
theorem UQ{ops:Array Oper}{a:Act}{j:Nat}{d:Tmp}(ha:Fr N F a)(hj:(ops[j]?).bind (·.dst)=some d)(hd:Nat.blt d N=true):yielded ops a.tmps j=match F d with | .bool b=>some b|_=>none:=by
 have hlt:d<a.tmps.size:=by rw[ha.size];simpa [Nat.blt_eq] using hd
 have he:a.tmps[d]=F d:=by rw[← ha.at' d hd];simp[Array.getD,hlt]
 unfold yielded
 rw[hj]
 simp only[Option.bind_some,Array.getElem?_eq_getElem hlt,he]
 cases F d <;> rfl
theorem Zr{ops:Array Oper}{o:Oper}{rest:List Oper}(j:Nat)(want:Bool)(d:Tmp)(hg:o.guard=some (j,want))(hj:(ops[j]?).bind (·.dst)=some d)(hdn:Nat.blt d N=true)(hv:F d = .bool want)(hd:Oj N o.dst=true)
  (h:Lj P (ev (MN N F)) o w (fun v w'=>wl l P N ops Q rest (OL F o.dst v) w')):wl l P N ops Q (o::rest) F w:=by
 intro a ha
 refine UR ?_ (ZG ha hd h)
 unfold Region.wanted
 rw[hg]
 simp only[UQ ha hj hdn,hv]
 simp
theorem KL{ops:Array Oper}{o:Oper}{rest:List Oper}(j:Nat)(want:Bool)(d:Tmp)(hg:o.guard=some (j,want))(hj:(ops[j]?).bind (·.dst)=some d)(hdn:Nat.blt d N=true)(hv:F d = .bool (!want)\/F d=undef)(hd:Oj N o.dst=true)
  (h:wl l P N ops Q rest (OL F o.dst undef) w):wl l P N ops Q (o::rest) F w:=by
 intro a ha
 refine YJ ?_ (h _ (ha.put hd _))
 unfold Region.wanted
 rw[hg]
 simp only[UQ ha hj hdn]
 rcases hv with hv|hv <;> rw[hv]
 ·cases want <;> simp
 ·simp[undef]
theorem Ly{ops:Array Oper}{o:Oper}{rest:List Oper}{R:Value->World->Prop}(hg:o.guard=none)(hd:Oj N o.dst=true)(hy:Lj P (ev (MN N F)) o w R)(h:∀ v w',R v w'->wl l P N ops Q rest (OL F o.dst v) w'):wl l P N ops Q (o::rest) F w:=by
 refine Nu hg hd ?_
 revert hy
 unfold Lj
 generalize (execOp (ev (MN N F)) o).run P w=r
 intro hy
 cases r with
 | ok n w' =>
  cases n <;> simp only at hy ⊢ <;> first
   | exact h _ _ hy
   | exact hy.elim
   | exact Calls.mono hy (fun e w'' ⟨v,he,hk⟩=>⟨v,he,h _ _ hk⟩)
 | halt x w'=>exact hy.elim
def OG(D:List (Option Tmp))(G:Nat->Value->World->Prop)(F:Nat->Value)(w:World):List Edge->Prop
 | []=>True
 | e::r=>(Region.binds .any e=true->match D.getD e.on none with
  | some d=>G e.on (F d) w
  | none=>True)/\OG D G F w r
theorem RE.toF{D:List (Option Tmp)}{G:Nat->Value->World->Prop}{a:Act}{w:World}:∀ {es:List Edge},RE D G a w es->OG D G (fun t=>a.tmps.getD t undef) w es:=by
 intro es
 induction es with
 | nil=>intro _;exact trivial
 | cons e r ih=>intro h;exact⟨h.1,ih h.2⟩
theorem OG.get{D:List (Option Tmp)}{G:Nat->Value->World->Prop}{F:Nat->Value}{w:World}:∀ {es:List Edge} (k:Nat) {e:Edge} {d:Tmp},OG D G F w es->es[k]? = some e->Region.binds .any e=true->D.getD e.on none=some d->G e.on (F d) w:=by
 intro es
 induction es with
 | nil=>intro k e d _ h;simp at h
 | cons x r ih =>
  intro k e d h hk hb hd
  cases k with
  | zero =>
   simp at hk
   subst hk
   have:=h.1 hb
   rw[hd] at this
   exact this
  | succ k=>exact ih k h.2 (by simpa using hk) hb hd
def Le(N:Nat)(P:Program)(D:List (Option Tmp))(Gs:List Pd)(F0:Nat->Value)(w0:World)(i:Nat)(o:Oper):Prop :=
 ∀ (F:Nat->Value) (w:World),KP (fun _=>False) w0 w->(∀ t,Nat.blt t N=true->some t∉D->F t=F0 t)->OG D (QU Gs) F w o.after.toList →
  match o.guard with
  | none=>Lj P (ev F) o w (fun v w'=>QU Gs i v w'/\KP (fun _=>False) w w')
  | some (j,want)=>∃ d,D.getD j none=some d ∧
   ((F d = .bool want/\Lj P (ev F) o w (fun v w'=>QU Gs i v w'/\KP (fun _=>False) w w'))\/((F d = .bool (!want)\/F d=undef)/\QU Gs i undef w))
def Rp(N:Nat)(P:Program)(D:List (Option Tmp))(Gs:List Pd)(F0:Nat->Value)(w0:World):Nat->List Oper->Prop
 | _,[]=>True
 | i,o::r=>Le N P D Gs F0 w0 i o/\Rp N P D Gs F0 w0 (i+1) r
theorem Le.step{D:List (Option Tmp)}{Gs:List Pd}{w0:World}{i:Nat}{o:Oper}{a0:Act}(ha:Fr N F a0)(h:Le N P D Gs F w0 i o):aBc P (KP (fun _=>False)) D (QU Gs) a0 w0 i o:=by
 intro a w hR hout hD
 have h1:=h (fun t=>a.tmps.getD t undef) w hR (fun t hb ht=>by rw[← ha.at' t hb];exact hout t ht) hD.toF
 rw[← Sf a] at h1
 unfold PW
 cases hg:o.guard with
 | none=>rw[hg] at h1;exact⟨fun _=>h1,fun e=>by cases e⟩
 | some g =>
  obtain⟨j,want⟩:=g
  rw[hg] at h1
  obtain⟨d,hd,h1⟩:=h1
  simp only[hd]
  have hev:a.eval (.tmp d)=a.tmps.getD d undef:=rfl
  rcases h1 with ⟨hv,hy⟩ | ⟨hv,hs⟩
  ·rw[hev,hv];exact⟨fun _=>hy,fun e=>by simp at e⟩
  ·refine⟨fun e=>?_,fun _=>hs⟩
   rcases hv with hv|hv
   ·rw[hev,hv] at e;cases want <;> simp at e
   ·rw[hev,hv] at e;simp[undef] at e
theorem Rp.steps{D:List (Option Tmp)}{Gs:List Pd}{w0:World}{a0:Act}(ha:Fr N F a0):∀ {os:List Oper} {i:Nat},Rp N P D Gs F w0 i os->Steps P (KP (fun _=>False)) D (QU Gs) a0 w0 i os:=by
 intro os
 induction os with
 | nil=>intro i _;exact trivial
 | cons o r ih=>intro i h;exact⟨h.1.step ha,ih h.2⟩
theorem L3{D:List (Option Tmp)}{Gs:List Pd}{F0:Nat->Value}{w0:World}{i:Nat}:Rp N P D Gs F0 w0 i []:=trivial
theorem KN{D:List (Option Tmp)}{Gs:List Pd}{F0:Nat->Value}{w0:World}{i:Nat}{o:Oper}{r:List Oper}(h:Le N P D Gs F0 w0 i o)(k:Rp N P D Gs F0 w0 (i+1) r):Rp N P D Gs F0 w0 i (o::r):=⟨h,k⟩
theorem Le.one{D:List (Option Tmp)}{Gs:List Pd}{F0:Nat->Value}{w0:World}{i:Nat}{o:Oper}(hg:o.guard=none)
  (h:∀ (F:Nat->Value) (w:World),KP (fun _=>False) w0 w->(∀ t,Nat.blt t N=true->some t∉D->F t=F0 t)->OG D (QU Gs) F w o.after.toList->Lj P (ev F) o w (fun v w'=>QU Gs i v w'/\KP (fun _=>False) w w')):Le N P D Gs F0 w0 i o:=by
 intro F w h1 h2 h3
 rw[hg]
 exact h F w h1 h2 h3
def Q6(v:Nat->Value):Nat->List (Option Tmp)->(Nat->Value)->Nat->Value
 | _,[],F=>F
 | i,d::r,F=>Q6 v (i+1) r (OL F d (v i))
theorem OO{size:Nat}:∀ {i:Nat} {D:List (Option Tmp)} {os:List Oper},plain size i D os=true->∀ d∈D,Oj size d=true:=by
 intro i D os
 induction os generalizing i D with
 | nil =>
  intro h
  cases D with
  | nil=>intro d hd;cases hd
  | cons d D=>simp[plain] at h
 | cons o r ih =>
  intro h
  cases D with
  | nil=>intro d hd;cases hd
  | cons x D =>
   simp only[plain,Bool.and_eq_true] at h
   obtain⟨⟨⟨h1,h2⟩,h3⟩,h4⟩:=h
   intro d hd
   rcases List.mem_cons.1 hd with rfl|hd
   ·cases d with
    | none=>rfl
    | some d =>
     simp only[Bool.and_eq_true,decide_eq_true_eq] at h2
     simpa [Oj,Nat.blt_eq] using h2.1
   ·exact ih h4 d hd
theorem Pj(v:Nat->Value):∀ (D:List (Option Tmp)) (i:Nat) (F:Nat->Value) (a:Act),Fr N F a->(∀ d∈D,Oj N d=true)->Fr N (Q6 v i D F) (Mr v i D a):=by
 intro D
 induction D with
 | nil=>intro i F a h _;exact h
 | cons d r ih=>intro i F a h hf;exact ih (i+1) _ _ (h.put (hf d (by simp)) _) (fun x hx=>hf x (by simp[hx]))
theorem Rd{id:Nat}{ops:Array Oper}(D:List (Option Tmp))(Gs:List Pd)(hm:P.follows .mixedOrders=true)(hpl:plain N 0 D ops.toList=true)(hsteps:Rp N P D Gs F w 0 ops.toList)
  (hend:∀ (v:Nat->Value) (F':Nat->Value) (w':World),KP (fun _=>False) w w'->(∀ i,i<ops.size->QU Gs i (v i) w')->(∀ t,F' t=Q6 v 0 D F t)->Q .normal F' w'):wq none P N (.region id ops true) Q F w:=by
 intro a ha
 refine wpIn_wide.2 ?_
 refine U4 D Gs hm (by rw[ha.size];exact hpl) (hsteps.steps ha) fun v w' hk hG=>?_
 exact⟨Q6 v 0 D F,Pj v D 0 F a ha (OO hpl),hend v _ w' hk hG fun _=>rfl⟩
theorem Nd{id:Nat}{ops:Array Oper}(n:Nat)(D:List (Option Tmp))(Gs:List Pd)(hm:P.follows .mixedOrders=true)(hta:SM ops.toList n=true)(hpl:plain N 0 D (ops.toList.take n)=true)(hsteps:Rp N P D Gs F w 0 (ops.toList.take n))
  (hend:∀ (v:Nat->Value) (F':Nat->Value) (w':World),KP (fun _=>False) w w'->(∀ i,i<n->QU Gs i (v i) w')->(∀ t,F' t=Q6 v 0 D F t)->wl none P N ops Q (ops.toList.drop n) F' w'):wq none P N (.region id ops true) Q F w:=by
 intro a ha
 refine wpIn_wide.2 ?_
 refine U3 n D Gs hm hta (by rw[ha.size];exact hpl) (hsteps.steps ha) fun v w' hk hG=>?_
 exact hend v _ w' hk hG (fun _=>rfl) _ (Pj v D 0 F a ha (OO hpl))
end
def X6(P:Program)(fn:Func)(N:Nat)(R:Ending->World->Prop):(Exit->(Nat->Value)->World->Prop)
 | .normal,F,w | .ret,F,w=>F N=undef/\∀ a,Fr N F a->∃ v,(results fn a.tmps).run P w = .ok v w/\R (.returned v) w
 | _,_,_=>False
def Xt(args:List Value):Nat->Value:=fun t=>args.getD t undef
theorem Ls{P:Program}{f:FuncId}{fn:Func}{c:Code}{args:List Value}{w:World}{R:Ending->World->Prop}(N:Nat)(hf:P.funcs[f]? = some fn)(hb:fn.body=some c)(hn:fn.ntmps=N)(hl:args.length<=N)
  (h:wq none P N c (X6 P fn N R) (Xt args) w):Calls P f args.toArray w R:=by
 refine calls_of_wp hf hb ?_
 subst hn
 have hs:(args.toArray++Array.replicate (fn.ntmps-args.toArray.size) undef).size=fn.ntmps:=by simp;omega
 have hu:Xt args fn.ntmps=undef:=by
  unfold Xt
  rw[List.getD_eq_getElem?_getD,List.getElem?_eq_none hl];rfl
 refine wp_mono (wpIn_wide.1 (h _ ⟨hs,by rw[hu];rfl,fun t _=>?_⟩)) ?_
 ·unfold Xt
  simp only[Array.getD_eq_getD_getElem?,List.getD_eq_getElem?_getD]
  by_cases h1:t<args.length
  ·rw[Array.getElem?_append_left (by simpa using h1)];simp
  ·rw[Array.getElem?_append_right (by simp;omega),List.getElem?_eq_none (by omega)]
   by_cases h2:t<fn.ntmps
   ·rw[Array.getElem?_replicate];split <;> rfl
   ·rw[Array.getElem?_eq_none (by simp;omega)]
 ·rintro e a' w' ⟨F',hF,hq⟩
  cases e <;> first
   | exact⟨by rw[hF.defers,hq.1];rfl,hq.2 a' hF⟩
   | exact hq.elim
section
variable {P:Program} {fn:Func} {N:Nat} {R:Ending->World->Prop} {F:Nat->Value} {w:World}
theorem Lu{t:Tmp}{v:Value}(hm:F N=undef)(ht:Nat.blt t N=true)(h:fn.results = #[.tmp t])(hv:F t=v)(hR:R (.returned v) w):X6 P fn N R .ret F w :=
 ⟨hm,fun a ha=>⟨v,by rw[results_tmp h];rw[ha.at' t ht,hv],hR⟩⟩
theorem Xw(hm:F N=undef)(h:fn.results = #[])(hR:R (.returned (.tuple #[])) w):X6 P fn N R .normal F w:=⟨hm,fun _ _=>⟨_,results_none h _ _ _,hR⟩⟩
theorem Xc(hm:F N=undef)(h:fn.results = #[])(hR:R (.returned (.tuple #[])) w):X6 P fn N R .ret F w:=⟨hm,fun _ _=>⟨_,results_none h _ _ _,hR⟩⟩
def Ss(P:Program)(N:Nat)(F:Nat->Value)(w:World):ResultVar->Value->Prop
 | .tmp t,v=>Nat.blt t N=true/\F t=v
 | .cell a t,v=>Nat.blt a N=true/\∃ ad,F a = .pointer (some ad)/\(loadVar t ad).run P w = .ok v w
theorem Lz{t:Tmp}{v:Value}(ht:Nat.blt t N=true)(h:F t=v):Ss P N F w (.tmp t) v:=⟨ht,h⟩
theorem L7{r1 r2:ResultVar}{v1 v2:Value}(hm:F N=undef)(h:fn.results = #[r1,r2])(h1:Ss P N F w r1 v1)(h2:Ss P N F w r2 v2)
  (hR:R (.returned (.tuple #[v1,v2])) w):X6 P fn N R .ret F w:=by
 refine⟨hm,fun a ha=>⟨_,?_,hR⟩⟩
 cases r1 <;> cases r2 <;> simp only[Ss] at h1 h2
 ·obtain⟨b1,h1⟩:=h1;obtain⟨b2,h2⟩:=h2
  rw[← ha.at' _ b1] at h1;rw[← ha.at' _ b2] at h2
  simp[results,h] at *;simp[h1,h2]
 ·obtain⟨b1,h1⟩:=h1;obtain⟨b2,ad,e,hl⟩:=h2
  rw[← ha.at' _ b1] at h1;rw[← ha.at' _ b2] at e
  simp[results,h] at *;simp[h1,e,asAddr,hl]
 ·obtain⟨b1,ad,e,hl⟩:=h1;obtain⟨b2,h2⟩:=h2
  rw[← ha.at' _ b2] at h2;rw[← ha.at' _ b1] at e
  simp[results,h] at *;simp[h2,e,asAddr,hl]
 ·obtain⟨b1,ad,e,hl⟩:=h1;obtain⟨b2,ad2,e2,hl2⟩:=h2
  rw[← ha.at' _ b1] at e;rw[← ha.at' _ b2] at e2
  simp[results,h] at *;simp[e,e2,asAddr,hl,hl2]
end
end Go.Proofs.YtknjpdcpmpfklaaGreatDoor
set_option maxRecDepth 100000
namespace Go.Proofs.YtknjpdcpmpfklaaGreatDoor
open Go.RowKit
theorem L2{x:Int}{m:Nat}(h:x=(m:Int))(hm:m<=9223372036854775807):IntKind.i64.wrap x=(m:Int):=by subst h;exact IntWalk.i64_in _ (by omega)
theorem Mb{x y:Int}(h:x=y)(hy : -9223372036854775808<=y/\y<=9223372036854775807):IntKind.i64.wrap x=y:=by subst h;exact IntWalk.i64_in _ hy
theorem Ob{P:Program}{ρ:Operand->Value}{o:Oper}{w:World}{R:Value->World->Prop}{v:Value}{w':World}(h:(execOp ρ o).run P w = .ok (.value v) w')(hR:R v w'):Lj P ρ o w R:=by
 unfold Lj;rw[h];exact hR
section
variable {ro:Option Nat} {P:Program} {ρ:Operand->Value} {o:Oper} {w:World} {R:Value->World->Prop}
theorem KQ{x:Operand}{v:Value}(ho:o.op = .move x)(hx:ρ x=v)(h:R v w):Lj P ρ o w R:=aCC ho (by rw[hx];exact h)
theorem KX{x:Operand}{v:Value}(ho:o.op = .assign x)(hx:ρ x=v)(h:R v w):Lj P ρ o w R:=aAS ho (by rw[hx];exact h)
theorem Lg{c x y:Operand}{v:Value}(ho:o.op = .pick c x y)(hc:ρ c = .bool true)(hx:ρ x=v)(h:R v w):Lj P ρ o w R:=Xs ho hc (by rw[hx];exact h)
theorem Lb{c x y:Operand}{v:Value}(ho:o.op = .pick c x y)(hc:ρ c = .bool false)(hy:ρ y=v)(h:R v w):Lj P ρ o w R:=WL ho hc (by rw[hy];exact h)
theorem LR{t t':TypeId}{k:IntKind}{x y:Operand}{m n r:Int}(ho:o.op = .binOp .add t x y t')(hx:ρ x = .int k m)(hy:ρ y = .int k n)(hr:k.wrap (m+n)=r)(h:R (.int k r) w):Lj P ρ o w R :=
 Ob (v:=.int k (k.wrap (m+n))) (w':=w) (by simp[execOp,ho,hx,hy,go_sem]) (by rw[hr];exact h)
theorem VB{t t':TypeId}{k:IntKind}{x y:Operand}{m n r:Int}(ho:o.op = .binOp .sub t x y t')(hx:ρ x = .int k m)(hy:ρ y = .int k n)(hr:k.wrap (m-n)=r)(h:R (.int k r) w):Lj P ρ o w R :=
 Ob (v:=.int k (k.wrap (m-n))) (w':=w) (by simp[execOp,ho,hx,hy,go_sem]) (by rw[hr];exact h)
theorem NH{t t':TypeId}{k:IntKind}{x y:Operand}{m n r:Int}(ho:o.op = .binOp .mul t x y t')(hx:ρ x = .int k m)(hy:ρ y = .int k n)(hr:k.wrap (m*n)=r)(h:R (.int k r) w):Lj P ρ o w R :=
 Ob (v:=.int k (k.wrap (m*n))) (w':=w) (by simp[execOp,ho,hx,hy,go_sem]) (by rw[hr];exact h)
theorem Qd{t t':TypeId}{k:IntKind}{x y:Operand}{m n r:Int}(ho:o.op = .binOp .quo t x y t')(hx:ρ x = .int k m)(hy:ρ y = .int k n)(hn:n≠0)(hr:k.wrap (m.tdiv n)=r)(h:R (.int k r) w):Lj P ρ o w R :=
 Ob (v:=.int k (k.wrap (m.tdiv n))) (w':=w) (by simp[execOp,ho,hx,hy,hn,go_sem]) (by rw[hr];exact h)
theorem Ya{t t':TypeId}{k:IntKind}{x y:Operand}{m n r:Int}(ho:o.op = .binOp .rem t x y t')(hx:ρ x = .int k m)(hy:ρ y = .int k n)(hn:n≠0)(hr:m.tmod n=r)(h:R (.int k r) w):Lj P ρ o w R :=
 Ob (v:=.int k (m.tmod n)) (w':=w) (by simp[execOp,ho,hx,hy,hn,go_sem]) (by rw[hr];exact h)
theorem aDk{t:TypeId}{k:IntKind}{x:Operand}{m r:Int}(ho:o.op = .unOp .neg t x)(hx:ρ x = .int k m)(hr:k.wrap (-m)=r)(h:R (.int k r) w):Lj P ρ o w R :=
 Ob (v:=.int k (k.wrap (-m))) (w':=w) (by simp[execOp,ho,hx,go_sem]) (by rw[hr];exact h)
theorem RI{t t':TypeId}{k k':IntKind}{x y:Operand}{m r:Int}(n:Nat)(ho:o.op = .binOp .shr t x y t')(hx:ρ x = .int k m)(hy:ρ y = .int k' (n:Int))(hn:n<=k.bits)(hr:m/2 ^ n=r)(h:R (.int k r) w):Lj P ρ o w R :=
 aDh ho hx hy hn (by rw[hr];exact h)
theorem Pq{src dst:TypeId}{x:Operand}{k k':IntKind}{n r:Int}{d:TypeDesc}(ho:o.op = .convert src dst x)(hx:ρ x = .int k n)(hs:P.underlying src=some d)(hd:P.underlying dst=some (.int k'))(hr:k'.wrap n=r)(h:R (.int k' r) w):Lj P ρ o w R :=
 aB9 ho hx hs hd (by rw[hr];exact h)
theorem L5{t t':TypeId}{k:IntKind}{x y:Operand}{m n:Int}{b:Bool}(ho:o.op = .binOp .lss t x y t')(hx:ρ x = .int k m)(hy:ρ y = .int k n)(hr:decide (m<n)=b)(h:R (.bool b) w):Lj P ρ o w R :=
 Ob (v:=.bool (decide (m<n))) (w':=w) (by simp[execOp,ho,hx,hy,go_sem]) (by rw[hr];exact h)
theorem Nf{t t':TypeId}{k:IntKind}{x y:Operand}{m n:Int}{b:Bool}(ho:o.op = .binOp .leq t x y t')(hx:ρ x = .int k m)(hy:ρ y = .int k n)(hr:decide (m<=n)=b)(h:R (.bool b) w):Lj P ρ o w R :=
 Ob (v:=.bool (decide (m<=n))) (w':=w) (by simp[execOp,ho,hx,hy,go_sem]) (by rw[hr];exact h)
theorem Ms{t t':TypeId}{k:IntKind}{x y:Operand}{m n:Int}{b:Bool}(ho:o.op = .binOp .gtr t x y t')(hx:ρ x = .int k m)(hy:ρ y = .int k n)(hr:decide (n<m)=b)(h:R (.bool b) w):Lj P ρ o w R :=
 Ob (v:=.bool (decide (n<m))) (w':=w) (by simp[execOp,ho,hx,hy,go_sem]) (by rw[hr];exact h)
theorem Nl{t t':TypeId}{k:IntKind}{x y:Operand}{m n:Int}{b:Bool}(ho:o.op = .binOp .geq t x y t')(hx:ρ x = .int k m)(hy:ρ y = .int k n)(hr:decide (n<=m)=b)(h:R (.bool b) w):Lj P ρ o w R :=
 Ob (v:=.bool (decide (n<=m))) (w':=w) (by simp[execOp,ho,hx,hy,go_sem]) (by rw[hr];exact h)
theorem Mj{t t':TypeId}{k:IntKind}{x y:Operand}{m n:Int}{b:Bool}(ho:o.op = .binOp .eql t x y t')(hx:ρ x = .int k m)(hy:ρ y = .int k n)(hr:decide (m=n)=b)(h:R (.bool b) w):Lj P ρ o w R :=
 Z4 ho hx hy (by rw[show (m==n)=b from hr];exact h)
theorem Mc{t t':TypeId}{k:IntKind}{x y:Operand}{m n:Int}{b:Bool}(ho:o.op = .binOp .neq t x y t')(hx:ρ x = .int k m)(hy:ρ y = .int k n)(hr:decide (m≠n)=b)(h:R (.bool b) w):Lj P ρ o w R:=by
 refine Ob (v:=.bool (m != n)) (w':=w) (by simp[execOp,ho,hx,hy,go_sem,bne]) ?_
 rw[show (m != n)=b by rw[← hr];by_cases e:m=n <;> simp[bne,e]];exact h
theorem LW{t:TypeId}{x:Operand}{b c:Bool}(ho:o.op = .unOp .not t x)(hx:ρ x = .bool b)(hr:(!b)=c)(h:R (.bool c) w):Lj P ρ o w R :=
 Ob (v:=.bool (!b)) (w':=w) (by simp[execOp,ho,hx,go_sem]) (by rw[hr];exact h)
theorem QO{ts:Array TypeId}{k:IntKind}{x y:Operand}{m n r:Int}(ho:o.op = .call { callee:=.builtin .min,args:=#[x,y],argTypes:=ts })(hx:ρ x = .int k m)(hy:ρ y = .int k n)(he:min m n=r)(h:R (.int k r) w):Lj P ρ o w R:=by
 have e:(if n<m then n else m)=min m n:=by split <;> omega
 have hr:=run_min_int2 (P:=P) w ts o.type k k m n
 rw[e,he] at hr
 exact Ob (v:=.int k r) (w':=w) (by simp only[execOp,ho,resolve,invoke,builtin,Sem.run_bind,Sem.run_pure,Result.andThen_ok,List.map_toArray,List.map_cons,List.map_nil,hx,hy,hr]) h
theorem Rn{ts:Array TypeId}{k:IntKind}{x y:Operand}{m n r:Int}(ho:o.op = .call { callee:=.builtin .max,args:=#[x,y],argTypes:=ts })(hx:ρ x = .int k m)(hy:ρ y = .int k n)(he:max m n=r)(h:R (.int k r) w):Lj P ρ o w R:=by
 have e:(if n > m then n else m)=max m n:=by split <;> omega
 have hr:=run_max_int2 (P:=P) w ts o.type k k m n
 rw[e,he] at hr
 exact Ob (v:=.int k r) (w':=w) (by simp only[execOp,ho,resolve,invoke,builtin,Sem.run_bind,Sem.run_pure,Result.andThen_ok,List.map_toArray,List.map_cons,List.map_nil,hx,hy,hr]) h
theorem LU{t e:TypeId}{n b off off' s:Nat}{k:IntKind}{x ix:Operand}(j:Nat){i:Int}(ho:o.op = .indexAddr t x ix)(hx:ρ x = .pointer (some ⟨b,off,none⟩))(hi:ρ ix = .int k i)(hij:i=(j:Int))(hu:P.underlying t=some (.array n e))(hj:j<n)(hs:(P.info? e).map (·.size)=some s)(hoff:off+j*s=off')
  (h:R (.pointer (some ⟨b,off',none⟩)) w):Lj P ρ o w R:=by
 subst hij
 cases hq:P.info? e with
 | none=>simp[hq] at hs
 | some i =>
  have hs':i.size=s:=by simpa [hq] using hs
  refine Ob (v:=.pointer (some ⟨b,off+j*s,none⟩)) (w':=w) ?_ (by rw[hoff];exact h)
  simp only[execOp,ho,hx,hi]
  by_cases h0:j*s=0
  ·simp[Instr.indexAt,run_underlying hu,Instr.sureAddr,asIntOf,sizeOf,typeInfo,hq,hs',hj,Addr.add,h0]
  ·simp[Instr.indexAt,run_underlying hu,Instr.sureAddr,asIntOf,sizeOf,typeInfo,hq,hs',hj,Addr.add,h0]
theorem Mz{t:TypeId}{parts:Array (Nat×Operand)}{cells:Array Value}{v:Value}(ho:o.op = .build t parts)(hc:P.built t (parts.map fun (i,x)=>(i,ρ x)).toList=some cells)(hv : .agg cells=v)(h:R v w):Lj P ρ o w R :=
 Ob (v:=.agg cells) (w':=w) (by simp only[execOp,ho,Sem.run_bind,run_build w t _ cells hc,Result.andThen_ok,Sem.run_pure]) (by rw[hv];exact h)
theorem OI{ty:TypeId}{x:Operand}{a:Addr}{v:Value}{k:IntKind}(ho:o.op = .load ty x)(hx:ρ x = .pointer (some a))(hu:P.underlying ty=some (.int k))(hc:w.cell? a=some v)(h:R v w):Lj P ρ o w R:=aDG ho hx hc hu h
theorem LM{x:Operand}{i:Nat}{vs:Array Value}{v:Value}(ho:o.op = .extract x i)(hx:ρ x = .tuple vs)(hi:vs[i]? = some v)(h:R v w):Lj P ρ o w R :=
 Ob (v:=v) (w':=w) (by simp[execOp,ho,hx,Instr.extract,hi]) h
theorem LE{f:FuncId}{c:Call}{S:Ending->World->Prop}{xs:List Operand}{vs:List Value}(ho:o.op = .call c)(hc:c.callee = .value (.func f))(hx:c.args=xs.toArray)(hf:∀ args w,(callFunc f args).run P w = .ok (.enter f args) w)
  (ev0:∀ f,ρ (.func f) = .func (.func f) #[] #[]) (hv:xs.map ρ=vs) (h:Calls P f vs.toArray w S) (hS:∀ e w',S e w'->∃ v,e = .returned v/\R v w'):Lj P ρ o w R:=by
 obtain⟨cl,ag,ts⟩:=c
 simp only at hc hx
 subst hc;subst hx;subst hv
 unfold Lj
 have e:(execOp ρ o).run P w = .ok (.enter f (xs.map ρ).toArray) w:=by simp[execOp,ho,resolve,ev0,Deferred.ofValue,invoke,hf]
 rw[e]
 exact h.mono hS
theorem aDR{f:FuncId}{c:Call}{S:Ending->World->Prop}{cx:Operand}{xs:List Operand}{vs:List Value}(ho:o.op = .call c)(hc:c.callee = .value cx)(hcx:ρ cx = .func (.func f) #[] #[])(hx:c.args=xs.toArray)(hf:∀ args w,(callFunc f args).run P w = .ok (.enter f args) w)
  (hv:xs.map ρ=vs) (h:Calls P f vs.toArray w S) (hS:∀ e w',S e w'->∃ v,e = .returned v/\R v w'):Lj P ρ o w R:=by
 obtain⟨cl,ag,ts⟩:=c
 simp only at hc hx
 subst hc;subst hx;subst hv
 unfold Lj
 have e:(execOp ρ o).run P w = .ok (.enter f (xs.map ρ).toArray) w:=by simp[execOp,ho,resolve,hcx,Deferred.ofValue,invoke,hf]
 rw[e]
 exact h.mono hS
end
theorem K4(F:Nat->Value):∀ f,ev F (.func f) = .func (.func f) #[] #[]:=fun _=>rfl
theorem vs1{ρ:Operand->Value}{x:Operand}{v:Value}(h:ρ x=v):[x].map ρ=[v]:=by simp[h]
theorem vs2{ρ:Operand->Value}{x y:Operand}{v u:Value}(h:ρ x=v)(h2:ρ y=u):[x,y].map ρ=[v,u]:=by simp[h,h2]
theorem LS{ρ:Operand->Value}:([]:List Operand).map ρ=[]:=rfl
theorem Lm{ρ:Operand->Value}{x:Operand}{v:Value}{xs:List Operand}{vs:List Value}(h:ρ x=v)(h2:xs.map ρ=vs):(x::xs).map ρ=v::vs:=by simp[h,← h2]
section
variable {ro:Option Nat} {P:Program} {N:Nat} {Q:(Exit->(Nat->Value)->World->Prop)} {F:Nat->Value} {w:World}
theorem KJ{ops:Array Oper}{o:Oper}{rest:List Oper}(v:Value)(hg:o.guard=none)(hd:Oj N o.dst=true)(hy:Lj P (ev (MN N F)) o w (fun u w'=>u=v/\w'=w))(h:wl ro P N ops Q rest (OL F o.dst v) w):wl ro P N ops Q (o::rest) F w :=
 Ly hg hd hy fun u w' ⟨h1,h2⟩=>by subst h1;subst h2;exact h
theorem KR{ops:Array Oper}{o:Oper}{rest:List Oper}(v:Value)(j:Nat)(want:Bool)(d:Tmp)(hg:o.guard=some (j,want))(hj:(ops[j]?).bind (·.dst)=some d)(hdn:Nat.blt d N=true)(hv:F d = .bool want)(hd:Oj N o.dst=true)
  (hy:Lj P (ev (MN N F)) o w (fun u w'=>u=v/\w'=w)) (h:wl ro P N ops Q rest (OL F o.dst v) w):wl ro P N ops Q (o::rest) F w:=by
 refine Zr j want d hg hj hdn hv hd ?_
 revert hy
 unfold Lj
 generalize (execOp (ev (MN N F)) o).run P w=r
 intro hy
 cases r with
 | ok n w' =>
  cases n <;> simp only at hy ⊢ <;> first
   | (obtain⟨h1,h2⟩:=hy;subst h1;subst h2;exact h)
   | exact hy.elim
   | exact Calls.mono hy (fun e w'' ⟨u,he,h1,h2⟩=>⟨u,he,by subst h1;subst h2;exact h⟩)
 | halt x w'=>exact hy.elim
end
theorem rr{α β:Type}{a:α}{b:β}:a=a/\b=b:=⟨rfl,rfl⟩
abbrev pt(p k:Nat):Value:=.pointer (some ⟨p,k,none⟩)
abbrev iv(n:Int):Value:=.int .i64 n
section
variable {ro:Option Nat} {P:Program} {N:Nat} {Q:(Exit->(Nat->Value)->World->Prop)} {F:Nat->Value} {w:World}
theorem KW{ops:Array Oper}{o:Oper}{rest:List Oper}{x:Operand}{v:Value}(hg:o.guard=none)(hd:Oj N o.dst=true)(ho:o.op = .move x)(hx:ev (MN N F) x=v)(h:wl ro P N ops Q rest (OL F o.dst v) w):wl ro P N ops Q (o::rest) F w :=
 KJ v hg hd (KQ ho hx ⟨rfl,rfl⟩) h
theorem aB1{ops:Array Oper}{o:Oper}{rest:List Oper}{x:Operand}{v:Value}(hg:o.guard=none)(hd:Oj N o.dst=true)(ho:o.op = .assign x)(hx:ev (MN N F) x=v)(h:wl ro P N ops Q rest (OL F o.dst v) w):wl ro P N ops Q (o::rest) F w :=
 KJ v hg hd (KX ho hx ⟨rfl,rfl⟩) h
theorem LY{ops:Array Oper}{o:Oper}{rest:List Oper}{f:FuncId}{c:Call}{v:Value}{xs:List Operand}{vs:List Value}(hg:o.guard=none)(hd:Oj N o.dst=true)(ho:o.op = .call c)(hc:c.callee = .value (.func f))(hx:c.args=xs.toArray)(hf:∀ args w,(callFunc f args).run P w = .ok (.enter f args) w)
  (hv:xs.map (ev (MN N F))=vs) (h:Calls P f vs.toArray w (fun e w'=>e = .returned v/\KP (fun _=>False) w w')) (k:∀ w',KP (fun _=>False) w w'->wl ro P N ops Q rest (OL F o.dst v) w'):wl ro P N ops Q (o::rest) F w :=
 Ly (R:=fun u w'=>u=v/\KP (fun _=>False) w w') hg hd (LE ho hc hx hf (K4 _) hv h (fun _ _ hh=>⟨_,hh.1,rfl,hh.2⟩)) (fun _ w' hh=>by obtain⟨h1,h2⟩:=hh;subst h1;exact k w' h2)
end
theorem KP.tr{S:Nat->Prop}{a b c:World}(h:KP S a b)(k:KP (fun _=>False) b c):KP S a c:=h.trans k (fun _ _ x=>x.elim)
section
variable {F G:Nat->Value}
theorem t2(h:∀ i,F i=G i)(i0:Nat){x0:Value}(p0:G i0=x0)(i1:Nat){x1:Value}(p1:G i1=x1):F i0=x0/\F i1=x1 :=
 ⟨(h i0).trans p0,(h i1).trans p1⟩
theorem t3(h:∀ i,F i=G i)(i0:Nat){x0:Value}(p0:G i0=x0)(i1:Nat){x1:Value}(p1:G i1=x1)(i2:Nat){x2:Value}(p2:G i2=x2):F i0=x0/\F i1=x1/\F i2=x2 :=
 ⟨(h i0).trans p0,(h i1).trans p1,(h i2).trans p2⟩
theorem t4(h:∀ i,F i=G i)(i0:Nat){x0:Value}(p0:G i0=x0)(i1:Nat){x1:Value}(p1:G i1=x1)(i2:Nat){x2:Value}(p2:G i2=x2)(i3:Nat){x3:Value}(p3:G i3=x3):F i0=x0/\F i1=x1/\F i2=x2/\F i3=x3 :=
 ⟨(h i0).trans p0,(h i1).trans p1,(h i2).trans p2,(h i3).trans p3⟩
theorem t5(h:∀ i,F i=G i)(i0:Nat){x0:Value}(p0:G i0=x0)(i1:Nat){x1:Value}(p1:G i1=x1)(i2:Nat){x2:Value}(p2:G i2=x2)(i3:Nat){x3:Value}(p3:G i3=x3)(i4:Nat){x4:Value}(p4:G i4=x4):F i0=x0/\F i1=x1/\F i2=x2/\F i3=x3/\F i4=x4 :=
 ⟨(h i0).trans p0,(h i1).trans p1,(h i2).trans p2,(h i3).trans p3,(h i4).trans p4⟩
theorem t6(h:∀ i,F i=G i)(i0:Nat){x0:Value}(p0:G i0=x0)(i1:Nat){x1:Value}(p1:G i1=x1)(i2:Nat){x2:Value}(p2:G i2=x2)(i3:Nat){x3:Value}(p3:G i3=x3)(i4:Nat){x4:Value}(p4:G i4=x4)(i5:Nat){x5:Value}(p5:G i5=x5):F i0=x0/\F i1=x1/\F i2=x2/\F i3=x3/\F i4=x4/\F i5=x5 :=
 ⟨(h i0).trans p0,(h i1).trans p1,(h i2).trans p2,(h i3).trans p3,(h i4).trans p4,(h i5).trans p5⟩
theorem t7(h:∀ i,F i=G i)(i0:Nat){x0:Value}(p0:G i0=x0)(i1:Nat){x1:Value}(p1:G i1=x1)(i2:Nat){x2:Value}(p2:G i2=x2)(i3:Nat){x3:Value}(p3:G i3=x3)(i4:Nat){x4:Value}(p4:G i4=x4)(i5:Nat){x5:Value}(p5:G i5=x5)(i6:Nat){x6:Value}(p6:G i6=x6):F i0=x0/\F i1=x1/\F i2=x2/\F i3=x3/\F i4=x4/\F i5=x5/\F i6=x6 :=
 ⟨(h i0).trans p0,(h i1).trans p1,(h i2).trans p2,(h i3).trans p3,(h i4).trans p4,(h i5).trans p5,(h i6).trans p6⟩
theorem t8(h:∀ i,F i=G i)(i0:Nat){x0:Value}(p0:G i0=x0)(i1:Nat){x1:Value}(p1:G i1=x1)(i2:Nat){x2:Value}(p2:G i2=x2)(i3:Nat){x3:Value}(p3:G i3=x3)(i4:Nat){x4:Value}(p4:G i4=x4)(i5:Nat){x5:Value}(p5:G i5=x5)(i6:Nat){x6:Value}(p6:G i6=x6)(i7:Nat){x7:Value}(p7:G i7=x7):F i0=x0/\F i1=x1/\F i2=x2/\F i3=x3/\F i4=x4/\F i5=x5/\F i6=x6/\F i7=x7 :=
 ⟨(h i0).trans p0,(h i1).trans p1,(h i2).trans p2,(h i3).trans p3,(h i4).trans p4,(h i5).trans p5,(h i6).trans p6,(h i7).trans p7⟩
theorem t9(h:∀ i,F i=G i)(i0:Nat){x0:Value}(p0:G i0=x0)(i1:Nat){x1:Value}(p1:G i1=x1)(i2:Nat){x2:Value}(p2:G i2=x2)(i3:Nat){x3:Value}(p3:G i3=x3)(i4:Nat){x4:Value}(p4:G i4=x4)(i5:Nat){x5:Value}(p5:G i5=x5)(i6:Nat){x6:Value}(p6:G i6=x6)(i7:Nat){x7:Value}(p7:G i7=x7)(i8:Nat){x8:Value}(p8:G i8=x8):F i0=x0/\F i1=x1/\F i2=x2/\F i3=x3/\F i4=x4/\F i5=x5/\F i6=x6/\F i7=x7/\F i8=x8 :=
 ⟨(h i0).trans p0,(h i1).trans p1,(h i2).trans p2,(h i3).trans p3,(h i4).trans p4,(h i5).trans p5,(h i6).trans p6,(h i7).trans p7,(h i8).trans p8⟩
theorem t10(h:∀ i,F i=G i)(i0:Nat){x0:Value}(p0:G i0=x0)(i1:Nat){x1:Value}(p1:G i1=x1)(i2:Nat){x2:Value}(p2:G i2=x2)(i3:Nat){x3:Value}(p3:G i3=x3)(i4:Nat){x4:Value}(p4:G i4=x4)(i5:Nat){x5:Value}(p5:G i5=x5)(i6:Nat){x6:Value}(p6:G i6=x6)(i7:Nat){x7:Value}(p7:G i7=x7)(i8:Nat){x8:Value}(p8:G i8=x8)(i9:Nat){x9:Value}(p9:G i9=x9):F i0=x0/\F i1=x1/\F i2=x2/\F i3=x3/\F i4=x4/\F i5=x5/\F i6=x6/\F i7=x7/\F i8=x8/\F i9=x9 :=
 ⟨(h i0).trans p0,(h i1).trans p1,(h i2).trans p2,(h i3).trans p3,(h i4).trans p4,(h i5).trans p5,(h i6).trans p6,(h i7).trans p7,(h i8).trans p8,(h i9).trans p9⟩
theorem t11(h:∀ i,F i=G i)(i0:Nat){x0:Value}(p0:G i0=x0)(i1:Nat){x1:Value}(p1:G i1=x1)(i2:Nat){x2:Value}(p2:G i2=x2)(i3:Nat){x3:Value}(p3:G i3=x3)(i4:Nat){x4:Value}(p4:G i4=x4)(i5:Nat){x5:Value}(p5:G i5=x5)(i6:Nat){x6:Value}(p6:G i6=x6)(i7:Nat){x7:Value}(p7:G i7=x7)(i8:Nat){x8:Value}(p8:G i8=x8)(i9:Nat){x9:Value}(p9:G i9=x9)(i10:Nat){x10:Value}(p10:G i10=x10):F i0=x0/\F i1=x1/\F i2=x2/\F i3=x3/\F i4=x4/\F i5=x5/\F i6=x6/\F i7=x7/\F i8=x8/\F i9=x9/\F i10=x10 :=
 ⟨(h i0).trans p0,(h i1).trans p1,(h i2).trans p2,(h i3).trans p3,(h i4).trans p4,(h i5).trans p5,(h i6).trans p6,(h i7).trans p7,(h i8).trans p8,(h i9).trans p9,(h i10).trans p10⟩
theorem t12(h:∀ i,F i=G i)(i0:Nat){x0:Value}(p0:G i0=x0)(i1:Nat){x1:Value}(p1:G i1=x1)(i2:Nat){x2:Value}(p2:G i2=x2)(i3:Nat){x3:Value}(p3:G i3=x3)(i4:Nat){x4:Value}(p4:G i4=x4)(i5:Nat){x5:Value}(p5:G i5=x5)(i6:Nat){x6:Value}(p6:G i6=x6)(i7:Nat){x7:Value}(p7:G i7=x7)(i8:Nat){x8:Value}(p8:G i8=x8)(i9:Nat){x9:Value}(p9:G i9=x9)(i10:Nat){x10:Value}(p10:G i10=x10)(i11:Nat){x11:Value}(p11:G i11=x11):F i0=x0/\F i1=x1/\F i2=x2/\F i3=x3/\F i4=x4/\F i5=x5/\F i6=x6/\F i7=x7/\F i8=x8/\F i9=x9/\F i10=x10/\F i11=x11 :=
 ⟨(h i0).trans p0,(h i1).trans p1,(h i2).trans p2,(h i3).trans p3,(h i4).trans p4,(h i5).trans p5,(h i6).trans p6,(h i7).trans p7,(h i8).trans p8,(h i9).trans p9,(h i10).trans p10,(h i11).trans p11⟩
theorem t13(h:∀ i,F i=G i)(i0:Nat){x0:Value}(p0:G i0=x0)(i1:Nat){x1:Value}(p1:G i1=x1)(i2:Nat){x2:Value}(p2:G i2=x2)(i3:Nat){x3:Value}(p3:G i3=x3)(i4:Nat){x4:Value}(p4:G i4=x4)(i5:Nat){x5:Value}(p5:G i5=x5)(i6:Nat){x6:Value}(p6:G i6=x6)(i7:Nat){x7:Value}(p7:G i7=x7)(i8:Nat){x8:Value}(p8:G i8=x8)(i9:Nat){x9:Value}(p9:G i9=x9)(i10:Nat){x10:Value}(p10:G i10=x10)(i11:Nat){x11:Value}(p11:G i11=x11)(i12:Nat){x12:Value}(p12:G i12=x12):F i0=x0/\F i1=x1/\F i2=x2/\F i3=x3/\F i4=x4/\F i5=x5/\F i6=x6/\F i7=x7/\F i8=x8/\F i9=x9/\F i10=x10/\F i11=x11/\F i12=x12 :=
 ⟨(h i0).trans p0,(h i1).trans p1,(h i2).trans p2,(h i3).trans p3,(h i4).trans p4,(h i5).trans p5,(h i6).trans p6,(h i7).trans p7,(h i8).trans p8,(h i9).trans p9,(h i10).trans p10,(h i11).trans p11,(h i12).trans p12⟩
theorem t14(h:∀ i,F i=G i)(i0:Nat){x0:Value}(p0:G i0=x0)(i1:Nat){x1:Value}(p1:G i1=x1)(i2:Nat){x2:Value}(p2:G i2=x2)(i3:Nat){x3:Value}(p3:G i3=x3)(i4:Nat){x4:Value}(p4:G i4=x4)(i5:Nat){x5:Value}(p5:G i5=x5)(i6:Nat){x6:Value}(p6:G i6=x6)(i7:Nat){x7:Value}(p7:G i7=x7)(i8:Nat){x8:Value}(p8:G i8=x8)(i9:Nat){x9:Value}(p9:G i9=x9)(i10:Nat){x10:Value}(p10:G i10=x10)(i11:Nat){x11:Value}(p11:G i11=x11)(i12:Nat){x12:Value}(p12:G i12=x12)(i13:Nat){x13:Value}(p13:G i13=x13):F i0=x0/\F i1=x1/\F i2=x2/\F i3=x3/\F i4=x4/\F i5=x5/\F i6=x6/\F i7=x7/\F i8=x8/\F i9=x9/\F i10=x10/\F i11=x11/\F i12=x12/\F i13=x13 :=
 ⟨(h i0).trans p0,(h i1).trans p1,(h i2).trans p2,(h i3).trans p3,(h i4).trans p4,(h i5).trans p5,(h i6).trans p6,(h i7).trans p7,(h i8).trans p8,(h i9).trans p9,(h i10).trans p10,(h i11).trans p11,(h i12).trans p12,(h i13).trans p13⟩
theorem t15(h:∀ i,F i=G i)(i0:Nat){x0:Value}(p0:G i0=x0)(i1:Nat){x1:Value}(p1:G i1=x1)(i2:Nat){x2:Value}(p2:G i2=x2)(i3:Nat){x3:Value}(p3:G i3=x3)(i4:Nat){x4:Value}(p4:G i4=x4)(i5:Nat){x5:Value}(p5:G i5=x5)(i6:Nat){x6:Value}(p6:G i6=x6)(i7:Nat){x7:Value}(p7:G i7=x7)(i8:Nat){x8:Value}(p8:G i8=x8)(i9:Nat){x9:Value}(p9:G i9=x9)(i10:Nat){x10:Value}(p10:G i10=x10)(i11:Nat){x11:Value}(p11:G i11=x11)(i12:Nat){x12:Value}(p12:G i12=x12)(i13:Nat){x13:Value}(p13:G i13=x13)(i14:Nat){x14:Value}(p14:G i14=x14):F i0=x0/\F i1=x1/\F i2=x2/\F i3=x3/\F i4=x4/\F i5=x5/\F i6=x6/\F i7=x7/\F i8=x8/\F i9=x9/\F i10=x10/\F i11=x11/\F i12=x12/\F i13=x13/\F i14=x14 :=
 ⟨(h i0).trans p0,(h i1).trans p1,(h i2).trans p2,(h i3).trans p3,(h i4).trans p4,(h i5).trans p5,(h i6).trans p6,(h i7).trans p7,(h i8).trans p8,(h i9).trans p9,(h i10).trans p10,(h i11).trans p11,(h i12).trans p12,(h i13).trans p13,(h i14).trans p14⟩
theorem t17(h:∀ i,F i=G i)(i0:Nat){x0:Value}(p0:G i0=x0)(i1:Nat){x1:Value}(p1:G i1=x1)(i2:Nat){x2:Value}(p2:G i2=x2)(i3:Nat){x3:Value}(p3:G i3=x3)(i4:Nat){x4:Value}(p4:G i4=x4)(i5:Nat){x5:Value}(p5:G i5=x5)(i6:Nat){x6:Value}(p6:G i6=x6)(i7:Nat){x7:Value}(p7:G i7=x7)(i8:Nat){x8:Value}(p8:G i8=x8)(i9:Nat){x9:Value}(p9:G i9=x9)(i10:Nat){x10:Value}(p10:G i10=x10)(i11:Nat){x11:Value}(p11:G i11=x11)(i12:Nat){x12:Value}(p12:G i12=x12)(i13:Nat){x13:Value}(p13:G i13=x13)(i14:Nat){x14:Value}(p14:G i14=x14)(i15:Nat){x15:Value}(p15:G i15=x15)(i16:Nat){x16:Value}(p16:G i16=x16):F i0=x0/\F i1=x1/\F i2=x2/\F i3=x3/\F i4=x4/\F i5=x5/\F i6=x6/\F i7=x7/\F i8=x8/\F i9=x9/\F i10=x10/\F i11=x11/\F i12=x12/\F i13=x13/\F i14=x14/\F i15=x15/\F i16=x16 :=
 ⟨(h i0).trans p0,(h i1).trans p1,(h i2).trans p2,(h i3).trans p3,(h i4).trans p4,(h i5).trans p5,(h i6).trans p6,(h i7).trans p7,(h i8).trans p8,(h i9).trans p9,(h i10).trans p10,(h i11).trans p11,(h i12).trans p12,(h i13).trans p13,(h i14).trans p14,(h i15).trans p15,(h i16).trans p16⟩
theorem t19(h:∀ i,F i=G i)(i0:Nat){x0:Value}(p0:G i0=x0)(i1:Nat){x1:Value}(p1:G i1=x1)(i2:Nat){x2:Value}(p2:G i2=x2)(i3:Nat){x3:Value}(p3:G i3=x3)(i4:Nat){x4:Value}(p4:G i4=x4)(i5:Nat){x5:Value}(p5:G i5=x5)(i6:Nat){x6:Value}(p6:G i6=x6)(i7:Nat){x7:Value}(p7:G i7=x7)(i8:Nat){x8:Value}(p8:G i8=x8)(i9:Nat){x9:Value}(p9:G i9=x9)(i10:Nat){x10:Value}(p10:G i10=x10)(i11:Nat){x11:Value}(p11:G i11=x11)(i12:Nat){x12:Value}(p12:G i12=x12)(i13:Nat){x13:Value}(p13:G i13=x13)(i14:Nat){x14:Value}(p14:G i14=x14)(i15:Nat){x15:Value}(p15:G i15=x15)(i16:Nat){x16:Value}(p16:G i16=x16)(i17:Nat){x17:Value}(p17:G i17=x17)(i18:Nat){x18:Value}(p18:G i18=x18):F i0=x0/\F i1=x1/\F i2=x2/\F i3=x3/\F i4=x4/\F i5=x5/\F i6=x6/\F i7=x7/\F i8=x8/\F i9=x9/\F i10=x10/\F i11=x11/\F i12=x12/\F i13=x13/\F i14=x14/\F i15=x15/\F i16=x16/\F i17=x17/\F i18=x18 :=
 ⟨(h i0).trans p0,(h i1).trans p1,(h i2).trans p2,(h i3).trans p3,(h i4).trans p4,(h i5).trans p5,(h i6).trans p6,(h i7).trans p7,(h i8).trans p8,(h i9).trans p9,(h i10).trans p10,(h i11).trans p11,(h i12).trans p12,(h i13).trans p13,(h i14).trans p14,(h i15).trans p15,(h i16).trans p16,(h i17).trans p17,(h i18).trans p18⟩
theorem t20(h:∀ i,F i=G i)(i0:Nat){x0:Value}(p0:G i0=x0)(i1:Nat){x1:Value}(p1:G i1=x1)(i2:Nat){x2:Value}(p2:G i2=x2)(i3:Nat){x3:Value}(p3:G i3=x3)(i4:Nat){x4:Value}(p4:G i4=x4)(i5:Nat){x5:Value}(p5:G i5=x5)(i6:Nat){x6:Value}(p6:G i6=x6)(i7:Nat){x7:Value}(p7:G i7=x7)(i8:Nat){x8:Value}(p8:G i8=x8)(i9:Nat){x9:Value}(p9:G i9=x9)(i10:Nat){x10:Value}(p10:G i10=x10)(i11:Nat){x11:Value}(p11:G i11=x11)(i12:Nat){x12:Value}(p12:G i12=x12)(i13:Nat){x13:Value}(p13:G i13=x13)(i14:Nat){x14:Value}(p14:G i14=x14)(i15:Nat){x15:Value}(p15:G i15=x15)(i16:Nat){x16:Value}(p16:G i16=x16)(i17:Nat){x17:Value}(p17:G i17=x17)(i18:Nat){x18:Value}(p18:G i18=x18)(i19:Nat){x19:Value}(p19:G i19=x19):F i0=x0/\F i1=x1/\F i2=x2/\F i3=x3/\F i4=x4/\F i5=x5/\F i6=x6/\F i7=x7/\F i8=x8/\F i9=x9/\F i10=x10/\F i11=x11/\F i12=x12/\F i13=x13/\F i14=x14/\F i15=x15/\F i16=x16/\F i17=x17/\F i18=x18/\F i19=x19 :=
 ⟨(h i0).trans p0,(h i1).trans p1,(h i2).trans p2,(h i3).trans p3,(h i4).trans p4,(h i5).trans p5,(h i6).trans p6,(h i7).trans p7,(h i8).trans p8,(h i9).trans p9,(h i10).trans p10,(h i11).trans p11,(h i12).trans p12,(h i13).trans p13,(h i14).trans p14,(h i15).trans p15,(h i16).trans p16,(h i17).trans p17,(h i18).trans p18,(h i19).trans p19⟩
end
end Go.Proofs.YtknjpdcpmpfklaaGreatDoor
set_option maxRecDepth 100000
namespace Go.Proofs.YtknjpdcpmpfklaaGreatDoor
open Go.RowKit
def KS(w:World)(T T':Nat->Prop):Prop:=∀ i,T' i->T i\/w.heap.size<=i
def KM(T U:Nat->Prop):Prop:=∀ i,T i->¬ U i
def Ma:Nat->Prop:=fun _=>False
def Pb(w:World)(T:Nat->Prop):Prop:=∀ i,T i->i<w.heap.size
theorem KS.refl(w:World)(T:Nat->Prop):KS w T T:=fun _ h=>.inl h
theorem KS.trans{S:Nat->Prop}{w0 w:World}{B T T':Nat->Prop}(h:KS w0 B T)(k:KP S w0 w)(g:KS w T T'):KS w0 B T':=fun i hi=>by
 rcases g i hi with h1|h1
 ·exact h i h1
 ·exact .inr (Nat.le_trans k.size h1)
theorem KS.new{S:Nat->Prop}{w0 w:World}{T:Nat->Prop}(k:KP S w0 w)(g:KS w Ma T):KS w0 Ma T:=(KS.refl w0 Ma).trans k g
theorem KS.weak{w0:World}{B B' T:Nat->Prop}(h:KS w0 B T)(hb:∀ i,B i->B' i):KS w0 B' T:=fun i hi=>(h i hi).elim (fun x=>.inl (hb i x)) .inr
theorem KS.ok{w0:World}{B T S:Nat->Prop}(h:KS w0 B T)(hb:∀ i,B i->S i):∀ i,i<w0.heap.size->T i->S i:=fun i hi ht=>by
 rcases h i ht with h1|h1
 ·exact hb i h1
 ·omega
theorem K6{S:Nat->Prop}:∀ i,Ma i->S i:=fun _ h=>h.elim
theorem KM.symm{T U:Nat->Prop}(h:KM T U):KM U T:=fun i hu ht=>h i ht hu
theorem KM.grew{w:World}{T T' U:Nat->Prop}(h:KM T U)(g:KS w T T')(hl:Pb w U):KM T' U:=fun i ht hu=>by
 rcases g i ht with h1|h1
 ·exact h i h1 hu
 ·have:=hl i hu;omega
theorem KM.new{w:World}{T' U:Nat->Prop}(g:KS w Ma T')(hl:Pb w U):KM T' U:=KM.grew (T:=Ma) (fun _ h=>h.elim) g hl
theorem KM.none{T:Nat->Prop}:KM T Ma:=fun _ _ h=>h
def Lh(p:Nat):Nat->Prop:=fun i=>i=p
theorem LV{w:World}{p:Nat}(h:w.heap.size<=p):KS w Ma (Lh p):=fun i hi=>.inr (by unfold Lh at hi;omega)
theorem LO{w:World}{p:Nat}(h:p<w.heap.size):Pb w (Lh p):=fun i hi=>by unfold Lh at hi;omega
class Cr (w w':World) (A:Prop) (B:outParam Prop):Prop where
 c:A->KP (fun _=>False) w w'->B
class Lv (w:World) (A:Prop) (T:outParam (Nat->Prop)):Prop where
 c:A->Pb w T
theorem NL{w w':World}{A0 B0:Prop}[Cr w w' A0 B0]{A1 B1:Prop}[Cr w w' A1 B1](k:KP (fun _=>False) w w')(h0:A0)(h1:A1):B0/\B1:=⟨Cr.c h0 k,Cr.c h1 k⟩
theorem ND{w w':World}{A0 B0:Prop}[Cr w w' A0 B0]{A1 B1:Prop}[Cr w w' A1 B1]{A2 B2:Prop}[Cr w w' A2 B2](k:KP (fun _=>False) w w')(h0:A0)(h1:A1)(h2:A2):B0/\B1/\B2:=⟨Cr.c h0 k,Cr.c h1 k,Cr.c h2 k⟩
theorem OW{w w':World}{A0 B0:Prop}[Cr w w' A0 B0]{A1 B1:Prop}[Cr w w' A1 B1]{A2 B2:Prop}[Cr w w' A2 B2]{A3 B3:Prop}[Cr w w' A3 B3](k:KP (fun _=>False) w w')(h0:A0)(h1:A1)(h2:A2)(h3:A3):B0/\B1/\B2/\B3:=⟨Cr.c h0 k,Cr.c h1 k,Cr.c h2 k,Cr.c h3 k⟩
theorem OJ{w w':World}{A0 B0:Prop}[Cr w w' A0 B0]{A1 B1:Prop}[Cr w w' A1 B1]{A2 B2:Prop}[Cr w w' A2 B2]{A3 B3:Prop}[Cr w w' A3 B3]{A4 B4:Prop}[Cr w w' A4 B4](k:KP (fun _=>False) w w')(h0:A0)(h1:A1)(h2:A2)(h3:A3)(h4:A4):B0/\B1/\B2/\B3/\B4:=⟨Cr.c h0 k,Cr.c h1 k,Cr.c h2 k,Cr.c h3 k,Cr.c h4 k⟩
theorem Qz{w w':World}{A0 B0:Prop}[Cr w w' A0 B0]{A1 B1:Prop}[Cr w w' A1 B1]{A2 B2:Prop}[Cr w w' A2 B2]{A3 B3:Prop}[Cr w w' A3 B3]{A4 B4:Prop}[Cr w w' A4 B4]{A5 B5:Prop}[Cr w w' A5 B5](k:KP (fun _=>False) w w')(h0:A0)(h1:A1)(h2:A2)(h3:A3)(h4:A4)(h5:A5):B0/\B1/\B2/\B3/\B4/\B5:=⟨Cr.c h0 k,Cr.c h1 k,Cr.c h2 k,Cr.c h3 k,Cr.c h4 k,Cr.c h5 k⟩
theorem SO{w w':World}{A0 B0:Prop}[Cr w w' A0 B0]{A1 B1:Prop}[Cr w w' A1 B1]{A2 B2:Prop}[Cr w w' A2 B2]{A3 B3:Prop}[Cr w w' A3 B3]{A4 B4:Prop}[Cr w w' A4 B4]{A5 B5:Prop}[Cr w w' A5 B5]{A6 B6:Prop}[Cr w w' A6 B6](k:KP (fun _=>False) w w')(h0:A0)(h1:A1)(h2:A2)(h3:A3)(h4:A4)(h5:A5)(h6:A6):B0/\B1/\B2/\B3/\B4/\B5/\B6:=⟨Cr.c h0 k,Cr.c h1 k,Cr.c h2 k,Cr.c h3 k,Cr.c h4 k,Cr.c h5 k,Cr.c h6 k⟩
theorem Xj{w w':World}{A0 B0:Prop}[Cr w w' A0 B0]{A1 B1:Prop}[Cr w w' A1 B1]{A2 B2:Prop}[Cr w w' A2 B2]{A3 B3:Prop}[Cr w w' A3 B3]{A4 B4:Prop}[Cr w w' A4 B4]{A5 B5:Prop}[Cr w w' A5 B5]{A6 B6:Prop}[Cr w w' A6 B6]{A7 B7:Prop}[Cr w w' A7 B7](k:KP (fun _=>False) w w')(h0:A0)(h1:A1)(h2:A2)(h3:A3)(h4:A4)(h5:A5)(h6:A6)(h7:A7):B0/\B1/\B2/\B3/\B4/\B5/\B6/\B7:=⟨Cr.c h0 k,Cr.c h1 k,Cr.c h2 k,Cr.c h3 k,Cr.c h4 k,Cr.c h5 k,Cr.c h6 k,Cr.c h7 k⟩
theorem X9{w w':World}{A0 B0:Prop}[Cr w w' A0 B0]{A1 B1:Prop}[Cr w w' A1 B1]{A2 B2:Prop}[Cr w w' A2 B2]{A3 B3:Prop}[Cr w w' A3 B3]{A4 B4:Prop}[Cr w w' A4 B4]{A5 B5:Prop}[Cr w w' A5 B5]{A6 B6:Prop}[Cr w w' A6 B6]{A7 B7:Prop}[Cr w w' A7 B7]{A8 B8:Prop}[Cr w w' A8 B8](k:KP (fun _=>False) w w')(h0:A0)(h1:A1)(h2:A2)(h3:A3)(h4:A4)(h5:A5)(h6:A6)(h7:A7)(h8:A8):B0/\B1/\B2/\B3/\B4/\B5/\B6/\B7/\B8:=⟨Cr.c h0 k,Cr.c h1 k,Cr.c h2 k,Cr.c h3 k,Cr.c h4 k,Cr.c h5 k,Cr.c h6 k,Cr.c h7 k,Cr.c h8 k⟩
theorem Sn{w w':World}{A0 B0:Prop}[Cr w w' A0 B0]{A1 B1:Prop}[Cr w w' A1 B1]{A2 B2:Prop}[Cr w w' A2 B2]{A3 B3:Prop}[Cr w w' A3 B3]{A4 B4:Prop}[Cr w w' A4 B4]{A5 B5:Prop}[Cr w w' A5 B5]{A6 B6:Prop}[Cr w w' A6 B6]{A7 B7:Prop}[Cr w w' A7 B7]{A8 B8:Prop}[Cr w w' A8 B8]{A9 B9:Prop}[Cr w w' A9 B9](k:KP (fun _=>False) w w')(h0:A0)(h1:A1)(h2:A2)(h3:A3)(h4:A4)(h5:A5)(h6:A6)(h7:A7)(h8:A8)(h9:A9):B0/\B1/\B2/\B3/\B4/\B5/\B6/\B7/\B8/\B9:=⟨Cr.c h0 k,Cr.c h1 k,Cr.c h2 k,Cr.c h3 k,Cr.c h4 k,Cr.c h5 k,Cr.c h6 k,Cr.c h7 k,Cr.c h8 k,Cr.c h9 k⟩
theorem Oa{w w':World}{A0 B0:Prop}[Cr w w' A0 B0]{A1 B1:Prop}[Cr w w' A1 B1]{A2 B2:Prop}[Cr w w' A2 B2]{A3 B3:Prop}[Cr w w' A3 B3]{A4 B4:Prop}[Cr w w' A4 B4]{A5 B5:Prop}[Cr w w' A5 B5]{A6 B6:Prop}[Cr w w' A6 B6]{A7 B7:Prop}[Cr w w' A7 B7]{A8 B8:Prop}[Cr w w' A8 B8]{A9 B9:Prop}[Cr w w' A9 B9]{A10 B10:Prop}[Cr w w' A10 B10](k:KP (fun _=>False) w w')(h0:A0)(h1:A1)(h2:A2)(h3:A3)(h4:A4)(h5:A5)(h6:A6)(h7:A7)(h8:A8)(h9:A9)(h10:A10):B0/\B1/\B2/\B3/\B4/\B5/\B6/\B7/\B8/\B9/\B10:=⟨Cr.c h0 k,Cr.c h1 k,Cr.c h2 k,Cr.c h3 k,Cr.c h4 k,Cr.c h5 k,Cr.c h6 k,Cr.c h7 k,Cr.c h8 k,Cr.c h9 k,Cr.c h10 k⟩
theorem azK{w w':World}{A0 B0:Prop}[Cr w w' A0 B0]{A1 B1:Prop}[Cr w w' A1 B1]{A2 B2:Prop}[Cr w w' A2 B2]{A3 B3:Prop}[Cr w w' A3 B3]{A4 B4:Prop}[Cr w w' A4 B4]{A5 B5:Prop}[Cr w w' A5 B5]{A6 B6:Prop}[Cr w w' A6 B6]{A7 B7:Prop}[Cr w w' A7 B7]{A8 B8:Prop}[Cr w w' A8 B8]{A9 B9:Prop}[Cr w w' A9 B9]{A10 B10:Prop}[Cr w w' A10 B10]{A11 B11:Prop}[Cr w w' A11 B11](k:KP (fun _=>False) w w')(h0:A0)(h1:A1)(h2:A2)(h3:A3)(h4:A4)(h5:A5)(h6:A6)(h7:A7)(h8:A8)(h9:A9)(h10:A10)(h11:A11):B0/\B1/\B2/\B3/\B4/\B5/\B6/\B7/\B8/\B9/\B10/\B11:=⟨Cr.c h0 k,Cr.c h1 k,Cr.c h2 k,Cr.c h3 k,Cr.c h4 k,Cr.c h5 k,Cr.c h6 k,Cr.c h7 k,Cr.c h8 k,Cr.c h9 k,Cr.c h10 k,Cr.c h11 k⟩
theorem Uo{w w':World}{A0 B0:Prop}[Cr w w' A0 B0]{A1 B1:Prop}[Cr w w' A1 B1]{A2 B2:Prop}[Cr w w' A2 B2]{A3 B3:Prop}[Cr w w' A3 B3]{A4 B4:Prop}[Cr w w' A4 B4]{A5 B5:Prop}[Cr w w' A5 B5]{A6 B6:Prop}[Cr w w' A6 B6]{A7 B7:Prop}[Cr w w' A7 B7]{A8 B8:Prop}[Cr w w' A8 B8]{A9 B9:Prop}[Cr w w' A9 B9]{A10 B10:Prop}[Cr w w' A10 B10]{A11 B11:Prop}[Cr w w' A11 B11]{A12 B12:Prop}[Cr w w' A12 B12](k:KP (fun _=>False) w w')(h0:A0)(h1:A1)(h2:A2)(h3:A3)(h4:A4)(h5:A5)(h6:A6)(h7:A7)(h8:A8)(h9:A9)(h10:A10)(h11:A11)(h12:A12):B0/\B1/\B2/\B3/\B4/\B5/\B6/\B7/\B8/\B9/\B10/\B11/\B12:=⟨Cr.c h0 k,Cr.c h1 k,Cr.c h2 k,Cr.c h3 k,Cr.c h4 k,Cr.c h5 k,Cr.c h6 k,Cr.c h7 k,Cr.c h8 k,Cr.c h9 k,Cr.c h10 k,Cr.c h11 k,Cr.c h12 k⟩
theorem OB{w w':World}{A0 B0:Prop}[Cr w w' A0 B0]{A1 B1:Prop}[Cr w w' A1 B1]{A2 B2:Prop}[Cr w w' A2 B2]{A3 B3:Prop}[Cr w w' A3 B3]{A4 B4:Prop}[Cr w w' A4 B4]{A5 B5:Prop}[Cr w w' A5 B5]{A6 B6:Prop}[Cr w w' A6 B6]{A7 B7:Prop}[Cr w w' A7 B7]{A8 B8:Prop}[Cr w w' A8 B8]{A9 B9:Prop}[Cr w w' A9 B9]{A10 B10:Prop}[Cr w w' A10 B10]{A11 B11:Prop}[Cr w w' A11 B11]{A12 B12:Prop}[Cr w w' A12 B12]{A13 B13:Prop}[Cr w w' A13 B13](k:KP (fun _=>False) w w')(h0:A0)(h1:A1)(h2:A2)(h3:A3)(h4:A4)(h5:A5)(h6:A6)(h7:A7)(h8:A8)(h9:A9)(h10:A10)(h11:A11)(h12:A12)(h13:A13):B0/\B1/\B2/\B3/\B4/\B5/\B6/\B7/\B8/\B9/\B10/\B11/\B12/\B13:=⟨Cr.c h0 k,Cr.c h1 k,Cr.c h2 k,Cr.c h3 k,Cr.c h4 k,Cr.c h5 k,Cr.c h6 k,Cr.c h7 k,Cr.c h8 k,Cr.c h9 k,Cr.c h10 k,Cr.c h11 k,Cr.c h12 k,Cr.c h13 k⟩
theorem S3{w:World}{T:Nat->Prop}{A0:Prop}{T0:Nat->Prop}[Lv w A0 T0]{A1:Prop}{T1:Nat->Prop}[Lv w A1 T1](g:KS w Ma T)(h0:A0)(h1:A1):KM T T0/\KM T T1:=⟨KM.new g (Lv.c h0),KM.new g (Lv.c h1)⟩
theorem Tn{w:World}{T:Nat->Prop}{A0:Prop}{T0:Nat->Prop}[Lv w A0 T0]{A1:Prop}{T1:Nat->Prop}[Lv w A1 T1]{A2:Prop}{T2:Nat->Prop}[Lv w A2 T2](g:KS w Ma T)(h0:A0)(h1:A1)(h2:A2):KM T T0/\KM T T1/\KM T T2:=⟨KM.new g (Lv.c h0),KM.new g (Lv.c h1),KM.new g (Lv.c h2)⟩
theorem VK{w:World}{T:Nat->Prop}{A0:Prop}{T0:Nat->Prop}[Lv w A0 T0]{A1:Prop}{T1:Nat->Prop}[Lv w A1 T1]{A2:Prop}{T2:Nat->Prop}[Lv w A2 T2]{A3:Prop}{T3:Nat->Prop}[Lv w A3 T3](g:KS w Ma T)(h0:A0)(h1:A1)(h2:A2)(h3:A3):KM T T0/\KM T T1/\KM T T2/\KM T T3:=⟨KM.new g (Lv.c h0),KM.new g (Lv.c h1),KM.new g (Lv.c h2),KM.new g (Lv.c h3)⟩
theorem ayR{w:World}{T:Nat->Prop}{A0:Prop}{T0:Nat->Prop}[Lv w A0 T0]{A1:Prop}{T1:Nat->Prop}[Lv w A1 T1]{A2:Prop}{T2:Nat->Prop}[Lv w A2 T2]{A3:Prop}{T3:Nat->Prop}[Lv w A3 T3]{A4:Prop}{T4:Nat->Prop}[Lv w A4 T4](g:KS w Ma T)(h0:A0)(h1:A1)(h2:A2)(h3:A3)(h4:A4):KM T T0/\KM T T1/\KM T T2/\KM T T3/\KM T T4:=⟨KM.new g (Lv.c h0),KM.new g (Lv.c h1),KM.new g (Lv.c h2),KM.new g (Lv.c h3),KM.new g (Lv.c h4)⟩
theorem Vk{w:World}{T:Nat->Prop}{A0:Prop}{T0:Nat->Prop}[Lv w A0 T0]{A1:Prop}{T1:Nat->Prop}[Lv w A1 T1]{A2:Prop}{T2:Nat->Prop}[Lv w A2 T2]{A3:Prop}{T3:Nat->Prop}[Lv w A3 T3]{A4:Prop}{T4:Nat->Prop}[Lv w A4 T4]{A5:Prop}{T5:Nat->Prop}[Lv w A5 T5](g:KS w Ma T)(h0:A0)(h1:A1)(h2:A2)(h3:A3)(h4:A4)(h5:A5):KM T T0/\KM T T1/\KM T T2/\KM T T3/\KM T T4/\KM T T5:=⟨KM.new g (Lv.c h0),KM.new g (Lv.c h1),KM.new g (Lv.c h2),KM.new g (Lv.c h3),KM.new g (Lv.c h4),KM.new g (Lv.c h5)⟩
theorem aDK{w:World}{T:Nat->Prop}{A0:Prop}{T0:Nat->Prop}[Lv w A0 T0]{A1:Prop}{T1:Nat->Prop}[Lv w A1 T1]{A2:Prop}{T2:Nat->Prop}[Lv w A2 T2]{A3:Prop}{T3:Nat->Prop}[Lv w A3 T3]{A4:Prop}{T4:Nat->Prop}[Lv w A4 T4]{A5:Prop}{T5:Nat->Prop}[Lv w A5 T5]{A6:Prop}{T6:Nat->Prop}[Lv w A6 T6](g:KS w Ma T)(h0:A0)(h1:A1)(h2:A2)(h3:A3)(h4:A4)(h5:A5)(h6:A6):KM T T0/\KM T T1/\KM T T2/\KM T T3/\KM T T4/\KM T T5/\KM T T6:=⟨KM.new g (Lv.c h0),KM.new g (Lv.c h1),KM.new g (Lv.c h2),KM.new g (Lv.c h3),KM.new g (Lv.c h4),KM.new g (Lv.c h5),KM.new g (Lv.c h6)⟩
theorem W9{w:World}{T:Nat->Prop}{A0:Prop}{T0:Nat->Prop}[Lv w A0 T0]{A1:Prop}{T1:Nat->Prop}[Lv w A1 T1]{A2:Prop}{T2:Nat->Prop}[Lv w A2 T2]{A3:Prop}{T3:Nat->Prop}[Lv w A3 T3]{A4:Prop}{T4:Nat->Prop}[Lv w A4 T4]{A5:Prop}{T5:Nat->Prop}[Lv w A5 T5]{A6:Prop}{T6:Nat->Prop}[Lv w A6 T6]{A7:Prop}{T7:Nat->Prop}[Lv w A7 T7](g:KS w Ma T)(h0:A0)(h1:A1)(h2:A2)(h3:A3)(h4:A4)(h5:A5)(h6:A6)(h7:A7):KM T T0/\KM T T1/\KM T T2/\KM T T3/\KM T T4/\KM T T5/\KM T T6/\KM T T7:=⟨KM.new g (Lv.c h0),KM.new g (Lv.c h1),KM.new g (Lv.c h2),KM.new g (Lv.c h3),KM.new g (Lv.c h4),KM.new g (Lv.c h5),KM.new g (Lv.c h6),KM.new g (Lv.c h7)⟩
theorem aDM{w:World}{T:Nat->Prop}{A0:Prop}{T0:Nat->Prop}[Lv w A0 T0]{A1:Prop}{T1:Nat->Prop}[Lv w A1 T1]{A2:Prop}{T2:Nat->Prop}[Lv w A2 T2]{A3:Prop}{T3:Nat->Prop}[Lv w A3 T3]{A4:Prop}{T4:Nat->Prop}[Lv w A4 T4]{A5:Prop}{T5:Nat->Prop}[Lv w A5 T5]{A6:Prop}{T6:Nat->Prop}[Lv w A6 T6]{A7:Prop}{T7:Nat->Prop}[Lv w A7 T7]{A8:Prop}{T8:Nat->Prop}[Lv w A8 T8](g:KS w Ma T)(h0:A0)(h1:A1)(h2:A2)(h3:A3)(h4:A4)(h5:A5)(h6:A6)(h7:A7)(h8:A8):KM T T0/\KM T T1/\KM T T2/\KM T T3/\KM T T4/\KM T T5/\KM T T6/\KM T T7/\KM T T8:=⟨KM.new g (Lv.c h0),KM.new g (Lv.c h1),KM.new g (Lv.c h2),KM.new g (Lv.c h3),KM.new g (Lv.c h4),KM.new g (Lv.c h5),KM.new g (Lv.c h6),KM.new g (Lv.c h7),KM.new g (Lv.c h8)⟩
theorem aDn{w:World}{T:Nat->Prop}{A0:Prop}{T0:Nat->Prop}[Lv w A0 T0]{A1:Prop}{T1:Nat->Prop}[Lv w A1 T1]{A2:Prop}{T2:Nat->Prop}[Lv w A2 T2]{A3:Prop}{T3:Nat->Prop}[Lv w A3 T3]{A4:Prop}{T4:Nat->Prop}[Lv w A4 T4]{A5:Prop}{T5:Nat->Prop}[Lv w A5 T5]{A6:Prop}{T6:Nat->Prop}[Lv w A6 T6]{A7:Prop}{T7:Nat->Prop}[Lv w A7 T7]{A8:Prop}{T8:Nat->Prop}[Lv w A8 T8]{A9:Prop}{T9:Nat->Prop}[Lv w A9 T9](g:KS w Ma T)(h0:A0)(h1:A1)(h2:A2)(h3:A3)(h4:A4)(h5:A5)(h6:A6)(h7:A7)(h8:A8)(h9:A9):KM T T0/\KM T T1/\KM T T2/\KM T T3/\KM T T4/\KM T T5/\KM T T6/\KM T T7/\KM T T8/\KM T T9:=⟨KM.new g (Lv.c h0),KM.new g (Lv.c h1),KM.new g (Lv.c h2),KM.new g (Lv.c h3),KM.new g (Lv.c h4),KM.new g (Lv.c h5),KM.new g (Lv.c h6),KM.new g (Lv.c h7),KM.new g (Lv.c h8),KM.new g (Lv.c h9)⟩
theorem aD1{w:World}{T:Nat->Prop}{A0:Prop}{T0:Nat->Prop}[Lv w A0 T0]{A1:Prop}{T1:Nat->Prop}[Lv w A1 T1]{A2:Prop}{T2:Nat->Prop}[Lv w A2 T2]{A3:Prop}{T3:Nat->Prop}[Lv w A3 T3]{A4:Prop}{T4:Nat->Prop}[Lv w A4 T4]{A5:Prop}{T5:Nat->Prop}[Lv w A5 T5]{A6:Prop}{T6:Nat->Prop}[Lv w A6 T6]{A7:Prop}{T7:Nat->Prop}[Lv w A7 T7]{A8:Prop}{T8:Nat->Prop}[Lv w A8 T8]{A9:Prop}{T9:Nat->Prop}[Lv w A9 T9]{A10:Prop}{T10:Nat->Prop}[Lv w A10 T10](g:KS w Ma T)(h0:A0)(h1:A1)(h2:A2)(h3:A3)(h4:A4)(h5:A5)(h6:A6)(h7:A7)(h8:A8)(h9:A9)(h10:A10):KM T T0/\KM T T1/\KM T T2/\KM T T3/\KM T T4/\KM T T5/\KM T T6/\KM T T7/\KM T T8/\KM T T9/\KM T T10:=⟨KM.new g (Lv.c h0),KM.new g (Lv.c h1),KM.new g (Lv.c h2),KM.new g (Lv.c h3),KM.new g (Lv.c h4),KM.new g (Lv.c h5),KM.new g (Lv.c h6),KM.new g (Lv.c h7),KM.new g (Lv.c h8),KM.new g (Lv.c h9),KM.new g (Lv.c h10)⟩
theorem aDZ{w:World}{T:Nat->Prop}{A0:Prop}{T0:Nat->Prop}[Lv w A0 T0]{A1:Prop}{T1:Nat->Prop}[Lv w A1 T1]{A2:Prop}{T2:Nat->Prop}[Lv w A2 T2]{A3:Prop}{T3:Nat->Prop}[Lv w A3 T3]{A4:Prop}{T4:Nat->Prop}[Lv w A4 T4]{A5:Prop}{T5:Nat->Prop}[Lv w A5 T5]{A6:Prop}{T6:Nat->Prop}[Lv w A6 T6]{A7:Prop}{T7:Nat->Prop}[Lv w A7 T7]{A8:Prop}{T8:Nat->Prop}[Lv w A8 T8]{A9:Prop}{T9:Nat->Prop}[Lv w A9 T9]{A10:Prop}{T10:Nat->Prop}[Lv w A10 T10]{A11:Prop}{T11:Nat->Prop}[Lv w A11 T11](g:KS w Ma T)(h0:A0)(h1:A1)(h2:A2)(h3:A3)(h4:A4)(h5:A5)(h6:A6)(h7:A7)(h8:A8)(h9:A9)(h10:A10)(h11:A11):KM T T0/\KM T T1/\KM T T2/\KM T T3/\KM T T4/\KM T T5/\KM T T6/\KM T T7/\KM T T8/\KM T T9/\KM T T10/\KM T T11:=⟨KM.new g (Lv.c h0),KM.new g (Lv.c h1),KM.new g (Lv.c h2),KM.new g (Lv.c h3),KM.new g (Lv.c h4),KM.new g (Lv.c h5),KM.new g (Lv.c h6),KM.new g (Lv.c h7),KM.new g (Lv.c h8),KM.new g (Lv.c h9),KM.new g (Lv.c h10),KM.new g (Lv.c h11)⟩
theorem aD5{w:World}{T:Nat->Prop}{A0:Prop}{T0:Nat->Prop}[Lv w A0 T0]{A1:Prop}{T1:Nat->Prop}[Lv w A1 T1]{A2:Prop}{T2:Nat->Prop}[Lv w A2 T2]{A3:Prop}{T3:Nat->Prop}[Lv w A3 T3]{A4:Prop}{T4:Nat->Prop}[Lv w A4 T4]{A5:Prop}{T5:Nat->Prop}[Lv w A5 T5]{A6:Prop}{T6:Nat->Prop}[Lv w A6 T6]{A7:Prop}{T7:Nat->Prop}[Lv w A7 T7]{A8:Prop}{T8:Nat->Prop}[Lv w A8 T8]{A9:Prop}{T9:Nat->Prop}[Lv w A9 T9]{A10:Prop}{T10:Nat->Prop}[Lv w A10 T10]{A11:Prop}{T11:Nat->Prop}[Lv w A11 T11]{A12:Prop}{T12:Nat->Prop}[Lv w A12 T12](g:KS w Ma T)(h0:A0)(h1:A1)(h2:A2)(h3:A3)(h4:A4)(h5:A5)(h6:A6)(h7:A7)(h8:A8)(h9:A9)(h10:A10)(h11:A11)(h12:A12):KM T T0/\KM T T1/\KM T T2/\KM T T3/\KM T T4/\KM T T5/\KM T T6/\KM T T7/\KM T T8/\KM T T9/\KM T T10/\KM T T11/\KM T T12:=⟨KM.new g (Lv.c h0),KM.new g (Lv.c h1),KM.new g (Lv.c h2),KM.new g (Lv.c h3),KM.new g (Lv.c h4),KM.new g (Lv.c h5),KM.new g (Lv.c h6),KM.new g (Lv.c h7),KM.new g (Lv.c h8),KM.new g (Lv.c h9),KM.new g (Lv.c h10),KM.new g (Lv.c h11),KM.new g (Lv.c h12)⟩
theorem QD{w:World}{T:Nat->Prop}{A0:Prop}{T0:Nat->Prop}[Lv w A0 T0]{A1:Prop}{T1:Nat->Prop}[Lv w A1 T1]{A2:Prop}{T2:Nat->Prop}[Lv w A2 T2]{A3:Prop}{T3:Nat->Prop}[Lv w A3 T3]{A4:Prop}{T4:Nat->Prop}[Lv w A4 T4]{A5:Prop}{T5:Nat->Prop}[Lv w A5 T5]{A6:Prop}{T6:Nat->Prop}[Lv w A6 T6]{A7:Prop}{T7:Nat->Prop}[Lv w A7 T7]{A8:Prop}{T8:Nat->Prop}[Lv w A8 T8]{A9:Prop}{T9:Nat->Prop}[Lv w A9 T9]{A10:Prop}{T10:Nat->Prop}[Lv w A10 T10]{A11:Prop}{T11:Nat->Prop}[Lv w A11 T11]{A12:Prop}{T12:Nat->Prop}[Lv w A12 T12]{A13:Prop}{T13:Nat->Prop}[Lv w A13 T13](g:KS w Ma T)(h0:A0)(h1:A1)(h2:A2)(h3:A3)(h4:A4)(h5:A5)(h6:A6)(h7:A7)(h8:A8)(h9:A9)(h10:A10)(h11:A11)(h12:A12)(h13:A13):KM T T0/\KM T T1/\KM T T2/\KM T T3/\KM T T4/\KM T T5/\KM T T6/\KM T T7/\KM T T8/\KM T T9/\KM T T10/\KM T T11/\KM T T12/\KM T T13:=⟨KM.new g (Lv.c h0),KM.new g (Lv.c h1),KM.new g (Lv.c h2),KM.new g (Lv.c h3),KM.new g (Lv.c h4),KM.new g (Lv.c h5),KM.new g (Lv.c h6),KM.new g (Lv.c h7),KM.new g (Lv.c h8),KM.new g (Lv.c h9),KM.new g (Lv.c h10),KM.new g (Lv.c h11),KM.new g (Lv.c h12),KM.new g (Lv.c h13)⟩
theorem VE{w:World}{T T':Nat->Prop}{A0:Prop}{T0:Nat->Prop}[Lv w A0 T0]{A1:Prop}{T1:Nat->Prop}[Lv w A1 T1](g:KS w T T')(a0:KM T T0)(h0:A0)(a1:KM T T1)(h1:A1):KM T' T0/\KM T' T1:=⟨a0.grew g (Lv.c h0),a1.grew g (Lv.c h1)⟩
theorem aCa{w:World}{T T':Nat->Prop}{A0:Prop}{T0:Nat->Prop}[Lv w A0 T0]{A1:Prop}{T1:Nat->Prop}[Lv w A1 T1]{A2:Prop}{T2:Nat->Prop}[Lv w A2 T2](g:KS w T T')(a0:KM T T0)(h0:A0)(a1:KM T T1)(h1:A1)(a2:KM T T2)(h2:A2):KM T' T0/\KM T' T1/\KM T' T2:=⟨a0.grew g (Lv.c h0),a1.grew g (Lv.c h1),a2.grew g (Lv.c h2)⟩
theorem aEb{w:World}{T T':Nat->Prop}{A0:Prop}{T0:Nat->Prop}[Lv w A0 T0]{A1:Prop}{T1:Nat->Prop}[Lv w A1 T1]{A2:Prop}{T2:Nat->Prop}[Lv w A2 T2]{A3:Prop}{T3:Nat->Prop}[Lv w A3 T3](g:KS w T T')(a0:KM T T0)(h0:A0)(a1:KM T T1)(h1:A1)(a2:KM T T2)(h2:A2)(a3:KM T T3)(h3:A3):KM T' T0/\KM T' T1/\KM T' T2/\KM T' T3:=⟨a0.grew g (Lv.c h0),a1.grew g (Lv.c h1),a2.grew g (Lv.c h2),a3.grew g (Lv.c h3)⟩
theorem aDO{w:World}{T T':Nat->Prop}{A0:Prop}{T0:Nat->Prop}[Lv w A0 T0]{A1:Prop}{T1:Nat->Prop}[Lv w A1 T1]{A2:Prop}{T2:Nat->Prop}[Lv w A2 T2]{A3:Prop}{T3:Nat->Prop}[Lv w A3 T3]{A4:Prop}{T4:Nat->Prop}[Lv w A4 T4](g:KS w T T')(a0:KM T T0)(h0:A0)(a1:KM T T1)(h1:A1)(a2:KM T T2)(h2:A2)(a3:KM T T3)(h3:A3)(a4:KM T T4)(h4:A4):KM T' T0/\KM T' T1/\KM T' T2/\KM T' T3/\KM T' T4:=⟨a0.grew g (Lv.c h0),a1.grew g (Lv.c h1),a2.grew g (Lv.c h2),a3.grew g (Lv.c h3),a4.grew g (Lv.c h4)⟩
theorem Xe{w:World}{T T':Nat->Prop}{A0:Prop}{T0:Nat->Prop}[Lv w A0 T0]{A1:Prop}{T1:Nat->Prop}[Lv w A1 T1]{A2:Prop}{T2:Nat->Prop}[Lv w A2 T2]{A3:Prop}{T3:Nat->Prop}[Lv w A3 T3]{A4:Prop}{T4:Nat->Prop}[Lv w A4 T4]{A5:Prop}{T5:Nat->Prop}[Lv w A5 T5](g:KS w T T')(a0:KM T T0)(h0:A0)(a1:KM T T1)(h1:A1)(a2:KM T T2)(h2:A2)(a3:KM T T3)(h3:A3)(a4:KM T T4)(h4:A4)(a5:KM T T5)(h5:A5):KM T' T0/\KM T' T1/\KM T' T2/\KM T' T3/\KM T' T4/\KM T' T5:=⟨a0.grew g (Lv.c h0),a1.grew g (Lv.c h1),a2.grew g (Lv.c h2),a3.grew g (Lv.c h3),a4.grew g (Lv.c h4),a5.grew g (Lv.c h5)⟩
theorem aEc{w:World}{T T':Nat->Prop}{A0:Prop}{T0:Nat->Prop}[Lv w A0 T0]{A1:Prop}{T1:Nat->Prop}[Lv w A1 T1]{A2:Prop}{T2:Nat->Prop}[Lv w A2 T2]{A3:Prop}{T3:Nat->Prop}[Lv w A3 T3]{A4:Prop}{T4:Nat->Prop}[Lv w A4 T4]{A5:Prop}{T5:Nat->Prop}[Lv w A5 T5]{A6:Prop}{T6:Nat->Prop}[Lv w A6 T6](g:KS w T T')(a0:KM T T0)(h0:A0)(a1:KM T T1)(h1:A1)(a2:KM T T2)(h2:A2)(a3:KM T T3)(h3:A3)(a4:KM T T4)(h4:A4)(a5:KM T T5)(h5:A5)(a6:KM T T6)(h6:A6):KM T' T0/\KM T' T1/\KM T' T2/\KM T' T3/\KM T' T4/\KM T' T5/\KM T' T6:=⟨a0.grew g (Lv.c h0),a1.grew g (Lv.c h1),a2.grew g (Lv.c h2),a3.grew g (Lv.c h3),a4.grew g (Lv.c h4),a5.grew g (Lv.c h5),a6.grew g (Lv.c h6)⟩
theorem RF{w:World}{T T':Nat->Prop}{A0:Prop}{T0:Nat->Prop}[Lv w A0 T0]{A1:Prop}{T1:Nat->Prop}[Lv w A1 T1]{A2:Prop}{T2:Nat->Prop}[Lv w A2 T2]{A3:Prop}{T3:Nat->Prop}[Lv w A3 T3]{A4:Prop}{T4:Nat->Prop}[Lv w A4 T4]{A5:Prop}{T5:Nat->Prop}[Lv w A5 T5]{A6:Prop}{T6:Nat->Prop}[Lv w A6 T6]{A7:Prop}{T7:Nat->Prop}[Lv w A7 T7](g:KS w T T')(a0:KM T T0)(h0:A0)(a1:KM T T1)(h1:A1)(a2:KM T T2)(h2:A2)(a3:KM T T3)(h3:A3)(a4:KM T T4)(h4:A4)(a5:KM T T5)(h5:A5)(a6:KM T T6)(h6:A6)(a7:KM T T7)(h7:A7):KM T' T0/\KM T' T1/\KM T' T2/\KM T' T3/\KM T' T4/\KM T' T5/\KM T' T6/\KM T' T7:=⟨a0.grew g (Lv.c h0),a1.grew g (Lv.c h1),a2.grew g (Lv.c h2),a3.grew g (Lv.c h3),a4.grew g (Lv.c h4),a5.grew g (Lv.c h5),a6.grew g (Lv.c h6),a7.grew g (Lv.c h7)⟩
theorem Pb.mono{S:Nat->Prop}{w w':World}{T:Nat->Prop}(h:Pb w T)(k:KP S w w'):Pb w' T:=fun i hi=>Nat.lt_of_lt_of_le (h i hi) k.size
section
variable {ro:Option Nat} {P:Program} {N:Nat} {Q:(Exit->(Nat->Value)->World->Prop)} {F:Nat->Value} {w:World}
theorem LA{ops:Array Oper}{o:Oper}{rest:List Oper}{R:Value->World->Prop}(j:Nat)(want:Bool)(d:Tmp)(hg:o.guard=some (j,want))(hj:(ops[j]?).bind (·.dst)=some d)(hdn:Nat.blt d N=true)(hv:F d = .bool want)(hd:Oj N o.dst=true)
  (hy:Lj P (ev (MN N F)) o w R) (h:∀ v w',R v w'->wl ro P N ops Q rest (OL F o.dst v) w'):wl ro P N ops Q (o::rest) F w:=by
 refine Zr j want d hg hj hdn hv hd ?_
 revert hy
 unfold Lj
 generalize (execOp (ev (MN N F)) o).run P w=r
 intro hy
 cases r with
 | ok n w' =>
  cases n <;> simp only at hy ⊢ <;> first
   | exact h _ _ hy
   | exact hy.elim
   | exact Calls.mono hy (fun e w'' ⟨v,he,hk⟩=>⟨v,he,h _ _ hk⟩)
 | halt x w'=>exact hy.elim
end
end Go.Proofs.YtknjpdcpmpfklaaGreatDoor
set_option maxRecDepth 100000
namespace Go.Proofs.YtknjpdcpmpfklaaGreatDoor
open Go.RowKit
theorem KP.setRow{S:Nat->Prop}{a w:World}(h:KP S a w)(g:Nat)(hg:g<a.heap.size->S g)(c:Array Value):KP S a (w.setRow g c) :=
 h.trans (S':=fun k=>k=g) ⟨rfl,rfl,rfl,by simp[World.setRow],fun k hk hn=>setRow_other _ _ _ _ hn⟩ (fun i hi x=>by subst x;exact hg hi)
section
variable {P:Program}
theorem Us{w:World}{b:Nat}{c:List Value}{t:TypeId}{f:Nat×Nat}(h:w.heap[b]? = some (.cells c.toArray t f)):w.rangeAt b 0 c:=by
 intro j v hv
 rw[Nat.zero_add,Mt h]
 simpa using hv
theorem Of(w:World)(b:Nat)(t ty:TypeId)(cs:Array Value)(fr:Nat×Nat)(d:TypeDesc)(hg:w.heap[b]? = some (.cells cs t fr))
  (hu:P.underlying ty=some d) (hd:d.isRow=true) (hi:(P.info? ty).map (·.size)=some cs.size):(loadVar ty ⟨b,0,none⟩).run P w = .ok (.agg cs) w:=by
 have e:=run_loadVar_mid (P:=P) w b 0 ty cs.toList d (Us (t:=t) (f:=fr) (by simpa using hg)) hu hd (by simpa using hi)
 simpa using e
theorem Pz{ρ:Operand->Value}{op:Oper}{w:World}{R:Value->World->Prop}(ty:TypeId)(x y:Operand)(ho:op.op = .store ty x y)
  (b:Nat) (old cells:Array Value) (t:TypeId) (hx:ρ x = .pointer (some ⟨b,0,none⟩)) (hy:ρ y = .agg cells)
  (hg:w.heap[b]? = some (.cells old t (0,0))) (hs:old.size=cells.size) (hi:(P.info? ty).map (·.size)=some cells.size) (h1:cells.all (·.oneCell')=true)
  (h:∀ w',w'.heap[b]? = some (.cells cells t (0,0))->KP (fun k=>k=b) w w'->R undef w'):Lj P ρ op w R:=by
 unfold Lj execOp
 simp only[ho,hx,hy,Instr.storeAt,Instr.sureAddr,Sem.run_bind,Sem.run_pure,Result.andThen_ok,run_storeVar_row w b t ty old cells hg hi hs h1]
 exact h _ (setRow_heap _ _ _ _ _ _ hg) ((KP.refl (fun k=>k=b) w).setRow b (fun _=>rfl) cells)
theorem Rq{fn:Func}{p:Tmp}{ty:TypeId}(h:fn.results = #[.cell p ty])(tmps:Array Value)(w:World)(b:Nat)(hp:tmps.getD p undef = .pointer (some ⟨b,0,none⟩))
  (cs:Array Value) (t:TypeId) (fr:Nat×Nat) (d:TypeDesc) (hg:w.heap[b]? = some (.cells cs t fr))
  (hu:P.underlying ty=some d) (hd:d.isRow=true) (hi:(P.info? ty).map (·.size)=some cs.size):(results fn tmps).run P w = .ok (.agg cs) w:=by
 have hl:=Of (P:=P) w b t ty cs fr d hg hu hd hi
 have hp':tmps[p]?.getD undef = .pointer (some ⟨b,0,none⟩):=by rw[← hp];simp
 simp only[results,h]
 simp[hp',asAddr,hl]
theorem SQ{ρ:Operand->Value}{o:Oper}{w:World}{R:Value->World->Prop}{ty:TypeId}{x:Operand}(ho:o.op = .load ty x)
  (b:Nat) (hx:ρ x = .pointer (some ⟨b,0,none⟩)) (cs:Array Value) (t:TypeId) (fr:Nat×Nat) (d:TypeDesc) (hg:w.heap[b]? = some (.cells cs t fr))
  (hu:P.underlying ty=some d) (hd:d.isRow=true) (hi:(P.info? ty).map (·.size)=some cs.size) (h:R (.agg cs) w):Lj P ρ o w R:=by
 have e:(execOp ρ o).run P w = .ok (.value (.agg cs)) w:=by
  simp only[execOp,ho,hx,Instr.loadAt,Instr.sureAddr,Sem.run_bind,Sem.run_pure,Result.andThen_ok,Of w b t ty cs fr d hg hu hd hi]
 unfold Lj;rw[e];exact h
end
end Go.Proofs.YtknjpdcpmpfklaaGreatDoor
set_option maxRecDepth 100000
namespace Go.Proofs.YtknjpdcpmpfklaaGreatDoor
open Go.RowKit
def L8(n:Nat)(b:Nat->Int):List Value:=(List.range n).map fun i=>.int .i64 (b i)
theorem On(n:Nat)(b:Nat->Int):(L8 n b).length=n:=by simp[L8]
theorem Rx{n:Nat}{b:Nat->Int}{i:Nat}(h:i<n):(L8 n b)[i]? = some (.int .i64 (b i)):=by
 unfold L8
 rw[List.getElem?_map,List.getElem?_range h];rfl
theorem XT(n:Nat)(b:Nat->Int):∀ u∈L8 n b,u.oneCell'=true:=by
 intro u hu
 obtain⟨x,_,rfl⟩:=List.mem_map.1 hu
 rfl
theorem SK{n:Nat}{b c:Nat->Int}(h:∀ i,i<n->b i=c i):L8 n b=L8 n c:=by
 unfold L8
 apply List.map_congr_left
 intro i hi
 rw[h i (by simpa using hi)]
def VV(b:Nat->Int)(k:Nat)(x:Int):Nat->Int:=fun i=>if i=k then x else b i
theorem Yi(n:Nat)(b:Nat->Int)(k:Nat)(x:Int):(L8 n b).toArray.setIfInBounds k (.int .i64 x)=(L8 n (VV b k x)).toArray:=by
 rw[List.setIfInBounds_toArray]
 congr 1
 apply List.ext_getElem?
 intro i
 unfold L8 VV
 rw[List.getElem?_set]
 simp only[List.length_map,List.length_range,List.getElem?_map]
 by_cases h:k=i
 ·subst h
  by_cases hk:k<n
  ·simp[hk]
  ·simp[hk]
 ·rw[if_neg h]
  by_cases hi:i<n
  ·rw[List.getElem?_range hi]
   simp[Ne.symm h]
  ·rw[List.getElem?_eq_none (by simp;omega)];rfl
theorem V7(n:Nat):(L8 n (fun _=>0)).toArray=Array.replicate n (.int .i64 0):=by
 unfold L8
 apply Array.ext'
 rw[Array.toList_replicate]
 show List.map (fun _=>Value.int .i64 0) (List.range n)=_
 rw[List.map_const',List.length_range]
def LK(b:Nat->Int):Value:=.agg (L8 16 b).toArray
theorem YY{b c:Nat->Int}(h:∀ i,i<16->b i=c i):LK b=LK c:=by unfold LK;rw[SK h]
def NO(w:World)(p:Nat)(t:TypeId)(b:Nat->Int):Prop:=w.heap[p]? = some (.cells (L8 16 b).toArray t (0,0))
theorem NO.all{w w':World}{S:Nat->Prop}{p:Nat}{t:TypeId}{b:Nat->Int}(h:NO w p t b)(k:KP S w w')(hn:¬ S p):NO w' p t b:=k.at h hn
theorem NO.congr{w:World}{p:Nat}{t:TypeId}{b c:Nat->Int}(h:NO w p t b)(e:∀ i,i<16->b i=c i):NO w p t c:=by unfold NO at *;rw[← SK e];exact h
theorem NO.cell{w:World}{p:Nat}{t:TypeId}{b:Nat->Int}(h:NO w p t b){i:Nat}(hi:i<16):w.cell? ⟨p,i,none⟩=some (.int .i64 (b i)):=by
 rw[Mt h,List.getElem?_toArray];exact Rx hi
theorem NO.free{w:World}{p:Nat}{t:TypeId}{b:Nat->Int}(h:NO w p t b)(i:Nat):w.frozen? ⟨p,i,none⟩=false:=M1 h
theorem NO.lt{w:World}{p:Nat}{t:TypeId}{b:Nat->Int}(h:NO w p t b):p<w.heap.size:=MK h
instance {w w':World} {p:Nat} {t:TypeId} {b:Nat->Int}:Cr w w' (NO w p t b) (NO w' p t b):=⟨fun h k=>h.all k id⟩
instance {w:World} {p:Nat} {t:TypeId} {b:Nat->Int}:Lv w (NO w p t b) (Lh p):=⟨fun h=>LO h.lt⟩
theorem NO.set{w:World}{p:Nat}{t:TypeId}{b:Nat->Int}(h:NO w p t b)(k:Nat)(x:Int):NO (w.setCell ⟨p,k,none⟩ (.int .i64 x)) p t (VV b k x):=by
 unfold NO;rw[MY _ _ _ _ h,Yi]
theorem NO.new(w:World)(t:TypeId)(b:Nat->Int):NO (w.alloc (.cells (L8 16 b).toArray t)) w.heap.size t b:=heap_alloc_new w _
theorem Tryz.size_int:(Tryz.prog.info? 3).map (·.size)=some 1:=by kernel_rfl
theorem Tryz.info_blk:(Tryz.prog.info? 69).map (fun i=>(i.zero,i.size))=some (some (.agg (Array.replicate 16 (.int .i64 0))),16):=by kernel_rfl
def WU(t:TypeId):Prop:=Tryz.prog.underlying t=some (.array 16 3)/\(Tryz.prog.info? t).map (·.size)=some 16/\(∀ w,(zeroValue t).run Tryz.prog w = .ok (.agg (L8 16 (fun _=>0)).toArray) w)
theorem KZ:WU 69:=⟨Tryz.underlying69,(zero_of_info Tryz.info_blk).2,by rw[V7];exact(zero_of_info Tryz.info_blk).1⟩
theorem WU.size{t:TypeId}(h:WU t)(b:Nat->Int):(Tryz.prog.info? t).map (·.size)=some (L8 16 b).toArray.size:=by rw[List.size_toArray,On];exact h.2.1
theorem TG{P:Program}{e:TypeId}(he:P.underlying e=some (.int .i64))(hce:P.cellsOf e=1)(w:World)(d n:Nat)(a b:Nat->Int) :
  ∀ (is:List Nat),(∀ i∈is,i<n)->(Op.eqItems (d+1) e (P.cellsOf e) (L8 n a).toArray (L8 n b).toArray is).run P w = .ok (is.all fun i=>a i==b i) w:=by
 have hp:∀ (c:Nat->Int) (i:Nat),i<n->(part e (L8 n c).toArray (i*P.cellsOf e)).run P w = .ok (.int .i64 (c i)) w:=by
  intro c i hi
  have h1:(L8 n c).toArray[i]? = some (.int .i64 (c i)):=by rw[List.getElem?_toArray];exact Rx hi
  rw[hce,Nat.mul_one]
  simp[part,isAgg,run_underlying he,h1]
 intro is
 induction is with
 | nil=>intro _;simp[Op.eqItems]
 | cons i is ih =>
  intro h
  have hi:=h i (by simp)
  simp only[Op.eqItems,Sem.run_bind,hp a i hi,hp b i hi,Result.andThen_ok,run_equalIn_int w d e .i64 .i64 _ _ he]
  cases hab:a i==b i
  ·simp[hab]
  ·simp only[Bool.not_true,Bool.false_eq_true,if_false]
   rw[ih (fun j hj=>h j (by simp[hj]))]
   simp[hab]
def Um(a b:Nat->Int):Bool:=(List.range 16).all fun i=>a i==b i
theorem Z5{a b:Nat->Int}:Um a b=true ↔ ∀ i,i<16->a i=b i:=by
 unfold Um
 rw[List.all_eq_true]
 constructor
 ·intro h i hi;simpa using h i (by simpa using hi)
 ·intro h i hi;simpa using h i (by simpa using hi)
theorem Tryz.cells_int:Tryz.prog.cellsOf 3=1:=by kernel_rfl
theorem X3(t:TypeId)(ht:WU t)(w:World)(a b:Nat->Int):(binOp .eql t (LK a) (LK b)).run Tryz.prog w = .ok (.bool (Um a b)) w:=by
 obtain⟨i0,hi⟩:∃ i,Tryz.prog.info? 3=some i:=by
  have:=Tryz.size_int
  cases h:Tryz.prog.info? 3 with
  | none=>rw[h] at this;cases this
  | some i=>exact⟨i,rfl⟩
 unfold LK
 rw[run_eql_struct,run_equalIn_array w 9999 _ _ ht.1 hi,TG Tryz.underlying3 Tryz.cells_int w 9998 16 a b _ (fun i hi=>by simpa using hi)]
 rfl
theorem Tryz.guard_blk:Tryz.prog.eqGuardType Tryz.prog.depth 69=false:=by kernel_rfl
theorem V0(x y:Operand)(w:World)(a b:Nat->Int):(eqGuard .eql 69 x y (LK a) (LK b)).run Tryz.prog w = .ok () w:=run_eqGuard_agg w .eql _ x y _ _ Tryz.guard_blk
end Go.Proofs.YtknjpdcpmpfklaaGreatDoor
set_option maxRecDepth 100000
namespace Go.Proofs.YtknjpdcpmpfklaaGreatDoor
open Go.RowKit
section
variable {ro:Option Nat} {P:Program} {N:Nat} {Q:(Exit->(Nat->Value)->World->Prop)} {F:Nat->Value} {w:World}
theorem M6{ops:Array Oper}{o:Oper}{rest:List Oper}{t:TypeId}{x:Operand}{b:Nat->Int}(hg:o.guard=none)(hd:Oj N o.dst=true)(ho:o.op = .box t x)(hx:ev (MN N F) x=LK b)
  (h:∀ p w',p=w.heap.size->NO w' p t b->KP (fun _=>False) w w'->wl ro P N ops Q rest (OL F o.dst (.pointer (some ⟨p,0,none⟩))) w'):wl ro P N ops Q (o::rest) F w :=
 Nu hg hd (Ob (v:=.pointer (some ⟨w.heap.size,0,none⟩)) (w':=w.alloc (.cells (L8 16 b).toArray t)) (by simp[execOp,ho,hx,LK,go_sem]) (h _ _ rfl (NO.new w t b) ((KP.refl _ _).alloc _)))
theorem L1{ops:Array Oper}{o:Oper}{rest:List Oper}{t:TypeId}(hg:o.guard=none)(hd:Oj N o.dst=true)(ho:o.op = .alloc t)(hz:∀ w,(zeroValue t).run P w = .ok (.agg (L8 16 (fun _=>0)).toArray) w)
  (h:∀ p w',p=w.heap.size->NO w' p t (fun _=>0)->KP (fun _=>False) w w'->wl ro P N ops Q rest (OL F o.dst (.pointer (some ⟨p,0,none⟩))) w'):wl ro P N ops Q (o::rest) F w :=
 Nu hg hd (Ob (v:=.pointer (some ⟨w.heap.size,0,none⟩)) (w':=w.alloc (.cells (L8 16 (fun _=>0)).toArray t)) (by simp[execOp,ho,hz,go_sem]) (h _ _ rfl (NO.new w t _) ((KP.refl _ _).alloc _)))
end
section
variable {ro:Option Nat} {N:Nat} {Q:(Exit->(Nat->Value)->World->Prop)} {F:Nat->Value} {w:World} {ρ:Operand->Value} {o:Oper} {R:Value->World->Prop}
theorem LZ{ty t:TypeId}{x:Operand}{p:Nat}{b:Nat->Int}(hT:WU ty)(ho:o.op = .load ty x)(hx:ρ x = .pointer (some ⟨p,0,none⟩))(hB:NO w p t b)(h:R (LK b) w):Lj Tryz.prog ρ o w R :=
 SQ ho p hx _ t (0,0) _ hB hT.1 rfl (hT.size b) h
theorem Lp{ops:Array Oper}{rest:List Oper}{ty t:TypeId}{x y:Operand}{p:Nat}{b c:Nat->Int}(hT:WU ty)(hg:o.guard=none)(hdn:o.dst=none)(ho:o.op = .store ty x y)(hx:ev (MN N F) x = .pointer (some ⟨p,0,none⟩))(hy:ev (MN N F) y=LK c)(hB:NO w p t b)
  (h:∀ w',NO w' p t c->KP (fun k=>k=p) w w'->wl ro Tryz.prog N ops Q rest F w'):wl ro Tryz.prog N ops Q (o::rest) F w:=by
 refine Nu hg (by rw[hdn];rfl) (Pz ty x y ho p _ (L8 16 c).toArray t hx hy hB (by rw[List.size_toArray,List.size_toArray,On,On]) (hT.size c) (all_oneCell_toArray (XT _ _)) fun w' hw hk=>?_)
 rw[hdn]
 exact h w' hw hk
theorem NQ{ops:Array Oper}{rest:List Oper}{ty t:TypeId}{x y:Operand}{p k:Nat}{n:Int}{b:Nat->Int}(hg:o.guard=none)(hdn:o.dst=none)(ho:o.op = .store ty x y)(hx:ev (MN N F) x = .pointer (some ⟨p,k,none⟩))(hy:ev (MN N F) y = .int .i64 n)(hB:NO w p t b)(hk:k<16)
  (hs:(Tryz.prog.info? ty).map (·.size)=some 1)
  (h:∀ w',NO w' p t (VV b k n)->KP (fun k=>k=p) w w'->wl ro Tryz.prog N ops Q rest F w'):wl ro Tryz.prog N ops Q (o::rest) F w:=by
 have hc:=hB.cell hk
 have hf:=hB.free k
 cases hq:Tryz.prog.info? ty with
 | none=>simp[hq] at hs
 | some i =>
  have hs':i.size=1:=by simpa [hq] using hs
  refine Nu hg (by rw[hdn];rfl) ?_
  have e:(execOp (ev (MN N F)) o).run Tryz.prog w = .ok .skip (w.setCell ⟨p,k,none⟩ (.int .i64 n))\/(execOp (ev (MN N F)) o).run Tryz.prog w = .ok (.value undef) (w.setCell ⟨p,k,none⟩ (.int .i64 n)):=by
   simp[execOp,ho,hx,hy,Instr.storeAt,Instr.sureAddr,storeVar,sizeOf,typeInfo,hq,hs',Value.cells,hc,hf,go_sem]
  unfold Lj
  rw[hdn]
  rcases e with e|e <;> rw[e] <;> exact h _ (hB.set k n) ((KP.refl (fun k=>k=p) w).setCell ⟨p,k,none⟩ (fun _=>rfl) _)
theorem QE{fn:Func}{p:Tmp}{ty t:TypeId}{q:Nat}{b:Nat->Int}{R:Ending->World->Prop}(hT:WU ty)(hm:F N=undef)(ht:Nat.blt p N=true)(h:fn.results = #[.cell p ty])(hp:F p = .pointer (some ⟨q,0,none⟩))(hB:NO w q t b)(hR:R (.returned (LK b)) w):X6 Tryz.prog fn N R .ret F w :=
 ⟨hm,fun a ha=>⟨_,Rq h _ _ q (by rw[ha.at' p ht];exact hp) _ t (0,0) _ hB hT.1 rfl (hT.size b),hR⟩⟩
theorem Mq{p:Tmp}{ty t:TypeId}{q:Nat}{b:Nat->Int}(hT:WU ty)(ht:Nat.blt p N=true)(hp:F p = .pointer (some ⟨q,0,none⟩))(hB:NO w q t b):Ss Tryz.prog N F w (.cell p ty) (LK b) :=
 ⟨ht,_,hp,Of w q t ty _ (0,0) _ hB hT.1 rfl (hT.size b)⟩
theorem aBJ{t':TypeId}{x y:Operand}{a b:Nat->Int}{c:Bool}(ho:o.op = .binOp .eql 69 x y t')(hx:ρ x=LK a)(hy:ρ y=LK b)(hr:Um a b=c)(h:R (.bool c) w):Lj Tryz.prog ρ o w R :=
 Ob (v:=.bool (Um a b)) (w':=w) (by simp only[execOp,ho,hx,hy,Sem.run_bind,V0,X3 _ KZ,Result.andThen_ok,Sem.run_pure]) (by rw[hr];exact h)
theorem aAH{t:TypeId}{x y:Operand}{k:IntKind}(j:Nat){a:Nat->Int}{r:Int}(ht:WU t)(ho:o.op = .index t x y)(hx:ρ x=LK a)(hy:ρ y = .int k (j:Int))(hj:j<16)(hr:a j=r)(h:R (.int .i64 r) w):Lj Tryz.prog ρ o w R:=by
 subst hr
 have h1:(L8 16 a).toArray[j]? = some (.int .i64 (a j)):=by rw[List.getElem?_toArray];exact Rx hj
 cases hq:Tryz.prog.info? 3 with
 | none=>have:=Tryz.size_int;simp[hq] at this
 | some i =>
  have hs':i.size=1:=by have:=Tryz.size_int;simpa [hq] using this
  have hp:(part 3 (L8 16 a).toArray j).run Tryz.prog w = .ok (.int .i64 (a j)) w:=by simp[part,isAgg,run_underlying Tryz.underlying3,h1]
  exact Ob (v:=.int .i64 (a j)) (w':=w) (by simp[execOp,ho,hx,hy,Instr.index,LK,run_underlying ht.1,asIntOf,sizeOf,typeInfo,hq,hs',hj,hp]) h
end
end Go.Proofs.YtknjpdcpmpfklaaGreatDoor
set_option maxRecDepth 100000
namespace Go.Proofs.YtknjpdcpmpfklaaGreatDoor
def wv(u c:Nat):Int:=([1,1,1,1,1,1,-1,-1,1,-1,-1,1,1,-1,1,-1]:List Int).getD (4*u+c) 0
def turn(b:Nat->Int)(i:Nat):Int :=
 b (4*(i%4))*wv (i/4) 0+b (4*(i%4)+1)*wv (i/4) 1+b (4*(i%4)+2)*wv (i/4) 2+b (4*(i%4)+3)*wv (i/4) 3
def Yt(b:Nat->Int):Nat->Int:=turn (turn b)
def rnd(n:Int):Int:=(n+8)/16
def cl(m x:Int):Int:=max (-m) (min x m)
def Sq(m:Int)(b:Nat->Int):Nat->Int:=fun i=>cl m (b i)
theorem aB3(m x:Int)(h:0<=m) : -m<=cl m x/\cl m x<=m:=by unfold cl;omega
theorem aAa(u c:Nat):wv u c=1\/wv u c = -1\/wv u c=0:=by
 unfold wv
 have:∀ n,([1,1,1,1,1,1,-1,-1,1,-1,-1,1,1,-1,1,-1]:List Int).getD n 0=1\/([1,1,1,1,1,1,-1,-1,1,-1,-1,1,1,-1,1,-1]:List Int).getD n 0 = -1\/([1,1,1,1,1,1,-1,-1,1,-1,-1,1,1,-1,1,-1]:List Int).getD n 0=0:=by
  intro n
  by_cases h:n<16
  ·revert n;decide
  ·right;right
   rw[List.getD_eq_getElem?_getD,List.getElem?_eq_none (by simp;omega)];rfl
 exact this _
theorem TK(x:Int)(M:Int)(u c:Nat)(h1 : -M<=x)(h2:x<=M) : -M<=x*wv u c/\x*wv u c<=M:=by
 rcases aAa u c with h|h|h <;> rw[h] <;> omega
theorem W0(b:Nat->Int)(M:Int)(h:∀ i,i<16 → -M<=b i/\b i<=M)(i:Nat) : -(4*M)<=turn b i/\turn b i<=4*M:=by
 unfold turn
 have h0:=h (4*(i%4)) (by omega)
 have h1:=h (4*(i%4)+1) (by omega)
 have h2:=h (4*(i%4)+2) (by omega)
 have h3:=h (4*(i%4)+3) (by omega)
 have k0:=TK _ M (i/4) 0 h0.1 h0.2
 have k1:=TK _ M (i/4) 1 h1.1 h1.2
 have k2:=TK _ M (i/4) 2 h2.1 h2.2
 have k3:=TK _ M (i/4) 3 h3.1 h3.2
 omega
theorem aB7(b:Nat->Int)(M:Int)(h:∀ i,i<16 → -M<=b i/\b i<=M)(i:Nat) : -(16*M)<=Yt b i/\Yt b i<=16*M:=by
 have:=W0 (turn b) (4*M) (fun i _=>W0 b M h i) i
 unfold Yt;omega
theorem Y4{b c:Nat->Int}(h:∀ i,i<16->b i=c i):turn b=turn c:=by
 funext i
 unfold turn
 rw[h _ (by omega),h (4*(i%4)+1) (by omega),h (4*(i%4)+2) (by omega),h (4*(i%4)+3) (by omega)]
theorem ayG{b c:Nat->Int}(h:∀ i,i<16->b i=c i):Yt b=Yt c:=by unfold Yt;rw[Y4 h]
theorem V5:turn (fun _=>0)=fun _=>0:=by funext i;simp[turn]
theorem aAU:Yt (fun _=>0)=fun _=>0:=by unfold Yt;rw[V5,V5]
end Go.Proofs.YtknjpdcpmpfklaaGreatDoor
set_option maxRecDepth 100000
namespace Go.Proofs.YtknjpdcpmpfklaaGreatDoor
open Go.RowKit
def upto(k:Nat)(b c:Nat->Int):Nat->Int:=fun i=>if i<k then c i else b i
theorem Wt(b c:Nat->Int):upto 0 b c=b:=by funext i;simp[upto]
theorem ayO(b c:Nat->Int)(i:Nat)(hi:i<16):upto 16 b c i=c i:=by simp[upto,hi]
theorem X4(k:Nat)(b c:Nat->Int):VV (upto k b c) k (c k)=upto (k+1) b c:=by
 funext i
 unfold VV upto
 by_cases h:i=k
 ·subst h;simp
 ·rw[if_neg h]
  by_cases h2:i<k
  ·rw[if_pos h2,if_pos (by omega)]
  ·rw[if_neg h2,if_neg (by omega)]
theorem UJ(k:Nat)(b c:Nat->Int):upto k b c k=b k:=by simp[upto]
theorem NO.first{w:World}{p:Nat}{t:TypeId}{b c:Nat->Int}(h:NO w p t b):NO w p t (upto 0 b c):=by rw[Wt];exact h
theorem NO.next{w:World}{p:Nat}{t:TypeId}{b c:Nat->Int}{k:Nat}{x:Int}(h:NO w p t (VV (upto k b c) k x))(e:x=c k):NO w p t (upto (k+1) b c):=by rw[← X4,← e];exact h
theorem NO.last{w:World}{p:Nat}{t:TypeId}{b c:Nat->Int}(h:NO w p t (upto 16 b c)):NO w p t c:=h.congr (ayO b c)
theorem Tl{x y:Int}(h:x=y):some (Value.int .i64 x)=some (Value.int .i64 y):=by rw[h]
def Qi(w:World):Prop:=4<w.heap.size/\∀ i,i<16->w.cell? ⟨4,i,none⟩=some (.int .i64 (wv 0 i))
theorem KP.cell0{S:Nat->Prop}{w w':World}(k:KP S w w'){b off:Nat}(hb:b<w.heap.size)(hn:¬ S b):w'.cell? ⟨b,off,none⟩=w.cell? ⟨b,off,none⟩:=by
 unfold World.cell?;rw[k.block b hb hn]
theorem Qi.all{w w':World}(h:Qi w)(k:KP (fun _=>False) w w'):Qi w' :=
 ⟨Nat.lt_of_lt_of_le h.1 k.size,fun i hi=>(k.cell0 h.1 id).trans (h.2 i hi)⟩
theorem aBu(u c:Nat):wv 0 (u*4+c)=wv u c:=by unfold wv;congr 1;omega
theorem Qi.at{w:World}(h:Qi w)(u c:Nat)(hu:u<4)(hc:c<4):w.cell? ⟨4,0+u*4+c,none⟩=some (.int .i64 (wv u c)):=by
 rw[← aBu u c,← h.2 (u*4+c) (by omega)]
 congr 2;omega
def ps(b:Nat->Int)(r u:Nat):Nat->Int
 | 0=>0
 | c+1=>ps b r u c+b (r*4+c)*wv u c
theorem aDx(b:Nat->Int)(M:Int)(h:∀ i,i<16 → -M<=b i/\b i<=M)(r u c:Nat)(hr:r<4)(hc:c<=4) : -(c*M)<=ps b r u c/\ps b r u c<=c*M:=by
 induction c with
 | zero=>simp[ps]
 | succ c ih =>
  have h1:=ih (by omega)
  have h2:=h (r*4+c) (by omega)
  have h3:=TK _ M u c h2.1 h2.2
  have e:((c+1:Nat):Int)*M=(c:Int)*M+M:=by rw[Int.natCast_add,Int.add_mul];simp
  rw[e]
  unfold ps
  omega
theorem aBr(b:Nat->Int)(r u:Nat)(hr:r<4):ps b r u 4=turn b (u*4+r):=by
 have e1:(u*4+r)%4=r:=by omega
 have e2:(u*4+r)/4=u:=by omega
 simp only[ps,turn,e1,e2,Nat.mul_comm r 4,Nat.add_zero]
 omega
def OZ(b:Nat->Int)(r u c i:Nat):Int:=if i%4<r\/(i%4=r/\i/4<u) then turn b i else if i%4=r/\i/4=u then ps b r u c else 0
theorem Sw(b:Nat->Int)(r u c:Nat)(hr:r<4):OZ b r u c (u*4+r)=ps b r u c:=by
 have e1:(u*4+r)%4=r:=by omega
 have e2:(u*4+r)/4=u:=by omega
 unfold OZ
 rw[e1,e2,if_neg (by omega),if_pos ⟨rfl,rfl⟩]
theorem ayS(b:Nat->Int)(r u c:Nat)(hr:r<4):VV (OZ b r u c) (u*4+r) (ps b r u (c+1))=OZ b r u (c+1):=by
 funext i
 unfold VV
 by_cases h:i=u*4+r
 ·subst h;rw[if_pos rfl,Sw b r u (c+1) hr]
 ·rw[if_neg h]
  have hn:¬ (i%4=r/\i/4=u):=by omega
  unfold OZ
  rw[if_neg hn,if_neg hn]
theorem ZN(b:Nat->Int)(r u:Nat)(hr:r<4):OZ b r u 4=OZ b r (u+1) 0:=by
 funext i
 by_cases h:i=u*4+r
 ·subst h
  rw[Sw b r u 4 hr,aBr b r u hr]
  unfold OZ
  rw[if_pos (by omega)]
 ·unfold OZ
  have hn:¬ (i%4=r/\i/4=u):=by omega
  by_cases h1:i%4<r\/(i%4=r/\i/4<u)
  ·rw[if_pos h1,if_pos (by omega)]
  ·rw[if_neg h1,if_neg hn,if_neg (by omega)]
   split <;> simp[ps]
theorem YL(b:Nat->Int)(r:Nat)(i:Nat)(hi:i<16):OZ b r 4 0 i=OZ b (r+1) 0 0 i:=by
 unfold OZ
 by_cases h1:i%4<r\/(i%4=r/\i/4<4)
 ·rw[if_pos h1,if_pos (by omega)]
 ·rw[if_neg h1,if_neg (by omega),if_neg (by omega)]
  split <;> simp[ps]
theorem XH(b:Nat->Int):OZ b 0 0 0=fun _=>0:=by
 funext i
 unfold OZ
 rw[if_neg (by omega)]
 split <;> simp[ps]
theorem ZZ(b:Nat->Int)(i:Nat):OZ b 4 0 0 i=turn b i:=by
 unfold OZ;rw[if_pos (by omega)]
theorem Wg{b:Nat->Int}(h:Um b (fun _=>0)=true):Ending.returned (LK b) = .returned (LK (Yt b)):=by
 have e:=Z5.1 h
 rw[ayG (c:=fun _=>0) e,aAU,YY e]
def OU(a b:Nat->Int):Nat->Int:=fun i=>Sq 1048576 a i+Sq 1048576 b i
def Oq(b:Nat->Int):Nat->Int:=fun i=>rnd (Yt (Sq 1048576 b) i)
theorem WI(b:Nat->Int)(i:Nat) : -1048576<=Sq 1048576 b i/\Sq 1048576 b i<=1048576:=aB3 1048576 (b i) (by omega)
theorem RP(b:Nat->Int)(w0:World) :
  Calls Tryz.prog 146 #[LK (b)] w0 fun e w'=>e = .returned (LK (Sq 1048576 b))/\KP (fun _=>False) w0 w':=by
 refine Ls (args:=[LK b]) 16 Tryz.func146 rfl rfl (Nat.le_of_ble_eq_true rfl) ?_
 have K0:=KP.refl (fun _=>False) w0
 refine KK (KI (M6 rfl rfl rfl rfl fun p1 w2 e5 B3 k4=>?_))
 have K8:=K0.tr k4
 refine L1 rfl rfl rfl KZ.2.2 fun p9 aS an aB ao=>?_
 have ap:=LV (Nat.le_of_eq an.symm)
 have aC:=KM.new ap (LO B3.lt)
 clear an
 have aD:=B3.all ao id
 refine KO ?_
 have aE:=La (undef)
 have aF:=La (pt p1 0)
 have aG:=La (pt p9 0)
 refine KH (KK (KK (KI (KJ (iv 0) rfl rfl (KQ rfl rfl rr) (KO ?_)))))
 have aH:=La (iv 0)
 refine KH (Lo (M4 (fun nn FF ww=>∃ (k:Nat),(k<=16)/\nn=16-k/\FF 1=pt p1 0/\FF 2=pt p9 0/\FF 16=undef/\FF 4=iv ((k:Nat):Int)/\KP (fun _=>False) w0 ww/\NO ww p1 69 (upto k b (Sq 1048576 b))/\NO ww p9 69 (fun _=>0)) (16-0) ⟨0,by omega,rfl,aF,aG,aE,aH,(K8.tr ao),aD.first,aB⟩ ?_))
 rintro aT aU aI ⟨k,i34,hn33,ae,af,aq,ah,ar,ai,au⟩
 refine KK (KI (KJ (.bool (decide (((k:Nat):Int)<16))) rfl rfl (L5 rfl ah rfl rfl rr) (KO ?_)))
 have aJ:=La (.bool (decide (((k:Nat):Int)<16)))
 refine KH (KK ?_)
 refine Lc aJ (fun ab=>?_) (fun ab=>?_)
 ·replace ab:=of_decide_eq_true ab
  refine Li (KH (KK (Lo (KK (KI (KW rfl rfl rfl ah (KJ (iv ((k:Nat):Int)) rfl rfl (KX rfl rfl rr) (KO ?_))))))))
  have av:=La (iv ((k:Nat):Int))
  refine KH (KI (KW rfl rfl rfl av (KW rfl rfl rfl av (KJ (.pointer (some ⟨p1,k,none⟩)) rfl rfl (LU k (s:=1) rfl ae rfl (by omega) Tryz.underlying69 (by omega) (by kernel_rfl) (by omega) rr) (KJ (iv ((upto k b (Sq 1048576 b)) k)) rfl rfl (OI rfl rfl Tryz.underlying3 (ai.cell (by omega)) rr) (KJ (iv (min ((upto k b (Sq 1048576 b)) k) 1048576)) rfl rfl (QO rfl rfl rfl rfl rr) (KJ (iv (max (-1048576) (min ((upto k b (Sq 1048576 b)) k) 1048576))) rfl rfl (Rn rfl rfl rfl rfl rr) (KJ (.pointer (some ⟨p1,k,none⟩)) rfl rfl (LU k (s:=1) rfl ae rfl (by omega) Tryz.underlying69 (by omega) (by kernel_rfl) (by omega) rr) (NQ rfl rfl rfl rfl rfl ai (by omega) (by kernel_rfl) fun aV aK aw=>?_)))))))))
  have aL:=au.all aw (aC p9 rfl)
  refine KO ?_
  refine LD (KH (KI (KJ (iv ((k+1:Nat):Int)) rfl rfl (LR rfl ah rfl (L2 (by omega) (by omega)) rr) (KJ (iv ((k+1:Nat):Int)) rfl rfl (KQ rfl rfl rr) (KO ?_)))))
  have aM:=La (iv ((k+1:Nat):Int))
  exact KH ⟨(16-(k+1)),by omega,k+1,by omega,rfl,ae,af,aq,aM,(ar.trans aw (KS.ok (S:=fun _=>False) (KS.new K0 (LV (Nat.le_of_eq e5.symm))) K6)),(aK.next (by rw[UJ];rfl)),aL⟩
 ·replace ab:=of_decide_eq_false ab
  refine Mg (Lt (Lt ?_))
  have aN:16=k:=by omega
  subst aN
  have aO:NO aI p1 69 (Sq 1048576 b):=(ai.last)
  refine Mh (KH (KK (KI (KJ (LK (Sq 1048576 b)) rfl rfl (LZ KZ rfl ae aO rr) (Lp KZ rfl rfl rfl af rfl au fun aW aP aQ=>?_)))))
  refine KO ?_
  refine KH (Ld ?_)
  exact QE KZ aq rfl rfl af aP ⟨rfl,(ar.trans aQ (KS.ok (S:=fun _=>False) (KS.new K8 ap) K6))⟩
theorem Vi(b:Nat->Int)(w0:World)(hw:Qi w0)(hb:∀ i,i<16 → -1099511627776<=b i/\b i<=1099511627776) :
  Calls Tryz.prog 168 #[LK (b)] w0 fun e w'=>e = .returned (LK (turn b))/\KP (fun _=>False) w0 w':=by
 refine Ls (args:=[LK b]) 40 Tryz.func168 rfl rfl (Nat.le_of_ble_eq_true rfl) ?_
 refine KK (KI (M6 rfl rfl rfl rfl fun p1 w2 e5 B3 k4=>?_))
 have g6:=LV (Nat.le_of_eq e5.symm)
 clear e5 g6
 have K8:=(KP.refl (fun _=>False) w0).tr k4
 refine L1 rfl rfl rfl KZ.2.2 fun p9 cH bi aF aG=>?_
 have aH:=B3.all aG id
 have aI:=K8.tr aG
 refine KO ?_
 have bj:=La (undef)
 have bl:=La (pt p1 0)
 have bm:=La (pt p9 0)
 refine KH (KK (KI (L1 rfl rfl rfl KZ.2.2 fun aa cI aJ bn aK=>?_)))
 have ai:=LV (Nat.le_of_eq aJ.symm)
 obtain⟨bo,bp⟩:=S3 ai aH aF
 clear aJ
 obtain⟨bq,bt⟩:=NL aK aH aF
 refine KO ?_
 have bu:=La (pt aa 0)
 refine KH (KK (KK (KI (KJ (iv 0) rfl rfl (KQ rfl rfl rr) (KO ?_)))))
 have bv:=La (iv 0)
 refine KH (Lo (M4 (fun nn FF ww=>∃ (r:Nat),(r<=4)/\nn=4-r/\FF 1=pt p1 0/\FF 2=pt p9 0/\FF 3=pt aa 0/\FF 40=undef/\FF 7=iv ((r:Nat):Int)/\KP (fun _=>False) w0 ww/\NO ww p1 69 b/\NO ww p9 69 (fun _=>0)/\NO ww aa 69 (OZ b r 0 0)) (4-0) ⟨0,by omega,rfl,bl,bm,bu,bj,bv,(aI.tr aK),bq,bt,(by rw[XH];exact bn)⟩ ?_))
 rintro cJ cK bz ⟨r,i53,hn52,bA,an,aL,aM,ao,aN,bB,aO,aP⟩
 refine KK (KI (KJ (.bool (decide (((r:Nat):Int)<4))) rfl rfl (L5 rfl ao rfl rfl rr) (KO ?_)))
 have bC:=La (.bool (decide (((r:Nat):Int)<4)))
 refine KH (KK ?_)
 refine Lc bC (fun ae=>?_) (fun ae=>?_)
 ·replace ae:=of_decide_eq_true ae
  refine Li (KH (KK (Lo (KK (KI (KW rfl rfl rfl ao (KJ (iv ((r:Nat):Int)) rfl rfl (KX rfl rfl rr) (KO ?_))))))))
  have bD:=La (iv ((r:Nat):Int))
  refine KH (KK (KI (KJ (iv 0) rfl rfl (KQ rfl rfl rr) (KO ?_))))
  have bE:=La (iv 0)
  refine KH (Lo (M4 (fun nn FF ww=>∃ (u:Nat),(u<=4)/\nn=4-u/\FF 1=pt p1 0/\FF 2=pt p9 0/\FF 3=pt aa 0/\FF 4=iv ((r:Nat):Int)/\FF 7=iv ((r:Nat):Int)/\FF 40=undef/\FF 10=iv ((u:Nat):Int)/\KP (fun _=>False) w0 ww/\NO ww p1 69 b/\NO ww p9 69 (fun _=>0)/\NO ww aa 69 (OZ b r u 0)) (4-0) ⟨0,by omega,rfl,bA,an,aL,bD,ao,aM,bE,aN,bB,aO,aP⟩ ?_))
  rintro cL cM cN ⟨u,i92,hn91,aQ,aR,aS,bF,aT,aU,ap,aV,aW,aX,aY⟩
  refine KK (KI (KJ (.bool (decide (((u:Nat):Int)<4))) rfl rfl (L5 rfl ap rfl rfl rr) (KO ?_)))
  have bG:=La (.bool (decide (((u:Nat):Int)<4)))
  refine KH (KK ?_)
  refine Lc bG (fun af=>?_) (fun af=>?_)
  ·replace af:=of_decide_eq_true af
   refine Li (KH (KK (Lo (KK (KI (KW rfl rfl rfl ap (KJ (iv ((u:Nat):Int)) rfl rfl (KX rfl rfl rr) (KO ?_))))))))
   have bH:=La (iv ((u:Nat):Int))
   refine KH (KK (KI (KJ (iv 0) rfl rfl (KQ rfl rfl rr) (KO ?_))))
   have bI:=La (iv 0)
   refine KH (Lo (M4 (fun nn FF ww=>∃ (c:Nat),(c<=4)/\nn=4-c/\FF 1=pt p1 0/\FF 2=pt p9 0/\FF 3=pt aa 0/\FF 4=iv ((r:Nat):Int)/\FF 5=iv ((u:Nat):Int)/\FF 7=iv ((r:Nat):Int)/\FF 10=iv ((u:Nat):Int)/\FF 40=undef/\FF 13=iv ((c:Nat):Int)/\KP (fun _=>False) w0 ww/\NO ww p1 69 b/\NO ww p9 69 (fun _=>0)/\NO ww aa 69 (OZ b r u c)) (4-0) ⟨0,by omega,rfl,aQ,aR,aS,bF,bH,aT,ap,aU,bI,aV,aW,aX,aY⟩ ?_))
   rintro cO cP cQ ⟨c,i139,hn138,aq,aZ,aj,ak,ar,a8,a9,ba,au,av,aw,bb,az⟩
   refine KK (KI (KJ (.bool (decide (((c:Nat):Int)<4))) rfl rfl (L5 rfl au rfl rfl rr) (KO ?_)))
   have bJ:=La (.bool (decide (((c:Nat):Int)<4)))
   refine KH (KK ?_)
   refine Lc bJ (fun ah=>?_) (fun ah=>?_)
   ·replace ah:=of_decide_eq_true ah
    refine Li (KH (KK (Lo (KK (KI (KW rfl rfl rfl au (KJ (iv ((c:Nat):Int)) rfl rfl (KX rfl rfl rr) (KO ?_))))))))
    have bc:=La (iv ((c:Nat):Int))
    refine KH ?_
    have hbb:=hb (r*4+c) (by omega)
    have hmm:=TK _ 1099511627776 u c hbb.1 hbb.2
    have hps:=aDx b 1099511627776 hb r u c (by omega) (by omega)
    refine Nd 20 [some 16,some 17,some 18,some 19,some 20,some 21,some 22,some 23,some 24,some 25,some 26,some 27,some 28,some 29,some 30,some 31,some 32,some 33,some 34,some 35] [Pd.eq (iv ((u:Nat):Int)),Pd.eq (iv ((u*4:Nat):Int)),Pd.eq (iv ((r:Nat):Int)),Pd.eq (iv (((u*4)+r:Nat):Int)),Pd.eq (.pointer (some ⟨aa,(u*4)+r,none⟩)),Pd.eq (iv (ps b r u c)),Pd.eq (iv ((r:Nat):Int)),Pd.eq (iv ((r*4:Nat):Int)),Pd.eq (iv ((c:Nat):Int)),Pd.eq (iv (((r*4)+c:Nat):Int)),Pd.eq (.pointer (some ⟨p1,(r*4)+c,none⟩)),Pd.eq (iv (b ((r*4)+c))),Pd.eq (iv ((u:Nat):Int)),Pd.eq (iv ((c:Nat):Int)),Pd.eq (.pointer (some ⟨4,0+u*4,none⟩)),Pd.eq (.pointer (some ⟨4,0+u*4+c,none⟩)),Pd.eq (iv (wv u c)),Pd.eq (iv ((b ((r*4)+c))*(wv u c))),Pd.eq (iv (ps b r u (c+1))),Pd.eq (.pointer (some ⟨aa,(u*4)+r,none⟩))] (by kernel_rfl) (by kernel_rfl) (by kernel_rfl) ?_ ?_
    ·refine KN ?_ ?_
     ·refine Le.one rfl fun F_ w_ hR hout hD=>?_
      exact(KQ rfl ((hout 5 rfl (by decide)).trans ar) ⟨rfl,KP.refl _ _⟩)
     refine KN ?_ ?_
     ·refine Le.one rfl fun F_ w_ hR hout hD=>?_
      have bK:F_ 16=iv ((u:Nat):Int):=(hD.get 0 rfl rfl rfl)
      exact(NH rfl bK rfl (L2 (by omega) (by omega)) ⟨rfl,KP.refl _ _⟩)
     refine KN ?_ ?_
     ·refine Le.one rfl fun F_ w_ hR hout hD=>?_
      exact(KQ rfl ((hout 4 rfl (by decide)).trans ak) ⟨rfl,KP.refl _ _⟩)
     refine KN ?_ ?_
     ·refine Le.one rfl fun F_ w_ hR hout hD=>?_
      have bL:F_ 17=iv ((u*4:Nat):Int):=(hD.get 0 rfl rfl rfl)
      have bM:F_ 18=iv ((r:Nat):Int):=(hD.get 1 rfl rfl rfl)
      exact(LR rfl bL bM (L2 (by omega) (by omega)) ⟨rfl,KP.refl _ _⟩)
     refine KN ?_ ?_
     ·refine Le.one rfl fun F_ w_ hR hout hD=>?_
      have aA:F_ 19=iv (((u*4)+r:Nat):Int):=(hD.get 0 rfl rfl rfl)
      exact(LU ((u*4)+r) (s:=1) rfl ((hout 3 rfl (by decide)).trans aj) aA (by omega) Tryz.underlying69 (by omega) (by kernel_rfl) (by omega) ⟨rfl,KP.refl _ _⟩)
     refine KN ?_ ?_
     ·refine Le.one rfl fun F_ w_ hR hout hD=>?_
      have bN:F_ 20 = .pointer (some ⟨aa,(u*4)+r,none⟩):=(hD.get 0 rfl rfl rfl)
      exact(OI rfl bN Tryz.underlying3 (((az.all hR id).cell (by omega)).trans (Tl (Sw b r u c (by omega)))) ⟨rfl,KP.refl _ _⟩)
     refine KN ?_ ?_
     ·refine Le.one rfl fun F_ w_ hR hout hD=>?_
      exact(KQ rfl ((hout 4 rfl (by decide)).trans ak) ⟨rfl,KP.refl _ _⟩)
     refine KN ?_ ?_
     ·refine Le.one rfl fun F_ w_ hR hout hD=>?_
      have bO:F_ 22=iv ((r:Nat):Int):=(hD.get 0 rfl rfl rfl)
      exact(NH rfl bO rfl (L2 (by omega) (by omega)) ⟨rfl,KP.refl _ _⟩)
     refine KN ?_ ?_
     ·refine Le.one rfl fun F_ w_ hR hout hD=>?_
      exact(KQ rfl ((hout 6 rfl (by decide)).trans bc) ⟨rfl,KP.refl _ _⟩)
     refine KN ?_ ?_
     ·refine Le.one rfl fun F_ w_ hR hout hD=>?_
      have bP:F_ 23=iv ((r*4:Nat):Int):=(hD.get 0 rfl rfl rfl)
      have bQ:F_ 24=iv ((c:Nat):Int):=(hD.get 1 rfl rfl rfl)
      exact(LR rfl bP bQ (L2 (by omega) (by omega)) ⟨rfl,KP.refl _ _⟩)
     refine KN ?_ ?_
     ·refine Le.one rfl fun F_ w_ hR hout hD=>?_
      have bR:F_ 25=iv (((r*4)+c:Nat):Int):=(hD.get 0 rfl rfl rfl)
      exact(LU ((r*4)+c) (s:=1) rfl ((hout 1 rfl (by decide)).trans aq) bR (by omega) Tryz.underlying69 (by omega) (by kernel_rfl) (by omega) ⟨rfl,KP.refl _ _⟩)
     refine KN ?_ ?_
     ·refine Le.one rfl fun F_ w_ hR hout hD=>?_
      have bS:F_ 26 = .pointer (some ⟨p1,(r*4)+c,none⟩):=(hD.get 0 rfl rfl rfl)
      exact(OI rfl bS Tryz.underlying3 ((aw.all hR id).cell (by omega)) ⟨rfl,KP.refl _ _⟩)
     refine KN ?_ ?_
     ·refine Le.one rfl fun F_ w_ hR hout hD=>?_
      exact(KQ rfl ((hout 5 rfl (by decide)).trans ar) ⟨rfl,KP.refl _ _⟩)
     refine KN ?_ ?_
     ·refine Le.one rfl fun F_ w_ hR hout hD=>?_
      exact(KQ rfl ((hout 6 rfl (by decide)).trans bc) ⟨rfl,KP.refl _ _⟩)
     refine KN ?_ ?_
     ·refine Le.one rfl fun F_ w_ hR hout hD=>?_
      have bT:F_ 28=iv ((u:Nat):Int):=(hD.get 0 rfl rfl rfl)
      exact(LU u (s:=4) rfl rfl bT (by omega) Tryz.underlying179 (by omega) (by kernel_rfl) (by omega) ⟨rfl,KP.refl _ _⟩)
     refine KN ?_ ?_
     ·refine Le.one rfl fun F_ w_ hR hout hD=>?_
      have bU:F_ 30 = .pointer (some ⟨4,0+u*4,none⟩):=(hD.get 0 rfl rfl rfl)
      have ai:F_ 29=iv ((c:Nat):Int):=(hD.get 1 rfl rfl rfl)
      exact(LU c (s:=1) rfl bU ai (by omega) Tryz.underlying171 (by omega) (by kernel_rfl) (by omega) ⟨rfl,KP.refl _ _⟩)
     refine KN ?_ ?_
     ·refine Le.one rfl fun F_ w_ hR hout hD=>?_
      have bV:F_ 31 = .pointer (some ⟨4,0+u*4+c,none⟩):=(hD.get 0 rfl rfl rfl)
      exact(OI rfl bV Tryz.underlying3 ((hw.all (av.trans hR (fun _ _ x=>x.elim))).at u c (by omega) (by omega)) ⟨rfl,KP.refl _ _⟩)
     refine KN ?_ ?_
     ·refine Le.one rfl fun F_ w_ hR hout hD=>?_
      have bW:F_ 27=iv (b ((r*4)+c)):=(hD.get 0 rfl rfl rfl)
      have bX:F_ 32=iv (wv u c):=(hD.get 1 rfl rfl rfl)
      exact(NH rfl bW bX (Mb rfl (by omega)) ⟨rfl,KP.refl _ _⟩)
     refine KN ?_ ?_
     ·refine Le.one rfl fun F_ w_ hR hout hD=>?_
      have bY:F_ 21=iv (ps b r u c):=(hD.get 0 rfl rfl rfl)
      have bZ:F_ 33=iv ((b ((r*4)+c))*(wv u c)):=(hD.get 1 rfl rfl rfl)
      exact(LR rfl bY bZ (Mb rfl (by have e:ps b r u (c+1)=ps b r u c+b (r*4+c)*wv u c:=rfl;omega)) ⟨rfl,KP.refl _ _⟩)
     refine KN ?_ ?_
     ·refine Le.one rfl fun F_ w_ hR hout hD=>?_
      have aA:F_ 19=iv (((u*4)+r:Nat):Int):=(hD.get 0 rfl rfl rfl)
      exact(LU ((u*4)+r) (s:=1) rfl ((hout 3 rfl (by decide)).trans aj) aA (by omega) Tryz.underlying69 (by omega) (by kernel_rfl) (by omega) ⟨rfl,KP.refl _ _⟩)
     exact L3
    intro cR bd cS be aB am
    obtain⟨b7,b8,b9⟩:=ND be aw bb az
    obtain⟨cd,ce,cf,cg,ci,cj,cm,cn,co⟩:=t9 am 1 aq 2 aZ 3 aj 4 ak 5 ar 7 a8 10 a9 40 ba 13 au
    have cq:bd 34=iv (ps b r u (c+1)):=(am 34).trans (aB 18 (by decide))
    have cr:bd 35 = .pointer (some ⟨aa,(u*4)+r,none⟩):=(am 35).trans (aB 19 (by decide))
    clear aB am
    refine NQ rfl rfl rfl cr cq b9 (by omega) (by kernel_rfl) fun cU ct aC=>?_
    have cu:=b7.all aC (bo.symm p1 rfl)
    have cv:=b8.all aC (bp.symm p9 rfl)
    refine KO ?_
    refine LD (KH (KI (KJ (iv ((c+1:Nat):Int)) rfl rfl (LR rfl co rfl (L2 (by omega) (by omega)) rr) (KJ (iv ((c+1:Nat):Int)) rfl rfl (KQ rfl rfl rr) (KO ?_)))))
    have cw:=La (iv ((c+1:Nat):Int))
    exact KH ⟨(4-(c+1)),by omega,c+1,by omega,rfl,cd,ce,cf,cg,ci,cj,cm,cn,cw,((av.tr be).trans aC (KS.ok (S:=fun _=>False) (KS.new aI ai) K6)),cu,cv,(by rw[← ayS b r u c (by omega)];exact ct)⟩
   ·replace ah:=of_decide_eq_false ah
    refine Mg (Lt (Lt ?_))
    have cy:4=c:=by omega
    subst cy
    refine Mh (LD (KH (KI (KJ (iv ((u+1:Nat):Int)) rfl rfl (LR rfl a9 rfl (L2 (by omega) (by omega)) rr) (KJ (iv ((u+1:Nat):Int)) rfl rfl (KQ rfl rfl rr) (KO ?_))))))
    have cz:=La (iv ((u+1:Nat):Int))
    exact KH ⟨(4-(u+1)),by omega,u+1,by omega,rfl,aq,aZ,aj,ak,a8,ba,cz,av,aw,bb,(by rw[← ZN b r u (by omega)];exact az)⟩
  ·replace af:=of_decide_eq_false af
   refine Mg (Lt (Lt ?_))
   have cA:4=u:=by omega
   subst cA
   refine Mh (LD (KH (KI (KJ (iv ((r+1:Nat):Int)) rfl rfl (LR rfl aT rfl (L2 (by omega) (by omega)) rr) (KJ (iv ((r+1:Nat):Int)) rfl rfl (KQ rfl rfl rr) (KO ?_))))))
   have cB:=La (iv ((r+1:Nat):Int))
   exact KH ⟨(4-(r+1)),by omega,r+1,by omega,rfl,aQ,aR,aS,aU,cB,aV,aW,aX,(aY.congr (YL b r))⟩
 ·replace ae:=of_decide_eq_false ae
  refine Mg (Lt (Lt ?_))
  have cC:4=r:=by omega
  subst cC
  have cD:NO bz aa 69 (turn b):=(aP.congr (fun i _=>ZZ b i))
  refine Mh (KH (KK (KI (KJ (LK (turn b)) rfl rfl (LZ KZ rfl aL cD rr) (Lp KZ rfl rfl rfl an rfl aO fun cV cE cF=>?_)))))
  refine KO ?_
  refine KH (Ld ?_)
  exact QE KZ aM rfl rfl an cE ⟨rfl,(aN.trans cF (KS.ok (S:=fun _=>False) (KS.new K8 (LV (Nat.le_of_eq bi.symm))) K6))⟩
theorem azO(b:Nat->Int)(w0:World)(hw:Qi w0)(hb:∀ i,i<16 → -1048576<=b i/\b i<=1048576) :
  Calls Tryz.prog 147 #[LK (b)] w0 fun e w'=>e = .returned (LK (Yt b))/\KP (fun _=>False) w0 w':=by
 refine Ls (args:=[LK b]) 10 Tryz.func147 rfl rfl (Nat.le_of_ble_eq_true rfl) ?_
 refine KK (KI (M6 rfl rfl rfl rfl fun p1 w2 e5 B3 k4=>?_))
 have g6:=LV (Nat.le_of_eq e5.symm)
 clear e5 g6
 have K8:=(KP.refl (fun _=>False) w0).tr k4
 refine L1 rfl rfl rfl KZ.2.2 fun p9 aK ai aj ak=>?_
 have am:=LV (Nat.le_of_eq ai.symm)
 have an:=KS.new K8 am
 clear ai am
 have ab:=B3.all ak id
 have ac:=K8.tr ak
 refine KO ?_
 have ao:=La (undef)
 have ae:=La (pt p1 0)
 have aa:=La (pt p9 0)
 refine KH (KK (KK (KI (KJ (LK b) rfl rfl (LZ KZ rfl ae ab rr) (KJ (LK (fun _=>0)) rfl rfl (Mz (cells:=(L8 16 (fun _=>0)).toArray) rfl (by kernel_rfl) rfl rr) (KJ (.bool (Um b (fun _=>0))) rfl rfl (aBJ rfl rfl rfl rfl rr) (KO ?_)))))))
 have aB:=La (.bool (Um b (fun _=>0)))
 refine KH ?_
 refine Lc aB (fun aC=>?_) (fun aC=>?_)
 ·skip
  refine KK (KI (KJ (LK b) rfl rfl (LZ KZ rfl ae ab rr) (Lp KZ rfl rfl rfl aa rfl aj fun aL aD aE=>?_)))
  refine KO ?_
  refine KH (Ld (Lq ?_))
  exact QE KZ ao rfl rfl aa aD ⟨(by first|rfl|exact Wg ‹_›),(ac.trans aE (KS.ok (S:=fun _=>False) an K6))⟩
 ·skip
  refine Li (KH (KK (KI (KJ (LK b) rfl rfl (LZ KZ rfl ae ab rr) (LY rfl rfl rfl rfl rfl (fun _ _=>by kernel_rfl) (Lm rfl LS) (Vi b _ (hw.all ac) (fun i hi=>by have h:=hb i hi;omega)) fun aM ap=>?_)))))
  have aF:=aj.all ap id
  have aq:=ac.tr ap
  refine LY rfl rfl rfl rfl rfl (fun _ _=>by kernel_rfl) (Lm rfl LS) (Vi (turn b) _ (hw.all aq) (fun i _=>by have h:=W0 b 1048576 hb i;omega)) fun aN ar=>?_
  have aG:=aF.all ar id
  refine Lp KZ rfl rfl rfl aa rfl aG fun aO aH aI=>?_
  refine KO ?_
  refine KH (Ld ?_)
  exact QE KZ ao rfl rfl aa aH ⟨(by first|rfl|exact Wg ‹_›),((aq.tr ar).trans aI (KS.ok (S:=fun _=>False) an K6))⟩
theorem azV(b:Nat->Int)(w0:World)(hw:Qi w0) :
  Calls Tryz.prog 115 #[LK (b)] w0 fun e w'=>e = .returned (LK (Oq b))/\KP (fun _=>False) w0 w':=by
 refine Ls (args:=[LK b]) 19 Tryz.func115 rfl rfl (Nat.le_of_ble_eq_true rfl) ?_
 have K0:=KP.refl (fun _=>False) w0
 refine KK (KI (M6 rfl rfl rfl rfl fun p1 w2 e5 B3 k4=>?_))
 have g6:=LV (Nat.le_of_eq e5.symm)
 have ap:=KS.new K0 g6
 clear e5 g6
 have K8:=K0.tr k4
 refine L1 rfl rfl rfl KZ.2.2 fun p9 bc ar aK au=>?_
 have av:=LV (Nat.le_of_eq ar.symm)
 have aw:=KM.new av (LO B3.lt)
 clear ar
 have az:=B3.all au id
 refine KO ?_
 have aL:=La (undef)
 have af:=La (pt p1 0)
 have aM:=La (pt p9 0)
 refine KH (KK (KI (KJ (LK b) rfl rfl (LZ KZ rfl af az rr) (LY rfl rfl rfl rfl rfl (fun _ _=>by kernel_rfl) (Lm rfl LS) (RP b  _   ) fun bd aA=>?_))))
 obtain⟨aN,aO⟩:=NL aA az aK
 have aB:=(K8.tr au).tr aA
 refine LY rfl rfl rfl rfl rfl (fun _ _=>by kernel_rfl) (Lm rfl LS) (azO (Sq 1048576 b) _ (hw.all aB) (fun i _=>WI b i)) fun be aC=>?_
 obtain⟨aP,aQ⟩:=NL aC aN aO
 refine Lp KZ rfl rfl rfl af rfl aP fun bf aR aD=>?_
 have aS:=aQ.all aD (aw p9 rfl)
 refine KO ?_
 refine KH (KK (KK (KI (KJ (iv 0) rfl rfl (KQ rfl rfl rr) (KO ?_)))))
 have aT:=La (iv 0)
 refine KH (Lo (M4 (fun nn FF ww=>∃ (k:Nat),(k<=16)/\nn=16-k/\FF 1=pt p1 0/\FF 2=pt p9 0/\FF 19=undef/\FF 7=iv ((k:Nat):Int)/\KP (fun _=>False) w0 ww/\NO ww p1 69 (upto k (Yt (Sq 1048576 b)) (Oq b))/\NO ww p9 69 (fun _=>0)) (16-0) ⟨0,by omega,rfl,af,aM,aL,aT,((aB.tr aC).trans aD (KS.ok (S:=fun _=>False) ap K6)),aR.first,aS⟩ ?_))
 rintro bg bh aU ⟨k,i54,hn53,ae,ah,aE,ai,aF,aj,aG⟩
 refine KK (KI (KJ (.bool (decide (((k:Nat):Int)<16))) rfl rfl (L5 rfl ai rfl rfl rr) (KO ?_)))
 have aV:=La (.bool (decide (((k:Nat):Int)<16)))
 refine KH (KK ?_)
 refine Lc aV (fun ac=>?_) (fun ac=>?_)
 ·replace ac:=of_decide_eq_true ac
  refine Li (KH (KK (Lo (KK (KI (KW rfl rfl rfl ai (KJ (iv ((k:Nat):Int)) rfl rfl (KX rfl rfl rr) (KO ?_))))))))
  have aH:=La (iv ((k:Nat):Int))
  refine KH ?_
  have hf:=aB7 (Sq 1048576 b) 1048576 (fun i _=>WI b i) k
  refine KI (KW rfl rfl rfl aH (KW rfl rfl rfl aH (KJ (.pointer (some ⟨p1,k,none⟩)) rfl rfl (LU k (s:=1) rfl ae rfl (by omega) Tryz.underlying69 (by omega) (by kernel_rfl) (by omega) rr) (KJ (iv (Yt (Sq 1048576 b) k)) rfl rfl (OI rfl rfl Tryz.underlying3 ((aj.cell (by omega)).trans (Tl (UJ k _ _))) rr) (KJ (iv ((Yt (Sq 1048576 b) k)+8)) rfl rfl (LR rfl rfl rfl (Mb rfl (by omega)) rr) (KJ (iv (rnd (Yt (Sq 1048576 b) k))) rfl rfl (RI 4 rfl rfl rfl (by decide) rfl rr) (KJ (.pointer (some ⟨p1,k,none⟩)) rfl rfl (LU k (s:=1) rfl ae rfl (by omega) Tryz.underlying69 (by omega) (by kernel_rfl) (by omega) rr) (NQ rfl rfl rfl rfl rfl aj (by omega) (by kernel_rfl) fun bi aW aI=>?_))))))))
  have aX:=aG.all aI (aw p9 rfl)
  refine KO ?_
  refine LD (KH (KI (KJ (iv ((k+1:Nat):Int)) rfl rfl (LR rfl ai rfl (L2 (by omega) (by omega)) rr) (KJ (iv ((k+1:Nat):Int)) rfl rfl (KQ rfl rfl rr) (KO ?_)))))
  have aY:=La (iv ((k+1:Nat):Int))
  exact KH ⟨(16-(k+1)),by omega,k+1,by omega,rfl,ae,ah,aE,aY,(aF.trans aI (KS.ok (S:=fun _=>False) ap K6)),(aW.next rfl),aX⟩
 ·replace ac:=of_decide_eq_false ac
  refine Mg (Lt (Lt ?_))
  have aZ:16=k:=by omega
  subst aZ
  have a8:NO aU p1 69 (Oq b):=(aj.last)
  refine Mh (KH (KK (KI (KJ (LK (Oq b)) rfl rfl (LZ KZ rfl ae a8 rr) (Lp KZ rfl rfl rfl ah rfl aG fun bj a9 ba=>?_)))))
  refine KO ?_
  refine KH (Ld ?_)
  exact QE KZ aE rfl rfl ah a9 ⟨rfl,(aF.trans ba (KS.ok (S:=fun _=>False) (KS.new K8 av) K6))⟩
theorem aAu(a b:Nat->Int)(w0:World) :
  Calls Tryz.prog 114 #[LK (a),LK (b)] w0 fun e w'=>e = .returned (LK (OU a b))/\KP (fun _=>False) w0 w':=by
 refine Ls (args:=[LK a,LK b]) 23 Tryz.func114 rfl rfl (Nat.le_of_ble_eq_true rfl) ?_
 have K0:=KP.refl (fun _=>False) w0
 refine KK (KI (M6 rfl rfl rfl rfl fun p1 w2 e5 B3 k4=>?_))
 have g6:=LV (Nat.le_of_eq e5.symm)
 have aC:=KS.new K0 g6
 clear e5 g6
 have K8:=K0.tr k4
 refine M6 rfl rfl rfl rfl fun p9 b7 aE aF aG=>?_
 have af:=LV (Nat.le_of_eq aE.symm)
 have ak:=KM.new af (LO B3.lt)
 clear aE
 have aH:=B3.all aG id
 have aI:=K8.tr aG
 refine L1 rfl rfl rfl KZ.2.2 fun ac b8 aJ bc aK=>?_
 have aL:=LV (Nat.le_of_eq aJ.symm)
 obtain⟨aM,bd⟩:=S3 aL aH aF
 clear aJ
 obtain⟨aN,aO⟩:=NL aK aH aF
 refine KO ?_
 have be:=La (undef)
 have aP:=La (pt p1 0)
 have aQ:=La (pt p9 0)
 have bf:=La (pt ac 0)
 refine KH (KK ?_)
 refine Nd 4 [some 6,some 7,some 8,some 9] [Pd.eq (LK a),Pd.eq (LK (Sq 1048576 a)),Pd.eq (LK b),Pd.eq (LK (Sq 1048576 b))] (by kernel_rfl) (by kernel_rfl) (by kernel_rfl) ?_ ?_
 ·refine KN ?_ ?_
  ·refine Le.one rfl fun F_ w_ hR hout hD=>?_
   exact(LZ KZ rfl ((hout 2 rfl (by decide)).trans aP) (aN.all hR id) ⟨rfl,KP.refl _ _⟩)
  refine KN ?_ ?_
  ·refine Le.one rfl fun F_ w_ hR hout hD=>?_
   have g6:F_ 6=LK a:=(hD.get 0 rfl rfl rfl)
   exact(LE rfl rfl rfl (fun _ _=>by kernel_rfl) (K4 _) (Lm g6 LS) (RP a  _   ) (fun e_ w_ h_=>⟨_,h_.1,rfl,h_.2⟩))
  refine KN ?_ ?_
  ·refine Le.one rfl fun F_ w_ hR hout hD=>?_
   exact(LZ KZ rfl ((hout 3 rfl (by decide)).trans aQ) (aO.all hR id) ⟨rfl,KP.refl _ _⟩)
  refine KN ?_ ?_
  ·refine Le.one rfl fun F_ w_ hR hout hD=>?_
   have g8:F_ 8=LK b:=(hD.get 0 rfl rfl rfl)
   exact(LE rfl rfl rfl (fun _ _=>by kernel_rfl) (K4 _) (Lm g8 LS) (RP b  _   ) (fun e_ w_ h_=>⟨_,h_.1,rfl,h_.2⟩))
  exact L3
 intro b9 aR cd aS am ah
 obtain⟨bh,bi,bj⟩:=ND aS aN aO bc
 obtain⟨bl,aT,aU,bm⟩:=t4 ah 23 be 2 aP 3 aQ 4 bf
 have bn:aR 7=LK (Sq 1048576 a):=(ah 7).trans (am 1 (by decide))
 have bo:aR 9=LK (Sq 1048576 b):=(ah 9).trans (am 3 (by decide))
 clear am ah
 refine Lp KZ rfl rfl rfl aT bn bh fun cf bp an=>?_
 have bq:=bi.all an (ak p9 rfl)
 have bt:=bj.all an (aM ac rfl)
 refine Lp KZ rfl rfl rfl aU bo bq fun cg bu ao=>?_
 have bv:=bp.all ao (ak.symm p1 rfl)
 have bz:=bt.all ao (bd ac rfl)
 refine KO ?_
 refine KH (KK (KK (KI (KJ (iv 0) rfl rfl (KQ rfl rfl rr) (KO ?_)))))
 have bA:=La (iv 0)
 refine KH (Lo (M4 (fun nn FF ww=>∃ (k:Nat),(k<=16)/\nn=16-k/\FF 2=pt p1 0/\FF 3=pt p9 0/\FF 4=pt ac 0/\FF 23=undef/\FF 10=iv ((k:Nat):Int)/\KP (fun _=>False) w0 ww/\NO ww p1 69 (upto k (Sq 1048576 a) (OU a b))/\NO ww p9 69 (Sq 1048576 b)/\NO ww ac 69 (fun _=>0)) (16-0) ⟨0,by omega,rfl,aT,aU,bm,bl,bA,((((aI.tr aK).tr aS).trans an (KS.ok (S:=fun _=>False) aC K6)).trans ao (KS.ok (S:=fun _=>False) (KS.new K8 af) K6)),bv.first,bu,bz⟩ ?_))
 rintro ci cj bB ⟨k,i83,hn82,ai,aV,ap,aW,aq,aX,ar,aY,aZ⟩
 refine KK (KI (KJ (.bool (decide (((k:Nat):Int)<16))) rfl rfl (L5 rfl aq rfl rfl rr) (KO ?_)))
 have bC:=La (.bool (decide (((k:Nat):Int)<16)))
 refine KH (KK ?_)
 refine Lc bC (fun ayQ=>?_) (fun ayQ=>?_)
 ·replace ayQ:=of_decide_eq_true ayQ
  refine Li (KH (KK (Lo (KK (KI (KW rfl rfl rfl aq (KJ (iv ((k:Nat):Int)) rfl rfl (KX rfl rfl rr) (KO ?_))))))))
  have a8:=La (iv ((k:Nat):Int))
  refine KH ?_
  have h1:=WI a k
  have h2:=WI b k
  refine Nd 8 [some 13,some 14,some 15,some 16,some 17,some 18,some 19,some 20] [Pd.eq (iv ((k:Nat):Int)),Pd.eq (.pointer (some ⟨p1,k,none⟩)),Pd.eq (iv (Sq 1048576 a k)),Pd.eq (iv ((k:Nat):Int)),Pd.eq (.pointer (some ⟨p9,k,none⟩)),Pd.eq (iv ((Sq 1048576 b) k)),Pd.eq (iv ((Sq 1048576 a k)+((Sq 1048576 b) k))),Pd.eq (.pointer (some ⟨p1,k,none⟩))] (by kernel_rfl) (by kernel_rfl) (by kernel_rfl) ?_ ?_
  ·refine KN ?_ ?_
   ·refine Le.one rfl fun F_ w_ hR hout hD=>?_
    exact(KQ rfl ((hout 5 rfl (by decide)).trans a8) ⟨rfl,KP.refl _ _⟩)
   refine KN ?_ ?_
   ·refine Le.one rfl fun F_ w_ hR hout hD=>?_
    have au:F_ 13=iv ((k:Nat):Int):=(hD.get 0 rfl rfl rfl)
    exact(LU k (s:=1) rfl ((hout 2 rfl (by decide)).trans ai) au (by omega) Tryz.underlying69 (by omega) (by kernel_rfl) (by omega) ⟨rfl,KP.refl _ _⟩)
   refine KN ?_ ?_
   ·refine Le.one rfl fun F_ w_ hR hout hD=>?_
    have af:F_ 14 = .pointer (some ⟨p1,k,none⟩):=(hD.get 0 rfl rfl rfl)
    exact(OI rfl af Tryz.underlying3 (((ar.all hR id).cell (by omega)).trans (Tl (UJ k _ _))) ⟨rfl,KP.refl _ _⟩)
   refine KN ?_ ?_
   ·refine Le.one rfl fun F_ w_ hR hout hD=>?_
    exact(KQ rfl ((hout 5 rfl (by decide)).trans a8) ⟨rfl,KP.refl _ _⟩)
   refine KN ?_ ?_
   ·refine Le.one rfl fun F_ w_ hR hout hD=>?_
    have bD:F_ 16=iv ((k:Nat):Int):=(hD.get 0 rfl rfl rfl)
    exact(LU k (s:=1) rfl ((hout 3 rfl (by decide)).trans aV) bD (by omega) Tryz.underlying69 (by omega) (by kernel_rfl) (by omega) ⟨rfl,KP.refl _ _⟩)
   refine KN ?_ ?_
   ·refine Le.one rfl fun F_ w_ hR hout hD=>?_
    have bE:F_ 17 = .pointer (some ⟨p9,k,none⟩):=(hD.get 0 rfl rfl rfl)
    exact(OI rfl bE Tryz.underlying3 ((aY.all hR id).cell (by omega)) ⟨rfl,KP.refl _ _⟩)
   refine KN ?_ ?_
   ·refine Le.one rfl fun F_ w_ hR hout hD=>?_
    have bF:F_ 15=iv (Sq 1048576 a k):=(hD.get 0 rfl rfl rfl)
    have bG:F_ 18=iv ((Sq 1048576 b) k):=(hD.get 1 rfl rfl rfl)
    exact(LR rfl bF bG (Mb rfl (by omega)) ⟨rfl,KP.refl _ _⟩)
   refine KN ?_ ?_
   ·refine Le.one rfl fun F_ w_ hR hout hD=>?_
    have au:F_ 13=iv ((k:Nat):Int):=(hD.get 0 rfl rfl rfl)
    exact(LU k (s:=1) rfl ((hout 2 rfl (by decide)).trans ai) au (by omega) Tryz.underlying69 (by omega) (by kernel_rfl) (by omega) ⟨rfl,KP.refl _ _⟩)
   exact L3
  intro cm a9 cn ba av aj
  obtain⟨bH,bI,bJ⟩:=ND ba ar aY aZ
  obtain⟨bK,bL,bM,bN,bO⟩:=t5 aj 2 ai 3 aV 4 ap 23 aW 10 aq
  have bP:a9 19=iv ((Sq 1048576 a k)+((Sq 1048576 b) k)):=(aj 19).trans (av 6 (by decide))
  have bQ:a9 20 = .pointer (some ⟨p1,k,none⟩):=(aj 20).trans (av 7 (by decide))
  clear av aj
  refine NQ rfl rfl rfl bQ bP bH (by omega) (by kernel_rfl) fun cq bR aw=>?_
  have bS:=bI.all aw (ak p9 rfl)
  have bT:=bJ.all aw (aM ac rfl)
  refine KO ?_
  refine LD (KH (KI (KJ (iv ((k+1:Nat):Int)) rfl rfl (LR rfl bO rfl (L2 (by omega) (by omega)) rr) (KJ (iv ((k+1:Nat):Int)) rfl rfl (KQ rfl rfl rr) (KO ?_)))))
  have bU:=La (iv ((k+1:Nat):Int))
  exact KH ⟨(16-(k+1)),by omega,k+1,by omega,rfl,bK,bL,bM,bN,bU,((aX.tr ba).trans aw (KS.ok (S:=fun _=>False) aC K6)),(bR.next rfl),bS,bT⟩
 ·replace ayQ:=of_decide_eq_false ayQ
  refine Mg (Lt (Lt ?_))
  have bV:16=k:=by omega
  subst bV
  have bW:NO bB p1 69 (OU a b):=(ar.last)
  refine Mh (KH (KK (KI (KJ (LK (OU a b)) rfl rfl (LZ KZ rfl ai bW rr) (Lp KZ rfl rfl rfl ap rfl aZ fun cr bX bY=>?_)))))
  refine KO ?_
  refine KH (Ld ?_)
  exact QE KZ aW rfl rfl ap bX ⟨rfl,(aX.trans bY (KS.ok (S:=fun _=>False) (KS.new aI aL) K6))⟩
end Go.Proofs.YtknjpdcpmpfklaaGreatDoor
set_option maxRecDepth 100000
namespace Go.Proofs.YtknjpdcpmpfklaaGreatDoor
def stl:List Int:=[1,2,3,4,5,6,8,10,12,16,20,24,32,40,48,64,80,96,128,160,192]
def Xg(q:Int):Int:=if 0<=q/\q<=20 then stl.getD q.toNat 0 else 0
def Qx(q:Int):Int:=if 0<=q/\q<=20 then 0 else 50
theorem W7{q:Int}(h:0<=q/\q<=20):Qx q=0:=if_pos h
theorem WJ{q:Int}(h:¬ (0<=q/\q<=20)):Qx q=50:=if_neg h
theorem aAd{q:Int}(h:0<=q/\q<=20):Xg q=stl.getD q.toNat 0:=if_pos h
theorem Ys{q:Int}(h:¬ (0<=q/\q<=20)):Xg q=0:=if_neg h
theorem aBe{q:Int}(h:Qx q=0):0<=q/\q<=20:=by
 by_cases c:0<=q/\q<=20
 ·exact c
 ·rw[WJ c] at h;omega
theorem aCA:∀ k,k<21->1<=stl.getD k 0/\stl.getD k 0<=192:=by decide
theorem aCh{q:Int}(h:Qx q=0):1<=Xg q/\Xg q<=192:=by
 have h1:=aBe h
 rw[aAd h1]
 exact aCA _ (by omega)
def TH(n s:Int):Int:=n*s
theorem aCP{n s:Int}(hn : -1048576<=n/\n<=1048576)(hs:1<=s/\s<=192) : -201326592<=TH n s/\TH n s<=201326592:=by
 unfold TH
 have h1:n*s<=1048576*s:=Int.mul_le_mul_of_nonneg_right hn.2 (by omega)
 have h2 : -1048576*s<=n*s:=Int.mul_le_mul_of_nonneg_right hn.1 (by omega)
 omega
def Ub(g:Int->Int->Int)(b:Nat->Int)(q:Int):Nat->Int:=if Qx q=0 then fun i=>g (cl 1048576 (b i)) (Xg q) else fun _=>0
def Un(b:Nat->Int)(q:Int):Nat->Int:=Ub TH b q
theorem aBa{g:Int->Int->Int}{b:Nat->Int}{q:Int}(h:Qx q=0):Ub g b q=fun i=>g (cl 1048576 (b i)) (Xg q):=if_pos h
theorem ZE{g:Int->Int->Int}{b:Nat->Int}{q:Int}(h:¬ Qx q=0):Ub g b q=fun _=>0:=if_neg h
end Go.Proofs.YtknjpdcpmpfklaaGreatDoor
set_option maxRecDepth 100000
namespace Go.Proofs.YtknjpdcpmpfklaaGreatDoor
open Go.RowKit
def Pp(w:World)(p:Nat)(t:TypeId)(n:Nat)(b:Nat->Int):Prop:=w.heap[p]? = some (.cells (L8 n b).toArray t (0,0))
def VZ(t:TypeId)(n:Nat):Prop:=Tryz.prog.underlying t=some (.array n 3)/\(Tryz.prog.info? t).map (·.size)=some n/\∀ w,(zeroValue t).run Tryz.prog w = .ok (.agg (L8 n (fun _=>0)).toArray) w
theorem VZ.of{t:TypeId}{n:Nat}(hu:Tryz.prog.underlying t=some (.array n 3))(hi:(Tryz.prog.info? t).map (fun i=>(i.zero,i.size))=some (some (.agg (Array.replicate n (.int .i64 0))),n)):VZ t n :=
 ⟨hu,(zero_of_info hi).2,by rw[V7];exact(zero_of_info hi).1⟩
theorem VZ.size{t:TypeId}{n:Nat}(h:VZ t n)(b:Nat->Int):(Tryz.prog.info? t).map (·.size)=some (L8 n b).toArray.size:=by rw[List.size_toArray,On];exact h.2.1
section
variable {w w':World} {p n:Nat} {t:TypeId} {b c:Nat->Int}
theorem Pp.all{S:Nat->Prop}(h:Pp w p t n b)(k:KP S w w')(hn:¬ S p):Pp w' p t n b:=k.at h hn
theorem Pp.congr(h:Pp w p t n b)(e:∀ i,i<n->b i=c i):Pp w p t n c:=by unfold Pp at *;rw[← SK e];exact h
theorem Pp.cell(h:Pp w p t n b){i:Nat}(hi:i<n):w.cell? ⟨p,i,none⟩=some (.int .i64 (b i)):=by
 rw[Mt h,List.getElem?_toArray];exact Rx hi
theorem Pp.free(h:Pp w p t n b)(i:Nat):w.frozen? ⟨p,i,none⟩=false:=M1 h
theorem Pp.lt(h:Pp w p t n b):p<w.heap.size:=MK h
instance {w w':World} {p:Nat} {t:TypeId} {n:Nat} {b:Nat->Int}:Cr w w' (Pp w p t n b) (Pp w' p t n b):=⟨fun h k=>h.all k id⟩
instance {w:World} {p:Nat} {t:TypeId} {n:Nat} {b:Nat->Int}:Lv w (Pp w p t n b) (Lh p):=⟨fun h=>LO h.lt⟩
theorem Pp.set(h:Pp w p t n b)(k:Nat)(x:Int):Pp (w.setCell ⟨p,k,none⟩ (.int .i64 x)) p t n (VV b k x):=by
 unfold Pp;rw[MY _ _ _ _ h,Yi]
theorem Pp.new(w:World)(t:TypeId)(n:Nat)(b:Nat->Int):Pp (w.alloc (.cells (L8 n b).toArray t)) w.heap.size t n b:=heap_alloc_new w _
end
section
variable {ro:Option Nat} {P:Program} {N:Nat} {Q:(Exit->(Nat->Value)->World->Prop)} {F:Nat->Value} {w:World} {n:Nat}
theorem SR{ops:Array Oper}{o:Oper}{rest:List Oper}{t:TypeId}{x:Operand}{b:Nat->Int}(hg:o.guard=none)(hd:Oj N o.dst=true)(ho:o.op = .box t x)(hx:ev (MN N F) x = .agg (L8 n b).toArray)
  (h:∀ p w',p=w.heap.size->Pp w' p t n b->KP (fun _=>False) w w'->wl ro P N ops Q rest (OL F o.dst (.pointer (some ⟨p,0,none⟩))) w'):wl ro P N ops Q (o::rest) F w :=
 Nu hg hd (Ob (v:=.pointer (some ⟨w.heap.size,0,none⟩)) (w':=w.alloc (.cells (L8 n b).toArray t)) (by simp[execOp,ho,hx,go_sem]) (h _ _ rfl (Pp.new w t n b) ((KP.refl _ _).alloc _)))
theorem PP{ops:Array Oper}{o:Oper}{rest:List Oper}{t:TypeId}(hg:o.guard=none)(hd:Oj N o.dst=true)(ho:o.op = .alloc t)(hz:∀ w,(zeroValue t).run P w = .ok (.agg (L8 n (fun _=>0)).toArray) w)
  (h:∀ p w',p=w.heap.size->Pp w' p t n (fun _=>0)->KP (fun _=>False) w w'->wl ro P N ops Q rest (OL F o.dst (.pointer (some ⟨p,0,none⟩))) w'):wl ro P N ops Q (o::rest) F w :=
 Nu hg hd (Ob (v:=.pointer (some ⟨w.heap.size,0,none⟩)) (w':=w.alloc (.cells (L8 n (fun _=>0)).toArray t)) (by simp[execOp,ho,hz,go_sem]) (h _ _ rfl (Pp.new w t n _) ((KP.refl _ _).alloc _)))
end
section
variable {ro:Option Nat} {N:Nat} {Q:(Exit->(Nat->Value)->World->Prop)} {F:Nat->Value} {w:World} {ρ:Operand->Value} {o:Oper} {R:Value->World->Prop} {n:Nat}
theorem Rf{ty t:TypeId}{x:Operand}{p:Nat}{b:Nat->Int}(hT:VZ ty n)(ho:o.op = .load ty x)(hx:ρ x = .pointer (some ⟨p,0,none⟩))(hB:Pp w p t n b)(h:R (.agg (L8 n b).toArray) w):Lj Tryz.prog ρ o w R :=
 SQ ho p hx _ t (0,0) _ hB hT.1 rfl (hT.size b) h
theorem Rl{ops:Array Oper}{rest:List Oper}{ty t:TypeId}{x y:Operand}{p:Nat}{b c:Nat->Int}(hT:VZ ty n)(hg:o.guard=none)(hdn:o.dst=none)(ho:o.op = .store ty x y)(hx:ev (MN N F) x = .pointer (some ⟨p,0,none⟩))(hy:ev (MN N F) y = .agg (L8 n c).toArray)(hB:Pp w p t n b)
  (h:∀ w',Pp w' p t n c->KP (fun k=>k=p) w w'->wl ro Tryz.prog N ops Q rest F w'):wl ro Tryz.prog N ops Q (o::rest) F w:=by
 refine Nu hg (by rw[hdn];rfl) (Pz ty x y ho p _ (L8 n c).toArray t hx hy hB (by rw[List.size_toArray,List.size_toArray,On,On]) (hT.size c) (all_oneCell_toArray (XT _ _)) fun w' hw hk=>?_)
 rw[hdn]
 exact h w' hw hk
theorem Vx{ops:Array Oper}{rest:List Oper}{ty t:TypeId}{x y:Operand}{p k:Nat}{m:Int}{b:Nat->Int}(hg:o.guard=none)(hdn:o.dst=none)(ho:o.op = .store ty x y)(hx:ev (MN N F) x = .pointer (some ⟨p,k,none⟩))(hy:ev (MN N F) y = .int .i64 m)(hB:Pp w p t n b)(hk:k<n)
  (hs:(Tryz.prog.info? ty).map (·.size)=some 1)
  (h:∀ w',Pp w' p t n (VV b k m)->KP (fun k=>k=p) w w'->wl ro Tryz.prog N ops Q rest F w'):wl ro Tryz.prog N ops Q (o::rest) F w:=by
 have hc:=hB.cell hk
 have hf:=hB.free k
 cases hq:Tryz.prog.info? ty with
 | none=>simp[hq] at hs
 | some i =>
  have hs':i.size=1:=by simpa [hq] using hs
  refine Nu hg (by rw[hdn];rfl) ?_
  have e:(execOp (ev (MN N F)) o).run Tryz.prog w = .ok .skip (w.setCell ⟨p,k,none⟩ (.int .i64 m))\/(execOp (ev (MN N F)) o).run Tryz.prog w = .ok (.value undef) (w.setCell ⟨p,k,none⟩ (.int .i64 m)):=by
   simp[execOp,ho,hx,hy,Instr.storeAt,Instr.sureAddr,storeVar,sizeOf,typeInfo,hq,hs',Value.cells,hc,hf,go_sem]
  unfold Lj
  rw[hdn]
  rcases e with e|e <;> rw[e] <;> exact h _ (hB.set k m) ((KP.refl (fun k=>k=p) w).setCell ⟨p,k,none⟩ (fun _=>rfl) _)
end
section
variable {ro:Option Nat} {P:Program} {ρ:Operand->Value} {o:Oper} {w:World} {R:Value->World->Prop}
theorem L0{t:TypeId}{l:List (Nat×Operand)}{l':List (Nat×Value)}{cells:Array Value}{v:Value}(ho:o.op = .build t l.toArray)(hl:l.map (fun p=>(p.1,ρ p.2))=l')(hc:P.built t l'=some cells)(hv : .agg cells=v)(h:R v w):Lj P ρ o w R:=by
 subst hl
 exact Mz ho (by rw[← hc];congr 1;simp) hv h
theorem Rc:([]:List (Nat×Operand)).map (fun p=>(p.1,ρ p.2))=[]:=rfl
theorem SU{i:Nat}{x:Operand}{v:Value}{xs:List (Nat×Operand)}{vs:List (Nat×Value)}(h:ρ x=v)(h2:xs.map (fun p=>(p.1,ρ p.2))=vs):((i,x)::xs).map (fun p=>(p.1,ρ p.2))=(i,v)::vs:=by simp[h,← h2]
end
end Go.Proofs.YtknjpdcpmpfklaaGreatDoor
set_option maxRecDepth 100000
namespace Go.Proofs.YtknjpdcpmpfklaaGreatDoor
open Go.RowKit
def NY(w:World):Prop:=3<w.heap.size/\∀ i,i<21->w.cell? ⟨3,i,none⟩=some (.int .i64 (stl.getD i 0))
theorem NY.all{w w':World}(h:NY w)(k:KP (fun _=>False) w w'):NY w' :=
 ⟨Nat.lt_of_lt_of_le h.1 k.size,fun i hi=>(k.cell0 h.1 id).trans (h.2 i hi)⟩
theorem NY.at{w:World}(h:NY w){q:Int}(hq:0<=q/\q<=20):w.cell? ⟨3,q.toNat,none⟩=some (.int .i64 (Xg q)):=by
 rw[aAd hq,← h.2 q.toNat (by omega)]
def aDw(f:Nat)(g:Int->Int->Int):Prop:=(∀ args w,(callFunc f args).run Tryz.prog w = .ok (.enter f args) w) ∧
 ∀ (n s:Int) (w0:World),-1048576<=n/\n<=1048576->1<=s/\s<=192->Calls Tryz.prog f #[.int .i64 n,.int .i64 s] w0 fun e w'=>e = .returned (.int .i64 (g n s))/\KP (fun _=>False) w0 w'
theorem ayF(n s:Int)(w0:World)(hn : -1048576<=n/\n<=1048576)(hs:1<=s/\s<=192) :
  Calls Tryz.prog 145 #[.int .i64 (n),.int .i64 (s)] w0 fun e w'=>e = .returned (.int .i64 (TH n s))/\KP (fun _=>False) w0 w':=by
 refine Ls (args:=[iv n,iv s]) 8 Tryz.func145 rfl rfl (Nat.le_of_ble_eq_true rfl) ?_
 have hm:=aCP hn hs
 refine KK (KI (KJ (iv 0) rfl rfl (KX rfl rfl rr) (KO ?_)))
 have s3:=La (iv n)
 have s4:=La (iv s)
 have s5:=La (undef)
 refine KH (KK (KI (KW rfl rfl rfl s3 (KW rfl rfl rfl s4 (KJ (iv (TH n s)) rfl rfl (NH rfl rfl rfl (Mb (y:=TH n s) rfl (by omega)) rr) (KJ (iv (TH n s)) rfl rfl (KX rfl rfl rr) (KO ?_)))))))
 have s9:=La (iv (TH n s))
 refine KH (Ld ?_)
 exact Lu (v:=iv (TH n s)) s5 rfl rfl s9 ⟨rfl,(KP.refl (fun _=>False) w0)⟩
theorem azX:aDw 145 TH:=⟨fun _ _=>by kernel_rfl,fun n s w0 hn hs=>ayF n s w0 hn hs⟩
theorem WY(n:Int)(w0:World) :
  Calls Tryz.prog 167 #[.int .i64 (n)] w0 fun e w'=>e = .returned (.int .i64 (cl 1048576 n))/\KP (fun _=>False) w0 w':=by
 refine Ls (args:=[iv n]) 6 Tryz.func167 rfl rfl (Nat.le_of_ble_eq_true rfl) ?_
 refine KK (KI (KJ (iv 0) rfl rfl (KX rfl rfl rr) (KO ?_)))
 have s3:=La (iv n)
 have s4:=La (undef)
 refine KH (KK (KI (KW rfl rfl rfl s3 (KJ (iv (min n 1048576)) rfl rfl (QO rfl rfl rfl rfl rr) (KJ (iv (cl 1048576 n)) rfl rfl (Rn rfl rfl rfl (by unfold cl;omega) rr) (KJ (iv (cl 1048576 n)) rfl rfl (KX rfl rfl rr) (KO ?_)))))))
 have s8:=La (iv (cl 1048576 n))
 refine KH (Ld ?_)
 exact Lu (v:=iv (cl 1048576 n)) s4 rfl rfl s8 ⟨rfl,(KP.refl (fun _=>False) w0)⟩
theorem aAe(q:Int)(w0:World)(hs:NY w0) :
  Calls Tryz.prog 166 #[.int .i64 (q)] w0 fun e w'=>e = .returned (.tuple #[.int .i64 (Xg q),.int .i64 (Qx q)])/\KP (fun _=>False) w0 w':=by
 refine Ls (args:=[iv q]) 13 Tryz.func166 rfl rfl (Nat.le_of_ble_eq_true rfl) ?_
 have K0:=KP.refl (fun _=>False) w0
 refine KK (KI (KJ (iv 0) rfl rfl (KX rfl rfl rr) (KJ (iv 0) rfl rfl (KX rfl rfl rr) (KO ?_))))
 have s3:=La (iv q)
 have s4:=La (undef)
 refine KH (KK (Lo (KK (Lo (Lo (KK (KK (KK (KI (KW rfl rfl rfl s3 (KJ (.bool (decide (q<0))) rfl rfl (L5 rfl rfl rfl rfl rr) ?_)))))))))))
 refine KJ (.bool (decide (q<0))) rfl rfl (KX rfl rfl rr) (KO ?_)
 have s9:=La (.bool (decide (q<0)))
 refine KH ?_
 refine Lc s9 (fun aa=>?_) (fun aa=>?_)
 ·replace aa:=of_decide_eq_true aa
  refine Mg (Lt (Lt (Mh (LD (KH (KK (KK (KI (KJ (iv 0) rfl rfl (KX rfl rfl rr) (KJ (iv 50) rfl rfl (KX rfl rfl rr) (KO ?_)))))))))))
  have ai:=La (iv 0)
  have aj:=La (iv 50)
  refine KH (Ld (Lq (NV (Lq ?_))))
  exact L7 s4 rfl (Lz (v:=iv 0) rfl ai) (Lz (v:=iv 50) rfl aj) ⟨(by first|(rw[W7 (by omega)])|(rw[Ys (by omega),WJ (by omega)])),K0⟩
 ·replace aa:=of_decide_eq_false aa
  refine Li (KH (KK (KI (KW rfl rfl rfl s3 (KJ (.bool (decide (20<q))) rfl rfl (Ms rfl rfl rfl rfl rr) (KJ (.bool (decide (20<q))) rfl rfl (KX rfl rfl rr) (KO ?_)))))))
  have ak:=La (.bool (decide (20<q)))
  refine KH ?_
  refine Lc ak (fun ab=>?_) (fun ab=>?_)
  ·replace ab:=of_decide_eq_true ab
   refine Mg (Lt (Q7 (by decide) (Mh (KH (KK (KK (KI (KJ (iv 0) rfl rfl (KX rfl rfl rr) (KJ (iv 50) rfl rfl (KX rfl rfl rr) (KO ?_))))))))))
   have am:=La (iv 0)
   have an:=La (iv 50)
   refine KH (Ld (Lq (NV (Lq ?_))))
   exact L7 s4 rfl (Lz (v:=iv 0) rfl am) (Lz (v:=iv 50) rfl an) ⟨(by first|(rw[W7 (by omega)])|(rw[Ys (by omega),WJ (by omega)])),K0⟩
  ·replace ab:=of_decide_eq_false ab
   refine Li (KH (Mg (Q7 (by decide) (Q7 (by decide) (Lt (Mh (KH (KK (KI (KW rfl rfl rfl s3 (KJ (.pointer (some ⟨3,q.toNat,none⟩)) rfl rfl (LU (q.toNat) (s:=1) rfl rfl rfl (by omega) Tryz.underlying175 (by omega) (by kernel_rfl) (by omega) rr) ?_)))))))))))
   refine KJ (iv (Xg q)) rfl rfl (OI rfl rfl Tryz.underlying3 ((hs.all K0).at (q:=q) (by omega)) rr) (KJ (iv (Xg q)) rfl rfl (KX rfl rfl rr) (KJ (iv 0) rfl rfl (KX rfl rfl rr) (KO ?_)))
   have ao:=La (iv (Xg q))
   have ap:=La (iv 0)
   refine KH (Ld ?_)
   exact L7 s4 rfl (Lz (v:=iv (Xg q)) rfl ao) (Lz (v:=iv 0) rfl ap) ⟨(by first|(rw[W7 (by omega)])|(rw[Ys (by omega),WJ (by omega)])),K0⟩
theorem aze(f:Nat)(g:Int->Int->Int)(b:Nat->Int)(q:Int)(w0:World)(hs:NY w0)(hf:aDw f g) :
  Calls Tryz.prog 144 #[LK (b),.int .i64 (q),.func (.func (f)) #[] #[]] w0 fun e w'=>e = .returned (.tuple #[LK (Ub g b q),.int .i64 (Qx q)])/\KP (fun _=>False) w0 w':=by
 refine Ls (args:=[LK b,iv q,.func (.func f) #[] #[]]) 35 Tryz.func144 rfl rfl (Nat.le_of_ble_eq_true rfl) ?_
 have K0:=KP.refl (fun _=>False) w0
 refine KK (KI (M6 rfl rfl rfl rfl fun p1 w2 e5 B3 k4=>?_))
 have K8:=K0.tr k4
 refine L1 rfl rfl rfl KZ.2.2 fun p9 bv ap aQ aq=>?_
 have ah:=LV (Nat.le_of_eq ap.symm)
 have ar:=KS.new K8 ah
 have aR:=KM.new ah (LO B3.lt)
 clear ap ah
 have aS:=B3.all aq id
 have au:=K8.tr aq
 refine KJ (iv 0) rfl rfl (KX rfl rfl rr) (KO ?_)
 have aT:=La (iv q)
 have aU:=La (.func (.func f) #[] #[])
 have av:=La (undef)
 have aw:=La (pt p1 0)
 have ai:=La (pt p9 0)
 refine KH (KK (KI (KW rfl rfl rfl aT (LY rfl rfl rfl rfl rfl (fun _ _=>by kernel_rfl) (Lm rfl LS) (aAe q  _ (hs.all au)  ) fun bz az=>?_))))
 obtain⟨aA,aB⟩:=NL az aS aQ
 have aC:=au.tr az
 refine KJ (.tuple #[iv (Xg q),iv (Qx q)]) rfl rfl (KQ rfl rfl rr) (KJ (iv (Xg q)) rfl rfl (LM rfl rfl rfl rr) (KJ (iv (Qx q)) rfl rfl (LM rfl rfl rfl rr) (KJ (iv (Xg q)) rfl rfl (KX rfl rfl rr) (KJ (iv (Qx q)) rfl rfl (KX rfl rfl rr) (KO ?_)))))
 have aV:=La (iv (Xg q))
 have aD:=La (iv (Qx q))
 refine KH (KK (KK (KI (KW rfl rfl rfl aD (KJ (.bool (decide ((Qx q)≠0))) rfl rfl (Mc rfl rfl rfl rfl rr) (KO ?_))))))
 have aW:=La (.bool (decide ((Qx q)≠0)))
 refine KH ?_
 refine Lc aW (fun ab=>?_) (fun ab=>?_)
 ·replace ab:=of_decide_eq_true ab
  refine KK (KI (KJ (LK (fun _=>0)) rfl rfl (Mz (cells:=(L8 16 (fun _=>0)).toArray) rfl (by kernel_rfl) rfl rr) (KW rfl rfl rfl aD (Lp KZ rfl rfl rfl ai rfl aB fun bA aX aY=>?_))))
  refine KJ (iv (Qx q)) rfl rfl (KX rfl rfl rr) (KO ?_)
  have aZ:=La (iv (Qx q))
  refine KH (Ld (Lq ?_))
  exact L7 av rfl (Mq KZ rfl ai aX) (Lz (v:=iv (Qx q)) rfl aZ) ⟨(by first|(rw[ZE (by omega)])|(rw[show Qx q=0 by omega])),(aC.trans aY (KS.ok (S:=fun _=>False) ar K6))⟩
 ·replace ab:=of_decide_eq_false ab
  refine Li (KH (KK (KK (KI (KJ (LK b) rfl rfl (LZ KZ rfl aw aA rr) (KJ (iv 0) rfl rfl (KQ rfl rfl rr) (KO ?_)))))))
  have a8:=La (LK b)
  have a9:=La (iv 0)
  refine KH (Lo (M4 (fun nn FF ww=>∃ (k:Nat),(k<=16)/\nn=16-k/\FF 2 = .func (.func f) #[] #[]/\FF 3=pt p1 0/\FF 6=pt p9 0/\FF 8=iv (Xg q)/\FF 21=LK b/\FF 35=undef/\FF 22=iv ((k:Nat):Int)/\KP (fun _=>False) w0 ww/\NO ww p1 69 (upto k b (Ub g b q))/\NO ww p9 69 (fun _=>0)) (16-0) ⟨0,by omega,rfl,aU,aw,ai,aV,a8,av,a9,aC,aA.first,aB⟩ ?_))
  rintro bB bC ba ⟨k,i72,hn71,aE,aj,ak,aF,aG,aH,af,aI,aJ,aK⟩
  refine KK (KI (KJ (.bool (decide (((k:Nat):Int)<16))) rfl rfl (L5 rfl af rfl rfl rr) (KO ?_)))
  have bb:=La (.bool (decide (((k:Nat):Int)<16)))
  refine KH (KK ?_)
  refine Lc bb (fun ac=>?_) (fun ac=>?_)
  ·replace ac:=of_decide_eq_true ac
   refine Li (KH (KK (Lo (KK (KI (KW rfl rfl rfl af (KJ (iv (b k)) rfl rfl (aAH k KZ rfl aG af (by omega) rfl rr) (KJ (iv ((k:Nat):Int)) rfl rfl (KX rfl rfl rr) (KJ (iv (b k)) rfl rfl (KX rfl rfl rr) (KO ?_))))))))))
   have bc:=La (iv ((k:Nat):Int))
   have bd:=La (iv (b k))
   refine KH ?_
   have hst:=aCh (q:=q) (by omega)
   refine KI (KW rfl rfl rfl bc (KW rfl rfl rfl aE (KW rfl rfl rfl bd (LY rfl rfl rfl rfl rfl (fun _ _=>by kernel_rfl) (Lm rfl LS) (WY (b k)  _   ) fun be aL=>?_))))
   obtain⟨bf,bg⟩:=NL aL aJ aK
   refine KW rfl rfl rfl aF (Ly (R:=fun v_ w_=>v_=iv (g (cl 1048576 (b k)) (Xg q))/\KP (fun _=>False) be w_) rfl rfl (aDR rfl rfl rfl rfl (hf.1) (Lm rfl (Lm rfl LS)) (hf.2 _ _ _ (aB3 1048576 _ (by omega)) (by omega)) (fun e_ w_ h_=>⟨_,h_.1,rfl,h_.2⟩)) ?_)
   rintro _ bD ⟨rfl,aM⟩
   obtain⟨bh,bi⟩:=NL aM bf bg
   refine KJ (.pointer (some ⟨p1,k,none⟩)) rfl rfl (LU k (s:=1) rfl aj rfl (by omega) Tryz.underlying69 (by omega) (by kernel_rfl) (by omega) rr) (NQ rfl rfl rfl rfl rfl bh (by omega) (by kernel_rfl) fun bE bj aN=>?_)
   have bl:=bi.all aN (aR p9 rfl)
   refine KO ?_
   refine LD (KH (KI (KJ (iv ((k+1:Nat):Int)) rfl rfl (LR rfl af rfl (L2 (by omega) (by omega)) rr) (KJ (iv ((k+1:Nat):Int)) rfl rfl (KQ rfl rfl rr) (KO ?_)))))
   have bm:=La (iv ((k+1:Nat):Int))
   exact KH ⟨(16-(k+1)),by omega,k+1,by omega,rfl,aE,aj,ak,aF,aG,aH,bm,(((aI.tr aL).tr aM).trans aN (KS.ok (S:=fun _=>False) (KS.new K0 (LV (Nat.le_of_eq e5.symm))) K6)),(bj.next (by rw[aBa (by omega)])),bl⟩
  ·replace ac:=of_decide_eq_false ac
   refine Mg (Lt (Lt ?_))
   have bn:16=k:=by omega
   subst bn
   have bo:NO ba p1 69 (Ub g b q):=(aJ.last)
   refine Mh (KH (KK (KI (KJ (LK (Ub g b q)) rfl rfl (LZ KZ rfl aj bo rr) (Lp KZ rfl rfl rfl ak rfl aK fun bF bp bq=>?_)))))
   refine KJ (iv 0) rfl rfl (KX rfl rfl rr) (KO ?_)
   have bt:=La (iv 0)
   refine KH (Ld ?_)
   exact L7 aH rfl (Mq KZ rfl ak bp) (Lz (v:=iv 0) rfl bt) ⟨(by first|(rw[ZE (by omega)])|(rw[show Qx q=0 by omega])),(aI.trans bq (KS.ok (S:=fun _=>False) ar K6))⟩
theorem aCI(b:Nat->Int)(q:Int)(w0:World)(hs:NY w0) :
  Calls Tryz.prog 113 #[LK (b),.int .i64 (q)] w0 fun e w'=>e = .returned (.tuple #[LK (Un b q),.int .i64 (Qx q)])/\KP (fun _=>False) w0 w':=by
 refine Ls (args:=[LK b,iv q]) 11 Tryz.func113 rfl rfl (Nat.le_of_ble_eq_true rfl) ?_
 refine KK (KI (M6 rfl rfl rfl rfl fun p1 w2 e5 B3 k4=>?_))
 have g6:=LV (Nat.le_of_eq e5.symm)
 clear e5 g6
 have K8:=(KP.refl (fun _=>False) w0).tr k4
 refine L1 rfl rfl rfl KZ.2.2 fun p9 aD ao ap ac=>?_
 have aq:=B3.all ac id
 have ae:=K8.tr ac
 refine KJ (iv 0) rfl rfl (KX rfl rfl rr) (KO ?_)
 have ar:=La (iv q)
 have au:=La (undef)
 have av:=La (pt p1 0)
 have af:=La (pt p9 0)
 refine KH (KK (KI (KJ (LK b) rfl rfl (LZ KZ rfl av aq rr) (KW rfl rfl rfl ar (LY rfl rfl rfl rfl rfl (fun _ _=>by kernel_rfl) (Lm rfl (Lm rfl (Lm rfl LS))) (aze _ TH b q _ (hs.all ae) azX) fun aE ah=>?_)))))
 have aw:=ap.all ah id
 refine KJ (LK (Ub TH b q)) rfl rfl (LM rfl rfl rfl rr) (KJ (iv (Qx q)) rfl rfl (LM rfl rfl rfl rr) (Lp KZ rfl rfl rfl af rfl aw fun aF az aA=>?_))
 refine KJ (iv (Qx q)) rfl rfl (KX rfl rfl rr) (KO ?_)
 have aB:=La (iv (Qx q))
 refine KH (Ld ?_)
 exact L7 au rfl (Mq KZ rfl af az) (Lz (v:=iv (Qx q)) rfl aB) ⟨rfl,((ae.tr ah).trans aA (KS.ok (S:=fun _=>False) (KS.new K8 (LV (Nat.le_of_eq ao.symm))) K6))⟩
end Go.Proofs.YtknjpdcpmpfklaaGreatDoor
set_option maxRecDepth 100000
namespace Go.Proofs.YtknjpdcpmpfklaaGreatDoor
open Go.ChangeShapes Go.WideShapes Go.ChangeAt Go.RowKit
def aAI{H:Type}(x:Int):DataW H:=.lit (.int .i64 x)
theorem Tryz.c1:Tryz.prog.cellsOf 3=1:=by kernel_rfl
theorem W2{W:World}{f:Nat}{t:TypeId}{n:Nat}{l:List Int}{cs:List Value}{p:List MemPlace}(hu:Tryz.prog.underlying t=some (.array n 3))(hc:Tryz.prog.cellsOf t=n)
  (hd:DataW.trod (fun _=>()) Tryz.prog W 0 (fun _=>true) false f t cs=some (.agg (l.map aAI),p)):∀ i,i<n->cs[i]? = some (.int .i64 (l.getD i 0)):=by
 obtain⟨xs,m,rfl,hx,hl,hn,hel⟩:=DataW.trod_array hu hd
 rw[hc] at hl
 simp only[Prod.mk.injEq,DataW.agg.injEq] at hx
 intro i hi
 have h2:=hel i hi
 rw[Tryz.c1,Nat.mul_one,List.getElem?_eq_getElem (by omega)] at h2
 obtain⟨z,hz,hdz,_⟩:=DataW.trod_int Tryz.underlying3 h2
 have h3:cs[i]? = some (.int .i64 z):=by
  have:=congrArg (·[0]?) hz
  simpa [List.getElem?_take,List.getElem?_drop] using this
 have e2:(xs.map (·.1))[i]? = some (.lit (.int .i64 z)):=by
  rw[List.getElem?_map,List.getElem?_eq_getElem (by omega),hdz];rfl
 rw[← hx.1,List.getElem?_map] at e2
 rw[h3,List.getD_eq_getElem?_getD]
 cases hq:l[i]? with
 | none=>rw[hq] at e2;cases e2
 | some y =>
  rw[hq] at e2
  simp only[Option.map_some,Option.some.injEq,aAI,DataW.lit.injEq,Lit.int.injEq,true_and] at e2
  subst e2;rfl
theorem aBF{W:World}{f:Nat}{t r:TypeId}{n m:Nat}{l:List (List Int)}{cs:List Value}{p:List MemPlace}(hu:Tryz.prog.underlying t=some (.array n r))(hr:Tryz.prog.underlying r=some (.array m 3))(hcr:Tryz.prog.cellsOf r=m)
  (hd:DataW.trod (fun _=>()) Tryz.prog W 0 (fun _=>true) false f t cs=some (.agg (l.map fun q=>.agg (q.map aAI)),p)):∀ u c,u<n->c<m->cs[u*m+c]? = some (.int .i64 ((l.getD u []).getD c 0)):=by
 obtain⟨xs,k,rfl,hx,hl,hn,hel⟩:=DataW.trod_array hu hd
 simp only[Prod.mk.injEq,DataW.agg.injEq] at hx
 intro u c hu hc2
 have h1:=hel u hu
 rw[hcr,List.getElem?_eq_getElem (by omega)] at h1
 have e1:(xs.map (·.1))[u]? = some xs[u].1:=by rw[List.getElem?_map,List.getElem?_eq_getElem (by omega)];rfl
 rw[← hx.1,List.getElem?_map] at e1
 cases hq:l[u]? with
 | none=>rw[hq] at e1;cases e1
 | some y =>
  rw[hq] at e1
  simp only[Option.map_some,Option.some.injEq] at e1
  have h2:DataW.trod (fun _=>()) Tryz.prog W 0 (fun _=>true) false k r ((cs.drop (u*m)).take m)=some (.agg (y.map aAI),xs[u].2):=by
   rw[h1,e1]
  have h3:=W2 hr hcr h2 c hc2
  rw[List.getElem?_take,if_pos hc2,List.getElem?_drop] at h3
  rw[h3,show l.getD u []=y by rw[List.getD_eq_getElem?_getD,hq];rfl]
end Go.Proofs.YtknjpdcpmpfklaaGreatDoor
set_option maxRecDepth 100000
namespace Go.Proofs.YtknjpdcpmpfklaaGreatDoor
open Go.ChangeShapes Go.WideShapes Go.ChangeAt Go.RowKit
theorem Tryz.gSteps : Tryz.prog.globalNamed "clapboard/quant.steps" = some 3 := by kernel_rfl
theorem Tryz.tSteps:(Tryz.prog.globals[3]?).map (·.type)=some 175:=by kernel_rfl
theorem Tryz.gWaves : Tryz.prog.globalNamed "clapboard/wave.waves" = some 4 := by kernel_rfl
theorem Tryz.tWaves:(Tryz.prog.globals[4]?).map (·.type)=some 179:=by kernel_rfl
theorem Tryz.c21:Tryz.prog.cellsOf 175=21:=by kernel_rfl
theorem Tryz.c4:Tryz.prog.cellsOf 171=4:=by kernel_rfl
theorem aAf{W : World}{f : Nat}{cs : Array Value}{p : List MemPlace}(hv : World.var? Tryz.prog W "clapboard/quant.steps" = some cs)
  (hd:DataW.trod (fun _=>()) Tryz.prog W 0 (fun _=>true) false f 175 cs.toList=some (Rows.laid_clapboard_quant_steps,p)):NY W:=by
 have key:=W2 (l:=stl) Tryz.underlying175 Tryz.c21 hd
 have cell:∀ i,i<21->W.cell? ⟨3,i,none⟩=some (.int .i64 (stl.getD i 0)):=by
  intro i hi
  rw[World.var?_cell Tryz.gSteps hv i]
  simpa using key i hi
 exact⟨World.block_lt_of_cell? W _ (cell 0 (by omega)),cell⟩
theorem aAR{W : World}{f : Nat}{cs : Array Value}{p : List MemPlace}(hv : World.var? Tryz.prog W "clapboard/wave.waves" = some cs)
  (hd:DataW.trod (fun _=>()) Tryz.prog W 0 (fun _=>true) false f 179 cs.toList=some (Rows.laid_clapboard_wave_waves,p)):Qi W:=by
 have key:=aBF (l:=[[1,1,1,1],[1,1,-1,-1],[1,-1,-1,1],[1,-1,1,-1]]) Tryz.underlying179 Tryz.underlying171 Tryz.c4 hd
 have cell:∀ i,i<16->W.cell? ⟨4,i,none⟩=some (.int .i64 (wv 0 i)):=by
  intro i hi
  rw[World.var?_cell Tryz.gWaves hv i]
  have h2:=key (i/4) (i%4) (by omega) (by omega)
  rw[show i/4*4+i%4=i by omega] at h2
  have e:∀ i,i<16->(([[1,1,1,1],[1,1,-1,-1],[1,-1,-1,1],[1,-1,1,-1]]:List (List Int)).getD (i/4) []).getD (i%4) 0=wv 0 i:=by decide
  rw[e i hi] at h2
  simpa using h2
 exact⟨World.block_lt_of_cell? W _ (cell 0 (by omega)),cell⟩
end Go.Proofs.YtknjpdcpmpfklaaGreatDoor
set_option maxRecDepth 100000
namespace Go.Proofs.YtknjpdcpmpfklaaGreatDoor
open Go.RowKit
def LF(l:List Nat):List Value:=l.map fun x:Nat=>.int .u8 (x:Int)
theorem LC(l:List Nat):(LF l).length=l.length:=by simp[LF]
theorem Ry(a b:List Nat):LF (a++b)=LF a++LF b:=by simp[LF]
theorem P2(l:List Nat):∀ u∈LF l,u.oneCell'=true:=by
 intro u hu
 obtain⟨x,_,rfl⟩:=List.mem_map.1 hu
 rfl
theorem OQ(l:List Nat)(i:Nat)(h:i<l.length):(LF l)[i]? = some (.int .u8 (l.getD i 0:Nat)):=by
 simp[LF,List.getD,h]
theorem Tryz.info_u8:(Tryz.prog.info? 5).map (fun i=>(i.zero,i.size,i.bytes))=some (some (.int .u8 0),1,1):=by kernel_rfl
def Mi(w:World)(v:Value)(l:List Nat):Prop :=
 ∃ a cap,v = .slice a l.length cap/\l.length<=cap/\cap<=maxLen/\(a=none->cap=0)/\(∀ x∈l,x<256) ∧
  (0<l.length->∃ b off,a=some ⟨b,off,none⟩/\b<w.heap.size/\∀ i,i<l.length->w.cell? ⟨b,off+i,none⟩=some (.int .u8 (l.getD i 0:Nat)))
theorem Mi.lt256{w:World}{v:Value}{l:List Nat}(h:Mi w v l):∀ x∈l,x<256:=by
 obtain⟨a,cap,rfl,h1,h2,h3,hl,hc⟩:=h;exact hl
theorem Mi.nil(w:World):Mi w (.slice none 0 0) []:=⟨none,0,rfl,Nat.le_refl _,Nat.zero_le _,fun _=>rfl,by simp,by simp⟩
theorem UG{l:List Nat}(h:∀ x∈l,x<256)(i:Nat):l.getD i 0<256:=by
 rw[List.getD]
 cases e:l[i]? with
 | none=>simp
 | some x=>simpa using h x (List.mem_of_getElem? e)
def Ur(w:World)(B:Nat)(v:Value)(l:List Nat):Prop:=w.ownsRow B 5 1 v l.length (LF l)/\∀ x∈l,x<256
theorem Ur.nil(w:World)(B:Nat):Ur w B (.slice none 0 0) []:=⟨World.ownsRow_nil w B _ _,by simp⟩
theorem Ur.lt{w:World}{B:Nat}{v:Value}{l:List Nat}(h:Ur w B v l):∀ k,v.ownBlock=some k->B<=k/\k<w.heap.size:=h.1.lt
theorem Ur.kept{S:Nat->Prop}{w w':World}{B:Nat}{v:Value}{l:List Nat}(h:Ur w B v l)(k:KP S w w')(hs:∀ g,v.ownBlock=some g->¬ S g):Ur w' B v l:=by
 obtain⟨⟨h0,h1⟩,h2⟩:=h
 refine⟨⟨h0,?_⟩,h2⟩
 rcases h1 with hn | ⟨g,cap,cur,rfl,hb,hg,rest⟩
 ·exact .inl hn
 ·exact .inr ⟨g,cap,cur,rfl,hb,k.at hg (hs g rfl),rest⟩
theorem Ur.bytes{w:World}{B:Nat}{v:Value}{l:List Nat}(h:Ur w B v l):Mi w v l:=by
 obtain⟨h,h256⟩:=h
 rcases h.2 with ⟨rfl,h0⟩ | ⟨g,cap,cur,rfl,hb,hg,hc,hm,hs,ht⟩
 ·have hl:l=[]:=List.eq_nil_of_length_eq_zero h0
  subst hl;exact Mi.nil w
 ·refine⟨some ⟨g,0,none⟩,cap,rfl,hc,hm,by simp,h256,fun hpos=>⟨g,0,rfl,MK hg,fun i hi=>?_⟩⟩
  rw[Nat.zero_add,h.cellAt i (by omega)]
  exact OQ l i hi
theorem Ur.of_new{w:World}{B g:Nat}{l:List Nat}(h:w.heap[g]? = some (.cells (LF l).toArray 5 (0,0)))(hB:B<=g)(hm:l.length<=maxLen)(h256:∀ x∈l,x<256) :
  Ur w B (.slice (some ⟨g,0,none⟩) l.length l.length) l:=by
 refine⟨⟨by rw[LC];omega,.inr ⟨g,l.length,_,rfl,hB,h,Nat.le_refl _,hm,by simp[LC],?_⟩⟩,h256⟩
 rw[List.take_of_length_le (by simp[LC])]
def XS(w w':World)(B:Nat)(v v':Value)(l:List Nat):Prop:=Ur w' B v' l/\w.grownBy w' v.ownBlock
theorem QY(w:World)(ty:TypeId)(B:Nat)(v x:Value)(l m:List Nat)(hown:Ur w B v l)(hx:Mi w x m)(hl:l.length+m.length<1099511627776)(hB:B<=w.heap.size) :
  ∃ v' w',(Builtin.append_ #[26,26] ty #[v,x]).run Tryz.prog w = .ok v' w'/\XS w w' B v v' (l++m):=by
 obtain⟨i0,hi,hz0,hz1,hz2⟩:=info_parts Tryz.info_u8
 obtain⟨a,cap,rfl,h1,h2,h3,h256,hc⟩:=hx
 have hall:∀ y∈l++m,y<256:=by
  intro y hy
  rcases List.mem_append.1 hy with h|h
  ·exact hown.2 y h
  ·exact h256 y h
 have hlm:l.length+m.length<=maxLen:=by unfold maxLen;omega
 cases a with
 | none =>
  have hc0:=h3 rfl
  subst hc0
  have hm:m=[]:=List.eq_nil_of_length_eq_zero (by omega)
  subst hm
  refine⟨v,w,run_append_owned_none w B _ ty _ i0 1 Tryz.underlying26 hi v _ _ hown.1,⟨by simpa using hown.1,hall⟩,⟨rfl,rfl,rfl,Nat.le_refl _,fun _ _ _=>rfl⟩⟩
 | some ad =>
  have hcells:∀ j u,(LF m)[j]? = some u->w.cell? (ad.add j)=some u:=by
   intro j u hj
   have hjl:j<m.length:=by
    have:=(List.getElem?_eq_some_iff.1 hj).1
    rwa [LC] at this
   obtain⟨b,off,he,hb,hcell⟩:=hc (by omega)
   cases he
   rw[Addr.add_lit,hcell j hjl,← hj,OQ m j hjl]
  obtain⟨v',w',hr,ho,hg,_⟩:=run_append_own (P:=Tryz.prog) w B 26 ty 5 i0 (.int .u8 0) 1 1 Tryz.underlying26 hi hz0 hz1 hz2 rfl (by decide) v l.length (LF l) hown.1 ad m.length cap (LF m)
   (by rw[LC];omega) hcells (P2 m) hlm (by omega) hB
  refine⟨v',w',hr,⟨?_,hall⟩,hg⟩
  rw[List.length_append,Ry];exact ho
def Mk(l:List Nat):ByteArray:=(l.map fun n:Nat=>(n:Int)).foldl (fun r n=>r.push (UInt8.ofNat n.toNat)) ByteArray.empty
theorem Mi.text{w:World}{v:Value}{l:List Nat}(h:Mi w v l):(convert 26 9 v).run Tryz.prog w = .ok (.string (Mk l)) w:=by
 obtain⟨a,cap,rfl,h1,h2,h3,h256,hc⟩:=h
 rw[run_convert_bytes_string w 26 9 5 _ _ _ Tryz.underlying26 Tryz.underlying5 Tryz.underlying9]
 cases a with
 | none =>
  have hc0:=h3 rfl
  subst hc0
  have hl:l=[]:=List.eq_nil_of_length_eq_zero (by omega)
  subst hl
  simp[Conv.bytesToString,Mk]
 | some ad =>
  have hl:=run_loadCells_list (P:=Tryz.prog) w ad (LF l) (by
   intro j u hj
   have hjl:j<l.length:=by
    have:=(List.getElem?_eq_some_iff.1 hj).1
    rwa [LC] at this
   obtain⟨b,off,he,hb,hcell⟩:=hc (by omega)
   cases he
   rw[Addr.add_lit,hcell j hjl,← hj,OQ l j hjl])
  rw[LC] at hl
  have e:(LF l).toArray=((l.map fun n:Nat=>(n:Int)).map (Value.int .u8)).toArray:=by simp[LF]
  rw[e] at hl
  exact run_bytesToString w ad l.length cap _ hl
end Go.Proofs.YtknjpdcpmpfklaaGreatDoor
set_option maxRecDepth 100000
namespace Go.Proofs.YtknjpdcpmpfklaaGreatDoor
open Go.RowKit
theorem MV(x:Bool):x.toNat<=1:=by cases x <;> decide
def SB(b:Nat->Bool):Nat :=
 (b 0).toNat*128+(b 1).toNat*64+(b 2).toNat*32+(b 3).toNat*16+(b 4).toNat*8+(b 5).toNat*4+(b 6).toNat*2+(b 7).toNat
theorem ayZ(b:Nat->Bool):SB b<256:=by
 have:=MV (b 0);have:=MV (b 1);have:=MV (b 2);have:=MV (b 3)
 have:=MV (b 4);have:=MV (b 5);have:=MV (b 6);have:=MV (b 7)
 unfold SB;omega
def Qt(n:Nat):Nat:=(n+7)/8
def RT(bs:List Bool):List Nat:=(List.range (Qt bs.length)).map fun i=>SB fun j=>bs.getD (8*i+j) false
theorem R9(bs:List Bool):(RT bs).length=Qt bs.length:=by simp[RT]
def Td(l:List Nat)(i:Nat):Bool:=(l.getD (i/8) 0).testBit (7-i%8)
end Go.Proofs.YtknjpdcpmpfklaaGreatDoor
set_option maxRecDepth 100000
namespace Go.Proofs.YtknjpdcpmpfklaaGreatDoor
open Go.RowKit
def PX(n:Nat):List Bool:=true::List.replicate (7-n%8) false
end Go.Proofs.YtknjpdcpmpfklaaGreatDoor
set_option maxRecDepth 100000
namespace Go.Proofs.YtknjpdcpmpfklaaGreatDoor
open Go.RowKit
theorem VX(z:Value)(n:Nat):madeCells #[z] n=(List.replicate n z).toArray:=by
 unfold madeCells
 apply Array.ext
 ·simp
 ·intro i h1 h2
  simp[Nat.mod_one]
theorem Ww{α:Type}(L cs:List α)(h:cs.length=L.length):splice L 0 cs=cs:=by
 unfold splice
 rw[List.take_zero,List.nil_append,Nat.zero_add,h,List.drop_length,List.append_nil]
theorem TU(l:List Nat):∀ v∈LF l,v.oneCell'=true:=by
 intro v hv
 obtain⟨x,_,rfl⟩:=List.mem_map.1 hv
 rfl
theorem Tryz.size_u8:(Tryz.prog.info? 5).map (·.size)=some 1:=by kernel_rfl
end Go.Proofs.YtknjpdcpmpfklaaGreatDoor
set_option maxRecDepth 100000
namespace Go.Proofs.YtknjpdcpmpfklaaGreatDoor
open Go.RowKit
def NA(w:World)(p g:Nat)(l:List Nat)(at_:Nat)(lost:Bool):Prop :=
 w.heap[p]? = some (.cells #[.slice (some ⟨g,0,none⟩) l.length l.length,.int .i64 (at_:Int),.bool lost] 106 (0,0)) ∧
  w.heap[g]? = some (.cells (LF l).toArray 5 (0,0))/\g≠p
theorem NA.kept{S:Nat->Prop}{w w':World}{p g:Nat}{l:List Nat}{at_:Nat}{lost:Bool}(h:NA w p g l at_ lost)(k:KP S w w')(hp:¬ S p)(hg:¬ S g):NA w' p g l at_ lost :=
 ⟨k.at h.1 hp,k.at h.2.1 hg,h.2.2⟩
theorem NA.drew{w:World}{p g:Nat}{l:List Nat}{at_:Nat}{lost:Bool}(h:NA w p g l at_ lost):NA w.drew p g l at_ lost:=h
theorem NA.facts{w:World}{p g:Nat}{l:List Nat}{at_:Nat}{lost:Bool}(h:NA w p g l at_ lost) :
  w.cell? ⟨p,0,none⟩=some (.slice (some ⟨g,0,none⟩) l.length l.length)/\w.cell? ⟨p,1,none⟩=some (.int .i64 (at_:Int))/\w.cell? ⟨p,2,none⟩=some (.bool lost) ∧
  w.frozen? ⟨p,1,none⟩=false/\w.frozen? ⟨p,2,none⟩=false:=by
 refine⟨by rw[Mt h.1];rfl,by rw[Mt h.1];rfl,by rw[Mt h.1];rfl,M1 h.1,M1 h.1⟩
theorem NA.byte{w:World}{p g:Nat}{l:List Nat}{at_:Nat}{lost:Bool}(h:NA w p g l at_ lost)(i:Nat)(hi:i<l.length):w.cell? ⟨g,i,none⟩=some (.int .u8 (l.getD i 0:Nat)):=by
 rw[Mt h.2.1];simp[LF,List.getD,hi]
theorem NA.setAt{w:World}{p g:Nat}{l:List Nat}{at_:Nat}{lost:Bool}(h:NA w p g l at_ lost)(n:Nat)(x:Int)(hx:x=(n:Int)):NA (w.setCell ⟨p,1,none⟩ (.int .i64 x)) p g l n lost:=by
 subst hx
 refine⟨?_,(Qm _ p 1 g _ h.2.2).trans h.2.1,h.2.2⟩
 rw[MY _ p 1 _ h.1];simp
theorem NA.setLost{w:World}{p g:Nat}{l:List Nat}{at_:Nat}{lost:Bool}(h:NA w p g l at_ lost)(b:Bool):NA (w.setCell ⟨p,2,none⟩ (.bool b)) p g l at_ b:=by
 refine⟨?_,(Qm _ p 2 g _ h.2.2).trans h.2.1,h.2.2⟩
 rw[MY _ p 2 _ h.1];simp
def Wv:List PanicEntry:=[{ v:=.iface 33 (.int .i64 10),recovered:=false }]
def R5(w:World)(p g:Nat)(l:List Nat)(o:Option (Int×Nat))(e:Ending)(w':World):Prop :=
 match o with
 | some (n,a)=>e = .returned (.int .i64 n)/\NA w' p g l a false/\KP (· = p) w w'
 | none=>e = .panicked Wv/\(∃ a,NA w' p g l a false)/\KP (· = p) w w'
def Pa(l:List Nat):Prop:=(∀ x∈l,x<256)/\l.length<1099511627776
theorem Pa.getD{l:List Nat}(h:Pa l)(i:Nat):l.getD i 0<256:=by
 rw[List.getD]
 cases hh:l[i]? with
 | none=>simp
 | some x=>simpa using h.1 x (List.mem_of_getElem? hh)
theorem Ru(w:World) :
  Calls Tryz.prog 130 #[] w fun e w'=>e = .panicked Wv/\w=w':=by
 go_enter Tryz.func130,Tryz.ntmps130
 go_wp2
 exact⟨rfl,rfl,rfl⟩
theorem XP(x k:Nat)(hx:x<256):wrap64 (bits BinOp.and IntKind.u8 ((x:Int)/2 ^ k) 1)=((x.testBit k).toNat:Int):=by
 have e:((x:Int)/2 ^ k)=((x/2 ^ k:Nat):Int):=by simp
 have hle:x/2 ^ k<=x:=Nat.div_le_self _ _
 have:=Nat.mod_lt (x/2 ^ k) (show 0<2 by decide)
 rw[e,show (1:Int)=((1:Nat):Int) from rfl,u8_and_nat _ _ (by omega) (by omega),Nat.and_one_is_mod,Nat.toNat_testBit]
 unfold wrap64;omega
set_option maxHeartbeats 400000 in
theorem TR(p g:Nat)(l:List Nat)(a:Nat)(w:World)(hl:Pa l)(h:NA w p g l a false)(ha:a<8*l.length) :
  Calls Tryz.prog 152 #[.pointer (some ⟨p,0,none⟩)] w fun e w'=>e = .returned (.int .i64 ((Td l a).toNat:Int))/\NA w' p g l (a+1) false/\KP (· = p) w w':=by
 obtain⟨h0,h1,-,f1,-⟩:=h.facts
 have hx:=h.byte (a/8) (by omega)
 have hx256:=hl.getD (a/8)
 have hbit:=XP (l.getD (a/8) 0) (7-a%8) hx256
 have HB:=Lib.hid hbit;clear hbit
 have HA:=Lib.hid h;clear h
 have hlen:=hl.2
 clear hl
 generalize hX:l.getD (a/8) 0=x at *
 have HX:=Lib.hid hX;clear hX
 generalize hN:l.length=n at *
 have HN:=Lib.hid hN;clear hN
 have hq:(a:Int)/8<n:=by omega
 have hq1:0<=(a:Int)/8:=by omega
 have hq2:((a:Int)/8).toNat=a/8:=by omega
 go_enter Tryz.func152,Tryz.ntmps152
 go_wp2_with (fail)
 go_quiet (fail)
 go_wp2
 go_ret
 refine⟨?_,?_,?_⟩
 ·unfold Td;rw[HX.out,← HB.out];rfl
 ·exact(NA.setAt (HA.out.kept ((KP.refl (fun _=>False) _).drewN _) id id) (a+1) _ (by omega))
 ·exact((KP.refl (· = p) _).drewN _).setCell _ (fun _=>rfl) _
set_option maxHeartbeats 400000 in
theorem Wa(p g:Nat)(l:List Nat)(a:Nat)(w:World)(hl:Pa l)(h:NA w p g l a false)(ha:8*l.length<=a)(ha2:a<8796093022208) :
  Calls Tryz.prog 152 #[.pointer (some ⟨p,0,none⟩)] w fun e w'=>e = .panicked Wv/\w=w':=by
 obtain⟨h0,h1,-,-,-⟩:=h.facts
 clear h
 have hlen:=hl.2
 clear hl
 generalize l.length=n at *
 have hq:(n:Int)<=(a:Int)/8:=by omega
 go_enter Tryz.func152,Tryz.ntmps152
 go_wp2_with (go_at_call 130;refine(Ru _).mono ?_;rintro e w' ⟨rfl,rfl⟩)
 exact⟨rfl,rfl,rfl⟩
def PK(l:List Nat)(a:Nat):Nat->Nat
 | 0=>0
 | k+1=>2*PK l a k+(Td l (a+k)).toNat
theorem Vs(l:List Nat)(a k:Nat):PK l a k<2 ^ k:=by
 induction k with
 | zero=>simp[PK]
 | succ k ih=>have:=MV (Td l (a+k));simp only[PK,Nat.pow_succ];omega
def PU(l:List Nat)(a k:Nat):Option (Int×Nat):=if a+k<=8*l.length then some ((PK l a k:Int),a+k) else none
theorem aA8(x:Nat)(b:Bool)(hx:x<2 ^ 33):bits BinOp.or IntKind.i64 ((x:Int)*2) (b.toNat:Int)=((2*x+b.toNat:Nat):Int):=by
 have:=MV b
 rw[bits_join .i64 63 (by decide) (fun n h0 h1=>by rw[IntKind.wrap_i64];omega) 1 ((x:Int)*2) (b.toNat:Int) (by omega) (by omega) (by omega) (by omega) (by omega) (by omega)]
 omega
set_option maxHeartbeats 400000 in
theorem Xn(p g:Nat)(l:List Nat)(a k:Nat)(w:World)(hl:Pa l)(hk:k<=32)(h:NA w p g l a false)(ha:a<=8*l.length) :
  Calls Tryz.prog 153 #[.pointer (some ⟨p,0,none⟩),.int .i64 (k:Int)] w (R5 w p g l (PU l a k)):=by
 have H0:=Lib.hid h;clear h
 have HL:=Lib.hid hl
 have hlen:=hl.2
 clear hl
 go_enter Tryz.func153,Tryz.ntmps153
 go_wp2_with (fail)
 go_loopw [5,7] (fun s5 s7 wr=>∃ j:Nat,j<=k/\s7 = .int .i64 (j:Int)/\s5 = .int .i64 (PK l a j:Int)/\a+j<=8*l.length/\NA wr p g l (a+j) false/\KP (· = p) w wr) (fun _ i _=>k-(intOf i).toNat)
 case atStart=>exact⟨0,Nat.zero_le _,rfl,rfl,ha,H0.out,KP.refl _ _⟩
 case round =>
  obtain⟨j,hj,rfl,rfl,haj,hr,hkp⟩:=hrel
  have HR:=Lib.hid hr;clear hr
  have HK:=Lib.hid hkp;clear hkp
  have hv:=Vs l a j
  have hv32:PK l a j<4294967296:=Nat.lt_of_lt_of_le hv (by have:=Nat.pow_le_pow_right (n:=2) (by decide) (show j<=32 by omega);simpa using this)
  clear hv
  by_cases hlt:j<k
  ·by_cases hin:a+j<8*l.length
   ·go_wp2_with (fail)
    refine(TR p g l (a+j) _ HL.out HR.out hin).mono ?_
    rintro e w1 ⟨rfl,hr1,hk1⟩
    have HR1:=Lib.hid hr1;clear hr1
    have HK1:=Lib.hid (HK.out.trans hk1 (fun _ _ x=>x));clear hk1
    go_wp2
    go_roundw
    case rel =>
     refine⟨j+1,by omega,by go_num,?_,by omega,HR1.out,HK1.out⟩
     rw[aA8 _ _ (by omega)];rfl
    case measure=>simp[intOf];omega
   ·go_wp2_with (fail)
    refine(Wa p g l (a+j) _ HL.out HR.out (by omega) (by omega)).mono ?_
    rintro e w1 ⟨rfl,rfl⟩
    go_wp2
    refine⟨rfl,?_⟩
    have e:PU l a k=none:=by unfold PU;rw[if_neg (by omega)]
    rw[e]
    exact⟨rfl,⟨_,HR.out⟩,HK.out⟩
  ·go_wp2
   go_ret
   have ej:j=k:=by omega
   subst ej
   have e:PU l a j=some ((PK l a j:Int),a+j):=by unfold PU;rw[if_pos haj]
   rw[e]
   exact⟨rfl,HR.out,HK.out⟩
theorem ZT(p g:Nat)(l:List Nat)(a k:Nat)(w:World)(hl:Pa l)(hk:k<=32)(h:NA w p g l a false)(ha:a+k<=8*l.length) :
  Calls Tryz.prog 153 #[.pointer (some ⟨p,0,none⟩),.int .i64 (k:Int)] w fun e w'=>e = .returned (.int .i64 (PK l a k:Int))/\NA w' p g l (a+k) false/\KP (· = p) w w':=by
 refine(Xn p g l a k w hl hk h (by omega)).mono fun e w' hp=>?_
 have e:PU l a k=some ((PK l a k:Int),a+k):=by unfold PU;rw[if_pos ha]
 rw[e] at hp;exact hp
theorem YV(p g:Nat)(l:List Nat)(a k:Nat)(w:World)(hl:Pa l)(hk:k<=32)(h:NA w p g l a false)(ha:a<=8*l.length)(ha2:8*l.length<a+k) :
  Calls Tryz.prog 153 #[.pointer (some ⟨p,0,none⟩),.int .i64 (k:Int)] w fun e w'=>e = .panicked Wv/\(∃ a,NA w' p g l a false)/\KP (· = p) w w':=by
 refine(Xn p g l a k w hl hk h (by omega)).mono fun e w' hp=>?_
 have e:PU l a k=none:=by unfold PU;rw[if_neg (by omega)]
 rw[e] at hp;exact hp
def P5(l:List Nat)(a:Nat):Nat->Nat->Option (Int×Nat)
 | 0,_=>none
 | f+1,z=>if a+z<8*l.length then (if Td l (a+z) then (if a+z+1+z<=8*l.length then some (((2 ^ z+PK l (a+z+1) z:Nat):Int)-1,a+z+1+z) else none) else (if 31<z+1 then none else P5 l a f (z+1))) else none
def MB(l:List Nat)(a:Nat):Option (Int×Nat):=P5 l a 33 0
theorem aCd(x z:Nat)(hz:z<=31)(hx:x<2 ^ z):bits BinOp.or IntKind.i64 ((2:Int) ^ z) (x:Int)=((2 ^ z+x:Nat):Int):=by
 have hp:(2:Nat) ^ z<=2 ^ 31:=Nat.pow_le_pow_right (by decide) hz
 have e:(2:Int) ^ z=((2 ^ z:Nat):Int):=by simp
 rw[e,bits_join .i64 63 (by decide) (fun n h0 h1=>by rw[IntKind.wrap_i64];omega) z ((2 ^ z:Nat):Int) (x:Int) (by omega) (by simp) (by omega) (by omega) (by exact_mod_cast hx) (by omega)]
 omega
set_option maxHeartbeats 1000000 in
theorem XZ(p g:Nat)(l:List Nat)(a:Nat)(w:World)(hl:Pa l)(h:NA w p g l a false)(ha:a<=8*l.length) :
  Calls Tryz.prog 129 #[.pointer (some ⟨p,0,none⟩)] w (R5 w p g l (MB l a)):=by
 have H0:=Lib.hid h;clear h
 have HL:=Lib.hid hl
 have hlen:=hl.2
 clear hl
 go_enter Tryz.func129,Tryz.ntmps129
 go_wp2_with (fail)
 go_loopw [3] (fun s3 wr=>∃ z:Nat,z<=31/\s3 = .int .i64 (z:Int)/\a+z<=8*l.length/\P5 l a (33-z) z=MB l a/\NA wr p g l (a+z) false/\KP (· = p) w wr) (fun i _=>32-(intOf i).toNat)
 case atStart=>exact⟨0,by omega,rfl,ha,rfl,H0.out,KP.refl _ _⟩
 case round =>
  obtain⟨z,hz,rfl,haz,hwf,hr,hkp⟩:=hrel
  have HR:=Lib.hid hr;clear hr
  have HK:=Lib.hid hkp;clear hkp
  have HF:=Lib.hid hwf;clear hwf
  have hfz:33-z=(32-z)+1:=by omega
  have hf2:=HF.out
  rw[hfz,P5] at hf2
  have HF2:=Lib.hid hf2;clear hf2 hfz
  by_cases hin:a+z<8*l.length
  ·cases hb:Td l (a+z) with
   | true =>
    have hbt:((((Td l (a+z)).toNat:Nat):Int)==0)=false:=by rw[hb];rfl
    have HB:=Lib.hid hb;clear hb
    go_wp2_with (fail)
    refine(TR p g l (a+z) _ HL.out HR.out hin).mono ?_
    rintro e w1 ⟨rfl,hr1,hk1⟩
    have HR1:=Lib.hid hr1;clear hr1
    have HK1:=Lib.hid (HK.out.trans hk1 (fun _ _ x=>x));clear hk1
    have hv:=Vs l (a+z+1) z
    have hor:=aCd (PK l (a+z+1) z) z hz hv
    have HO:=Lib.hid hor;clear hor
    have hp31:(2:Nat) ^ z<=2147483648:=by have:=Nat.pow_le_pow_right (n:=2) (by decide) hz;simpa using this
    have hv32:PK l (a+z+1) z<2147483648:=by omega
    have hw2:IntKind.i64.wrap (2 ^ z)=2 ^ z:=by
     have e:(2:Int) ^ z=((2 ^ z:Nat):Int):=by simp
     rw[e,IntKind.wrap_i64];omega
    clear hv hp31
    by_cases hfit:a+z+1+z<=8*l.length
    ·go_wp2_with (fail)
     go_region_with (go_at_call 153;refine(ZT p g l (a+z+1) z _ HL.out (by omega) ?_ hfit).mono ?_;exact HR1.out.drew;rintro e w2 ⟨rfl,hr2,hk2⟩)
     have HR2:=Lib.hid hr2;clear hr2
     have HK2:=Lib.hid (HK1.out.drew.trans hk2 (fun _ _ x=>x));clear hk2
     have hlo:0<=bits BinOp.or IntKind.i64 (2 ^ z) ↑(PK l (a+z+1) z)/\bits BinOp.or IntKind.i64 (2 ^ z) ↑(PK l (a+z+1) z)<4294967296:=by
      have hp31:(2:Nat) ^ z<=2147483648:=by have:=Nat.pow_le_pow_right (n:=2) (by decide) hz;simpa using this
      have hp0:0<(2:Nat) ^ z:=Nat.two_pow_pos z
      rw[HO.out];omega
     obtain⟨hlo1,hlo2⟩:=hlo
     go_wp2
     go_ret
     have e:MB l a=some (((2 ^ z+PK l (a+z+1) z:Nat):Int)-1,a+z+1+z):=by rw[← HF2.out,if_pos hin,HB.out,if_pos rfl,if_pos hfit]
     rw[e]
     refine⟨?_,HR2.out,HK2.out⟩
     rw[← HO.out];rfl
    ·have e:MB l a=none:=by rw[← HF2.out,if_pos hin,HB.out,if_pos rfl,if_neg hfit]
     have HE:=Lib.hid e;clear e
     go_wp2_with (fail)
     refine wp_region_any (by kernel_rfl) ?_
     change wpAny _ _ _ _ _ _ _ (World.drew _)
     refine wpAny_take (i:=0) (v:=?_) rfl (by kernel_rfl) (by kernel_rfl) (by kernel_rfl) (fun _ _ _ h=>h) (Or.inl ⟨by rfl,?_⟩) ?_
     rotate_left
     ·intro w;go_simp;try with_reducible rfl
     rotate_left
     refine wpAny_take (i:=1) (v:=?_) rfl (by kernel_rfl) (by kernel_rfl) (by kernel_rfl) (fun _ _ _ h=>h) (Or.inl ⟨by rfl,?_⟩) ?_
     rotate_left
     ·intro w;go_simp;try with_reducible rfl
     rotate_left
     refine wpAny_take (i:=2) (v:=?_) rfl (by kernel_rfl) (by kernel_rfl) (by kernel_rfl) (fun _ _ _ h=>h) (Or.inl ⟨by rfl,?_⟩) ?_
     rotate_left
     ·intro w;go_simp;try with_reducible rfl
     rotate_left
     refine wpAny_take (i:=3) (v:=?_) rfl (by kernel_rfl) (by kernel_rfl) (by kernel_rfl) (fun _ _ _ h=>h) (Or.inl ⟨by rfl,?_⟩) ?_
     rotate_left
     ·intro w;go_simp;try with_reducible rfl
     rotate_left
     refine wpAny_ready (rs:=[4]) (by kernel_rfl) (by simp) ?_
     refine AllReady.cons rfl (fun K hK=>?_) AllReady.nil
     go_simp
     refine(YV p g l (a+z+1) z _ HL.out (by omega) ?_ (by omega) (by omega)).mono ?_
     ·exact HR1.out.drew
     rintro e w2 ⟨rfl,hr2,hk2⟩
     refine⟨rfl,?_⟩
     rw[HE.out]
     exact⟨rfl,hr2,HK1.out.drew.trans hk2 (fun _ _ x=>x)⟩
   | false =>
    have hbt:((((Td l (a+z)).toNat:Nat):Int)==0)=true:=by rw[hb];rfl
    have HB:=Lib.hid hb;clear hb
    go_wp2_with (fail)
    refine(TR p g l (a+z) _ HL.out HR.out hin).mono ?_
    rintro e w1 ⟨rfl,hr1,hk1⟩
    have HR1:=Lib.hid hr1;clear hr1
    have HK1:=Lib.hid (HK.out.trans hk1 (fun _ _ x=>x));clear hk1
    by_cases h31:31<z+1
    ·go_wp2_with (fail)
     refine(Ru _).mono ?_
     rintro e w2 ⟨rfl,rfl⟩
     go_wp2
     refine⟨rfl,?_⟩
     have e:MB l a=none:=by rw[← HF2.out,if_pos hin,HB.out,if_pos h31];rfl
     rw[e]
     exact⟨rfl,⟨_,HR1.out⟩,HK1.out⟩
    ·go_wp2
     go_roundw
     case rel =>
      refine⟨z+1,by omega,by go_num,by omega,?_,HR1.out,HK1.out⟩
      rw[← HF2.out,if_pos hin,HB.out,if_neg h31]
      simp
     case measure=>simp[intOf];omega
  ·go_wp2_with (fail)
   refine(Wa p g l (a+z) _ HL.out HR.out (by omega) (by omega)).mono ?_
   rintro e w1 ⟨rfl,rfl⟩
   go_wp2
   refine⟨rfl,?_⟩
   have e:MB l a=none:=by rw[← HF2.out,if_neg hin]
   rw[e]
   exact⟨rfl,⟨_,HR.out⟩,HK.out⟩
end Go.Proofs.YtknjpdcpmpfklaaGreatDoor
