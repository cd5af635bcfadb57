/- What PictureNeeds reaches of my texts, part 2. -/
import Derived.Test.YtknjpdcpmpfklaaGreatDoorPictureNeedsA
set_option maxRecDepth 100000
set_option maxHeartbeats 4000000
set_option maxRecDepth 100000
namespace Go.Proofs.YtknjpdcpmpfklaaGreatDoor
open Go.RowKit
theorem Tl(p g:Nat)(l:List Nat)(a:Nat)(b:Bool)(w:World)(h:Nv w p g l a b) :
  Calls Tryz.prog 98 #[.pointer (some ⟨p,0,none⟩)] w fun e w'=>e = .returned (.bool b)/\w=w':=by
 obtain⟨-,-,h2,-,-⟩:=h.facts
 clear h
 go_enter Tryz.func98,Tryz.ntmps98
 go_wp2
 go_ret
 exact⟨rfl,rfl⟩
theorem Uu(pn pr:Addr)(p:Nat)(b:Bool)(u:TypeId)(pv:Value)(older:List PanicEntry)(w:World)
  (hn:w.cell? pn=some (.int .i64 0)) (fn:w.frozen? pn=false) (hr:w.cell? pr=some (.pointer (some ⟨p,0,none⟩))) (hl:w.cell? ⟨p,2,none⟩=some (.bool b)) (fl:w.frozen? ⟨p,2,none⟩=false) (hne:¬ pn.block=p) :
  CallsD Tryz.prog 151 #[.pointer (some pn),.pointer (some pr)] (.panicking ({ v:=.iface u pv,recovered:=false }::older)) w fun e u' w' =>
   e = .returned (.tuple #[])/\u' = .panicking ({ v:=.iface u pv,recovered:=true }::older)/\w'=(w.setCell pn (.int .i64 0)).setCell ⟨p,2,none⟩ (.bool true):=by
 refine callsD_of_wpS Tryz.func151 rfl fun c₀ cs hu=>?_
 apply wpS_seq
 apply wpS_region
 simp[wpOpsS,go_sem,recoverD,hu,Tryz.ntmps151,Exit.thenS]
 refine wpS_cond (t:=true) (by simp[Act.eval,Array.replicate]) ?_
 simp only[if_true]
 apply wpS_region
 have hl2:(w.setCell pn (.int .i64 0)).cell? ⟨p,2,none⟩=some (.bool b):=by
  rw[← hl];exact World.cell?_of_block (Below.heap_setCell _ _ _ _ (fun e=>hne e.symm))
 have fl2:(w.setCell pn (.int .i64 0)).frozen? ⟨p,2,none⟩=false:=by
  rw[← fl];exact World.frozen?_of_block (Below.heap_setCell _ _ _ _ (fun e=>hne e.symm))
 simp[wpOpsS,go_sem,hn,fn,hr,hl2,fl2,bodyPostS,results,Tryz.results151]
theorem Yt(pn pr:Addr)(w:World) :
  CallsD Tryz.prog 151 #[.pointer (some pn),.pointer (some pr)] .returning w fun e u' w'=>e = .returned (.tuple #[])/\u' = .returning/\w'=w:=by
 refine callsD_of_wpS Tryz.func151 rfl fun c₀ cs hu=>?_
 apply wpS_seq
 apply wpS_region
 simp[wpOpsS,go_sem,recoverD,hu,Tryz.ntmps151,Exit.thenS]
 refine wpS_cond (t:=false) (by simp[Act.eval,Array.replicate]) ?_
 simp only[Bool.false_eq_true,if_false]
 refine wpS_of_wp (wp_skip ?_)
 cases c₀
 simp_all [bodyPostS,results,Tryz.results151]
theorem Nv.lt{w:World}{p g:Nat}{l:List Nat}{a:Nat}{b:Bool}(h:Nv w p g l a b):p<w.heap.size/\g<w.heap.size:=⟨MG h.1,MG h.2.1⟩
set_option maxHeartbeats 400000 in
theorem S6(p g:Nat)(l:List Nat)(a:Nat)(f:Value)(w:World)(h:Nv w p g l a true) :
  Calls Tryz.prog 127 #[.pointer (some ⟨p,0,none⟩),f] w fun e w'=>e = .returned (.int .i64 0)/\KM (fun _=>False) w w':=by
 have H0:=Lib.hid h;clear h
 go_enter_defers Tryz.func127,Tryz.ntmps127
 go_wp2_with (fail)
 refine(Tl p g l a true _ ?_).mono ?_
 ·exact(H0.out.kept ((KM.refl (fun _=>False) _).alloc _) id id).kept ((KM.refl (fun _=>False) _).alloc _) id id
 rintro e w1 ⟨rfl,rfl⟩
 go_wp2
 simp[bodyPostD,Leaves,results,Tryz.results127,go_sem]
 exact((KM.refl _ _).alloc _).alloc _
theorem Ty(w:World)(x y:Value)(t t':TypeId) :
  ((w.alloc (.cells #[x] t)).alloc (.cells #[y] t')).heap[w.heap.size]? = some (.cells #[x] t)/\((w.alloc (.cells #[x] t)).alloc (.cells #[y] t')).heap[w.heap.size+1]? = some (.cells #[y] t'):=by
 constructor
 ·rw[Below.heap_alloc _ _ _ (by simp)];exact heap_alloc_new w _
 ·have:=heap_alloc_new (w.alloc (.cells #[x] t)) (.cells #[y] t')
  simpa using this
def Zc(w:World)(p g:Nat)(l:List Nat)(o:Option (Int×Nat))(e:Ending)(w':World):Prop :=
 match o with
 | some (n,a)=>e = .returned (.int .i64 n)/\Nv w' p g l a false/\KM (· = p) w w'
 | none=>e = .returned (.int .i64 0)/\(∃ a,Nv w' p g l a true)/\KM (· = p) w w'
set_option maxHeartbeats 400000 in
theorem Xf(p g:Nat)(l:List Nat)(a:Nat)(f:FuncId)(first cap:Array Value)(n:Int)(a':Nat)(w:World)(h:Nv w p g l a false)
  (hcf:∀ (A:Array Value) (w:World),(callFunc f A).run Tryz.prog w = .ok (.enter f A) w)
  (hcall:∀ w1,KM (fun _=>False) w w1->Calls Tryz.prog f (first++cap) w1 (RH w1 p g l (some (n,a')))) :
  Calls Tryz.prog 127 #[.pointer (some ⟨p,0,none⟩),.func (.func f) first cap] w (Zc w p g l (some (n,a'))):=by
 have hmf:∀ (fn:Fn) (first cap:Array Value) (w:World),(Instr.makeFunc fn first cap).run Tryz.prog w = .ok (.func fn first cap) w:=fun _ _ _ _=>rfl
 have hpl:=h.lt.1
 have hgl:=h.lt.2
 have H0:=Lib.hid h;clear h
 have HC:=Lib.hid hcall;clear hcall
 go_enter_defers Tryz.func127,Tryz.ntmps127
 go_wp2_with (fail)
 refine(Tl p g l a false _ ?_).mono ?_
 ·exact(H0.out.kept ((KM.refl (fun _=>False) _).alloc _) id id).kept ((KM.refl (fun _=>False) _).alloc _) id id
 rintro e w1 ⟨rfl,rfl⟩
 go_wp2_with (fail)
 refine(HC.out _ (((KM.refl _ _).alloc _).alloc _)).mono ?_
 rintro e w1 ⟨rfl,hr1,hk1⟩
 obtain⟨b0,b1⟩:=Ty w (.pointer (some ⟨p,0,none⟩)) (.int .i64 0) 54 3
 have hb1:=hk1.at b1 (by omega)
 have k1:w1.cell? ⟨w.heap.size+1,0,none⟩=some (.int .i64 0):=by rw[Mq hb1];rfl
 have f1:w1.frozen? ⟨w.heap.size+1,0,none⟩=false:=MX hb1
 have HB1:=Lib.hid hb1
 clear b0 b1 hb1
 have HR1:=Lib.hid hr1;clear hr1
 have HK1:=Lib.hid hk1;clear hk1
 go_wp2
 refine leaves_cons (f:=151) (args:=#[.pointer (some ⟨w.heap.size+1,0,none⟩),.pointer (some ⟨w.heap.size,0,none⟩)]) (by simp) (by simp[go_sem]) ?_
 refine(Yt ⟨w.heap.size+1,0,none⟩ ⟨w.heap.size,0,none⟩ _).mono ?_
 rintro e u' w'' ⟨rfl,rfl,rfl⟩
 simp[Leaves,settle,results,Tryz.results127,go_sem]
 have hb1:=HB1.out
 have k2:(w1.setCell ⟨w.heap.size+1,0,none⟩ (.int .i64 n)).cell? ⟨w.heap.size+1,0,none⟩=some (.int .i64 n):=by
  rw[Mq (MV w1 (w.heap.size+1) 0 (.int .i64 n) hb1)];rfl
 rw[k2]
 refine⟨_,rfl,rfl,?_,?_⟩
 ·exact HR1.out.kept ((KM.refl (· = w.heap.size+1) _).setCell _ (fun _=>rfl) _) (by omega) (by omega)
 ·refine((((KM.refl (· = p) w).alloc _).alloc _).trans HK1.out (fun _ _ x=>x)).setCell _ (fun h=>?_) _
  exact absurd h (by simp)
set_option maxHeartbeats 400000 in
theorem WH(p g:Nat)(l:List Nat)(a:Nat)(f:FuncId)(first cap:Array Value)(w:World)(h:Nv w p g l a false)
  (hcf:∀ (A:Array Value) (w:World),(callFunc f A).run Tryz.prog w = .ok (.enter f A) w)
  (hcall:∀ w1,KM (fun _=>False) w w1->Calls Tryz.prog f (first++cap) w1 (RH w1 p g l none)) :
  Calls Tryz.prog 127 #[.pointer (some ⟨p,0,none⟩),.func (.func f) first cap] w (Zc w p g l none):=by
 have hmf:∀ (fn:Fn) (first cap:Array Value) (w:World),(Instr.makeFunc fn first cap).run Tryz.prog w = .ok (.func fn first cap) w:=fun _ _ _ _=>rfl
 have hpl:=h.lt.1
 have hgl:=h.lt.2
 have H0:=Lib.hid h;clear h
 have HC:=Lib.hid hcall;clear hcall
 go_enter_defers Tryz.func127,Tryz.ntmps127
 go_wp2_with (fail)
 refine(Tl p g l a false _ ?_).mono ?_
 ·exact(H0.out.kept ((KM.refl (fun _=>False) _).alloc _) id id).kept ((KM.refl (fun _=>False) _).alloc _) id id
 rintro e w1 ⟨rfl,rfl⟩
 go_wp2_with (fail)
 refine(HC.out _ (((KM.refl _ _).alloc _).alloc _)).mono ?_
 rintro e w1 ⟨rfl,⟨a',hr1⟩,hk1⟩
 obtain⟨b0,b1⟩:=Ty w (.pointer (some ⟨p,0,none⟩)) (.int .i64 0) 54 3
 have hb0:=hk1.at b0 (by omega)
 have hb1:=hk1.at b1 (by omega)
 have k0:w1.cell? ⟨w.heap.size,0,none⟩=some (.pointer (some ⟨p,0,none⟩)):=by rw[Mq hb0];rfl
 have k1:w1.cell? ⟨w.heap.size+1,0,none⟩=some (.int .i64 0):=by rw[Mq hb1];rfl
 have f1:w1.frozen? ⟨w.heap.size+1,0,none⟩=false:=MX hb1
 obtain⟨-,-,k2,-,f2⟩:=hr1.facts
 have HB1:=Lib.hid hb1
 clear b0 b1 hb0 hb1
 have HR1:=Lib.hid hr1;clear hr1
 have HK1:=Lib.hid hk1;clear hk1
 go_wp2
 refine leaves_cons (f:=151) (args:=#[.pointer (some ⟨w.heap.size+1,0,none⟩),.pointer (some ⟨w.heap.size,0,none⟩)]) (by simp) (by simp[go_sem]) ?_
 refine(Uu ⟨w.heap.size+1,0,none⟩ ⟨w.heap.size,0,none⟩ p false _ _ [] _ k1 f1 k0 k2 f2 (by simp;omega)).mono ?_
 rintro e u' w'' ⟨rfl,rfl,rfl⟩
 have hb1:=HB1.out
 have k3:(w1.setCell ⟨w.heap.size+1,0,none⟩ (.int .i64 0)).cell? ⟨w.heap.size+1,0,none⟩=some (.int .i64 0):=by
  rw[Mq (MV w1 (w.heap.size+1) 0 (.int .i64 0) hb1)];rfl
 simp[Leaves,settle,results,Tryz.results127,go_sem]
 rw[k3]
 refine⟨_,rfl,rfl,⟨a',?_⟩,?_⟩
 ·exact(HR1.out.kept ((KM.refl (· = w.heap.size+1) _).setCell _ (fun _=>rfl) _) (by omega) (by omega)).setLost true
 ·refine(((((KM.refl (· = p) w).alloc _).alloc _).trans HK1.out (fun _ _ x=>x)).setCell _ (fun h=>?_) _).setCell _ (fun _=>rfl) _
  exact absurd h (by simp)
theorem Uh(p g:Nat)(l:List Nat)(a:Nat)(f:FuncId)(first cap:Array Value)(o:Option (Int×Nat))(w:World)(h:Nv w p g l a false)
  (hcf:∀ (A:Array Value) (w:World),(callFunc f A).run Tryz.prog w = .ok (.enter f A) w)
  (hcall:∀ w1,KM (fun _=>False) w w1->Calls Tryz.prog f (first++cap) w1 (RH w1 p g l o)) :
  Calls Tryz.prog 127 #[.pointer (some ⟨p,0,none⟩),.func (.func f) first cap] w (Zc w p g l o):=by
 match o,hcall with
 | none,hcall=>exact WH p g l a f first cap w h hcf hcall
 | some (n,a'),hcall=>exact Xf p g l a f first cap n a' w h hcf hcall
end Go.Proofs.YtknjpdcpmpfklaaGreatDoor
set_option maxRecDepth 100000
namespace Go.Proofs.YtknjpdcpmpfklaaGreatDoor
open Go.RowKit
def QP(w:World)(p g:Nat)(l:List Nat)(st:Option Nat):Prop :=
 match st with
 | some a=>a<=8*l.length/\Nv w p g l a false
 | none=>∃ a,Nv w p g l a true
theorem QP.kept{S:Nat->Prop}{w w':World}{p g:Nat}{l:List Nat}{st:Option Nat}(h:QP w p g l st)(k:KM S w w')(hp:¬ S p)(hg:¬ S g):QP w' p g l st:=by
 cases st with
 | none=>obtain⟨a,h⟩:=h;exact⟨a,h.kept k hp hg⟩
 | some a=>exact⟨h.1,h.2.kept k hp hg⟩
theorem QP.lt{w:World}{p g:Nat}{l:List Nat}{st:Option Nat}(h:QP w p g l st):p<w.heap.size/\g<w.heap.size/\g≠p:=by
 cases st with
 | none=>obtain⟨a,h⟩:=h;exact⟨h.lt.1,h.lt.2,h.2.2⟩
 | some a=>exact⟨h.2.lt.1,h.2.lt.2,h.2.2.2⟩
def Lo(rd:Nat->Option (Int×Nat))(st:Option Nat):Int×Option Nat :=
 match st with
 | none=>(0,none)
 | some a=>match rd a with
  | some (n,a')=>(n,some a')
  | none=>(0,none)
def SL(w:World)(p g:Nat)(l:List Nat)(r:Int×Option Nat)(e:Ending)(w':World):Prop :=
 e = .returned (.int .i64 r.1)/\QP w' p g l r.2/\KM (· = p) w w'
theorem SL.of_res{w w':World}{p g:Nat}{l:List Nat}{e:Ending}(rd:Nat->Option (Int×Nat))(a:Nat)(hb:∀ n a',rd a=some (n,a')->a'<=8*l.length)(h:Zc w p g l (rd a) e w') :
  SL w p g l (Lo rd (some a)) e w':=by
 cases ho:rd a with
 | none =>
  have e:Lo rd (some a)=(0,none):=by simp[Lo,ho]
  rw[e]
  rw[ho] at h
  exact⟨h.1,h.2.1,h.2.2⟩
 | some na =>
  obtain⟨n,a'⟩:=na
  have e:Lo rd (some a)=(n,some a'):=by simp[Lo,ho]
  rw[e]
  rw[ho] at h
  exact⟨h.1,⟨hb n a' ho,h.2.1⟩,h.2.2⟩
theorem NX(l:List Nat)(a:Nat)(f z:Nat)(n:Int)(a':Nat)(hz:z<=31)(h:PZ l a f z=some (n,a')):a'<=8*l.length/\0<=n/\n<4294967296:=by
 induction f generalizing z with
 | zero=>cases h
 | succ f ih =>
  unfold PZ at h
  split at h
  ·split at h
   ·split at h
    ·simp only[Option.some.injEq,Prod.mk.injEq] at h
     obtain⟨rfl,rfl⟩:=h
     have h1:=U1 l (a+z+1) z
     have h2:(2:Nat) ^ z<=2147483648:=by have:=Nat.pow_le_pow_right (n:=2) (by decide) hz;simpa using this
     have h3:0<(2:Nat) ^ z:=Nat.two_pow_pos z
     omega
    ·cases h
   ·split at h
    ·cases h
    ·exact ih _ (by omega) h
  ·cases h
theorem Tryz.enters_whole(A:Array Value)(w:World):(callFunc 128 A).run Tryz.prog w = .ok (.enter 128 A) w:=by
 exact MuLone.run_callFunc_enter Tryz.func128 (by kernel_rfl) rfl A w
theorem Tryz.enters_signed(A:Array Value)(w:World):(callFunc 155 A).run Tryz.prog w = .ok (.enter 155 A) w:=by
 exact MuLone.run_callFunc_enter Tryz.func155 (by kernel_rfl) rfl A w
def Lx(l:List Nat)(most:Int)(a:Nat):Option (Int×Nat) :=
 match Mx l a with
 | some (n,a')=>if most<n then none else some (n,a')
 | none=>none
def MD(n:Int):Int:=if n%2=1 then (n+1)/2 else -(n/2)
def LO(l:List Nat)(most:Int)(a:Nat):Option (Int×Nat) :=
 match Mx l a with
 | some (n,a')=>if most<MD n\/most < -MD n then none else some (MD n,a')
 | none=>none
theorem Zb(n:Int)(h0 : -4294967296<=n)(h1:n<=4294967296)(most:Int):(most<max n (-n))↔(most<n\/most < -n):=by omega
set_option maxHeartbeats 400000 in
theorem azQ(p g:Nat)(l:List Nat)(a:Nat)(k:Int)(bk br:Addr)(w:World)(hl:O7 l)(h:Nv w p g l a false)(ha:a<=8*l.length)
  (hk:w.cell? bk=some (.int .i64 k)) (hr:w.cell? br=some (.pointer (some ⟨p,0,none⟩))) (hbk:¬ bk.block=p) :
  Calls Tryz.prog 128 #[.pointer (some br),.pointer (some bk)] w (RH w p g l (Lx l k a)):=by
 have H0:=Lib.hid h;clear h
 have HL:=Lib.hid hl;clear hl
 have hkl:=World.block_lt_of_cell? w bk hk
 go_enter Tryz.func128,Tryz.ntmps128
 go_wp2_with (fail)
 refine(XU p g l a _ HL.out H0.out ha).mono ?_
 intro e w1 hp
 cases ho:Mx l a with
 | none =>
  rw[ho] at hp
  obtain⟨rfl,h2,h3⟩:=hp
  have he:Lx l k a=none:=by simp[Lx,ho]
  rw[he]
  exact⟨rfl,rfl,h2,h3⟩
 | some na =>
  obtain⟨n,a'⟩:=na
  rw[ho] at hp
  obtain⟨rfl,h2,h3⟩:=hp
  have hb:=NX l a 33 0 n a' (by omega) ho
  obtain⟨-,hn0,hn1⟩:=hb
  have hk1:w1.cell? bk=some (.int .i64 k):=(World.cell?_of_block (h3.block bk.block hkl hbk)).trans hk
  have H2:=Lib.hid h2;clear h2
  have H3:=Lib.hid h3;clear h3
  have HO:=Lib.hid ho;clear ho
  clear hk hr
  by_cases hm:k<n
  ·have he:Lx l k a=none:=by simp[Lx,HO.out,hm]
   have HE:=Lib.hid he;clear he
   go_wp2_with (go_at_call 130;refine(Q8 _).mono ?_;rintro e w' ⟨rfl,rfl⟩)
   refine⟨rfl,?_⟩
   rw[HE.out]
   exact⟨rfl,⟨a',H2.out⟩,H3.out⟩
  ·have he:Lx l k a=some (n,a'):=by simp[Lx,HO.out,hm]
   have HE:=Lib.hid he;clear he
   go_wp2
   go_ret
   rw[HE.out]
   exact⟨rfl,H2.out,H3.out⟩
set_option maxHeartbeats 400000 in
theorem aBr(p g:Nat)(l:List Nat)(a:Nat)(w:World)(hl:O7 l)(h:Nv w p g l a false)(ha:a<=8*l.length) :
  Calls Tryz.prog 156 #[.pointer (some ⟨p,0,none⟩)] w (RH w p g l ((Mx l a).map fun x=>(MD x.1,x.2))):=by
 have H0:=Lib.hid h;clear h
 have HL:=Lib.hid hl;clear hl
 go_enter Tryz.func156,Tryz.ntmps156
 go_wp2_with (fail)
 refine(XU p g l a _ HL.out H0.out ha).mono ?_
 intro e w1 hp
 cases ho:Mx l a with
 | none =>
  rw[ho] at hp
  obtain⟨rfl,h2,h3⟩:=hp
  refine⟨rfl,?_⟩
  rw[ho]
  exact⟨rfl,h2,h3⟩
 | some na =>
  obtain⟨n,a'⟩:=na
  rw[ho] at hp
  obtain⟨rfl,h2,h3⟩:=hp
  have hb:=NX l a 33 0 n a' (by omega) ho
  obtain⟨-,hn0,hn1⟩:=hb
  have H2:=Lib.hid h2;clear h2
  have H3:=Lib.hid h3;clear h3
  have HO:=Lib.hid ho;clear ho
  by_cases hm:n%2=1
  ·have hb:(n%2==1)=true:=by simpa using hm
   have hu:MD n=(n+1)/2:=if_pos hm
   have HU:=Lib.hid hu;clear hu hm
   go_wp2
   go_ret
   rw[HO.out]
   refine⟨?_,H2.out,H3.out⟩
   rw[HU.out];rfl
  ·have hb:(n%2==1)=false:=by simpa using hm
   have hu:MD n = -(n/2):=if_neg hm
   have HU:=Lib.hid hu;clear hu
   have HM:=Lib.hid hm;clear hm
   go_wp2
   go_ret
   rw[HO.out]
   refine⟨?_,H2.out,H3.out⟩
   have e:wrap64 (-n.tdiv 2)=MD n:=by
    rw[HU.out,Int.tdiv_eq_ediv_of_nonneg hn0];unfold wrap64;omega
   show Ending.returned (.int .i64 (wrap64 (-n.tdiv 2)))=_
   rw[e]
theorem VW(n:Int)(h0:0<=n)(h1:n<4294967296) : -4294967296<=MD n/\MD n<=4294967296:=by unfold MD;split <;> omega
set_option maxHeartbeats 400000 in
theorem ZP(p g:Nat)(l:List Nat)(a:Nat)(k:Int)(bk br:Addr)(w:World)(hl:O7 l)(h:Nv w p g l a false)(ha:a<=8*l.length)
  (hk:w.cell? bk=some (.int .i64 k)) (hr:w.cell? br=some (.pointer (some ⟨p,0,none⟩))) (hbk:¬ bk.block=p) :
  Calls Tryz.prog 155 #[.pointer (some br),.pointer (some bk)] w (RH w p g l (LO l k a)):=by
 have H0:=Lib.hid h;clear h
 have HL:=Lib.hid hl;clear hl
 have hkl:=World.block_lt_of_cell? w bk hk
 go_enter Tryz.func155,Tryz.ntmps155
 go_wp2_with (fail)
 refine(aBr p g l a _ HL.out H0.out ha).mono ?_
 intro e w1 hp
 cases ho:Mx l a with
 | none =>
  rw[ho] at hp
  obtain⟨rfl,h2,h3⟩:=hp
  have he:LO l k a=none:=by simp[LO,ho]
  rw[he]
  exact⟨rfl,rfl,h2,h3⟩
 | some na =>
  obtain⟨n0,a'⟩:=na
  rw[ho] at hp
  obtain⟨rfl,h2,h3⟩:=hp
  have hb:=NX l a 33 0 n0 a' (by omega) ho
  have hu:=VW n0 hb.2.1 hb.2.2
  have hk1:w1.cell? bk=some (.int .i64 k):=(World.cell?_of_block (h3.block bk.block hkl hbk)).trans hk
  have H2:=Lib.hid h2;clear h2
  have H3:=Lib.hid h3;clear h3
  have HO:=Lib.hid ho;clear ho
  clear hk hr hb
  have hs:LO l k a=if k<MD n0\/k < -MD n0 then none else some (MD n0,a'):=by simp only[LO,HO.out]
  have HS:=Lib.hid hs;clear hs
  dsimp only
  generalize MD n0=n at *
  obtain⟨hn0,hn1⟩:=hu
  by_cases hm:k<max n (-n)
  ·have he:LO l k a=none:=by rw[HS.out,if_pos ((Zb n hn0 hn1 k).1 hm)]
   have HE:=Lib.hid he;clear he
   go_wp2_with (go_at_call 130;refine(Q8 _).mono ?_;rintro e w' ⟨rfl,rfl⟩)
   refine⟨rfl,?_⟩
   rw[HE.out]
   exact⟨rfl,⟨a',H2.out⟩,H3.out⟩
  ·have he:LO l k a=some (n,a'):=by rw[HS.out,if_neg (fun x=>hm ((Zb n hn0 hn1 k).2 x))]
   have HE:=Lib.hid he;clear he
   go_wp2
   go_ret
   rw[HE.out]
   exact⟨rfl,H2.out,H3.out⟩
theorem Yq(l:List Nat)(k:Int)(a:Nat)(n:Int)(a':Nat)(h:Lx l k a=some (n,a')):a'<=8*l.length:=by
 unfold Lx at h
 split at h
 ·rename_i m b ho
  split at h
  ·cases h
  ·cases h;exact(NX l a 33 0 _ _ (by omega) ho).1
 ·cases h
theorem XM(l:List Nat)(k:Int)(a:Nat)(n:Int)(a':Nat)(h:LO l k a=some (n,a')):a'<=8*l.length:=by
 unfold LO at h
 split at h
 ·rename_i m b ho
  split at h
  ·cases h
  ·cases h;exact(NX l a 33 0 _ _ (by omega) ho).1
 ·cases h
theorem Wa{w w1:World}{x y:Value}{t t':TypeId}(k:KM (fun _=>False) ((w.alloc (.cells #[x] t)).alloc (.cells #[y] t')) w1) :
  w1.cell? ⟨w.heap.size,0,none⟩=some x/\w1.cell? ⟨w.heap.size+1,0,none⟩=some y:=by
 obtain⟨b0,b1⟩:=Ty w x y t t'
 exact⟨by rw[Mq (k.at b0 id)];rfl,by rw[Mq (k.at b1 id)];rfl⟩
end Go.Proofs.YtknjpdcpmpfklaaGreatDoor
set_option maxRecDepth 100000
namespace Go.Proofs.YtknjpdcpmpfklaaGreatDoor
open Go.RowKit
set_option maxHeartbeats 400000 in
theorem YD(p g:Nat)(l:List Nat)(st:Option Nat)(m:Int)(w:World)(hl:O7 l)(h:QP w p g l st) :
  Calls Tryz.prog 96 #[.pointer (some ⟨p,0,none⟩),.int .i64 m] w (SL w p g l (Lo (Lx l m) st)):=by
 have hmf:∀ (fn:Fn) (first cap:Array Value) (w:World),(Instr.makeFunc fn first cap).run Tryz.prog w = .ok (.func fn first cap) w:=fun _ _ _ _=>rfl
 have hpl:=h.lt.1
 have H0:=Lib.hid h;clear h
 have HL:=Lib.hid hl;clear hl
 go_enter Tryz.func96,Tryz.ntmps96
 go_wp2_with (fail)
 have kk:KM (fun _=>False) w ((w.alloc (.cells #[.pointer (some ⟨p,0,none⟩)] 54)).alloc (.cells #[.int .i64 m] 3)):=((KM.refl _ _).alloc _).alloc _
 have HKK:=Lib.hid kk;clear kk
 cases st with
 | none =>
  obtain⟨a,h⟩:=H0.out
  refine(S6 p g l a _ _ (h.kept HKK.out id id)).mono ?_
  rintro e w1 ⟨rfl,hk⟩
  have HK:=Lib.hid (HKK.out.trans hk (fun _ _ x=>x));clear hk h
  go_wp2
  go_ret
  refine⟨rfl,H0.out.kept HK.out id id,HK.out.mono (fun _ _ x=>x.elim)⟩
 | some a =>
  obtain⟨ha,h⟩:=H0.out
  have h1:=h.kept HKK.out id id
  refine(Uh p g l a 128 #[] #[.pointer (some ⟨w.heap.size,0,none⟩),.pointer (some ⟨w.heap.size+1,0,none⟩)] (Lx l m a) _ h1 Tryz.enters_whole (fun w1 k=>?_)).mono ?_
  ·obtain⟨c0,c1⟩:=Wa k
   exact azQ p g l a m ⟨w.heap.size+1,0,none⟩ ⟨w.heap.size,0,none⟩ w1 HL.out (h1.kept k id id) ha c1 c0 (by simp;omega)
  intro e w1 hres
  have hd:=SL.of_res (Lx l m) a (Yq l m a) hres
  obtain⟨rfl,h2,h3⟩:=hd
  have H2:=Lib.hid h2;clear h2
  have H3:=Lib.hid ((HKK.out.mono (S':=(· = p)) (fun _ _ x=>x.elim)).trans h3 (fun _ _ x=>x));clear h3 hres h ha h1
  go_wp2
  go_ret
  exact⟨rfl,H2.out,H3.out⟩
set_option maxHeartbeats 400000 in
theorem XA(p g:Nat)(l:List Nat)(st:Option Nat)(m:Int)(w:World)(hl:O7 l)(h:QP w p g l st) :
  Calls Tryz.prog 132 #[.pointer (some ⟨p,0,none⟩),.int .i64 m] w (SL w p g l (Lo (LO l m) st)):=by
 have hmf:∀ (fn:Fn) (first cap:Array Value) (w:World),(Instr.makeFunc fn first cap).run Tryz.prog w = .ok (.func fn first cap) w:=fun _ _ _ _=>rfl
 have hpl:=h.lt.1
 have H0:=Lib.hid h;clear h
 have HL:=Lib.hid hl;clear hl
 go_enter Tryz.func132,Tryz.ntmps132
 go_wp2_with (fail)
 have kk:KM (fun _=>False) w ((w.alloc (.cells #[.pointer (some ⟨p,0,none⟩)] 54)).alloc (.cells #[.int .i64 m] 3)):=((KM.refl _ _).alloc _).alloc _
 have HKK:=Lib.hid kk;clear kk
 cases st with
 | none =>
  obtain⟨a,h⟩:=H0.out
  refine(S6 p g l a _ _ (h.kept HKK.out id id)).mono ?_
  rintro e w1 ⟨rfl,hk⟩
  have HK:=Lib.hid (HKK.out.trans hk (fun _ _ x=>x));clear hk h
  go_wp2
  go_ret
  refine⟨rfl,H0.out.kept HK.out id id,HK.out.mono (fun _ _ x=>x.elim)⟩
 | some a =>
  obtain⟨ha,h⟩:=H0.out
  have h1:=h.kept HKK.out id id
  refine(Uh p g l a 155 #[] #[.pointer (some ⟨w.heap.size,0,none⟩),.pointer (some ⟨w.heap.size+1,0,none⟩)] (LO l m a) _ h1 Tryz.enters_signed (fun w1 k=>?_)).mono ?_
  ·obtain⟨c0,c1⟩:=Wa k
   exact ZP p g l a m ⟨w.heap.size+1,0,none⟩ ⟨w.heap.size,0,none⟩ w1 HL.out (h1.kept k id id) ha c1 c0 (by simp;omega)
  intro e w1 hres
  have hd:=SL.of_res (LO l m) a (XM l m a) hres
  obtain⟨rfl,h2,h3⟩:=hd
  have H2:=Lib.hid h2;clear h2
  have H3:=Lib.hid ((HKK.out.mono (S':=(· = p)) (fun _ _ x=>x.elim)).trans h3 (fun _ _ x=>x));clear h3 hres h ha h1
  go_wp2
  go_ret
  exact⟨rfl,H2.out,H3.out⟩
end Go.Proofs.YtknjpdcpmpfklaaGreatDoor
set_option maxRecDepth 100000
namespace Go.Proofs.YtknjpdcpmpfklaaGreatDoor
open Go.RowKit
def Sz(l:List Nat)(a:Nat):Bool:=decide (a/8+1=l.length/\l.getD (a/8) 0*2 ^ (a%8)%256=128)
set_option maxHeartbeats 400000 in
theorem aAt(p g:Nat)(l:List Nat)(a:Nat)(w:World)(hl:O7 l)(h:Nv w p g l a false)(ha:a<=8*l.length) :
  Calls Tryz.prog 64 #[.pointer (some ⟨p,0,none⟩)] w fun e w'=>e = .returned (.bool (Sz l a))/\∃ n,w'=w.drewN n:=by
 obtain⟨h0,h1,-,-,-⟩:=h.facts
 have hlen:=hl.2
 by_cases hq:a/8+1=l.length
 ·have hx:=h.byte (a/8) (by omega)
  have hx256:=hl.getD (a/8)
  have he:Sz l a=(((l.getD (a/8) 0:Nat):Int)*2 ^ (a%8)%256==128):=by
   have e:((l.getD (a/8) 0:Nat):Int)*2 ^ (a%8)%256=((l.getD (a/8) 0*2 ^ (a%8)%256:Nat):Int):=by simp
   rw[e]
   unfold Sz
   by_cases hh:l.getD (a/8) 0*2 ^ (a%8)%256=128
   ·rw[decide_eq_true ⟨hq,hh⟩,hh];rfl
   ·rw[decide_eq_false (fun x=>hh x.2)];exact(beq_eq_false_iff_ne.2 (by omega)).symm
  have HE:=Lib.hid he;clear he
  clear h hl
  generalize hX:l.getD (a/8) 0=x at *
  have HX:=Lib.hid hX;clear hX
  generalize hN:l.length=n at *
  have HN:=Lib.hid hN;clear hN
  have hb:((a:Int)/8==(n:Int)-1)=true:=by simp;omega
  have g1:0<=(n:Int)-1:=by omega
  have g2:(n:Int)-1<n:=by omega
  have g3:((n:Int)-1).toNat=a/8:=by omega
  have HQ:=Lib.hid hq;clear hq
  go_enter Tryz.func64,Tryz.ntmps64
  go_wp2_with (fail)
  go_quiet (fail)
  go_wp2
  go_ret
  exact⟨by rw[HE.out];rfl,⟨_,rfl⟩⟩
 ·have he:Sz l a=false:=by unfold Sz;exact decide_eq_false (fun x=>hq x.1)
  have HE:=Lib.hid he;clear he
  clear h hl
  generalize hN:l.length=n at *
  have HN:=Lib.hid hN;clear hN
  have hb:((a:Int)/8==(n:Int)-1)=false:=by simp;omega
  have HQ:=Lib.hid hq;clear hq
  go_enter Tryz.func64,Tryz.ntmps64
  go_wp2_with (fail)
  go_quiet (fail)
  go_wp2
  go_ret
  exact⟨by rw[HE.out];rfl,⟨_,rfl⟩⟩
def Pe(l:List Nat)(st:Option Nat):Int :=
 match st with
 | some a=>if Sz l a then 0 else 10
 | none=>10
set_option maxHeartbeats 400000 in
theorem azd(p g:Nat)(l:List Nat)(st:Option Nat)(w:World)(hl:O7 l)(h:QP w p g l st) :
  Calls Tryz.prog 31 #[.pointer (some ⟨p,0,none⟩)] w fun e w'=>e = .returned (.int .i64 (Pe l st))/\∃ n,w'=w.drewN n:=by
 have HL:=Lib.hid hl;clear hl
 cases st with
 | none =>
  obtain⟨a,h⟩:=h
  obtain⟨-,-,h2,-,-⟩:=h.facts
  clear h
  go_enter Tryz.func31,Tryz.ntmps31
  go_wp2_with (fail)
  go_ret
  exact⟨rfl,⟨0,rfl⟩⟩
 | some a =>
  obtain⟨ha,h⟩:=h
  obtain⟨-,-,h2,-,-⟩:=h.facts
  have H0:=Lib.hid h;clear h
  go_enter Tryz.func31,Tryz.ntmps31
  go_wp2_with (fail)
  refine(aAt p g l a _ HL.out H0.out ha).mono ?_
  rintro e w1 ⟨rfl,n,rfl⟩
  cases he:Sz l a with
  | true =>
   have hd:Pe l (some a)=0:=by simp[Pe,he]
   have HD:=Lib.hid hd;clear hd he
   go_wp2
   go_ret
   exact⟨by rw[HD.out];rfl,⟨_,rfl⟩⟩
  | false =>
   have hd:Pe l (some a)=10:=by simp[Pe,he]
   have HD:=Lib.hid hd;clear hd he
   go_wp2
   go_ret
   exact⟨by rw[HD.out];rfl,⟨_,rfl⟩⟩
def Zm(w:World)(v:Value)(l:List Nat):Prop :=
 ∃ a cap,v = .slice a l.length cap/\(0<l.length->∃ ad,a=some ad/\∀ j u,(LB l)[j]? = some u->w.cell? (ad.add j)=some u)
set_option maxHeartbeats 400000 in
theorem aA7(v:Value)(l:List Nat)(w:World)(hl:l.length<1099511627776)(hs:Zm w v l) :
  Calls Tryz.prog 27 #[v] w fun e w'=>∃ p g,e = .returned (.pointer (some ⟨p,0,none⟩))/\QP w' p g l (some 0)/\w.heap.size<=p/\w.heap.size<=g/\KM (fun _=>False) w w':=by
 obtain⟨a,cap,rfl,hsrc⟩:=hs
 have HS:=Lib.hid hsrc;clear hsrc
 generalize hN:l.length=n at *
 have HN:=Lib.hid hN;clear hN
 have hmk:=fun wx:World=>run_make_row' (P:=Tryz.prog) 26 5 (.int .u8 0) 1 Tryz.underlying26 Tryz.info_u8 rfl .i64 .i64 n (by omega) (by omega) wx
 go_enter Tryz.func27,Tryz.ntmps27
 go_wp2_with (with_reducible refine wpList_copy_splice rfl (.tmp 7) (.tmp 8) 26 26 rfl 5 Tryz.underlying26 Tryz.size_u8 _ _ _ _ _ _ rfl rfl w.heap.size 0 (List.replicate n (.int .u8 0)) 5 ?hg (LB l) ?hn ?hpos ?hfit (TR _) w.heap.size w ?hb (Nat.le_refl _) ?_)
 case hg=>rw[V4];exact heap_alloc_new w _
 case hn=>rw[Ly,HN.out];simp
 case hpos =>
  intro h
  rw[Ly,HN.out] at h
  obtain⟨ad,rfl,hc⟩:=HS.out h
  refine⟨ad,rfl,fun j u hj=>?_⟩
  have hc':=hc j u hj
  have hlt:(ad.add j).block<w.heap.size:=World.block_lt_of_cell? w _ hc'
  rw[← hc']
  exact World.cell?_of_block (Below.heap_alloc _ _ _ hlt)
 case hfit=>rw[Ly,HN.out];simp
 case hb=>exact(Below.refl _ _).alloc (Nat.le_refl _) _
 intro w2 HG2 hB2
 have HB:=Lib.hid hB2;clear hB2
 have hsz:=MG HG2.out
 go_wp2
 go_ret
 refine⟨w2.heap.size,w.heap.size,rfl,⟨Nat.zero_le _,?_,?_,by omega⟩,by omega,Nat.le_refl _,(Below.kept HB.out).alloc _⟩
 ·rw[HN.out];exact heap_alloc_new w2 _
 ·rw[Below.heap_alloc _ _ _ hsz,HG2.out,Ww _ _ (by rw[Ly,HN.out];simp)]
theorem aAj(p g:Nat)(l:List Nat)(st:Option Nat)(w:World)(h:QP w p g l st) :
  Calls Tryz.prog 98 #[.pointer (some ⟨p,0,none⟩)] w fun e w'=>e = .returned (.bool st.isNone)/\w=w':=by
 cases st with
 | none=>obtain⟨a,h⟩:=h;exact Tl p g l a true w h
 | some a=>exact Tl p g l a false w h.2
end Go.Proofs.YtknjpdcpmpfklaaGreatDoor
set_option maxRecDepth 100000
namespace Go.Proofs.YtknjpdcpmpfklaaGreatDoor
open Go.RowKit
def chr(b:Bool):UInt8:=if b then 49 else 48
def NF(bs:List Bool):ByteArray:=⟨(bs.map chr).toArray⟩
theorem Pi(bs:List Bool):(NF bs).size=bs.length:=by simp[NF,ByteArray.size]
theorem Ro(a b:List Bool):NF a++NF b=NF (a++b):=by
 unfold NF;rw[Go.ByteArray.mk_append_mk,List.map_append]
theorem Z1(a:List Bool):NF a ++ { data:=#[48] }=NF (a ++ [false]):=Ro a [false]
set_option maxHeartbeats 400000 in
theorem aBG(n:Nat)(w:World)(hn:n<1099511627776) :
  Calls Tryz.prog 23 #[.int .i64 (n:Int)] w fun e w'=>e = .returned (.string (NF (PV n)))/\w=w':=by
 go_enter Tryz.func23,Tryz.ntmps23
 go_wp2_with (fail)
 go_loopg [3] (7-n%8) (fun k s wr=>w=wr/\∃ j:Nat,j+k=7-n%8/\s = .string (NF (true::List.replicate j false)))
 case atStart=>exact⟨rfl,0,by omega,rfl⟩
 case round =>
  obtain⟨rfl,j,hj,rfl⟩:=hrel
  have hsz:=Pi (true::List.replicate j false)
  have hsz':(NF (true::List.replicate j false)).size=j+1:=by rw[hsz];simp
  clear hsz
  have HJ:=Lib.hid hj
  have hj7:j<=7:=by omega
  by_cases h8:gk=0
  ·have hb:(((n:Int)+((j:Int)+1))%8 != 0)=false:=by simp;omega
   clear hj
   go_wp2
   go_ret
   have ej:j=7-n%8:=by have:=HJ.out;omega
   subst ej
   exact⟨rfl,rfl⟩
  ·have hb:(((n:Int)+((j:Int)+1))%8 != 0)=true:=by simp;omega
   clear hj
   go_wp2
   go_roundg (gk-1)
   case measure=>omega
   case rel=>exact⟨rfl,j+1,by have:=HJ.out;omega,by rw[Z1,List.replicate_succ'];rfl⟩
end Go.Proofs.YtknjpdcpmpfklaaGreatDoor
set_option maxRecDepth 100000
namespace Go.Proofs.YtknjpdcpmpfklaaGreatDoor
open Go.RowKit
theorem Mg.slice{w:World}{v:Value}{l:List Nat}(h:Mg w v l):Zm w v l:=by
 obtain⟨a,cap,rfl,-,-,-,hl,hc⟩:=h
 refine⟨a,cap,rfl,fun hpos=>?_⟩
 obtain⟨b,off,rfl,hb,hcell⟩:=hc hpos
 refine⟨⟨b,off,none⟩,rfl,fun j u hj=>?_⟩
 have hjl:j<l.length:=by
  have:=(List.getElem?_eq_some_iff.1 hj).1
  rwa [Ly] at this
 rw[Addr.add_lit,hcell j hjl]
 rw[← hj];simp[LB,List.getD,hjl]
theorem Mg.fair{w:World}{v:Value}{l:List Nat}(h:Mg w v l)(hl:l.length<1099511627776):O7 l:=by
 exact⟨h.lt256,hl⟩
end Go.Proofs.YtknjpdcpmpfklaaGreatDoor
set_option maxRecDepth 100000
namespace Go.Proofs.YtknjpdcpmpfklaaGreatDoor
open Go.RowKit
theorem YC(bs:List Bool):∀ x∈R2 bs,x<256:=by
 intro x hx
 obtain⟨i,_,rfl⟩:=List.mem_map.1 hx
 exact Z2 _
end Go.Proofs.YtknjpdcpmpfklaaGreatDoor
set_option maxRecDepth 100000
namespace Go.Proofs.YtknjpdcpmpfklaaGreatDoor
open Go.RowKit
def Pr(f:Nat->Bool):Nat->Nat
 | 0=>0
 | k+1=>2*Pr f k+(f k).toNat
theorem UW(f:Nat->Bool):Pr f 8=SB f:=by
 simp only[Pr,SB];omega
theorem Xo(f:Nat->Bool)(k:Nat):Pr f k<2 ^ k:=by
 induction k with
 | zero=>simp[Pr]
 | succ k ih=>have:=MY (f k);simp only[Pr,Nat.pow_succ];omega
theorem UY(f:Nat->Bool)(k:Nat)(h:k<=8):Pr f k<256 :=
 Nat.lt_of_lt_of_le (Xo f k) (by have:=Nat.pow_le_pow_right (n:=2) (by decide) h;simpa using this)
def XR(bs:List Bool)(q t:Nat):Bool:=bs.getD (8*q+t) false
def TA(bs:List Bool)(q j:Nat):Nat:=Pr (XR bs q) j
theorem aCC(bs:List Bool)(i:Nat)(h:i<(NF bs).size):((((NF bs)[i]'h).toNat:Int)==49)=bs.getD i false:=by
 have hi:i<bs.length:=by rwa [Pi] at h
 have e:(NF bs)[i]'h=chr bs[i]:=by
  show ((bs.map chr).toArray)[i]'(by simpa using hi)=_
  simp
 rw[e]
 simp only[List.getD,List.getElem?_eq_getElem hi,Option.getD_some]
 cases bs[i] <;> rfl
def aAH(w:World)(v:Value):Prop:=v.ownBlock=none\/∃ g,v.ownBlock=some g/\w.heap.size<=g
theorem VO(bs:List Bool)(q:Nat)(h:q<Qq bs.length):(R2 bs).take (q+1)=(R2 bs).take q ++ [SB fun j=>bs.getD (8*q+j) false]:=by
 rw[List.take_succ_eq_append_getElem (by rw[RQ];exact h)]
 congr 2
 simp[R2]
set_option maxHeartbeats 2000000 in
theorem ayH(bs:List Bool)(w:World)(hm:bs.length<1000000) :
  Calls Tryz.prog 22 #[.string (NF bs)] w fun e w'=>∃ v,e = .returned v/\w'.ownsRow 0 5 1 v (R2 bs).length (LB (R2 bs))/\aAH w v/\KM (fun _=>False) w w':=by
 obtain⟨i0,hi,hz0,hz1,hz2⟩:=info_parts Tryz.info_u8
 have HI:=Lib.hid hi;have HZ0:=Lib.hid hz0;have HZ1:=Lib.hid hz1;have HZ2:=Lib.hid hz2;clear hi hz0 hz1 hz2
 have hsz:=Pi bs
 have hnb:Qq bs.length<=1000000:=by unfold Qq;omega
 have hnb2:∀ q,8*q<bs.length↔q<Qq bs.length:=by intro q;unfold Qq;omega
 have HNB:=Lib.hid hnb2;clear hnb2
 go_enter Tryz.func22,Tryz.ntmps22
 go_wp2_with (fail)
 go_loopw [3,4] (fun o i wr=>∃ q:Nat,q<=Qq bs.length/\i = .int .i64 (8*(q:Int))/\wr.ownsRow 0 5 1 o q (LB ((R2 bs).take q))/\aAH w o/\KM (fun _=>False) w wr) (fun _ i _=>9000000-(intOf i).toNat)
 case atStart=>exact⟨0,by omega,rfl,World.ownsRow_nil _ _ _ _,.inl rfl,KM.refl _ _⟩
 case round =>
  obtain⟨q,hq,rfl,hown,hfr,hkp⟩:=hrel
  have HW:=Lib.hid hown;have HF:=Lib.hid hfr;have HK:=Lib.hid hkp;clear hown hfr hkp
  have hq2:=HNB.out q
  by_cases hlt:q<Qq bs.length
  ·have h8:8*q<bs.length:=hq2.2 hlt
   clear hq2
   have hd:decide (8*(q:Int)<(bs.length:Int))=true:=by simp;omega
   go_wp2_with (fail)
   go_loopg [5,6] 8 (fun gg x k wx=>wr=wx/\∃ j:Nat,j+gg=8/\k = .int .i64 (j:Int)/\x = .int .i64 (TA bs q j:Int))
   case atStart=>exact⟨rfl,0,by omega,rfl,rfl⟩
   case round =>
    obtain⟨rfl,j,hj,rfl,rfl⟩:=hrel
    have hbu:TA bs q j<256:=UY (XR bs q) j (by omega)
    have hsu:TA bs q (j+1)=2*TA bs q j+(XR bs q j).toNat:=rfl
    have HSU:=Lib.hid hsu;clear hsu
    have HJ:=Lib.hid hj
    by_cases hj8:j<8
    ·by_cases hin:8*q+j<bs.length
     ·have hch:=aCC bs (8*q+j) (by rw[hsz];exact hin)
      have e0:bs.getD (8*q+j) false=XR bs q j:=rfl
      rw[e0] at hch
      clear e0 hj
      cases hb:XR bs q j with
      | true =>
       rw[hb] at hch
       have HB:=Lib.hid hb;clear hb
       go_wp2
       go_roundg (gk-1)
       case measure=>have:=HJ.out;omega
       case rel=>exact⟨rfl,j+1,by have:=HJ.out;omega,by go_num,by rw[HSU.out,HB.out];go_num⟩
      | false =>
       rw[hb] at hch
       have HB:=Lib.hid hb;clear hb
       go_wp2
       go_roundg (gk-1)
       case measure=>have:=HJ.out;omega
       case rel=>exact⟨rfl,j+1,by have:=HJ.out;omega,by go_num,by rw[HSU.out,HB.out];go_num⟩
     ·have hb:XR bs q j=false:=by unfold XR;rw[List.getD,List.getElem?_eq_none (by omega)];rfl
      have HB:=Lib.hid hb;clear hb hj
      go_wp2
      go_roundg (gk-1)
      case measure=>have:=HJ.out;omega
      case rel=>exact⟨rfl,j+1,by have:=HJ.out;omega,by go_num,by rw[HSU.out,HB.out];go_num⟩
    ·have ej:j=8:=by omega
     clear HJ HSU hj
     subst ej
     have hb8:TA bs q 8=SB fun t=>bs.getD (8*q+t) false:=UW (XR bs q)
     have HB8:=Lib.hid hb8;clear hb8
     generalize TA bs q 8=x at *
     go_wp2_with (at_builtin;refine Si _ rfl (.tmp 35) (.tmp 38) 26 rfl 5 i0 (.int .u8 0) 1 1 Tryz.underlying26 HI.out HZ0.out HZ1.out HZ2.out rfl (by decide) _ _ _ rfl (HW.out.alloc _) ⟨wr.heap.size,0,none⟩ 1 1 [.int .u8 (x:Int)] rfl rfl ?c1 ?c2 ?b1 ?b2 ?_)
     case c1=>intro t u hj;match t,hj with|0,hj=>simp at hj;subst hj;simp[Addr.add]
     case c2=>intro u hu;simp at hu;subst hu;rfl
     case b1=>unfold maxLen;omega
     case b2=>omega
     intro v1 w1 hown hgr hwh
     have hk1:KM (fun _=>False) w w1:=(HK.out.alloc _).grown hgr (fun k hk hlt=>by
      rcases HF.out with h | ⟨g,h,hg⟩
      ·rw[h] at hk;cases hk
      ·rw[h] at hk;cases hk;omega)
     have hf1:aAH w v1:=by
      rcases hwh with h | ⟨g,h,hg⟩
      ·rcases HF.out with h2 | ⟨g2,h2,hg2⟩
       ·exact .inl (h.trans h2)
       ·exact .inr ⟨g2,h.trans h2,hg2⟩
      ·have:=HK.out.size;exact .inr ⟨g,h,by omega⟩
     have hro:w1.ownsRow 0 5 1 v1 (q+1) (LB ((R2 bs).take (q+1))):=by
      rw[VO bs q hlt,Ru,← HB8.out];exact hown
     have RO:=Lib.hid hro;have F1:=Lib.hid hf1;have K1:=Lib.hid hk1
     clear hro hf1 hk1 hown hgr hwh
     go_wp2
     go_roundw
     case rel=>exact⟨q+1,by omega,by go_num,RO.out,F1.out,K1.out⟩
     case measure=>simp[intOf];omega
  ·have h8:bs.length<=8*q:=by have:=mt hq2.1 hlt;omega
   clear hq2
   go_wp2
   go_ret
   have eq:q=Qq bs.length:=by omega
   subst eq
   refine⟨_,rfl,?_,HF.out,HK.out⟩
   have e:(R2 bs).take (Qq bs.length)=R2 bs:=List.take_of_length_le (by rw[RQ];exact Nat.le_refl _)
   have:=HW.out
   rw[e] at this
   rw[RQ];exact this
end Go.Proofs.YtknjpdcpmpfklaaGreatDoor
set_option maxRecDepth 100000
namespace Go.Proofs.YtknjpdcpmpfklaaGreatDoor
open Go.RowKit
def aB3(l:List Nat):List Bool:=(List.range (8*l.length)).map (Tg l)
def aDl(w:World)(x:Nat)(l:List Nat)(a:Nat)(lost:Bool):Prop :=
 w.heap[x]? = some (.cells #[.string (NF (aB3 l)),.int .i64 (a:Int),.bool lost] 80 (0,0))
def aDM(w:World)(x:Nat)(l:List Nat)(st:Option Nat):Prop :=
 match st with
 | some a=>a<=8*l.length/\aDl w x l a false
 | none=>∃ a,a<=8*l.length/\aDl w x l a true
end Go.Proofs.YtknjpdcpmpfklaaGreatDoor
set_option maxRecDepth 100000
namespace Go.Proofs.YtknjpdcpmpfklaaGreatDoor
def aDT:List Nat:=[0,1,4,8,5,2,3,6,9,12,13,10,7,11,14,15]
def ord(i:Nat):Nat:=aDT.getD i 0
def az1:Nat->Int:=fun i=>(ord i:Int)
theorem aCz:∀ i,i<16->ord i<16:=by decide
def Rz(l:List Nat)(at_:Nat)(st:Option Nat):Nat×Int×Option Nat :=
 (at_+(Lo (Lx l 15) st).1.toNat,Lo (LO l 1048576) (Lo (Lx l 15) st).2)
def St(r:Nat×Int×Option Nat):Prop:=r.2.2.isNone=true\/15<r.1\/r.2.1=0
instance (r:Nat×Int×Option Nat):Decidable (St r):=by unfold St;infer_instance
def WI(l:List Nat):Nat->Nat->(Nat->Int)->Option Nat->(Nat->Int)×Int×Option Nat
 | 0,_,b,st=>if st.isNone=true then (fun _=>0,60,st) else (b,0,st)
 | k+1,at_,b,st=>if St (Rz l at_ st) then (fun _=>0,60,(Rz l at_ st).2.2) else WI l k ((Rz l at_ st).1+1) (VS b (ord (Rz l at_ st).1) (Rz l at_ st).2.1) (Rz l at_ st).2.2
def LJ(l:List Nat)(st:Option Nat):(Nat->Int)×Int×Option Nat:=WI l (Lo (Lx l 16) st).1.toNat 0 (fun _=>0) (Lo (Lx l 16) st).2
theorem Ur(l:List Nat)(most:Int)(hm:0<=most)(st:Option Nat):0<=(Lo (Lx l most) st).1/\(Lo (Lx l most) st).1<=most:=by
 cases st with
 | none=>simp[Lo];omega
 | some a =>
  cases h:Mx l a with
  | none =>
   have e:Lo (Lx l most) (some a)=(0,none):=by simp[Lo,Lx,h]
   rw[e];simp only;omega
  | some p =>
   obtain⟨n,a'⟩:=p
   have h2:=NX l a 33 0 n a' (by omega) h
   by_cases hc:most<n
   ·have e:Lo (Lx l most) (some a)=(0,none):=by simp[Lo,Lx,h,hc]
    rw[e];simp only;omega
   ·have e:Lo (Lx l most) (some a)=(n,some a'):=by simp[Lo,Lx,h,hc]
    rw[e];simp only;omega
theorem TL(l:List Nat)(most:Int)(hm:0<=most)(st:Option Nat) : -most<=(Lo (LO l most) st).1/\(Lo (LO l most) st).1<=most:=by
 cases st with
 | none=>simp[Lo];omega
 | some a =>
  cases h:Mx l a with
  | none =>
   have e:Lo (LO l most) (some a)=(0,none):=by simp[Lo,LO,h]
   rw[e];simp only;omega
  | some p =>
   obtain⟨n,a'⟩:=p
   by_cases hc:most<MD n\/most < -MD n
   ·have e:Lo (LO l most) (some a)=(0,none):=by simp[Lo,LO,h,hc]
    rw[e];simp only;omega
   ·have e:Lo (LO l most) (some a)=(MD n,some a'):=by simp[Lo,LO,h,hc]
    rw[e];simp only;omega
end Go.Proofs.YtknjpdcpmpfklaaGreatDoor
set_option maxRecDepth 100000
namespace Go.Proofs.YtknjpdcpmpfklaaGreatDoor
open Go.RowKit
def L7(w:World)(T:Nat->Prop)(v:Value)(l:List Nat):Prop:=Mg w v l/\Pa w T/\(0<l.length->∀ a n c,v = .slice (some a) n c->T a.block)
theorem L7.live{w:World}{T:Nat->Prop}{v:Value}{l:List Nat}(h:L7 w T v l):Pa w T:=h.2.1
theorem L7.all{S:Nat->Prop}{w w':World}{T:Nat->Prop}{v:Value}{l:List Nat}(h:L7 w T v l)(k:KM S w w')(ha:KJ T S):L7 w' T v l:=by
 refine⟨?_,h.2.1.mono k,h.2.2⟩
 obtain⟨⟨a,cap,rfl,h1,h2,h3,hl,hc⟩,hL,hT⟩:=h
 refine⟨a,cap,rfl,h1,h2,h3,hl,fun hpos=>?_⟩
 obtain⟨b,off,rfl,hb,hcell⟩:=hc hpos
 exact⟨b,off,rfl,Nat.lt_of_lt_of_le hb k.size,fun i hi=>(World.cell?_of_block (k.block b hb (ha b (hT hpos _ _ _ rfl)))).trans (hcell i hi)⟩
instance {w w':World} {T:Nat->Prop} {v:Value} {l:List Nat}:Cr w w' (L7 w T v l) (L7 w' T v l):=⟨fun h k=>h.all k KJ.none⟩
instance {w:World} {T:Nat->Prop} {v:Value} {l:List Nat}:Lv w (L7 w T v l) (T):=⟨fun h=>h.live⟩
def aDG(v:Value)(l:List Nat):Nat->Prop:=fun i=>0<l.length/\∃ a n c,v = .slice (some a) n c/\i=a.block
theorem L7.arg{w:World}{v:Value}{l:List Nat}(h:Mg w v l):L7 w (aDG v l) v l:=by
 refine⟨h,fun i hi=>?_,fun hp a n c e=>⟨hp,a,n,c,e,rfl⟩⟩
 obtain⟨hp,a,n,c,rfl,rfl⟩:=hi
 obtain⟨a',cap,e,h1,h2,h3,hl,hc⟩:=h
 obtain⟨b,off,rfl,hb,_⟩:=hc hp
 cases e;exact hb
theorem L7.nil(w:World):L7 w L8 (.slice none 0 0) []:=⟨Mg.nil w,fun _ h=>h.elim,fun h=>absurd h (Nat.lt_irrefl 0)⟩
def Pn(w:World)(T:Nat->Prop)(p:Nat)(l:List Nat)(st:Option Nat):Prop:=O7 l/\∃ g,T=(fun i=>i=p\/i=g)/\QP w p g l st
theorem Pn.live{w:World}{T:Nat->Prop}{p:Nat}{l:List Nat}{st:Option Nat}(h:Pn w T p l st):Pa w T:=by
 obtain⟨_,g,rfl,h⟩:=h
 have:=h.lt
 intro i hi
 rcases hi with rfl|rfl
 ·exact this.1
 ·exact this.2.1
theorem Pn.all{S:Nat->Prop}{w w':World}{T:Nat->Prop}{p:Nat}{l:List Nat}{st:Option Nat}(h:Pn w T p l st)(k:KM S w w')(ha:KJ T S):Pn w' T p l st:=by
 obtain⟨hf,g,rfl,h⟩:=h;exact⟨hf,g,rfl,h.kept k (ha p (.inl rfl)) (ha g (.inr rfl))⟩
instance {w w':World} {T:Nat->Prop} {p:Nat} {l:List Nat} {st:Option Nat}:Cr w w' (Pn w T p l st) (Pn w' T p l st):=⟨fun h k=>h.all k KJ.none⟩
instance {w:World} {T:Nat->Prop} {p:Nat} {l:List Nat} {st:Option Nat}:Lv w (Pn w T p l st) (T):=⟨fun h=>h.live⟩
def Rfi(w:World)(T:Nat->Prop)(p:Nat)(l:List Nat)(st:Option Nat):Prop:=O7 l/\l.length<=1000/\T=Le p/\aDM w p l st
theorem aC6(v:Value)(l:List Nat)(T_b:Nat->Prop)(w0:World)(hm:l.length<1099511627776)(h_b:L7 w0 T_b v l) :
  Calls Tryz.prog 27 #[v] w0 fun e w'=>∃ (v1:Nat) (T1:Nat->Prop),e = .returned (.pointer (some ⟨v1,0,none⟩))/\KM (fun _=>False) w0 w'/\(Pn w' T1 v1 l (some 0)/\KP w0 L8 T1):=by
 refine(aA7 v l w0 hm h_b.1.slice).mono fun _ _ ⟨p,g,e,hr,h1,h2,k⟩=>?_
 exact⟨p,_,e,k,⟨h_b.1.fair hm,g,rfl,hr⟩,fun i hi=>.inr (by rcases hi with rfl|rfl <;> assumption)⟩
theorem aCj(p:Nat)(l:List Nat)(st:Option Nat)(T_r:Nat->Prop)(w0:World)(h_r:Pn w0 T_r p l st) :
  Calls Tryz.prog 31 #[.pointer (some ⟨p,0,none⟩)] w0 fun e w'=>e = .returned (.int .i64 (Pe l st))/\KM (fun _=>False) w0 w':=by
 obtain⟨hf,g,rfl,h⟩:=h_r
 exact(azd p g l st w0 hf h).mono fun _ _ ⟨e,n,hw⟩=>by subst hw;exact⟨e,(KM.refl _ _).drewN n⟩
theorem YB(bs:List Bool)(w0:World)(hm:bs.length<1000000):Calls Tryz.prog 22 #[.string (NF bs)] w0 fun e w'=>∃ (v1:Value) (T1:Nat->Prop),e = .returned v1/\KM (fun _=>False) w0 w'/\(L7 w' T1 v1 (R2 bs)/\KP w0 L8 T1):=by
 refine(ayH bs w0 hm).mono fun _ w' ⟨v,e,ho,hf,k⟩=>?_
 have hR:Uw w' 0 v (R2 bs):=⟨ho,YC bs⟩
 refine⟨v,fun i=>v.ownBlock=some i,e,k,⟨hR.bytes,fun i hi=>(hR.lt i hi).2,fun hp a n c e=>?_⟩,fun i hi=>?_⟩
 ·subst e;rfl
 ·rcases hf with h | ⟨g,h,hg⟩
  ·rw[h] at hi;cases hi
  ·rw[h] at hi;cases hi;exact .inr hg
end Go.Proofs.YtknjpdcpmpfklaaGreatDoor
set_option maxRecDepth 100000
namespace Go.Proofs.YtknjpdcpmpfklaaGreatDoor
open Go.RowKit
theorem Uw.shape{w:World}{B:Nat}{v:Value}{l:List Nat}(h:Uw w B v l):∃ a cap,v = .slice a l.length cap:=by
 rcases h.1.2 with ⟨rfl,h0⟩ | ⟨g,cap,cur,rfl,_⟩
 ·exact⟨none,0,by rw[h0]⟩
 ·exact⟨_,_,rfl⟩
theorem Mg.cut{w:World}{a:Option Addr}{len cap:Nat}{l:List Nat}(h:Mg w (.slice a len cap) l)(i j cap':Nat)(hi:i<=j)(hj:j<=l.length)(hc:j-i<=cap')(hm:cap'<=maxLen)(a':Option Addr)
  (ha:0<j-i->a'=a.map (·.add i)) (h0:a'=none->cap'=0):Mg w (.slice a' (j-i) cap') ((l.drop i).take (j-i)):=by
 obtain⟨a2,cap2,e,h1,h2,h3,h256,hcell⟩:=h
 cases e
 have hl:((l.drop i).take (j-i)).length=j-i:=by simp;omega
 refine⟨a',cap',by rw[hl],by rw[hl];exact hc,hm,h0,fun x hx=>h256 x (List.mem_of_mem_drop (List.mem_of_mem_take hx)),fun hpos=>?_⟩
 rw[hl] at hpos
 obtain⟨b,off,rfl,hb,hx⟩:=hcell (by omega)
 refine⟨b,off+i,by rw[ha hpos];simp[Addr.add_lit],hb,fun t ht=>?_⟩
 rw[hl] at ht
 have e1:=hx (i+t) (by omega)
 rw[Nat.add_assoc,e1]
 have ht2:t<j-i:=ht
 simp[List.getD,ht2]
end Go.Proofs.YtknjpdcpmpfklaaGreatDoor
set_option maxRecDepth 100000
namespace Go.Proofs.YtknjpdcpmpfklaaGreatDoor
open Go.RowKit
theorem PE{ρ:Operand->Value}{o:Oper}{w:World}{R:Value->World->Prop}{x:Operand}{l:List Nat}(ho:o.op = .convert 26 9 x)(hx:Mg w (ρ x) l)(h:R (.string (Mh l)) w):Lg Tryz.prog ρ o w R :=
 MN (by simp[execOp,ho,hx.text]) h
theorem aAO{ρ:Operand->Value}{o:Oper}{w:World}{R:Value->World->Prop}{c:Call}{x:Operand}{t e:TypeId}{a:Option Addr}{n cap:Nat}(ho:o.op = .call c)(hc:c.callee = .builtin .len)(hx:c.args = #[x])(ht:c.argTypes = #[t])(hu:Tryz.prog.underlying t=some (.slice e))
  (h1:ρ x = .slice a n cap) (h:R (.int .i64 (n:Int)) w):Lg Tryz.prog ρ o w R:=by
 obtain⟨cl,xs,ts⟩:=c
 simp only at hc hx ht
 subst hc;subst hx;subst ht
 exact MN (v:=.int .i64 (n:Int)) (w':=w) (by simp[execOp,ho,h1,resolve,invoke,builtin,run_underlying hu,Builtin.len_];rfl) h
end Go.Proofs.YtknjpdcpmpfklaaGreatDoor
set_option maxRecDepth 100000
namespace Go.Proofs.YtknjpdcpmpfklaaGreatDoor
open Go.RowKit
def PH(w:World)(p:Nat)(t:TypeId)(v:Value):Prop:=w.heap[p]? = some (.cells #[v] t (0,0))
theorem PH.all{S:Nat->Prop}{w w':World}{p:Nat}{t:TypeId}{v:Value}(h:PH w p t v)(k:KM S w w')(hn:¬ S p):PH w' p t v:=k.at h hn
theorem PH.lt{w:World}{p:Nat}{t:TypeId}{v:Value}(h:PH w p t v):p<w.heap.size:=MG h
instance {w w':World} {p:Nat} {t:TypeId} {v:Value}:Cr w w' (PH w p t v) (PH w' p t v):=⟨fun h k=>h.all k id⟩
instance {w:World} {p:Nat} {t:TypeId} {v:Value}:Lv w (PH w p t v) (Le p):=⟨fun h=>LR h.lt⟩
theorem PH.cell{w:World}{p:Nat}{t:TypeId}{v:Value}(h:PH w p t v):w.cell? ⟨p,0,none⟩=some v:=by rw[Mq h];rfl
def oneC:Value->Bool
 | .int _ _ | .bool _ | .pointer _ | .slice _ _ _ | .string _=>true
 | _=>false
def TY:TypeDesc->Bool
 | .struct _ | .array _ _=>false
 | _=>true
section
variable {ro:Option Nat} {P:Program} {ρ:Operand->Value} {o:Oper} {w:World} {R:Value->World->Prop}
theorem Yc{ty:TypeId}{x:Operand}{a:Addr}{v:Value}{d:TypeDesc}(ho:o.op = .load ty x)(hx:ρ x = .pointer (some a))(hu:P.underlying ty=some d)(hd:TY d=true)(hc:w.cell? a=some v)(h:R v w):Lg P ρ o w R:=by
 have hA:(isAgg ty).run P w = .ok false w:=by
  cases d <;> first|(simp[TY] at hd;done)|simp[isAgg,run_underlying hu]
 exact MN (v:=v) (w':=w) (by simp[execOp,ho,hx,Instr.loadAt,Instr.sureAddr,loadVar,hA,hc]) h
theorem MB{ty t:TypeId}{x:Operand}{p:Nat}{v:Value}{d:TypeDesc}(ho:o.op = .load ty x)(hx:ρ x = .pointer (some ⟨p,0,none⟩))(hu:P.underlying ty=some d)(hB:PH w p t v)(hd:TY d=true:=by rfl)(h:R v w):Lg P ρ o w R:=Yc ho hx hu hd hB.cell h
theorem Og{x:Operand}{a:Addr}(ho:o.op = .nilCheck x)(hx:ρ x = .pointer (some a))(h:R (.pointer (some a)) w):Lg P ρ o w R :=
 MN (by simp[execOp,ho,hx]) h
theorem KQ{s:TypeId}{x:Operand}{fs:Array Field}{i b off off' n:Nat}{f:Field}(ho:o.op = .fieldAddr s x i)(hx:ρ x = .pointer (some ⟨b,off,none⟩))(hu:P.underlying s=some (.struct fs))(hf:fs[i]? = some f)(hs:(P.info? f.type).map (·.size)=some n)(hn:n≠0)(hoff:off+f.offset=off')
  (h:R (.pointer (some ⟨b,off',none⟩)) w):Lg P ρ o w R:=by
 cases hq:P.info? f.type with
 | none=>simp[hq] at hs
 | some j =>
  have hs':j.size=n:=by simpa [hq] using hs
  exact MN (v:=.pointer (some ⟨b,off',none⟩)) (w':=w) (by simp[execOp,ho,hx,Instr.fieldAt,run_underlying hu,hf,Instr.sureAddr,fieldPlace,sizeOf,typeInfo,hq,hs',hn,Addr.add_lit,hoff]) h
theorem azC{t t':TypeId}{x y:Operand}{m n r:ByteArray}(ho:o.op = .binOp .add t x y t')(hx:ρ x = .string m)(hy:ρ y = .string n)(hz:m.size+n.size<=9223372036854775807)(hr:m++n=r)(h:R (.string r) w):Lg P ρ o w R :=
 MN (v:=.string (m++n)) (w':=w) (by simp[execOp,ho,hx,hy,go_sem,Nat.not_lt.2 hz]) (by rw[hr];exact h)
theorem TO{t t':TypeId}{x y:Operand}{m n:ByteArray}{b:Bool}(ho:o.op = .binOp .eql t x y t')(hx:ρ x = .string m)(hy:ρ y = .string n)(hr:(m.toList==n.toList)=b)(h:R (.bool b) w):Lg P ρ o w R :=
 Y3 ho hx hy (by rw[hr];exact h)
end
section
variable {ρ:Operand->Value} {o:Oper} {w:World} {R:Value->World->Prop}
theorem aB8{c:Call}{x:Operand}{l:List Bool}(ho:o.op = .call c)(hc:c={ callee:=.builtin .len,args:=#[x],argTypes:=#[9] })(hx:ρ x = .string (NF l))(h:R (.int .i64 ((l.length:Nat):Int)) w):Lg Tryz.prog ρ o w R:=by
 subst hc
 refine MN (v:=.int .i64 ((l.length:Nat):Int)) (w':=w) ?_ h
 rw[← Pi l]
 simp[execOp,ho,hx,resolve,invoke,builtin,run_underlying Tryz.underlying9,Builtin.len_]
 rfl
theorem M0{c:Call}{x:Operand}{T:Nat->Prop}{v:Value}{l:List Nat}(ho:o.op = .call c)(hc:c={ callee:=.builtin .len,args:=#[x],argTypes:=#[26] })(hx:ρ x=v)(hb:L7 w T v l)(h:R (.int .i64 ((l.length:Nat):Int)) w):Lg Tryz.prog ρ o w R:=by
 subst hc
 obtain⟨⟨a,cap,rfl,_⟩,_⟩:=hb
 exact aAO ho rfl rfl rfl Tryz.underlying26 hx h
theorem N1{x:Operand}{T:Nat->Prop}{v:Value}{l:List Nat}(hx:ρ x=v)(hb:L7 w T v l):Mg w (ρ x) l:=by rw[hx];exact hb.1
end
section
variable {ro:Option Nat} {N:Nat} {Q:(Exit->(Nat->Value)->World->Prop)} {F:Nat->Value} {w:World} {o:Oper} {P:Program}
theorem Ph{ops:Array Oper}{rest:List Oper}{t:TypeId}{x:Operand}{v:Value}(hg:o.guard=none)(hd:Ou N o.dst=true)(ho:o.op = .box t x)(hx:ev (MK N F) x=v)(hv:oneC v=true)
  (h:∀ p w',PH w' p t v->KP w L8 (Le p)->KM (fun _=>False) w w'->wl ro P N ops Q rest (OI F o.dst (.pointer (some ⟨p,0,none⟩))) w'):wl ro P N ops Q (o::rest) F w :=
 Nq hg hd (N2 (v:=.pointer (some ⟨w.heap.size,0,none⟩)) (w':=w.alloc (.cells #[v] t)) (by simp[execOp,ho,hx,go_sem];cases v <;> first|rfl|(simp[oneC] at hv;done)) (h _ _ (heap_alloc_new w _) (LS (Nat.le_refl _)) ((KM.refl _ _).alloc _)))
theorem Ox{ops:Array Oper}{rest:List Oper}{t:TypeId}{v:Value}(hg:o.guard=none)(hd:Ou N o.dst=true)(ho:o.op = .alloc t)(hi:(P.info? t).map (fun i=>(i.zero,i.size))=some (some v,1))(hv:oneC v=true)
  (h:∀ p w',PH w' p t v->KP w L8 (Le p)->KM (fun _=>False) w w'->wl ro P N ops Q rest (OI F o.dst (.pointer (some ⟨p,0,none⟩))) w'):wl ro P N ops Q (o::rest) F w :=
 Nq hg hd (N2 (v:=.pointer (some ⟨w.heap.size,0,none⟩)) (w':=w.alloc (.cells #[v] t)) (by simp[execOp,ho,(zero_of_info hi).1,go_sem];cases v <;> first|rfl|(simp[oneC] at hv;done)) (h _ _ (heap_alloc_new w _) (LS (Nat.le_refl _)) ((KM.refl _ _).alloc _)))
theorem L3{ops:Array Oper}{rest:List Oper}{ty t:TypeId}{x y:Operand}{p:Nat}{v v':Value}(hg:o.guard=none)(hdn:o.dst=none)(ho:o.op = .store ty x y)(hx:ev (MK N F) x = .pointer (some ⟨p,0,none⟩))(hy:ev (MK N F) y=v')(hB:PH w p t v)(hv:oneC v'=true)
  (hs:(P.info? ty).map (·.size)=some 1)
  (h:∀ w',PH w' p t v'->KM (fun k=>k=p) w w'->wl ro P N ops Q rest F w'):wl ro P N ops Q (o::rest) F w:=by
 have hc:=hB.cell
 have hf:w.frozen? ⟨p,0,none⟩=false:=MX hB
 cases hq:P.info? ty with
 | none=>simp[hq] at hs
 | some i =>
  have hs':i.size=1:=by simpa [hq] using hs
  refine Nq hg (by rw[hdn];rfl) ?_
  have e:(execOp (ev (MK N F)) o).run P w = .ok .skip (w.setCell ⟨p,0,none⟩ v')\/(execOp (ev (MK N F)) o).run P w = .ok (.value undef) (w.setCell ⟨p,0,none⟩ v'):=by
   cases v' <;> first|(simp[oneC] at hv;done)|simp[execOp,ho,hx,hy,Instr.storeAt,Instr.sureAddr,storeVar,sizeOf,typeInfo,hq,hs',Value.cells,hc,hf,go_sem]
  have hn:PH (w.setCell ⟨p,0,none⟩ v') p t v':=by unfold PH;rw[MV _ _ _ _ hB];rfl
  unfold Lg
  rw[hdn]
  rcases e with e|e <;> rw[e] <;> exact h _ hn ((KM.refl (fun k=>k=p) w).setCell ⟨p,0,none⟩ (fun _=>rfl) _)
end
end Go.Proofs.YtknjpdcpmpfklaaGreatDoor
set_option maxRecDepth 100000
namespace Go.Proofs.YtknjpdcpmpfklaaGreatDoor
def Ny:Int:=9223372036854775807
def ML(l:List Nat)(a:Nat)(s:Option Nat):Nat×Int×Option Nat:=(a+(Lo (Lx l Ny) s).1.toNat,Lo (LO l Ny) (Lo (Lx l Ny) s).2)
def Qe(l:List Nat):Nat->Nat->(Nat->Int)->Option Nat->(Nat->Int)×Int×Option Nat
 | 0,_,b,s=>(b,0,s)
 | k+1,a,b,s=>if 16<=(ML l a s).1 then (fun _=>0,60,(Lo (Lx l Ny) s).2)
  else if (ML l a s).2.1=0\/(ML l a s).2.1≠cl 1048576 (ML l a s).2.1 then (fun _=>0,60,(ML l a s).2.2)
  else Qe l k ((ML l a s).1+1) (VS b (ord (ML l a s).1) (ML l a s).2.1) (ML l a s).2.2
def gRd(l:List Nat)(s:Option Nat):(Nat->Int)×Int×Option Nat :=
 if (Lo (Lx l Ny) s).2.isNone=true\/16<(Lo (Lx l Ny) s).1 then (fun _=>0,60,(Lo (Lx l Ny) s).2)
 else Qe l (Lo (Lx l Ny) s).1.toNat 0 (fun _=>0) (Lo (Lx l Ny) s).2
theorem QT(l:List Nat)(a:Nat)(n:Int)(a':Nat)(h:Mx l a=some (n,a')):0<=n/\n<=8589934592:=by
 have:=NX l a 33 0 n a' (by omega) h
 omega
theorem Vx(l:List Nat)(s:Option Nat):0<=(Lo (Lx l Ny) s).1/\(Lo (Lx l Ny) s).1<=8589934592:=by
 cases s with
 | none=>simp[Lo]
 | some a =>
  cases h:Mx l a with
  | none=>simp[Lo,Lx,h]
  | some p =>
   obtain⟨n,a'⟩:=p
   have hb:=QT l a n a' h
   have e:Lo (Lx l Ny) (some a)=(n,some a'):=by
    have:¬ Ny<n:=by unfold Ny;omega
    simp[Lo,Lx,h,this]
   rw[e];exact hb
theorem aBs(l:List Nat)(a:Nat)(s:Option Nat):(a:Int)+(Lo (Lx l Ny) s).1=(((ML l a s).1:Nat):Int)/\(ML l a s).1<=a+8589934592:=by
 have h:=Vx l s
 unfold ML
 simp only
 omega
def Qx(r r':(Nat->Int)×Int×Option Nat):Prop:=r.1=r'.1/\r.2.1=r'.2.1/\(r'.2.1=0->r=r')
theorem Qx.bad(s s':Option Nat):Qx (fun _=>0,60,s) (fun _=>0,60,s'):=⟨rfl,rfl,fun h=>absurd (show (60:Int)=0 from h) (by decide)⟩
theorem Zz(n:Int):cl 1048576 n=n↔(-1048576<=n/\n<=1048576):=by unfold cl;omega
theorem aAF(l:List Nat)(a:Nat)(n:Int)(a':Nat)(h:Mx l a=some (n,a')):Lo (Lx l Ny) (some a)=(n,some a'):=by
 have hb:=QT l a n a' h
 have:¬ Ny<n:=by unfold Ny;omega
 simp[Lo,Lx,h,this]
theorem Uz(l:List Nat)(m:Int)(a:Nat)(h:Mx l a=none):Lo (Lx l m) (some a)=(0,none):=by simp[Lo,Lx,h]
theorem az2(l:List Nat)(m:Int)(a:Nat)(n:Int)(a':Nat)(h:Mx l a=some (n,a'))(hm:m<n):Lo (Lx l m) (some a)=(0,none):=by simp[Lo,Lx,h,hm]
theorem Zt(l:List Nat)(m:Int)(a:Nat)(n:Int)(a':Nat)(h:Mx l a=some (n,a'))(hm:¬ m<n):Lo (Lx l m) (some a)=(n,some a'):=by simp[Lo,Lx,h,hm]
theorem Zl(l:List Nat)(m:Int)(a:Nat)(h:Mx l a=none):Lo (LO l m) (some a)=(0,none):=by simp[Lo,LO,h]
theorem aCe(l:List Nat)(a:Nat)(n:Int)(a':Nat)(h:Mx l a=some (n,a')):Lo (LO l Ny) (some a)=(MD n,some a'):=by
 have hb:=QT l a n a' h
 have:¬ (Ny<MD n\/Ny < -MD n):=by
  unfold Ny MD
  split <;> omega
 simp only[Lo,LO,h,if_neg this]
theorem aCd(l:List Nat)(m:Int)(a:Nat)(n:Int)(a':Nat)(h:Mx l a=some (n,a'))(hm:m<MD n\/m < -MD n):Lo (LO l m) (some a)=(0,none):=by simp only[Lo,LO,h,if_pos hm]
theorem aA1(l:List Nat)(m:Int)(a:Nat)(n:Int)(a':Nat)(h:Mx l a=some (n,a'))(hm:¬ (m<MD n\/m < -MD n)):Lo (LO l m) (some a)=(MD n,some a'):=by simp only[Lo,LO,h,if_neg hm]
theorem XJ(l:List Nat):∀ (k a:Nat) (b:Nat->Int) (s:Nat),Qx (Qe l k a b (some s)) (WI l k a b (some s)):=by
 intro k
 induction k with
 | zero=>intro a b s;exact⟨rfl,rfl,fun _=>rfl⟩
 | succ k ih =>
  intro a b s
  rw[Qe,WI]
  cases hw:Mx l s with
  | none =>
   have e1:(Rz l a (some s))=(a,0,none):=by
    unfold Rz;rw[Uz l 15 s hw];simp[Lo]
   have e2:(ML l a (some s))=(a,0,none):=by
    unfold ML;rw[Uz l Ny s hw];simp[Lo]
   rw[e1,e2,if_pos (show St (a,0,none) from .inl rfl)]
   split
   ·exact Qx.bad _ _
   ·rw[if_pos (.inl rfl)];exact Qx.bad _ _
  | some p =>
   obtain⟨n,s1⟩:=p
   have hb:=QT l s n s1 hw
   have eg:ML l a (some s)=(a+n.toNat,Lo (LO l Ny) (some s1)):=by unfold ML;rw[aAF l s n s1 hw]
   by_cases hf:15<n
   ·have e1:Rz l a (some s)=(a,0,none):=by
     unfold Rz;rw[az2 l 15 s n s1 hw hf];simp[Lo]
    rw[e1,if_pos (show St (a,0,none) from .inl rfl),eg,if_pos (show 16<=a+n.toNat by omega)]
    exact Qx.bad _ _
   ·have e1:Rz l a (some s)=(a+n.toNat,Lo (LO l 1048576) (some s1)):=by unfold Rz;rw[Zt l 15 s n s1 hw hf]
    rw[e1,eg]
    by_cases h16:16<=a+n.toNat
    ·rw[if_pos h16,if_pos (show St _ from .inr (.inl (by simp only;omega)))]
     exact Qx.bad _ _
    ·rw[if_neg h16]
     cases hw2:Mx l s1 with
     | none =>
      rw[Zl l Ny s1 hw2,Zl l 1048576 s1 hw2,if_pos (.inl rfl),if_pos (show St _ from .inl rfl)]
      exact Qx.bad _ _
     | some q =>
      obtain⟨m,s2⟩:=q
      rw[aCe l s1 m s2 hw2]
      by_cases hfar:(1048576:Int)<MD m\/(1048576:Int) < -MD m
      ·rw[aCd l 1048576 s1 m s2 hw2 hfar,if_pos (show St _ from .inl rfl),if_pos (.inr (fun h=>by have:=(Zz (MD m)).1 h.symm;omega))]
       exact Qx.bad _ _
      ·rw[aA1 l 1048576 s1 m s2 hw2 hfar]
       have hc:MD m=cl 1048576 (MD m):=((Zz _).2 (by omega)).symm
       by_cases h0:MD m=0
       ·rw[if_pos (.inl h0),if_pos (show St _ from .inr (.inr h0))]
        exact Qx.bad _ _
       ·have hn1:¬ (MD m=0\/MD m≠cl 1048576 (MD m)):=by
         rintro (h|h)
         ·exact h0 h
         ·exact h hc
        have hn2:¬ St (a+n.toNat,MD m,some s2):=by
         rintro (h|h|h)
         ·cases h
         ·simp only at h;omega
         ·exact h0 h
        rw[if_neg hn1,if_neg hn2]
        exact ih _ _ _
theorem Wb(l:List Nat)(st:Option Nat):Qx (gRd l st) (LJ l st):=by
 unfold gRd LJ
 cases st with
 | none =>
  have e1:∀ m,Lo (Lx l m) none=(0,none):=fun m=>rfl
  rw[e1,e1,if_pos (.inl rfl)]
  exact Qx.bad _ _
 | some s =>
  cases hw:Mx l s with
  | none =>
   rw[Uz l Ny s hw,Uz l 16 s hw,if_pos (.inl rfl)]
   exact Qx.bad _ _
  | some p =>
   obtain⟨n,s1⟩:=p
   rw[aAF l s n s1 hw]
   by_cases hf:16<n
   ·rw[if_pos (.inr hf),az2 l 16 s n s1 hw hf]
    exact Qx.bad _ _
   ·rw[Zt l 16 s n s1 hw hf,if_neg (by rintro (h|h);cases h;exact hf h)]
    exact XJ l _ _ _ _
def WD(l:List Nat)(st:Option Nat):Option Nat:=(gRd l st).2.2
theorem UF{l:List Nat}{st:Option Nat}(h:(LJ l st).2.1=0):WD l st=(LJ l st).2.2:=by unfold WD;rw[(Wb l st).2.2 h]
theorem Xt{l:List Nat}{M i a:Nat}{b:Nat->Int}{s:Option Nat}{R:(Nat->Int)×Int×Option Nat}(hi:i<M)(h:Qe l (M-i) a b s=R)(hb:16<=(ML l a s).1):R=(fun _=>0,60,(Lo (Lx l Ny) s).2):=by
 obtain⟨k,hk⟩:∃ k,M-i=k+1:=⟨M-i-1,by omega⟩
 rw[hk,Qe,if_pos hb] at h
 exact h.symm
theorem Xp{l:List Nat}{M i a:Nat}{b:Nat->Int}{s:Option Nat}{R:(Nat->Int)×Int×Option Nat}(hi:i<M)(h:Qe l (M-i) a b s=R)(ha:¬ 16<=(ML l a s).1)(hb:(ML l a s).2.1=0\/(ML l a s).2.1≠cl 1048576 (ML l a s).2.1):R=(fun _=>0,60,(ML l a s).2.2):=by
 obtain⟨k,hk⟩:∃ k,M-i=k+1:=⟨M-i-1,by omega⟩
 rw[hk,Qe,if_neg ha,if_pos hb] at h
 exact h.symm
theorem aDJ{l:List Nat}{M i a:Nat}{b:Nat->Int}{s:Option Nat}{R:(Nat->Int)×Int×Option Nat}(hi:i<M)(h:Qe l (M-i) a b s=R)(ha:¬ 16<=(ML l a s).1)(hb:¬ ((ML l a s).2.1=0\/(ML l a s).2.1≠cl 1048576 (ML l a s).2.1)) :
  Qe l (M-(i+1)) ((ML l a s).1+1) (VS b (ord (ML l a s).1) (ML l a s).2.1) (ML l a s).2.2=R:=by
 obtain⟨k,hk⟩:∃ k,M-i=k+1:=⟨M-i-1,by omega⟩
 rw[hk,Qe,if_neg ha,if_neg hb] at h
 rw[show M-(i+1)=k by omega]
 exact h
theorem aCK{l:List Nat}{M i a:Nat}{b:Nat->Int}{s:Option Nat}{R:(Nat->Int)×Int×Option Nat}(hi:¬ i<M)(h:Qe l (M-i) a b s=R):R=(b,0,s):=by
 rw[show M-i=0 by omega,Qe] at h
 exact h.symm
theorem QB{l:List Nat}{s:Option Nat}(h:(Lo (Lx l Ny) s).2.isNone=true\/16<(Lo (Lx l Ny) s).1):gRd l s=(fun _=>0,60,(Lo (Lx l Ny) s).2):=by unfold gRd;rw[if_pos h]
theorem aBk{l:List Nat}{s:Option Nat}{M:Nat}(h1:(Lo (Lx l Ny) s).2.isNone=false)(h2:¬ 16<(Lo (Lx l Ny) s).1)(hM:M=(Lo (Lx l Ny) s).1.toNat):Qe l (M-0) 0 (fun _=>0) (Lo (Lx l Ny) s).2=gRd l s:=by
 unfold gRd
 rw[if_neg (by rintro (h|h);rw[h1] at h;cases h;exact h2 h),← hM];rfl
theorem Nu{l:List Nat}{s:Option Nat}{b:Nat->Int}{n:Int}{t:Option Nat}(h:gRd l s=(b,n,t)):b=(LJ l s).1/\n=(LJ l s).2.1/\WD l s=t:=by
 have ha:=Wb l s
 have hs:WD l s=(gRd l s).2.2:=rfl
 rw[h] at ha hs
 exact⟨ha.1,ha.2.1,hs⟩
end Go.Proofs.YtknjpdcpmpfklaaGreatDoor
set_option maxRecDepth 100000
namespace Go.Proofs.YtknjpdcpmpfklaaGreatDoor
open Go.RowKit
def azz(J:Nat->(Nat->Value)->World->Prop)(Q:(Exit->(Nat->Value)->World->Prop)):(Exit->(Nat->Value)->World->Prop)
 | .goto l,F,w=>J l F w
 | e,F,w=>Q e F w
def az4(Q:(Exit->(Nat->Value)->World->Prop)):(Exit->(Nat->Value)->World->Prop)
 | .goto _,_,_=>False
 | e,F,w=>Q e F w
theorem Vb{P:Program}{a:Act}{w:World}{Q:Exit->Act->World->Prop}{c:Code}(J:Nat->Act->World->Prop)
  (first:c.wp P (fun e a w=>match e with | .goto l=>J l a w|e=>Q e a w) a w)
  (pass:∀ l a w,J l a w->∃ rest,findLabel c l=some rest/\rest.wp P (Exit.noGoto Q) a w):(Code.scope c).wp P Q a w:=by
 intro b k cs
 obtain⟨e,a₁,w₁,hq,harr⟩:=first b (.inScope c::k) cs
 cases e with
 | normal=>exact⟨.normal,a₁,w₁,hq,.head step_scope (Steps.trans harr (.one step_inScope))⟩
 | exit id=>exact⟨.exit id,a₁,w₁,hq,fun k' hk=>.head step_scope (harr k' (by simp[exitTo,hk]))⟩
 | goto l =>
  obtain⟨rest,hf,hr⟩:=pass l a₁ w₁ hq
  have hg:gotoIn l (.inScope c::k)=some (.code rest :: .inScope c::k):=by simp[gotoIn,hf]
  obtain⟨e₂,a₂,w₂,hq₂,harr₂⟩:=hr b (.inScope c::k) cs
  have hs:Go.Steps P (lone (b.at a (.code (.scope c)::k)) cs w) (lone (b.at a₁ (.code rest :: .inScope c::k)) cs w₁):=.head step_scope (harr _ hg)
  cases e₂ with
  | normal=>exact⟨.normal,a₂,w₂,hq₂,Steps.trans hs (Steps.trans harr₂ (.one step_inScope))⟩
  | exit id=>exact⟨.exit id,a₂,w₂,hq₂,fun k' hk=>Steps.trans hs (harr₂ k' (by simp[exitTo,hk]))⟩
  | goto l'=>exact hq₂.elim
  | ret=>exact⟨_,a₂,w₂,hq₂,.of_steps hs harr₂⟩
  | panic ch=>exact⟨_,a₂,w₂,hq₂,.of_steps hs harr₂⟩
  | outgrown=>exact⟨_,a₂,w₂,hq₂,.of_steps hs harr₂⟩
 | ret=>exact⟨_,a₁,w₁,hq,.of_steps (.one step_scope) harr⟩
 | panic ch=>exact⟨_,a₁,w₁,hq,.of_steps (.one step_scope) harr⟩
 | outgrown=>exact⟨_,a₁,w₁,hq,.of_steps (.one step_scope) harr⟩
section
variable {ro:Option Nat} {P:Program} {N:Nat} {Q:(Exit->(Nat->Value)->World->Prop)} {F:Nat->Value} {w:World}
theorem VM{c:Code}(h:wq none P N c (azz (fun l F w=>∃ rest,findLabel c l=some rest/\wq none P N rest (az4 Q) F w) Q) F w):wq none P N (.scope c) Q F w:=by
 intro a ha
 refine wpIn_wide.2 ?_
 refine Vb (fun l a w=>∃ F,Fr N F a/\∃ rest,findLabel c l=some rest/\wq none P N rest (az4 Q) F w) (wp_mono (wpIn_wide.1 (h a ha)) ?_) ?_
 ·rintro e a' w' ⟨F',hF,hq⟩
  cases e <;> exact⟨F',hF,hq⟩
 ·rintro l a' w' ⟨F',hF,rest,hf,hr⟩
  refine⟨rest,hf,wp_mono (wpIn_wide.1 (hr a' hF)) ?_⟩
  rintro e a'' w'' ⟨F'',hF'',hq⟩
  cases e <;> first|exact⟨F'',hF'',hq⟩|exact hq.elim
theorem Nr{l:Nat}(h:Q (.goto l) F w):wq ro P N (.goto l) Q F w:=fun _ ha=>wpIn_goto ⟨F,ha,h⟩
theorem Mi{next:(Nat->Value)->World->Prop}{l:Nat}(h:Q (.goto l) F w):Ug next Q (.goto l) F w:=h
theorem Sd{id l:Nat}(h:Q (.goto l) F w):inP id Q (.goto l) F w:=h
theorem O0{J:Nat->(Nat->Value)->World->Prop}(h:Q .ret F w):azz J Q .ret F w:=h
theorem MM{J:Nat->(Nat->Value)->World->Prop}{l:Nat}(h:J l F w):azz J Q (.goto l) F w:=h
theorem M2(h:Q .ret F w):az4 Q .ret F w:=h
end
def U8(w:World)(p:Nat)(b:Nat->Int):Prop:=∃ t f,w.heap[p]? = some (.cells (L6 16 b).toArray t f)
theorem U8.all{S:Nat->Prop}{w w':World}{p:Nat}{b:Nat->Int}(h:U8 w p b)(k:KM S w w')(hn:¬ S p):U8 w' p b:=by
 obtain⟨t,f,h⟩:=h;exact⟨t,f,k.at h hn⟩
theorem U8.lt{w:World}{p:Nat}{b:Nat->Int}(h:U8 w p b):p<w.heap.size:=by obtain⟨t,f,h⟩:=h;exact MG h
theorem U8.cell{w:World}{p:Nat}{b:Nat->Int}(h:U8 w p b){i:Nat}(hi:i<16):w.cell? ⟨p,i,none⟩=some (.int .i64 (b i)):=by
 obtain⟨t,f,h⟩:=h
 rw[Mq h,List.getElem?_toArray];exact Rm hi
end Go.Proofs.YtknjpdcpmpfklaaGreatDoor
set_option maxRecDepth 100000
namespace Go.Proofs.YtknjpdcpmpfklaaGreatDoor
open Go.RowKit
def UU:List Nat->World->World
 | [],w=>w
 | D::ms,w=>UU ms (w.putObj D (.deferred none))
def X2:List Nat->World->Prop
 | [],_=>True
 | D::ms,w=>w.heap[D]? = some (.deferred (some []))/\X2 ms (w.putObj D (.deferred none))
def aC8(P:Program)(fn:Func)(N:Nat)(R:Ending->World->Prop):(Exit->(Nat->Value)->World->Prop)
 | .normal,F,w | .ret,F,w=>∃ ms,F N=Oi ms/\X2 ms w/\∀ a,Fr N F a->∃ v,(results fn a.tmps).run P (UU ms w) = .ok v (UU ms w)/\R (.returned v) (UU ms w)
 | _,_,_=>False
theorem Wv{P:Program}{fn:Func}{tmps:Array Value}{R:Ending->World->Prop}:∀ (ms:List Nat) (w:World),X2 ms w->(∃ v,(results fn tmps).run P (UU ms w) = .ok v (UU ms w)/\R (.returned v) (UU ms w)) →
  LeavesInM Fence.wide 0 P fn tmps R (ms.map fun D=>{ target:=.collected D,args:=#[] }) .returning w:=by
 intro ms
 induction ms with
 | nil =>
  intro w _ h
  exact h
 | cons D ms ih =>
  intro w ho h
  exact⟨by simp,.inl ⟨D,_,rfl,run_takeDeferred ho.1,ih _ ho.2 h⟩⟩
theorem XL {P : Program} {f : FuncId} {fn : Func} {c : Code} {args : List Value} {w : World} {R : Ending → World → Prop} (N : Nat) (hf : P.funcs[f]? = some fn) (hb : fn.body = some c) (hn : fn.ntmps = N) (hl : args.length ≤ N)
    (h : wq none P N c (aC8 P fn N R) (XB args) w) : Calls P f args.toArray w R := by
  refine callsIn_wide (n := 0).1 ?_
  refine callsIn_of_wp_marks hf hb trivial ?_
  subst hn
  have hs : (args.toArray ++ Array.replicate (fn.ntmps - args.toArray.size) undef).size = fn.ntmps := by simp; omega
  have hu : XB args fn.ntmps = undef := by
    unfold XB
    rw [List.getD_eq_getElem?_getD, List.getElem?_eq_none hl]; rfl
  refine wpIn_mono (h _ ⟨hs, by rw [hu]; rfl, fun t _ => ?_⟩) ?_
  · unfold XB
    simp only [Array.getD_eq_getD_getElem?, List.getD_eq_getElem?_getD]
    by_cases h1 : t < args.length
    · rw [Array.getElem?_append_left (by simpa using h1)]; simp
    · rw [Array.getElem?_append_right (by simp; omega), List.getElem?_eq_none (by omega)]
      by_cases h2 : t < fn.ntmps
      · rw [Array.getElem?_replicate]; split <;> rfl
      · rw [Array.getElem?_eq_none (by simp; omega)]
  · rintro e a' w' ⟨F', hF, hq⟩
    cases e <;> first
      | (obtain ⟨ms, hm, ho, hr⟩ := hq
         show LeavesInM Fence.wide 0 P fn a'.tmps R a'.defers .returning w'
         rw [hF.defers, hm, TS, Sv]
         exact Wv ms w' ho (hr a' hF))
      | exact hq.elim
end Go.Proofs.YtknjpdcpmpfklaaGreatDoor
set_option maxRecDepth 100000
namespace Go.Proofs.YtknjpdcpmpfklaaGreatDoor
open Go.RowKit
theorem aBf(F:Nat->Value)(d:Nat)(v:Value):up F d v d=v:=by
 unfold up
 cases hb:Nat.beq d d with
 | true=>rfl
 | false=>exact absurd rfl (Nat.ne_of_beq_eq_false hb)
theorem aAd(F:Nat->Value)(d:Nat)(v:Value){t:Nat}(h:t≠d):up F d v t=F t:=by
 unfold up
 cases hb:Nat.beq t d with
 | false=>rfl
 | true=>exact absurd (Nat.eq_of_beq_eq_true hb) h
theorem Fr.last{N:Nat}{F:Nat->Value}{a:Act}(h:Fr N F a)(v:Value)(ds:List Deferred)(hd:ds=TS v):Fr N (up F N v) { tmps:=a.tmps,defers:=ds }:=by
 refine⟨h.size,?_,fun t ht=>?_⟩
 ·show ds=TS (up F N v N)
  rw[aBf,hd]
 ·have hlt:t<N:=by simpa [Nat.blt_eq] using ht
  show a.tmps.getD t undef=up F N v t
  rw[aAd F N v (Nat.ne_of_lt hlt)]
  exact h.at' t ht
theorem Fr.mark{N:Nat}{F:Nat->Value}{a:Act}(h:Fr N F a)(D:Nat):Fr N (up F N (Oi (D::Oa (F N)))) { a with defers:={ target:=.collected D,args:=#[] }::a.defers }:=by
 refine h.last _ _ ?_
 rw[h.defers]
 unfold TS
 rw[Sv];rfl
theorem Fr.rounds{N:Nat}:∀ (l:List (Tmp×Value)) (F:Nat->Value) (a:Act),Fr N F a->(l.all fun p=>Nat.blt p.1 N)=true->Fr N (l.foldl (fun F p=>up F p.1 p.2) F) { tmps:=l.foldl (fun t p=>t.setIfInBounds p.1 p.2) a.tmps,defers:=a.defers }:=by
 intro l
 induction l with
 | nil=>intro F a h _;exact h
 | cons p l ih =>
  intro F a h hl
  simp only[List.all_cons,Bool.and_eq_true] at hl
  exact ih (up F p.1 p.2) (a.put (some p.1) p.2) (h.put (d:=some p.1) hl.1 p.2) hl.2
def aBR(N:Nat)(F:Nat->Value)(l:List (Tmp×Value)):Nat->Value:=l.foldl (fun F p=>up F p.1 p.2) (up F N undef)
theorem aBK{N:Nat}:∀ (pl:List Tmp) (vs:List Value),(pl.all fun p=>Nat.blt p N)=true->((pl.zip vs).all fun p=>Nat.blt p.1 N)=true:=by
 intro pl
 induction pl with
 | nil=>intro vs _;simp
 | cons p pl ih =>
  intro vs h
  cases vs with
  | nil=>simp
  | cons v vs =>
   simp only[List.all_cons,Bool.and_eq_true] at h
   simp only[List.zip_cons_cons,List.all_cons,Bool.and_eq_true]
   exact⟨h.1,ih vs h.2⟩
section
variable {P:Program} {N:Nat} {Q:(Exit->(Nat->Value)->World->Prop)} {F:Nat->Value} {w:World}
theorem azg{ops:Array Oper}{o:Oper}{rest:List Oper}{R:Ending->World->Prop}{l:Nat}{c:Call}{cx:Operand}{xs:List Operand}{vs:List Value}(hg:o.guard=none)(hd:Ou N o.dst=true)(ho:o.op = .call c)(hc:c.callee = .value cx)(hcx:ev (MK N F) cx = .func (.yield l) #[] #[])
  (hx:c.args=xs.toArray) (hv:xs.map (ev (MK N F))=vs) (hY:YieldAt Fence.wide 0 P l vs.toArray w R)
  (h:∀ e w',R e w'->∃ v,e = .returned v/\wl (some 0) P N ops Q rest (OI F o.dst v) w'):wl (some 0) P N ops Q (o::rest) F w:=by
 intro a ha
 show wpListIn Fence.wide 0 P ops (Fp N Q) (o::rest) a w
 refine wpListIn_step fun K hK=>?_
 rw[if_pos (by unfold Region.wanted;rw[hg])]
 refine⟨fun f _=>trivial,?_⟩
 have hnd:∀ c,o.op ≠ .defer c:=fun c' e=>by rw[ho] at e;cases e
 rw[Oper.semAt_eq _ _ _ hnd]
 obtain⟨cl,ars,ts⟩:=c
 simp only at hc hx
 subst hc;subst hx;subst hv
 obtain⟨fn,tmps,assign,body,hy,hR⟩:=hY
 have e:(execOp a.eval o).run P w = .ok (.round l fn tmps assign body) w:=by
  rw[ha.eval,← hy]
  simp[execOp,ho,resolve,hcx,Deferred.ofValue,invoke]
 rw[e]
 refine⟨fun e=>(by cases e),hR.mono ?_⟩
 intro e' w' hr
 obtain⟨v,rfl,hk⟩:=h e' w' hr
 exact hK _ _ (hk _ (ha.put hd v))
end
def Jat{α:Type}(w:World)(_U:Nat->Prop)(J:List α->World->Prop)(pre:List α):Prop:=J pre w/\AbidesFrom w.heap.size J
theorem Jat.all{α:Type}{w w':World}{U:Nat->Prop}{J:List α->World->Prop}{pre:List α}(h:Jat w U J pre)(k:KM (fun _=>False) w w')(_:KJ U (fun _=>False)):Jat w' U J pre :=
  ⟨h.2 _ _ _ none h.1 ⟨k.os,k.tape,k.output,k.size,fun i hi _=>k.block i hi id⟩ (fun _ e=>by cases e),
   fun s W W' row hs hg hr=>h.2 s W W' row hs hg (fun r e=>⟨Nat.le_trans k.size (hr r e).1,(hr r e).2⟩)⟩
theorem Jat.next{α:Type}{w w':World}{U:Nat->Prop}{J:List α->World->Prop}{pre xs:List α}(h:Jat w U J pre)(hs:w.heap.size<=w'.heap.size)(hj:J xs w'):Jat w' U J xs :=
 ⟨hj,fun s W W' row hs' hg hr=>h.2 s W W' row hs' hg (fun r e=>⟨Nat.le_trans hs (hr r e).1,(hr r e).2⟩)⟩
def QH(B:Nat)(A:World)(row:Option Nat):Prop:=∀ r,row=some r->B<=r/\∃ o:Obj,A.heap[r]? = some o/\o.isCells=false
def OP(A:World)(T:Nat->Prop):Prop:=∀ i,T i->∃ o:Obj,A.heap[i]? = some o/\o.isCells=true
theorem Pv{A B:World}{row:Option Nat}(hg:A.grownBy B row):KM (fun k=>some k=row) A B:=⟨hg.os,hg.tape,hg.output,hg.size,fun k hk hn=>hg.block k hk hn⟩
theorem OP.apart{A:World}{T:Nat->Prop}{row:Option Nat}{n:Nat}(h:OP A T)(hr:QH n A row):KJ T (fun k=>some k=row):=fun i hi e=>by
 obtain⟨o,ho,hc⟩:=h i hi
 obtain⟨_,o',ho',hc'⟩:=hr i e.symm
 rw[ho] at ho';cases ho';rw[hc] at hc';cases hc'
theorem KM.row{S:Nat->Prop}{w0 A B:World}{row:Option Nat}{n:Nat}(h:KM S w0 A)(hg:A.grownBy B row)(hr:QH n A row)(hn:w0.heap.size<=n):KM S w0 B:=h.grown hg (fun k e hk=>absurd (hr k e).1 (by omega))
theorem OP.keeps{W W':World}{S:Nat->Prop}(hc:OP W S)(k:KM S W W')(B:Nat):KeepsFrom B W W':=⟨k.size,fun i o _ hi ho=>by
 have hlt:=(Array.getElem?_eq_some_iff.1 hi).1
 refine(k.block i hlt fun hs=>?_).trans hi
 obtain⟨o',h1,h2⟩:=hc i hs
 rw[hi] at h1;cases h1;rw[ho] at h2;cases h2⟩
theorem OP.no{A:World}:OP A (fun _=>False):=fun _ h=>h.elim
theorem Ss{A:World}{p:Nat}{c:Array Value}{t:TypeId}{z:Nat×Nat}(h:A.heap[p]? = some (.cells c t z)):OP A (Le p):=fun i hi=>by
 cases hi;exact⟨_,h,rfl⟩
theorem PH.cells{w:World}{p:Nat}{t:TypeId}{v:Value}(h:PH w p t v):OP w (Le p):=Ss h
theorem PH.row{A B:World}{row:Option Nat}{n p:Nat}{t:TypeId}{v:Value}(h:PH A p t v)(hg:A.grownBy B row)(hr:QH n A row):PH B p t v:=h.all (Pv hg) (h.cells.apart hr p rfl)
def UH(w:World)(D:Nat):Prop:=w.heap[D]? = some (.deferred (some []))
theorem UH.all{S:Nat->Prop}{w w':World}{D:Nat}(h:UH w D)(k:KM S w w')(hn:¬ S D):UH w' D:=k.at h hn
theorem UH.apart{w:World}{D:Nat}{T:Nat->Prop}(h:UH w D)(hc:OP w T):KJ (Le D) T:=fun i hi ht=>by
 cases hi
 obtain⟨o,ho,hx⟩:=hc _ ht
 rw[show w.heap[D]? = _ from h] at ho;cases ho;cases hx
theorem Q3(w:World)(D:Nat):KM (Le D) w (UU [D] w):=(KM.refl (Le D) w).grown (grownBy_putObj' w D _) (fun k e _=>by cases e;rfl)
theorem UH.opens{w:World}{D:Nat}(h:UH w D):X2 [D] w:=⟨h,trivial⟩
end Go.Proofs.YtknjpdcpmpfklaaGreatDoor
set_option maxRecDepth 100000
namespace Go.Proofs.YtknjpdcpmpfklaaGreatDoor
open Go.RowKit
def Mu(w:World)(p:Nat)(t:TypeId)(vs:List Value):Prop:=w.heap[p]? = some (.cells vs.toArray t (0,0))
theorem Mu.all{S:Nat->Prop}{w w':World}{p:Nat}{t:TypeId}{vs:List Value}(h:Mu w p t vs)(k:KM S w w')(hn:¬ S p):Mu w' p t vs:=k.at h hn
theorem Mu.lt{w:World}{p:Nat}{t:TypeId}{vs:List Value}(h:Mu w p t vs):p<w.heap.size:=MG h
instance {w w':World} {p:Nat} {t:TypeId} {vs:List Value}:Cr w w' (Mu w p t vs) (Mu w' p t vs):=⟨fun h k=>h.all k id⟩
instance {w:World} {p:Nat} {t:TypeId} {vs:List Value}:Lv w (Mu w p t vs) (Le p):=⟨fun h=>LR h.lt⟩
theorem Mu.cells{w:World}{p:Nat}{t:TypeId}{vs:List Value}(h:Mu w p t vs):OP w (Le p):=Ss h
theorem Mu.row{A B:World}{row:Option Nat}{n p:Nat}{t:TypeId}{vs:List Value}(h:Mu A p t vs)(hg:A.grownBy B row)(hr:QH n A row):Mu B p t vs:=h.all (Pv hg) (h.cells.apart hr p rfl)
theorem Mu.cell{w:World}{p:Nat}{t:TypeId}{vs:List Value}{i:Nat}{v:Value}(h:Mu w p t vs)(hi:vs[i]? = some v):w.cell? ⟨p,i,none⟩=some v:=by
 rw[Mq h];simpa using hi
theorem Mu.set{w:World}{p:Nat}{t:TypeId}{vs:List Value}(h:Mu w p t vs)(k:Nat)(v:Value):Mu (w.setCell ⟨p,k,none⟩ v) p t (vs.set k v):=by
 unfold Mu at *
 simp[World.setCell,Array.getElem?_modify,h]
def Qs(P:Program)(ty:TypeId)(n:Nat):Prop:=∃ d,P.underlying ty=some d/\d.isRow=true/\(P.info? ty).map (·.size)=some n
def Rr(vs:List Value):Prop:=∀ v∈vs,v.oneCell'=true
theorem MC:Rr []:=fun _ h=>by cases h
theorem KX{v:Value}{vs:List Value}(h:v.oneCell'=true)(k:Rr vs):Rr (v::vs):=fun x hx=>by
 rcases List.mem_cons.1 hx with rfl|hx
 ·exact h
 ·exact k x hx
theorem L7.oneC{w:World}{T:Nat->Prop}{v:Value}{l:List Nat}(h:L7 w T v l):oneC v=true:=by
 obtain⟨⟨a,cap,rfl,_⟩,_⟩:=h;rfl
theorem L7.one{w:World}{T:Nat->Prop}{v:Value}{l:List Nat}(h:L7 w T v l):v.oneCell'=true:=by
 obtain⟨⟨a,cap,rfl,_⟩,_⟩:=h;rfl
section
variable {ro:Option Nat} {P:Program} {N:Nat} {Q:(Exit->(Nat->Value)->World->Prop)} {F:Nat->Value} {w:World} {o:Oper}
theorem Lt{ops:Array Oper}{rest:List Oper}{t:TypeId}{x:Operand}{vs:List Value}(hg:o.guard=none)(hd:Ou N o.dst=true)(ho:o.op = .box t x)(hx:ev (MK N F) x = .agg vs.toArray)
  (h:∀ p w',Mu w' p t vs->KP w L8 (Le p)->KM (fun _=>False) w w'->wl ro P N ops Q rest (OI F o.dst (.pointer (some ⟨p,0,none⟩))) w'):wl ro P N ops Q (o::rest) F w :=
 Nq hg hd (N2 (v:=.pointer (some ⟨w.heap.size,0,none⟩)) (w':=w.alloc (.cells vs.toArray t)) (by simp[execOp,ho,hx,go_sem]) (h _ _ (heap_alloc_new w _) (LS (Nat.le_refl _)) ((KM.refl _ _).alloc _)))
theorem LF{ops:Array Oper}{rest:List Oper}{t:TypeId}{n:Nat}{vs:List Value}(hg:o.guard=none)(hd:Ou N o.dst=true)(ho:o.op = .alloc t)(hi:(P.info? t).map (fun i=>(i.zero,i.size))=some (some (.agg vs.toArray),n))
  (h:∀ p w',Mu w' p t vs->KP w L8 (Le p)->KM (fun _=>False) w w'->wl ro P N ops Q rest (OI F o.dst (.pointer (some ⟨p,0,none⟩))) w'):wl ro P N ops Q (o::rest) F w :=
 Nq hg hd (N2 (v:=.pointer (some ⟨w.heap.size,0,none⟩)) (w':=w.alloc (.cells vs.toArray t)) (by simp[execOp,ho,(zero_of_info hi).1,go_sem]) (h _ _ (heap_alloc_new w _) (LS (Nat.le_refl _)) ((KM.refl _ _).alloc _)))
theorem Lh{ops:Array Oper}{rest:List Oper}{ty t:TypeId}{x y:Operand}{p:Nat}{vs us:List Value}(hT:Qs P ty us.length)(hg:o.guard=none)(hdn:o.dst=none)(ho:o.op = .store ty x y)(hx:ev (MK N F) x = .pointer (some ⟨p,0,none⟩))(hy:ev (MK N F) y = .agg us.toArray)(hB:Mu w p t vs)(hl:vs.length=us.length)(h1:Rr us)
  (h:∀ w',Mu w' p t us->KM (fun k=>k=p) w w'->wl ro P N ops Q rest F w'):wl ro P N ops Q (o::rest) F w:=by
 obtain⟨d,_,_,hsz⟩:=hT
 refine Nq hg (by rw[hdn];rfl) (Py ty x y ho p _ us.toArray t hx hy hB (by simpa using hl) (by rw[List.size_toArray];exact hsz) (all_oneCell_toArray h1) fun w' hw hk=>?_)
 rw[hdn]
 exact h w' hw hk
theorem OJ{ops:Array Oper}{rest:List Oper}{ty t:TypeId}{x y:Operand}{p k:Nat}{v u:Value}{vs:List Value}(hg:o.guard=none)(hdn:o.dst=none)(ho:o.op = .store ty x y)(hx:ev (MK N F) x = .pointer (some ⟨p,k,none⟩))(hy:ev (MK N F) y=v)(hB:Mu w p t vs)(hk:vs[k]? = some u)(hv:oneC v=true)
  (hs:(P.info? ty).map (·.size)=some 1)
  (h:∀ w',Mu w' p t (vs.set k v)->KM (fun k=>k=p) w w'->wl ro P N ops Q rest F w'):wl ro P N ops Q (o::rest) F w:=by
 have hc:=hB.cell hk
 have hf:w.frozen? ⟨p,k,none⟩=false:=MX hB
 cases hq:P.info? ty with
 | none=>simp[hq] at hs
 | some i =>
  have hs':i.size=1:=by simpa [hq] using hs
  refine Nq hg (by rw[hdn];rfl) ?_
  have e:(execOp (ev (MK N F)) o).run P w = .ok .skip (w.setCell ⟨p,k,none⟩ v)\/(execOp (ev (MK N F)) o).run P w = .ok (.value undef) (w.setCell ⟨p,k,none⟩ v):=by
   cases v <;> first
    | (simp[oneC] at hv;done)
    | simp[execOp,ho,hx,hy,Instr.storeAt,Instr.sureAddr,storeVar,sizeOf,typeInfo,hq,hs',Value.cells,hc,hf,go_sem]
  unfold Lg
  rw[hdn]
  rcases e with e|e <;> rw[e] <;> exact h _ (hB.set k v) ((KM.refl (fun k=>k=p) w).setCell ⟨p,k,none⟩ (fun _=>rfl) _)
end
section
variable {P:Program} {ρ:Operand->Value} {o:Oper} {w:World} {R:Value->World->Prop}
theorem KU{ty t:TypeId}{x:Operand}{p:Nat}{vs:List Value}(hT:Qs P ty vs.length)(ho:o.op = .load ty x)(hx:ρ x = .pointer (some ⟨p,0,none⟩))(hB:Mu w p t vs)(h:R (.agg vs.toArray) w):Lg P ρ o w R:=by
 obtain⟨d,hu,hd,hs⟩:=hT
 exact SK ho p hx _ t (0,0) d hB hu hd (by rw[List.size_toArray];exact hs) h
theorem KR{ty t:TypeId}{x:Operand}{p k:Nat}{vs:List Value}{v:Value}{d:TypeDesc}(ho:o.op = .load ty x)(hx:ρ x = .pointer (some ⟨p,k,none⟩))(hu:P.underlying ty=some d)(hB:Mu w p t vs)(hk:vs[k]? = some v)(hd:TY d=true)(h:R v w):Lg P ρ o w R:=Yc ho hx hu hd (hB.cell hk) h
theorem MJ{N:Nat}{F:Nat->Value}{p:Tmp}{ty t:TypeId}{q:Nat}{vs:List Value}(hT:Qs P ty vs.length)(ht:Nat.blt p N=true)(hp:F p = .pointer (some ⟨q,0,none⟩))(hB:Mu w q t vs):Sn P N F w (.cell p ty) (.agg vs.toArray):=by
 obtain⟨d,hu,hd,hs⟩:=hT
 exact⟨ht,_,hp,N8 w q t ty _ (0,0) d hB hu hd (by rw[List.size_toArray];exact hs)⟩
theorem O2{N:Nat}{F:Nat->Value}{fn:Func}{p:Tmp}{ty t:TypeId}{q:Nat}{vs:List Value}{E:Ending->World->Prop}(hT:Qs P ty vs.length)(hm:F N=undef)(ht:Nat.blt p N=true)(h:fn.results = #[.cell p ty])(hp:F p = .pointer (some ⟨q,0,none⟩))(hB:Mu w q t vs)(hR:E (.returned (.agg vs.toArray)) w):Xq P fn N E .ret F w:=by
 obtain⟨d,hu,hd,hs⟩:=hT
 exact⟨hm,fun a ha=>⟨_,Re h _ _ q (by rw[ha.at' p ht];exact hp) _ t (0,0) d hB hu hd (by rw[List.size_toArray];exact hs),hR⟩⟩
end
def aC3(I:(Nat->Value)->World->Prop):Exit->(Nat->Value)->World->Prop
 | .normal,F,w=>I F w
 | _,_,_=>False
theorem aB1{l:Option Nat}{P:Program}{N:Nat}{c:Code}{Q:(Exit->(Nat->Value)->World->Prop)}{F:Nat->Value}{w:World}(I:(Nat->Value)->World->Prop)(h:wq l P N c (aC3 I) F w)(k:∀ F' w',I F' w'->Q .normal F' w'):wq l P N c Q F w:=by
 intro a ha
 refine wpIn_mono (h a ha) ?_
 rintro e a' w' ⟨F',hF,hq⟩
 cases e <;> first|exact⟨F',hF,k F' w' hq⟩|exact hq.elim
def wqr(l:Option Nat)(P:Program)(N:Nat)(c:Code)(Q:(Exit->(Nat->Value)->World->Prop)):Nat->(Nat->Value)->World->Prop
 | 0,_,_=>False
 | m+1,F,w=>wq l P N c (Ug (wqr l P N c Q m) Q) F w
theorem Mb{l:Option Nat}{P:Program}{N:Nat}{c:Code}{Q:(Exit->(Nat->Value)->World->Prop)}{m:Nat}{F:Nat->Value}{w:World}(h:wq l P N c (Ug (wqr l P N c Q m) Q) F w):wqr l P N c Q (m+1) F w:=h
theorem Yy{l:Option Nat}{P:Program}{N:Nat}{c:Code}{Q:(Exit->(Nat->Value)->World->Prop)}:∀ (m:Nat) (F:Nat->Value) (w:World) (a:Act),Fr N F a->wqr l P N c Q m F w->Code.roundsIn (VV l) 0 P c (Fp N Q) m a w:=by
 intro m
 induction m with
 | zero=>intro F w a _ h;exact h.elim
 | succ m ih =>
  intro F w a ha h
  refine wpIn_mono (h a ha) ?_
  rintro e a' w' ⟨F',hF,hq⟩
  cases e with
  | normal=>exact ih F' w' a' hF hq
  | _=>exact⟨F',hF,hq⟩
theorem Ot{l:Option Nat}{P:Program}{N:Nat}{c:Code}{Q:(Exit->(Nat->Value)->World->Prop)}{F:Nat->Value}{w:World}(m:Nat)(h:wqr l P N c Q m F w):wq l P N (.loop c) Q F w :=
 fun a ha=>wpIn_loop_rounds m (Yy m F w a ha h)
end Go.Proofs.YtknjpdcpmpfklaaGreatDoor
set_option maxRecDepth 100000
namespace Go.Proofs.YtknjpdcpmpfklaaGreatDoor
open Go.RowKit
theorem L7.row{A B:World}{row:Option Nat}{n:Nat}{T:Nat->Prop}{v:Value}{l:List Nat}(h:L7 A T v l)(hg:A.grownBy B row)(hr:QH n A row):L7 B T v l:=by
 obtain⟨⟨a,cap,rfl,h1,h2,h3,hl,hc⟩,hL,hT⟩:=h
 have k:=Pv hg
 refine⟨⟨a,cap,rfl,h1,h2,h3,hl,fun hpos=>?_⟩,hL.mono k,hT⟩
 obtain⟨b,off,rfl,hb,hcell⟩:=hc hpos
 refine⟨b,off,rfl,Nat.lt_of_lt_of_le hb k.size,fun i hi=>(World.cell?_of_block (k.block b hb fun e=>?_)).trans (hcell i hi)⟩
 obtain⟨_,o,ho,hn⟩:=hr b e.symm
 have:=hcell 0 hpos
 unfold World.cell? at this
 simp only at this
 rw[ho] at this
 cases o <;> simp_all [Obj.isCells]
theorem UH.far{w:World}{D:Nat}{T:Nat->Prop}(hd:w.heap.size<=D)(hL:Pa w T):KJ (Le D) T:=fun i hi ht=>by
 cases hi
 exact absurd (hL _ ht) (by omega)
def asP(B:Nat)(Kp:World->World->Prop)(I:World->Prop)(Ax:(Nat->Value)->World->Prop)(W:World):Exit->(Nat->Value)->World->Prop
 | .normal,F,W'=>KeepsFrom B W W'/\Kp W W'/\I W'/\Ax F W'
 | _,_,_=>False
def aCG(B:Nat)(Kp:World->World->Prop)(J Jx:World->Prop)(W:World):Exit->(Nat->Value)->World->Prop
 | .normal,_,W'=>KeepsFrom B W W'/\Kp W W'/\J W'
 | .ret,_,W'=>KeepsFrom B W W'/\Jx W'
 | _,_,_=>False
def aBS{α:Type}(Ix:List α->World->Prop):Code->List α->World->Prop
 | .ret,pre,W=>Ix pre W
 | _,_,_=>False
theorem Z3{α:Type}{B:Nat}{Ix:List α->World->Prop}(h:OwnFrom B Ix):∀ c,OwnFrom B (aBS Ix c):=by
 intro c s W W' row hs hg hr
 cases c <;> first|exact h s W W' row hs hg hr|exact hs.elim
section
variable {P:Program} {fn:Func} {N:Nat} {R:Ending->World->Prop} {F:Nat->Value} {w:World}
theorem Oo{p:Tmp}{ty t:TypeId}{q:Nat}{v:Value}{d:TypeDesc}(hu:P.underlying ty=some d)(hd:TY d=true)(ht:Nat.blt p N=true)(hp:F p = .pointer (some ⟨q,0,none⟩))(hB:PH w q t v):Sn P N F w (.cell p ty) v:=by
 refine⟨ht,_,hp,?_⟩
 have hc:=hB.cell
 cases d <;> simp[TY] at hd <;> simp[loadVar,isAgg,run_underlying hu,hc,go_sem]
theorem Rk{ms:List Nat}{r1 r2:ResultVar}{v1 v2:Value}(hm:F N=Oi ms)(ho:X2 ms w)(h:fn.results = #[r1,r2])(h1:Sn P N F (UU ms w) r1 v1)(h2:Sn P N F (UU ms w) r2 v2)
  (hR:R (.returned (.tuple #[v1,v2])) (UU ms w)):aC8 P fn N R .ret F w:=by
 refine⟨ms,hm,ho,fun a ha=>⟨_,?_,hR⟩⟩
 cases r1 <;> cases r2 <;> simp only[Sn] at h1 h2
 ·obtain⟨b1,h1⟩:=h1;obtain⟨b2,h2⟩:=h2
  rw[← ha.at' _ b1] at h1;rw[← ha.at' _ b2] at h2
  simp[results,h] at *;simp[h1,h2]
 ·obtain⟨b1,h1⟩:=h1;obtain⟨b2,ad,e,hl⟩:=h2
  rw[← ha.at' _ b1] at h1;rw[← ha.at' _ b2] at e
  simp[results,h] at *;simp[h1,e,asAddr,hl]
 ·obtain⟨b1,ad,e,hl⟩:=h1;obtain⟨b2,h2⟩:=h2
  rw[← ha.at' _ b1] at e;rw[← ha.at' _ b2] at h2
  simp[results,h] at *;simp[h2,e,asAddr,hl]
 ·obtain⟨b1,ad,e,hl⟩:=h1;obtain⟨b2,ad2,e2,hl2⟩:=h2
  rw[← ha.at' _ b1] at e;rw[← ha.at' _ b2] at e2
  simp[results,h] at *;simp[e,e2,asAddr,hl,hl2]
end
theorem P8{P:Program}{ρ:Operand->Value}{o:Oper}{w:World}{R:Value->World->Prop}{ty t:TypeId}{x y:Operand}{p:Nat}{vs us:List Value}(hT:Qs P ty us.length)(ho:o.op = .store ty x y)(hx:ρ x = .pointer (some ⟨p,0,none⟩))(hy:ρ y = .agg us.toArray)(hB:Mu w p t vs)(hl:vs.length=us.length)(h1:Rr us)
  (h:∀ w',Mu w' p t us->KM (fun k=>k=p) w w'->R undef w'):Lg P ρ o w R:=by
 obtain⟨d,_,_,hsz⟩:=hT
 exact Py ty x y ho p _ us.toArray t hx hy hB (by simpa using hl) (by rw[List.size_toArray];exact hsz) (all_oneCell_toArray h1) fun w' hw hk=>h w' hw hk
section
variable {P:Program} {ρ:Operand->Value} {o:Oper} {w:World} {R:Value->World->Prop}
theorem Yk{t t':TypeId}{k k':IntKind}{x y:Operand}{m r:Int}(n:Nat)(ho:o.op = .binOp .shl t x y t')(hx:ρ x = .int k m)(hy:ρ y = .int k' (n:Int))(hr:k.wrap (m*2 ^ min n k.bits)=r)(h:R (.int k r) w):Lg P ρ o w R :=
 N2 (v:=.int k (k.wrap (m*2 ^ min n k.bits))) (w':=w) (by
  have h0:(0:Int)<=(n:Int):=by omega
  simp only[execOp,ho,hx,hy,binOp_shl,shift_shl_any k k' m (n:Int) h0,Int.toNat_natCast,eqGuard]
  rfl) (by rw[hr];exact h)
theorem VN{P:Program}{ρ:Operand->Value}{o:Oper}{w:World}{R:Value->World->Prop}{t t':TypeId}{k:IntKind}{x y:Operand}{m n r:Int}(ho:o.op = .binOp .and t x y t')(hx:ρ x = .int k m)(hy:ρ y = .int k n)(hr:bits .and k m n=r)(h:R (.int k r) w):Lg P ρ o w R :=
 N2 (v:=.int k (bits .and k m n)) (w':=w) (by simp[execOp,ho,hx,hy,go_sem]) (by rw[hr];exact h)
end
section
variable {P:Program} {ρ:Operand->Value} {o:Oper} {w:World} {R:Value->World->Prop}
theorem Rp{t t':TypeId}{x y:Operand}{a:Addr}(ho:o.op = .binOp .eql t x y t')(hx:ρ x = .pointer (some a))(hy:ρ y = .pointer none){d:TypeId}(hu:P.underlying t=some (.pointer d))(h:R (.bool false) w):Lg P ρ o w R :=
 N2 (v:=.bool false) (w':=w) (by
  have hq:P.underlying t=some (.pointer (P.pointee t)):=by simp[Program.pointee,hu]
  simp[execOp,ho,hx,hy,run_eql_pointer_nil w t (some a) hq,go_sem]) h
end
end Go.Proofs.YtknjpdcpmpfklaaGreatDoor
set_option maxRecDepth 100000
namespace Go.Proofs.YtknjpdcpmpfklaaGreatDoor
open Go.RowKit
def Of(w:World):Prop:=U8 w 2 az1
theorem Of.all{w w':World}(h:Of w)(k:KM (fun _=>False) w w'):Of w':=U8.all h k id
theorem Of.but{w w':World}{T:Nat->Prop}(h:Of w)(k:KM T w w')(ha:∀ i,T i->2<i):Of w':=U8.all h k (fun x=>absurd (ha _ x) (by decide))
theorem Of.pos{w:World}(h:Of w):2<w.heap.size:=U8.lt h
section
variable {P:Program} {ρ:Operand->Value} {o:Oper} {w:World} {R:Value->World->Prop}
theorem aDf{f:FuncId}{x:Operand}{v:Value}(ho:o.op = .makeFunc (.func f) #[] #[x])(hx:ρ x=v)(h:R (.func (.func f) #[] #[v]) w):Lg P ρ o w R :=
 N2 (v:=.func (.func f) #[] #[v]) (w':=w) (by simp[execOp,ho,hx,show ∀ cap,(Instr.makeFunc (.func f) #[] cap).run P w = .ok (.func (.func f) #[] cap) w from fun _=>rfl]) h
end
theorem W2(n:Int)(w0:World) :
  Calls Tryz.prog 133 #[.int .i64 (n)] w0 fun e w'=>e = .returned (.int .i64 (cl 1048576 n))/\KM (fun _=>False) w0 w':=by
 refine Lp (args:=[iv n]) 6 Tryz.func133 rfl rfl (Nat.le_of_ble_eq_true rfl) ?_
 refine KH (KF (KG (iv 0) rfl rfl (KT rfl rfl rr) (KL ?_)))
 have s3:=K4 (iv n)
 have s4:=K4 (undef)
 refine KE (KH (KF (KS rfl rfl rfl s3 (KG (iv (min n 1048576)) rfl rfl (QL rfl rfl rfl rfl rr) (KG (iv (cl 1048576 n)) rfl rfl (Rh rfl rfl rfl (by unfold cl;omega) rr) (KG (iv (cl 1048576 n)) rfl rfl (KT rfl rfl rr) (KL ?_)))))))
 have s8:=K4 (iv (cl 1048576 n))
 refine KE (La ?_)
 exact Lq (v:=iv (cl 1048576 n)) s4 rfl rfl s8 ⟨rfl,(KM.refl (fun _=>False) w0)⟩
theorem V0{w w':World}(h:Below w.heap.size w w'):KM (fun _=>False) w w':=⟨h.os,h.tape,h.output,h.size,fun k hk _=>h.block k hk⟩
end Go.Proofs.YtknjpdcpmpfklaaGreatDoor
set_option maxRecDepth 100000
namespace Go.Proofs.YtknjpdcpmpfklaaGreatDoor
open Go.ChangeShapes Go.WideShapes Go.ChangeAt Go.RowKit
theorem Tryz.gOrder : Tryz.prog.globalNamed "clapboard/scan.order" = some 2 := by kernel_rfl
theorem Tryz.tOrder:(Tryz.prog.globals[2]?).map (·.type)=some 68:=by kernel_rfl
theorem Tryz.c16o:Tryz.prog.cellsOf 68=16:=by kernel_rfl
theorem ayU{W:World}{f:Nat}{t:TypeId}{n:Nat}{l:List Int}{cs:List Value}{p:List MemPlace}(hu:Tryz.prog.underlying t=some (.array n 3))(hc:Tryz.prog.cellsOf t=n)
  (hd:DataW.trod (fun _=>()) Tryz.prog W 0 (fun _=>true) false f t cs=some (.agg (l.map aAq),p)):cs.length=n:=by
 obtain⟨xs,m,rfl,hx,hl,hn,hel⟩:=DataW.trod_array hu hd
 rw[hc] at hl
 exact hl
theorem V6{W:World}{n:String}{g:Nat}{cs:Array Value}(hg:Tryz.prog.globalNamed n=some g)(h:W.var? Tryz.prog n=some cs):∃ t f,W.heap[g]? = some (.cells cs t f):=by
 simp only[World.var?,hg,Option.bind_some] at h
 cases ho:W.heap[g]? with
 | none=>simp[ho] at h
 | some o =>
  cases o <;> simp[ho] at h
  subst h;exact⟨_,_,rfl⟩
theorem aAh{W : World}{f : Nat}{cs : Array Value}{p : List MemPlace}(hv : World.var? Tryz.prog W "clapboard/scan.order" = some cs)
  (hd:DataW.trod (fun _=>()) Tryz.prog W 0 (fun _=>true) false f 68 cs.toList=some (Rows.laid_clapboard_scan_order,p)):Of W:=by
 have key:=Xa (l:=[0,1,4,8,5,2,3,6,9,12,13,10,7,11,14,15]) Tryz.underlying68 Tryz.c16o hd
 have hlen:=ayU (l:=[0,1,4,8,5,2,3,6,9,12,13,10,7,11,14,15]) Tryz.underlying68 Tryz.c16o hd
 obtain⟨t,fz,hb⟩:=V6 Tryz.gOrder hv
 have e:cs=(L6 16 az1).toArray:=by
  apply Array.ext'
  apply List.ext_getElem?
  intro i
  by_cases hi:i<16
  ·rw[key i hi]
   show _=(L6 16 az1)[i]?
   rw[Rm hi]
   have e2:∀ i,i<16->([0,1,4,8,5,2,3,6,9,12,13,10,7,11,14,15]:List Int).getD i 0=az1 i:=by decide
   rw[e2 i hi]
  ·rw[List.getElem?_eq_none (by omega)]
   show _=(L6 16 az1)[i]?
   rw[List.getElem?_eq_none (by rw[Ol];omega)]
 rw[e] at hb
 exact⟨t,fz,hb⟩
end Go.Proofs.YtknjpdcpmpfklaaGreatDoor
set_option maxRecDepth 100000
namespace Go.Proofs.YtknjpdcpmpfklaaGreatDoor
structure FD where
  W:Int
  H:Int
  p0:List Nat
  p1:List Nat
  p2:List Nat
def FD.none:FD:=⟨0,0,[],[],[]⟩
def FD.pl(f:FD)(p:Int):List Nat:=if p=0 then f.p0 else if p=1 then f.p1 else f.p2
def Mj(n:Int):Bool:=decide (8<=n) && decide (n<=64) && decide (Int.tmod n 8=0)
theorem Mr(n:Int):Mj n=true↔8<=n/\n<=64/\n%8=0:=by
 unfold Mj
 simp only[Bool.and_eq_true,decide_eq_true_eq]
 constructor
 ·rintro ⟨⟨h1,h2⟩,h3⟩;rw[Int.tmod_eq_emod_of_nonneg (by omega)] at h3;exact⟨h1,h2,h3⟩
 ·rintro ⟨h1,h2,h3⟩;refine⟨⟨h1,h2⟩,?_⟩;rw[Int.tmod_eq_emod_of_nonneg (by omega)];exact h3
theorem TT{n:Int}(h:¬ 8<=n):Mj n=false:=by unfold Mj;simp[h]
theorem Sw{n:Int}(h:¬ n<=64):Mj n=false:=by unfold Mj;simp[h]
theorem Tz{n:Int}(h1:8<=n)(h2:n<=64):Mj n=decide (Int.tmod n 8=0):=by unfold Mj;simp[h1,h2]
theorem Oc{w h:Int}(hw:Mj w=true)(hh:Mj h=true):64<=w*h/\w*h<=4096:=by
 rw[Mr] at hw hh
 have h1:8*8<=w*h:=Int.mul_le_mul hw.1 hh.1 (by omega) (by omega)
 have h2:w*h<=64*64:=Int.mul_le_mul hw.2.1 hh.2.1 (by omega) (by omega)
 omega
theorem WE(q n:Nat):Int.tdiv (q:Int) (n:Int)=((q/n:Nat):Int):=by rw[Int.tdiv_eq_ediv_of_nonneg (by omega)];rfl
theorem W5(q n:Nat):Int.tmod (q:Int) (n:Int)=((q%n:Nat):Int):=by rw[Int.tmod_eq_emod_of_nonneg (by omega)];rfl
theorem OX{n:Int}(h:0<=n):Int.tdiv n 2=n/2:=Int.tdiv_eq_ediv_of_nonneg h
theorem X1{n:Int}(h:0<=n):Int.tdiv n 4=n/4:=Int.tdiv_eq_ediv_of_nonneg h
def QO(f:FD):Prop:=Mj f.W=true/\Mj f.H=true/\(f.p0.length:Int)=f.W*f.H/\(f.p1.length:Int)=Int.tdiv (f.W*f.H) 4/\(f.p2.length:Int)=Int.tdiv (f.W*f.H) 4
instance (f:FD):Decidable (QO f):=by unfold QO;infer_instance
theorem aBl{f:FD}(h:QO f):f.p0.length<=4096/\f.p1.length<=1024/\f.p2.length<=1024:=by
 obtain⟨h1,h2,h3,h4,h5⟩:=h
 have ha:=Oc h1 h2
 rw[X1 (by omega)] at h4 h5
 omega
def Np(f:FD):Int:=if QO f then 0 else 70
theorem ayK{f:FD}(h:QO f):Np f=0:=if_pos h
theorem Om{f:FD}(h:¬ QO f):Np f=70:=if_neg h
theorem Mw(f:FD):Np f=0↔QO f:=by
 unfold Np;split <;> simp_all
def Lc(f:FD)(p:Int):Int×Int:=if QO f/\0<=p/\p<=2 then (if p=0 then (f.W,f.H) else (Int.tdiv f.W 2,Int.tdiv f.H 2)) else (0,0)
theorem Pu{f:FD}{p:Int}(h:¬ (QO f/\0<=p/\p<=2)):Lc f p=(0,0):=if_neg h
theorem Um{f:FD}{p:Int}(h:QO f)(hp:p=0):Lc f p=(f.W,f.H):=by
 unfold Lc;rw[if_pos ⟨h,by omega,by omega⟩,if_pos hp]
theorem Ul{f:FD}{p:Int}(h:QO f)(h0:0<=p)(h2:p<=2)(hp:¬ p=0):Lc f p=(Int.tdiv f.W 2,Int.tdiv f.H 2):=by
 unfold Lc;rw[if_pos ⟨h,h0,h2⟩,if_neg hp]
theorem NA{f:FD}{p:Int}(h:(Lc f p).1≠0):QO f/\0<=p/\p<=2:=by
 unfold Lc at h
 split at h
 ·assumption
 ·exact absurd rfl h
theorem Sy{f:FD}{p:Int}(h:(Lc f p).1≠0):p=0\/p=1\/p=2:=by
 have:=NA h;omega
theorem Nm(f:FD)(p:Int):0<=(Lc f p).1/\(Lc f p).1<=64/\0<=(Lc f p).2/\(Lc f p).2<=64:=by
 by_cases h:QO f/\0<=p/\p<=2
 ·have hw:=(Mr _).1 h.1.1
  have hh:=(Mr _).1 h.1.2.1
  unfold Lc;rw[if_pos h]
  split
  ·simp only;omega
  ·simp only;rw[OX (by omega),OX (by omega)];omega
 ·rw[Pu h];simp
theorem Oh{f:FD}{p:Int}(h:QO f/\0<=p/\p<=2):4<=(Lc f p).1/\4<=(Lc f p).2/\(Lc f p).1*(Lc f p).2=((f.pl p).length:Int):=by
 have hw:=(Mr _).1 h.1.1
 have hh:=(Mr _).1 h.1.2.1
 obtain⟨⟨hs1,hs2,h0,h1,h2⟩,hp0,hp2⟩:=h
 have ha:=Oc hs1 hs2
 unfold Lc;rw[if_pos ⟨⟨hs1,hs2,h0,h1,h2⟩,hp0,hp2⟩]
 by_cases hp:p=0
 ·rw[if_pos hp];unfold FD.pl;rw[if_pos hp]
  simp only
  exact⟨by omega,by omega,h0.symm⟩
 ·rw[if_neg hp]
  have hl:((f.pl p).length:Int)=Int.tdiv (f.W*f.H) 4:=by
   unfold FD.pl;rw[if_neg hp];split
   ·exact h1
   ·exact h2
  simp only
  rw[OX (by omega),OX (by omega),hl,X1 (by omega)]
  refine⟨by omega,by omega,?_⟩
  obtain⟨a,hA⟩:∃ a,f.W=2*a:=⟨f.W/2,by omega⟩
  obtain⟨b,hB⟩:∃ b,f.H=2*b:=⟨f.H/2,by omega⟩
  rw[hA,hB,show 2*a/2=a by omega,show 2*b/2=b by omega,show 2*a*(2*b)=4*(a*b) by rw[Int.mul_assoc,Int.mul_left_comm a 2 b,← Int.mul_assoc];rfl]
  omega
def So(f:FD)(p x y:Int):Int:=min (max y 0) ((Lc f p).2-1)*(Lc f p).1+min (max x 0) ((Lc f p).1-1)
theorem Y6{w h x y:Int}(hw:1<=w)(hx:0<=x)(hx2:x<=w-1)(hy:0<=y)(hy2:y<=h-1):0<=y*w/\0<=y*w+x/\y*w+x<w*h:=by
 have h1:0<=y*w:=Int.mul_nonneg hy (by omega)
 have h2:y*w<=(h-1)*w:=Int.mul_le_mul_of_nonneg_right hy2 (by omega)
 have h3:(h-1)*w=w*h-w:=by rw[Int.sub_mul,Int.one_mul,Int.mul_comm]
 omega
theorem Uo{f:FD}{p:Int}(x y:Int)(h:(Lc f p).1≠0):0<=min (max y 0) ((Lc f p).2-1)*(Lc f p).1/\min (max y 0) ((Lc f p).2-1)*(Lc f p).1<=4096/\0<=So f p x y/\So f p x y<((f.pl p).length:Int)/\So f p x y<=8192:=by
 have hs:=NA h
 obtain⟨h1,h2,h3⟩:=Oh hs
 have hb:=Nm f p
 unfold So
 have hc:=Y6 (w:=(Lc f p).1) (h:=(Lc f p).2) (x:=min (max x 0) ((Lc f p).1-1)) (y:=min (max y 0) ((Lc f p).2-1)) (by omega) (by omega) (by omega) (by omega) (by omega)
 have h4:(Lc f p).1*(Lc f p).2<=64*64:=Int.mul_le_mul hb.2.1 hb.2.2.2 hb.2.2.1 (by omega)
 rw[h3] at hc
 omega
def Nt(f:FD)(p x y:Int):Int:=if (Lc f p).1=0 then 0 else (((f.pl p).getD (So f p x y).toNat 0:Nat):Int)
theorem RF{f:FD}{p:Int}(x y:Int)(h:(Lc f p).1=0):Nt f p x y=0:=if_pos h
theorem Yb{f:FD}{p:Int}(x y:Int)(h:(Lc f p).1≠0):Nt f p x y=(((f.pl p).getD (So f p x y).toNat 0:Nat):Int):=if_neg h
def LK(n:Int):Int:=min (max n (-64)) 128
theorem Ui(n:Int) : -64<=LK n/\LK n<=128:=by unfold LK;omega
end Go.Proofs.YtknjpdcpmpfklaaGreatDoor
set_option maxRecDepth 100000
namespace Go.Proofs.YtknjpdcpmpfklaaGreatDoor
def Wf(l m:List Nat):Bool:=(Mh l).toList==(Mh m).toList
def Rx(a b:FD):Bool:=decide (a.W=b.W) && decide (a.H=b.H) && (Wf a.p0 b.p0 && Wf a.p1 b.p1 && Wf a.p2 b.p2)
theorem PW{a b:FD}(h:((Mh a.p0).toList==(Mh b.p0).toList)=false):Rx a b=false:=by unfold Rx Wf;rw[h];simp
theorem PS{a b:FD}(h:((Mh a.p1).toList==(Mh b.p1).toList)=false):Rx a b=false:=by unfold Rx Wf;rw[h];simp
theorem PO{a b:FD}(h:¬ a.W=b.W):Rx a b=false:=by unfold Rx;simp[h]
theorem PQ{a b:FD}(h:¬ a.H=b.H):Rx a b=false:=by unfold Rx;simp[h]
theorem PP{a b:FD}(h0:((Mh a.p0).toList==(Mh b.p0).toList)=true)(h1:((Mh a.p1).toList==(Mh b.p1).toList)=true)(hw:a.W=b.W)(hh:a.H=b.H):Rx a b=((Mh a.p2).toList==(Mh b.p2).toList):=by
 unfold Rx Wf;rw[h0,h1];simp[hw,hh]
def M3(f:FD):Bool:=decide ((f.p0.length:Int)<=10000) && decide ((f.p1.length:Int)<=10000) && decide ((f.p2.length:Int)<=10000)
theorem YK{f:FD}(h:¬ (f.p0.length:Int)<=10000):M3 f=false:=by unfold M3;simp only[decide_eq_false h];rfl
theorem Y5{f:FD}(h:¬ (f.p1.length:Int)<=10000):M3 f=false:=by unfold M3;simp only[decide_eq_false h,Bool.and_false,Bool.false_and]
theorem YY{f:FD}(h0:(f.p0.length:Int)<=10000)(h1:(f.p1.length:Int)<=10000):M3 f=decide ((f.p2.length:Int)<=10000):=by unfold M3;simp only[decide_eq_true h0,decide_eq_true h1,Bool.true_and]
def aDx(l m:List Nat)(s:Int):Nat->Int
 | 0=>s
 | k+1=>max (max (aDx l m s k) (((l.getD k 0:Nat):Int)-((m.getD k 0:Nat):Int))) (-(((l.getD k 0:Nat):Int)-((m.getD k 0:Nat):Int)))
def azB(a b:FD):Prop:=QO a/\QO b/\a.W=b.W/\a.H=b.H
instance (a b:FD):Decidable (azB a b):=by unfold azB;infer_instance
def MS(f:FD):FD:=if QO f then f else FD.none
theorem Nz{f:FD}(h:QO f):MS f=f:=if_pos h
theorem O3{f:FD}(h:¬ QO f):MS f=FD.none:=if_neg h
def FD.setp(f:FD)(p:Int)(j n:Nat):FD:=if p=0 then { f with p0:=f.p0.set j n } else if p=1 then { f with p1:=f.p1.set j n } else { f with p2:=f.p2.set j n }
def LU(n:Int):Nat:=(min (max n 0) 255).toNat
theorem N4(n:Int):LU n<256:=by unfold LU;omega
def N7(w h u v:Int):Prop:=0<=u/\u<w/\0<=v/\v<h
instance (w h u v:Int):Decidable (N7 w h u v):=by unfold N7;infer_instance
def ME(f:FD)(p x y:Int)(b:Nat->Int):Nat->FD
 | 0=>MS f
 | k+1=>if N7 (Lc f p).1 (Lc f p).2 (LK x+((k%4:Nat):Int)) (LK y+((k/4:Nat):Int)) then
   (ME f p x y b k).setp p ((LK y+((k/4:Nat):Int))*(Lc f p).1+(LK x+((k%4:Nat):Int))).toNat (LU (b k))
  else ME f p x y b k
def Qn(f:FD)(p x y:Int)(b:Nat->Int):FD:=ME f p x y b 16
theorem SY{f:FD}{p x y:Int}{b:Nat->Int}{k:Nat}(h:¬ N7 (Lc f p).1 (Lc f p).2 (LK x+((k%4:Nat):Int)) (LK y+((k/4:Nat):Int))):ME f p x y b (k+1)=ME f p x y b k:=by rw[ME,if_neg h]
theorem aCA{f:FD}{p x y:Int}{b:Nat->Int}{k:Nat}(h:N7 (Lc f p).1 (Lc f p).2 (LK x+((k%4:Nat):Int)) (LK y+((k/4:Nat):Int))) :
  ME f p x y b (k+1)=(ME f p x y b k).setp p ((LK y+((k/4:Nat):Int))*(Lc f p).1+(LK x+((k%4:Nat):Int))).toNat (LU (b k)):=by rw[ME,if_pos h]
theorem Z6(f:FD)(p:Int)(j n:Nat):(f.setp p j n).W=f.W/\(f.setp p j n).H=f.H/\(f.setp p j n).p0.length=f.p0.length/\(f.setp p j n).p1.length=f.p1.length/\(f.setp p j n).p2.length=f.p2.length:=by
 unfold FD.setp
 split
 ·simp
 ·split <;> simp
theorem RX(f:FD)(p x y:Int)(b:Nat->Int)(k:Nat):(ME f p x y b k).W=(MS f).W/\(ME f p x y b k).H=(MS f).H/\(ME f p x y b k).p0.length=(MS f).p0.length/\(ME f p x y b k).p1.length=(MS f).p1.length/\(ME f p x y b k).p2.length=(MS f).p2.length:=by
 induction k with
 | zero=>simp[ME]
 | succ k ih =>
  rw[ME]
  split
  ·have h:=Z6 (ME f p x y b k) p ((LK y+((k/4:Nat):Int))*(Lc f p).1+(LK x+((k%4:Nat):Int))).toNat (LU (b k))
   omega
  ·exact ih
theorem Ts{f:FD}{p:Int}(x y:Int)(b:Nat->Int)(k:Nat)(h:(Lc f p).1≠0):(ME f p x y b k).p0.length=f.p0.length/\(ME f p x y b k).p1.length=f.p1.length/\(ME f p x y b k).p2.length=f.p2.length:=by
 have h1:=RX f p x y b k
 rw[Nz (NA h).1] at h1
 exact h1.2.2
theorem ON{f:FD}{p u v:Int}(h:N7 (Lc f p).1 (Lc f p).2 u v):(Lc f p).1≠0/\0<=v*(Lc f p).1/\v*(Lc f p).1<=4096/\0<=v*(Lc f p).1+u/\v*(Lc f p).1+u<((f.pl p).length:Int):=by
 obtain⟨h1,h2,h3,h4⟩:=h
 have hne:(Lc f p).1≠0:=by omega
 obtain⟨_,_,hl⟩:=Oh (NA hne)
 have hb:=Nm f p
 have hc:=Y6 (w:=(Lc f p).1) (h:=(Lc f p).2) (x:=u) (y:=v) (by omega) (by omega) (by omega) (by omega) (by omega)
 have h5:(Lc f p).1*(Lc f p).2<=64*64:=Int.mul_le_mul hb.2.1 hb.2.2.2 hb.2.2.1 (by omega)
 rw[hl] at hc h5
 exact⟨hne,by omega,by omega,by omega,by omega⟩
def pn(n:Nat):Nat->Nat
 | 0=>n
 | _=>n/4
end Go.Proofs.YtknjpdcpmpfklaaGreatDoor
set_option maxRecDepth 100000
namespace Go.Proofs.YtknjpdcpmpfklaaGreatDoor
theorem aBU{f g:FD}(h:QO f)(hw:g.W=f.W)(hh:g.H=f.H)(h0:g.p0.length=f.p0.length)(h1:g.p1.length=f.p1.length)(h2:g.p2.length=f.p2.length):QO g:=by
 obtain⟨a,b,c,d,e⟩:=h
 exact⟨by rw[hw];exact a,by rw[hh];exact b,by rw[hw,hh,h0];exact c,by rw[hw,hh,h1];exact d,by rw[hw,hh,h2];exact e⟩
theorem aB6{f:FD}(h:QO f)(p x y:Int)(b:Nat->Int)(k:Nat):QO (ME f p x y b k):=by
 obtain⟨a1,a2,a3,a4,a5⟩:=RX f p x y b k
 rw[Nz h] at a1 a2 a3 a4 a5
 exact aBU h a1 a2 a3 a4 a5
theorem ay9(l:List Nat)(i q x:Nat):(l.set i x).getD q 0=if i=q/\q<l.length then x else l.getD q 0:=by
 by_cases h:i=q
 ·subst h
  by_cases hl:i<l.length
  ·rw[if_pos ⟨rfl,hl⟩];simp[List.getD,hl]
  ·rw[if_neg (fun h=>hl h.2)];simp[List.getD,hl]
 ·rw[if_neg (fun e=>h e.1)];simp[List.getD,List.getElem?_set_ne h]
structure aCL (f:FD) (k x y:Int):Prop where
  ok:QO f
  k0:0<=k
  k2:k<=2
  x0:0<=x
  x1:x+4<=(Lc f k).1
  y0:0<=y
  y1:y+4<=(Lc f k).2
theorem aA6(f:FD)(p:Int)(j n:Nat)(hp:0<=p)(hp2:p<=2):(f.setp p j n).pl p=(f.pl p).set j n/\∀ q,0<=q->q<=2->q≠p->(f.setp p j n).pl q=f.pl q:=by
 have h3:p=0\/p=1\/p=2:=by omega
 have hq3:∀ q:Int,0<=q->q<=2->q=0\/q=1\/q=2:=by omega
 rcases h3 with rfl|rfl|rfl
 ·refine⟨rfl,fun q h1 h2 h3=>?_⟩
  rcases hq3 q h1 h2 with rfl|rfl|rfl
  ·exact absurd rfl h3
  ·rfl
  ·rfl
 ·refine⟨rfl,fun q h1 h2 h3=>?_⟩
  rcases hq3 q h1 h2 with rfl|rfl|rfl
  ·rfl
  ·exact absurd rfl h3
  ·rfl
 ·refine⟨rfl,fun q h1 h2 h3=>?_⟩
  rcases hq3 q h1 h2 with rfl|rfl|rfl
  ·rfl
  ·rfl
  ·exact absurd rfl h3
end Go.Proofs.YtknjpdcpmpfklaaGreatDoor
set_option maxRecDepth 100000
namespace Go.Proofs.YtknjpdcpmpfklaaGreatDoor
structure U4 (f:FD):Prop where
  b0:∀ x∈f.p0,x<256
  b1:∀ x∈f.p1,x<256
  b2:∀ x∈f.p2,x<256
end Go.Proofs.YtknjpdcpmpfklaaGreatDoor
set_option maxRecDepth 100000
namespace Go.Proofs.YtknjpdcpmpfklaaGreatDoor
def LG(w h:Int)(s:Nat):FD:=if Mj w=true/\Mj h=true then ⟨w,h,List.replicate (w*h).toNat s,List.replicate (w*h/4).toNat s,List.replicate (w*h/4).toNat s⟩ else FD.none
def R7(w h:Int):Int:=if Mj w=true/\Mj h=true then 0 else 70
theorem Q2{w h:Int}(s:Nat)(hw:Mj w=true)(hh:Mj h=true):LG w h s=⟨w,h,List.replicate (w*h).toNat s,List.replicate (w*h/4).toNat s,List.replicate (w*h/4).toNat s⟩:=if_pos ⟨hw,hh⟩
theorem Y8{w h:Int}(s:Nat)(hn:¬ (Mj w=true/\Mj h=true)):LG w h s=FD.none:=if_neg hn
theorem Tv{w h:Int}(hw:Mj w=true)(hh:Mj h=true):R7 w h=0:=if_pos ⟨hw,hh⟩
theorem WK{w h:Int}(hn:¬ (Mj w=true/\Mj h=true)):R7 w h=70:=if_neg hn
theorem YN{w h:Int}(s:Nat)(hw:Mj w=true)(hh:Mj h=true):QO (LG w h s):=by
 rw[Q2 s hw hh]
 have ha:=Oc hw hh
 refine⟨hw,hh,?_,?_,?_⟩
 ·simp only[List.length_replicate];omega
 ·simp only[List.length_replicate];rw[X1 (by omega)];omega
 ·simp only[List.length_replicate];rw[X1 (by omega)];omega
end Go.Proofs.YtknjpdcpmpfklaaGreatDoor
set_option maxRecDepth 100000
namespace Go.Proofs.YtknjpdcpmpfklaaGreatDoor
theorem TZ{f:FD}(hb:U4 f)(p x y:Int):0<=Nt f p x y/\Nt f p x y<=255:=by
 by_cases h:(Lc f p).1=0
 ·rw[RF x y h];omega
 ·rw[Yb x y h]
  have h3:=Sy h
  have:(f.pl p).getD (So f p x y).toNat 0<256:=by
   rcases h3 with rfl|rfl|rfl
   ·exact Uy hb.b0 _
   ·exact Uy hb.b1 _
   ·exact Uy hb.b2 _
  omega
def NY(f:FD)(p x y k:Int):Int:=if y<=0 then 128 else Nt f p (x+k) (y-1)
def O4(f:FD)(p x y i:Int):Int:=if x<=0 then 128 else Nt f p (x-1) (y+i)
theorem az5{f:FD}(hb:U4 f)(p x y k:Int):0<=NY f p x y k/\NY f p x y k<=255:=by
 unfold NY;split
 ·omega
 ·exact TZ hb _ _ _
theorem aBd{f:FD}(hb:U4 f)(p x y k:Int):0<=O4 f p x y k/\O4 f p x y k<=255:=by
 unfold O4;split
 ·omega
 ·exact TZ hb _ _ _
def aAa(f:FD)(p x y:Int):Nat->Int
 | 0=>4
 | k+1=>aAa f p x y k+NY f p x y (k:Nat)+O4 f p x y (k:Nat)
def Xj(f:FD)(p x y mode:Int)(n:Nat):Int :=
 if mode=0 then Int.tdiv (aAa f p x y 4) 8 else if mode=1 then NY f p x y ((n%4:Nat):Int) else if mode=2 then O4 f p x y ((n/4:Nat):Int)
 else Int.tdiv (NY f p x y ((n%4:Nat):Int)+O4 f p x y ((n/4:Nat):Int)+1) 2
theorem aDw{n:Int}(h:0<=n):Int.tdiv n 8=n/8:=Int.tdiv_eq_ediv_of_nonneg h
def MW(f:FD)(p x y:Int):Prop:=QO f/\0<=p/\p<=2/\0<=x/\x<=64/\0<=y/\y<=64
instance (f:FD) (p x y:Int):Decidable (MW f p x y):=by unfold MW;infer_instance
def Ry(f:FD)(p x y mode:Int):Int:=if MW f p x y then (if 0<=mode/\mode<=3 then 0 else 80) else 70
def Vh(f:FD)(p x y mode:Int):Nat->Int:=if MW f p x y/\0<=mode/\mode<=3 then Xj f p x y mode else fun _=>0
theorem NO{f:FD}{p x y mode:Int}(h:¬ MW f p x y):Ry f p x y mode=70/\Vh f p x y mode=fun _=>0:=⟨if_neg h,if_neg (fun x=>h x.1)⟩
theorem MZ{f:FD}{p x y mode:Int}(h:MW f p x y)(hm:¬ (0<=mode/\mode<=3)):Ry f p x y mode=80/\Vh f p x y mode=fun _=>0:=by
 refine⟨?_,if_neg (fun x=>hm x.2)⟩
 unfold Ry;rw[if_pos h,if_neg hm]
theorem Ng{f:FD}{p x y mode:Int}(h:MW f p x y)(hm:0<=mode/\mode<=3):Ry f p x y mode=0/\Vh f p x y mode=Xj f p x y mode:=by
 refine⟨?_,if_pos ⟨h,hm⟩⟩
 unfold Ry;rw[if_pos h,if_pos hm]
end Go.Proofs.YtknjpdcpmpfklaaGreatDoor
set_option maxRecDepth 100000
namespace Go.Proofs.YtknjpdcpmpfklaaGreatDoor
def VU(f:FD)(p u v:Int):Int :=
 if u%2=0/\v%2=0 then Nt f p (u/2) (v/2)
 else if v%2=0 then (Nt f p (u/2) (v/2)+Nt f p ((u+1)/2) (v/2)+1)/2
 else if u%2=0 then (Nt f p (u/2) (v/2)+Nt f p (u/2) ((v+1)/2)+1)/2
 else (Nt f p (u/2) (v/2)+Nt f p ((u+1)/2) (v/2)+Nt f p (u/2) ((v+1)/2)+Nt f p ((u+1)/2) ((v+1)/2)+2)/4
def Yf(n:Int):Int:=min (max n (-256)) 256
def aCx(f:FD)(p x y:Int):Int:=VU f p (Yf x) (Yf y)
theorem VP{f:FD}{p u v:Int}(h1:u%2=0)(h2:v%2=0):VU f p u v=Nt f p (u/2) (v/2):=by unfold VU;rw[if_pos ⟨h1,h2⟩]
theorem U6{f:FD}{p u v:Int}(h1:¬ u%2=0)(h2:v%2=0):VU f p u v=(Nt f p (u/2) (v/2)+Nt f p ((u+1)/2) (v/2)+1)/2:=by
 unfold VU;rw[if_neg (fun h=>h1 h.1),if_pos h2]
theorem Vq{f:FD}{p u v:Int}(h1:u%2=0)(h2:¬ v%2=0):VU f p u v=(Nt f p (u/2) (v/2)+Nt f p (u/2) ((v+1)/2)+1)/2:=by
 unfold VU;rw[if_neg (fun h=>h2 h.2),if_neg h2,if_pos h1]
theorem U9{f:FD}{p u v:Int}(h1:¬ u%2=0)(h2:¬ v%2=0):VU f p u v=(Nt f p (u/2) (v/2)+Nt f p ((u+1)/2) (v/2)+Nt f p (u/2) ((v+1)/2)+Nt f p ((u+1)/2) ((v+1)/2)+2)/4:=by
 unfold VU;rw[if_neg (fun h=>h1 h.1),if_neg h2,if_neg h1]
def Nb(X Y:Int):Prop := -31<=X/\X<=31 ∧ -31<=Y/\Y<=31
instance (X Y:Int):Decidable (Nb X Y):=by unfold Nb;infer_instance
def PB(X Y:Int):Int:=if Nb X Y then 0 else 90
theorem O6{X Y:Int}(h:Nb X Y):PB X Y=0:=if_pos h
theorem NG{X Y:Int}(h:¬ Nb X Y):PB X Y=90:=if_neg h
theorem RS(X Y:Int):PB X Y=0↔Nb X Y:=by unfold PB;split <;> simp_all
def mvN(f:FD)(p x y X Y:Int)(n:Nat):Int:=aCx f p (2*(x+((n%4:Nat):Int))+X) (2*(y+((n/4:Nat):Int))+Y)
def OU(f:FD)(p x y X Y:Int):Int:=if MW f p x y then PB X Y else 70
def Ud(f:FD)(p x y X Y:Int):Nat->Int:=if MW f p x y/\Nb X Y then mvN f p x y X Y else fun _=>0
theorem Qj{f:FD}{p x y X Y:Int}(h:¬ MW f p x y):OU f p x y X Y=70/\Ud f p x y X Y=fun _=>0:=⟨if_neg h,if_neg (fun x=>h x.1)⟩
theorem NZ{f:FD}{p x y X Y:Int}(h:MW f p x y)(hv:¬ Nb X Y):OU f p x y X Y=90/\Ud f p x y X Y=fun _=>0 :=
 ⟨by unfold OU;rw[if_pos h,NG hv],if_neg (fun x=>hv x.2)⟩
theorem OK{f:FD}{p x y X Y:Int}(h:MW f p x y)(hv:Nb X Y):OU f p x y X Y=0/\Ud f p x y X Y=mvN f p x y X Y :=
 ⟨by unfold OU;rw[if_pos h,O6 hv],if_pos ⟨h,hv⟩⟩
def c8(n:Int):Int:=min (max n 0) 255
theorem Zp(n:Int):0<=c8 n/\c8 n<=255:=by unfold c8;omega
def Uq(a b:Nat->Int):Nat->Int:=fun i=>Int.tdiv (c8 (a i)+c8 (b i)+1) 2
theorem aAn(a b:Nat->Int)(i:Nat):Uq a b i=(c8 (a i)+c8 (b i)+1)/2:=by
 have h1:=Zp (a i);have h2:=Zp (b i)
 unfold Uq;rw[OX (by omega)]
def ayQ(n:Int):Int:=min (max n (-100)) 100
end Go.Proofs.YtknjpdcpmpfklaaGreatDoor
set_option maxRecDepth 100000
namespace Go.Proofs.YtknjpdcpmpfklaaGreatDoor
def SF(a b c:Int):Int:=max (min a b) (min (max a b) c)
structure VF where
  w:Int
  h:Int
  X:Int->Int->Int
  Y:Int->Int->Int
def Wj(f:VF)(x y:Int):Prop:=0<=x/\x<f.w/\0<=y/\y<f.h
instance (f:VF) (x y:Int):Decidable (Wj f x y):=by unfold Wj;infer_instance
structure OkV (f:VF):Prop where
  w:1<=f.w/\f.w<=16
  h:1<=f.h/\f.h<=16
  out:∀ x y,¬ Wj f x y->f.X x y=0/\f.Y x y=0
  low:∀ x y,Nb (f.X x y) (f.Y x y)
def NH(w h:Int):Prop:=1<=w/\w<=16/\1<=h/\h<=16
instance (w h:Int):Decidable (NH w h):=by unfold NH;infer_instance
def Qu(w h:Int):VF:=⟨w,h,fun _ _=>0,fun _ _=>0⟩
theorem aBx{w h:Int}(k:NH w h):OkV (Qu w h):=⟨⟨k.1,k.2.1⟩,⟨k.2.2.1,k.2.2.2⟩,fun _ _ _=>⟨rfl,rfl⟩,fun _ _=>by show Nb 0 0;decide⟩
def XY(f:VF)(x y X Y:Int):Int:=if Wj f x y then PB X Y else 1
def azP(f:VF)(x y X Y:Int):VF:=⟨f.w,f.h,fun a b=>if a=x/\b=y then X else f.X a b,fun a b=>if a=x/\b=y then Y else f.Y a b⟩
def TC(f:VF)(x y X Y:Int):VF:=if Wj f x y/\Nb X Y then azP f x y X Y else f
theorem QK{f:VF}{x y X Y:Int}(h:¬ Wj f x y):XY f x y X Y=1/\TC f x y X Y=f:=⟨if_neg h,if_neg fun k=>h k.1⟩
theorem OA{f:VF}{x y X Y:Int}(h:Wj f x y)(hv:¬ Nb X Y):XY f x y X Y=90/\TC f x y X Y=f:=⟨by unfold XY;rw[if_pos h,NG hv],if_neg fun k=>hv k.2⟩
theorem Po{f:VF}{x y X Y:Int}(h:Wj f x y)(hv:Nb X Y):XY f x y X Y=0/\TC f x y X Y=azP f x y X Y:=⟨by unfold XY;rw[if_pos h,O6 hv],if_pos ⟨h,hv⟩⟩
theorem Th{f:VF}(k:OkV f){x y X Y:Int}(h:Wj f x y)(hv:Nb X Y):OkV (azP f x y X Y):=by
 refine⟨k.w,k.h,fun a b hn=>?_,fun a b=>?_⟩
 ·have hn':¬ Wj f a b:=hn
  have:¬ (a=x/\b=y):=fun e=>hn' (by rw[e.1,e.2];exact h)
  show (if a=x/\b=y then X else f.X a b)=0/\(if a=x/\b=y then Y else f.Y a b)=0
  rw[if_neg this,if_neg this];exact k.out a b hn'
 ·show Nb (if a=x/\b=y then X else f.X a b) (if a=x/\b=y then Y else f.Y a b)
  split
  ·exact hv
  ·exact k.low a b
def gX(f:VF)(x y:Int):Int:=SF (f.X (x-1) y) (f.X x (y-1)) (f.X (x+1) (y-1))
def gY(f:VF)(x y:Int):Int:=SF (f.Y (x-1) y) (f.Y x (y-1)) (f.Y (x+1) (y-1))
theorem aDc(n:Int) : -64<=cl 64 n/\cl 64 n<=64:=by unfold cl;omega
def OC(l:List Nat)(s:Option Nat):Int×Option Nat:=Lo (LO l 128) s
def SO(l:List Nat)(gx gy:Int)(s:Option Nat):Prop:=(OC l (OC l s).2).2≠none/\Nb ((OC l s).1+cl 64 gx) ((OC l (OC l s).2).1+cl 64 gy)
instance (l:List Nat) (gx gy:Int) (s:Option Nat):Decidable (SO l gx gy s):=by unfold SO;infer_instance
def RA(l:List Nat)(gx gy:Int)(s:Option Nat):Int:=if SO l gx gy s then (OC l s).1+cl 64 gx else 0
def Rv(l:List Nat)(gx gy:Int)(s:Option Nat):Int:=if SO l gx gy s then (OC l (OC l s).2).1+cl 64 gy else 0
def Qd(l:List Nat)(gx gy:Int)(s:Option Nat):Int:=if SO l gx gy s then 0 else 90
def vrS(l:List Nat)(s:Option Nat):Option Nat:=(OC l (OC l s).2).2
theorem Yn{l:List Nat}{gx gy:Int}{s:Option Nat}(h:SO l gx gy s):RA l gx gy s=(OC l s).1+cl 64 gx/\Rv l gx gy s=(OC l (OC l s).2).1+cl 64 gy/\Qd l gx gy s=0:=⟨if_pos h,if_pos h,if_pos h⟩
theorem ZD{l:List Nat}{gx gy:Int}{s:Option Nat}(h:¬ SO l gx gy s):RA l gx gy s=0/\Rv l gx gy s=0/\Qd l gx gy s=90:=⟨if_neg h,if_neg h,if_neg h⟩
theorem az8(l:List Nat)(s:Option Nat) : -128<=(OC l s).1/\(OC l s).1<=128:=TL l 128 (by omega) s
end Go.Proofs.YtknjpdcpmpfklaaGreatDoor
set_option maxRecDepth 100000
namespace Go.Proofs.YtknjpdcpmpfklaaGreatDoor
open Go.RowKit
def Ra(L:Nat->Bool)(i:Nat):Nat->Bool:=fun j=>if j=i then true else L j
def UN(v:Nat->Value)(i:Nat)(x:Value):Nat->Value:=fun j=>if j=i then x else v j
def ay4(os:List Oper)(t:Tmp)(i:Nat):Bool:=os.all fun o=>o.dst != some t || o.after.toList.any fun e=>Region.binds .any e && e.on==i
def XO(os:List Oper)(P:Program)(D:List (Option Tmp))(J:(Nat->Bool)->(Nat->Value)->World->Prop)(a0:Act)(i:Nat)(o:Oper):Prop :=
 ∀ (L:Nat->Bool) (v:Nat->Value) (a:Act) (w:World),J L v w->L i=false->(∀ e∈o.after.toList,Region.binds .any e=true->L e.on=true) →
  (∀ t,some t∉D->a.eval (.tmp t)=a0.eval (.tmp t))->(∀ j d,L j=true->D[j]? = some (some d)->a.eval (.tmp d)=v j)->(∀ t,ay4 os t i=true->a.eval (.tmp t)=a0.eval (.tmp t)) →
  (PU D o a=true->Lg P a.eval o w (fun x w'=>J (Ra L i) (UN v i x) w'))/\(PU D o a=false->J (Ra L i) (UN v i undef) w)
def QD(os:List Oper)(P:Program)(D:List (Option Tmp))(J:(Nat->Bool)->(Nat->Value)->World->Prop)(a0:Act):Nat->List Oper->Prop
 | _,[]=>True
 | i,o::r=>XO os P D J a0 i o/\QD os P D J a0 (i+1) r
theorem QD.at{all:List Oper}{P:Program}{D:List (Option Tmp)}{J:(Nat->Bool)->(Nat->Value)->World->Prop}{a0:Act}:∀ {i:Nat} {os:List Oper},QD all P D J a0 i os->∀ k o,os[k]? = some o->XO all P D J a0 (i+k) o:=by
 intro i os
 induction os generalizing i with
 | nil=>intro _ k o h;simp at h
 | cons x r ih =>
  intro h k o hk
  cases k with
  | zero=>simp at hk;subst hk;exact h.1
  | succ k =>
   simp at hk
   have:=ih h.2 k o hk
   rwa [show i+1+k=i+(k+1) by omega] at this
structure ZL (ops:Array Oper) (D:List (Option Tmp)) (J:(Nat->Bool)->(Nat->Value)->World->Prop) (a0:Act) (v:Nat->Value) (listed:Array Bool) (a:Act) (w:World):Prop where
  size:a.tmps.size=a0.tmps.size
  ls:listed.size=ops.size
  defers:a.defers=a0.defers
  out:∀ t,(∀ j,listed.getD j false=true->D[j]? ≠ some (some t))->a.tmps.getD t undef=a0.tmps.getD t undef
  here:∀ j d,listed.getD j false=true->D[j]? = some (some d)->a.tmps.getD d undef=v j
  good:J (fun j=>listed.getD j false) v w
  cl:∀ (k:Nat) (o:Oper),ops[k]? = some o->listed.getD k false=true->∀ e∈o.after.toList,Region.binds .any e=true->listed.getD e.on false=true
theorem ZZ{P:Program}{ops:Array Oper}{Q:Exit->Act->World->Prop}{a0:Act}(D:List (Option Tmp))(J:(Nat->Bool)->(Nat->Value)->World->Prop)
  (hpl:plain a0.tmps.size 0 D ops.toList=true) (hsteps:QD ops.toList P D J a0 0 ops.toList)
  (hend:∀ (L:Nat->Bool) (v:Nat->Value) (w:World),J L v w->(∀ i,i<ops.size->L i=true)->Q .normal (Mo v 0 D a0) w) :
  ∀ (fuel:Nat) (listed:Array Bool) (v:Nat->Value) (a:Act) (w:World),ZL ops D J a0 v listed a w->(fuel=0->Region.ready .any ops listed=[]) →
   (List.range ops.size).countP (fun i => !listed.getD i false)<=fuel->wpAny P .any ops Q fuel listed a w:=by
 obtain⟨hDl,hpa⟩:=RW hpl
 have hlen:D.length=ops.size:=by simpa using hDl
 have hback:∀ (k:Nat) (o:Oper),ops[k]? = some o->∀ e∈o.after.toList,Region.binds .any e=true->e.on<k:=by
  intro k o hk e he hb
  have:=(hpa k o (by simpa using hk)).2.2 e he hb
  omega
 have fin:∀ (listed:Array Bool) (v:Nat->Value) (a:Act) (w:World),ZL ops D J a0 v listed a w->Region.ready .any ops listed=[]->Q .normal a w:=by
  intro listed v a w hm hr
  have hall:=Qm hback hr hm.ls
  have hp:=O1 v D 0 a0
  have ha:a=Mo v 0 D a0:=by
   have ht:a.tmps=(Mo v 0 D a0).tmps:=by
    apply Array.ext
    ·rw[hm.size,hp.1]
    ·intro t h1 h2
     have e:a.tmps.getD t undef=(Mo v 0 D a0).tmps.getD t undef:=by
      by_cases hmem:some t∈D
      ·obtain⟨j,hj⟩:=List.mem_iff_getElem?.1 hmem
       have hjs:j<ops.size:=by rw[← hlen];exact(List.getElem?_eq_some_iff.1 hj).1
       obtain⟨g1,g2,_⟩:=hpa j ops[j] (by simp[hjs])
       have hdst:ops[j].dst=some t:=by rw[hj] at g1;exact(Option.some.inj g1).symm
       obtain⟨k1,k2⟩:=g2 t hdst
       rw[hm.here j t (hall j hjs) hj,hp.2.2.2 j t hj k2 k1,Nat.zero_add]
      ·rw[hp.2.2.1 t hmem,hm.out t (fun j _ hj=>hmem (List.mem_of_getElem? hj))]
     simpa [Array.getD_eq_getD_getElem?,h1,h2] using e
   have hd:a.defers=(Mo v 0 D a0).defers:=by rw[hm.defers,hp.2.1]
   cases a
   cases hq:Mo v 0 D a0
   rw[hq] at ht hd
   simp only at ht hd
   rw[ht,hd]
  rw[ha]
  exact hend _ v w hm.good hall
 intro fuel
 induction fuel with
 | zero =>
  intro listed v a w hm h0 _
  exact⟨h0 rfl,fin listed v a w hm (h0 rfl)⟩
 | succ fuel ih =>
  intro listed v a w hm _ hcount
  refine⟨fin listed v a w hm,fun i hi=>?_⟩
  obtain⟨hlt,hnl,o,ho,haft⟩:=M5 hi
  have hlsz:i<listed.size:=by rw[hm.ls];exact hlt
  have hnl':listed.getD i false=false:=by simpa [Array.getD,hlsz] using hnl
  obtain⟨g1,g2,g3⟩:=hpa i o (by simpa using ho)
  have hstep:=hsteps.at i o (by simpa using ho)
  rw[Nat.zero_add] at hstep
  have hout:∀ t,some t∉D->a.eval (.tmp t)=a0.eval (.tmp t):=fun t ht=>hm.out t (fun j _ hj=>ht (List.mem_of_getElem? hj))
  have hlate:∀ t,ay4 ops.toList t i=true->a.eval (.tmp t)=a0.eval (.tmp t):=by
   intro t ht
   refine hm.out t fun j hj hD=>?_
   have hjs:j<ops.size:=by rw[← hlen];exact(List.getElem?_eq_some_iff.1 hD).1
   obtain⟨k1,_,_⟩:=hpa j ops[j] (by simp[hjs])
   have hdst:ops[j].dst=some t:=by rw[hD] at k1;exact(Option.some.inj k1).symm
   unfold ay4 at ht
   have h1:=List.all_eq_true.1 ht ops[j] (by simp)
   simp only[hdst,bne_self_eq_false,Bool.false_or] at h1
   obtain⟨e,he,hb⟩:=List.any_eq_true.1 h1
   simp only[Bool.and_eq_true,beq_iff_eq] at hb
   have h2:=hm.cl j ops[j] (by simp[hjs]) hj e he hb.1
   rw[hb.2,hnl'] at h2
   cases h2
  obtain⟨s1,s2⟩:=hstep (fun j=>listed.getD j false) v a w hm.good hnl' haft hout (fun j d hj hD=>hm.here j d hj hD) hlate
  -- what is left when it answers x in the world w'
  have next:∀ (x:Value) (w':World),J (Ra (fun j=>listed.getD j false) i) (UN v i x) w'->wpAny P .any ops Q fuel (listed.setIfInBounds i true) (a.put o.dst x) w':=by
   intro x w' hJ
   have hcnt:(List.range ops.size).countP (fun j => !(listed.setIfInBounds i true).getD j false)<=fuel:=by
    have h1:(List.range ops.size).countP (fun j => !(listed.setIfInBounds i true).getD j false)<(List.range ops.size).countP (fun j => !listed.getD j false):=by
     have hmemi:i∈List.range ops.size:=by simpa using hlt
     have key:∀ (l:List Nat),i∈l->(∀ j,(!(listed.setIfInBounds i true).getD j false)=true->(!listed.getD j false)=true)->l.countP (fun j => !(listed.setIfInBounds i true).getD j false)<l.countP (fun j => !listed.getD j false):=by
      intro l
      induction l with
      | nil=>intro h;cases h
      | cons y r ihl =>
       intro hy himp
       have hle:r.countP (fun j => !(listed.setIfInBounds i true).getD j false)<=r.countP (fun j => !listed.getD j false):=List.countP_mono_left fun j _ hj=>himp j hj
       by_cases hyi:y=i
       ·subst hyi
        have e1:(!(listed.setIfInBounds y true).getD y false)=false:=by rw[Ls _ _ _ hlsz,if_pos rfl];rfl
        have e2:(!listed.getD y false)=true:=by rw[hnl'];rfl
        rw[List.countP_cons,List.countP_cons]
        simp only[e1,e2,if_true,Bool.false_eq_true,if_false]
        omega
       ·have hir:i∈r:=by
         rcases List.mem_cons.1 hy with h|h
         ·exact absurd h.symm hyi
         ·exact h
        have:=ihl hir himp
        rw[List.countP_cons,List.countP_cons]
        have e3:(listed.setIfInBounds i true).getD y false=listed.getD y false:=by rw[Ls _ _ _ hlsz,if_neg hyi]
        rw[e3];omega
     refine key _ hmemi fun j hj=>?_
     rw[Ls _ _ _ hlsz] at hj
     by_cases hji:j=i
     ·rw[if_pos hji] at hj;cases hj
     ·rwa [if_neg hji] at hj
    omega
   have hmid:ZL ops D J a0 (UN v i x) (listed.setIfInBounds i true) (a.put o.dst x) w':=by
    refine⟨?_,by simpa using hm.ls,?_,?_,?_,?_,?_⟩
    ·rw[← hm.size];cases o.dst <;> simp[Act.put]
    ·rw[← hm.defers];cases o.dst <;> rfl
    ·intro t ht
     have hold:=hm.out t (fun j hj=>ht j (by rw[Ls _ _ _ hlsz];split <;> first|rfl|exact hj))
     have hne:o.dst≠some t:=by
      intro e
      exact ht i (by rw[Ls _ _ _ hlsz,if_pos rfl]) (by rw[g1,e])
     rw[← hold]
     cases hd:o.dst with
     | none=>rfl
     | some d =>
      have:d≠t:=fun e=>hne (by rw[hd,e])
      simp only[Act.put,Array.getD_eq_getD_getElem?,Array.getElem?_setIfInBounds_ne this]
    ·intro j d hj hD
     by_cases hji:j=i
     ·subst hji
      have hd:o.dst=some d:=by rw[g1] at hD;exact Option.some.inj hD
      have hsz:d<a.tmps.size:=by rw[hm.size];exact(g2 d hd).1
      simp[hd,Act.put,Array.getD_eq_getD_getElem?,hsz,UN]
     ·rw[Ls _ _ _ hlsz,if_neg hji] at hj
      have hold:=hm.here j d hj hD
      rw[show UN v i x j=v j from if_neg hji,← hold]
      cases hd:o.dst with
      | none=>rfl
      | some y =>
       have hne:y≠d:=by
        rintro rfl
        rw[hd] at g1
        rcases Nat.lt_or_gt_of_ne hji with hlt2|hgt2
        ·have hjs:j<ops.size:=by rw[← hlen];exact(List.getElem?_eq_some_iff.1 hD).1
         obtain⟨k1,k2,_⟩:=hpa j ops[j] (by simp[hjs])
         have hdst:ops[j].dst=some y:=by rw[hD] at k1;exact(Option.some.inj k1).symm
         exact(k2 y hdst).2 i hlt2 g1
        ·exact(g2 y hd).2 j hgt2 hD
       simp only[Act.put,Array.getD_eq_getD_getElem?,Array.getElem?_setIfInBounds_ne hne]
    ·have e:(fun j=>(listed.setIfInBounds i true).getD j false)=Ra (fun j=>listed.getD j false) i:=by
      funext j;exact Ls _ _ _ hlsz
     rw[e];exact hJ
    ·intro k o' hk hl e he hb
     rw[Ls _ _ _ hlsz] at hl ⊢
     by_cases hee:e.on=i
     ·rw[if_pos hee]
     ·rw[if_neg hee]
      by_cases hki:k=i
      ·subst hki
       rw[ho] at hk
       cases hk
       exact haft e he hb
      ·rw[if_neg hki] at hl
       exact hm.cl k o' hk hl e he hb
   refine ih _ _ _ _ hmid ?_ hcnt
   intro hz
   subst hz
   have hz0:(List.range ops.size).countP (fun j => !(listed.setIfInBounds i true).getD j false)=0:=by omega
   rw[List.countP_eq_zero] at hz0
   cases hr:Region.ready .any ops (listed.setIfInBounds i true) with
   | nil=>rfl
   | cons y r =>
    have hy:y∈Region.ready .any ops (listed.setIfInBounds i true):=by rw[hr];simp
    obtain⟨q1,q2,_⟩:=M5 hy
    have:=hz0 y (by simpa using q1)
    have hys:y<(listed.setIfInBounds i true).size:=by simp[hm.ls];exact q1
    have q3:(listed.setIfInBounds i true).getD y false=false:=by rw[← Pf _ y hys];exact q2
    rw[q3] at this
    exact absurd rfl this
  have hwant:Region.wanted o (yielded ops a.tmps)=PU D o a:=by
   unfold Region.wanted PU
   cases hg:o.guard with
   | none=>rfl
   | some p =>
    obtain⟨j,want⟩:=p
    simp only[yielded]
    by_cases hj:j<ops.size
    ·obtain⟨k1,k2,_⟩:=hpa j ops[j] (by simp[hj])
     have hDj:D.getD j none=ops[j].dst:=by simp[List.getD,k1]
     rw[hDj]
     simp only[Array.getElem?_eq_getElem hj,Option.bind_some]
     cases hd:ops[j].dst with
     | none=>simp
     | some d =>
      have hsz:d<a.tmps.size:=by rw[hm.size];exact(k2 d hd).1
      simp only[Option.bind_some,Array.getElem?_eq_getElem hsz]
      have he:a.eval (.tmp d)=a.tmps[d]:=by simp[Act.eval,Array.getD,hsz]
      rw[he]
      cases a.tmps[d] <;> simp
    ·have hDj:D.getD j none=none:=by simp[List.getD,List.getElem?_eq_none (show D.length<=j by omega)]
     rw[hDj]
     simp[Array.getElem?_eq_none (show ops.size<=j by omega)]
  unfold wpOp
  rw[ho]
  simp only[hwant]
  cases hgo:PU D o a with
  | true =>
   simp only[if_true]
   refine .inl (Lg.wp ?_)
   have:=s1 hgo
   revert this
   unfold Lg
   generalize (execOp a.eval o).run P w=res
   intro h
   cases res with
   | ok n w' =>
    cases n <;> simp only at h ⊢ <;> first
     | exact next _ _ h
     | exact h.elim
     | exact Calls.mono h (fun e w'' ⟨y,he,hk⟩=>⟨y,he,next _ _ hk⟩)
   | halt y w'=>exact h.elim
  | false =>
   simp only[Bool.false_eq_true,if_false]
   exact next undef w (s2 hgo)
theorem Sr{P:Program}{id:Nat}{ops:Array Oper}{Q:Exit->Act->World->Prop}{a0:Act}{w0:World}(D:List (Option Tmp))(J:(Nat->Bool)->(Nat->Value)->World->Prop)
  (hm:P.follows .mixedOrders=true) (hpl:plain a0.tmps.size 0 D ops.toList=true) (h0:J (fun _=>false) (fun _=>undef) w0.drew) (hsteps:QD ops.toList P D J a0 0 ops.toList)
  (hend:∀ (L:Nat->Bool) (v:Nat->Value) (w:World),J L v w->(∀ i,i<ops.size->L i=true)->Q .normal (Mo v 0 D a0) w):(Code.region id ops true).wp P Q a0 w0:=by
 refine wp_region_any hm ?_
 have hno:∀ j,(Array.replicate ops.size false).getD j false=false:=by
  intro j
  by_cases h:j<ops.size <;> simp[Array.getD,h]
 refine ZZ D J hpl hsteps hend ops.size _ (fun _=>undef) a0 _ ⟨rfl,by simp,rfl,fun _ _=>rfl,fun j _ hj=>?_,?_,fun k _ _ hl=>?_⟩ ?_ ?_
 ·rw[hno] at hj;cases hj
 ·have e:(fun j=>(Array.replicate ops.size false).getD j false)=fun _=>false:=funext hno
  rw[e];exact h0
 ·rw[hno] at hl;cases hl
 ·intro h0
  cases hr:Region.ready .any ops (Array.replicate ops.size false) with
  | nil=>rfl
  | cons y r =>
   have hy:y∈Region.ready .any ops (Array.replicate ops.size false):=by rw[hr];simp
   have:=(M5 hy).1
   omega
 ·exact Nat.le_trans (List.countP_le_length) (by simp)
end Go.Proofs.YtknjpdcpmpfklaaGreatDoor
set_option maxRecDepth 100000
namespace Go.Proofs.YtknjpdcpmpfklaaGreatDoor
open Go.RowKit
section
variable {P:Program} {N:Nat} {F:Nat->Value} {w:World} {Q:Exit->(Nat->Value)->World->Prop}
theorem Lg.mono'{ρ:Operand->Value}{o:Oper}{R R':Value->World->Prop}(h:Lg P ρ o w R)(hr:∀ v w',R v w'->R' v w'):Lg P ρ o w R':=by
 revert h
 unfold Lg
 generalize (execOp ρ o).run P w=r
 intro h
 cases r with
 | ok n w' =>
  cases n <;> simp only at h ⊢ <;> first
   | exact hr _ _ h
   | exact h.elim
   | exact Calls.mono h (fun e w'' ⟨y,he,hk⟩=>⟨y,he,hr _ _ hk⟩)
 | halt y w'=>exact h.elim
end
end Go.Proofs.YtknjpdcpmpfklaaGreatDoor
set_option maxRecDepth 100000
namespace Go.Proofs.YtknjpdcpmpfklaaGreatDoor
open Go.RowKit
structure Thg where
  A:World->Prop
  T:Nat->Prop
  B:(Nat->Prop)->World->Prop
  stA:∀ (w w':World) (S:Nat->Prop),A w->KM S w w'->KJ T S->A w'
  stB:∀ (w w':World) (S T':Nat->Prop),B T' w->KM S w w'->KJ T' S->B T' w'
  liA:∀ w,A w->Pa w T
  liB:∀ w T',B T' w->Pa w T'
inductive Pt where
  | eq (v:Value)
  | thg (t:Thg) (v:Value)
def Pt.none:Pt:=.eq undef
def azI:Pt->Value
 | .eq v=>v
 | .thg _ v=>v
def Qf(Gs:List Pt)(L:Nat->Bool)(Tf:Nat->Nat->Prop)(i:Nat):Nat->Prop:=match Gs.getD i Pt.none with
 | .eq _=>L8
 | .thg t _=>if L i=true then Tf i else t.T
def Xg(Gs:List Pt)(L:Nat->Bool)(Tf:Nat->Nat->Prop)(w:World)(i:Nat):Prop:=match Gs.getD i Pt.none with
 | .eq _=>True
 | .thg t _=>if L i=true then t.B (Tf i) w else t.A w
structure JT (S:Nat->Prop) (w0:World) (Gs:List Pt) (M:List (Nat×Nat)) (L:Nat->Bool) (v:Nat->Value) (Tf:Nat->Nat->Prop) (w:World):Prop where
  kept:KM S w0 w
  vals:∀ i,L i=true->v i=azI (Gs.getD i Pt.none)
  things:∀ i,Xg Gs L Tf w i
  grew:∀ i t x,Gs.getD i Pt.none = .thg t x->L i=true->KP w0 t.T (Tf i)
  apart:∀ i j,i≠j->KJ (Qf Gs L Tf i) (Qf Gs L Tf j)
  clos:∀ j i,(j,i)∈M->L j=true->L i=true
def aAK(S:Nat->Prop)(w0:World)(Gs:List Pt):Prop:=(∀ i t x,Gs.getD i Pt.none = .thg t x->(∀ b,t.T b->S b)/\t.A w0)/\∀ i j,i≠j->KJ (Qf Gs (fun _=>false) (fun _=>L8) i) (Qf Gs (fun _=>false) (fun _=>L8) j)
def azZ(T:Nat->Prop):List Pt->Prop
 | []=>True
 | .thg t _::r=>KJ T t.T/\azZ T r
 | .eq _::r=>azZ T r
def Sq(S:Nat->Prop)(w0:World):List Pt->Prop
 | []=>True
 | .thg t _::r=>((∀ b,t.T b->S b)/\t.A w0/\azZ t.T r)/\Sq S w0 r
 | .eq _::r=>Sq S w0 r
theorem azZ.at{T:Nat->Prop}:∀ {Gs:List Pt},azZ T Gs->∀ i t x,Gs.getD i Pt.none = .thg t x->KJ T t.T:=by
 intro Gs
 induction Gs with
 | nil=>intro _ i t x h;cases h
 | cons g r ih =>
  intro h i t x e
  cases i with
  | zero =>
   have e:g = .thg t x:=by simpa using e
   subst e;exact h.1
  | succ i =>
   have e:r.getD i Pt.none = .thg t x:=by simpa using e
   cases g <;> first|exact ih h.2 i t x e|exact ih h i t x e
theorem Sq.at{S:Nat->Prop}{w0:World}:∀ {Gs:List Pt},Sq S w0 Gs->∀ i t x,Gs.getD i Pt.none = .thg t x->(∀ b,t.T b->S b)/\t.A w0:=by
 intro Gs
 induction Gs with
 | nil=>intro _ i t x h;cases h
 | cons g r ih =>
  intro h i t x e
  cases i with
  | zero =>
   have e:g = .thg t x:=by simpa using e
   subst e;exact⟨h.1.1,h.1.2.1⟩
  | succ i =>
   have e:r.getD i Pt.none = .thg t x:=by simpa using e
   cases g <;> first|exact ih h.2 i t x e|exact ih h i t x e
theorem Sq.far{S:Nat->Prop}{w0:World}:∀ {Gs:List Pt},Sq S w0 Gs->∀ i j t x t' x',i<j->Gs.getD i Pt.none = .thg t x->Gs.getD j Pt.none = .thg t' x'->KJ t.T t'.T:=by
 intro Gs
 induction Gs with
 | nil=>intro _ i j t x t' x' _ h;cases h
 | cons g r ih =>
  intro h i j t x t' x' hij e1 e2
  cases j with
  | zero=>omega
  | succ j =>
   have e2:r.getD j Pt.none = .thg t' x':=by simpa using e2
   cases i with
   | zero =>
    have e1:g = .thg t x:=by simpa using e1
    subst e1;exact h.1.2.2.at j t' x' e2
   | succ i =>
    have e1:r.getD i Pt.none = .thg t x:=by simpa using e1
    cases g <;> first|exact ih h.2 i j t x t' x' (by omega) e1 e2|exact ih h i j t x t' x' (by omega) e1 e2
theorem Sq.old{S:Nat->Prop}{w0:World}{Gs:List Pt}(h:Sq S w0 Gs):aAK S w0 Gs:=by
 refine⟨fun i t x e=>h.at i t x e,fun i j hij=>?_⟩
 unfold Qf
 cases e1:Gs.getD i Pt.none with
 | eq x=>exact fun _ z=>z.elim
 | thg t x =>
  cases e2:Gs.getD j Pt.none with
  | eq y=>exact fun _ _ z=>z
  | thg t' y =>
   simp only[Bool.false_eq_true,if_false]
   rcases Nat.lt_or_gt_of_ne hij with hlt|hgt
   ·exact h.far i j t x t' y hlt e1 e2
   ·exact(h.far j i t' y t x hgt e2 e1).symm
def onT(w0:World)(Gs:List Pt)(i:Nat)(w:World):Prop:=match Gs.getD i Pt.none with
 | .eq _=>True
 | .thg t _=>∃ T',t.B T' w/\KP w0 t.T T'
def XX(w0:World)(Gs:List Pt)(M:List (Nat×Nat)):Nat->Value->World->Prop:=fun j v w=>v=azI (Gs.getD j Pt.none)/\onT w0 Gs j w/\∀ i,(j,i)∈M->onT w0 Gs i w
def TQ(os:List Oper)(M:List (Nat×Nat)):Bool:=M.all fun q=>match os[q.1]? with|some o=>o.after.toList.any (fun e=>Region.binds .any e && (e.on==q.2 || M.contains (e.on,q.2)))|none=>false
def Ue(Gs:List Pt)(i:Nat)(w:World)(v:Value)(w':World):Prop:=match Gs.getD i Pt.none with
 | .eq x=>v=x/\KM (fun _=>False) w w'
 | .thg t x=>v=x/\KM t.T w w'/\∃ T',t.B T' w'/\KP w t.T T'
theorem ay6{S:Nat->Prop}{w0 w:World}{Gs:List Pt}{L:Nat->Bool}{v:Nat->Value}{Tf:Nat->Nat->Prop}{M:List (Nat×Nat)}(h:JT S w0 Gs M L v Tf w)(i:Nat):Pa w (Qf Gs L Tf i):=by
 have:=h.things i
 unfold Xg at this
 unfold Qf
 cases e:Gs.getD i Pt.none with
 | eq x=>exact fun _ h=>h.elim
 | thg t x =>
  rw[e] at this
  simp only at this ⊢
  cases hl:L i with
  | true=>rw[hl] at this;rw[if_pos rfl] at this ⊢;exact t.liB w _ this
  | false=>rw[hl] at this;rw[if_neg (by simp)] at this ⊢;exact t.liA w this
theorem aAs{Gs:List Pt}{L:Nat->Bool}{Tf Tf':Nat->Nat->Prop}{i j:Nat}(h:j≠i)(hT:Tf' j=Tf j):Qf Gs (fun k=>if k=i then true else L k) Tf' j=Qf Gs L Tf j:=by
 unfold Qf
 cases Gs.getD j Pt.none with
 | eq x=>rfl
 | thg t x=>simp only[if_neg h,hT]
theorem aBX{Gs:List Pt}{L:Nat->Bool}{Tf Tf':Nat->Nat->Prop}{w:World}{i j:Nat}(h:j≠i)(hT:Tf' j=Tf j):Xg Gs (fun k=>if k=i then true else L k) Tf' w j=Xg Gs L Tf w j:=by
 unfold Xg
 cases Gs.getD j Pt.none with
 | eq x=>rfl
 | thg t x=>simp only[if_neg h,hT]
theorem Zx{S':Nat->Prop}{Gs:List Pt}{L:Nat->Bool}{Tf:Nat->Nat->Prop}{w w':World}{j:Nat}(h:Xg Gs L Tf w j)(k:KM S' w w')(ha:KJ (Qf Gs L Tf j) S'):Xg Gs L Tf w' j:=by
 unfold Xg at h ⊢
 unfold Qf at ha
 cases e:Gs.getD j Pt.none with
 | eq x=>trivial
 | thg t x =>
  rw[e] at h ha
  simp only at h ha ⊢
  split
  ·rename_i hl;rw[if_pos hl] at h ha;exact t.stB w w' S' _ h k ha
  ·rename_i hl;rw[if_neg hl] at h ha;exact t.stA w w' S' h k ha
theorem JT.more{S:Nat->Prop}{w0 w w':World}{Gs:List Pt}{M:List (Nat×Nat)}{L:Nat->Bool}{v:Nat->Value}{Tf:Nat->Nat->Prop}{i:Nat}{x:Value}(hO:aAK S w0 Gs)(h:JT S w0 Gs M L v Tf w)(hi:L i=false)(hM:∀ k,(i,k)∈M->L k=true)(hx:Ue Gs i w x w'):∃ Tf',JT S w0 Gs M (Ra L i) (UN v i x) Tf' w':=by
 have hcl:∀ j k,(j,k)∈M->Ra L i j=true->Ra L i k=true:=fun j k hm hj=>by
  have hk:L k=true:=by
   by_cases hji:j=i
   ·subst hji;exact hM k hm
   ·rw[show Ra L i j=L j from if_neg hji] at hj;exact h.clos j k hm hj
  unfold Ra;split <;> first|rfl|exact hk
 unfold Ue at hx
 cases e:Gs.getD i Pt.none with
 | eq y =>
  rw[e] at hx
  refine⟨Tf,h.kept.trans hx.2 (fun _ _ z=>z.elim),fun j hj=>?_,fun j=>?_,fun j t z hj hl=>?_,fun a b hab=>?_,hcl⟩
  ·by_cases hji:j=i
   ·subst hji;rw[show UN v j x j=x from if_pos rfl,e];exact hx.1
   ·rw[show Ra L i j=L j from if_neg hji] at hj;rw[show UN v i x j=v j from if_neg hji];exact h.vals j hj
  ·by_cases hji:j=i
   ·subst hji;unfold Xg;rw[e];trivial
   ·rw[show Xg Gs (Ra L i) Tf w' j=Xg Gs L Tf w' j from aBX hji rfl];exact Zx (h.things j) hx.2 (fun _ _ z=>z)
  ·have hji:j≠i:=fun z'=>by rw[z',e] at hj;cases hj
   rw[show Ra L i j=L j from if_neg hji] at hl;exact h.grew j t z hj hl
  ·have hc:∀ c,Qf Gs (Ra L i) Tf c=Qf Gs L Tf c:=fun c=>by
    by_cases hci:c=i
    ·subst hci;unfold Qf;rw[e]
    ·exact aAs hci rfl
   rw[hc,hc];exact h.apart a b hab
 | thg t y =>
  rw[e] at hx
  obtain⟨hv,k,T',hB,hG⟩:=hx
  have hcur:Qf Gs L Tf i=t.T:=by unfold Qf;rw[e];simp[hi]
  have hTf:∀ c,c≠i->(fun c=>if c=i then T' else Tf c) c=Tf c:=fun c hc=>by simp[hc]
  have hci:Qf Gs (Ra L i) (fun c=>if c=i then T' else Tf c) i=T':=by unfold Qf;rw[e];simp[Ra]
  have hcj:∀ c,c≠i->Qf Gs (Ra L i) (fun c=>if c=i then T' else Tf c) c=Qf Gs L Tf c:=fun c hc=>aAs hc (hTf c hc)
  have hnew:∀ c,c≠i->KJ T' (Qf Gs L Tf c):=fun c hc=>by
   have:=h.apart i c (fun z=>hc z.symm)
   rw[hcur] at this
   exact this.grew hG (ay6 h c)
  refine⟨fun c=>if c=i then T' else Tf c,h.kept.trans k (fun b _ hb=>(hO.1 i t y e).1 b hb),fun j hj=>?_,fun j=>?_,fun j t' z hj hl=>?_,fun a b hab=>?_,hcl⟩
  ·by_cases hji:j=i
   ·subst hji;rw[show UN v j x j=x from if_pos rfl,e];exact hv
   ·rw[show Ra L i j=L j from if_neg hji] at hj;rw[show UN v i x j=v j from if_neg hji];exact h.vals j hj
  ·by_cases hji:j=i
   ·subst hji;unfold Xg;rw[e];simp only[Ra];simpa using hB
   ·rw[show Xg Gs (Ra L i) (fun c=>if c=i then T' else Tf c) w' j=Xg Gs L Tf w' j from aBX hji (hTf j hji)]
    exact Zx (h.things j) k (by have:=h.apart j i hji;rw[hcur] at this;exact this)
  ·by_cases hji:j=i
   ·subst hji
    rw[e] at hj;cases hj
    simp only[if_true]
    exact fun b hb=>(hG b hb).elim .inl (fun hge=>.inr (Nat.le_trans h.kept.size hge))
   ·rw[show Ra L i j=L j from if_neg hji] at hl
    simp only[if_neg hji];exact h.grew j t' z hj hl
  ·by_cases hai:a=i
   ·subst hai
    rw[hci,hcj b (fun z=>hab z.symm)];exact hnew b (fun z=>hab z.symm)
   ·rw[hcj a hai]
    by_cases hbi:b=i
    ·subst hbi;rw[hci];exact(hnew a hai).symm
    ·rw[hcj b hbi];exact h.apart a b hab
theorem PA{P:Program}{ρ:Operand->Value}{o:Oper}{w:World}{R:Value->World->Prop}{ty t:TypeId}{x y:Operand}{p k:Nat}{v u:Value}{vs:List Value}(ho:o.op = .store ty x y)(hx:ρ x = .pointer (some ⟨p,k,none⟩))(hy:ρ y=v)(hB:Mu w p t vs)(hk:vs[k]? = some u)(hv:oneC v=true)
  (hs:(P.info? ty).map (·.size)=some 1)
  (h:∀ w',Mu w' p t (vs.set k v)->KM (fun k=>k=p) w w'->R undef w'):Lg P ρ o w R:=by
 have hc:=hB.cell hk
 have hf:w.frozen? ⟨p,k,none⟩=false:=MX hB
 cases hq:P.info? ty with
 | none=>simp[hq] at hs
 | some i =>
  have hs':i.size=1:=by simpa [hq] using hs
  have e:(execOp ρ o).run P w = .ok .skip (w.setCell ⟨p,k,none⟩ v)\/(execOp ρ o).run P w = .ok (.value undef) (w.setCell ⟨p,k,none⟩ v):=by
   cases v <;> first
    | (simp[oneC] at hv;done)
    | simp[execOp,ho,hx,hy,Instr.storeAt,Instr.sureAddr,storeVar,sizeOf,typeInfo,hq,hs',Value.cells,hc,hf,go_sem]
  unfold Lg
  rcases e with e|e <;> rw[e] <;> exact h _ (hB.set k v) ((KM.refl (fun k=>k=p) w).setCell ⟨p,k,none⟩ (fun _=>rfl) _)
def aze(p:Nat)(t:TypeId)(zs us:List Value):Thg:=⟨fun w=>Mu w p t zs,Le p,fun T w=>T=Le p/\Mu w p t us,fun _ _ _ h k ha=>h.all k (ha p rfl),fun _ _ _ _ h k ha=>⟨h.1,h.2.all k (ha p (by rw[h.1];rfl))⟩,fun _ h=>LR h.lt,fun _ _ h=>by rw[h.1];exact LR h.2.lt⟩
section
variable {P:Program} {N:Nat} {F:Nat->Value} {w:World} {Q:Exit->(Nat->Value)->World->Prop}
def Nw(S:Nat->Prop)(M:List (Nat×Nat))(N:Nat)(P:Program)(D:List (Option Tmp))(Gs:List Pt)(F0:Nat->Value)(w0:World)(i:Nat)(o:Oper):Prop :=
 ∀ (F:Nat->Value) (w:World),KM S w0 w->(∀ t,Nat.blt t N=true->some t∉D->F t=F0 t)->OB D (XX w0 Gs M) F w o.after.toList->(∀ k t x,(k=i\/(k,i)∈M)->Gs.getD k Pt.none = .thg t x->t.A w) →
  match o.guard with
  | none=>Lg P (ev F) o w (Ue Gs i w)
  | some (j,want)=>∃ d,D.getD j none=some d ∧
   ((F d = .bool want/\Lg P (ev F) o w (Ue Gs i w))\/((F d = .bool (!want)\/F d=undef)/\Gs.getD i Pt.none = .eq undef))
def Rl(S:Nat->Prop)(M:List (Nat×Nat))(N:Nat)(P:Program)(D:List (Option Tmp))(Gs:List Pt)(F0:Nat->Value)(w0:World):Nat->List Oper->Prop
 | _,[]=>True
 | i,o::r=>Nw S M N P D Gs F0 w0 i o/\Rl S M N P D Gs F0 w0 (i+1) r
theorem Up{S:Nat->Prop}{M:List (Nat×Nat)}{D:List (Option Tmp)}{Gs:List Pt}{F0:Nat->Value}{w0:World}{i:Nat}:Rl S M N P D Gs F0 w0 i []:=trivial
theorem MO{S:Nat->Prop}{M:List (Nat×Nat)}{D:List (Option Tmp)}{Gs:List Pt}{F0:Nat->Value}{w0:World}{i:Nat}{o:Oper}{r:List Oper}(h:Nw S M N P D Gs F0 w0 i o)(k:Rl S M N P D Gs F0 w0 (i+1) r):Rl S M N P D Gs F0 w0 i (o::r):=⟨h,k⟩
theorem Nw.one{S:Nat->Prop}{M:List (Nat×Nat)}{D:List (Option Tmp)}{Gs:List Pt}{F0:Nat->Value}{w0:World}{i:Nat}{o:Oper}(hg:o.guard=none)
  (h:∀ (F:Nat->Value) (w:World),KM S w0 w->(∀ t,Nat.blt t N=true->some t∉D->F t=F0 t)->OB D (XX w0 Gs M) F w o.after.toList->Lg P (ev F) o w (Ue Gs i w)):Nw S M N P D Gs F0 w0 i o:=by
 intro F w h1 h2 h3 _
 rw[hg];exact h F w h1 h2 h3
theorem Nw.oneA{S:Nat->Prop}{M:List (Nat×Nat)}{D:List (Option Tmp)}{Gs:List Pt}{F0:Nat->Value}{w0:World}{i:Nat}{o:Oper}(hg:o.guard=none)
  (h:∀ (F:Nat->Value) (w:World),KM S w0 w->(∀ t,Nat.blt t N=true->some t∉D->F t=F0 t)->OB D (XX w0 Gs M) F w o.after.toList->(∀ k t x,(k,i)∈M->Gs.getD k Pt.none = .thg t x->t.A w)->Lg P (ev F) o w (Ue Gs i w)):Nw S M N P D Gs F0 w0 i o:=by
 intro F w h1 h2 h3 h4
 rw[hg];exact h F w h1 h2 h3 (fun k t x hk=>h4 k t x (.inr hk))
theorem Nw.turn{S:Nat->Prop}{M:List (Nat×Nat)}{D:List (Option Tmp)}{Gs:List Pt}{F0:Nat->Value}{w0:World}{i:Nat}{t:Thg}{x:Value}{o:Oper}(hg:o.guard=none)(he:Gs.getD i Pt.none = .thg t x)
  (h:∀ (F:Nat->Value) (w:World),KM S w0 w->(∀ t,Nat.blt t N=true->some t∉D->F t=F0 t)->OB D (XX w0 Gs M) F w o.after.toList->t.A w->Lg P (ev F) o w (fun v w'=>v=x/\KM t.T w w'/\∃ T',t.B T' w'/\KP w t.T T')):Nw S M N P D Gs F0 w0 i o:=by
 intro F w h1 h2 h3 h4
 rw[hg]
 refine(h F w h1 h2 h3 (h4 i t x (.inl rfl) he)).mono' fun v w' hx=>?_
 unfold Ue;rw[he];exact hx
theorem Nw.step{S:Nat->Prop}{M:List (Nat×Nat)}{os:List Oper}{D:List (Option Tmp)}{Gs:List Pt}{w0:World}{i:Nat}{o:Oper}{a0:Act}(hO:aAK S w0 Gs)(hmo:TQ os M=true)(hio:os[i]? = some o)(ha:Fr N F a0)(h:Nw S M N P D Gs F w0 i o):XO os P D (fun L v w=>∃ Tf,JT S w0 Gs M L v Tf w) a0 i o:=by
 rintro L v a w ⟨Tf,hJ⟩ hi hdone hout hhere _
 have hdeps:OB D (XX w0 Gs M) (fun t=>a.tmps.getD t undef) w o.after.toList:=by
  refine RE.toF (RE.mk fun e he hb d hd=>?_)
  have hl:=hdone e he hb
  have hDe:D[e.on]? = some (some d):=by
   unfold List.getD at hd
   cases hq:D[e.on]? with
   | none=>rw[hq] at hd;cases hd
   | some y=>rw[hq] at hd;simp at hd;rw[hd]
  rw[hhere e.on d hl hDe,hJ.vals e.on hl]
  have key:∀ c,L c=true->onT w0 Gs c w:=fun c hc=>by
   have ht:=hJ.things c
   unfold onT
   unfold Xg at ht
   cases e':Gs.getD c Pt.none with
   | eq y=>trivial
   | thg t y =>
    rw[e'] at ht
    simp only[hc,if_true] at ht
    exact⟨_,ht,hJ.grew c t y e' hc⟩
  exact⟨rfl,key _ hl,fun c hc=>key c (hJ.clos _ _ hc hl)⟩
 have hM:∀ k,(i,k)∈M->L k=true:=fun k hk=>by
  have:=List.all_eq_true.1 hmo _ hk
  simp only[hio] at this
  obtain⟨e,he,hb⟩:=List.any_eq_true.1 this
  simp only[Bool.and_eq_true,Bool.or_eq_true,beq_iff_eq] at hb
  have hl:=hdone e he hb.1
  rcases hb.2 with h1|h1
  ·rw[← h1];exact hl
  ·exact hJ.clos _ _ (by simpa using h1) hl
 have h1:=h (fun t=>a.tmps.getD t undef) w hJ.kept (fun t hb ht=>by rw[← ha.at' t hb];exact hout t ht) hdeps (fun k t x hk e=>by
  have hLk:L k=false:=by
   rcases hk with rfl|hk
   ·exact hi
   ·cases hL:L k with
    | false=>rfl
    | true=>have:=hJ.clos k i hk hL;rw[hi] at this;cases this
  have:=hJ.things k
  unfold Xg at this
  rw[e] at this
  simpa [hLk] using this)
 rw[← Sf a] at h1
 unfold PU
 cases hg:o.guard with
 | none=>rw[hg] at h1;exact⟨fun _=>h1.mono' fun x w' hx=>hJ.more hO hi hM hx,fun e=>by cases e⟩
 | some g =>
  obtain⟨j,want⟩:=g
  rw[hg] at h1
  obtain⟨d,hd,h1⟩:=h1
  simp only[hd]
  have hev:a.eval (.tmp d)=a.tmps.getD d undef:=rfl
  rcases h1 with ⟨hv,hy⟩ | ⟨hv,hs⟩
  ·rw[hev,hv];exact⟨fun _=>hy.mono' fun x w' hx=>hJ.more hO hi hM hx,fun e=>by simp at e⟩
  ·refine⟨fun e=>?_,fun _=>hJ.more hO hi hM (by unfold Ue;rw[hs];exact⟨rfl,KM.refl _ _⟩)⟩
   rcases hv with hv|hv
   ·rw[hev,hv] at e;cases want <;> simp at e
   ·rw[hev,hv] at e;simp[undef] at e
theorem Rl.steps{S:Nat->Prop}{M:List (Nat×Nat)}{all:List Oper}{D:List (Option Tmp)}{Gs:List Pt}{w0:World}{a0:Act}(hO:aAK S w0 Gs)(hmo:TQ all M=true)(ha:Fr N F a0):∀ {os:List Oper} {i:Nat},(∀ k o,os[k]? = some o->all[i+k]? = some o)->Rl S M N P D Gs F w0 i os->QD all P D (fun L v w=>∃ Tf,JT S w0 Gs M L v Tf w) a0 i os:=by
 intro os
 induction os with
 | nil=>intro i _ _;exact trivial
 | cons o r ih =>
  intro i hat h
  exact⟨h.1.step hO hmo (hat 0 o rfl) ha,ih (fun k o' hk=>by have:=hat (k+1) o' hk;rwa [show i+(k+1)=i+1+k by omega] at this) h.2⟩
theorem Xn{S:Nat->Prop}{id:Nat}{ops:Array Oper}(M:List (Nat×Nat))(D:List (Option Tmp))(Gs:List Pt)(hm:P.follows .mixedOrders=true)(hpl:plain N 0 D ops.toList=true)(hmo:TQ ops.toList M=true)(hsz:Gs.length=ops.size)(hO:aAK S w Gs)(hsteps:Rl S M N P D Gs F w 0 ops.toList)
  (hend:∀ (v:Nat->Value) (Tf:Nat->Nat->Prop) (F':Nat->Value) (w':World),KM S w w'->(∀ i,i<ops.size->v i=azI (Gs.getD i Pt.none))->(∀ i t x,Gs.getD i Pt.none = .thg t x->t.B (Tf i) w'/\KP w t.T (Tf i))->(∀ i j t x t' x',i≠j->Gs.getD i Pt.none = .thg t x->Gs.getD j Pt.none = .thg t' x'->KJ (Tf i) (Tf j))->(∀ t,F' t=Q5 v 0 D F t)->Q .normal F' w'):wq none P N (.region id ops true) Q F w:=by
 intro a ha
 refine wpIn_wide.2 ?_
 refine Sr D (fun L v w'=>∃ Tf,JT S w Gs M L v Tf w') hm (by rw[ha.size];exact hpl) ⟨fun _=>L8,(KM.refl _ w).drew,fun _ e=>(by cases e),fun i=>?_,fun _ _ _ _ e=>(by cases e),hO.2,fun _ _ _ e=>(by cases e)⟩ (hsteps.steps hO hmo ha (fun k o hk=>by rw[Nat.zero_add];exact hk)) fun L v w' ⟨Tf,hJ⟩ hL=>?_
 ·unfold Xg
  cases e:Gs.getD i Pt.none with
  | eq y=>trivial
  | thg t y=>exact t.stA w _ (fun _=>False) (hO.1 i t y e).2 (KM.refl _ w).drew (fun _ _ z=>z)
 ·have hlt:∀ i t x,Gs.getD i Pt.none = .thg t x->L i=true:=fun i t x e=>by
   refine hL i ?_
   rw[← hsz]
   rcases Nat.lt_or_ge i Gs.length with h'|h'
   ·exact h'
   ·have:Gs.getD i Pt.none=Pt.none:=by simp[List.getD,List.getElem?_eq_none h']
    rw[this] at e;cases e
  refine⟨Q5 v 0 D F,Pg v D 0 F a ha (OH hpl),hend v Tf _ w' hJ.kept (fun i hi=>hJ.vals i (hL i hi)) (fun i t x e=>?_) (fun i j t x t' x' hij e1 e2=>?_) fun _=>rfl⟩
  ·have:=hJ.things i
   unfold Xg at this
   rw[e] at this
   simp only[hlt i t x e,if_true] at this
   exact⟨this,hJ.grew i t x e (hlt i t x e)⟩
  ·have:=hJ.apart i j hij
   unfold Qf at this
   rw[e1,e2] at this
   simpa only [hlt i t x e1,hlt j t' x' e2,if_true] using this
end
end Go.Proofs.YtknjpdcpmpfklaaGreatDoor
set_option maxRecDepth 100000
namespace Go.Proofs.YtknjpdcpmpfklaaGreatDoor
open Go.RowKit
def hold(L:Nat->Bool)(v:Nat->Value)(C:Nat->List Nat)(vI:Value)(lI:List Nat):List Nat->Value×List Nat
 | []=>(vI,lI)
 | x::r=>if L x=true then (v x,C x) else hold L v C vI lI r
section
variable {os:List Oper} {P:Program} {D:List (Option Tmp)} {w0:World} {S0:Nat->Prop} {B:Nat} {vI:Value} {lI X:List Nat} {C:Nat->List Nat} {Gs:List Pd} {a0:Act} {i:Nat} {o:Oper}
end
end Go.Proofs.YtknjpdcpmpfklaaGreatDoor
set_option maxRecDepth 100000
namespace Go.Proofs.YtknjpdcpmpfklaaGreatDoor
open Go.RowKit
theorem UT(n:Nat):(madeCells (Value.int .u8 0).cells n).toList=LB (List.replicate n 0):=by
 unfold madeCells LB Value.cells
 rw[List.map_replicate]
 apply List.ext_getElem?
 intro i
 by_cases h:i<n
 ·simp[h,Nat.mod_one]
 ·simp[h]
theorem Vp(w:World)(kl kc:IntKind)(n:Nat)(hn:n<1099511627776) :
  (Instr.makeSlice 26 (.int kl (n:Int)) (.int kc (n:Int))).run Tryz.prog w = .ok (.slice (some ⟨w.heap.size,0,none⟩) n n) (w.alloc (.cells (LB (List.replicate n 0)).toArray 5)):=by
 obtain⟨i0,hi,hz0,hz1,hz2⟩:=info_parts Tryz.info_u8
 have hr:=run_make (P:=Tryz.prog) w 26 5 i0 (.int .u8 0) Tryz.underlying26 hi hz0 kl kc n n (by omega) (Int.le_refl _) (by rw[hz2];omega) (by omega)
 simp only[Int.toNat_natCast,hz1,Nat.mul_one] at hr
 rw[hr,← UT]
theorem aAL(n:Nat):∀ x∈List.replicate n 0,x<256:=by intro x hx;have:=(List.mem_replicate.1 hx).2;omega
theorem ayS(w:World)(B n:Nat)(hB:B<=w.heap.size)(hn:n<1099511627776):Uw (w.alloc (.cells (LB (List.replicate n 0)).toArray 5)) B (.slice (some ⟨w.heap.size,0,none⟩) n n) (List.replicate n 0):=by
 have h:=Uw.of_new (B:=B) (l:=List.replicate n 0) (heap_alloc_new w _) hB (by rw[List.length_replicate];unfold maxLen;omega) (aAL n)
 rwa [List.length_replicate] at h
theorem aB4{ρ:Operand->Value}{o:Oper}{w:World}{R:Value->World->Prop}{x y:Operand}{kl kc:IntKind}{n:Nat}(ho:o.op = .makeSlice 26 x y)(hx:ρ x = .int kl (n:Int))(hy:ρ y = .int kc (n:Int))(hn:n<1099511627776)
  (h:R (.slice (some ⟨w.heap.size,0,none⟩) n n) (w.alloc (.cells (LB (List.replicate n 0)).toArray 5))):Lg Tryz.prog ρ o w R :=
 MN (by simp[execOp,ho,hx,hy,Vp w kl kc n hn]) h
theorem azh{ρ:Operand->Value}{o:Oper}{w:World}{R:Value->World->Prop}{x:Operand}{c:Nat}(ho:o.op = .buildSlice 26 1 #[(0,x)])(hx:ρ x = .int .u8 (c:Int))
  (h:R (.slice (some ⟨w.heap.size,0,none⟩) 1 1) (w.alloc (.cells (LB [c]).toArray 5))):Lg Tryz.prog ρ o w R :=
 MN (v:=.slice (some ⟨w.heap.size,0,none⟩) 1 1) (w':=w.alloc (.cells (LB [c]).toArray 5)) (by simp[execOp,ho,hx,go_sem];rfl) h
end Go.Proofs.YtknjpdcpmpfklaaGreatDoor
set_option maxRecDepth 100000
namespace Go.Proofs.YtknjpdcpmpfklaaGreatDoor
open Go.RowKit
def L1(w:World)(T:Nat->Prop)(v:Value)(l:List Nat):Prop:=Uw w 0 v l/\∀ i,T i↔v.ownBlock=some i
theorem L1.nil(w:World):L1 w L8 (.slice none 0 0) []:=⟨Uw.nil w 0,fun i=>⟨fun h=>h.elim,fun h=>by cases h⟩⟩
theorem L1.live{w:World}{T:Nat->Prop}{v:Value}{l:List Nat}(h:L1 w T v l):Pa w T:=fun i hi=>(h.1.lt i ((h.2 i).1 hi)).2
theorem L1.byt{w:World}{T:Nat->Prop}{v:Value}{l:List Nat}(h:L1 w T v l):L7 w T v l:=⟨h.1.bytes,h.live,fun _ a n c e=>(h.2 a.block).2 (by rw[e];rfl)⟩
theorem L1.all{S:Nat->Prop}{w w':World}{T:Nat->Prop}{v:Value}{l:List Nat}(h:L1 w T v l)(k:KM S w w')(ha:KJ T S):L1 w' T v l:=⟨h.1.kept k (fun g hg=>ha g ((h.2 g).2 hg)),h.2⟩
instance {w w':World} {T:Nat->Prop} {v:Value} {l:List Nat}:Cr w w' (L1 w T v l) (L1 w' T v l):=⟨fun h k=>h.all k KJ.none⟩
instance {w:World} {T:Nat->Prop} {v:Value} {l:List Nat}:Lv w (L1 w T v l) (T):=⟨fun h=>h.live⟩
theorem L1.one{w:World}{T:Nat->Prop}{v:Value}{l:List Nat}(h:L1 w T v l):v.oneCell'=true:=h.byt.one
theorem L1.oneC{w:World}{T:Nat->Prop}{v:Value}{l:List Nat}(h:L1 w T v l):oneC v=true:=h.byt.oneC
theorem L1.cells{w:World}{T:Nat->Prop}{v:Value}{l:List Nat}(h:L1 w T v l):OP w T:=fun i hi=>by
 have hv:=(h.2 i).1 hi
 rcases h.1.1.2 with ⟨rfl,_⟩ | ⟨g,cap,cur,rfl,_,hg,_⟩
 ·cases hv
 ·cases hv;exact⟨_,hg,rfl⟩
theorem L1.row{A B:World}{row:Option Nat}{n:Nat}{T:Nat->Prop}{v:Value}{l:List Nat}(h:L1 A T v l)(hg:A.grownBy B row)(hr:QH n A row):L1 B T v l:=h.all (Pv hg) (h.cells.apart hr)
theorem L1.lt256{w:World}{T:Nat->Prop}{v:Value}{l:List Nat}(h:L1 w T v l):∀ x∈l,x<256:=h.1.2
theorem L1.of{w:World}{v:Value}{l:List Nat}(h:Uw w 0 v l):L1 w (fun i=>v.ownBlock=some i) v l:=⟨h,fun _=>Iff.rfl⟩
theorem L7.lt256{w:World}{T:Nat->Prop}{v:Value}{l:List Nat}(h:L7 w T v l):∀ x∈l,x<256:=h.1.lt256
def Ns(v:Value)(j:Nat):Value:=match v with
 | .slice (some a) _ _=>.pointer (some (a.add j))
 | _=>undef
section
variable {ρ:Operand->Value} {o:Oper} {w:World} {R:Value->World->Prop}
theorem aC1{x ix:Operand}{T:Nat->Prop}{v:Value}{l:List Nat}{k:IntKind}(j:Nat){i:Int}(ho:o.op = .indexAddr 26 x ix)(hx:ρ x=v)(hi:ρ ix = .int k i)(hij:i=(j:Int))(hb:L7 w T v l)(hj:j<l.length)(h:R (Ns v j) w):Lg Tryz.prog ρ o w R:=by
 subst hij
 obtain⟨⟨a,cap,rfl,_,_,_,_,hc⟩,_⟩:=hb
 obtain⟨b,off,rfl,_,_⟩:=hc (by omega)
 obtain⟨i0,hi0,hz0,hz1,hz2⟩:=info_parts Tryz.info_u8
 exact MN (v:=Ns (.slice (some ⟨b,off,none⟩) l.length cap) j) (w':=w) (by simp[execOp,ho,hx,hi,Instr.indexAt,run_underlying Tryz.underlying26,asIntOf,sizeOf,typeInfo,hi0,hz1,hj,Ns]) h
theorem L7.at_{w:World}{T:Nat->Prop}{v:Value}{l:List Nat}{j:Nat}(hb:L7 w T v l)(hj:j<l.length):∃ a,Ns v j = .pointer (some a)/\w.cell? a=some (.int .u8 (l.getD j 0:Nat)):=by
 obtain⟨⟨a,cap,rfl,_,_,_,_,hc⟩,_⟩:=hb
 obtain⟨b,off,rfl,_,hcell⟩:=hc (by omega)
 exact⟨⟨b,off+j,none⟩,by rw[Ns,Addr.add_lit],hcell j hj⟩
theorem aDi{x:Operand}{T:Nat->Prop}{v:Value}{l:List Nat}{j:Nat}(ho:o.op = .load 5 x)(hx:ρ x=Ns v j)(hb:L7 w T v l)(hj:j<l.length)(h:R (.int .u8 ((l.getD j 0:Nat):Int)) w):Lg Tryz.prog ρ o w R:=by
 obtain⟨a,ha,hc⟩:=hb.at_ hj
 exact Yc ho (hx.trans ha) Tryz.underlying5 rfl hc h
end
theorem TN(w:World)(ty:TypeId)(v x:Value)(l m:List Nat)(hown:Uw w 0 v l)(hx:Mg w x m)(hl:l.length+m.length<1099511627776) :
  ∃ v' w',(Builtin.append_ #[26,26] ty #[v,x]).run Tryz.prog w = .ok v' w'/\XP w w' 0 v v' (l++m)/\(v'.ownBlock=v.ownBlock\/∀ i,v'.ownBlock=some i->w.heap.size<=i):=by
 obtain⟨v',w',hr,hA⟩:=QY w ty 0 v x l m hown hx hl (Nat.zero_le _)
 refine⟨v',w',hr,hA,?_⟩
 obtain⟨i0,hi,hz0,hz1,hz2⟩:=info_parts Tryz.info_u8
 obtain⟨a,cap,rfl,h1,h2,h3,h256,hc⟩:=hx
 rcases hown.1.2 with ⟨rfl,h0⟩ | ⟨g,cp,cur,rfl,hb,hg,hnc,hcm,hcs,htake⟩
 ·-- none yet: whatever there is is new
  right
  intro i hi'
  have hnil:l=[]:=List.eq_nil_of_length_eq_zero h0
  subst hnil
  obtain⟨v2,w2,hr2,hA2⟩:=QY w ty w.heap.size (.slice none 0 0) (.slice a m.length cap) [] m (Uw.nil w _) ⟨a,cap,rfl,h1,h2,h3,h256,hc⟩ (by simpa using hl) (Nat.le_refl _)
  rw[hr] at hr2
  cases hr2
  exact(hA2.1.lt i hi').1
 ·cases a with
  | none =>
   have hc0:=h3 rfl
   subst hc0
   have hm:m=[]:=List.eq_nil_of_length_eq_zero (by omega)
   subst hm
   left
   have hr2:=run_append_owned_none (P:=Tryz.prog) w 0 26 ty _ i0 1 Tryz.underlying26 hi (.slice (some ⟨g,0,none⟩) l.length cp) _ _ hown.1
   simp only[List.length_nil] at hr
   rw[hr2] at hr
   cases hr;rfl
  | some ad =>
   have hcells:∀ j u,(LB m)[j]? = some u->w.cell? (ad.add j)=some u:=by
    intro j u hj
    have hjl:j<m.length:=by
     have:=(List.getElem?_eq_some_iff.1 hj).1
     rwa [Ly] at this
    obtain⟨b,off,he,hb,hcell⟩:=hc (by omega)
    cases he
    rw[Addr.add_lit,hcell j hjl,← hj,OQ m j hjl]
   by_cases hroom:l.length+m.length<=cp
   ·left
    have hr2:=run_append_room (P:=Tryz.prog) w 26 ty 5 i0 Tryz.underlying26 hi g l.length cp cur hg ad m.length cap (LB m) (by rw[hz1,Ly];omega) hcells (PT m) hroom (by rw[hz1,Ly,hcs];omega)
    rw[hr2] at hr
    cases hr;rfl
   ·right
    intro i hi'
    have hr2:=run_append_grow (P:=Tryz.prog) w 26 ty 5 i0 (.int .u8 0) Tryz.underlying26 hi hz0 ⟨g,0,none⟩ l.length cp (LB l) (by rw[hz1,Ly];omega) (hown.1.cells rfl) ad m.length cap (LB m) (by rw[hz1,Ly];omega) hcells (by omega) (by omega) (growslice_fits (by omega) (by rw[hz2];omega))
    rw[hr2] at hr
    cases hr
    cases hi';exact Nat.le_refl _
section
variable {ro:Option Nat} {N:Nat} {Q:(Exit->(Nat->Value)->World->Prop)} {F:Nat->Value} {w:World} {o:Oper}
theorem VH{ops:Array Oper}{rest:List Oper}{x y:Operand}{kl kc:IntKind}{n:Nat}{i j:Int}(hg:o.guard=none)(hd:Ou N o.dst=true)(ho:o.op = .makeSlice 26 x y)(hx:ev (MK N F) x = .int kl i)(hy:ev (MK N F) y = .int kc j)(hi:i=(n:Int))(hj:j=(n:Int))(hn:n<1099511627776)
  (h:∀ v w' T,L1 w' T v (List.replicate n 0)->KP w L8 T->KM (fun _=>False) w w'->wl ro Tryz.prog N ops Q rest (OI F o.dst v) w'):wl ro Tryz.prog N ops Q (o::rest) F w:=by
 subst hi;subst hj
 refine Nq hg hd (aB4 ho hx hy hn (h _ _ _ (L1.of (ayS w 0 n (Nat.zero_le _) hn)) (fun i hi=>.inr ?_) ((KM.refl _ _).alloc _)))
 cases hi;exact Nat.le_refl _
theorem Yx{ops:Array Oper}{rest:List Oper}(hg:o.guard=none)(hd:Ou N o.dst=true)(ho:o.op = .buildSlice 26 0 #[])
  (h:∀ v w' T,L1 w' T v []->KP w L8 T->KM (fun _=>False) w w'->wl ro Tryz.prog N ops Q rest (OI F o.dst v) w'):wl ro Tryz.prog N ops Q (o::rest) F w:=by
 refine Nq hg hd (MN (v:=.slice (some ⟨w.heap.size,0,none⟩) 0 0) (w':=w.alloc (.cells (LB []).toArray 5)) (by simp[execOp,ho,go_sem];rfl) (h _ _ _ (L1.of (Uw.of_new (B:=0) (l:=[]) (heap_alloc_new w _) (Nat.zero_le _) (Nat.zero_le _) (by simp))) (fun i hi=>.inr ?_) ((KM.refl _ _).alloc _)))
 cases hi;exact Nat.le_refl _
theorem VG{ops:Array Oper}{rest:List Oper}{x:Operand}{n:Nat}{z:Int}(hg:o.guard=none)(hd:Ou N o.dst=true)(ho:o.op = .buildSlice 26 1 #[(0,x)])(hx:ev (MK N F) x = .int .u8 z)(hz:z=(n:Int))(hn:n<256)
  (h:∀ v w' T,L1 w' T v [n]->KP w L8 T->KM (fun _=>False) w w'->wl ro Tryz.prog N ops Q rest (OI F o.dst v) w'):wl ro Tryz.prog N ops Q (o::rest) F w:=by
 subst hz
 refine Nq hg hd (azh ho hx (h _ _ _ (L1.of (Uw.of_new (B:=0) (l:=[n]) (heap_alloc_new w _) (Nat.zero_le _) (show 1<=maxLen by decide) (by simpa using hn))) (fun i hi=>.inr ?_) ((KM.refl _ _).alloc _)))
 cases hi;exact Nat.le_refl _
theorem U7{ops:Array Oper}{rest:List Oper}{c:Call}{x y:Operand}{T U:Nat->Prop}{v u:Value}{l m:List Nat}(hg:o.guard=none)(hd:Ou N o.dst=true)(ho:o.op = .call c)(hc:c={ callee:=.builtin .append,args:=#[x,y],argTypes:=#[26,26] })(hx:ev (MK N F) x=v)(hy:ev (MK N F) y=u)(hv:L1 w T v l)(hu:L7 w U u m)(hl:l.length+m.length<1099511627776)
  (h:∀ v' w' T',L1 w' T' v' (l++m)->KP w T T'->KM T w w'->wl ro Tryz.prog N ops Q rest (OI F o.dst v') w'):wl ro Tryz.prog N ops Q (o::rest) F w:=by
 subst hc
 obtain⟨v',w',hr,hA,hw⟩:=TN w o.type v u l m hv.1 hu.1 hl
 refine Nq hg hd (MN (v:=v') (w':=w') (by simp[execOp,ho,resolve,invoke,builtin,hx,hy,hr]) (h v' w' _ (L1.of hA.1) (fun i hi=>?_) ((KM.refl T w).grown hA.2 (fun k e _=>(hv.2 k).2 e))))
 rcases hw with hw|hw
 ·exact .inl ((hv.2 i).2 (hw ▸ hi))
 ·exact .inr (hw i hi)
theorem Vr{ops:Array Oper}{rest:List Oper}{c:Call}{x y:Operand}{T U:Nat->Prop}{v u:Value}{l m:List Nat}(hg:o.guard=none)(hd:Ou N o.dst=true)(ho:o.op = .call c)(hc:c={ callee:=.builtin .copy,args:=#[x,y],argTypes:=#[26,26] })(hx:ev (MK N F) x=v)(hy:ev (MK N F) y=u)(hv:L1 w T v l)(hu:L7 w U u m)(hl:l.length=m.length)
  (h:∀ w',L1 w' T v m->KM T w w'->wl ro Tryz.prog N ops Q rest (OI F o.dst (.int .i64 ((m.length:Nat):Int))) w'):wl ro Tryz.prog N ops Q (o::rest) F w:=by
 subst hc
 have hsz:(Tryz.prog.info? 5).map (·.size)=some 1:=by
  obtain⟨i0,hi0,hz0,hz1,hz2⟩:=info_parts Tryz.info_u8
  rw[hi0];simp[hz1]
 obtain⟨⟨a,cap,rfl,h1,h2,h3,h256,hcu⟩,_⟩:=hu
 obtain⟨sa,scap,hsv⟩:=hv.1.shape
 by_cases h0:m.length=0
 ·have hm:m=[]:=List.eq_nil_of_length_eq_zero h0
  subst hm
  have hnil:l=[]:=List.eq_nil_of_length_eq_zero hl
  subst hnil
  have hrun:=run_copy_none (P:=Tryz.prog) w 26 26 o.type 5 sa a 0 scap 0 cap Tryz.underlying26 hsz rfl
  refine Nq hg hd (MN (v:=.int .i64 0) (w':=w) (by simp[execOp,ho,resolve,invoke,builtin,hx,hy,hsv,hrun,Result.andThen];rfl) (h w hv (KM.refl _ _)))
 ·obtain⟨b,off,rfl,_,hcell⟩:=hcu (by omega)
  rcases hv.1.1.2 with ⟨rfl,hz⟩ | ⟨g,cp,cur,rfl,hb,hgg,hnc,hcm,hcs,htake⟩
  ·omega
  ·have hrun:=run_copy_row (P:=Tryz.prog) w 26 26 o.type 5 g 0 l.length cp ⟨b,off,none⟩ m.length cap cur 5 (LB m) Tryz.underlying26 hsz hgg (by rw[Ly,hl];simp) (fun j u hj=>by
    have hjl:j<m.length:=by
     have:=(List.getElem?_eq_some_iff.1 hj).1
     rwa [Ly] at this
    rw[Addr.add_lit,hcell j hjl,← hj,OQ m j hjl]) (by rw[Ly];omega) (PT m)
   refine Nq hg hd (MN (v:=.int .i64 ((m.length:Nat):Int)) (w':=w.setRow g (cur.toList.take 0++(LB m++cur.toList.drop (0+(LB m).length))).toArray) (by simp[execOp,ho,resolve,invoke,builtin,hx,hy,hrun,Result.andThen,Ly];rfl) (h _ ⟨⟨⟨?_,.inr ⟨g,cp,_,?_,Nat.zero_le _,setRow_heap w g cur _ _ _ hgg,?_,hcm,?_,?_⟩⟩,h256⟩,hv.2⟩ ((KM.refl T w).setRow g (fun _=>(hv.2 g).2 rfl) _)))
   ·rw[Ly];omega
   ·rw[hl]
   ·omega
   ·simp[Ly];omega
   ·simp[Ly]
end
end Go.Proofs.YtknjpdcpmpfklaaGreatDoor
set_option maxRecDepth 100000
namespace Go.Proofs.YtknjpdcpmpfklaaGreatDoor
open Go.RowKit
theorem KZ:Qs Tryz.prog 29 5:=⟨_,Tryz.underlying29,rfl,by kernel_rfl⟩
end Go.Proofs.YtknjpdcpmpfklaaGreatDoor
set_option maxRecDepth 100000
namespace Go.Proofs.YtknjpdcpmpfklaaGreatDoor
open Go.RowKit
theorem aBi(n:Int):IntKind.u8.wrap (min (max n 0) 255)=((LU n:Nat):Int):=by
 unfold LU IntKind.wrap;simp[IntKind.signed,IntKind.bits];omega
theorem MR(f:FD)(f0 f1 f2:Value)(T_f0:Nat->Prop)(T_f1:Nat->Prop)(T_f2:Nat->Prop)(w0:World)(h_f0:L7 w0 T_f0 f0 ((f).p0))(h_f1:L7 w0 T_f1 f1 ((f).p1))(h_f2:L7 w0 T_f2 f2 ((f).p2)) :
  Calls Tryz.prog 9 #[.agg #[.int .i64 ((f).W),.int .i64 ((f).H),f0,f1,f2]] w0 fun e w'=>e = .returned (.bool (M3 f))/\KM (fun _=>False) w0 w':=by
 refine Lp (args:=[.agg #[iv (f.W),iv (f.H),f0,f1,f2]]) 22 Tryz.func9 rfl rfl (Nat.le_of_ble_eq_true rfl) ?_
 have g_f0:=KP.refl w0 T_f0
 have g_f1:=KP.refl w0 T_f1
 have g_f2:=KP.refl w0 T_f2
 refine KH (KF (Lt (vs:=[iv (f.W),iv (f.H),f0,f1,f2]) rfl rfl rfl rfl fun p1 w2 B4 g5 k3=>?_))
 obtain⟨ae,ak,an⟩:=Nx k3 h_f0 h_f1 h_f2
 have af:=(KM.refl (fun _=>False) w0).tr k3
 refine KG (.bool false) rfl rfl (KT rfl rfl rr) (KL ?_)
 have ah:=K4 (undef)
 have ac:=K4 (pt p1 0)
 refine KE (KH ?_)
 by_cases ai:(((f.p0).length:Nat):Int)<=10000
 ·skip
  by_cases am:(((f.p1).length:Nat):Int)<=10000
  ·skip
   refine KF (KG (pt p1 2) rfl rfl (KQ (n:=3) rfl ac Tryz.underlying29 rfl (by kernel_rfl) (by decide) rfl rr) (KG (pt p1 2) rfl rfl (LQ 0 (s:=1) rfl rfl rfl (by omega) Tryz.underlying27 (by omega) (by kernel_rfl) (by omega) rr) (KG f0 rfl rfl (KR rfl rfl Tryz.underlying26 B4 rfl rfl rr) (KG (iv (((f.p0).length:Nat):Int)) rfl rfl (M0 rfl rfl rfl ae rr) (KG (.bool true) rfl rfl (Nc rfl rfl rfl (decide_eq_true ai) rr) (KG (.bool true) rfl rfl (KN rfl rfl rr) (KO (pt p1 2) 5 true 8 rfl rfl rfl rfl rfl (KQ (n:=3) rfl ac Tryz.underlying29 rfl (by kernel_rfl) (by decide) rfl rr) (KO (pt p1 3) 5 true 8 rfl rfl rfl rfl rfl (LQ 1 (s:=1) rfl rfl rfl (by omega) Tryz.underlying27 (by omega) (by kernel_rfl) (by omega) rr) (KO f1 5 true 8 rfl rfl rfl rfl rfl (KR rfl rfl Tryz.underlying26 B4 rfl rfl rr) (KO (iv (((f.p1).length:Nat):Int)) 5 true 8 rfl rfl rfl rfl rfl (M0 rfl rfl rfl ak rr) (KO (.bool true) 5 true 8 rfl rfl rfl rfl rfl (Nc rfl rfl rfl (decide_eq_true am) rr) ?_)))))))))))
   refine KG (.bool true) rfl rfl (Ld rfl rfl rfl rr) (KG (.bool true) rfl rfl (KN rfl rfl rr) (KO (pt p1 2) 12 true 15 rfl rfl rfl rfl rfl (KQ (n:=3) rfl ac Tryz.underlying29 rfl (by kernel_rfl) (by decide) rfl rr) (KO (pt p1 4) 12 true 15 rfl rfl rfl rfl rfl (LQ 2 (s:=1) rfl rfl rfl (by omega) Tryz.underlying27 (by omega) (by kernel_rfl) (by omega) rr) (KO f2 12 true 15 rfl rfl rfl rfl rfl (KR rfl rfl Tryz.underlying26 B4 rfl rfl rr) (KO (iv (((f.p2).length:Nat):Int)) 12 true 15 rfl rfl rfl rfl rfl (M0 rfl rfl rfl an rr) (KO (.bool (decide ((((f.p2).length:Nat):Int)<=10000))) 12 true 15 rfl rfl rfl rfl rfl (Nc rfl rfl rfl rfl rr) (KG (.bool (decide ((((f.p2).length:Nat):Int)<=10000))) rfl rfl (Ld rfl rfl rfl rr) (KG (.bool (decide ((((f.p2).length:Nat):Int)<=10000))) rfl rfl (KT rfl rfl rr) (KL ?_)))))))))
   have ao:=K4 (.bool (decide ((((f.p2).length:Nat):Int)<=10000)))
   refine KE (La ?_)
   exact Lq (v:=.bool (decide ((((f.p2).length:Nat):Int)<=10000))) ah rfl rfl ao ⟨(by first|rw[YK (by assumption)]|rw[Y5 (by assumption)]|rw[YY (by assumption) (by assumption)]),af⟩
  ·skip
   refine KF (KG (pt p1 2) rfl rfl (KQ (n:=3) rfl ac Tryz.underlying29 rfl (by kernel_rfl) (by decide) rfl rr) (KG (pt p1 2) rfl rfl (LQ 0 (s:=1) rfl rfl rfl (by omega) Tryz.underlying27 (by omega) (by kernel_rfl) (by omega) rr) (KG f0 rfl rfl (KR rfl rfl Tryz.underlying26 B4 rfl rfl rr) (KG (iv (((f.p0).length:Nat):Int)) rfl rfl (M0 rfl rfl rfl ae rr) (KG (.bool true) rfl rfl (Nc rfl rfl rfl (decide_eq_true ai) rr) (KG (.bool true) rfl rfl (KN rfl rfl rr) (KO (pt p1 2) 5 true 8 rfl rfl rfl rfl rfl (KQ (n:=3) rfl ac Tryz.underlying29 rfl (by kernel_rfl) (by decide) rfl rr) (KO (pt p1 3) 5 true 8 rfl rfl rfl rfl rfl (LQ 1 (s:=1) rfl rfl rfl (by omega) Tryz.underlying27 (by omega) (by kernel_rfl) (by omega) rr) (KO f1 5 true 8 rfl rfl rfl rfl rfl (KR rfl rfl Tryz.underlying26 B4 rfl rfl rr) (KO (iv (((f.p1).length:Nat):Int)) 5 true 8 rfl rfl rfl rfl rfl (M0 rfl rfl rfl ak rr) (KO (.bool false) 5 true 8 rfl rfl rfl rfl rfl (Nc rfl rfl rfl (decide_eq_false am) rr) ?_)))))))))))
   refine KG (.bool false) rfl rfl (Ld rfl rfl rfl rr) (KG (.bool false) rfl rfl (KN rfl rfl rr) (KI 12 true 15 rfl rfl rfl (Or.inl rfl) rfl (KI 12 true 15 rfl rfl rfl (Or.inl rfl) rfl (KI 12 true 15 rfl rfl rfl (Or.inl rfl) rfl (KI 12 true 15 rfl rfl rfl (Or.inl rfl) rfl (KI 12 true 15 rfl rfl rfl (Or.inl rfl) rfl (KG (.bool false) rfl rfl (K6 rfl rfl rfl rr) (KG (.bool false) rfl rfl (KT rfl rfl rr) (KL ?_)))))))))
   have ap:=K4 (.bool false)
   refine KE (La ?_)
   exact Lq (v:=.bool false) ah rfl rfl ap ⟨(by first|rw[YK (by assumption)]|rw[Y5 (by assumption)]|rw[YY (by assumption) (by assumption)]),af⟩
 ·skip
  refine KF (KG (pt p1 2) rfl rfl (KQ (n:=3) rfl ac Tryz.underlying29 rfl (by kernel_rfl) (by decide) rfl rr) (KG (pt p1 2) rfl rfl (LQ 0 (s:=1) rfl rfl rfl (by omega) Tryz.underlying27 (by omega) (by kernel_rfl) (by omega) rr) (KG f0 rfl rfl (KR rfl rfl Tryz.underlying26 B4 rfl rfl rr) (KG (iv (((f.p0).length:Nat):Int)) rfl rfl (M0 rfl rfl rfl ae rr) (KG (.bool false) rfl rfl (Nc rfl rfl rfl (decide_eq_false ai) rr) (KG (.bool false) rfl rfl (KN rfl rfl rr) (KI 5 true 8 rfl rfl rfl (Or.inl rfl) rfl (KI 5 true 8 rfl rfl rfl (Or.inl rfl) rfl (KI 5 true 8 rfl rfl rfl (Or.inl rfl) rfl (KI 5 true 8 rfl rfl rfl (Or.inl rfl) rfl (KI 5 true 8 rfl rfl rfl (Or.inl rfl) rfl ?_)))))))))))
  refine KG (.bool false) rfl rfl (K6 rfl rfl rfl rr) (KG (.bool false) rfl rfl (KN rfl rfl rr) (KI 12 true 15 rfl rfl rfl (Or.inl rfl) rfl (KI 12 true 15 rfl rfl rfl (Or.inl rfl) rfl (KI 12 true 15 rfl rfl rfl (Or.inl rfl) rfl (KI 12 true 15 rfl rfl rfl (Or.inl rfl) rfl (KI 12 true 15 rfl rfl rfl (Or.inl rfl) rfl (KG (.bool false) rfl rfl (K6 rfl rfl rfl rr) (KG (.bool false) rfl rfl (KT rfl rfl rr) (KL ?_)))))))))
  have aq:=K4 (.bool false)
  refine KE (La ?_)
  exact Lq (v:=.bool false) ah rfl rfl aq ⟨(by first|rw[YK (by assumption)]|rw[Y5 (by assumption)]|rw[YY (by assumption) (by assumption)]),af⟩
theorem ZY(a:FD)(a0 a1 a2:Value)(b:FD)(b0 b1 b2:Value)(T_a0:Nat->Prop)(T_a1:Nat->Prop)(T_a2:Nat->Prop)(T_b0:Nat->Prop)(T_b1:Nat->Prop)(T_b2:Nat->Prop)(w0:World)(h_a0:L7 w0 T_a0 a0 ((a).p0))(h_a1:L7 w0 T_a1 a1 ((a).p1))(h_a2:L7 w0 T_a2 a2 ((a).p2))(h_b0:L7 w0 T_b0 b0 ((b).p0))(h_b1:L7 w0 T_b1 b1 ((b).p1))(h_b2:L7 w0 T_b2 b2 ((b).p2)) :
  Calls Tryz.prog 15 #[.agg #[.int .i64 ((a).W),.int .i64 ((a).H),a0,a1,a2],.agg #[.int .i64 ((b).W),.int .i64 ((b).H),b0,b1,b2]] w0 fun e w'=>e = .returned (.bool (Rx a b))/\KM (fun _=>False) w0 w':=by
 refine Lp (args:=[.agg #[iv (a.W),iv (a.H),a0,a1,a2],.agg #[iv (b.W),iv (b.H),b0,b1,b2]]) 52 Tryz.func15 rfl rfl (Nat.le_of_ble_eq_true rfl) ?_
 have g_a0:=KP.refl w0 T_a0
 have g_a1:=KP.refl w0 T_a1
 have g_a2:=KP.refl w0 T_a2
 have g_b0:=KP.refl w0 T_b0
 have g_b1:=KP.refl w0 T_b1
 have g_b2:=KP.refl w0 T_b2
 refine KH (KF (Lt (vs:=[iv (a.W),iv (a.H),a0,a1,a2]) rfl rfl rfl rfl fun p1 w2 B4 g5 k3=>?_))
 obtain⟨aE,aF,aG,aH,aI,aJ⟩:=Qt k3 h_a0 h_a1 h_a2 h_b0 h_b1 h_b2
 refine Lt (vs:=[iv (b.W),iv (b.H),b0,b1,b2]) rfl rfl rfl rfl fun ab a8 ac a9 av=>?_
 obtain⟨am,aw,aK,an,az,aL,ae⟩:=Sl av aE aF aG aH aI aJ B4
 have ai:=((KM.refl (fun _=>False) w0).tr k3).tr av
 refine KG (.bool false) rfl rfl (KT rfl rfl rr) (KL ?_)
 have aj:=K4 (undef)
 have af:=K4 (pt p1 0)
 have ah:=K4 (pt ab 0)
 refine KE (KH ?_)
 rcases Bool.eq_false_or_eq_true ((Mh (a.p0)).toList==(Mh (b.p0)).toList) with ak|ak
 ·skip
  rcases Bool.eq_false_or_eq_true ((Mh (a.p1)).toList==(Mh (b.p1)).toList) with ao|ao
  ·skip
   refine KF (KG (pt p1 2) rfl rfl (KQ (n:=3) rfl af Tryz.underlying29 rfl (by kernel_rfl) (by decide) rfl rr) (KG (pt p1 2) rfl rfl (LQ 0 (s:=1) rfl rfl rfl (by omega) Tryz.underlying27 (by omega) (by kernel_rfl) (by omega) rr) (KG a0 rfl rfl (KR rfl rfl Tryz.underlying26 ae rfl rfl rr) (KG (.string (Mh (a.p0))) rfl rfl (PE rfl (N1 rfl am) rr) (KG (pt ab 2) rfl rfl (KQ (n:=3) rfl ah Tryz.underlying29 rfl (by kernel_rfl) (by decide) rfl rr) (KG (pt ab 2) rfl rfl (LQ 0 (s:=1) rfl rfl rfl (by omega) Tryz.underlying27 (by omega) (by kernel_rfl) (by omega) rr) (KG b0 rfl rfl (KR rfl rfl Tryz.underlying26 ac rfl rfl rr) (KG (.string (Mh (b.p0))) rfl rfl (PE rfl (N1 rfl an) rr) (KG (.bool true) rfl rfl (TO rfl rfl rfl ak rr) (KG (.bool true) rfl rfl (KN rfl rfl rr) (KO (pt p1 2) 9 true 15 rfl rfl rfl rfl rfl (KQ (n:=3) rfl af Tryz.underlying29 rfl (by kernel_rfl) (by decide) rfl rr) ?_)))))))))))
   refine KO (pt p1 3) 9 true 15 rfl rfl rfl rfl rfl (LQ 1 (s:=1) rfl rfl rfl (by omega) Tryz.underlying27 (by omega) (by kernel_rfl) (by omega) rr) (KO a1 9 true 15 rfl rfl rfl rfl rfl (KR rfl rfl Tryz.underlying26 ae rfl rfl rr) (KO (.string (Mh (a.p1))) 9 true 15 rfl rfl rfl rfl rfl (PE rfl (N1 rfl aw) rr) (KO (pt ab 2) 9 true 15 rfl rfl rfl rfl rfl (KQ (n:=3) rfl ah Tryz.underlying29 rfl (by kernel_rfl) (by decide) rfl rr) (KO (pt ab 3) 9 true 15 rfl rfl rfl rfl rfl (LQ 1 (s:=1) rfl rfl rfl (by omega) Tryz.underlying27 (by omega) (by kernel_rfl) (by omega) rr) (KO b1 9 true 15 rfl rfl rfl rfl rfl (KR rfl rfl Tryz.underlying26 ac rfl rfl rr) (KO (.string (Mh (b.p1))) 9 true 15 rfl rfl rfl rfl rfl (PE rfl (N1 rfl az) rr) (KO (.bool true) 9 true 15 rfl rfl rfl rfl rfl (TO rfl rfl rfl ao rr) (KG (.bool true) rfl rfl (Ld rfl rfl rfl rr) (KG (.bool true) rfl rfl (KN rfl rfl rr) (KO (pt p1 2) 20 true 26 rfl rfl rfl rfl rfl (KQ (n:=3) rfl af Tryz.underlying29 rfl (by kernel_rfl) (by decide) rfl rr) (KO (pt p1 4) 20 true 26 rfl rfl rfl rfl rfl (LQ 2 (s:=1) rfl rfl rfl (by omega) Tryz.underlying27 (by omega) (by kernel_rfl) (by omega) rr) ?_)))))))))))
   refine KO a2 20 true 26 rfl rfl rfl rfl rfl (KR rfl rfl Tryz.underlying26 ae rfl rfl rr) (KO (.string (Mh (a.p2))) 20 true 26 rfl rfl rfl rfl rfl (PE rfl (N1 rfl aK) rr) (KO (pt ab 2) 20 true 26 rfl rfl rfl rfl rfl (KQ (n:=3) rfl ah Tryz.underlying29 rfl (by kernel_rfl) (by decide) rfl rr) (KO (pt ab 4) 20 true 26 rfl rfl rfl rfl rfl (LQ 2 (s:=1) rfl rfl rfl (by omega) Tryz.underlying27 (by omega) (by kernel_rfl) (by omega) rr) (KO b2 20 true 26 rfl rfl rfl rfl rfl (KR rfl rfl Tryz.underlying26 ac rfl rfl rr) (KO (.string (Mh (b.p2))) 20 true 26 rfl rfl rfl rfl rfl (PE rfl (N1 rfl aL) rr) (KO (.bool ((Mh (a.p2)).toList==(Mh (b.p2)).toList)) 20 true 26 rfl rfl rfl rfl rfl (TO rfl rfl rfl rfl rr) (KG (.bool ((Mh (a.p2)).toList==(Mh (b.p2)).toList)) rfl rfl (Ld rfl rfl rfl rr) (KG (.bool ((Mh (a.p2)).toList==(Mh (b.p2)).toList)) rfl rfl (KT rfl rfl rr) (KL ?_)))))))))
   have aM:=K4 (.bool ((Mh (a.p2)).toList==(Mh (b.p2)).toList))
   refine KE (KH ?_)
   by_cases ap:(a.W)=(b.W)
   ·skip
    by_cases aA:(a.H)=(b.H)
    ·skip
     refine KF (KG (pt p1 0) rfl rfl (KQ (n:=1) rfl af Tryz.underlying29 rfl (by kernel_rfl) (by decide) rfl rr) (KG (iv (a.W)) rfl rfl (KR rfl rfl Tryz.underlying3 ae rfl rfl rr) (KG (pt ab 0) rfl rfl (KQ (n:=1) rfl ah Tryz.underlying29 rfl (by kernel_rfl) (by decide) rfl rr) (KG (iv (b.W)) rfl rfl (KR rfl rfl Tryz.underlying3 ac rfl rfl rr) (KG (.bool true) rfl rfl (LZ rfl rfl rfl (decide_eq_true ap) rr) (KG (.bool true) rfl rfl (KN rfl rfl rr) (KO (pt p1 1) 5 true 42 rfl rfl rfl rfl rfl (KQ (n:=1) rfl af Tryz.underlying29 rfl (by kernel_rfl) (by decide) rfl rr) (KO (iv (a.H)) 5 true 42 rfl rfl rfl rfl rfl (KR rfl rfl Tryz.underlying3 ae rfl rfl rr) (KO (pt ab 1) 5 true 42 rfl rfl rfl rfl rfl (KQ (n:=1) rfl ah Tryz.underlying29 rfl (by kernel_rfl) (by decide) rfl rr) (KO (iv (b.H)) 5 true 42 rfl rfl rfl rfl rfl (KR rfl rfl Tryz.underlying3 ac rfl rfl rr) (KO (.bool true) 5 true 42 rfl rfl rfl rfl rfl (LZ rfl rfl rfl (decide_eq_true aA) rr) ?_)))))))))))
     refine KG (.bool true) rfl rfl (Ld rfl rfl rfl rr) (KG (.bool true) rfl rfl (KN rfl rfl rr) (KO (.bool ((Mh (a.p2)).toList==(Mh (b.p2)).toList)) 12 true 49 rfl rfl rfl rfl rfl (KN rfl aM rr) (KG (.bool ((Mh (a.p2)).toList==(Mh (b.p2)).toList)) rfl rfl (Ld rfl rfl rfl rr) (KG (.bool ((Mh (a.p2)).toList==(Mh (b.p2)).toList)) rfl rfl (KT rfl rfl rr) (KL ?_)))))
     have aN:=K4 (.bool ((Mh (a.p2)).toList==(Mh (b.p2)).toList))
     refine KE (La ?_)
     exact Lq (v:=.bool ((Mh (a.p2)).toList==(Mh (b.p2)).toList)) aj rfl rfl aN ⟨(by first|rw[PW (by assumption)]|rw[PS (by assumption)]|rw[PO (by assumption)]|rw[PQ (by assumption)]|rw[PP (by assumption) (by assumption) (by assumption) (by assumption)]),ai⟩
    ·skip
     refine KF (KG (pt p1 0) rfl rfl (KQ (n:=1) rfl af Tryz.underlying29 rfl (by kernel_rfl) (by decide) rfl rr) (KG (iv (a.W)) rfl rfl (KR rfl rfl Tryz.underlying3 ae rfl rfl rr) (KG (pt ab 0) rfl rfl (KQ (n:=1) rfl ah Tryz.underlying29 rfl (by kernel_rfl) (by decide) rfl rr) (KG (iv (b.W)) rfl rfl (KR rfl rfl Tryz.underlying3 ac rfl rfl rr) (KG (.bool true) rfl rfl (LZ rfl rfl rfl (decide_eq_true ap) rr) (KG (.bool true) rfl rfl (KN rfl rfl rr) (KO (pt p1 1) 5 true 42 rfl rfl rfl rfl rfl (KQ (n:=1) rfl af Tryz.underlying29 rfl (by kernel_rfl) (by decide) rfl rr) (KO (iv (a.H)) 5 true 42 rfl rfl rfl rfl rfl (KR rfl rfl Tryz.underlying3 ae rfl rfl rr) (KO (pt ab 1) 5 true 42 rfl rfl rfl rfl rfl (KQ (n:=1) rfl ah Tryz.underlying29 rfl (by kernel_rfl) (by decide) rfl rr) (KO (iv (b.H)) 5 true 42 rfl rfl rfl rfl rfl (KR rfl rfl Tryz.underlying3 ac rfl rfl rr) (KO (.bool false) 5 true 42 rfl rfl rfl rfl rfl (LZ rfl rfl rfl (decide_eq_false aA) rr) ?_)))))))))))
     refine KG (.bool false) rfl rfl (Ld rfl rfl rfl rr) (KG (.bool false) rfl rfl (KN rfl rfl rr) (KI 12 true 49 rfl rfl rfl (Or.inl rfl) rfl (KG (.bool false) rfl rfl (K6 rfl rfl rfl rr) (KG (.bool false) rfl rfl (KT rfl rfl rr) (KL ?_)))))
     have aO:=K4 (.bool false)
     refine KE (La ?_)
     exact Lq (v:=.bool false) aj rfl rfl aO ⟨(by first|rw[PW (by assumption)]|rw[PS (by assumption)]|rw[PO (by assumption)]|rw[PQ (by assumption)]|rw[PP (by assumption) (by assumption) (by assumption) (by assumption)]),ai⟩
   ·skip
    refine KF (KG (pt p1 0) rfl rfl (KQ (n:=1) rfl af Tryz.underlying29 rfl (by kernel_rfl) (by decide) rfl rr) (KG (iv (a.W)) rfl rfl (KR rfl rfl Tryz.underlying3 ae rfl rfl rr) (KG (pt ab 0) rfl rfl (KQ (n:=1) rfl ah Tryz.underlying29 rfl (by kernel_rfl) (by decide) rfl rr) (KG (iv (b.W)) rfl rfl (KR rfl rfl Tryz.underlying3 ac rfl rfl rr) (KG (.bool false) rfl rfl (LZ rfl rfl rfl (decide_eq_false ap) rr) (KG (.bool false) rfl rfl (KN rfl rfl rr) (KI 5 true 42 rfl rfl rfl (Or.inl rfl) rfl (KI 5 true 42 rfl rfl rfl (Or.inl rfl) rfl (KI 5 true 42 rfl rfl rfl (Or.inl rfl) rfl (KI 5 true 42 rfl rfl rfl (Or.inl rfl) rfl (KI 5 true 42 rfl rfl rfl (Or.inl rfl) rfl ?_)))))))))))
    refine KG (.bool false) rfl rfl (K6 rfl rfl rfl rr) (KG (.bool false) rfl rfl (KN rfl rfl rr) (KI 12 true 49 rfl rfl rfl (Or.inl rfl) rfl (KG (.bool false) rfl rfl (K6 rfl rfl rfl rr) (KG (.bool false) rfl rfl (KT rfl rfl rr) (KL ?_)))))
    have aP:=K4 (.bool false)
    refine KE (La ?_)
    exact Lq (v:=.bool false) aj rfl rfl aP ⟨(by first|rw[PW (by assumption)]|rw[PS (by assumption)]|rw[PO (by assumption)]|rw[PQ (by assumption)]|rw[PP (by assumption) (by assumption) (by assumption) (by assumption)]),ai⟩
  ·skip
   refine KF (KG (pt p1 2) rfl rfl (KQ (n:=3) rfl af Tryz.underlying29 rfl (by kernel_rfl) (by decide) rfl rr) (KG (pt p1 2) rfl rfl (LQ 0 (s:=1) rfl rfl rfl (by omega) Tryz.underlying27 (by omega) (by kernel_rfl) (by omega) rr) (KG a0 rfl rfl (KR rfl rfl Tryz.underlying26 ae rfl rfl rr) (KG (.string (Mh (a.p0))) rfl rfl (PE rfl (N1 rfl am) rr) (KG (pt ab 2) rfl rfl (KQ (n:=3) rfl ah Tryz.underlying29 rfl (by kernel_rfl) (by decide) rfl rr) (KG (pt ab 2) rfl rfl (LQ 0 (s:=1) rfl rfl rfl (by omega) Tryz.underlying27 (by omega) (by kernel_rfl) (by omega) rr) (KG b0 rfl rfl (KR rfl rfl Tryz.underlying26 ac rfl rfl rr) (KG (.string (Mh (b.p0))) rfl rfl (PE rfl (N1 rfl an) rr) (KG (.bool true) rfl rfl (TO rfl rfl rfl ak rr) (KG (.bool true) rfl rfl (KN rfl rfl rr) (KO (pt p1 2) 9 true 15 rfl rfl rfl rfl rfl (KQ (n:=3) rfl af Tryz.underlying29 rfl (by kernel_rfl) (by decide) rfl rr) ?_)))))))))))
   refine KO (pt p1 3) 9 true 15 rfl rfl rfl rfl rfl (LQ 1 (s:=1) rfl rfl rfl (by omega) Tryz.underlying27 (by omega) (by kernel_rfl) (by omega) rr) (KO a1 9 true 15 rfl rfl rfl rfl rfl (KR rfl rfl Tryz.underlying26 ae rfl rfl rr) (KO (.string (Mh (a.p1))) 9 true 15 rfl rfl rfl rfl rfl (PE rfl (N1 rfl aw) rr) (KO (pt ab 2) 9 true 15 rfl rfl rfl rfl rfl (KQ (n:=3) rfl ah Tryz.underlying29 rfl (by kernel_rfl) (by decide) rfl rr) (KO (pt ab 3) 9 true 15 rfl rfl rfl rfl rfl (LQ 1 (s:=1) rfl rfl rfl (by omega) Tryz.underlying27 (by omega) (by kernel_rfl) (by omega) rr) (KO b1 9 true 15 rfl rfl rfl rfl rfl (KR rfl rfl Tryz.underlying26 ac rfl rfl rr) (KO (.string (Mh (b.p1))) 9 true 15 rfl rfl rfl rfl rfl (PE rfl (N1 rfl az) rr) (KO (.bool false) 9 true 15 rfl rfl rfl rfl rfl (TO rfl rfl rfl ao rr) (KG (.bool false) rfl rfl (Ld rfl rfl rfl rr) (KG (.bool false) rfl rfl (KN rfl rfl rr) (KI 20 true 26 rfl rfl rfl (Or.inl rfl) rfl (KI 20 true 26 rfl rfl rfl (Or.inl rfl) rfl ?_)))))))))))
   refine KI 20 true 26 rfl rfl rfl (Or.inl rfl) rfl (KI 20 true 26 rfl rfl rfl (Or.inl rfl) rfl (KI 20 true 26 rfl rfl rfl (Or.inl rfl) rfl (KI 20 true 26 rfl rfl rfl (Or.inl rfl) rfl (KI 20 true 26 rfl rfl rfl (Or.inl rfl) rfl (KI 20 true 26 rfl rfl rfl (Or.inl rfl) rfl (KI 20 true 26 rfl rfl rfl (Or.inl rfl) rfl (KG (.bool false) rfl rfl (K6 rfl rfl rfl rr) (KG (.bool false) rfl rfl (KT rfl rfl rr) (KL ?_)))))))))
   have aQ:=K4 (.bool false)
   refine KE (KH ?_)
   by_cases aq:(a.W)=(b.W)
   ·skip
    by_cases aB:(a.H)=(b.H)
    ·skip
     refine KF (KG (pt p1 0) rfl rfl (KQ (n:=1) rfl af Tryz.underlying29 rfl (by kernel_rfl) (by decide) rfl rr) (KG (iv (a.W)) rfl rfl (KR rfl rfl Tryz.underlying3 ae rfl rfl rr) (KG (pt ab 0) rfl rfl (KQ (n:=1) rfl ah Tryz.underlying29 rfl (by kernel_rfl) (by decide) rfl rr) (KG (iv (b.W)) rfl rfl (KR rfl rfl Tryz.underlying3 ac rfl rfl rr) (KG (.bool true) rfl rfl (LZ rfl rfl rfl (decide_eq_true aq) rr) (KG (.bool true) rfl rfl (KN rfl rfl rr) (KO (pt p1 1) 5 true 42 rfl rfl rfl rfl rfl (KQ (n:=1) rfl af Tryz.underlying29 rfl (by kernel_rfl) (by decide) rfl rr) (KO (iv (a.H)) 5 true 42 rfl rfl rfl rfl rfl (KR rfl rfl Tryz.underlying3 ae rfl rfl rr) (KO (pt ab 1) 5 true 42 rfl rfl rfl rfl rfl (KQ (n:=1) rfl ah Tryz.underlying29 rfl (by kernel_rfl) (by decide) rfl rr) (KO (iv (b.H)) 5 true 42 rfl rfl rfl rfl rfl (KR rfl rfl Tryz.underlying3 ac rfl rfl rr) (KO (.bool true) 5 true 42 rfl rfl rfl rfl rfl (LZ rfl rfl rfl (decide_eq_true aB) rr) ?_)))))))))))
     refine KG (.bool true) rfl rfl (Ld rfl rfl rfl rr) (KG (.bool true) rfl rfl (KN rfl rfl rr) (KO (.bool false) 12 true 49 rfl rfl rfl rfl rfl (KN rfl aQ rr) (KG (.bool false) rfl rfl (Ld rfl rfl rfl rr) (KG (.bool false) rfl rfl (KT rfl rfl rr) (KL ?_)))))
     have aR:=K4 (.bool false)
     refine KE (La ?_)
     exact Lq (v:=.bool false) aj rfl rfl aR ⟨(by first|rw[PW (by assumption)]|rw[PS (by assumption)]|rw[PO (by assumption)]|rw[PQ (by assumption)]|rw[PP (by assumption) (by assumption) (by assumption) (by assumption)]),ai⟩
    ·skip
     refine KF (KG (pt p1 0) rfl rfl (KQ (n:=1) rfl af Tryz.underlying29 rfl (by kernel_rfl) (by decide) rfl rr) (KG (iv (a.W)) rfl rfl (KR rfl rfl Tryz.underlying3 ae rfl rfl rr) (KG (pt ab 0) rfl rfl (KQ (n:=1) rfl ah Tryz.underlying29 rfl (by kernel_rfl) (by decide) rfl rr) (KG (iv (b.W)) rfl rfl (KR rfl rfl Tryz.underlying3 ac rfl rfl rr) (KG (.bool true) rfl rfl (LZ rfl rfl rfl (decide_eq_true aq) rr) (KG (.bool true) rfl rfl (KN rfl rfl rr) (KO (pt p1 1) 5 true 42 rfl rfl rfl rfl rfl (KQ (n:=1) rfl af Tryz.underlying29 rfl (by kernel_rfl) (by decide) rfl rr) (KO (iv (a.H)) 5 true 42 rfl rfl rfl rfl rfl (KR rfl rfl Tryz.underlying3 ae rfl rfl rr) (KO (pt ab 1) 5 true 42 rfl rfl rfl rfl rfl (KQ (n:=1) rfl ah Tryz.underlying29 rfl (by kernel_rfl) (by decide) rfl rr) (KO (iv (b.H)) 5 true 42 rfl rfl rfl rfl rfl (KR rfl rfl Tryz.underlying3 ac rfl rfl rr) (KO (.bool false) 5 true 42 rfl rfl rfl rfl rfl (LZ rfl rfl rfl (decide_eq_false aB) rr) ?_)))))))))))
     refine KG (.bool false) rfl rfl (Ld rfl rfl rfl rr) (KG (.bool false) rfl rfl (KN rfl rfl rr) (KI 12 true 49 rfl rfl rfl (Or.inl rfl) rfl (KG (.bool false) rfl rfl (K6 rfl rfl rfl rr) (KG (.bool false) rfl rfl (KT rfl rfl rr) (KL ?_)))))
     have aS:=K4 (.bool false)
     refine KE (La ?_)
     exact Lq (v:=.bool false) aj rfl rfl aS ⟨(by first|rw[PW (by assumption)]|rw[PS (by assumption)]|rw[PO (by assumption)]|rw[PQ (by assumption)]|rw[PP (by assumption) (by assumption) (by assumption) (by assumption)]),ai⟩
   ·skip
    refine KF (KG (pt p1 0) rfl rfl (KQ (n:=1) rfl af Tryz.underlying29 rfl (by kernel_rfl) (by decide) rfl rr) (KG (iv (a.W)) rfl rfl (KR rfl rfl Tryz.underlying3 ae rfl rfl rr) (KG (pt ab 0) rfl rfl (KQ (n:=1) rfl ah Tryz.underlying29 rfl (by kernel_rfl) (by decide) rfl rr) (KG (iv (b.W)) rfl rfl (KR rfl rfl Tryz.underlying3 ac rfl rfl rr) (KG (.bool false) rfl rfl (LZ rfl rfl rfl (decide_eq_false aq) rr) (KG (.bool false) rfl rfl (KN rfl rfl rr) (KI 5 true 42 rfl rfl rfl (Or.inl rfl) rfl (KI 5 true 42 rfl rfl rfl (Or.inl rfl) rfl (KI 5 true 42 rfl rfl rfl (Or.inl rfl) rfl (KI 5 true 42 rfl rfl rfl (Or.inl rfl) rfl (KI 5 true 42 rfl rfl rfl (Or.inl rfl) rfl ?_)))))))))))
    refine KG (.bool false) rfl rfl (K6 rfl rfl rfl rr) (KG (.bool false) rfl rfl (KN rfl rfl rr) (KI 12 true 49 rfl rfl rfl (Or.inl rfl) rfl (KG (.bool false) rfl rfl (K6 rfl rfl rfl rr) (KG (.bool false) rfl rfl (KT rfl rfl rr) (KL ?_)))))
    have aT:=K4 (.bool false)
    refine KE (La ?_)
    exact Lq (v:=.bool false) aj rfl rfl aT ⟨(by first|rw[PW (by assumption)]|rw[PS (by assumption)]|rw[PO (by assumption)]|rw[PQ (by assumption)]|rw[PP (by assumption) (by assumption) (by assumption) (by assumption)]),ai⟩
 ·skip
  refine KF (KG (pt p1 2) rfl rfl (KQ (n:=3) rfl af Tryz.underlying29 rfl (by kernel_rfl) (by decide) rfl rr) (KG (pt p1 2) rfl rfl (LQ 0 (s:=1) rfl rfl rfl (by omega) Tryz.underlying27 (by omega) (by kernel_rfl) (by omega) rr) (KG a0 rfl rfl (KR rfl rfl Tryz.underlying26 ae rfl rfl rr) (KG (.string (Mh (a.p0))) rfl rfl (PE rfl (N1 rfl am) rr) (KG (pt ab 2) rfl rfl (KQ (n:=3) rfl ah Tryz.underlying29 rfl (by kernel_rfl) (by decide) rfl rr) (KG (pt ab 2) rfl rfl (LQ 0 (s:=1) rfl rfl rfl (by omega) Tryz.underlying27 (by omega) (by kernel_rfl) (by omega) rr) (KG b0 rfl rfl (KR rfl rfl Tryz.underlying26 ac rfl rfl rr) (KG (.string (Mh (b.p0))) rfl rfl (PE rfl (N1 rfl an) rr) (KG (.bool false) rfl rfl (TO rfl rfl rfl ak rr) (KG (.bool false) rfl rfl (KN rfl rfl rr) (KI 9 true 15 rfl rfl rfl (Or.inl rfl) rfl ?_)))))))))))
  refine KI 9 true 15 rfl rfl rfl (Or.inl rfl) rfl (KI 9 true 15 rfl rfl rfl (Or.inl rfl) rfl (KI 9 true 15 rfl rfl rfl (Or.inl rfl) rfl (KI 9 true 15 rfl rfl rfl (Or.inl rfl) rfl (KI 9 true 15 rfl rfl rfl (Or.inl rfl) rfl (KI 9 true 15 rfl rfl rfl (Or.inl rfl) rfl (KI 9 true 15 rfl rfl rfl (Or.inl rfl) rfl (KI 9 true 15 rfl rfl rfl (Or.inl rfl) rfl (KG (.bool false) rfl rfl (K6 rfl rfl rfl rr) (KG (.bool false) rfl rfl (KN rfl rfl rr) (KI 20 true 26 rfl rfl rfl (Or.inl rfl) rfl (KI 20 true 26 rfl rfl rfl (Or.inl rfl) rfl ?_)))))))))))
  refine KI 20 true 26 rfl rfl rfl (Or.inl rfl) rfl (KI 20 true 26 rfl rfl rfl (Or.inl rfl) rfl (KI 20 true 26 rfl rfl rfl (Or.inl rfl) rfl (KI 20 true 26 rfl rfl rfl (Or.inl rfl) rfl (KI 20 true 26 rfl rfl rfl (Or.inl rfl) rfl (KI 20 true 26 rfl rfl rfl (Or.inl rfl) rfl (KI 20 true 26 rfl rfl rfl (Or.inl rfl) rfl (KG (.bool false) rfl rfl (K6 rfl rfl rfl rr) (KG (.bool false) rfl rfl (KT rfl rfl rr) (KL ?_)))))))))
  have aU:=K4 (.bool false)
  refine KE (KH ?_)
  by_cases ar:(a.W)=(b.W)
  ·skip
   by_cases aC:(a.H)=(b.H)
   ·skip
    refine KF (KG (pt p1 0) rfl rfl (KQ (n:=1) rfl af Tryz.underlying29 rfl (by kernel_rfl) (by decide) rfl rr) (KG (iv (a.W)) rfl rfl (KR rfl rfl Tryz.underlying3 ae rfl rfl rr) (KG (pt ab 0) rfl rfl (KQ (n:=1) rfl ah Tryz.underlying29 rfl (by kernel_rfl) (by decide) rfl rr) (KG (iv (b.W)) rfl rfl (KR rfl rfl Tryz.underlying3 ac rfl rfl rr) (KG (.bool true) rfl rfl (LZ rfl rfl rfl (decide_eq_true ar) rr) (KG (.bool true) rfl rfl (KN rfl rfl rr) (KO (pt p1 1) 5 true 42 rfl rfl rfl rfl rfl (KQ (n:=1) rfl af Tryz.underlying29 rfl (by kernel_rfl) (by decide) rfl rr) (KO (iv (a.H)) 5 true 42 rfl rfl rfl rfl rfl (KR rfl rfl Tryz.underlying3 ae rfl rfl rr) (KO (pt ab 1) 5 true 42 rfl rfl rfl rfl rfl (KQ (n:=1) rfl ah Tryz.underlying29 rfl (by kernel_rfl) (by decide) rfl rr) (KO (iv (b.H)) 5 true 42 rfl rfl rfl rfl rfl (KR rfl rfl Tryz.underlying3 ac rfl rfl rr) (KO (.bool true) 5 true 42 rfl rfl rfl rfl rfl (LZ rfl rfl rfl (decide_eq_true aC) rr) ?_)))))))))))
    refine KG (.bool true) rfl rfl (Ld rfl rfl rfl rr) (KG (.bool true) rfl rfl (KN rfl rfl rr) (KO (.bool false) 12 true 49 rfl rfl rfl rfl rfl (KN rfl aU rr) (KG (.bool false) rfl rfl (Ld rfl rfl rfl rr) (KG (.bool false) rfl rfl (KT rfl rfl rr) (KL ?_)))))
    have aV:=K4 (.bool false)
    refine KE (La ?_)
    exact Lq (v:=.bool false) aj rfl rfl aV ⟨(by first|rw[PW (by assumption)]|rw[PS (by assumption)]|rw[PO (by assumption)]|rw[PQ (by assumption)]|rw[PP (by assumption) (by assumption) (by assumption) (by assumption)]),ai⟩
   ·skip
    refine KF (KG (pt p1 0) rfl rfl (KQ (n:=1) rfl af Tryz.underlying29 rfl (by kernel_rfl) (by decide) rfl rr) (KG (iv (a.W)) rfl rfl (KR rfl rfl Tryz.underlying3 ae rfl rfl rr) (KG (pt ab 0) rfl rfl (KQ (n:=1) rfl ah Tryz.underlying29 rfl (by kernel_rfl) (by decide) rfl rr) (KG (iv (b.W)) rfl rfl (KR rfl rfl Tryz.underlying3 ac rfl rfl rr) (KG (.bool true) rfl rfl (LZ rfl rfl rfl (decide_eq_true ar) rr) (KG (.bool true) rfl rfl (KN rfl rfl rr) (KO (pt p1 1) 5 true 42 rfl rfl rfl rfl rfl (KQ (n:=1) rfl af Tryz.underlying29 rfl (by kernel_rfl) (by decide) rfl rr) (KO (iv (a.H)) 5 true 42 rfl rfl rfl rfl rfl (KR rfl rfl Tryz.underlying3 ae rfl rfl rr) (KO (pt ab 1) 5 true 42 rfl rfl rfl rfl rfl (KQ (n:=1) rfl ah Tryz.underlying29 rfl (by kernel_rfl) (by decide) rfl rr) (KO (iv (b.H)) 5 true 42 rfl rfl rfl rfl rfl (KR rfl rfl Tryz.underlying3 ac rfl rfl rr) (KO (.bool false) 5 true 42 rfl rfl rfl rfl rfl (LZ rfl rfl rfl (decide_eq_false aC) rr) ?_)))))))))))
    refine KG (.bool false) rfl rfl (Ld rfl rfl rfl rr) (KG (.bool false) rfl rfl (KN rfl rfl rr) (KI 12 true 49 rfl rfl rfl (Or.inl rfl) rfl (KG (.bool false) rfl rfl (K6 rfl rfl rfl rr) (KG (.bool false) rfl rfl (KT rfl rfl rr) (KL ?_)))))
    have aW:=K4 (.bool false)
    refine KE (La ?_)
    exact Lq (v:=.bool false) aj rfl rfl aW ⟨(by first|rw[PW (by assumption)]|rw[PS (by assumption)]|rw[PO (by assumption)]|rw[PQ (by assumption)]|rw[PP (by assumption) (by assumption) (by assumption) (by assumption)]),ai⟩
  ·skip
   refine KF (KG (pt p1 0) rfl rfl (KQ (n:=1) rfl af Tryz.underlying29 rfl (by kernel_rfl) (by decide) rfl rr) (KG (iv (a.W)) rfl rfl (KR rfl rfl Tryz.underlying3 ae rfl rfl rr) (KG (pt ab 0) rfl rfl (KQ (n:=1) rfl ah Tryz.underlying29 rfl (by kernel_rfl) (by decide) rfl rr) (KG (iv (b.W)) rfl rfl (KR rfl rfl Tryz.underlying3 ac rfl rfl rr) (KG (.bool false) rfl rfl (LZ rfl rfl rfl (decide_eq_false ar) rr) (KG (.bool false) rfl rfl (KN rfl rfl rr) (KI 5 true 42 rfl rfl rfl (Or.inl rfl) rfl (KI 5 true 42 rfl rfl rfl (Or.inl rfl) rfl (KI 5 true 42 rfl rfl rfl (Or.inl rfl) rfl (KI 5 true 42 rfl rfl rfl (Or.inl rfl) rfl (KI 5 true 42 rfl rfl rfl (Or.inl rfl) rfl ?_)))))))))))
   refine KG (.bool false) rfl rfl (K6 rfl rfl rfl rr) (KG (.bool false) rfl rfl (KN rfl rfl rr) (KI 12 true 49 rfl rfl rfl (Or.inl rfl) rfl (KG (.bool false) rfl rfl (K6 rfl rfl rfl rr) (KG (.bool false) rfl rfl (KT rfl rfl rr) (KL ?_)))))
   have aX:=K4 (.bool false)
   refine KE (La ?_)
   exact Lq (v:=.bool false) aj rfl rfl aX ⟨(by first|rw[PW (by assumption)]|rw[PS (by assumption)]|rw[PO (by assumption)]|rw[PQ (by assumption)]|rw[PP (by assumption) (by assumption) (by assumption) (by assumption)]),ai⟩
end Go.Proofs.YtknjpdcpmpfklaaGreatDoor
set_option maxRecDepth 100000
namespace Go.Proofs.YtknjpdcpmpfklaaGreatDoor
open Go.RowKit
theorem Pw{P:Program}{ρ:Operand->Value}{o:Oper}{w:World}{R:Value->World->Prop}{t:TypeId}{n:Nat}{vs:List Value}(ho:o.op = .alloc t)(hi:(P.info? t).map (fun i=>(i.zero,i.size))=some (some (.agg vs.toArray),n))(h:R (.pointer (some ⟨w.heap.size,0,none⟩)) (w.alloc (.cells vs.toArray t))):Lg P ρ o w R :=
 N2 (v:=.pointer (some ⟨w.heap.size,0,none⟩)) (w':=w.alloc (.cells vs.toArray t)) (by simp[execOp,ho,(zero_of_info hi).1,go_sem]) h
end Go.Proofs.YtknjpdcpmpfklaaGreatDoor
set_option maxRecDepth 100000
namespace Go.Proofs.YtknjpdcpmpfklaaGreatDoor
open Go.RowKit
def Ms(v:Value)(l h m:Nat):Value:=match v with
 | .slice a _ _=>.slice (if m=l then a else a.map (·.add l)) (h-l) (m-l)
 | _=>undef
def aAw:Value->Nat
 | .slice _ _ c=>c
 | _=>0
theorem L7.cap{w:World}{T:Nat->Prop}{v:Value}{l:List Nat}(h:L7 w T v l):l.length<=aAw v/\aAw v<=maxLen:=by
 obtain⟨⟨a,cap,rfl,h1,h2,_⟩,_⟩:=h;exact⟨h1,h2⟩
theorem L7.sub{w:World}{T:Nat->Prop}{v:Value}{l:List Nat}(hb:L7 w T v l){i j m:Nat}(h1:i<=j)(h2:j<=m)(h3:j<=l.length)(h4:m<=aAw v):L7 w T (Ms v i j m) ((l.drop i).take (j-i)):=by
 have hc:=hb.cap
 obtain⟨hB,hL,hT⟩:=hb
 obtain⟨a,cap,rfl,k1,k2,k3,k4,k5⟩:=hB
 have hB:Mg w (.slice a l.length cap) l:=⟨a,cap,rfl,k1,k2,k3,k4,k5⟩
 have hm:m<=cap:=h4
 refine⟨hB.cut i j (m-i) h1 h3 (by omega) (by omega) (if m=i then a else a.map (fun z:Addr=>z.add i)) (fun hp=>by rw[if_neg (by omega)]) (fun h0=>?_),hL,fun hp a' n c e=>?_⟩
 ·split at h0
  ·omega
  ·have:a=none:=by cases a <;> simp_all
   have:=k3 this;omega
 ·have hlen:0<j-i:=by
   have:((l.drop i).take (j-i)).length=j-i:=by simp;omega
   omega
  simp only[Ms] at e
  rw[if_neg (by omega)] at e
  cases a with
  | none=>simp at e
  | some a0 =>
   simp at e
   obtain⟨e1,_,_⟩:=e
   have hblk:a'.block=a0.block:=by rw[← e1];unfold Addr.add;split <;> rfl
   rw[hblk]
   exact hT (by omega) a0 _ _ rfl
theorem azA{w:World}{T:Nat->Prop}{v:Value}{l:List Nat}(hb:L7 w T v l){i j m:Nat}(t:Nat)(h2:j<=m)(h3:j<=l.length)(ht:t<j-i):Ns (Ms v i j m) t=Ns v (i+t):=by
 obtain⟨⟨a,cap,rfl,_,_,_,_,k5⟩,_⟩:=hb
 obtain⟨b,off,rfl,_,_⟩:=k5 (by omega)
 simp only[Ms,Ns]
 rw[if_neg (by omega)]
 simp[Addr.add_lit,Nat.add_assoc]
section
variable {ρ:Operand->Value} {o:Oper} {w:World} {R:Value->World->Prop}
theorem aCm{x lo hi mx:Operand}{T:Nat->Prop}{v:Value}{l:List Nat}{kl kh km:IntKind}(i j m:Nat){il ih im:Int}(ho:o.op = .slice 26 x (some lo) (some hi) (some mx))(hx:ρ x=v)(hl:ρ lo = .int kl il)(hh:ρ hi = .int kh ih)(hm:ρ mx = .int km im)(e1:il=(i:Int))(e2:ih=(j:Int))(e3:im=(m:Int))(hb:L7 w T v l)(h1:i<=j)(h2:j<=m)(h3:m<=l.length)(h:R (Ms v i j m) w):Lg Tryz.prog ρ o w R:=by
 subst e1;subst e2;subst e3
 have hc:=hb.cap
 obtain⟨⟨a,cap,rfl,k1,_⟩,_⟩:=hb
 obtain⟨i0,hi0,hz0,hz1,hz2⟩:=info_parts Tryz.info_u8
 have hmc:m<=cap:=by omega
 refine MN (v:=Ms (.slice a l.length cap) i j m) (w':=w) ?_ h
 have b1:(Instr.sliceBounds true l.length cap (some (.int kl (i:Int))) (some (.int kh (j:Int))) (some (.int km (m:Int)))).run Tryz.prog w = .ok (i,j,m) w:=by
  simp[Instr.sliceBounds,Instr.sliceBound,asIntOf,hmc,h1,h2]
 simp[execOp,ho,hx,hl,hh,hm,Instr.sliceAt,Instr.slice,run_underlying Tryz.underlying26,b1,sizeOf,typeInfo,hi0,hz1,Ms]
theorem aDb{x ix:Operand}{T:Nat->Prop}{v:Value}{l:List Nat}{k:IntKind}{i j m:Nat}(t:Nat){it:Int}(ho:o.op = .indexAddr 26 x ix)(hx:ρ x=Ms v i j m)(hi:ρ ix = .int k it)(hij:it=(t:Int))(hb:L7 w T v l)(h1:i<=j)(h2:j<=m)(h3:j<=l.length)(h4:m<=aAw v)(ht:t<j-i)(h:R (Ns v (i+t)) w):Lg Tryz.prog ρ o w R:=by
 have hl:((l.drop i).take (j-i)).length=j-i:=by simp;omega
 refine aC1 t ho hx hi hij (hb.sub h1 h2 h3 h4) (by rw[hl];exact ht) ?_
 rw[azA hb t h2 h3 ht];exact h
theorem UO{w:World}{T:Nat->Prop}{v:Value}{l:List Nat}(hb:L7 w T v l)(i j m:Nat):∃ a,Ms v i j m = .slice a (j-i) (m-i):=by
 obtain⟨⟨a,cap,rfl,_⟩,_⟩:=hb
 exact⟨_,rfl⟩
theorem aCv{c:Call}{x:Operand}{T:Nat->Prop}{v:Value}{l:List Nat}{i j m:Nat}(ho:o.op = .call c)(hc:c={ callee:=.builtin .len,args:=#[x],argTypes:=#[26] })(hx:ρ x=Ms v i j m)(hb:L7 w T v l)(h:R (.int .i64 ((j-i:Nat):Int)) w):Lg Tryz.prog ρ o w R:=by
 subst hc
 obtain⟨a,e⟩:=UO hb i j m
 rw[e] at hx
 exact aAO ho rfl rfl rfl Tryz.underlying26 hx h
end
end Go.Proofs.YtknjpdcpmpfklaaGreatDoor
