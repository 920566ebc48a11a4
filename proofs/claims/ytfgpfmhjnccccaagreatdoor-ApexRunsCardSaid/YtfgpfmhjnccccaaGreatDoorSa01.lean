import Derived.KernelRfl
namespace Go.Proofs.YtfgpfmhjnccccaaGreatDoor.WireP
def val (l:List UInt8):Nat:=l.foldl (fun a c=>a * 256 + c.toNat) 0
end Go.Proofs.YtfgpfmhjnccccaaGreatDoor.WireP
namespace Go.Proofs.YtfgpfmhjnccccaaGreatDoor.FrameP
open WireP
structure Msg where
 port:Int
 data:List UInt8
structure Rec where
 round:Nat
 node:Nat
 part:Nat
 kind:Nat
 did:Nat
structure Fr where
 sender:Nat
 round:Nat
 members:Nat
 msgs:List Msg
 kind:Nat
 key:Nat
 val:Nat
 old:Nat
 recs:List Rec
def MsgFits (m:Msg):Prop:=0≤m.port∧m.port < 256∧m.data.length≤255
def RecFits (r:Rec):Prop:=r.round < 4294967296∧r.node < 256∧r.part < 256∧r.kind < 256∧r.did < 256
structure Fits (f:Fr):Prop where
 sender:f.sender < 256
 round:f.round < 4294967296
 members:f.members < 256
 nm:f.msgs.length < 256
 msgs:∀ m∈f.msgs,MsgFits m
 kind:f.kind < 256
 key:f.key < 256
 val:f.val < 65536
 old:f.old < 65536
 nr:f.recs.length < 256
 recs:∀ r∈f.recs,RecFits r
end Go.Proofs.YtfgpfmhjnccccaaGreatDoor.FrameP
namespace Go.Proofs.YtfgpfmhjnccccaaGreatDoor.TableP
open WireP FrameP
structure Part where
 node:Int
 start:Int
 length:Int
 budget:Int
 words:Int
 r0:Nat
 r1:Nat
 r2:Nat
 r3:Nat
structure Port where
 part:Int
 kind:Nat
 out:Bool
 size:Int
 depth:Int
 fresh:Int
structure Route where
 src:Int
 dst:Int
structure Cfg where
 nodes:Int
 faulty:Int
 slot:Int
 gap:Int
 rho:Int
 dmin:Int
 dmax:Int
 margin:Int
 parts:List Part
 ports:List Port
 routes:List Route
def B1 (x:Int):Prop:=0≤x∧x < 256
def B4 (x:Int):Prop:=0≤x∧x < 4294967296
def PartFits (p:Part):Prop:=B1 p.node∧B4 p.start∧B4 p.length∧B1 p.budget∧B1 p.words∧p.r0 < 256∧p.r1 < 256∧p.r2 < 256∧p.r3 < 256
def PortFits (p:Port):Prop:=B1 p.part∧p.kind < 256∧B1 p.size∧B1 p.depth∧B1 p.fresh
def RouteFits (p:Route):Prop:=B1 p.src∧B1 p.dst
structure Fits (c:Cfg):Prop where
 nodes:B1 c.nodes
 faulty:B1 c.faulty
 slot:B4 c.slot
 gap:B4 c.gap
 rho:B4 c.rho
 dmin:B4 c.dmin
 dmax:B4 c.dmax
 margin:B4 c.margin
 np:c.parts.length < 256
 nq:c.ports.length < 256
 nr:c.routes.length < 256
 parts:∀ p∈c.parts,PartFits p
 ports:∀ p∈c.ports,PortFits p
 routes:∀ p∈c.routes,RouteFits p
end Go.Proofs.YtfgpfmhjnccccaaGreatDoor.TableP
namespace Go.Proofs.YtfgpfmhjnccccaaGreatDoor.TableP
open WireP FrameP
end Go.Proofs.YtfgpfmhjnccccaaGreatDoor.TableP
namespace Go.Proofs.YtfgpfmhjnccccaaGreatDoor.FrameP
open WireP
abbrev Wrong:=Nat × Int
def chkMsgs:Nat→List Msg→Option Wrong
 | _,[]=>none
 | i,m :: r=>if m.port < 0∨23 < m.port then some (2,(i:Int)) else if 16 < m.data.length then some (12,(i:Int)) else chkMsgs (i + 1) r
def chkRecs:Nat→List Rec→Option Wrong
 | _,[]=>none
 | i,x :: r=>if 6 < x.node∨11 < x.part∨3 < x.kind∨3 < x.did then some (50,(i:Int)) else chkRecs (i + 1) r
def unlawful (kind key val old:Nat):Prop:=(kind=0∧¬ (key=0∧val=0∧old=0))∨7 < key∨(kind≠3∧old≠0)∨(kind=2∧val≠0)
instance (kind key val old:Nat):Decidable (unlawful kind key val old):=by unfold unlawful;exact inferInstance
def chk (f:Fr):Option Wrong:=
 if 6 < f.sender then some (2,-1)
 else if 96 < f.msgs.length∨4 < f.recs.length then some (3,-1)
 else match chkMsgs 0 f.msgs with
  | some e=>some e
  | none=>if 3 < f.kind then some (7,-1) else if unlawful f.kind f.key f.val f.old then some (8,-1) else chkRecs 0 f.recs
theorem zm9:∀ (ms:List Msg) (i:Nat),chkMsgs i ms=none→∀ m∈ms,0≤m.port∧m.port≤23∧m.data.length≤16
 | [],_,_=>by simp
 | m :: r,i,h=>by
  unfold chkMsgs at h
  by_cases h1:m.port < 0∨23 < m.port
  ·rw [if_pos h1] at h;cases h
  ·rw [if_neg h1] at h
   by_cases h2:16 < m.data.length
   ·rw [if_pos h2] at h;cases h
   ·rw [if_neg h2] at h
    intro x hx
    rcases List.mem_cons.1 hx with rfl | hx
    ·exact ⟨by omega,by omega,by omega⟩
    ·exact zm9 r _ h x hx
structure Typed (f:Fr):Prop where
 sender:f.sender < 256
 round:f.round < 4294967296
 members:f.members < 256
 kind:f.kind < 256
 key:f.key < 256
 val:f.val < 65536
 old:f.old < 65536
 recs:∀ r∈f.recs,RecFits r
theorem chk_fits {f:Fr} (ht:Typed f) (h:chk f=none):Fits f∧f.msgs.length≤96∧f.recs.length≤4:=by
 unfold chk at h
 by_cases h1:6 < f.sender
 ·rw [if_pos h1] at h;cases h
 ·rw [if_neg h1] at h
  by_cases h2:96 < f.msgs.length∨4 < f.recs.length
  ·rw [if_pos h2] at h;cases h
  ·rw [if_neg h2] at h
   cases h3:chkMsgs 0 f.msgs with
   | some e=>rw [h3] at h;cases h
   | none=>
    refine ⟨⟨ht.sender,ht.round,ht.members,by omega,fun m hm=>?_,ht.kind,ht.key,ht.val,ht.old,by omega,ht.recs⟩,by omega,by omega⟩
    have:=zm9 _ _ h3 m hm
    exact ⟨this.1,by omega,by omega⟩
end Go.Proofs.YtfgpfmhjnccccaaGreatDoor.FrameP
namespace Go.Proofs.YtfgpfmhjnccccaaGreatDoor.TableP
open WireP FrameP
def up (x lo hi:Int):Prop:=lo≤x∧x≤hi
instance (x lo hi:Int):Decidable (up x lo hi):=by unfold up;exact inferInstance
def headOk (c:Cfg):Prop:=up c.nodes 1 7∧up c.faulty 0 2∧up c.slot 1 16777216∧up c.gap 0 16777216∧up c.rho 0 200∧up c.dmax 0 1048576∧up c.dmin 0 c.dmax∧up c.margin 0 16777216
instance (c:Cfg):Decidable (headOk c):=by unfold headOk;exact inferInstance
def partOk (nodes:Int) (p:Part):Prop:=up p.node 0 (nodes - 1)∧up p.start 0 268435456∧up p.length 1 268435456∧up p.budget 0 64∧up p.words 0 16∧p.r0≤3∧p.r1≤3∧p.r2≤3∧p.r3≤3
instance (n:Int) (p:Part):Decidable (partOk n p):=by unfold partOk;exact inferInstance
def portOk (np:Nat) (p:Port):Prop:=
 up p.part 0 ((np:Int) - 1)∧up p.size 0 16∧((p.kind=1∧p.depth=0∧up p.fresh 0 8∧¬ (p.out=true∧p.fresh≠0))∨(p.kind=2∧up p.depth 1 4∧p.fresh=0))
instance (n:Nat) (p:Port):Decidable (portOk n p):=by unfold portOk;exact inferInstance
def routeOk (nq:Nat) (p:Route):Prop:=up p.src 0 ((nq:Int) - 1)∧up p.dst 0 ((nq:Int) - 1)
instance (n:Nat) (p:Route):Decidable (routeOk n p):=by unfold routeOk;exact inferInstance
def first {α:Type} (ok:α→Prop) [DecidablePred ok] (code:Nat):Nat→List α→Option Wrong
 | _,[]=>none
 | i,x :: r=>if ok x then first ok code (i + 1) r else some (code,(i:Int))
theorem ze2 {α:Type} {ok:α→Prop} [DecidablePred ok] {code:Nat}:∀ {l:List α} {i:Nat},first ok code i l=none→∀ x∈l,ok x
 | [],_,_=>by simp
 | x :: r,i,h=>by
  unfold first at h
  by_cases h1:ok x
  ·rw [if_pos h1] at h
   intro y hy
   rcases List.mem_cons.1 hy with rfl | hy
   ·exact h1
   ·exact ze2 h y hy
  ·rw [if_neg h1] at h;cases h
def chk (c:Cfg):Option Wrong:=
 if headOk c then
  if 12 < c.parts.length∨24 < c.ports.length∨24 < c.routes.length then some (3,-1)
  else match first (partOk c.nodes) 2 0 c.parts with
   | some e=>some e
   | none=>match first (portOk c.parts.length) 8 0 c.ports with
    | some e=>some e
    | none=>first (routeOk c.ports.length) 72 0 c.routes
 else some (2,-1)
def Typed (c:Cfg):Prop:=(∀ p∈c.parts,p.r0 < 256∧p.r1 < 256∧p.r2 < 256∧p.r3 < 256)∧∀ p∈c.ports,p.kind < 256
theorem chk_fits {c:Cfg} (h:chk c=none):Fits c∧c.parts.length≤12∧c.ports.length≤24∧c.routes.length≤24:=by
 unfold chk at h
 by_cases h1:headOk c
 ·rw [if_pos h1] at h
  by_cases h2:12 < c.parts.length∨24 < c.ports.length∨24 < c.routes.length
  ·rw [if_pos h2] at h;cases h
  ·rw [if_neg h2] at h
   cases h3:first (partOk c.nodes) 2 0 c.parts with
   | some e=>rw [h3] at h;cases h
   | none=>
    rw [h3] at h
    cases h4:first (portOk c.parts.length) 8 0 c.ports with
    | some e=>simp only [h4] at h;cases h
    | none=>
     simp only [h4] at h
     obtain ⟨⟨a1,a2⟩,⟨b1,b2⟩,⟨c1,c2⟩,⟨d1,d2⟩,⟨e1,e2⟩,⟨f1,f2⟩,⟨g1,g2⟩,⟨i1,i2⟩⟩:=h1
     refine ⟨⟨⟨by omega,by omega⟩,⟨by omega,by omega⟩,⟨by omega,by omega⟩,⟨by omega,by omega⟩,⟨by omega,by omega⟩,⟨by omega,by omega⟩,⟨by omega,by omega⟩,⟨by omega,by omega⟩,by omega,by omega,by omega,?_,?_,?_⟩,by omega,by omega,by omega⟩
     ·intro p hp
      obtain ⟨⟨p1,p2⟩,⟨q1,q2⟩,⟨r1,r2⟩,⟨s1,s2⟩,⟨t1,t2⟩,u0,u1,u2,u3⟩:=ze2 h3 p hp
      exact ⟨⟨by omega,by omega⟩,⟨by omega,by omega⟩,⟨by omega,by omega⟩,⟨by omega,by omega⟩,⟨by omega,by omega⟩,by omega,by omega,by omega,by omega⟩
     ·intro p hp
      obtain ⟨⟨p1,p2⟩,⟨q1,q2⟩,hk⟩:=ze2 h4 p hp
      rcases hk with ⟨k1,k2,⟨k3,k4⟩,-⟩ | ⟨k1,⟨k2,k3⟩,k4⟩
      ·exact ⟨⟨by omega,by omega⟩,by omega,⟨by omega,by omega⟩,⟨by omega,by omega⟩,⟨by omega,by omega⟩⟩
      ·exact ⟨⟨by omega,by omega⟩,by omega,⟨by omega,by omega⟩,⟨by omega,by omega⟩,⟨by omega,by omega⟩⟩
     ·intro p hp
      obtain ⟨⟨p1,p2⟩,⟨q1,q2⟩⟩:=ze2 h p hp
      exact ⟨⟨by omega,by omega⟩,⟨by omega,by omega⟩⟩
 ·rw [if_neg h1] at h;cases h
end Go.Proofs.YtfgpfmhjnccccaaGreatDoor.TableP
namespace Go.Proofs.YtfgpfmhjnccccaaGreatDoor.SndP
open TableP
open FrameP (Wrong)
def slotsT (c:Cfg):Int:=c.nodes * c.slot
def roundT (c:Cfg):Int:=c.nodes * c.slot + c.gap
def driftT (c:Cfg):Int:=(2 * c.rho * (c.nodes * c.slot + c.gap) + 999999) / 1000000 + 2
def spreadT (c:Cfg):Int:=c.dmax - c.dmin
def precT (c:Cfg):Int:=4 * (c.dmax - c.dmin) + 16 * driftT c + 64
structure Nums (c:Cfg):Prop where
 nodes:1≤c.nodes∧c.nodes≤7
 faulty:0≤c.faulty∧c.faulty≤2
 slot:1≤c.slot∧c.slot≤16777216
 gap:0≤c.gap∧c.gap≤16777216
 rho:0≤c.rho∧c.rho≤200
 dmax:0≤c.dmax∧c.dmax≤1048576
 dmin:0≤c.dmin∧c.dmin≤c.dmax
 margin:0≤c.margin∧c.margin≤16777216
 slots:0≤c.nodes * c.slot∧c.nodes * c.slot≤117440512
 drift0:0≤2 * c.rho * (c.nodes * c.slot + c.gap)∧2 * c.rho * (c.nodes * c.slot + c.gap)≤53687091200
theorem mul_in {a b m n:Int} (ha:0≤a∧a≤m) (hb:0≤b∧b≤n):0≤a * b∧a * b≤m * n:=
 ⟨Int.mul_nonneg ha.1 hb.1,Int.mul_le_mul ha.2 hb.2 hb.1 (Int.le_trans ha.1 ha.2)⟩
theorem nums_in {c:Cfg} (h:headOk c):Nums c:=by
 obtain ⟨h1,h2,h3,h4,h5,h6,h7,h8⟩:=h
 unfold up at h1 h2 h3 h4 h5 h6 h7 h8
 have s:=mul_in (a:=c.nodes) (b:=c.slot) (m:=7) (n:=16777216) ⟨by omega,h1.2⟩ ⟨by omega,h3.2⟩
 have d:=mul_in (a:=2 * c.rho) (b:=c.nodes * c.slot + c.gap) (m:=400) (n:=134217728) ⟨by omega,by omega⟩ ⟨by omega,by omega⟩
 exact ⟨h1,h2,h3,h4,h5,h6,h7,h8,⟨s.1,by omega⟩,⟨d.1,by omega⟩⟩
theorem drift_in {c:Cfg} (h:Nums c):2≤driftT c∧driftT c≤53691:=by
 have:=h.drift0
 unfold driftT
 omega
theorem prec_in {c:Cfg} (h:Nums c):0≤precT c∧precT c≤6000000:=by
 have h1:=drift_in h
 have h2:=h.dmin
 have h3:=h.dmax
 unfold precT
 omega
def meetB (a b:Part):Bool:=decide (a.start < b.start + b.length) && decide (b.start < a.start + a.length)
def clash (p q:Part):Bool:=decide (q.node=p.node) && meetB q p
def fitB (c:Cfg) (i:Nat) (p:Part):Bool:=decide (p.start + p.length≤c.nodes * c.slot) && !(c.parts.take i).any (clash p)
def leads (p q:Route):Bool:=decide (q.dst=p.dst)
def joinB (c:Cfg) (i:Nat) (r:Route):Bool:=
 match c.ports[r.src.toNat]?,c.ports[r.dst.toNat]? with
 | some a,some b=>a.out && !b.out && decide (a.kind=b.kind) && decide (a.size≤b.size) && !(c.routes.take i).any (leads r)
 | _,_=>false
def firstI {α:Type} (ok:Nat→α→Bool) (code:Nat):Nat→List α→Option Wrong
 | _,[]=>none
 | i,x :: r=>if ok i x=true then firstI ok code (i + 1) r else some (code,(i:Int))
theorem firstI_step {α:Type} {ok:Nat→α→Bool} {code:Nat} {l:List α} {k:Nat} {x:α} (h:l[k]? = some x) :
 firstI ok code k (l.drop k)=if ok k x=true then firstI ok code (k + 1) (l.drop (k + 1)) else some (code,(k:Int)):=by
 obtain ⟨hk,rfl⟩:=List.getElem?_eq_some_iff.1 h
 rw [List.drop_eq_getElem_cons hk]
 rfl
theorem firstI_end {α:Type} {ok:Nat→α→Bool} {code:Nat} {l:List α} {k:Nat} (h:l.length≤k):firstI ok code k (l.drop k)=none:=by
 rw [List.drop_of_length_le h];rfl
theorem zj8 {α:Type} {ok:Nat→α→Bool} {code:Nat}:∀ {l:List α} {i:Nat},firstI ok code i l=none→∀ k x,l[k]? = some x→ok (i + k) x=true
 | [],_,_,_,_,h=>by simp at h
 | y :: r,i,h,k,x,hk=>by
  unfold firstI at h
  by_cases h1:ok i y=true
  ·rw [if_pos h1] at h
   match k,hk with
   | 0,hk=>
    simp at hk
    subst hk
    exact h1
   | k + 1,hk=>
    have:=zj8 h k x (by simpa using hk)
    rwa [show i + (k + 1)=i + 1 + k by omega]
  ·rw [if_neg h1] at h;cases h
def late (c:Cfg):Option Wrong:=
 if c.nodes < 3 * c.faulty + 1 then some (70,-1)
 else if c.margin < precT c + (c.dmax - c.dmin) + driftT c then some (74,-1)
 else if c.slot < 2 * c.margin + c.dmax + precT c then some (73,-1)
 else if c.gap < 2 * (c.margin + precT c) then some (75,-1)
 else match firstI (fitB c) 71 0 c.parts with
  | some e=>some e
  | none=>firstI (joinB c) 72 0 c.routes
def chk6 (c:Cfg):Option Wrong:=
 match chk c with
 | some e=>some e
 | none=>late c
structure Allowed (c:Cfg):Prop where
 head:headOk c
 parts:c.parts.length≤12
 ports:c.ports.length≤24
 routes:c.routes.length≤24
 part:∀ p∈c.parts,partOk c.nodes p
 port:∀ p∈c.ports,portOk c.parts.length p
 route:∀ p∈c.routes,routeOk c.ports.length p
theorem allowed {c:Cfg} (h:chk c=none):Allowed c:=by
 unfold chk at h
 by_cases h1:headOk c
 ·rw [if_pos h1] at h
  by_cases h2:12 < c.parts.length∨24 < c.ports.length∨24 < c.routes.length
  ·rw [if_pos h2] at h;cases h
  ·rw [if_neg h2] at h
   cases h3:first (partOk c.nodes) 2 0 c.parts with
   | some e=>rw [h3] at h;cases h
   | none=>
    rw [h3] at h
    cases h4:first (portOk c.parts.length) 8 0 c.ports with
    | some e=>simp only [h4] at h;cases h
    | none=>
     simp only [h4] at h
     exact ⟨h1,by omega,by omega,by omega,ze2 h3,ze2 h4,ze2 h⟩
 ·rw [if_neg h1] at h;cases h
structure Works (c:Cfg):Prop where
 allowed:Allowed c
 nodes:3 * c.faulty + 1≤c.nodes
 margin:precT c + (c.dmax - c.dmin) + driftT c≤c.margin
 slot:2 * c.margin + c.dmax + precT c≤c.slot
 gap:2 * (c.margin + precT c)≤c.gap
 fit:∀ k p,c.parts[k]? = some p→fitB c k p=true
 join:∀ k r,c.routes[k]? = some r→joinB c k r=true
theorem works {c:Cfg} (h:chk6 c=none):Works c:=by
 unfold chk6 at h
 cases h0:chk c with
 | some e=>rw [h0] at h;cases h
 | none=>
  rw [h0] at h
  simp only [late] at h
  by_cases h1:c.nodes < 3 * c.faulty + 1
  ·rw [if_pos h1] at h;cases h
  rw [if_neg h1] at h
  by_cases h2:c.margin < precT c + (c.dmax - c.dmin) + driftT c
  ·rw [if_pos h2] at h;cases h
  rw [if_neg h2] at h
  by_cases h3:c.slot < 2 * c.margin + c.dmax + precT c
  ·rw [if_pos h3] at h;cases h
  rw [if_neg h3] at h
  by_cases h4:c.gap < 2 * (c.margin + precT c)
  ·rw [if_pos h4] at h;cases h
  rw [if_neg h4] at h
  cases h5:firstI (fitB c) 71 0 c.parts with
  | some e=>rw [h5] at h;cases h
  | none=>
   rw [h5] at h
   refine ⟨SndP.allowed h0,by omega,by omega,by omega,by omega,fun k p hk=>?_,fun k p hk=>?_⟩
   ·simpa using zj8 h5 k p hk
   ·simpa using zj8 h k p hk
end Go.Proofs.YtfgpfmhjnccccaaGreatDoor.SndP
namespace Go.Proofs.YtfgpfmhjnccccaaGreatDoor
namespace PorP
open TableP
structure PS where
 msgs:List (List UInt8)
 age:Nat
def PS.empty:PS:=⟨[],0⟩
abbrev St:=List PS
def start (c:Cfg):St:=List.replicate c.ports.length PS.empty
def nodeOf (c:Cfg) (p:Port):Int:=((c.parts[p.part.toNat]?).map Part.node).getD (-1)
def mineB (c:Cfg) (node:Int) (p:Port):Bool:=decide (nodeOf c p=node)
def findT (c:Cfg) (node part port:Int) (out:Bool):Option Nat:=
 if port < 0 then some 17 else
 match c.ports[port.toNat]? with
 | none=>some 17
 | some p=>if p.part=part∧mineB c node p=true then (if p.out=out then none else some 13) else some 17
def room (p:Port) (s:PS):Bool:=p.kind == 1 || decide ((s.msgs.length:Int) < p.depth)
def putT (p:Port) (s:PS) (d:List UInt8):PS:=if p.kind=1 then ⟨[d],0⟩ else ⟨s.msgs ++ [d],s.age⟩
def laidT (p:Port) (s:PS) (d:List UInt8):PS:=if p.kind=1 then ⟨[d],s.age⟩ else ⟨s.msgs ++ [d],s.age⟩
def writeT (c:Cfg) (node:Int) (st:St) (part port:Int) (d:List UInt8):Option Nat × St:=
 match findT c node part port true with
 | some e=>(some e,st)
 | none=>match c.ports[port.toNat]?,st[port.toNat]? with
  | some p,some s=>if p.size < (d.length:Int) then (some 12,st) else if room p s=true then (none,st.set port.toNat (laidT p s d)) else (some 11,st)
  | _,_=>(some 17,st)
def readT (c:Cfg) (node:Int) (st:St) (part port:Int):(List UInt8 × Bool × Option Nat) × St:=
 match findT c node part port false with
 | some e=>(([],false,some e),st)
 | none=>match c.ports[port.toNat]?,st[port.toNat]? with
  | some p,some s=>match s.msgs with
   | []=>(([],false,some 10),st)
   | d :: r=>if p.kind=1 then ((d,decide ((s.age:Int)≤p.fresh),none),st) else ((d,true,none),st.set port.toNat ⟨r,s.age⟩)
  | _,_=>(([],false,some 17),st)
def shown (c:Cfg) (node:Int) (out:Bool) (p:Port):Bool:=mineB c node p && (!out || p.out)
def imageFrom (c:Cfg) (node:Int) (out:Bool):Nat→List Port→St→List (Nat × List UInt8)
 | i,p :: ps,s :: ss=>(if shown c node out p=true then s.msgs.map (fun d=>(i,d)) else []) ++ imageFrom c node out (i + 1) ps ss
 | _,_,_=>[]
def imageT (c:Cfg) (node:Int) (out:Bool) (st:St):List (Nat × List UInt8):=imageFrom c node out 0 c.ports st
theorem zh7 (c:Cfg):(start c).length=c.ports.length:=List.length_replicate
theorem zj4 (c:Cfg) (node:Int) (out:Bool) (p:Port) (s:PS):∀ (ps:List Port) (ss:St) (i:Nat),ps.length=ss.length→imageFrom c node out i (ps ++ [p]) (ss ++ [s])=imageFrom c node out i ps ss ++ (if shown c node out p=true then s.msgs.map (fun d=>(i + ps.length,d)) else [])
 | [],[],i,_=>by simp [imageFrom]
 | [],_ :: _,_,h=>by simp at h
 | _ :: _,[],_,h=>by simp at h
 | a :: ps,b :: ss,i,h=>by
  have ih:=zj4 c node out p s ps ss (i + 1) (by simpa using h)
  simp only [List.cons_append,imageFrom,ih,List.length_cons]
  rw [show i + (ps.length + 1)=i + 1 + ps.length by omega,List.append_assoc]
def imageK (c:Cfg) (node:Int) (out:Bool) (st:St) (k:Nat):List (Nat × List UInt8):=imageFrom c node out 0 (c.ports.take k) (st.take k)
theorem zF5 {c:Cfg} {node:Int} {out:Bool} {st:St} {k:Nat} {p:Port} {s:PS} (hp:c.ports[k]? = some p) (hs:st[k]? = some s):imageK c node out st (k + 1)=imageK c node out st k ++ (if shown c node out p=true then s.msgs.map (fun d=>(k,d)) else []):=by
 unfold imageK
 have h1:=(List.getElem?_eq_some_iff.1 hp).1
 have h2:=(List.getElem?_eq_some_iff.1 hs).1
 rw [List.take_add_one,List.take_add_one,hp,hs]
 have h3:=zj4 c node out p s (c.ports.take k) (st.take k) 0 (by rw [List.length_take,List.length_take];omega)
 rw [List.length_take,Nat.min_eq_left (by omega),Nat.zero_add] at h3
 exact h3
theorem zL1 {c:Cfg} {node:Int} {out:Bool} {st:St} (h:st.length=c.ports.length):imageK c node out st c.ports.length=imageT c node out st:=by
 unfold imageK imageT
 rw [List.take_length,← h,List.take_length]
end PorP
end Go.Proofs.YtfgpfmhjnccccaaGreatDoor
namespace RepP
structure Cmd where
 kind:Nat
 key:Nat
 val:Nat
 old:Nat
deriving DecidableEq
abbrev T:=List (Option Nat)
def new:T:=List.replicate 8 none
def tat (t:T) (k:Nat):Option Nat:=t[k]?.getD none
theorem zL2:new.length=8:=rfl
theorem new_at (k:Nat):tat new k=none:=by
 unfold tat new
 by_cases h:k < 8
 ·rw [List.getElem?_replicate];simp [h]
 ·rw [List.getElem?_eq_none (by simpa using h)];rfl
theorem zL3 {t:T} {k:Nat} (hk:k < t.length):t[k]? = some (tat t k):=by unfold tat;rw [List.getElem?_eq_getElem hk];rfl
end RepP
namespace Go.Proofs.YtfgpfmhjnccccaaGreatDoor
namespace HeaP
open FrameP
def kindT (codes:List Nat):Option Nat:=
 if codes=[] then none
 else if 151∈codes then some 0
 else if 150∈codes then some 1
 else if 17∈codes∨13∈codes∨12∈codes then some 3
 else if 10∈codes∨11∈codes∨14∈codes then none
 else some 2
structure Mon where
 last:List Nat
 row:List Nat
 out:List Rec
def Mon.start (n:Nat):Mon:=⟨List.replicate n 0,List.replicate n 0,[]⟩
structure MonOk (n:Nat) (m:Mon):Prop where
 last:m.last.length=n
 row:m.row.length=n
 out:m.out.length≤4
theorem MonOk.start (n:Nat):MonOk n (Mon.start n):=⟨by simp [Mon.start],by simp [Mon.start],by simp [Mon.start]⟩
def lastOf (m:Mon) (p:Nat):Nat:=m.last[p]?.getD 0
def rowOf (m:Mon) (p:Nat):Nat:=m.row[p]?.getD 0
def nextRow (m:Mon) (p r:Nat):Nat:=if 0 < lastOf m p∧r≤lastOf m p then rowOf m p + 1 else 1
def recOf (recover:List (List Nat)) (p k:Nat):Nat:=((recover[p]?.getD [])[k]?).getD 0
def badB (n round:Nat) (part:Int) (kind:Nat):Bool:=decide (part < 0∨(n:Int)≤part∨3 < kind∨1048576≤round)
def didT (recover:List (List Nat)) (m:Mon) (r p k:Nat):Nat:=if recOf recover p k=1 then (if 3≤nextRow m p r then 2 else 1) else recOf recover p k
def noteT (node r p k did:Nat) (out:List Rec):List Rec:=if out.length < 4 then out ++ [⟨r,node,p,k,did⟩] else out
def nextM (recover:List (List Nat)) (node:Nat) (m:Mon) (r p k:Nat):Mon:=
 if recOf recover p k=1 then ⟨m.last.set p (r + 1),m.row.set p (nextRow m p r),noteT node r p k (didT recover m r p k) m.out⟩
 else ⟨m.last,m.row,noteT node r p k (didT recover m r p k) m.out⟩
def reportT (recover:List (List Nat)) (node:Nat) (m:Mon) (r:Nat) (part:Int) (k:Nat):(Nat × Nat) × Mon:=
 if badB recover.length r part k=true then ((0,2),m) else ((didT recover m r part.toNat k,0),nextM recover node m r part.toNat k)
def sealM (m:Mon):Mon:=⟨m.last,m.row,[]⟩
theorem zL4 {node r p k did:Nat} {out:List Rec} (h:out.length≤4):(noteT node r p k did out).length≤4:=by
 unfold noteT;split
 ·rw [List.length_append];simp;omega
 ·exact h
theorem MonOk.next {n:Nat} {m:Mon} (h:MonOk n m) (recover:List (List Nat)) (node r p k:Nat):MonOk n (nextM recover node m r p k):=by
 unfold nextM
 split
 ·exact ⟨by simpa using h.last,by simpa using h.row,zL4 h.out⟩
 ·exact ⟨h.last,h.row,zL4 h.out⟩
theorem MonOk.sealed {n:Nat} {m:Mon} (h:MonOk n m):MonOk n (sealM m):=⟨h.last,h.row,Nat.zero_le _⟩
theorem zr4 {recover:List (List Nat)} {node r k:Nat} {part:Int} {m:Mon} (h:part < 0∨(recover.length:Int)≤part∨3 < k∨1048576≤r):reportT recover node m r part k=((0,2),m):=by
 unfold reportT badB
 rw [if_pos (decide_eq_true h)]
theorem zv6 {recover:List (List Nat)} {node r k p:Nat} {m:Mon} (hp:p < recover.length) (hk:k≤3) (hr:r < 1048576):reportT recover node m r (p:Int) k=((didT recover m r p k,0),nextM recover node m r p k):=by
 unfold reportT badB
 rw [if_neg (by rw [decide_eq_true_eq];omega)]
 rfl
structure MonLow (N:Nat) (m:Mon):Prop where
 last:∀ p,lastOf m p≤1048576
 row:∀ p,rowOf m p≤N
theorem zL5 {l:List Nat} {p q v:Nat}:(l.set p v)[q]?.getD 0=if q=p∧p < l.length then v else l[q]?.getD 0:=by
 by_cases h:q=p
 ·subst h
  by_cases hl:q < l.length
  ·rw [if_pos ⟨rfl,hl⟩,List.getElem?_set_self hl];rfl
  ·rw [if_neg (fun h=>hl h.2),List.set_eq_of_length_le (by omega)]
 ·rw [if_neg (fun e=>h e.1),List.getElem?_set_ne (Ne.symm h)]
theorem zh8 {recover:List (List Nat)} {node r p k q:Nat} {m:Mon}:lastOf (nextM recover node m r p k) q=if recOf recover p k=1∧q=p∧p < m.last.length then r + 1 else lastOf m q:=by
 unfold nextM
 by_cases h:recOf recover p k=1
 ·rw [if_pos h]
  unfold lastOf
  rw [zL5]
  by_cases h2:q=p∧p < m.last.length
  ·rw [if_pos h2,if_pos ⟨h,h2⟩]
  ·rw [if_neg h2,if_neg (fun e=>h2 e.2)]
 ·rw [if_neg h,if_neg (fun e=>h e.1)];rfl
theorem zn8 {recover:List (List Nat)} {node r p k q:Nat} {m:Mon}:rowOf (nextM recover node m r p k) q=if recOf recover p k=1∧q=p∧p < m.row.length then nextRow m p r else rowOf m q:=by
 unfold nextM
 by_cases h:recOf recover p k=1
 ·rw [if_pos h]
  show (m.row.set p (nextRow m p r))[q]?.getD 0=_
  rw [zL5]
  by_cases h2:q=p∧p < m.row.length
  ·rw [if_pos h2,if_pos ⟨h,h2⟩]
  ·rw [if_neg h2,if_neg (fun e=>h2 e.2)];rfl
 ·rw [if_neg h,if_neg (fun e=>h e.1)];rfl
theorem MonLow.start (n:Nat):MonLow 0 (Mon.start n):=by
 have h0:∀ p,(List.replicate n 0)[p]?.getD 0=0:=fun p=>by
  by_cases h:p < n
  ·rw [List.getElem?_replicate];simp [h]
  ·rw [List.getElem?_eq_none (by simpa using h)];rfl
 exact ⟨fun p=>by show (List.replicate n 0)[p]?.getD 0≤_;rw [h0];exact Nat.zero_le _,fun p=>by show (List.replicate n 0)[p]?.getD 0≤_;rw [h0];exact Nat.zero_le _⟩
theorem zF6 {N:Nat} {m:Mon} (h:MonLow N m) (p r:Nat):nextRow m p r≤N + 1:=by
 have:=h.row p
 unfold nextRow;split<;>omega
theorem MonLow.next {N:Nat} {m:Mon} (h:MonLow N m) {recover:List (List Nat)} {node r p k:Nat} (hr:r < 1048576):MonLow (N + 1) (nextM recover node m r p k):=by
 refine ⟨fun q=>?_,fun q=>?_⟩
 ·rw [zh8];split
  ·omega
  ·exact h.last q
 ·rw [zn8];split
  ·exact zF6 h p r
  ·exact Nat.le_succ_of_le (h.row q)
theorem MonLow.report {N:Nat} {m:Mon} (h:MonLow N m) {recover:List (List Nat)} {node r k:Nat} {part:Int}:MonLow (N + 1) (reportT recover node m r part k).2:=by
 unfold reportT
 split
 ·exact ⟨h.last,fun q=>Nat.le_succ_of_le (h.row q)⟩
 ·rename_i hb
  refine h.next ?_
  unfold badB at hb
  rw [decide_eq_true_eq] at hb
  omega
theorem MonLow.more {N N':Nat} {m:Mon} (h:MonLow N m) (hn:N≤N'):MonLow N' m:=⟨h.last,fun q=>Nat.le_trans (h.row q) hn⟩
section
variable {α:Type}
end
end HeaP
namespace ApeP
open TableP
structure Op where
 kind:Nat
 port:Int
 a:Int
 b:Int
 c:Int
 data:List UInt8
structure Res where
 code:Nat
 value:Int
 data:List UInt8
 fresh:Bool
def Res.zero:Res:=⟨0,0,[],false⟩
structure AS where
 mem:List Nat
 ports:PorP.St
 mon:HeaP.Mon
 cmd:RepP.Cmd
def costT (o:Op):Int:=if o.kind=5∧1 < o.a then o.a else 1
def cut16 (v:Int):Nat:=(v % 65536).toNat
def cmdOf (o:Op):RepP.Cmd:=if o.kind=7 then ⟨1,o.a.toNat,cut16 o.b,0⟩ else if o.kind=9 then ⟨3,o.a.toNat,cut16 o.b,cut16 o.c⟩ else ⟨2,o.a.toNat,0,0⟩
def opT (c:Cfg) (node:Int) (part:Nat) (T:RepP.T) (s:AS) (o:Op):(Res × Option Nat) × AS:=
 if o.kind=1 then ((Res.zero,(PorP.writeT c node s.ports part o.port o.data).1),⟨s.mem,(PorP.writeT c node s.ports part o.port o.data).2,s.mon,s.cmd⟩)
 else if o.kind=2 then ((⟨0,0,(PorP.readT c node s.ports part o.port).1.1,(PorP.readT c node s.ports part o.port).1.2.1⟩,(PorP.readT c node s.ports part o.port).1.2.2),⟨s.mem,(PorP.readT c node s.ports part o.port).2,s.mon,s.cmd⟩)
 else if o.kind=3∨o.kind=4 then
  (if o.a < 0∨(s.mem.length:Int)≤o.a then ((Res.zero,some 150),s)
   else if o.kind=3 then ((⟨0,cut16 o.b,[],false⟩,none),⟨s.mem.set o.a.toNat (cut16 o.b),s.ports,s.mon,s.cmd⟩)
   else ((⟨0,(s.mem[o.a.toNat]?.getD 0:Nat),[],false⟩,none),s))
 else if o.kind=5 then ((Res.zero,none),s)
 else if 7≤o.kind∧o.kind≤10 then
  (if o.a < 0∨7 < o.a then ((Res.zero,some 2),s)
   else if o.kind=10 then (match RepP.tat T o.a.toNat with | some v=>((⟨0,(v:Nat),[],false⟩,none),s) | none=>((⟨17 - 7,0,[],false⟩,none),s))
   else if s.cmd.kind≠0 then ((Res.zero,some 14),s)
   else ((Res.zero,none),⟨s.mem,s.ports,s.mon,cmdOf o⟩))
 else ((Res.zero,some 152),s)
def showT (x:Res × Option Nat):Res:=match x.2 with | some e=>⟨e,0,[],false⟩ | none=>x.1
def kindOf (e:Option Nat):Option Nat:=match e with | some e=>HeaP.kindT [e] | none=>none
def monT (s:AS) (m:HeaP.Mon):AS:=⟨s.mem,s.ports,m,s.cmd⟩
structure Got where
 res:List Res
 did:Nat
 left:Int
 st:AS
def Got.more (r:Res) (g:Got):Got:=⟨r :: g.res,g.did,g.left,g.st⟩
section
variable {c:Cfg} {node:Int} {part:Nat} {recover:List (List Nat)} {round:Nat} {T:RepP.T} {ops:List Op} {left:Int} {s:AS} {o:Op} {k:Nat}
theorem cost_pos (o:Op):1≤costT o:=by unfold costT;split<;>omega
theorem op_mon:(opT c node part T s o).2.mon=s.mon:=by
 unfold opT
 repeat' split
 all_goals rfl
theorem find_code {p q:Int} {out:Bool} {e:Nat} (h:PorP.findT c node p q out=some e):e=17∨e=13:=by
 unfold PorP.findT at h
 repeat' split at h
 all_goals first | (cases h;done) | (obtain rfl:=Option.some.inj h;simp)
theorem write_code {st:PorP.St} {p q:Int} {d:List UInt8} {e:Nat} (h:(PorP.writeT c node st p q d).1=some e):e=17∨e=13∨e=12∨e=11:=by
 unfold PorP.writeT at h
 cases hf:PorP.findT c node p q true with
 | some x=>
  simp only [hf] at h
  obtain rfl:=Option.some.inj h
  have:=find_code hf
  omega
 | none=>
  simp only [hf] at h
  repeat' split at h
  all_goals first | (cases h;done) | (obtain rfl:=Option.some.inj h;simp)
theorem read_code {st:PorP.St} {p q:Int} {e:Nat} (h:(PorP.readT c node st p q).1.2.2=some e):e=17∨e=13∨e=10:=by
 unfold PorP.readT at h
 cases hf:PorP.findT c node p q false with
 | some x=>
  simp only [hf] at h
  obtain rfl:=Option.some.inj h
  have:=find_code hf
  omega
 | none=>
  simp only [hf] at h
  repeat' split at h
  all_goals first | (cases h;done) | (obtain rfl:=Option.some.inj h;simp)
theorem cmd_op (h:7≤o.kind∧o.kind≤9):opT c node part T s o=if o.a < 0∨7 < o.a then ((Res.zero,some 2),s) else if s.cmd.kind≠0 then ((Res.zero,some 14),s) else ((Res.zero,none),⟨s.mem,s.ports,s.mon,cmdOf o⟩):=by
 unfold opT
 rw [if_neg (by omega),if_neg (by omega),if_neg (by omega),if_neg (by omega),if_pos (by omega),if_neg (show ¬ o.kind=10 by omega)]
end
end ApeP
namespace PorP
open TableP
def hasB (c:Cfg) (node part port:Int):Bool:=decide (0≤port) && match c.ports[port.toNat]? with | some p=>decide (p.part=part) && mineB c node p | none=>false
theorem zn9 (c:Cfg) (node part port:Int) (out:Bool):findT c node part port out=if hasB c node part port=true then (match c.ports[port.toNat]? with | some p=>if p.out=out then none else some 13 | none=>some 17) else some 17:=by
 unfold findT hasB
 by_cases h0:port < 0
 ·rw [if_pos h0,if_neg (by simp;omega)]
 ·rw [if_neg h0]
  have h1:decide (0≤port)=true:=decide_eq_true (by omega)
  cases c.ports[port.toNat]? with
  | none=>simp
  | some p=>
   simp only [h1,Bool.true_and,Bool.and_eq_true,decide_eq_true_eq]
def wayB (c:Cfg) (node:Int) (port:Nat) (r:Route):Bool:=decide (r.src=(port:Int)) && match c.ports[r.dst.toNat]? with | some p=>mineB c node p | none=>false
def toT (c:Cfg) (node:Int) (port:Nat):List Int:=(c.routes.filter (wayB c node port)).map Route.dst
def toK (c:Cfg) (node:Int) (port k:Nat):List Int:=((c.routes.take k).filter (wayB c node port)).map Route.dst
theorem toK_all (c:Cfg) (node:Int) (port:Nat):toK c node port c.routes.length=toT c node port:=by unfold toK toT;rw [List.take_length]
theorem zs9 {c:Cfg} {node:Int} {port k:Nat} {r:Route} (h:c.routes[k]? = some r):toK c node port (k + 1)=toK c node port k ++ if wayB c node port r=true then [r.dst] else []:=by
 unfold toK
 rw [List.take_add_one,h,List.filter_append,List.map_append]
 simp only [Option.toList_some,List.filter_cons,List.filter_nil]
 split<;>rfl
theorem toK_len (c:Cfg) (node:Int) (port k:Nat):(toK c node port k).length≤k:=by
 unfold toK
 rw [List.length_map]
 exact Nat.le_trans (List.length_filter_le _ _) (by rw [List.length_take];omega)
def putOne (c:Cfg) (d:List UInt8) (st:St) (tv:Int):Nat × St:=
 match c.ports[tv.toNat]?,st[tv.toNat]? with
 | some p,some s=>if room p s=true then (1,st.set tv.toNat (putT p s d)) else (0,st)
 | _,_=>(0,st)
def writeP (c:Cfg) (node:Int) (st:St) (part port:Int) (d:List UInt8):Option Nat × St:=
 match findT c node part port true with
 | some e=>(some e,st)
 | none=>match c.ports[port.toNat]?,st[port.toNat]? with
  | some p,some s=>if p.size < (d.length:Int) then (some 12,st) else if room p s=true then (none,st.set port.toNat (putT p s d)) else (some 11,st)
  | _,_=>(some 17,st)
structure Like (c:Cfg) (a b:St):Prop where
 la:a.length=c.ports.length
 lb:b.length=c.ports.length
 each:∀ (i:Nat) (p:Port) (x y:PS),c.ports[i]? = some p→a[i]? = some x→b[i]? = some y→x.msgs=y.msgs∧(p.out=false→x.age=y.age)
theorem Like.start (c:Cfg):Like c (start c) (start c):=⟨zh7 c,zh7 c,fun i p x y _ hx hy=>by
 rw [hx] at hy
 obtain rfl:=Option.some.inj hy
 exact ⟨rfl,fun _=>rfl⟩⟩
theorem zo6 {c:Cfg} {a:St} {i:Nat} {p:Port} (hl:a.length=c.ports.length) (hp:c.ports[i]? = some p):∃ x,a[i]? = some x:=⟨_,List.getElem?_eq_getElem (by rw [hl];exact (List.getElem?_eq_some_iff.1 hp).1)⟩
theorem Like.set {c:Cfg} {a b:St} (h:Like c a b) {i:Nat} {p:Port} (hp:c.ports[i]? = some p) {x y:PS} (hxy:x.msgs=y.msgs∧(p.out=false→x.age=y.age)):Like c (a.set i x) (b.set i y):=by
 refine ⟨by rw [List.length_set];exact h.la,by rw [List.length_set];exact h.lb,fun j q u v hq hu hv=>?_⟩
 have hi:=(List.getElem?_eq_some_iff.1 hp).1
 by_cases hj:j=i
 ·subst hj
  rw [List.getElem?_set_self (by rw [h.la];exact hi)] at hu
  rw [List.getElem?_set_self (by rw [h.lb];exact hi)] at hv
  obtain rfl:=Option.some.inj hu
  obtain rfl:=Option.some.inj hv
  rw [hp] at hq
  obtain rfl:=Option.some.inj hq
  exact hxy
 ·rw [List.getElem?_set_ne (Ne.symm hj)] at hu hv
  exact h.each j q u v hq hu hv
theorem zL6 {p:Port} {x y:PS} (h:x.msgs=y.msgs):room p x=room p y:=by unfold room;rw [h]
theorem Like.write {c:Cfg} {a b:St} (h:Like c a b) (node part port:Int) (d:List UInt8):(writeP c node a part port d).1=(writeT c node b part port d).1∧Like c (writeP c node a part port d).2 (writeT c node b part port d).2:=by
 unfold writeP writeT
 cases hf:findT c node part port true with
 | some e=>exact ⟨rfl,h⟩
 | none=>
  simp only
  cases hp:c.ports[port.toNat]? with
  | none=>exact ⟨rfl,h⟩
  | some p=>
   obtain ⟨x,hx⟩:=zo6 h.la hp
   obtain ⟨y,hy⟩:=zo6 h.lb hp
   have hxy:=h.each _ p x y hp hx hy
   simp only [hx,hy]
   by_cases hs:p.size < (d.length:Int)
   ·rw [if_pos hs,if_pos hs];exact ⟨rfl,h⟩
   ·rw [if_neg hs,if_neg hs,zL6 hxy.1]
    by_cases hr:room p y=true
    ·rw [if_pos hr,if_pos hr]
     refine ⟨rfl,h.set hp ?_⟩
     have hout:p.out=true:=by
      unfold findT at hf
      split at hf
      ·cases hf
      ·rw [hp] at hf
       simp only at hf
       split at hf
       ·split at hf
        ·assumption
        ·cases hf
       ·cases hf
     unfold putT laidT
     split
     ·exact ⟨rfl,fun e=>by rw [hout] at e;cases e⟩
     ·exact ⟨by simp [hxy.1],hxy.2⟩
    ·rw [if_neg hr,if_neg hr];exact ⟨rfl,h⟩
theorem Like.read {c:Cfg} {a b:St} (h:Like c a b) (node part port:Int):(readT c node a part port).1=(readT c node b part port).1∧Like c (readT c node a part port).2 (readT c node b part port).2:=by
 unfold readT
 cases hf:findT c node part port false with
 | some e=>exact ⟨rfl,h⟩
 | none=>
  simp only
  cases hp:c.ports[port.toNat]? with
  | none=>exact ⟨rfl,h⟩
  | some p=>
   obtain ⟨x,hx⟩:=zo6 h.la hp
   obtain ⟨y,hy⟩:=zo6 h.lb hp
   have hxy:=h.each _ p x y hp hx hy
   have hout:p.out=false:=by
    unfold findT at hf
    split at hf
    ·cases hf
    ·rw [hp] at hf
     simp only at hf
     split at hf
     ·split at hf
      ·assumption
      ·cases hf
     ·cases hf
   simp only [hx,hy,hxy.1]
   cases hm:y.msgs with
   | nil=>exact ⟨rfl,h⟩
   | cons d r=>
    simp only
    by_cases hk:p.kind=1
    ·rw [if_pos hk,if_pos hk,hxy.2 hout];exact ⟨rfl,h⟩
    ·rw [if_neg hk,if_neg hk]
     exact ⟨rfl,h.set hp ⟨rfl,fun _=>hxy.2 hout⟩⟩
theorem zj5 (c:Cfg) (node:Int) (out:Bool):∀ (ps:List Port) (a b:St) (i:Nat),(∀ (k:Nat) (x y:PS),a[k]? = some x→b[k]? = some y→x.msgs=y.msgs)→a.length=b.length→imageFrom c node out i ps a=imageFrom c node out i ps b
 | [],[],[],_,_,_=>rfl
 | [],[],_ :: _,_,_,hl=>by simp at hl
 | [],_ :: _,[],_,_,hl=>by simp at hl
 | [],_ :: _,_ :: _,_,_,_=>rfl
 | _ :: _,[],[],_,_,_=>rfl
 | _ :: _,[],_ :: _,_,_,hl=>by simp at hl
 | _ :: _,_ :: _,[],_,_,hl=>by simp at hl
 | p :: ps,x :: a,y :: b,i,h,hl=>by
  unfold imageFrom
  rw [zj5 c node out ps a b (i + 1) (fun k u v hu hv=>h (k + 1) u v (by simpa using hu) (by simpa using hv)) (by simpa using hl),h 0 x y rfl rfl]
theorem Like.image {c:Cfg} {a b:St} (h:Like c a b) (node:Int) (out:Bool):imageT c node out a=imageT c node out b:=
 zj5 c node out c.ports a b 0 (fun k x y hx hy=>by
  have hk:=(List.getElem?_eq_some_iff.1 hx).1
  rw [h.la] at hk
  exact (h.each k _ x y (List.getElem?_eq_getElem hk) hx hy).1) (h.la.trans h.lb.symm)
end PorP
namespace PorP
open TableP
def mapK (c:Cfg) (f:Port→PS→PS) (st:St):Nat→St
 | 0=>st
 | k + 1=>match c.ports[k]?,st[k]? with
  | some p,some s=>(mapK c f st k).set k (f p s)
  | _,_=>mapK c f st k
section
variable {c:Cfg} {f:Port→PS→PS} {st:St}
end
def msgOf (i:Nat) (d:List UInt8):FrameP.Msg:=⟨(i:Int),d⟩
def imgP (c:Cfg) (sel:Port→Bool) (st:St):Nat→List FrameP.Msg
 | 0=>[]
 | k + 1=>imgP c sel st k ++ (match c.ports[k]?,st[k]? with
  | some p,some s=>if sel p=true then s.msgs.map (msgOf k) else []
  | _,_=>[])
theorem zo7 {c:Cfg} {sel:Port→Bool} {st:St} {k:Nat} {p:Port} {s:PS} (hp:c.ports[k]? = some p) (hs:st[k]? = some s):imgP c sel st (k + 1)=imgP c sel st k ++ if sel p=true then s.msgs.map (msgOf k) else []:=by
 show imgP c sel st k ++ (match c.ports[k]?,st[k]? with | some p,some s=>if sel p=true then s.msgs.map (msgOf k) else [] | _,_=>[])=_
 rw [hp,hs]
theorem imgP_len {c:Cfg} {sel:Port→Bool} {st:St} (h:∀ s∈st,s.msgs.length≤4):∀ k,(imgP c sel st k).length≤4 * k
 | 0=>by simp [imgP]
 | k + 1=>by
  have ih:=imgP_len (c:=c) (sel:=sel) h k
  unfold imgP
  rw [List.length_append]
  split
  ·rename_i p s hp hs
   have:=h s (List.mem_of_getElem? hs)
   split
   ·rw [List.length_map];omega
   ·simp;omega
  ·simp;omega
theorem zv7 {c:Cfg} {node:Int} {out:Bool} {st:St} (hl:st.length=c.ports.length):∀ k,k≤c.ports.length→(imageK c node out st k).map (fun m=>msgOf m.1 m.2)=imgP c (shown c node out) st k
 | 0,_=>by simp [imageK,imageFrom,imgP]
 | k + 1,hk=>by
  have hp:c.ports[k]? = some c.ports[k]:=List.getElem?_eq_getElem (by omega)
  have hs:st[k]? = some st[k]:=List.getElem?_eq_getElem (by omega)
  rw [zF5 hp hs,zo7 hp hs,List.map_append,zv7 hl k (by omega)]
  congr 1
  split
  ·rw [List.map_map];rfl
  ·rfl
def msgsT (c:Cfg) (node:Int) (out:Bool) (st:St):List FrameP.Msg:=(imageT c node out st).map (fun m=>msgOf m.1 m.2)
theorem img_all {c:Cfg} {node:Int} {out:Bool} {st:St} (hl:st.length=c.ports.length):imgP c (shown c node out) st c.ports.length=msgsT c node out st:=by
 unfold msgsT
 rw [← zL1 hl,zv7 hl _ (Nat.le_refl _)]
structure Bare (c:Cfg) (node:Int) (st:St):Prop where
 len:st.length=c.ports.length
 none_:∀ (i:Nat) (p:Port) (s:PS),c.ports[i]? = some p→st[i]? = some s→mineB c node p=false→s.msgs=[]
theorem Bare.start (c:Cfg) (node:Int):Bare c node (start c):=⟨zh7 c,fun i p s _ hs _=>by
 rw [List.eq_of_mem_replicate (List.mem_of_getElem? hs)];rfl⟩
theorem Bare.set {c:Cfg} {node:Int} {st:St} (h:Bare c node st) {i:Nat} {p:Port} (hp:c.ports[i]? = some p) {x:PS} (hx:mineB c node p=false→x.msgs=[]):Bare c node (st.set i x):=by
 refine ⟨by rw [List.length_set];exact h.len,fun j q s hq hs hm=>?_⟩
 have hi:=(List.getElem?_eq_some_iff.1 hp).1
 by_cases hj:j=i
 ·subst hj
  rw [List.getElem?_set_self (by rw [h.len];exact hi)] at hs
  obtain rfl:=Option.some.inj hs
  rw [hp] at hq
  obtain rfl:=Option.some.inj hq
  exact hx hm
 ·rw [List.getElem?_set_ne (Ne.symm hj)] at hs
  exact h.none_ j q s hq hs hm
theorem zv8 {c:Cfg} {node part port:Int} {out:Bool} {p:Port} (h:findT c node part port out=none) (hp:c.ports[port.toNat]? = some p):mineB c node p=true:=by
 unfold findT at h
 split at h
 ·cases h
 ·rw [hp] at h
  simp only at h
  split at h
  ·rename_i h1;exact h1.2
  ·cases h
theorem Bare.write {c:Cfg} {node:Int} {st:St} (h:Bare c node st) (part port:Int) (d:List UInt8):Bare c node (writeP c node st part port d).2:=by
 unfold writeP
 cases hf:findT c node part port true with
 | some e=>exact h
 | none=>
  simp only
  cases hp:c.ports[port.toNat]? with
  | none=>exact h
  | some p=>
   obtain ⟨s,hs⟩:=zo6 h.len hp
   simp only [hs]
   split
   ·exact h
   ·split
    ·exact h.set hp fun e=>by rw [zv8 hf hp] at e;cases e
    ·exact h
theorem Bare.read {c:Cfg} {node:Int} {st:St} (h:Bare c node st) (part port:Int):Bare c node (readT c node st part port).2:=by
 unfold readT
 cases hf:findT c node part port false with
 | some e=>exact h
 | none=>
  simp only
  cases hp:c.ports[port.toNat]? with
  | none=>exact h
  | some p=>
   obtain ⟨s,hs⟩:=zo6 h.len hp
   simp only [hs]
   split
   ·exact h
   ·split
    ·exact h
    ·exact h.set hp fun e=>by rw [zv8 hf hp] at e;cases e
theorem Bare.img {c:Cfg} {node:Int} {st:St} (h:Bare c node st) (out:Bool):∀ k,imgP c (fun p=>!out || p.out) st k=imgP c (shown c node out) st k
 | 0=>rfl
 | k + 1=>by
  unfold imgP
  rw [h.img out k]
  congr 1
  cases hp:c.ports[k]? with
  | none=>rfl
  | some p=>
   obtain ⟨s,hs⟩:=zo6 h.len hp
   simp only [hs,shown]
   by_cases hm:mineB c node p=true
   ·simp [hm]
   ·have hm':mineB c node p=false:=by simpa using hm
    simp [hm',h.none_ k p s hp hs hm']
end PorP
namespace ApeP
open TableP
abbrev OpF:=AS→Op→(Res × Option Nat) × AS
def stepG (op:OpF) (left:Int) (s:AS) (o:Op):((Res × Option Nat) × Int) × AS:=
 if left < costT o then (((Res.zero,some 151),0),s) else (((op s o).1,left - costT o),(op s o).2)
structure OneR where
 res:Res
 did:Nat
 ends:Bool
 left:Int
 st:AS
def tellG (recover:List (List Nat)) (node part round:Nat) (m:HeaP.Mon) (e:Option Nat):(Nat × Bool) × HeaP.Mon:=
 match kindOf e with
 | none=>((0,false),m)
 | some k=>(((HeaP.reportT recover node m round part k).1.1,decide ((HeaP.reportT recover node m round part k).1.2≠0∨(HeaP.reportT recover node m round part k).1.1≠0∨k=0)),(HeaP.reportT recover node m round part k).2)
def oneG (op:OpF) (recover:List (List Nat)) (node part round:Nat) (left:Int) (s:AS) (o:Op):OneR:=
 ⟨showT (stepG op left s o).1.1,(tellG recover node part round (stepG op left s o).2.mon (stepG op left s o).1.1.2).1.1,(tellG recover node part round (stepG op left s o).2.mon (stepG op left s o).1.1.2).1.2,(stepG op left s o).1.2,monT (stepG op left s o).2 (tellG recover node part round (stepG op left s o).2.mon (stepG op left s o).1.1.2).2⟩
def runG (op:OpF) (recover:List (List Nat)) (node part round:Nat):List Op→Int→AS→Got
 | [],left,s=>⟨[],0,left,s⟩
 | o :: ops,left,s=>if (oneG op recover node part round left s o).ends=true then ⟨[(oneG op recover node part round left s o).res],(oneG op recover node part round left s o).did,(oneG op recover node part round left s o).left,(oneG op recover node part round left s o).st⟩
  else (runG op recover node part round ops (oneG op recover node part round left s o).left (oneG op recover node part round left s o).st).more (oneG op recover node part round left s o).res
section
variable {c:Cfg} {node part round:Nat} {recover:List (List Nat)} {T:RepP.T} {op:OpF} {ops:List Op} {left:Int} {s t:AS} {o:Op}
theorem step_mon:(stepG (opT c node part T) left s o).2.mon=s.mon:=by
 unfold stepG
 split
 ·rfl
 ·exact op_mon
def Got.pre (l:List Res) (g:Got):Got:=⟨l ++ g.res,g.did,g.left,g.st⟩
theorem pre_more (l:List Res) (r:Res) (g:Got):(g.more r).pre l=g.pre (l ++ [r]):=by
 show Got.mk (l ++ (r :: g.res)) _ _ _=Got.mk ((l ++ [r]) ++ g.res) _ _ _
 rw [List.append_assoc];rfl
theorem run_end (h:(oneG op recover node part round left s o).ends=true) (l:List Res):(runG op recover node part round (o :: ops) left s).pre l=⟨l ++ [(oneG op recover node part round left s o).res],(oneG op recover node part round left s o).did,(oneG op recover node part round left s o).left,(oneG op recover node part round left s o).st⟩:=by
 unfold runG
 rw [if_pos h];rfl
theorem run_next (h:(oneG op recover node part round left s o).ends=false) (l:List Res):(runG op recover node part round (o :: ops) left s).pre l=(runG op recover node part round ops (oneG op recover node part round left s o).left (oneG op recover node part round left s o).st).pre (l ++ [(oneG op recover node part round left s o).res]):=by
 rw [← pre_more]
 conv=>lhs;unfold runG
 rw [if_neg (by rw [h];decide)]
def opP (c:Cfg) (node part:Nat) (T:RepP.T):OpF:=fun s o=>
 if o.kind=1 then ((Res.zero,(PorP.writeP c node s.ports part o.port o.data).1),⟨s.mem,(PorP.writeP c node s.ports part o.port o.data).2,s.mon,s.cmd⟩)
 else opT c node part T s o
structure LikeA (c:Cfg) (s t:AS):Prop where
 mem:s.mem=t.mem
 ports:PorP.Like c s.ports t.ports
 mon:s.mon=t.mon
 cmd:s.cmd=t.cmd
theorem LikeA.monT (h:LikeA c s t) (m:HeaP.Mon):LikeA c (monT s m) (monT t m):=⟨h.mem,h.ports,rfl,h.cmd⟩
theorem LikeA.oneOp (h:LikeA c s t) (o:Op):(opP c node part T s o).1=(opT c node part T t o).1∧LikeA c (opP c node part T s o).2 (opT c node part T t o).2:=by
 obtain ⟨sm,sp,sn,sc⟩:=s
 obtain ⟨tm,tp,tn,tc⟩:=t
 obtain ⟨h1,h2,h3,h4⟩:=h
 simp only at h1 h2 h3 h4
 subst h1 h3 h4
 unfold opP
 by_cases k1:o.kind=1
 ·obtain ⟨q1,q2⟩:=h2.write node part o.port o.data
  rw [if_pos k1]
  unfold opT
  rw [if_pos k1]
  simp only
  exact ⟨by rw [q1],rfl,q2,rfl,rfl⟩
 ·rw [if_neg k1]
  unfold opT
  rw [if_neg k1,if_neg k1]
  by_cases k2:o.kind=2
  ·obtain ⟨q1,q2⟩:=h2.read node part o.port
   rw [if_pos k2,if_pos k2]
   simp only
   exact ⟨by rw [q1],rfl,q2,rfl,rfl⟩
  ·rw [if_neg k2,if_neg k2]
   simp only
   repeat' split
   all_goals exact ⟨rfl,rfl,h2,rfl,rfl⟩
theorem LikeA.step (h:LikeA c s t) (left:Int) (o:Op):(stepG (opP c node part T) left s o).1=(stepG (opT c node part T) left t o).1∧LikeA c (stepG (opP c node part T) left s o).2 (stepG (opT c node part T) left t o).2:=by
 obtain ⟨q1,q2⟩:=h.oneOp (node:=node) (part:=part) (T:=T) o
 unfold stepG
 split
 ·exact ⟨rfl,h⟩
 ·simp only
  exact ⟨by rw [q1],q2⟩
theorem LikeA.one (h:LikeA c s t) (left:Int) (o:Op):(oneG (opP c node part T) recover node part round left s o).res=(oneG (opT c node part T) recover node part round left t o).res∧(oneG (opP c node part T) recover node part round left s o).did=(oneG (opT c node part T) recover node part round left t o).did∧(oneG (opP c node part T) recover node part round left s o).ends=(oneG (opT c node part T) recover node part round left t o).ends∧(oneG (opP c node part T) recover node part round left s o).left=(oneG (opT c node part T) recover node part round left t o).left∧LikeA c (oneG (opP c node part T) recover node part round left s o).st (oneG (opT c node part T) recover node part round left t o).st:=by
 obtain ⟨q1,q2⟩:=h.step (node:=node) (part:=part) (T:=T) left o
 unfold oneG
 simp only
 rw [q1,q2.mon]
 exact ⟨rfl,rfl,rfl,rfl,q2.monT _⟩
theorem LikeA.run (recover:List (List Nat)) (round:Nat):∀ (ops:List Op) (left:Int) (s t:AS),LikeA c s t→(runG (opP c node part T) recover node part round ops left s).res=(runG (opT c node part T) recover node part round ops left t).res∧(runG (opP c node part T) recover node part round ops left s).did=(runG (opT c node part T) recover node part round ops left t).did∧(runG (opP c node part T) recover node part round ops left s).left=(runG (opT c node part T) recover node part round ops left t).left∧LikeA c (runG (opP c node part T) recover node part round ops left s).st (runG (opT c node part T) recover node part round ops left t).st
 | [],_,_,_,h=>⟨rfl,rfl,rfl,h⟩
 | o :: ops,left,s,t,h=>by
  obtain ⟨q1,q2,q3,q4,q5⟩:=h.one (node:=node) (part:=part) (T:=T) (recover:=recover) (round:=round) left o
  unfold runG
  rw [q3,q1,q2,q4]
  split
  ·exact ⟨rfl,rfl,rfl,q5⟩
  ·obtain ⟨r1,r2,r3,r4⟩:=LikeA.run recover round ops (oneG (opT c node part T) recover node part round left t o).left _ _ q5
   exact ⟨by show _ :: _=_ :: _;rw [r1],r2,r3,r4⟩
end
end ApeP
end Go.Proofs.YtfgpfmhjnccccaaGreatDoor
