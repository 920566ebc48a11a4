import Derived.Test.YtfgpfmhjnccccaaGreatDoorChecked
import Derived.WalkKit
import Derived.LaidEql
import Derived.Stop.Asserts
import Derived.RowKitTokens
import Derived.Lib.Hide
import Derived.ShutString
import Derived.Deep.RegionHeld3
import Derived.Defers
import Derived.Recover
namespace Go.Proofs.YtfgpfmhjnccccaaGreatDoor
open Go.RowKit Go.Extern.Stop Go.Stop Go.Extern
def errV:List (Nat × Int × Int)→Option Int→Value
 | [],none=>.nilIface
 | [],some n=>.iface 92 (.int .i64 n)
 | (b,_,_) :: _,_=>.iface 190 (.pointer (some ⟨b,0,none⟩))
def ErrIn (w:World) (t:Option Int):Nat→List (Nat × Int × Int)→Prop
 | _,[]=>True
 | B,(b,c,a) :: r=>b < B∧w.heap[b]? = some (.cells #[.int .i64 c,.int .i64 a,errV r t] 192 (0,0))∧ErrIn w t b r
theorem ErrIn.mono {w:World} {t:Option Int}:∀ {l:List (Nat × Int × Int)} {B B':Nat},ErrIn w t B l→B≤B'→ErrIn w t B' l
 | [],_,_,_,_=>trivial
 | (_,_,_) :: _,_,_,⟨h1,h2,h3⟩,hB=>⟨Nat.lt_of_lt_of_le h1 hB,h2,h3⟩
theorem ErrIn.keep {w w':World} {t:Option Int}:∀ {l:List (Nat × Int × Int)} {B:Nat},ErrIn w t B l→(∀ k,k < B→w'.heap[k]? = w.heap[k]?)→ErrIn w' t B l
 | [],_,_,_=>trivial
 | (_,_,_) :: _,_,⟨h1,h2,h3⟩,hk=>⟨h1,(hk _ h1).trans h2,h3.keep (fun k hk'=>hk k (Nat.lt_trans hk' h1))⟩
theorem ErrIn.below {w w':World} {t:Option Int} {l:List (Nat × Int × Int)} {B C:Nat} (h:ErrIn w t B l) (hb:Below C w w') (hB:B≤C):ErrIn w' t B l:=
 h.keep fun k hk=>hb.block k (by omega)
theorem ErrIn.tail {w:World} {t:Option Int} {B:Nat} {x:Nat × Int × Int} {l:List (Nat × Int × Int)} (h:ErrIn w t B (x :: l)):ErrIn w t B l:=by
 obtain ⟨b,c,a⟩:=x
 exact h.2.2.mono (Nat.le_of_lt h.1)
theorem ErrIn.drop {w:World} {t:Option Int} {B:Nat}:∀ {l:List (Nat × Int × Int)} (n:Nat),ErrIn w t B l→ErrIn w t B (l.drop n)
 | _,0,h=>by simpa using h
 | [],_ + 1,_=>trivial
 | _ :: l,n + 1,h=>by simpa using ErrIn.drop n h.tail
theorem cells3 {w:World} {b:Nat} {x y z:Value} {t:TypeId} (h:w.heap[b]? = some (.cells #[x,y,z] t (0,0))) :
 w.cell? ⟨b,0,none⟩=some x∧w.cell? ⟨b,1,none⟩=some y∧w.cell? ⟨b,2,none⟩=some z:=by
 refine ⟨?_,?_,?_⟩<;>simp [World.cell?,h]
theorem zL9 (n:Value) (w:World):(Instr.typeAssert (.iface 92 n) 58 92 true).run Tryz.prog w = .ok (.tuple #[n,.bool true]) w:=by kernel_rfl
theorem zw3 (n:Value) (w:World):(Instr.typeAssert (.iface 190 n) 58 190 true).run Tryz.prog w = .ok (.tuple #[n,.bool true]) w:=by kernel_rfl
theorem zw4 (n:Value) (w:World):(Instr.typeAssert (.iface 92 n) 58 190 true).run Tryz.prog w = .ok (.tuple #[.pointer none,.bool false]) w:=by kernel_rfl
def place (a:Int):Int:=if a < -1 then -1 else a
theorem zd4 (c a:Int) (w:World) (hc:(c == 0)=false) :
 Calls Tryz.prog 62 #[.int .i64 c,.int .i64 a] w fun e w'=>e = .returned (.iface 190 (.pointer (some ⟨w.heap.size,0,none⟩)))∧w'=w.alloc (.cells #[.int .i64 c,.int .i64 (place a),.nilIface] 192):=by
 by_cases ha:a < -1
 ·have hp:place a = -1:=if_pos ha
  rw [hp];clear hp
  go_enter Tryz.func62,Tryz.ntmps62
  go_wp2
  all_goals (go_ret;exact ⟨rfl,rfl⟩)
 ·have hp:place a=a:=if_neg ha
  rw [hp];clear hp
  go_enter Tryz.func62,Tryz.ntmps62
  go_wp2
  all_goals (go_ret;exact ⟨rfl,rfl⟩)
open Go.RowKit
def errAt (l:List (Nat × Int × Int)) (t:Option Int) (n:Nat):Value:=errV (l.drop n) (if n≤l.length then t else none)
def nd (l:List (Nat × Int × Int)) (n:Nat):Nat × Int × Int:=l.getD n (0,0,0)
def flt (b:Nat):Value:=.iface 190 (.pointer (some ⟨b,0,none⟩))
theorem zi8 (l:List (Nat × Int × Int)) (t:Option Int):errAt l t 0=errV l t:=by simp [errAt]
theorem zh1 {l:List (Nat × Int × Int)} {t:Option Int} {n:Nat} (h:n < l.length):errAt l t n=flt (nd l n).1:=by
 unfold errAt nd flt
 rw [List.drop_eq_getElem_cons h,List.getD_eq_getElem?_getD,List.getElem?_eq_getElem h]
 rcases l[n] with ⟨b,c,a⟩
 simp [errV]
theorem zg6 (l:List (Nat × Int × Int)) (t:Option Int):errAt l t l.length=errV [] t:=by simp [errAt]
theorem zm0 {l:List (Nat × Int × Int)} {t:Option Int} {n:Nat} (h:l.length < n):errAt l t n = .nilIface:=by
 unfold errAt
 rw [List.drop_of_length_le (by omega),if_neg (by omega)]
 rfl
theorem ErrIn.node {w:World} {t:Option Int}:∀ {l:List (Nat × Int × Int)} {B:Nat} {n:Nat},ErrIn w t B l→n < l.length →
 (nd l n).1 < B∧w.heap[(nd l n).1]? = some (.cells #[.int .i64 (nd l n).2.1,.int .i64 (nd l n).2.2,errAt l t (n + 1)] 192 (0,0))
 | [],_,_,_,h=>absurd h (by simp)
 | (b,c,a) :: r,B,0,⟨h1,h2,_⟩,_=>by
  refine ⟨h1,?_⟩
  have e:errAt ((b,c,a) :: r) t (0 + 1)=errV r t:=by simp [errAt]
  rw [e];exact h2
 | (b,c,a) :: r,B,n + 1,⟨h1,_,h3⟩,h=>by
  have h':n < r.length:=by simpa using h
  obtain ⟨g1,g2⟩:=ErrIn.node (n:=n) h3 h'
  have e1:nd ((b,c,a) :: r) (n + 1)=nd r n:=by simp [nd]
  have e2:errAt ((b,c,a) :: r) t (n + 1 + 1)=errAt r t (n + 1):=by simp [errAt]
  rw [e1,e2]
  exact ⟨by omega,g2⟩
theorem ErrIn.desc {w:World} {t:Option Int}:∀ {l:List (Nat × Int × Int)} {B:Nat} {i j:Nat},ErrIn w t B l→i < j→j < l.length→(nd l j).1 < (nd l i).1
 | [],_,_,_,_,_,h=>absurd h (by simp)
 | (b,c,a) :: r,_,0,j + 1,⟨_,_,h3⟩,_,h=>by
  have h':j < r.length:=by simpa using h
  have e:nd ((b,c,a) :: r) (j + 1)=nd r j:=by simp [nd]
  rw [e]
  exact (ErrIn.node h3 h').1
 | (b,c,a) :: r,_,i + 1,j + 1,⟨_,_,h3⟩,hij,h=>by
  have h':j < r.length:=by simpa using h
  have e:nd ((b,c,a) :: r) (j + 1)=nd r j:=by simp [nd]
  have e':nd ((b,c,a) :: r) (i + 1)=nd r i:=by simp [nd]
  rw [e,e']
  exact ErrIn.desc h3 (by omega) h'
 | (_,_,_) :: _,_,_,0,_,h,_=>absurd h (by omega)
theorem cell0 {w:World} {p:Nat} {v:Value} {t:TypeId} (h:w.heap[p]? = some (.cells #[v] t (0,0))):w.cell? ⟨p,0,none⟩=some v∧w.frozen? ⟨p,0,none⟩=false:=by
 simp [World.cell?,World.frozen?,h]
theorem set0 {w:World} {p:Nat} {v v':Value} {t:TypeId} (h:w.heap[p]? = some (.cells #[v] t (0,0))):(w.setCell ⟨p,0,none⟩ v').heap[p]? = some (.cells #[v'] t (0,0)):=by
 simp only [World.setCell,Array.getElem?_modify,if_pos,h];rfl
theorem far {w:World} {p b:Nat} {v:Value} (h:b≠p):(w.setCell ⟨p,0,none⟩ v).heap[b]? = w.heap[b]?:=
 Below.heap_setCell w ⟨p,0,none⟩ v b h
theorem zi2 {w w':World} {p:Nat} {v:Value} (h:w.grownBy w' (some p)):w.grownBy (w'.setCell ⟨p,0,none⟩ v) (some p):=
 ⟨h.os,h.tape,h.output,by simpa [World.setCell] using h.size,fun k hk hne=>(far (fun e=>hne (by rw [e]))).trans (h.block k hk hne)⟩
theorem zf5 (w:World) (row:Option Nat):w.grownBy w row:=⟨rfl,rfl,rfl,Nat.le_refl _,fun _ _ _=>rfl⟩
open Go.RowKit Go.Extern.Stop Go.Stop Go.Extern
def digs:Nat→Nat→List UInt8→List UInt8
 | 0,_,acc=>acc
 | f + 1,n,acc=>if n / 10=0 then (48 + UInt8.ofNat (n % 10)) :: acc else digs f (n / 10) ((48 + UInt8.ofNat (n % 10)) :: acc)
def numN (n:Nat):List UInt8:=digs 20 n []
def strV (l:List UInt8):Value:=.string ⟨l.toArray⟩
theorem conv1 (b:Int) (w:World):(convert 89 9 (.slice (some ⟨w.heap.size,0,none⟩) 1 1)).run Tryz.prog (w.alloc (.cells #[.int .u8 b] 5)) = .ok (.string ⟨#[UInt8.ofNat b.toNat]⟩) (w.alloc (.cells #[.int .u8 b] 5)):=by
 rw [run_convert_bytes_string _ _ _ 5 _ _ _ Tryz.underlying89 Tryz.underlying5 Tryz.underlying9]
 rw [run_bytesToString _ _ 1 1 [b] ?_]
 ·rfl
 ·have hc:(w.alloc (.cells #[.int .u8 b] 5)).cell? ⟨w.heap.size,0,none⟩=some (.int .u8 b):=by
   rw [World.cell?_alloc_at _ _ _ _ rfl];rfl
  simp [loadCells,go_sem,hc]
def NumRel (n:Nat) (w:World) (v s:Value) (wr:World):Prop:=
 ∃ f m acc,v = .int .i64 (m:Nat)∧s=strV acc∧m < 10 ^ f∧m≤9223372036854775807∧f≤20∧1≤f∧acc.length + f=20∧digs f m acc=numN n∧Below w.heap.size w wr
set_option maxRecDepth 100000 in
set_option maxHeartbeats 1000000 in
theorem zi9 (n:Nat) (w:World) (hn:n≤9223372036854775807) :
 Calls Tryz.prog 51 #[.int .i64 n] w fun e w'=>e = .returned (strV (numN n))∧Below w.heap.size w w':=by
 have h1:((n:Int) == -9223372036854775808)=false:=by rw [beq_eq_false_iff_ne];omega
 have h2:decide ((n:Int) < 0)=false:=by rw [decide_eq_false_iff_not];omega
 have hcv:=conv1
 have Hn:=Lib.hid hn
 clear hn
 go_enter Tryz.func51,Tryz.ntmps51
 go_wp2_with fail
 go_loopw [0,3] (NumRel n w) (fun v _ _=>(intOf v).toNat)
 case atStart=>exact ⟨20,n,[],rfl,rfl,by have:=Hn.out;omega,Hn.out,by omega,by omega,rfl,rfl,Below.refl _ _⟩
 case round=>
  obtain ⟨f,m,acc,rfl,rfl,hm,hm2,hf,hf1,hacc,hd,hb⟩:=hrel
  unfold strV
  have Hb:=Lib.hid hb
  have Hd:=Lib.hid hd
  have Hm:=Lib.hid hm
  have Hm2:=Lib.hid hm2
  have Ha:=Lib.hid hacc
  have Hf:=Lib.hid hf1
  have hal:acc.length≤20:=by omega
  clear hb hd hm hm2 hacc hf hf1 h1 h2
  have hw:Hid (wrap64 ((m:Int) / 10)=((m / 10:Nat):Int)):=Lib.hid (by unfold wrap64;have:=Hm2.out;omega)
  have hcat:Hid (∀ x:UInt8,ByteArray.mk #[x] ++ ByteArray.mk acc.toArray=ByteArray.mk (x :: acc).toArray):=Lib.hid fun x=>ByteArray.mk_append_mk [x] acc
  by_cases hz:m / 10=0
  ·have hz2:(wrap64 ((m:Int) / 10) == 0)=true:=by rw [hw.out,hz];rfl
   have Hz:=Lib.hid hz
   clear hz
   go_wp2_with fail
   go_ret
   refine ⟨?_,(Hb.out.alloc Hb.out.size _)⟩
   have hd:=Hd.out
   obtain ⟨f',rfl⟩:∃ f',f=f' + 1:=⟨f - 1,by have:=Hf.out;omega⟩
   simp only [digs,if_pos Hz.out] at hd
   rw [← hd]
   show Ending.returned (Value.string _)=_
   rw [hcat.out];rfl
  ·have hz2:(wrap64 ((m:Int) / 10) == 0)=false:=by rw [hw.out,beq_eq_false_iff_ne];omega
   have Hz:=Lib.hid hz
   clear hz
   go_wp2_with fail
   go_roundw
   case rel=>
    rw [hw.out,hcat.out]
    have hd:=Hd.out
    have ha:=Ha.out
    have hm2:=Hm2.out
    have hm:=Hm.out
    obtain ⟨f',rfl⟩:∃ f',f=f' + 1:=⟨f - 1,by have:=Hf.out;omega⟩
    simp only [digs,if_neg Hz.out] at hd
    have h10:m / 10 < 10 ^ f':=by rw [Nat.pow_succ] at hm;omega
    have h1f:1≤f':=by
     rcases Nat.eq_zero_or_pos f' with rfl | h
     ·simp at h10;exact absurd h10 (by have:=Hz.out;omega)
     ·exact h
    exact ⟨f',m / 10,_,rfl,rfl,h10,by omega,by omega,h1f,by simp;omega,hd,Hb.out.alloc Hb.out.size _⟩
   case measure=>rw [hw.out];simp only [intOf];have:=Hz.out;omega
open Go.RowKit Go.Extern.Stop Go.Stop Go.Extern
theorem zD8:∀ (f n:Nat) (acc:List UInt8),(digs f n acc).length≤acc.length + f
 | 0,_,_=>by simp [digs]
 | f + 1,n,acc=>by
  unfold digs
  split
  ·simp
  ·have:=zD8 f (n / 10) ((48 + UInt8.ofNat (n % 10)) :: acc)
   simp at this;omega
theorem zk8 (n:Nat):(numN n).length≤20:=by simpa [numN] using zD8 20 n []
def numI (a:Int):List UInt8:=if a < 0 then 45 :: numN (-a).toNat else numN a.toNat
theorem zD9 (a:Int):(numI a).length≤21:=by
 unfold numI
 split
 ·have:=zk8 (-a).toNat;simp;omega
 ·have:=zk8 a.toNat;omega
set_option maxRecDepth 100000 in
theorem zF7 (w:World) :
 Calls Tryz.prog 51 #[.int .i64 (-1)] w fun e w'=>e = .returned (strV (45 :: numN 1))∧Below w.heap.size w w':=by
 have h1:((-1:Int) == -9223372036854775808)=false:=by decide
 have H:=Lib.hid (zi9 1 w (by omega))
 have hl:=zk8 1
 have hcat:Hid (∀ x:UInt8,ByteArray.mk #[x] ++ ByteArray.mk (numN 1).toArray=ByteArray.mk (x :: numN 1).toArray):=Lib.hid fun x=>ByteArray.mk_append_mk [x] (numN 1)
 unfold strV at *
 generalize numN 1=l at *
 go_enter Tryz.func51,Tryz.ntmps51
 go_wp2_with fail
 refine H.out.mono ?_
 rintro e w1 ⟨rfl,hb⟩
 have Hb:=Lib.hid hb
 clear hb
 go_wp2_with fail
 go_ret
 refine ⟨?_,Hb.out⟩
 rw [← hcat.out];rfl
theorem zF8 (a:Int) (w:World) (h1:-1≤a) (h2:a≤9223372036854775807) :
 Calls Tryz.prog 51 #[.int .i64 a] w fun e w'=>e = .returned (strV (numI a))∧Below w.heap.size w w':=by
 by_cases h:a = -1
 ·subst h;exact zF7 w
 ·obtain ⟨n,rfl⟩:=Int.eq_ofNat_of_zero_le (show 0≤a by omega)
  have e:numI (n:Int)=numN n:=by unfold numI;rw [if_neg (by omega)];rfl
  rw [e]
  exact zi9 n w (by omega)
theorem e_any (n:Nat) (w:World) (h:n≤1000000) :
 Calls Tryz.prog 56 #[.int .i64 n] w fun e w'=>e = .returned (strV (numN n))∧Below w.heap.size w w':=by
 have H:=Lib.hid (zi9 n w (by omega))
 unfold strV at *
 go_enter Tryz.func56,Tryz.ntmps56
 go_wp2_with fail
 refine H.out.mono ?_
 rintro e w1 ⟨rfl,hb⟩
 have Hb:=Lib.hid hb
 clear hb
 go_wp2_with fail
 go_ret
 exact ⟨rfl,Hb.out⟩
def plc (a:Int):Int:=if a < 0 then -1 else a
def atT (c:Nat) (a:Int):List UInt8:=numN c ++ 64 :: numI (plc a)
theorem atT_len (c:Nat) (a:Int):(atT c a).length≤42:=by
 unfold atT
 have:=zk8 c;have:=zD9 (plc a)
 simp;omega
theorem cat3 (x y z:List UInt8):ByteArray.mk x.toArray ++ ByteArray.mk y.toArray ++ ByteArray.mk z.toArray=ByteArray.mk (x ++ y ++ z).toArray:=by
 rw [ByteArray.mk_append_mk,ByteArray.mk_append_mk]
set_option maxRecDepth 100000 in
theorem zc5 (c:Nat) (a:Int) (w:World) (hc:c≤1000000) (ha:a≤9223372036854775807) :
 Calls Tryz.prog 33 #[.int .i64 c,.int .i64 a] w fun e w'=>e = .returned (strV (atT c a))∧Below w.heap.size w w':=by
 have H1:=Lib.hid (fun W=>zi9 c W (by omega))
 have H2:=Lib.hid (fun W=>zF8 (plc a) W (by unfold plc;split<;>omega) (by unfold plc;split<;>omega))
 have hl1:=zk8 c
 have hl2:=zD9 (plc a)
 have hcat:Hid (ByteArray.mk (numN c).toArray ++ ByteArray.mk #[64] ++ ByteArray.mk (numI (plc a)).toArray=ByteArray.mk (atT c a).toArray):=Lib.hid (by
  refine (cat3 (numN c) [64] (numI (plc a))).trans ?_
  simp [atT])
 clear hc ha
 by_cases h:a < 0
 ·have e:plc a = -1:=if_pos h
  rw [e] at H2 hl2 hcat
  generalize hA:atT c a=A at *
  clear e hA
  unfold strV at *
  generalize numN c=x at *
  generalize numI (-1)=y at *
  go_enter Tryz.func33,Tryz.ntmps33
  go_wp2_with fail
  refine (H1.out _).mono ?_
  rintro e w1 ⟨rfl,hb1⟩
  have Hb1:=Lib.hid hb1
  clear hb1
  go_wp2_with fail
  refine (H2.out _).mono ?_
  rintro e w2 ⟨rfl,hb2⟩
  have Hb2:=Lib.hid (Hb1.out.trans (hb2.mono Hb1.out.size))
  clear hb2
  go_wp2_with fail
  go_ret
  refine ⟨?_,Hb2.out⟩
  rw [← hcat.out];rfl
 ·have e:plc a=a:=if_neg h
  rw [e] at H2 hl2 hcat
  generalize hA:atT c a=A at *
  clear e hA
  unfold strV at *
  generalize numN c=x at *
  generalize numI a=y at *
  go_enter Tryz.func33,Tryz.ntmps33
  go_wp2_with fail
  refine (H1.out _).mono ?_
  rintro e w1 ⟨rfl,hb1⟩
  have Hb1:=Lib.hid hb1
  clear hb1
  go_wp2_with fail
  refine (H2.out _).mono ?_
  rintro e w2 ⟨rfl,hb2⟩
  have Hb2:=Lib.hid (Hb1.out.trans (hb2.mono Hb1.out.size))
  clear hb2
  go_wp2_with fail
  go_ret
  refine ⟨?_,Hb2.out⟩
  rw [← hcat.out];rfl
open Go.RowKit Go.Extern.Stop Go.Stop Go.Extern
def sep (first:Bool):List UInt8:=if first then [] else [62]
def sufT (t:Option Int):Bool→List (Nat × Int × Int)→List UInt8
 | first,[]=>match t with
  | none=>[]
  | some m=>sep first ++ numN m.toNat
 | first,(_,c,a) :: r=>sep first ++ atT c.toNat a ++ sufT t false r
def Good (l:List (Nat × Int × Int)) (t:Option Int):Prop:=
 (∀ n,n < l.length→1≤(nd l n).2.1∧(nd l n).2.1≤199∧-1≤(nd l n).2.2∧(nd l n).2.2≤9223372036854775807)∧∀ m,t=some m→1≤m∧m≤199
open Go.RowKit Go.Extern.Stop Go.Stop Go.Extern
theorem zA4 (w:World) :
 Calls Tryz.prog 118 #[.nilIface] w fun e w'=>e = .returned (.bool true)∧w=w':=by
 go_enter Tryz.func118,Tryz.ntmps118
 go_wp2
 go_ret
 exact ⟨rfl,rfl⟩
def isErr (v:Value):Prop:=(∃ n,v = .iface 92 n)∨∃ b,v = .iface 190 (.pointer (some ⟨b,0,none⟩))
open Go.RowKit Go.Extern.Stop Go.Stop Go.Extern
theorem hasUnwrapF (v:Value) (xT:TypeId) (w:World):(Instr.typeAssert (.iface 190 v) xT 227 true).run Tryz.prog w = .ok (.tuple #[.iface 190 v,.bool true]) w:=run_typeAssert_hasB Tryz.underlying227 (by kernel_rfl) v xT w
theorem noUnwrapE (v:Value) (xT:TypeId) (w:World):(Instr.typeAssert (.iface 92 v) xT 227 true).run Tryz.prog w = .ok (.tuple #[.nilIface,.bool false]) w:=run_typeAssert_lacksB Tryz.underlying227 (by kernel_rfl) (by kernel_rfl) v xT w
theorem noUnwrapsF (v:Value) (xT:TypeId) (w:World):(Instr.typeAssert (.iface 190 v) xT 208 true).run Tryz.prog w = .ok (.tuple #[.nilIface,.bool false]) w:=run_typeAssert_lacksB Tryz.underlying208 (by kernel_rfl) (by kernel_rfl) v xT w
theorem noUnwrapsE (v:Value) (xT:TypeId) (w:World):(Instr.typeAssert (.iface 92 v) xT 208 true).run Tryz.prog w = .ok (.tuple #[.nilIface,.bool false]) w:=run_typeAssert_lacksB Tryz.underlying208 (by kernel_rfl) (by kernel_rfl) v xT w
theorem methodUnwrapF (v:Value) (w:World):(Go.method 385 190 v "Unwrap").run Tryz.prog w = .ok (153,v) w:=by kernel_rfl
theorem fUnwrap (b:Nat) (v:Value) (w:World) (h2:w.cell? ⟨b,2,none⟩=some v) :
 Calls Tryz.prog 153 #[.pointer (some ⟨b,0,none⟩)] w fun e w'=>e = .returned v∧w=w':=by
 go_enter Tryz.func153,Tryz.ntmps153
 go_wp2
 go_ret
 exact ⟨rfl,rfl⟩
theorem unwrapE (n:Value) (w:World) :
 Calls Tryz.prog 105 #[.iface 92 n] w fun e w'=>e = .returned .nilIface∧w=w':=by
 have h1:=noUnwrapE
 go_enter Tryz.func105,Tryz.ntmps105
 go_wp2
 go_ret
 exact ⟨rfl,rfl⟩
theorem unwrapF (b:Nat) (v:Value) (w:World) (h2:w.cell? ⟨b,2,none⟩=some v) :
 Calls Tryz.prog 105 #[.iface 190 (.pointer (some ⟨b,0,none⟩))] w fun e w'=>e = .returned v∧w=w':=by
 have h1:=hasUnwrapF
 have h3:=methodUnwrapF
 go_enter Tryz.func105,Tryz.ntmps105
 go_wp2_with (go_at_call 153;refine (fUnwrap b v _ h2).mono ?_;rintro e w' ⟨rfl,rfl⟩)
 go_ret
 exact ⟨rfl,rfl⟩
theorem fIs (b:Nat) (c n:Int) (w:World) (h0:w.cell? ⟨b,0,none⟩=some (.int .i64 c)) :
 Calls Tryz.prog 152 #[.pointer (some ⟨b,0,none⟩),.iface 92 (.int .i64 n)] w fun e w'=>e = .returned (.bool (c == n))∧w=w':=by
 have h1:=zL9
 go_enter Tryz.func152,Tryz.ntmps152
 go_wp2
 go_ret
 exact ⟨rfl,rfl⟩
theorem zr3 (w:World) :
 Calls Tryz.prog 95 #[.nilIface] w fun e w'=>e = .returned (.int .i64 0)∧w=w':=by
 go_enter Tryz.func95,Tryz.ntmps95
 go_wp2_with (go_at_call 118;refine (zA4 _).mono ?_;rintro e w' ⟨rfl,rfl⟩)
 go_ret
 exact ⟨rfl,rfl⟩
open Go.RowKit Go.Extern.Stop Go.Stop Go.Extern
theorem zF9 (p:Addr) (w:World) :
 CallsD Tryz.prog 111 #[.pointer (some p)] .returning w fun e u' w'=>e = .returned (.tuple #[])∧u' = .returning∧w'=w:=by
 refine callsD_of_wpS Tryz.func111 rfl fun c₀ cs hu=>?_
 apply wpS_seq
 apply wpS_region
 simp [wpOpsS,go_sem,recoverD,hu,Tryz.ntmps111,Exit.thenS]
 refine wpS_cond (t:=false) (by simp [Act.eval,Array.replicate]) ?_
 simp only [Bool.false_eq_true,if_false]
 refine wpS_of_wp (wp_skip ?_)
 cases c₀
 simp_all [bodyPostS,results,Tryz.results111]
def Asked (w:World) (row:Option Nat) (R:Bool→World→Prop) (e:Ending) (w':World):Prop:=
 ∃ r,e = .returned (.bool r)∧w.grownBy w' row∧R r w'
theorem enters {f:FuncId} {fn:Func} {c:Code} (hf:Tryz.prog.funcs[f]? = some fn) (hname:(fn.name == "runtime.NumGoroutine")=false) (hb:fn.body=some c) (args:Array Value) (w:World) :
 (callFunc f args).run Tryz.prog w = .ok (.enter f args) w:=by
 have h1:¬ fn.name = "runtime.NumGoroutine":=by simpa using hname
 simp [callFunc,hf,h1,hb]
def Safe (w:World) (row:Option Nat) (R:Bool→World→Prop) (e:Ending) (w':World):Prop:=
 ∃ r w1,e = .returned (.bool r)∧(w.alloc (.cells #[.bool false] 4)).grownBy w1 row∧R r w1∧w'=w1.setCell ⟨w.heap.size,0,none⟩ (.bool r)
theorem zk9 (K:FuncId) (cap:Array Value) (w:World) (row:Option Nat) (R:Bool→World→Prop) (hrow:∀ k,row=some k→k < w.heap.size)
 (hent:∀ (args:Array Value) (w:World),(callFunc K args).run Tryz.prog w = .ok (.enter K args) w)
 (h:Calls Tryz.prog K cap (w.alloc (.cells #[.bool false] 4)) (Asked (w.alloc (.cells #[.bool false] 4)) row R)) :
 Calls Tryz.prog 80 #[.func (.func K) #[] cap] w (Safe w row R):=by
 have hmf:∀ (fn:Fn) (first cap:Array Value) (w:World),(Instr.makeFunc fn first cap).run Tryz.prog w = .ok (.func fn first cap) w:=fun _ _ _ _=>rfl
 have H:=Lib.hid h
 clear h
 go_enter_defers Tryz.func80,Tryz.ntmps80
 go_wp2_with fail
 refine H.out.mono ?_
 rintro e w1 ⟨r,rfl,hg,hR⟩
 have hb:w1.heap[w.heap.size]? = some (.cells #[.bool false] 4 (0,0)):=by
  rw [hg.block w.heap.size (by simp) (fun e=>by have:=hrow _ e.symm;omega)]
  show (w.heap.push _)[w.heap.size]? = _
  simp
 have hc:w1.cell? ⟨w.heap.size,0,none⟩=some (.bool false):=by simp [World.cell?,hb]
 have hf:w1.frozen? ⟨w.heap.size,0,none⟩=false:=by simp [World.frozen?,hb]
 have hc2:(w1.setCell ⟨w.heap.size,0,none⟩ (.bool r)).cell? ⟨w.heap.size,0,none⟩=some (.bool r):=World.cell?_setCell_same' _ _ _ (by rw [hc];rfl)
 have hend:Safe w row R (.returned (.bool r)) (w1.setCell ⟨w.heap.size,0,none⟩ (.bool r)):=⟨r,w1,rfl,hg,hR,rfl⟩
 clear hb hR hg
 go_wp2_with fail
 refine leaves_cons (f:=111) (args:=#[.pointer (some ⟨w.heap.size,0,none⟩)]) (by simp) (by simp [go_sem]) ?_
 refine (zF9 ⟨w.heap.size,0,none⟩ _).mono ?_
 rintro e u' w'' ⟨rfl,rfl,rfl⟩
 simp [Leaves,settle,results,Tryz.results80,go_sem,hc2]
 exact hend
open Go.RowKit Go.Extern.Stop Go.Stop Go.Extern
theorem eqTypes (n v:Value) (w:World):(binOp .eql 58 (.iface 92 n) (.iface 190 v)).run Tryz.prog w = .ok (.bool false) w:=
 run_eql_iface_types _ _ _ _ Tryz.underlying58 (by decide) w
theorem infoF:(Tryz.prog.info? 190).map (·.comparable)=some true:=by kernel_rfl
theorem infoS:(Tryz.prog.info? 192).map (·.size)=some 3:=by kernel_rfl
theorem eqOther {a b:Nat} {ca cb:Array Value} {ta tb:TypeId} (w:World) (hne:a≠b) (ha:w.heap[a]? = some (.cells ca ta (0,0))) (hb:w.heap[b]? = some (.cells cb tb (0,0))) :
 (binOp .eql 58 (flt a) (flt b)).run Tryz.prog w = .ok (.bool false) w:=by
 obtain ⟨i,hi,hcmp⟩:=Option.map_eq_some_iff.1 infoF
 obtain ⟨j,hj,hjs⟩:=Option.map_eq_some_iff.1 infoS
 exact run_eql_iface_ptr_other w Tryz.underlying58 Tryz.underlying190 hi hcmp hj (by omega) (by simp) ha hb
def EndsRel (l:List (Nat × Int × Int)) (t:Option Int) (p:Nat) (w:World) (s k:Value) (wr:World):Prop:=
 ∃ n:Nat,n≤l.length + 1∧k = .int .i64 (n + 1)∧s=errAt l t (n / 2)∧wr.heap[p]? = some (.cells #[errAt l t n] 58 (0,0))∧w.grownBy wr (some p)
set_option maxHeartbeats 1000000 in
theorem ends1 (p B:Nat) (l:List (Nat × Int × Int)) (t:Option Int) (w:World) (hl:l.length≤1000000) (hpw:p < w.heap.size) (hB:B≤p) (hin:ErrIn w t B l) (hp:w.heap[p]? = some (.cells #[errV l t] 58 (0,0))) :
 Calls Tryz.prog 104 #[.pointer (some ⟨p,0,none⟩)] w (Asked w (some p) fun r _=>r=true):=by
 have hend:∀ wr,w.grownBy wr (some p)→Asked w (some p) (fun r _=>r=true) (.returned (.bool true)) wr:=fun wr h=>⟨true,rfl,h,rfl⟩
 obtain ⟨hc,hf⟩:=cell0 hp
 have h1:=noUnwrapsF
 have h2:=noUnwrapsE
 have h3:=eqTypes
 go_enter Tryz.func104,Tryz.ntmps104
 go_wp2
 clear hc hf
 go_loopw [2,3] (EndsRel l t p w) (fun _ k _=>l.length + 3 - (intOf k).toNat)
 case atStart=>exact ⟨0,by omega,rfl,by rw [zi8],by rw [zi8];exact hp,zf5 _ _⟩
 case round=>
  obtain ⟨n,hn,rfl,rfl,hpr,hg⟩:=hrel
  obtain ⟨hc,hf⟩:=cell0 hpr
  rcases Nat.lt_or_ge n l.length with hlt | hge
  ·obtain ⟨hb1,hb2⟩:=ErrIn.node (n:=n) hin hlt
   obtain ⟨hs1,hs2⟩:=ErrIn.node (n:=n / 2) hin (by omega)
   have hbw:wr.heap[(nd l n).1]? = _:=(hg.block _ (by omega) (by simp;omega)).trans hb2
   have hbc:=(cells3 hbw).2.2
   have hs3:∀ v,(wr.setCell ⟨p,0,none⟩ v).heap[(nd l (n / 2)).1]? = _:=fun v=>(far (by omega)).trans ((hg.block _ (by omega) (by simp;omega)).trans hs2)
   have hs4:=fun v=>(cells3 (hs3 v)).2.2
   have hrel:∀ v,errAt l t (n + 1)=v→EndsRel l t p w (errAt l t ((n + 1) / 2)) (.int .i64 (↑n + 1 + 1)) (wr.setCell ⟨p,0,none⟩ v):=fun v hv=>
    ⟨n + 1,by omega,by go_num,rfl,by rw [hv];exact set0 hpr,zi2 hg⟩
   rw [zh1 hlt] at hpr hc
   rw [zh1 (show n / 2 < l.length by omega)]
   have hq:(n + 1) / 2 < l.length:=by omega
   have hcmp:∀ b,(nd l (n + 1)).1=b→n + 1 < l.length→∀ v,(binOp .eql 58 (flt b) (flt (nd l ((n + 1) / 2)).1)).run Tryz.prog (wr.setCell ⟨p,0,none⟩ v) = .ok (.bool false) (wr.setCell ⟨p,0,none⟩ v):=by
    rintro b rfl hlt2 v
    obtain ⟨g1,g2⟩:=ErrIn.node (n:=n + 1) hin hlt2
    obtain ⟨g3,g4⟩:=ErrIn.node (n:=(n + 1) / 2) hin hq
    have:=ErrIn.desc (i:=(n + 1) / 2) (j:=n + 1) hin (by omega) hlt2
    exact eqOther _ (by omega) ((far (by omega)).trans ((hg.block _ (by omega) (by simp;omega)).trans g2)) ((far (by omega)).trans ((hg.block _ (by omega) (by simp;omega)).trans g4))
   rw [zh1 hq] at hrel
   have hsec:n % 2=1→errAt l t (n / 2 + 1)=flt (nd l ((n + 1) / 2)).1:=fun h=>by rw [← zh1 (t:=t) hq];rw [show n / 2 + 1=(n + 1) / 2 from by omega]
   have hnext:(n + 1 < l.length∧errAt l t (n + 1)=flt (nd l (n + 1)).1)∨errAt l t (n + 1) = .nilIface∨∃ m,errAt l t (n + 1) = .iface 92 (.int .i64 m):=by
    rcases Nat.lt_or_ge (n + 1) l.length with h | h
    ·exact .inl ⟨h,zh1 h⟩
    ·have e:n + 1=l.length:=by omega
     rw [e,zg6]
     cases t with
     | none=>exact .inr (.inl rfl)
     | some m=>exact .inr (.inr ⟨m,rfl⟩)
   have hsame:n % 2=0→(nd l ((n + 1) / 2)).1=(nd l (n / 2)).1:=fun h=>by rw [show (n + 1) / 2=n / 2 from by omega]
   generalize (nd l n).1=b at *
   generalize (nd l (n / 2)).1=s1 at *
   generalize (nd l ((n + 1) / 2)).1=s2 at *
   generalize errAt l t (n + 1)=nx at *
   generalize (nd l (n + 1)).1=b' at *
   clear hb1 hb2 hs1 hs2 hbw hs3 hpr
   rcases Nat.mod_two_eq_zero_or_one n with he | ho
   ·have hpar:(((n:Int) + 1) % 2 == 0)=false:=by rw [beq_eq_false_iff_ne];omega
    obtain rfl:=hsame he
    clear hsec hsame hs4
    rcases hnext with ⟨hlt2,rfl⟩ | rfl | ⟨m,rfl⟩
    ·have hcmp':=hcmp b' rfl hlt2 (flt b')
     have Hr:=Lib.hid (hrel _ rfl)
     clear hcmp hrel
     unfold flt at *
     go_wp2_with fail
     refine (unwrapF _ _ _ hbc).mono ?_
     rintro e w' ⟨rfl,rfl⟩
     go_wp2_with fail
     go_roundw
     case rel=>exact Hr.out
     case measure=>simp [intOf];omega
    ·have Hr:=Lib.hid (hrel _ rfl)
     clear hcmp hrel
     unfold flt at *
     go_wp2_with fail
     refine (unwrapF _ _ _ hbc).mono ?_
     rintro e w' ⟨rfl,rfl⟩
     go_wp2_with fail
     go_roundw
     case rel=>exact Hr.out
     case measure=>simp [intOf];omega
    ·have Hr:=Lib.hid (hrel _ rfl)
     clear hcmp hrel
     unfold flt at *
     go_wp2_with fail
     refine (unwrapF _ _ _ hbc).mono ?_
     rintro e w' ⟨rfl,rfl⟩
     go_wp2_with fail
     go_roundw
     case rel=>exact Hr.out
     case measure=>simp [intOf];omega
   ·have hpar:(((n:Int) + 1) % 2 == 0)=true:=by rw [beq_iff_eq];omega
    rw [hsec ho] at hs4
    clear hsec hsame
    rcases hnext with ⟨hlt2,rfl⟩ | rfl | ⟨m,rfl⟩
    ·have hcmp':=hcmp b' rfl hlt2 (flt b')
     have Hr:=Lib.hid (hrel _ rfl)
     clear hcmp hrel
     unfold flt at *
     go_wp2_with fail
     refine (unwrapF _ _ _ hbc).mono ?_
     rintro e w' ⟨rfl,rfl⟩
     go_wp2_with fail
     refine (unwrapF _ _ _ (hs4 _)).mono ?_
     rintro e w' ⟨rfl,rfl⟩
     go_wp2_with fail
     go_roundw
     case rel=>exact Hr.out
     case measure=>simp [intOf];omega
    ·have Hr:=Lib.hid (hrel _ rfl)
     clear hcmp hrel
     unfold flt at *
     go_wp2_with fail
     refine (unwrapF _ _ _ hbc).mono ?_
     rintro e w' ⟨rfl,rfl⟩
     go_wp2_with fail
     refine (unwrapF _ _ _ (hs4 _)).mono ?_
     rintro e w' ⟨rfl,rfl⟩
     go_wp2_with fail
     go_roundw
     case rel=>exact Hr.out
     case measure=>simp [intOf];omega
    ·have Hr:=Lib.hid (hrel _ rfl)
     clear hcmp hrel
     unfold flt at *
     go_wp2_with fail
     refine (unwrapF _ _ _ hbc).mono ?_
     rintro e w' ⟨rfl,rfl⟩
     go_wp2_with fail
     refine (unwrapF _ _ _ (hs4 _)).mono ?_
     rintro e w' ⟨rfl,rfl⟩
     go_wp2_with fail
     go_roundw
     case rel=>exact Hr.out
     case measure=>simp [intOf];omega
  ·rcases Nat.lt_or_ge l.length n with hgt | hle
   ·rw [zm0 hgt] at hpr hc
    go_wp2
    go_ret
    exact hend _ hg
   ·obtain rfl:l.length=n:=by omega
    rw [zg6] at hpr hc
    cases t with
    | none=>
     simp only [errV] at hpr hc
     go_wp2
     go_ret
     exact hend _ hg
    | some m=>
     simp only [errV] at hpr hc
     rcases Nat.mod_two_eq_zero_or_one l.length with he | ho
     ·have hpar:(((l.length:Int) + 1) % 2 == 0)=false:=by rw [beq_eq_false_iff_ne];omega
      go_wp2_with fail
      refine (unwrapE _ _).mono ?_
      rintro e w' ⟨rfl,rfl⟩
      go_wp2
      go_roundw
      case rel=>exact ⟨l.length + 1,by omega,by go_num,by rw [show (l.length + 1) / 2=l.length / 2 from by omega],by rw [zm0 (by omega)];exact set0 hpr,zi2 hg⟩
      case measure=>simp [intOf];omega
     ·have hpar:(((l.length:Int) + 1) % 2 == 0)=true:=by rw [beq_iff_eq];omega
      obtain ⟨hb1,hb2⟩:=ErrIn.node (n:=l.length / 2) hin (by omega)
      have hb3:(wr.setCell ⟨p,0,none⟩ .nilIface).heap[(nd l (l.length / 2)).1]? = _:=(far (by omega)).trans ((hg.block _ (by omega) (by simp;omega)).trans hb2)
      have hb4:=(cells3 hb3).2.2
      have hrel:EndsRel l (some m) p w (errAt l (some m) (l.length / 2 + 1)) (.int .i64 (↑l.length + 1 + 1)) (wr.setCell ⟨p,0,none⟩ .nilIface):=
       ⟨l.length + 1,by omega,by go_num,by rw [show (l.length + 1) / 2=l.length / 2 + 1 from by omega],by rw [zm0 (by omega)];exact set0 hpr,zi2 hg⟩
      rw [zh1 (show l.length / 2 < l.length by omega)]
      unfold flt
      generalize errAt l (some m) (l.length / 2 + 1)=nx at *
      generalize (nd l (l.length / 2)).1=s1 at *
      have Hr:=Lib.hid hrel
      clear hrel hb3 hb2
      go_wp2_with fail
      refine (unwrapE _ _).mono ?_
      rintro e w' ⟨rfl,rfl⟩
      go_wp2_with fail
      refine (unwrapF _ _ _ hb4).mono ?_
      rintro e w' ⟨rfl,rfl⟩
      go_wp2
      go_roundw
      case rel=>exact Hr.out
      case measure=>simp [intOf];omega
open Go.RowKit Go.Extern.Stop Go.Stop Go.Extern
theorem Safe.take {w:World} {row:Option Nat} {R:Bool→World→Prop} {e:Ending} {w':World} (h:Safe w row R e w') :
 ∃ r w1,e = .returned (.bool r)∧R r w1∧(∀ k,k < w.heap.size→some k≠row→w'.heap[k]? = w.heap[k]?)∧(∀ k,k < w.heap.size→w'.heap[k]? = w1.heap[k]?) ∧
  (∀ B,B≤w.heap.size→(∀ k,row=some k→B≤k)→Below B w w'):=by
 obtain ⟨r,w1,rfl,hg,hR,rfl⟩:=h
 have h0:∀ k,k < w.heap.size→(w1.setCell ⟨w.heap.size,0,none⟩ (.bool r)).heap[k]? = w1.heap[k]?:=fun k hk=>far (by omega)
 refine ⟨r,w1,rfl,hR,fun k hk hne=>?_,h0,fun B hB hr=>?_⟩
 ·rw [h0 k hk,hg.block k (by simp;omega) hne]
  exact Below.heap_alloc _ _ _ hk
 ·have h2:Below B w (w.alloc (.cells #[.bool false] 4)):=(Below.refl _ _).alloc hB _
  have h3:Below B w w1:=h2.grown hg (by simp;omega) hr
  exact h3.setCell (by simpa using hB) _
theorem zb4 (l:List (Nat × Int × Int)) (t:Option Int):errV l t = .nilIface∨(∃ m,errV l t = .iface 92 (.int .i64 m))∨∃ b,errV l t = .iface 190 (.pointer (some ⟨b,0,none⟩)):=by
 match l,t with
 | [],none=>exact .inl rfl
 | [],some m=>exact .inr (.inl ⟨m,rfl⟩)
 | (b,_,_) :: _,_=>exact .inr (.inr ⟨b,rfl⟩)
theorem enters40 (args:Array Value) (w:World):(callFunc 104 args).run Tryz.prog w = .ok (.enter 104 args) w:=
 enters Tryz.func104 (by kernel_rfl) rfl args w
theorem zo0 (B:Nat) (l:List (Nat × Int × Int)) (t:Option Int) (w:World) (hl:l.length≤1000000) (hB:B≤w.heap.size) (hin:ErrIn w t B l) :
 Calls Tryz.prog 77 #[errV l t] w fun e w'=>e = .returned (.bool true)∧Below w.heap.size w w':=by
 have hmf:∀ (fn:Fn) (first cap:Array Value) (w:World),(Instr.makeFunc fn first cap).run Tryz.prog w = .ok (.func fn first cap) w:=fun _ _ _ _=>rfl
 have hb:Below w.heap.size w ((w.alloc (.cells #[errV l t] 58)).alloc (.cells #[.bool false] 4)):=((Below.refl _ _).alloc (Nat.le_refl _) _).alloc (by simp) _
 have h1:=ends1 w.heap.size B l t ((w.alloc (.cells #[errV l t] 58)).alloc (.cells #[.bool false] 4)) hl (by simp;omega) hB
  (hin.below hb hB) (by rw [Below.heap_alloc _ _ _ (by simp)];show (w.heap.push _)[w.heap.size]? = _;simp)
 have h2:=zk9 104 #[.pointer (some ⟨w.heap.size,0,none⟩)] (w.alloc (.cells #[errV l t] 58)) (some w.heap.size) (fun r _=>r=true)
  (fun k hk=>by cases hk;simp) enters40 h1
 have H:=Lib.hid h2
 clear h1 h2 hb hin
 have hv:=zb4 l t
 generalize errV l t=v at *
 rcases hv with rfl | ⟨m,rfl⟩ | ⟨b,rfl⟩
 all_goals
 go_enter Tryz.func77,Tryz.ntmps77
 go_wp2_with fail
 refine H.out.mono ?_
 rintro e w' h
 obtain ⟨r,w1,rfl,hR,-,-,hbel⟩:=h.take
 obtain rfl:r=true:=hR
 have hb2:=Lib.hid (((Below.refl w.heap.size w).alloc (Nat.le_refl _) (.cells #[_] 58)).trans (hbel w.heap.size (by simp) (fun k hk=>by cases hk;exact Nat.le_refl _)))
 clear h hbel
 go_wp2_with fail
 go_ret
 exact ⟨rfl,hb2.out⟩
open Go.RowKit Go.Extern.Stop Go.Stop Go.Extern
theorem as_nil (t:Value) (w:World) :
 Calls Tryz.prog 110 #[.nilIface,t] w fun e w'=>e = .returned (.bool false)∧w=w':=by
 go_enter Tryz.func110,Tryz.ntmps110
 go_wp2
 go_ret
 exact ⟨rfl,rfl⟩
theorem rlm (z:Sem Value) (f:TypeId→Addr→Nat→Nat→Sem Value) (v:Value) :
 ReflectliteValue.method z f #[v]=(do match ← ReflectliteValue.parts v with | none=>z | some (t,a,fl)=>f t a fl (fl % 32)):=rfl
theorem rls (v x:Value):ReflectliteValue.set #[v,x]=(do
 let (some (dst,a,fl),some (src,b,_)):=(← ReflectliteValue.parts v,← ReflectliteValue.parts x)
  | unsupported (.noEntry "extern/(internal/reflectlite.Value).Set.zeroValue")
 if fl / ReflectliteValue.flagAddr % 2 == 0 then unsupported (.noEntry "extern/(internal/reflectlite.Value).Set.unaddressable")
 let val ← loadVar src b
 if ← Rtype.directlyAssignable dst src then storeVar dst a val
 else if ← Rtype.implements dst src then
  if (← Rtype.kind src) == 20 then
   match val with
   | .nilIface=>unsupported (.noEntry "extern/reflectlite: a nil value of one interface type handed on as a value of another")
   | _=>storeVar dst a val
  else storeVar dst a (.iface src val)
 else panicString ("reflectlite.Set: value of type " ++ (← Rtype.spelt src) ++ " is not assignable to type " ++ (← Rtype.spelt dst))
 pure (.tuple #[])):=rfl
theorem methodKind (h:Value) (w:World):(Go.method 385 243 (.agg #[h]) "Kind").run Tryz.prog w = .ok (143,h) w:=by kernel_rfl
theorem methodElem (h:Value) (w:World):(Go.method 385 243 (.agg #[h]) "Elem").run Tryz.prog w = .ok (160,.agg #[h]) w:=by kernel_rfl
theorem methodImplements (h:Value) (w:World):(Go.method 385 243 (.agg #[h]) "Implements").run Tryz.prog w = .ok (161,.agg #[h]) w:=by kernel_rfl
theorem methodAssignableTo (h:Value) (w:World):(Go.method 385 243 (.agg #[h]) "AssignableTo").run Tryz.prog w = .ok (158,.agg #[h]) w:=by kernel_rfl
theorem methodComparable (h:Value) (w:World):(Go.method 385 243 (.agg #[h]) "Comparable").run Tryz.prog w = .ok (159,.agg #[h]) w:=by kernel_rfl
theorem zw5 (t:Addr) (w:World):(ReflectliteValue.unpack (.iface 230 (.pointer (some t)))).run Tryz.prog w
 = .ok (.agg #[.pointer (some ⟨1,230,none⟩),.pointer (some ⟨w.heap.size,0,none⟩),.int .u64 150]) (w.alloc (.cells #[.pointer (some t)] 230)):=by kernel_rfl
theorem type_F (a:Addr) (w:World):(ReflectliteValue.methodAny (ReflectliteValue.valueError "reflectlite.Value.Type" 0) (fun t _ _ _=>ReflectliteType.toType t) #[.agg #[.pointer (some ⟨1,230,none⟩),.pointer (some a),.int .u64 150]]).run Tryz.prog w
 = .ok (.iface 243 (.agg #[.pointer (some ⟨1,230,none⟩)])) w:=by kernel_rfl
theorem kind_F (w:World):((ReflectliteType.abiMethod fun t=>(fun a:Nat=>Value.int IntKind.u8 (a:Int)) <$> Rtype.kind t) #[.pointer (some ⟨1,230,none⟩)]).run Tryz.prog w = .ok (.int .u8 22) w:=by kernel_rfl
theorem zM0 (w:World):((ReflectliteType.abiMethod fun t=>(fun a:Nat=>Value.int IntKind.u8 (a:Int)) <$> Rtype.kind t) #[.pointer (some ⟨1,190,none⟩)]).run Tryz.prog w = .ok (.int .u8 22) w:=by kernel_rfl
theorem zM1 (a:Addr) (w:World):(ReflectliteValue.parts (.agg #[.pointer (some ⟨1,230,none⟩),.pointer (some a),.int .u64 150])).run Tryz.prog w = .ok (some (230,a,150)) w:=by kernel_rfl
theorem zM2 (a p:Addr) (W:World) (ha:W.cell? a=some (.pointer (some p))) :
 (ReflectliteValue.method (ReflectliteValue.valueError "reflectlite.Value.IsNil" 0) ReflectliteValue.isNil #[.agg #[.pointer (some ⟨1,230,none⟩),.pointer (some a),.int .u64 150]]).run Tryz.prog W = .ok (.bool false) W:=by
 rw [rlm]
 simp only [Sem.run_bind,zM1,Result.andThen]
 simp [ReflectliteValue.isNil,loadVar,isAgg,underlying,Tryz.underlying230,ha,Result.andThen]
theorem elem_F (w:World):(ReflectliteType.method ReflectliteType.elem #[.agg #[.pointer (some ⟨1,230,none⟩)]]).run Tryz.prog w = .ok (.iface 243 (.agg #[.pointer (some ⟨1,190,none⟩)])) w:=by kernel_rfl
theorem zn1 (w:World):(ReflectliteType.relation "Implements" ReflectliteType.implements_ #[.agg #[.pointer (some ⟨1,190,none⟩)],.iface 243 (.agg #[.pointer (some ⟨1,58,none⟩)])]).run Tryz.prog w = .ok (.bool true) w:=by kernel_rfl
theorem typeOf_F (v:Value) (w:World):(ReflectliteType.typeOf #[.iface 190 v]).run Tryz.prog w = .ok (.iface 243 (.agg #[.pointer (some ⟨1,190,none⟩)])) w:=by kernel_rfl
theorem zw6 (w:World):(ReflectliteType.relation "AssignableTo" ReflectliteType.assignableTo #[.agg #[.pointer (some ⟨1,190,none⟩)],.iface 243 (.agg #[.pointer (some ⟨1,190,none⟩)])]).run Tryz.prog w = .ok (.bool true) w:=by kernel_rfl
theorem elemOf_F (w:World):(Rtype.elem? 230).run Tryz.prog w = .ok (some 190) w:=by kernel_rfl
theorem mk_F (p:Addr) (w:World):(ReflectliteValue.mk 190 p ReflectliteValue.flagAddr).run Tryz.prog w = .ok (.agg #[.pointer (some ⟨1,190,none⟩),.pointer (some p),.int .u64 406]) w:=by kernel_rfl
theorem elemV_F (a p:Addr) (W:World) (ha:W.cell? a=some (.pointer (some p))) :
 (ReflectliteValue.method (ReflectliteValue.valueError "reflectlite.Value.Elem" 0) ReflectliteValue.elem #[.agg #[.pointer (some ⟨1,230,none⟩),.pointer (some a),.int .u64 150]]).run Tryz.prog W
  = .ok (.agg #[.pointer (some ⟨1,190,none⟩),.pointer (some p),.int .u64 406]) W:=by
 rw [rlm]
 simp only [Sem.run_bind,zM1,Result.andThen]
 simp [ReflectliteValue.elem,loadVar,isAgg,underlying,Tryz.underlying230,ha,Result.andThen,elemOf_F,mk_F]
theorem partsA_F (a:Addr) (w:World):(ReflectliteValue.parts (.agg #[.pointer (some ⟨1,190,none⟩),.pointer (some a),.int .u64 406])).run Tryz.prog w = .ok (some (190,a,406)) w:=by kernel_rfl
theorem partsB_F (a:Addr) (w:World):(ReflectliteValue.parts (.agg #[.pointer (some ⟨1,190,none⟩),.pointer (some a),.int .u64 150])).run Tryz.prog w = .ok (some (190,a,150)) w:=by kernel_rfl
theorem direct_F (w:World):(Rtype.directlyAssignable 190 190).run Tryz.prog w = .ok true w:=by kernel_rfl
theorem zG0 (x:Addr) (w:World):(ReflectliteValue.unpack (.iface 190 (.pointer (some x)))).run Tryz.prog w
 = .ok (.agg #[.pointer (some ⟨1,190,none⟩),.pointer (some ⟨w.heap.size,0,none⟩),.int .u64 150]) (w.alloc (.cells #[.pointer (some x)] 190)):=by kernel_rfl
theorem set_F (ta b:Addr) (x:Addr) (old:Value) (W:World) (hb:W.cell? b=some (.pointer (some x))) (ht:W.cell? ta=some old) (hf:W.frozen? ta=false) :
 (ReflectliteValue.set #[.agg #[.pointer (some ⟨1,190,none⟩),.pointer (some ta),.int .u64 406],.agg #[.pointer (some ⟨1,190,none⟩),.pointer (some b),.int .u64 150]]).run Tryz.prog W
  = .ok (.tuple #[]) (W.setCell ta (.pointer (some x))):=by
 rw [rls]
 simp only [Sem.run_bind,partsA_F,partsB_F,Result.andThen]
 simp [ReflectliteValue.flagAddr,loadVar,isAgg,underlying,Tryz.underlying190,hb,Result.andThen,direct_F,storeVar,Value.cells,storeCells,Addr.add]
 rw [run_store Tryz.prog W ta _ _ (by rfl)]
 simp [ht,hf]
theorem zM3 (t:Addr) (w:World):(ReflectliteValue.unpack (.iface 216 (.pointer (some t)))).run Tryz.prog w
 = .ok (.agg #[.pointer (some ⟨1,216,none⟩),.pointer (some ⟨w.heap.size,0,none⟩),.int .u64 150]) (w.alloc (.cells #[.pointer (some t)] 216)):=by kernel_rfl
theorem type_E (a:Addr) (w:World):(ReflectliteValue.methodAny (ReflectliteValue.valueError "reflectlite.Value.Type" 0) (fun t _ _ _=>ReflectliteType.toType t) #[.agg #[.pointer (some ⟨1,216,none⟩),.pointer (some a),.int .u64 150]]).run Tryz.prog w
 = .ok (.iface 243 (.agg #[.pointer (some ⟨1,216,none⟩)])) w:=by kernel_rfl
theorem kind_E (w:World):((ReflectliteType.abiMethod fun t=>(fun a:Nat=>Value.int IntKind.u8 (a:Int)) <$> Rtype.kind t) #[.pointer (some ⟨1,216,none⟩)]).run Tryz.prog w = .ok (.int .u8 22) w:=by kernel_rfl
theorem kind1_E (w:World):((ReflectliteType.abiMethod fun t=>(fun a:Nat=>Value.int IntKind.u8 (a:Int)) <$> Rtype.kind t) #[.pointer (some ⟨1,92,none⟩)]).run Tryz.prog w = .ok (.int .u8 2) w:=by kernel_rfl
theorem zM4 (a:Addr) (w:World):(ReflectliteValue.parts (.agg #[.pointer (some ⟨1,216,none⟩),.pointer (some a),.int .u64 150])).run Tryz.prog w = .ok (some (216,a,150)) w:=by kernel_rfl
theorem isNil_E (a p:Addr) (W:World) (ha:W.cell? a=some (.pointer (some p))) :
 (ReflectliteValue.method (ReflectliteValue.valueError "reflectlite.Value.IsNil" 0) ReflectliteValue.isNil #[.agg #[.pointer (some ⟨1,216,none⟩),.pointer (some a),.int .u64 150]]).run Tryz.prog W = .ok (.bool false) W:=by
 rw [rlm]
 simp only [Sem.run_bind,zM4,Result.andThen]
 simp [ReflectliteValue.isNil,loadVar,isAgg,underlying,Tryz.underlying216,ha,Result.andThen]
theorem elem_E (w:World):(ReflectliteType.method ReflectliteType.elem #[.agg #[.pointer (some ⟨1,216,none⟩)]]).run Tryz.prog w = .ok (.iface 243 (.agg #[.pointer (some ⟨1,92,none⟩)])) w:=by kernel_rfl
theorem zw7 (w:World):(ReflectliteType.relation "Implements" ReflectliteType.implements_ #[.agg #[.pointer (some ⟨1,92,none⟩)],.iface 243 (.agg #[.pointer (some ⟨1,58,none⟩)])]).run Tryz.prog w = .ok (.bool true) w:=by kernel_rfl
theorem zt5 (v:Value) (w:World):(ReflectliteType.typeOf #[.iface 92 v]).run Tryz.prog w = .ok (.iface 243 (.agg #[.pointer (some ⟨1,92,none⟩)])) w:=by kernel_rfl
theorem zw8 (w:World):(ReflectliteType.relation "AssignableTo" ReflectliteType.assignableTo #[.agg #[.pointer (some ⟨1,92,none⟩)],.iface 243 (.agg #[.pointer (some ⟨1,92,none⟩)])]).run Tryz.prog w = .ok (.bool true) w:=by kernel_rfl
theorem elemOf_E (w:World):(Rtype.elem? 216).run Tryz.prog w = .ok (some 92) w:=by kernel_rfl
theorem mk_E (p:Addr) (w:World):(ReflectliteValue.mk 92 p ReflectliteValue.flagAddr).run Tryz.prog w = .ok (.agg #[.pointer (some ⟨1,92,none⟩),.pointer (some p),.int .u64 386]) w:=by kernel_rfl
theorem elemV_E (a p:Addr) (W:World) (ha:W.cell? a=some (.pointer (some p))) :
 (ReflectliteValue.method (ReflectliteValue.valueError "reflectlite.Value.Elem" 0) ReflectliteValue.elem #[.agg #[.pointer (some ⟨1,216,none⟩),.pointer (some a),.int .u64 150]]).run Tryz.prog W
  = .ok (.agg #[.pointer (some ⟨1,92,none⟩),.pointer (some p),.int .u64 386]) W:=by
 rw [rlm]
 simp only [Sem.run_bind,zM4,Result.andThen]
 simp [ReflectliteValue.elem,loadVar,isAgg,underlying,Tryz.underlying216,ha,Result.andThen,elemOf_E,mk_E]
theorem partsA_E (a:Addr) (w:World):(ReflectliteValue.parts (.agg #[.pointer (some ⟨1,92,none⟩),.pointer (some a),.int .u64 386])).run Tryz.prog w = .ok (some (92,a,386)) w:=by kernel_rfl
theorem partsB_E (a:Addr) (w:World):(ReflectliteValue.parts (.agg #[.pointer (some ⟨1,92,none⟩),.pointer (some a),.int .u64 130])).run Tryz.prog w = .ok (some (92,a,130)) w:=by kernel_rfl
theorem direct_E (w:World):(Rtype.directlyAssignable 92 92).run Tryz.prog w = .ok true w:=by kernel_rfl
theorem zG1 (x:Int) (w:World):(ReflectliteValue.unpack (.iface 92 (.int .i64 x))).run Tryz.prog w
 = .ok (.agg #[.pointer (some ⟨1,92,none⟩),.pointer (some ⟨w.heap.size,0,none⟩),.int .u64 130]) (w.alloc (.cells #[.int .i64 x] 92)):=by kernel_rfl
theorem set_E (ta b:Addr) (x:Int) (old:Value) (W:World) (hb:W.cell? b=some (.int .i64 x)) (ht:W.cell? ta=some old) (hf:W.frozen? ta=false) :
 (ReflectliteValue.set #[.agg #[.pointer (some ⟨1,92,none⟩),.pointer (some ta),.int .u64 386],.agg #[.pointer (some ⟨1,92,none⟩),.pointer (some b),.int .u64 130]]).run Tryz.prog W
  = .ok (.tuple #[]) (W.setCell ta (.int .i64 x)):=by
 rw [rls]
 simp only [Sem.run_bind,partsA_E,partsB_E,Result.andThen]
 simp [ReflectliteValue.flagAddr,loadVar,isAgg,underlying,Tryz.underlying92,hb,Result.andThen,direct_E,storeVar,Value.cells,storeCells,Addr.add]
 rw [run_store Tryz.prog W ta _ _ (by rfl)]
 simp [ht,hf]
theorem zt6 (w:World):(ReflectliteType.relation "AssignableTo" ReflectliteType.assignableTo #[.agg #[.pointer (some ⟨1,92,none⟩)],.iface 243 (.agg #[.pointer (some ⟨1,190,none⟩)])]).run Tryz.prog w = .ok (.bool false) w:=by kernel_rfl
theorem noAsE (v:Value) (xT:TypeId) (w:World):(Instr.typeAssert (.iface 92 v) xT 251 true).run Tryz.prog w = .ok (.tuple #[.nilIface,.bool false]) w:=run_typeAssert_lacksB Tryz.underlying251 (by kernel_rfl) (by kernel_rfl) v xT w
theorem noIsE (v:Value) (xT:TypeId) (w:World):(Instr.typeAssert (.iface 92 v) xT 245 true).run Tryz.prog w = .ok (.tuple #[.nilIface,.bool false]) w:=run_typeAssert_lacksB Tryz.underlying245 (by kernel_rfl) (by kernel_rfl) v xT w
theorem hasIsF (v:Value) (xT:TypeId) (w:World):(Instr.typeAssert (.iface 190 v) xT 245 true).run Tryz.prog w = .ok (.tuple #[.iface 190 v,.bool true]) w:=run_typeAssert_hasB Tryz.underlying245 (by kernel_rfl) v xT w
open Go.RowKit Go.Extern.Stop Go.Stop Go.Extern
set_option maxHeartbeats 1000000 in
theorem as1_F (x:Addr) (tb ab:Nat) (old:Value) (w:World) (ha:w.cell? ⟨ab,0,none⟩=some (.pointer (some ⟨tb,0,none⟩))) (hal:ab < w.heap.size) (ht0:w.cell? ⟨tb,0,none⟩=some old) (hf0:w.frozen? ⟨tb,0,none⟩=false) (htl:tb < w.heap.size) :
 Calls Tryz.prog 126 #[.iface 190 (.pointer (some x)),.iface 230 (.pointer (some ⟨tb,0,none⟩)),.agg #[.pointer (some ⟨1,230,none⟩),.pointer (some ⟨ab,0,none⟩),.int .u64 150],.iface 243 (.agg #[.pointer (some ⟨1,190,none⟩)])] w fun ev w'=>ev = .returned (.bool true)∧w'=((w.setCell ⟨tb,0,none⟩ (.pointer (some x))).alloc (.cells #[.pointer (some ⟨1,230,none⟩),.pointer (some ⟨ab,0,none⟩),.int .u64 150] 235)).alloc (.cells #[.pointer (some x)] 190):=by
 have h0:=@run_callFunc_extern Tryz.prog 123 _ (fun args=>ReflectliteValue.unpack (args.getD 0 (.tuple #[]))) Tryz.func123 (by kernel_rfl) (by kernel_rfl) (by kernel_rfl) (by kernel_rfl)
 have h6:=@run_callFunc_extern Tryz.prog 112 _ ReflectliteType.typeOf Tryz.func112 (by kernel_rfl) (by kernel_rfl) (by kernel_rfl) (by kernel_rfl)
 have h7:=@run_callFunc_extern Tryz.prog 158 _ (ReflectliteType.relation "AssignableTo" ReflectliteType.assignableTo) Tryz.func158 (by kernel_rfl) (by kernel_rfl) (by kernel_rfl) (by kernel_rfl)
 have h8:=@run_callFunc_extern Tryz.prog 127 _ (ReflectliteValue.method (ReflectliteValue.valueError "reflectlite.Value.Elem" 0) ReflectliteValue.elem) Tryz.func127 (by kernel_rfl) (by kernel_rfl) (by kernel_rfl) (by kernel_rfl)
 have h9:=@run_callFunc_extern Tryz.prog 128 _ ReflectliteValue.set Tryz.func128 (by kernel_rfl) (by kernel_rfl) (by kernel_rfl) (by kernel_rfl)
 have mA:=methodAssignableTo
 have tO:=typeOf_F
 have aS:=zw6
 have v1:=zG0
 have el:=elemV_F ⟨ab,0,none⟩ ⟨tb,0,none⟩ (w.alloc (.cells #[.pointer (some ⟨1,230,none⟩),.pointer (some ⟨ab,0,none⟩),.int .u64 150] 235)) (by rw [World.cell?_alloc_lt _ _ _ hal];exact ha)
 have st:=set_F ⟨tb,0,none⟩ ⟨w.heap.size + 1,0,none⟩ x old ((w.alloc (.cells #[.pointer (some ⟨1,230,none⟩),.pointer (some ⟨ab,0,none⟩),.int .u64 150] 235)).alloc (.cells #[.pointer (some x)] 190))
  (by rw [World.cell?_alloc_at _ _ _ _ (by simp)];rfl)
  (by rw [World.cell?_alloc_lt _ _ _ (by simp;omega),World.cell?_alloc_lt _ _ _ htl];exact ht0)
  (by rw [World.frozen?_alloc_old _ _ _ (by simp;omega),World.frozen?_alloc_old _ _ _ (Nat.ne_of_lt htl)];exact hf0)
 clear ht0 hf0 ha
 go_enter Tryz.func126,Tryz.ntmps126
 go_wp2
 refine wp_loop_rounds 1 ?_
 rw [rounds_succ]
 go_wp2
 go_ret
 exact ⟨rfl,rfl⟩
set_option maxHeartbeats 1000000 in
theorem as1_E (x:Int) (tb ab:Nat) (old:Value) (w:World) (ha:w.cell? ⟨ab,0,none⟩=some (.pointer (some ⟨tb,0,none⟩))) (hal:ab < w.heap.size) (ht0:w.cell? ⟨tb,0,none⟩=some old) (hf0:w.frozen? ⟨tb,0,none⟩=false) (htl:tb < w.heap.size) :
 Calls Tryz.prog 126 #[.iface 92 (.int .i64 x),.iface 216 (.pointer (some ⟨tb,0,none⟩)),.agg #[.pointer (some ⟨1,216,none⟩),.pointer (some ⟨ab,0,none⟩),.int .u64 150],.iface 243 (.agg #[.pointer (some ⟨1,92,none⟩)])] w fun ev w'=>ev = .returned (.bool true)∧w'=((w.setCell ⟨tb,0,none⟩ (.int .i64 x)).alloc (.cells #[.pointer (some ⟨1,216,none⟩),.pointer (some ⟨ab,0,none⟩),.int .u64 150] 235)).alloc (.cells #[.int .i64 x] 92):=by
 have h0:=@run_callFunc_extern Tryz.prog 123 _ (fun args=>ReflectliteValue.unpack (args.getD 0 (.tuple #[]))) Tryz.func123 (by kernel_rfl) (by kernel_rfl) (by kernel_rfl) (by kernel_rfl)
 have h6:=@run_callFunc_extern Tryz.prog 112 _ ReflectliteType.typeOf Tryz.func112 (by kernel_rfl) (by kernel_rfl) (by kernel_rfl) (by kernel_rfl)
 have h7:=@run_callFunc_extern Tryz.prog 158 _ (ReflectliteType.relation "AssignableTo" ReflectliteType.assignableTo) Tryz.func158 (by kernel_rfl) (by kernel_rfl) (by kernel_rfl) (by kernel_rfl)
 have h8:=@run_callFunc_extern Tryz.prog 127 _ (ReflectliteValue.method (ReflectliteValue.valueError "reflectlite.Value.Elem" 0) ReflectliteValue.elem) Tryz.func127 (by kernel_rfl) (by kernel_rfl) (by kernel_rfl) (by kernel_rfl)
 have h9:=@run_callFunc_extern Tryz.prog 128 _ ReflectliteValue.set Tryz.func128 (by kernel_rfl) (by kernel_rfl) (by kernel_rfl) (by kernel_rfl)
 have mA:=methodAssignableTo
 have tO:=zt5
 have aS:=zw8
 have v1:=zG1
 have el:=elemV_E ⟨ab,0,none⟩ ⟨tb,0,none⟩ (w.alloc (.cells #[.pointer (some ⟨1,216,none⟩),.pointer (some ⟨ab,0,none⟩),.int .u64 150] 235)) (by rw [World.cell?_alloc_lt _ _ _ hal];exact ha)
 have st:=set_E ⟨tb,0,none⟩ ⟨w.heap.size + 1,0,none⟩ x old ((w.alloc (.cells #[.pointer (some ⟨1,216,none⟩),.pointer (some ⟨ab,0,none⟩),.int .u64 150] 235)).alloc (.cells #[.int .i64 x] 92))
  (by rw [World.cell?_alloc_at _ _ _ _ (by simp)];rfl)
  (by rw [World.cell?_alloc_lt _ _ _ (by simp;omega),World.cell?_alloc_lt _ _ _ htl];exact ht0)
  (by rw [World.frozen?_alloc_old _ _ _ (by simp;omega),World.frozen?_alloc_old _ _ _ (Nat.ne_of_lt htl)];exact hf0)
 clear ht0 hf0 ha
 go_enter Tryz.func126,Tryz.ntmps126
 go_wp2
 refine wp_loop_rounds 1 ?_
 rw [rounds_succ]
 go_wp2
 go_ret
 exact ⟨rfl,rfl⟩
set_option maxHeartbeats 1000000 in
theorem as1_no (x:Int) (t:Value) (ab:Nat) (w:World) :
 Calls Tryz.prog 126 #[.iface 92 (.int .i64 x),t,.agg #[.pointer (some ⟨1,230,none⟩),.pointer (some ⟨ab,0,none⟩),.int .u64 150],.iface 243 (.agg #[.pointer (some ⟨1,190,none⟩)])] w fun ev w'=>ev = .returned (.bool false)∧w'=w.alloc (.cells #[.pointer (some ⟨1,230,none⟩),.pointer (some ⟨ab,0,none⟩),.int .u64 150] 235):=by
 have h6:=@run_callFunc_extern Tryz.prog 112 _ ReflectliteType.typeOf Tryz.func112 (by kernel_rfl) (by kernel_rfl) (by kernel_rfl) (by kernel_rfl)
 have h7:=@run_callFunc_extern Tryz.prog 158 _ (ReflectliteType.relation "AssignableTo" ReflectliteType.assignableTo) Tryz.func158 (by kernel_rfl) (by kernel_rfl) (by kernel_rfl) (by kernel_rfl)
 have mA:=methodAssignableTo
 have tO:=zt5
 have aS:=zt6
 have n1:=noAsE
 have n2:=noUnwrapE
 have n3:=noUnwrapsE
 go_enter Tryz.func126,Tryz.ntmps126
 go_wp2
 refine wp_loop_rounds 1 ?_
 rw [rounds_succ]
 go_wp2
 go_ret
 exact ⟨rfl,rfl⟩
open Go.RowKit Go.Extern.Stop Go.Stop Go.Extern
def HasType (w:World):Prop:=w.cell? ⟨0,0,none⟩=some (.iface 243 (.agg #[.pointer (some ⟨1,58,none⟩)]))
theorem HasType.pos {w:World} (h:HasType w):0 < w.heap.size:=by
 rcases Nat.eq_zero_or_pos w.heap.size with h0 | h'
 ·simp [HasType,World.cell?,h0] at h
 ·exact h'
theorem HasType.keep {w w':World} (h:HasType w) (hk:w'.heap[0]? = w.heap[0]?):HasType w':=by
 unfold HasType at *
 rw [← h]
 exact World.cell?_of_block (a:=⟨0,0,none⟩) hk
theorem zc3 {w w':World} {row:Option Nat} (h:w.grownBy w' row) (o:Obj):w.grownBy (w'.alloc o) row:=
 ⟨h.os,h.tape,h.output,by have:=h.size;simp;omega,fun k hk hne=>(Below.heap_alloc _ _ _ (by have:=h.size;omega)).trans (h.block k hk hne)⟩
theorem allocAt (w:World) (o:Obj) (k:Nat) (h:k < w.heap.size):(w.alloc o).heap[k]? = w.heap[k]?:=Below.heap_alloc w o k h
set_option maxHeartbeats 2000000 in
theorem as_F (x:Addr) (tb:Nat) (old:Value) (w:World) (hg:HasType w) (hb:w.heap[tb]? = some (.cells #[old] 190 (0,0))) (htl:tb < w.heap.size) :
 Calls Tryz.prog 110 #[.iface 190 (.pointer (some x)),.iface 230 (.pointer (some ⟨tb,0,none⟩))] w (Asked w (some tb) (fun r w1=>r=true∧w1.heap[tb]? = some (.cells #[.pointer (some x)] 190 (0,0)))):=by
 have h0:=@run_callFunc_extern Tryz.prog 123 _ (fun args=>ReflectliteValue.unpack (args.getD 0 (.tuple #[]))) Tryz.func123 (by kernel_rfl) (by kernel_rfl) (by kernel_rfl) (by kernel_rfl)
 have h1:=@run_callFunc_extern Tryz.prog 124 _ (ReflectliteValue.methodAny (ReflectliteValue.valueError "reflectlite.Value.Type" 0) (fun t _ _ _=>ReflectliteType.toType t)) Tryz.func124 (by kernel_rfl) (by kernel_rfl) (by kernel_rfl) (by kernel_rfl)
 have h2:=@run_callFunc_extern Tryz.prog 125 _ (ReflectliteValue.method (ReflectliteValue.valueError "reflectlite.Value.IsNil" 0) ReflectliteValue.isNil) Tryz.func125 (by kernel_rfl) (by kernel_rfl) (by kernel_rfl) (by kernel_rfl)
 have h3:=@run_callFunc_extern Tryz.prog 143 _ (ReflectliteType.abiMethod fun t=>do pure (.int .u8 (← Rtype.kind t))) Tryz.func143 (by kernel_rfl) (by kernel_rfl) (by kernel_rfl) (by kernel_rfl)
 have h4:=@run_callFunc_extern Tryz.prog 160 _ (ReflectliteType.method ReflectliteType.elem) Tryz.func160 (by kernel_rfl) (by kernel_rfl) (by kernel_rfl) (by kernel_rfl)
 have h5:=@run_callFunc_extern Tryz.prog 161 _ (ReflectliteType.relation "Implements" ReflectliteType.implements_) Tryz.func161 (by kernel_rfl) (by kernel_rfl) (by kernel_rfl) (by kernel_rfl)
 have f0:=zw5
 have f1:=type_F
 have f2:=methodKind
 have f3:=methodElem
 have f4:=methodImplements
 have f5:=kind_F
 have f6:=zM0
 have f7:=elem_F
 have f8:=zn1
 have n8:=zM2 ⟨w.heap.size,0,none⟩ ⟨tb,0,none⟩ ((w.alloc (.cells #[.pointer (some ⟨tb,0,none⟩)] 230)).alloc (.cells #[.pointer (some ⟨1,230,none⟩),.pointer (some ⟨w.heap.size,0,none⟩),.int .u64 150] 235)) (by simp)
 have hlt:=hg.pos
 have hg2:((w.alloc (.cells #[.pointer (some ⟨tb,0,none⟩)] 230)).alloc (.cells #[.pointer (some ⟨1,230,none⟩),.pointer (some ⟨w.heap.size,0,none⟩),.int .u64 150] 235)).cell? ⟨0,0,none⟩=some (.iface 243 (.agg #[.pointer (some ⟨1,58,none⟩)])):=by
  rw [World.cell?_alloc_lt _ _ ⟨0,0,none⟩ (by simp),World.cell?_alloc_lt _ _ ⟨0,0,none⟩ hlt];exact hg
 have hA:((w.alloc (.cells #[.pointer (some ⟨tb,0,none⟩)] 230)).alloc (.cells #[.pointer (some ⟨1,230,none⟩),.pointer (some ⟨w.heap.size,0,none⟩),.int .u64 150] 235)).cell? ⟨w.heap.size,0,none⟩=some (.pointer (some ⟨tb,0,none⟩)):=by
  rw [World.cell?_alloc_lt _ _ _ (by simp)];simp
 have hAl:w.heap.size < ((w.alloc (.cells #[.pointer (some ⟨tb,0,none⟩)] 230)).alloc (.cells #[.pointer (some ⟨1,230,none⟩),.pointer (some ⟨w.heap.size,0,none⟩),.int .u64 150] 235)).heap.size:=by simp;omega
 have hT:((w.alloc (.cells #[.pointer (some ⟨tb,0,none⟩)] 230)).alloc (.cells #[.pointer (some ⟨1,230,none⟩),.pointer (some ⟨w.heap.size,0,none⟩),.int .u64 150] 235)).cell? ⟨tb,0,none⟩=some old:=by
  rw [World.cell?_alloc_lt _ _ _ (by simp;omega),World.cell?_alloc_lt _ _ _ htl];exact (cell0 hb).1
 have hF:((w.alloc (.cells #[.pointer (some ⟨tb,0,none⟩)] 230)).alloc (.cells #[.pointer (some ⟨1,230,none⟩),.pointer (some ⟨w.heap.size,0,none⟩),.int .u64 150] 235)).frozen? ⟨tb,0,none⟩=false:=by
  rw [World.frozen?_alloc_old _ _ _ (by simp;omega),World.frozen?_alloc_old _ _ _ (Nat.ne_of_lt htl)];exact (cell0 hb).2
 have hTl:tb < ((w.alloc (.cells #[.pointer (some ⟨tb,0,none⟩)] 230)).alloc (.cells #[.pointer (some ⟨1,230,none⟩),.pointer (some ⟨w.heap.size,0,none⟩),.int .u64 150] 235)).heap.size:=by simp;omega
 have hend:∀ e w',e = .returned (.bool true)→w'=(((((w.alloc (.cells #[.pointer (some ⟨tb,0,none⟩)] 230)).alloc (.cells #[.pointer (some ⟨1,230,none⟩),.pointer (some ⟨w.heap.size,0,none⟩),.int .u64 150] 235)).setCell ⟨tb,0,none⟩ (.pointer (some x))).alloc (.cells #[.pointer (some ⟨1,230,none⟩),.pointer (some ⟨w.heap.size,0,none⟩),.int .u64 150] 235)).alloc (.cells #[.pointer (some x)] 190))→Asked w (some tb) (fun r w1=>r=true∧w1.heap[tb]? = some (.cells #[.pointer (some x)] 190 (0,0))) e w':=by
  rintro e w' rfl rfl
  exact ⟨_,rfl,(zc3 (zc3 (zi2 (zc3 (zc3 (zf5 w (some tb)) _) _)) _) _),rfl,(allocAt _ _ tb (by simp [World.setCell];omega)).trans ((allocAt _ _ tb (by simp [World.setCell];omega)).trans (set0 ((allocAt _ _ tb (by simp;omega)).trans ((allocAt _ _ tb htl).trans hb))))⟩
 have Hend:=Lib.hid hend
 clear hend hb
 clear hg
 go_enter Tryz.func110,Tryz.ntmps110
 go_wp2_with fail
 refine (as1_F x tb w.heap.size old _ hA hAl hT hF hTl).mono ?_
 rintro e w' ⟨rfl,hw⟩
 have Hw:=Lib.hid hw
 clear hw
 go_wp2_with fail
 go_ret
 exact Hend.out _ _ rfl Hw.out
set_option maxHeartbeats 2000000 in
theorem as_E (x:Int) (tb:Nat) (old:Value) (w:World) (hg:HasType w) (hb:w.heap[tb]? = some (.cells #[old] 92 (0,0))) (htl:tb < w.heap.size) :
 Calls Tryz.prog 110 #[.iface 92 (.int .i64 x),.iface 216 (.pointer (some ⟨tb,0,none⟩))] w (Asked w (some tb) (fun r w1=>r=true∧w1.heap[tb]? = some (.cells #[.int .i64 x] 92 (0,0)))):=by
 have h0:=@run_callFunc_extern Tryz.prog 123 _ (fun args=>ReflectliteValue.unpack (args.getD 0 (.tuple #[]))) Tryz.func123 (by kernel_rfl) (by kernel_rfl) (by kernel_rfl) (by kernel_rfl)
 have h1:=@run_callFunc_extern Tryz.prog 124 _ (ReflectliteValue.methodAny (ReflectliteValue.valueError "reflectlite.Value.Type" 0) (fun t _ _ _=>ReflectliteType.toType t)) Tryz.func124 (by kernel_rfl) (by kernel_rfl) (by kernel_rfl) (by kernel_rfl)
 have h2:=@run_callFunc_extern Tryz.prog 125 _ (ReflectliteValue.method (ReflectliteValue.valueError "reflectlite.Value.IsNil" 0) ReflectliteValue.isNil) Tryz.func125 (by kernel_rfl) (by kernel_rfl) (by kernel_rfl) (by kernel_rfl)
 have h3:=@run_callFunc_extern Tryz.prog 143 _ (ReflectliteType.abiMethod fun t=>do pure (.int .u8 (← Rtype.kind t))) Tryz.func143 (by kernel_rfl) (by kernel_rfl) (by kernel_rfl) (by kernel_rfl)
 have h4:=@run_callFunc_extern Tryz.prog 160 _ (ReflectliteType.method ReflectliteType.elem) Tryz.func160 (by kernel_rfl) (by kernel_rfl) (by kernel_rfl) (by kernel_rfl)
 have h5:=@run_callFunc_extern Tryz.prog 161 _ (ReflectliteType.relation "Implements" ReflectliteType.implements_) Tryz.func161 (by kernel_rfl) (by kernel_rfl) (by kernel_rfl) (by kernel_rfl)
 have f0:=zM3
 have f1:=type_E
 have f2:=methodKind
 have f3:=methodElem
 have f4:=methodImplements
 have f5:=kind_E
 have f6:=kind1_E
 have f7:=elem_E
 have f8:=zw7
 have n8:=isNil_E ⟨w.heap.size,0,none⟩ ⟨tb,0,none⟩ ((w.alloc (.cells #[.pointer (some ⟨tb,0,none⟩)] 216)).alloc (.cells #[.pointer (some ⟨1,216,none⟩),.pointer (some ⟨w.heap.size,0,none⟩),.int .u64 150] 235)) (by simp)
 have hlt:=hg.pos
 have hg2:((w.alloc (.cells #[.pointer (some ⟨tb,0,none⟩)] 216)).alloc (.cells #[.pointer (some ⟨1,216,none⟩),.pointer (some ⟨w.heap.size,0,none⟩),.int .u64 150] 235)).cell? ⟨0,0,none⟩=some (.iface 243 (.agg #[.pointer (some ⟨1,58,none⟩)])):=by
  rw [World.cell?_alloc_lt _ _ ⟨0,0,none⟩ (by simp),World.cell?_alloc_lt _ _ ⟨0,0,none⟩ hlt];exact hg
 have hA:((w.alloc (.cells #[.pointer (some ⟨tb,0,none⟩)] 216)).alloc (.cells #[.pointer (some ⟨1,216,none⟩),.pointer (some ⟨w.heap.size,0,none⟩),.int .u64 150] 235)).cell? ⟨w.heap.size,0,none⟩=some (.pointer (some ⟨tb,0,none⟩)):=by
  rw [World.cell?_alloc_lt _ _ _ (by simp)];simp
 have hAl:w.heap.size < ((w.alloc (.cells #[.pointer (some ⟨tb,0,none⟩)] 216)).alloc (.cells #[.pointer (some ⟨1,216,none⟩),.pointer (some ⟨w.heap.size,0,none⟩),.int .u64 150] 235)).heap.size:=by simp;omega
 have hT:((w.alloc (.cells #[.pointer (some ⟨tb,0,none⟩)] 216)).alloc (.cells #[.pointer (some ⟨1,216,none⟩),.pointer (some ⟨w.heap.size,0,none⟩),.int .u64 150] 235)).cell? ⟨tb,0,none⟩=some old:=by
  rw [World.cell?_alloc_lt _ _ _ (by simp;omega),World.cell?_alloc_lt _ _ _ htl];exact (cell0 hb).1
 have hF:((w.alloc (.cells #[.pointer (some ⟨tb,0,none⟩)] 216)).alloc (.cells #[.pointer (some ⟨1,216,none⟩),.pointer (some ⟨w.heap.size,0,none⟩),.int .u64 150] 235)).frozen? ⟨tb,0,none⟩=false:=by
  rw [World.frozen?_alloc_old _ _ _ (by simp;omega),World.frozen?_alloc_old _ _ _ (Nat.ne_of_lt htl)];exact (cell0 hb).2
 have hTl:tb < ((w.alloc (.cells #[.pointer (some ⟨tb,0,none⟩)] 216)).alloc (.cells #[.pointer (some ⟨1,216,none⟩),.pointer (some ⟨w.heap.size,0,none⟩),.int .u64 150] 235)).heap.size:=by simp;omega
 have hend:∀ e w',e = .returned (.bool true)→w'=(((((w.alloc (.cells #[.pointer (some ⟨tb,0,none⟩)] 216)).alloc (.cells #[.pointer (some ⟨1,216,none⟩),.pointer (some ⟨w.heap.size,0,none⟩),.int .u64 150] 235)).setCell ⟨tb,0,none⟩ (.int .i64 x)).alloc (.cells #[.pointer (some ⟨1,216,none⟩),.pointer (some ⟨w.heap.size,0,none⟩),.int .u64 150] 235)).alloc (.cells #[.int .i64 x] 92))→Asked w (some tb) (fun r w1=>r=true∧w1.heap[tb]? = some (.cells #[.int .i64 x] 92 (0,0))) e w':=by
  rintro e w' rfl rfl
  exact ⟨_,rfl,(zc3 (zc3 (zi2 (zc3 (zc3 (zf5 w (some tb)) _) _)) _) _),rfl,(allocAt _ _ tb (by simp [World.setCell];omega)).trans ((allocAt _ _ tb (by simp [World.setCell];omega)).trans (set0 ((allocAt _ _ tb (by simp;omega)).trans ((allocAt _ _ tb htl).trans hb))))⟩
 have Hend:=Lib.hid hend
 clear hend hb
 clear hg
 go_enter Tryz.func110,Tryz.ntmps110
 go_wp2_with fail
 refine (as1_E x tb w.heap.size old _ hA hAl hT hF hTl).mono ?_
 rintro e w' ⟨rfl,hw⟩
 have Hw:=Lib.hid hw
 clear hw
 go_wp2_with fail
 go_ret
 exact Hend.out _ _ rfl Hw.out
set_option maxHeartbeats 2000000 in
theorem as_no (x:Int) (tb:Nat) (w:World) (hg:HasType w) (htl:tb < w.heap.size) :
 Calls Tryz.prog 110 #[.iface 92 (.int .i64 x),.iface 230 (.pointer (some ⟨tb,0,none⟩))] w (Asked w (some tb) (fun r w1=>r=false∧w1.heap[tb]? = w.heap[tb]?)):=by
 have h0:=@run_callFunc_extern Tryz.prog 123 _ (fun args=>ReflectliteValue.unpack (args.getD 0 (.tuple #[]))) Tryz.func123 (by kernel_rfl) (by kernel_rfl) (by kernel_rfl) (by kernel_rfl)
 have h1:=@run_callFunc_extern Tryz.prog 124 _ (ReflectliteValue.methodAny (ReflectliteValue.valueError "reflectlite.Value.Type" 0) (fun t _ _ _=>ReflectliteType.toType t)) Tryz.func124 (by kernel_rfl) (by kernel_rfl) (by kernel_rfl) (by kernel_rfl)
 have h2:=@run_callFunc_extern Tryz.prog 125 _ (ReflectliteValue.method (ReflectliteValue.valueError "reflectlite.Value.IsNil" 0) ReflectliteValue.isNil) Tryz.func125 (by kernel_rfl) (by kernel_rfl) (by kernel_rfl) (by kernel_rfl)
 have h3:=@run_callFunc_extern Tryz.prog 143 _ (ReflectliteType.abiMethod fun t=>do pure (.int .u8 (← Rtype.kind t))) Tryz.func143 (by kernel_rfl) (by kernel_rfl) (by kernel_rfl) (by kernel_rfl)
 have h4:=@run_callFunc_extern Tryz.prog 160 _ (ReflectliteType.method ReflectliteType.elem) Tryz.func160 (by kernel_rfl) (by kernel_rfl) (by kernel_rfl) (by kernel_rfl)
 have h5:=@run_callFunc_extern Tryz.prog 161 _ (ReflectliteType.relation "Implements" ReflectliteType.implements_) Tryz.func161 (by kernel_rfl) (by kernel_rfl) (by kernel_rfl) (by kernel_rfl)
 have f0:=zw5
 have f1:=type_F
 have f2:=methodKind
 have f3:=methodElem
 have f4:=methodImplements
 have f5:=kind_F
 have f6:=zM0
 have f7:=elem_F
 have f8:=zn1
 have n8:=zM2 ⟨w.heap.size,0,none⟩ ⟨tb,0,none⟩ ((w.alloc (.cells #[.pointer (some ⟨tb,0,none⟩)] 230)).alloc (.cells #[.pointer (some ⟨1,230,none⟩),.pointer (some ⟨w.heap.size,0,none⟩),.int .u64 150] 235)) (by simp)
 have hlt:=hg.pos
 have hg2:((w.alloc (.cells #[.pointer (some ⟨tb,0,none⟩)] 230)).alloc (.cells #[.pointer (some ⟨1,230,none⟩),.pointer (some ⟨w.heap.size,0,none⟩),.int .u64 150] 235)).cell? ⟨0,0,none⟩=some (.iface 243 (.agg #[.pointer (some ⟨1,58,none⟩)])):=by
  rw [World.cell?_alloc_lt _ _ ⟨0,0,none⟩ (by simp),World.cell?_alloc_lt _ _ ⟨0,0,none⟩ hlt];exact hg
 have hend:∀ e w',e = .returned (.bool false)→w'=((w.alloc (.cells #[.pointer (some ⟨tb,0,none⟩)] 230)).alloc (.cells #[.pointer (some ⟨1,230,none⟩),.pointer (some ⟨w.heap.size,0,none⟩),.int .u64 150] 235)).alloc (.cells #[.pointer (some ⟨1,230,none⟩),.pointer (some ⟨w.heap.size,0,none⟩),.int .u64 150] 235)→Asked w (some tb) (fun r w1=>r=false∧w1.heap[tb]? = w.heap[tb]?) e w':=by
  rintro e w' rfl rfl
  exact ⟨_,rfl,(zc3 (zc3 (zc3 (zf5 w (some tb)) _) _) _),rfl,(allocAt _ _ tb (by simp;omega)).trans ((allocAt _ _ tb (by simp;omega)).trans (allocAt _ _ tb htl))⟩
 have Hend:=Lib.hid hend
 clear hend
 clear hg
 go_enter Tryz.func110,Tryz.ntmps110
 go_wp2_with fail
 refine (as1_no x _ w.heap.size _).mono ?_
 rintro e w' ⟨rfl,hw⟩
 have Hw:=Lib.hid hw
 clear hw
 go_wp2_with fail
 go_ret
 exact Hend.out _ _ rfl Hw.out
theorem zM5 (t:Value) (row:Option Nat) (w:World) :
 Calls Tryz.prog 110 #[.nilIface,t] w (Asked w row fun r w1=>r=false∧w1=w):=
 (as_nil t w).mono fun _ _ ⟨he,hw⟩=>⟨false,he,by subst hw;exact zf5 _ _,rfl,hw.symm⟩
open Go.RowKit Go.Extern.Stop Go.Stop Go.Extern
theorem zw9 {P:Program} (w:World) (d:Nat) {ti tn:TypeId} {ms:Array (String × TypeId)} {i:TypeInfo} {k:IntKind} (a b:Int)
 (hi:P.underlying ti=some (.interface ms)) (hn:P.underlying tn=some (.int k)) (hinfo:P.info? tn=some i) (hcomp:i.comparable=true) :
 (Op.equalIn (d + 2) ti (.iface tn (.int k a)) (.iface tn (.int k b))).run P w = .ok (a == b) w:=by
 simp [Op.equalIn,run_underlying hi,run_underlying hn,typeInfo,hinfo,hcomp]
theorem eql_ints {P:Program} (w:World) {ti tn:TypeId} {ms:Array (String × TypeId)} {i:TypeInfo} {k:IntKind} (a b:Int)
 (hi:P.underlying ti=some (.interface ms)) (hn:P.underlying tn=some (.int k)) (hinfo:P.info? tn=some i) (hcomp:i.comparable=true) :
 (binOp .eql ti (.iface tn (.int k a)) (.iface tn (.int k b))).run P w = .ok (.bool (a == b)) w:=by
 simp only [binOp]
 simp [Op.equal,Op.maxDepth,zw9 w 9998 a b hi hn hinfo hcomp]
theorem infoE:(Tryz.prog.info? 92).map (·.comparable)=some true:=by kernel_rfl
theorem eqErrnos (a b:Int) (w:World):(binOp .eql 58 (.iface 92 (.int .i64 a)) (.iface 92 (.int .i64 b))).run Tryz.prog w = .ok (.bool (a == b)) w:=by
 obtain ⟨i,hi,hcmp⟩:=Option.map_eq_some_iff.1 infoE
 exact eql_ints w a b Tryz.underlying58 Tryz.underlying92 hi hcmp
theorem eqTypes2 (n v:Value) (w:World):(binOp .eql 58 (.iface 190 v) (.iface 92 n)).run Tryz.prog w = .ok (.bool false) w:=
 run_eql_iface_types _ _ _ _ Tryz.underlying58 (by decide) w
theorem methodIsF (v:Value) (w:World):(Go.method 385 190 v "Is").run Tryz.prog w = .ok (152,v) w:=by kernel_rfl
theorem zx0 (w:World):(callFunc 159 #[.agg #[.pointer (some ⟨1,92,none⟩)]]).run Tryz.prog w = .ok (.value (.bool true)) w:=by kernel_rfl
def codes (l:List (Nat × Int × Int)) (t:Option Int):List Int:=l.map (·.2.1) ++ t.toList
def blkOf:Value→Nat
 | .iface _ (.pointer (some a))=>a.block + 1
 | _=>0
theorem nd_code {l:List (Nat × Int × Int)} {n:Nat} (h:n < l.length):(nd l n).2.1∈l.map (·.2.1):=by
 unfold nd
 rw [List.getD_eq_getElem?_getD,List.getElem?_eq_getElem h]
 exact List.mem_map.2 ⟨l[n],List.getElem_mem _,rfl⟩
theorem mem_nd {l:List (Nat × Int × Int)} {c:Int} (h:c∈l.map (·.2.1)):∃ i,i < l.length∧(nd l i).2.1=c:=by
 obtain ⟨x,hx,rfl⟩:=List.mem_map.1 h
 obtain ⟨i,hi,rfl⟩:=List.getElem_of_mem hx
 exact ⟨i,hi,by simp [nd,List.getD_eq_getElem?_getD,List.getElem?_eq_getElem hi]⟩
def IsRel (l:List (Nat × Int × Int)) (t:Option Int) (code:Int) (v:Value):Prop:=
 ∃ n,n≤l.length∧v=errAt l t n∧v≠.nilIface∧∀ i,i < n→(nd l i).2.1≠code
def IsPost (l:List (Nat × Int × Int)) (t:Option Int) (code:Int) (w:World) (e:Ending) (w':World):Prop:=e = .returned (.bool (decide (code∈codes l t)))∧w=w'
set_option maxHeartbeats 1000000 in
theorem is_any (B:Nat) (l:List (Nat × Int × Int)) (t:Option Int) (code:Int) (w:World) (hne:errV l t≠.nilIface) (hin:ErrIn w t B l) :
 Calls Tryz.prog 113 #[errV l t,.iface 92 (.int .i64 code),.bool true] w (IsPost l t code w):=by
 have n1:=noIsE
 have n2:=noUnwrapE
 have n3:=noUnwrapsE
 have n4:=hasIsF
 have n5:=hasUnwrapF
 have q1:=eqErrnos
 have q2:=eqTypes2
 have m1:=methodIsF
 have m2:=methodUnwrapF
 have hyes:code∈codes l t→IsPost l t code w (.returned (.bool true)) w:=fun h=>⟨by rw [decide_eq_true h],rfl⟩
 have hno:code ∉ codes l t→IsPost l t code w (.returned (.bool false)) w:=fun h=>⟨by rw [decide_eq_false h],rfl⟩
 have e0:=zi8 l t
 rw [← e0] at hne
 rw [← e0]
 have hne':=Lib.hid hne
 clear e0 hne
 generalize hv0:errAt l t 0=v0 at *
 have Hv0:=Lib.hid hv0
 clear hv0
 go_enter Tryz.func113,Tryz.ntmps113
 go_wp2_with fail
 go_loop [0] (IsRel l t code) blkOf
 case atStart=>exact ⟨0,Nat.zero_le _,Hv0.out.symm,hne'.out,fun i hi=>absurd hi (by omega)⟩
 case round=>
  clear Hv0 hne'
  obtain ⟨n,hn,rfl,hnn,hbefore⟩:=hrel
  rcases Nat.lt_or_ge n l.length with hlt | hge
  ·obtain ⟨hb1,hb2⟩:=ErrIn.node (n:=n) hin hlt
   obtain ⟨hc0,-,hc2⟩:=cells3 hb2
   have hcode:=nd_code hlt
   have hnx:errAt l t (n + 1)≠.nilIface→(nd l n).2.1≠code→IsRel l t code (errAt l t (n + 1)):=fun h hc=>⟨n + 1,by omega,rfl,h,fun i hi=>by
    rcases Nat.lt_or_ge i n with h' | h'
    ·exact hbefore i h'
    ·obtain rfl:i=n:=by omega
     exact hc⟩
   have hms:errAt l t (n + 1)≠.nilIface→blkOf (errAt l t (n + 1)) < (nd l n).1 + 1:=fun h=>by
    rcases Nat.lt_or_ge (n + 1) l.length with h' | h'
    ·rw [zh1 h']
     have:=ErrIn.desc (i:=n) (j:=n + 1) hin (by omega) h'
     simp only [flt,blkOf];omega
    ·obtain h'':l.length=n + 1:=by omega
     rw [← h'',zg6]
     cases t<;>simp [errV,blkOf]
   have hlast:errAt l t (n + 1) = .nilIface→(nd l n).2.1≠code→code ∉ codes l t:=fun h hc hm=>by
    have hl:n + 1=l.length∧t=none:=by
     rcases Nat.lt_or_ge (n + 1) l.length with h' | h'
     ·rw [zh1 h'] at h;simp [flt] at h
     ·have h'':l.length=n + 1:=by omega
      rw [← h'',zg6] at h
      cases t with
      | none=>exact ⟨h''.symm,rfl⟩
      | some m=>simp [errV] at h
    rw [hl.2] at hm
    obtain ⟨i,hi,hi2⟩:=mem_nd (l:=l) (c:=code) (by simpa [codes] using hm)
    rcases Nat.lt_or_ge i n with h' | h'
    ·exact hbefore i h' hi2
    ·obtain rfl:i=n:=by omega
     exact hc hi2
   have hfirst:(nd l n).2.1=code→code∈codes l t:=fun h=>by rw [← h];exact List.mem_append_left _ hcode
   rw [zh1 hlt]
   clear hcode hnn hbefore hb1 hb2
   have hv:=zb4 (l.drop (n + 1)) (if n + 1≤l.length then t else none)
   change (errAt l t (n + 1)=_∨(∃ m,errAt l t (n + 1)=_)∨∃ b,errAt l t (n + 1)=_) at hv
   generalize errAt l t (n + 1)=nx at *
   generalize (nd l n).1=b at *
   generalize (nd l n).2.1=c at *
   unfold flt
   by_cases hcc:c=code
   ·have hq:(c == code)=true:=by simp [hcc]
    have Hy:=Lib.hid (hyes (hfirst hcc))
    clear hyes hno hnx hms hlast hfirst hv hcc
    go_wp2_with fail
    refine (fIs _ _ _ _ hc0).mono ?_
    rintro e w' ⟨rfl,rfl⟩
    go_wp2_with fail
    go_ret
    exact Hy.out
   ·have hq:(c == code)=false:=by simp [hcc]
    rcases hv with rfl | ⟨m,rfl⟩ | ⟨b',rfl⟩
    ·have Hn:=Lib.hid (hno (hlast rfl hcc))
     clear hyes hno hnx hms hlast hfirst
     go_wp2_with fail
     refine (fIs _ _ _ _ hc0).mono ?_
     rintro e w' ⟨rfl,rfl⟩
     go_wp2_with fail
     refine (fUnwrap _ _ _ hc2).mono ?_
     rintro e w' ⟨rfl,rfl⟩
     go_wp2_with fail
     go_ret
     exact Hn.out
    all_goals
     have Hr:=Lib.hid (hnx (by simp) hcc)
     have Hm:=Lib.hid (hms (by simp))
     clear hyes hno hnx hms hlast hfirst
     go_wp2_with fail
     refine (fIs _ _ _ _ hc0).mono ?_
     rintro e w' ⟨rfl,rfl⟩
     go_wp2_with fail
     refine (fUnwrap _ _ _ hc2).mono ?_
     rintro e w' ⟨rfl,rfl⟩
     go_wp2_with fail
     go_round
     case rel=>exact Hr.out
     case measure=>exact Hm.out
  ·have en:n=l.length:=by omega
   rw [en] at hnn hbefore
   rw [en,zg6] at *
   cases t with
   | none=>exact absurd rfl hnn
   | some m=>
    simp only [errV]
    have hiff:m≠code→code ∉ codes l (some m):=fun h hm=>by
     rcases List.mem_append.1 hm with h' | h'
     ·obtain ⟨i,hi,hi2⟩:=mem_nd h'
      exact hbefore i hi hi2
     ·exact h (by simpa [eq_comm] using h')
    have hiff2:m=code→code∈codes l (some m):=fun h=>by rw [h];exact List.mem_append_right _ (by simp)
    by_cases hmc:m=code
    ·have hq:(m == code)=true:=by simp [hmc]
     have Hy:=Lib.hid (hyes (hiff2 hmc))
     clear hyes hno hiff hiff2 hmc en hnn
     go_wp2_with fail
     go_ret
     exact Hy.out
    ·have hq:(m == code)=false:=by simp [hmc]
     have Hn:=Lib.hid (hno (hiff hmc))
     clear hyes hno hiff hiff2 hmc en hnn
     go_wp2_with fail
     go_ret
     exact Hn.out
theorem isTop (B:Nat) (l:List (Nat × Int × Int)) (t:Option Int) (code:Int) (w:World) (hin:ErrIn w t B l) :
 Calls Tryz.prog 82 #[errV l t,.iface 92 (.int .i64 code)] w (IsPost l t code w):=by
 by_cases hne:errV l t = .nilIface
 ·have hl:l=[]∧t=none:=by
   match l,t with
   | [],none=>exact ⟨rfl,rfl⟩
   | [],some m=>simp [errV] at hne
   | (_,_,_) :: _,_=>simp [errV] at hne
  obtain ⟨rfl,rfl⟩:=hl
  have hn:=run_eql_iface_nil_left (P:=Tryz.prog) w 92 (.int .i64 code) Tryz.underlying58
  have Hp:Hid (IsPost [] none code w (.returned (.bool false)) w):=Lib.hid ⟨by simp [codes],rfl⟩
  simp only [errV]
  go_enter Tryz.func82,Tryz.ntmps82
  go_wp2_with fail
  go_ret
  exact Hp.out
 ·have H:=Lib.hid (is_any B l t code w hne hin)
  have h6:=@run_callFunc_extern Tryz.prog 112 _ ReflectliteType.typeOf Tryz.func112 (by kernel_rfl) (by kernel_rfl) (by kernel_rfl) (by kernel_rfl)
  have tO:=zt5
  have mC:=methodComparable
  have cE:=zx0
  have hv:=zb4 l t
  clear hin
  generalize errV l t=v at *
  rcases hv with rfl | ⟨m,rfl⟩ | ⟨b,rfl⟩
  ·exact absurd rfl hne
  all_goals
   clear hne
   go_enter Tryz.func82,Tryz.ntmps82
   go_wp2_with fail
   refine H.out.mono ?_
   rintro e w' ⟨rfl,rfl⟩
   go_wp2_with fail
   go_ret
   exact ⟨rfl,rfl⟩
end Go.Proofs.YtfgpfmhjnccccaaGreatDoor
