import Derived.Maps.OwnSet
import Derived.Maps.OwnOps
import Derived.WalkSpells
import Derived.Test.YtfgpfmhjnccccaaGreatDoorSa01
import Derived.Test.YtfgpfmhjnccccaaGreatDoorSa02
import Derived.Test.YtfgpfmhjnccccaaGreatDoorSa04
namespace Go.Proofs.YtfgpfmhjnccccaaGreatDoor
open Go.RowKit RepP Go.Maps
set_option maxRecDepth 100000
def u8L (k:Nat):Lit:=.int .u8 (k:Nat)
def u16D (v:Nat):DataW Unit:=.lit (.int .u16 (v:Nat))
theorem u8L_wf {k:Nat} (h:k≤255):(u8L k).wf=true:=by
 show (decide (IntKind.min .u8≤(k:Int)) && decide ((k:Int)≤IntKind.max .u8))=true
 rw [show IntKind.min .u8=0 from by decide,show IntKind.max .u8=255 from by decide]
 simp;omega
theorem keyU8:Keyed Tryz.prog 5:=int_keyed Tryz.underlying5
theorem zeroU16 (w:World):(zeroValue 42).run Tryz.prog w = .ok (.int .u16 0) w:=by kernel_rfl
theorem keyOfU8 {k:Nat} (h:k≤255):keyOf Tryz.prog 5 (.int .u8 (k:Nat))=some (u8L k):=keyOf_int_mk Tryz.underlying5 (u8L_wf h)
def Tied (D:DataW Unit) (t:T):Prop:=∀ k,has D (u8L k)=(tat t k).isSome∧∀ v,tat t k=some v→v < 65536∧D.atKey (u8L k) (u16D 0)=u16D v
def MapAt (W:World) (m:Option Nat) (n:Nat) (t:T):Prop:=
 match m with
 | none=>∀ k,tat t k=none
 | some M=>∃ D:DataW Unit,W.ownsMap Tryz.prog 5 (plainElem Tryz.prog 42) M n D∧Tied D t
theorem MapAt.lt {W:World} {m:Option Nat} {n:Nat} {t:T} (h:MapAt W m n t):∀ M,m=some M→M < W.heap.size:=fun M e=>by
 subst e
 obtain ⟨D,h1,-⟩:=h
 exact h1.lt
theorem MapAt.block {W:World} {m:Option Nat} {n:Nat} {t:T} (h:MapAt W m n t):∀ M,m=some M→∃ es clock,W.heap[M]? = some (.map es clock):=fun M e=>by
 subst e
 obtain ⟨D,⟨es,clock,h1,-⟩,-⟩:=h
 exact ⟨es,clock,h1⟩
theorem MapAt.apart {W W':World} {F:Nat→Prop} {m:Option Nat} {n:Nat} {t:T} (h:MapAt W m n t) (ha:Apart F W W') (hF:∀ M,m=some M→¬ F M):MapAt W' m n t:=by
 have hl:=h.lt
 match m,h with
 | none,h=>exact h
 | some M,⟨D,⟨es,clock,h1,h2⟩,h3⟩=>exact ⟨D,⟨es,clock,(ha.block M (hl M rfl) (hF M rfl)).trans h1,h2⟩,h3⟩
theorem MapAt.look {W:World} {m:Option Nat} {n:Nat} {t:T} (h:MapAt W m n t) {k:Nat} (hk:k≤255) :
 (Instr.lookup 145 (.map m) (.int .u8 (k:Nat)) true).run Tryz.prog W = .ok (.tuple #[.int .u16 ((tat t k).getD 0:Nat),.bool (tat t k).isSome]) W:=by
 match m,h with
 | none,h=>
  rw [h k]
  exact look_nil true keyU8 Tryz.underlying145 (zeroU16 W) (keyOfU8 hk)
 | some M,⟨D,h1,h2⟩=>
  obtain ⟨v,ps,hrun,hv⟩:=h1.look_ok keyU8 Tryz.underlying145 (zeroU16 W) (plainElem_int Tryz.underlying42 (a:=0) (by decide)) (keyOfU8 hk)
  rw [hrun]
  obtain ⟨h3,h4⟩:=h2 k
  obtain ⟨a,rfl,ha,-⟩:=plainElem_int_inv Tryz.underlying42 hv
  simp only [Prod.mk.injEq] at ha
  have ha1:=ha.1
  cases ht:tat t k with
  | none=>
   rw [ht] at h3
   rw [h3]
   rw [atKey_of_not_has h3] at ha1
   obtain rfl:(0:Int)=a:=by injection ha1 with e;injection e
   rfl
  | some v=>
   rw [ht] at h3
   rw [h3]
   have h5:=(h4 v ht).2
   unfold u16D at h5
   rw [show ((0:Nat):Int)=0 from rfl] at h5
   rw [h5] at ha1
   obtain rfl:((v:Nat):Int)=a:=by injection ha1 with e;injection e
   rfl
def RepB (b:Nat) (m:Option Nat) (k:Nat):Prop:=k=b∨m=some k
structure RepIn (W:World) (b:Nat) (m:Option Nat) (t:T) (n k:Nat):Prop where
 at_:W.heap[b]? = some (.cells #[.map m,.int .i64 (n:Nat)] 147 (0,0))
 len:t.length=8
 mp:MapAt W m k t
section
variable {W W':World} {b:Nat} {m:Option Nat} {t:T} {n k:Nat}
theorem RepIn.lt (h:RepIn W b m t n k):b < W.heap.size:=(Array.getElem?_eq_some_iff.1 h.at_).1
theorem RepIn.apart {F:Nat→Prop} (h:RepIn W b m t n k) (ha:Apart F W W') (hF:∀ q,RepB b m q→¬ F q):RepIn W' b m t n k:=
 ⟨(ha.block b h.lt (hF b (.inl rfl))).trans h.at_,h.len,h.mp.apart ha fun M e=>hF M (.inr e)⟩
theorem RepIn.below (h:RepIn W b m t n k) (hb:Below W.heap.size W W'):RepIn W' b m t n k:=h.apart (F:=fun _=>False) (Apart.of_below' hb) (fun _ _ h=>h)
theorem RepIn.c0 (h:RepIn W b m t n k):W.cell? ⟨b,0,none⟩=some (.map m):=za0 h.at_ 0 rfl
end
def repV (b:Nat):Value:=.pointer (some ⟨b,0,none⟩)
def cmdVals (c:Cmd):List Value:=[.int .u8 (c.kind:Nat),.int .u8 (c.key:Nat),.int .u16 (c.val:Nat),.int .u16 (c.old:Nat)]
def cmdV14 (c:Cmd):Value:=.agg #[.int .u8 (c.kind:Nat),.int .u8 (c.key:Nat),.int .u16 (c.val:Nat),.int .u16 (c.old:Nat)]
structure CmdIn (c:Cmd):Prop where
 kind:c.kind≤255
 key:c.key≤255
 val:c.val < 65536
 old:c.old < 65536
def errN (n:Nat):Value:=if n=0 then .nilIface else .iface 92 (.int .i64 (n:Nat))
open Go.RowKit RepP Go.Maps
set_option maxRecDepth 100000
def NewP14 (w:World) (e:Ending) (w':World):Prop:=e = .returned (repV w.heap.size)∧RepIn w' w.heap.size none new 0 0∧Below w.heap.size w w'∧w'.heap.size=w.heap.size + 1
theorem zJ0 (w:World):Calls Tryz.prog 28 #[] w (NewP14 w):=by
 have HF:Hid (NewP14 w (.returned (repV w.heap.size)) (w.alloc (.cells #[.map none,.int .i64 0] 147))):=Lib.hid ⟨rfl,⟨heap_alloc_new w _,zL2,new_at⟩,(Below.refl _ w).alloc (Nat.le_refl _) _,by simp⟩
 unfold repV at HF
 go_enter Tryz.func28,Tryz.ntmps28
 go_wp2_with fail
 go_ret
 exact HF.out
def askV (o:Option Nat):Value:=.tuple #[.int .u16 (o.getD 0:Nat),errN (if o.isSome then 0 else 17)]
def AskP14 (o:Option Nat) (w:World) (e:Ending) (w':World):Prop:=e = .returned (askV o)∧w'=w
theorem rask_any (w:World) (b:Nat) (m:Option Nat) (t:T) (n k:Nat) (h:RepIn w b m t n k) (key:Nat) (hk:key≤255):Calls Tryz.prog 101 #[repV b,.int .u8 (key:Nat)] w (AskP14 (tat t key) w):=by
 have k0:=h.c0
 have hl:=h.mp.look hk
 clear h hk
 generalize tat t key=o at *
 unfold repV
 cases o with
 | none=>
  simp only [Option.getD_none,Option.isSome_none] at hl
  have HF:Hid (AskP14 none w (.returned (.tuple #[.int .u16 0,.iface 92 (.int .i64 17)])) w):=Lib.hid ⟨rfl,rfl⟩
  go_enter Tryz.func101,Tryz.ntmps101
  go_wp2_with fail
  go_ret2
  exact HF.out
 | some v=>
  simp only [Option.getD_some,Option.isSome_some] at hl
  have HF:Hid (AskP14 (some v) w (.returned (.tuple #[.int .u16 (v:Nat),.nilIface])) w):=Lib.hid ⟨rfl,rfl⟩
  go_enter Tryz.func101,Tryz.ntmps101
  go_wp2_with fail
  go_ret2
  exact HF.out
end Go.Proofs.YtfgpfmhjnccccaaGreatDoor
