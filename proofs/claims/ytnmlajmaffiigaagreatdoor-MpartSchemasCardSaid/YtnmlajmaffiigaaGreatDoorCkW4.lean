/- The walks over package chunk: splitNulls, joinNulls, putNulls, getNulls. -/
import Derived.Test.YtnmlajmaffiigaaGreatDoorCkW1
import Derived.Test.YtnmlajmaffiigaaGreatDoorDlt
import Derived.Test.YtnmlajmaffiigaaGreatDoorGe
import Derived.Test.YtnmlajmaffiigaaGreatDoorGg
import Derived.Test.YtnmlajmaffiigaaGreatDoorGn
import Derived.Deep.CutRange
import Derived.Deep.RegionWith
set_option linter.constructorNameAsVariable false
set_option maxRecDepth 100000
set_option maxHeartbeats 4000000
open Go Go.Proofs Go.Proofs.YtnmlajmaffiigaaGreatDoor Go.P
namespace Go.VS
open RowKit VB
end Go.VS
namespace Go.CK
open RowKit VB VarM VS
theorem Db6{l:List Vl}{j:Nat}{x:Vl}(h:l[j]?=some x):Ae3 (l.take (j+1))=Ae3 (l.take j)++[x.nu]:=Ah6 h
theorem Bm3{l:List Vl}{j:Nat}(h:j<=l.length):(Ae3 (l.take j)).length=j:=Af7 _ h
theorem Ah7{P:Program}(a b:List UInt8)(h:a.length+b.length<=4611686018427387904)(w:World):(Op.stringOp .add (str a) (str b)).run P w=.ok (.string (str (a++b))) w:=by
 rw[run_string_add_sum w (str a) (str b) (by rw[Aa3,Aa3];omega),Ab8]
end Go.CK
namespace Go.P
open RowKit VB VarM BP RL VS VL DI CK NU
theorem Tryz.infBool:(Tryz.prog.info? 4).map (fun i=>(i.zero,i.size,i.bytes))=some (some (.bool false),1,1):=by kernel_rfl
theorem Ej0(v1 v2:Value)(b:List Bool)(l:List Vl)(W:World)(Al:RdV Value.bool W W.heap.size v1 b)(Ao:RdL W W.heap.size v2 l)(hl:b.length<=4096)(hc:l.length=b.count false):
   Calls Tryz.prog 192 #[v1,v2] W (RetVl 49 (Ai5 b l) W):=by
 obtain⟨A1,c1,_,rfl,rfl,Bi,Bh⟩:=Al.bds
 obtain⟨A2,c2,_,rfl,rfl,Bg,Az⟩:=Ao.bds
 have As:=Hd Al;have HR2:=Hd Ao;have HC:=Hd hc;clear Al Ao hc
 have Aw:=List.count_le_length (a:=false) (l:=b)
 have Ax:l.length<=4096:=by rw[HC.out];omega
 clear Aw
 have Af:=Ax3 (P:=Tryz.prog) Tryz.underlying63 Tryz.infVal b.length (by omega) (by unfold maxLen;omega) W
 have Ad:=RowL.made 49 W W.heap.size b.length (Q1 _) (by unfold maxLen;omega)
 have An:Below W.heap.size W (W.alloc (.cells (madeCells #[.bool false,.int .i64 0,.string ⟨#[]⟩] (b.length*3)) 49)):=(Q2 _ _).alloc (Q1 _) _
 generalize (W.alloc (.cells (madeCells #[.bool false,.int .i64 0,.string ⟨#[]⟩] (b.length*3)) 49))=W1 at Ad An Af
 go_enter Tryz.func192,Tryz.ntmps192
 go_wp2
 clear Af
 go_loopw[6,14] (fun u i wr=>∃(j k:Nat)(ls:List Vl),i=.int .i64 j/\u=.int .i64 k/\j<=b.length/\k=(b.take j).count false/\k<=4096/\RowL 49 wr W.heap.size W.heap.size b.length ls/\ls.length=b.length/\ls=Ai5 (b.take j) l++List.replicate (b.length-j) vl0/\Below W.heap.size W wr) (fun _ i _=>b.length-(intOf i).toNat)
 case atStart=>exact⟨0,0,_,rfl,rfl,Nat.zero_le _,rfl,Nat.zero_le _,Ad,List.length_replicate,rfl,An⟩
 case round=>
  clear Ad An
  obtain⟨j,k,ls,rfl,rfl,hj,hk,Bf,Ac,Ae,Ar,Aa⟩:=hrel
  have HL:=Hd Ae;have HLS:=Hd Ar;have HK:=Hd hk;clear Ae Ar hk
  have Ah:=Hd (show(Ai5 (b.take j) l).length=j by rw[Av9,List.length_take];omega)
  by_cases hlt:j<b.length
  ·have Ap:b[j]?=some b[j]:=Q7 hlt
   obtain⟨ad,rfl,_,q0⟩:=(As.out.below Aa).at Ap
   have HJ:=Hd Ap;clear Ap
   generalize b[j]=X at q0 HJ
   replace q0:wr.cell? (ad.add j)=some (.bool X):=q0
   have Ab:=Bk0 HLS.out Ah.out hlt
   obtain⟨k0,k1,k2⟩:=Ac.at Ab
   have Bd:=Ac.frozen (j*3)
   have Bb:=Ac.frozen (j*3+1)
   have Ay:=Ac.frozen (j*3+2)
   have Ba:=Ac.lt.2
   cases X
   ·have Au:k<l.length:=by rw[HC.out,HK.out];exact Eo2 HJ.out
    have Ai:l[k]?=some l[k]:=Q7 Au
    obtain⟨Be,rfl,Bc,p0,p1,p2⟩:=(HR2.out.below Aa).at Ai
    have Aq:=Hd (show l.getD ((b.take j).count false) vl0=l[k] by rw[←HK.out,List.getD_eq_getElem?_getD,Ai];rfl)
    clear Ai
    generalize l[k]=Y at p0 p1 p2 Aq
    obtain⟨yb,yn,ys⟩:=Y
    simp only at p0 p1 p2
    have Ak:=Hd (Ac.put j ⟨yb,yn,ys⟩ Ab)
    have Aj:=Hd (Al4 (x:=(⟨yb,yn,ys⟩:Vl)) HLS.out Ah.out hlt)
    have HW:=Hd (Bm7 (l:=l) HJ.out)
    have Ag:=Hd (As9 HJ.out)
    clear Ac Ab
    go_wp2_with fail
    go_roundw
    case rel=>exact⟨j+1,k+1,_,by go_num,by go_num,hlt,by rw[Ag.out,HK.out];rfl,by omega,Ak.out,by rw[List.length_set];exact HL.out,by rw[Aj.out,HW.out,←Aq.out];rfl,Au5 Aa (Q1 _) _ _ _ _⟩
    case measure=>simp[intOf]<;>omega
   ·have Ak:=Hd (Ac.store j 0 (.bool true) (x:=vl0) (x':=nulV) Ab (by decide) rfl)
    have Aj:=Hd (Al4 (x:=nulV) HLS.out Ah.out hlt)
    have HW:=Hd (Bm7 (l:=l) HJ.out)
    have Ag:=Hd (As9 HJ.out)
    clear Ac Ab
    go_wp2_with fail
    go_roundw
    case rel=>exact⟨j+1,k,_,by go_num,rfl,hlt,by rw[Ag.out,HK.out];rfl,by omega,Ak.out,by rw[List.length_set];exact HL.out,by rw[Aj.out,HW.out];rfl,Aa.setCell (Q1 _) _⟩
    case measure=>simp[intOf]<;>omega
  ·have HF:=Hd (show ls=Ai5 b l by rw[HLS.out,show b.take j=b from List.take_of_length_le (by omega),show b.length-j=0 by omega,List.replicate_zero,List.append_nil])
   go_wp2
   go_ret
   exact RetVl.mk rfl (Ac.own_at HL.out HF.out) Aa
end Go.P
namespace Go.VB
open RowKit
theorem Ba9{w w':World}{row:Option Nat}{b i:Nat}{x:Value}(hg:w.grownBy w' row)(Ab:b<w.heap.size)(Aa:row≠some b)(h:w.cell? ⟨b,i,none⟩=some x):w'.cell? ⟨b,i,none⟩=some x:=by
 rw[World.cell?_of_block (hg.block b Ab (Ne.symm Aa))];exact h
end Go.VB
namespace Go.P
open RowKit VB VarM BP RL VS VL DI CK NU
theorem Ed5{l:List Vl}(h:∀x∈l,Vok x)(j:Nat):∀x∈l.take j,Vok x:=fun x hx=>h x (List.mem_of_mem_take hx)
section
variable (typ:Int) (v:Value) (l:List Vl) (W:World) (hr:RdL W W.heap.size v l) (hl:l.length<=4096) (hv:∀x∈l,Vok x)
include hr hl hv
end
end Go.P
namespace Go.CK
open RowKit VB VS
end Go.CK
namespace Go.P
open RowKit VB VarM BP RL VS VL DI CK NU
end Go.P
namespace Go.CK
open RowKit VB VS
theorem Eq3(w:World)(o:Obj):w.heap.size<(w.alloc o).heap.size:=by simp
theorem u8_of{k:Nat}(h:k<=4):IntKind.u8.wrap (k:Int)=(k:Int):=by rw[IntKind.wrap_u8];omega
end Go.CK
namespace Go.P
open RowKit VB VarM BP RL VS VL DI CK NU
section
variable (nm:ByteArray) (ty sc:Int) (nu:Bool) (v:Value) (l:List Vl) (W:World)
end
end Go.P
