/- The walks over the reference: EncodeDict. -/
import Derived.Test.YtnmlajmaffiigaaGreatDoorGe
import Derived.Test.YtnmlajmaffiigaaGreatDoorGr
set_option linter.constructorNameAsVariable false
set_option maxRecDepth 100000
set_option maxHeartbeats 4000000
open Go Go.Proofs Go.Proofs.YtnmlajmaffiigaaGreatDoor Go.P
namespace Go.P
open RowKit VB VarM BP RL DI
theorem Bz1(v:Value)(l:List ByteArray)(B:Nat)(w:World)(hr:RdV Value.string w B v l)(hB:B<=w.heap.size)(hl:l.length<=8796093022208)(hz:∀x∈l,x.size<=maxLen)(hs:(encD l).length<=140737488355328):
   Calls Tryz.prog 165 #[v] w (RetB (.string (str (encD l))) w):=by
 obtain⟨A,c,_,rfl,rfl,Cl,Ca⟩:=hr.bds
 by_cases h4:4096<l.length
 ·have he:=El7 h4
  rw[he]
  have HR:=Hd hr;have HZ:=Hd hz
  clear hr hz hs he
  go_enter Tryz.func165,Tryz.ntmps165
  go_wp2_with fail
  go_ret
  exact RetB.mk rfl (Q2 _ _)
 rw[encD_in (by omega)] at hs⊢
 have Bg:=Hd (Da2 _ l B w hr hB hl)
 have Cn:=srt_len l
 have Ba:=idx_len l
 have Ac:=Dt1 l
 have Bd:=Bg5 (l:=l)
 have Bj:∀x∈srt l,x.size<=maxLen:=fun x hx=>hz x (srt_mem.1 hx)
 clear hr hz
 generalize srt l=S at *
 generalize idx l=I at *
 unfold encW at hs⊢
 have Ag:=fun w'=>Hd (Ac5 S.length w' (by omega))
 have Bm:=wdt_le (k:=S.length) (by omega)
 have Ci:=packed_le (u:=I) (w:=wdt S.length) (by omega) Bm
 have Ay:=Bt1 (l:=I) (w:=wdt S.length) (by omega) (by omega) (fun i hi=>Er6 (Ac i hi))
 have Al:∀x∈I,x<2 ^ 64:=fun x hx=>by have:=Ac x hx;omega
 have Bh:=fun v' w'(h:RdN .u64 w' w'.heap.size v' I)=>Hd (Bs5 v' I (wdt S.length:Nat) _ w' h (Q1 _) Al Ay)
 have Ai:S.length=0->Ac4 I (wdt S.length)=[]:=fun h=>by
  have:I=[]:=List.eq_nil_of_length_eq_zero (by omega)
  rw[this,Da8]
 have Aq:=Hd Ai
 have Be:=Hd (fun m(h:S.length=m+1)w=>(show Calls Tryz.prog 206 #[.int .u64 (m:Int)] w (Ret (.int .i64 (wdt S.length:Nat)) w) by
  have:=Ar8 m w (by omega)
  rwa [show wid m=wdt S.length by unfold wdt;rw[h];rfl] at this))
 clear Ai Ay Al
 generalize Ac4 I (wdt S.length)=P at *
 have Bn:(Aa4 S.length).length<=10:=Aa5 (by omega)
 have Ak:=fun w'=>Au6 (P:=Tryz.prog) (Aa4 S.length++wrds S) P (by rw[Q5] at hs;omega) w'
 rw[Q5,Q5] at hs
 have Cd:(wrds S).length<=140737488355328:=by omega
 generalize hT:Aa4 S.length++wrds S++P=T at *
 have HT:=Hd hT;have HSZ:=Hd Bj;have HIL:=Hd Ac;have HIE:=Hd Ba;have HS0:=Hd Bd
 have Cj:I.length<=4096:=by omega
 clear hT hs Bj Ac Ba Bd
 generalize wdt S.length=d at *
 go_enter Tryz.func165,Tryz.ntmps165
 go_wp2_with fail
 refine Bg.out.mono ?_
 rintro e w1 ⟨v1,v2,rfl,As,Ar,An⟩
 obtain⟨A1,c1,_,rfl,rfl,Cf,Cb⟩:=As.bds
 obtain⟨A2,c2,n2,rfl,Bb,Ck,Ce⟩:=Ar.bds
 clear Bg
 have Bv:=Hd As;have HR2:=Hd Ar;have HN2:=Hd Bb
 have Cm:n2<=4096:=by omega
 clear As Ar Bb
 go_wp2_with fail
 refine(Ag _).out.mono ?_
 rintro e w2 ⟨rfl,Az⟩
 clear Ag
 go_wp2_with fail
 go_loopw[5,27] (fun v i wr=>∃(bs:List UInt8)(j:Nat),v=.string (str bs)/\i=.int .i64 j/\j<=S.length/\bs=Aa4 S.length++wrds (S.take j)/\Below w1.heap.size w1 wr) (fun _ i _=>S.length-(intOf i).toNat)
 case atStart=>exact⟨_,0,rfl,rfl,Nat.zero_le _,by rw[List.take_zero,wrds_nil,List.append_nil],Az⟩
 case round=>
  clear Az
  obtain⟨bs,j,rfl,rfl,hj,Ao,Aa⟩:=hrel
  by_cases hlt:j<S.length
  ·have hx:S[j]?=some S[j]:=Q7 hlt
   have Bf:=HSZ.out _ (List.mem_of_getElem? hx)
   obtain⟨ad,rfl,_,Bc⟩:=(Bv.out.below Aa).at hx
   have Aw:=Dh3 hx
   have Bp:=Bx0 S (j+1)
   clear hx
   generalize S[j]=x at Bc Aw Bf
   unfold maxLen at Bf
   have Ax:bs++wrd x=Aa4 S.length++wrds (S.take (j+1)):=by rw[Ao,Aw,List.append_assoc]
   have Ah:=congrArg List.length Ax
   simp only[Q5,Dr5] at Ah
   have HP:=fun w'=>Hd (Ac5 x.size w' (by omega))
   have Bx:∀w',(Op.stringOp .add (str (Aa4 x.size)) x).run Tryz.prog w'=.ok (.string (str (wrd x))) w':=fun w'=>Au6 (P:=Tryz.prog) (Aa4 x.size) x.data.toList (by rw[Aa1];omega) w'
   have By:=fun w'=>Au6 (P:=Tryz.prog) bs (wrd x) (by rw[Dr5];omega) w'
   have Bl:=Hd Ax
   clear Ax Ah Aw Bp Ao Ak
   go_wp2_with(first
    | (go_at_call 48;(with_reducible refine(HP _).out.mono ?_);rintro e w4 ⟨rfl,hb⟩;replace Aa:=Aa.trans (hb.mono Aa.size);clear hb))
   go_roundw
   case rel=>exact⟨_,j+1,rfl,by go_num,hlt,Bl.out,Aa⟩
   case measure=>simp[intOf]<;>omega
  ·have Af:j=S.length:=by omega
   have Ae:bs=Aa4 S.length++wrds S:=by rw[Ao,Af,List.take_length]
   rw[←Ae] at Ak
   have HF:=Hd Ae
   clear Af Ae Ao
   rcases Nat.eq_zero_or_pos S.length with h0 | h0
   ·have hP:P=[]:=Aq.out h0
    have Bo:=Hd hP
    have hd:((S.length:Int)==0)=true:=beq_iff_eq.2 (by omega)
    have Cc:S.length<=0:=by omega
    clear hP h0
    go_wp2_with fail
    go_ret
    exact RetB.mk (by rw[←HT.out,Bo.out,List.append_nil,←HF.out];rfl) (An.trans (Aa.mono An.size))
   ·have hd:((S.length:Int)==0)=false:=beq_eq_false_iff_ne.2 (by omega)
    obtain⟨m,hm⟩:∃m,S.length=m+1:=⟨S.length-1,by omega⟩
    have Bu:=Hd (Be.out m hm)
    have Cg:(S.length:Int)-1=(m:Int):=by omega
    have Bz:m<=4096:=by omega
    have Bw:=Aa.size
    clear hm h0 Be
    go_wp2_with fail
    go_loopw[8,46] (fun v i wr=>∃(j:Nat),i=.int .i64 j/\j<=I.length/\OwnV nU 96 wr w1.heap.size v (I.take j)/\Below w1.heap.size w1 wr) (fun _ i _=>I.length-(intOf i).toNat)
    case atStart=>exact⟨0,rfl,Nat.zero_le _,OwnV.nil _ _ _ _,Aa⟩
    case round=>
     clear Aa Bw
     obtain⟨j,rfl,hj,Ab,Aa⟩:=hrel
     have hn:=HN2.out
     have Au:=Aa.size
     by_cases hjl:j<I.length
     ·have hx:I[j]?=some I[j]:=Q7 hjl
      have Br:=HIL.out _ (List.mem_of_getElem? hx)
      obtain⟨ad,rfl,_,Ad⟩:=(HR2.out.below Aa).at hx
      have Bi:=Hd (Go.DI.take_snoc hx)
      have Ch:(I.take j).length<=j:=by rw[List.length_take];omega
      have Af:j<n2:=by omega
      clear hx hn
      generalize I[j]=x at Ad Bi Br
      have Bc:wr.cell? (ad.add j)=some (.int .i64 (x:Int)):=Ad
      clear Ad
      go_wp2_with(first
       | (at_builtin;refine Ad0 (f:=nU) (fun _=>rfl) (.int .u64 0) rfl rfl _ _ 228 rfl w1.heap.size 96 8 Tryz.underlying228 Tryz.infoU64 _ (I.take j) rfl (Ab.alloc _) (wr.heap.size+1) _ [x] rfl (RdV.one nU _ x _ _ (by decide) (by decide)) (by unfold maxLen;simp only[Q6,Q8];omega) (by simp only[Q6,Q8];omega) (by simp;omega) ?_;intro v' w' Aj Bk _))
      go_roundw
      case rel=>exact⟨j+1,by go_num,hjl,by rw[Bi.out];exact Aj,(Aa.alloc Au _).trans Bk⟩
      case measure=>simp[intOf]<;>omega
     ·have Af:I.take j=I:=List.take_of_length_le (by omega)
      have Bq:n2<=j:=by omega
      have Ap:=Ab.read
      rw[Af] at Ap
      obtain⟨A5,k5,n5,rfl,-,-,-⟩:=Ab.read.bds
      have Bs:=Hd (Bh _ _ (RdV.toN Ap)).out
      clear Af Ap Ab hn Bh
      go_wp2_with(first
       | (go_at_call 206;(with_reducible refine(Bu.out _).mono ?_);rintro e w' ⟨rfl,rfl⟩)
       | (go_at_call 205;(with_reducible refine Bs.out.mono ?_);rintro e w8 ⟨rfl,Bt⟩))
      go_ret
      exact RetB.mk (by rw[←HT.out,←HF.out];rfl) (Aa0 (An.trans (Aa.mono An.size)) Bt)
end Go.P
namespace Go.VB
open RowKit
end Go.VB
namespace Go.DI
open RowKit VB BP VarM
end Go.DI
namespace Go.P
open RowKit VB VarM BP RL DI
section
variable (s:ByteArray) (hs:s.size<=140737488351232)
include hs
end
end Go.P
namespace Go.DI
open RowKit VB
end Go.DI
namespace Go.P
open RowKit VB VarM BP RL DI KS
section
variable (s:ByteArray) (hs:s.size<=140737488351232)
include hs
end
end Go.P
