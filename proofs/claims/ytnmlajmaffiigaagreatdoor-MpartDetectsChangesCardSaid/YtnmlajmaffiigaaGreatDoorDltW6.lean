/- The walk over the reference's encoding of differences. -/
import Derived.Test.YtnmlajmaffiigaaGreatDoorDlt
import Derived.Test.YtnmlajmaffiigaaGreatDoorGr
set_option linter.constructorNameAsVariable false
set_option maxRecDepth 100000
set_option maxHeartbeats 8000000
open Go Go.Proofs Go.Proofs.YtnmlajmaffiigaaGreatDoor Go.P
namespace Go.DL
open RowKit VB VarM BP RL
def wmx(u:List Nat):Nat:=u.foldl (fun a x=>max a (wid x)) 0
theorem Cm7:∀(u:List Nat)(a:Nat),u.foldl (fun a x=>max a (wid x)) (wid a)=wid (u.foldl max a)
 | [],_=>rfl
 | x::u,a=>by rw[List.foldl_cons,List.foldl_cons,←Ew3,Cm7 u]
theorem Dh7{u:List Nat}(h:u≠[]):wmx u=wid (gr u):=by
 have:=Cm7 u 0
 rw[Av8,Fd1 h] at this
 exact this
theorem Ed4{u:List Nat}{j x:Nat}(h:u[j]?=some x):wmx (u.take (j+1))=max (wmx (u.take j)) (wid x):=An4 _ 0 h
theorem wmx_le{u:List Nat}(h:∀x∈u,x<18446744073709551616)(j:Nat):wmx (u.take j)<=64:=by
 by_cases e:u.take j=[]
 ·rw[e];decide
 ·rw[Dh7 e];exact Bb7 (h _ (List.mem_of_mem_take (Dt3 e)))
theorem Bm9{u:List Nat}{j x:Nat}(h:u[j]?=some x):u.take (j+1)=u.take j++[x]:=by rw[List.take_add_one,h];rfl
theorem Di4{v m:Int}{o:Nat}(Aa:m<=v)(hv:v<=9223372036854775807)(hm:-9223372036854775808<=m/\m<=9223372036854775807)(ho:(v-m).toNat=o):IntKind.u64.wrap (wrap64 (v-m))=(o:Int):=by
 rw[IntKind.wrap_u64];unfold wrap64;omega
end Go.DL
namespace Go.P
open RowKit VB VarM BP RL DL
theorem Bz2(v:Value)(l:List Int)(B:Nat)(w:World)(hr:RdV (Value.int .i64) w B v l)(hB:B<=w.heap.size)(hi:I64 l):
   Calls Tryz.prog 167 #[v] w (RetB (.string (str (encX l))) w):=by
 obtain⟨A,c,rfl,Dn,Ct,Bo⟩:=hr
 have hr:RdV (Value.int .i64) w B (.slice A l.length c) l:=⟨A,c,rfl,Dn,Ct,Bo⟩
 unfold maxLen at Ct
 by_cases h4:4096<l.length
 ·rw[Cu3 h4]
  have h0:(((l.length:Nat):Int)==0)=false:=beq_eq_false_iff_ne.2 (by omega)
  clear hr Bo hi
  go_enter Tryz.func167,Tryz.ntmps167
  go_wp2
  go_ret
  exact RetB.mk rfl (Q2 _ _)
 obtain⟨N,hN⟩:∃N,l.length=N:=⟨_,rfl⟩
 rw[hN] at hr Dn h4
 by_cases hn0:N=0
 ·subst hn0
  obtain rfl:l=[]:=List.eq_nil_of_length_eq_zero hN
  clear hr Bo hi
  go_enter Tryz.func167,Tryz.ntmps167
  go_wp2
  go_ret
  exact RetB.mk rfl (Q2 _ _)
 have Eh:1<=N:=by omega
 obtain⟨z,Bl⟩:∃z,l[0]?=some z:=⟨_,Q7 (by omega)⟩
 obtain⟨ad,rfl,Ee,Dh⟩:=Bo 0 z Bl
 rw[Ce1] at Dh
 have hz:=hi.at Bl
 have Co:encX l=Aa4 (Ai4 z).toNat++Ce7 (df l):=by
  cases l with
  | nil=>simp at Bl
  | cons a r=>
    simp at Bl;subst Bl
    exact Cj4 (by rw[hN];omega)
 rw[hN,Co]
 have Cy:(df l).length=N-1:=by rw[Cu7,hN]
 have Cl:=Cu8 l
 have Du:=fun{i x y}(h1:l[i]?=some x)(h2:l[i+1]?=some y)=>df_at h1 h2
 generalize df l=D at *
 have Cr:(Aa4 (Ai4 z).toNat++Ce7 D).length<=77834:=by
  have h1:=Aa5 (zig_lt hz)
  have h2:=Bv2 _ D (Q1 _) Cl
  rw[Q5];omega
 obtain⟨zz,Cn,De,Df⟩:=Bq9 hz
 have HZ:=fun w=>Ax1 z w hz.1 hz.2
 rw[Cn] at HZ
 rw[De] at Cr⊢
 have Cs:=fun w=>Hd (HZ w)
 have Dc:=fun w=>Hd (Ac5 zz w Df)
 have h0:((N:Int)==0)=false:=beq_eq_false_iff_ne.2 (by omega)
 clear Bo Co hz Bl Cn De HZ hn0 hi
 generalize hH:Aa4 zz=H at *
 generalize hT:H++Ce7 D=T at Cr
 have HT:=Hd hT;have HR:=Hd hr;have HN:=Hd hN;have HDL:=Hd Cy;have HDI:=Hd Cl
 have Cj:=fun i x y h1 h2=>Hd (@Du i x y h1 h2)
 clear hT hr hN Cy Cl Du hH Df
 go_enter Tryz.func167,Tryz.ntmps167
 go_wp2_with(first
  | (go_at_call 134;(with_reducible refine(Cs _).out.mono ?_);rintro e w' ⟨rfl,rfl⟩)
  | (go_at_call 48;(with_reducible refine(Dc _).out.mono ?_);rintro e w3 ⟨rfl,hb⟩))
 go_loopw[3,4] (fun v i wr=>∃(bs:List UInt8)(k:Nat),v=.string (str bs)/\i=.int .i64 (k:Int)/\1<=k/\k<=N+32/\bs++Ce7 (D.drop (k-1))=T/\Below w.heap.size w wr) (fun _ i _=>N+40-(intOf i).toNat)
 case atStart=>exact⟨_,1,rfl,rfl,Q1 _,by omega,HT.out,hb⟩
 case round=>
  clear hb Cs Dc Dh
  obtain⟨bs,k,rfl,rfl,Ed,Eg,hs,Aq⟩:=hrel
  by_cases hlt:k<N
  ·obtain⟨F,hF⟩:∃F:Nat,k+32=F:=⟨_,rfl⟩
   have Cq:(k:Int)+32=(F:Int):=by omega
   have Bi:D.drop (k-1)≠[]:=List.ne_nil_of_length_pos (by rw[List.length_drop,HDL.out];omega)
   rw[Cj5 Bi,←List.append_assoc,List.drop_drop] at hs
   have Cv:k-1+32=F-1:=by omega
   rw[Cv] at hs
   have Aj:=Cf4 Bi
   have Ap:=Bu3 (HDI.out.drop (k-1)) 32
   have By:((D.drop (k-1)).take 32).length=min 32 (N-k):=by rw[List.length_take,List.length_drop,HDL.out];omega
   have Bt:=HR.out.below (Aq.mono hB)
   have Cc:∀m x y,k<=m->m<F->l[m-1]?=some x->l[m]?=some y->((D.drop (k-1)).take 32)[m-k]?=some (wrap64 (y-x)):=fun m x y h1 h2 h3 h4=>by
    rw[List.getElem?_take,if_pos (by omega),List.getElem?_drop,show k-1+(m-k)=m-1 from by omega]
    exact(Cj _ _ _ h3 (by rw[show m-1+1=m from by omega];exact h4)).out
   generalize (D.drop (k-1)).take 32=d at *
   have Ei:0<d.length:=List.length_pos_iff.2 Aj
   obtain⟨y0,Bz⟩:∃y,l[k]?=some y:=⟨_,Q7 (by rw[HN.out];exact hlt)⟩
   obtain⟨x0,Ci⟩:∃x,l[k-1]?=some x:=⟨_,Q7 (by rw[HN.out];omega)⟩
   obtain⟨_,e1,_,Ba⟩:=Bt.at Bz
   cases e1
   obtain⟨_,e1,_,Ay⟩:=Bt.at Ci
   cases e1
   have Cp:=Cc k x0 y0 (Q1 _) (by omega) Ci Bz
   rw[Nat.sub_self] at Cp
   have Cz:d.headD 0=wrap64 (y0-x0):=by cases d<;>simp_all
   have Cw:d.foldl min (wrap64 (y0-x0))=lst d:=by rw[←Cz];rfl
   generalize hQ:wrap64 (y0-x0)=q at *
   have Ec:=Br0 (y0-x0)
   rw[hQ] at Ec
   have Bn:=Cs1 Ap Aj
   have Bu:=Ay2 d
   have Bj:=Bt4 Aj
   have Ac:=Dp5 Ap Aj
   have Di:=Ew4 Ap Aj
   have Dj:=Bt1 (l:=Ay3 d) Di (by rw[Bu,By];omega) (Dp4 d)
   have Dk:wmx (Ay3 d)=wd d:=Dh7 Bj
   have Cu:=fun i x(h:d[i]?=some x)=>Fa2 h
   have Bf:=Ak6 (Ay3 d) (wd d)
   have h8:=Fb0 (c:=d.length) Di
   rw[Bu] at Bf
   have Db:=fun x(h:x∈d)=>Dr4 h
   have Cf:Aa4 (Ai4 (lst d)).toNat++[UInt8.ofNat (wd d)]++Ac4 (Ay3 d) (wd d)=blk d:=rfl
   have Bd:=Aa5 (zig_lt Bn)
   obtain⟨zm,Ah,Az,Dd⟩:=Bq9 Bn
   have HZ:=fun w=>Ax1 (lst d) w Bn.1 Bn.2
   rw[Ah] at HZ
   rw[Az] at Cf Bd
   have Ea:=fun{j x}(h:(Ay3 d)[j]?=some x)=>Ed4 h
   have Bw:=fun j=>wmx_le Ac j
   generalize hO:Ay3 d=O at *
   generalize hM:lst d=M at *
   generalize hW:wd d=W at *
   generalize Ch:blk d=bk at *
   have Da:=fun w=>Hd (HZ w)
   have Dm:=fun w=>Hd (Ac5 zm w Dd)
   have Be:=congrArg List.length hs
   rw[Q5,Q5] at Be
   have Bv:=Hd Cw;have HOA':=fun i x h=>Hd (Cu i x h)
   have Bx:=Hd Dj;have HWG:=Hd Dk;have HO64:=Hd Ac
   have Bm:=Hd Cf;have HPL:=Hd Bf;have HOL:=Hd Bu;have HLY:=fun x h=>Hd (Db x h);have HONE:=Hd Bj
   have HS:=Hd hs;have HRD:=Hd Bt;have HTK':=fun m x y h1 h2 h3 h4=>Hd (Cc m x y h1 h2 h3 h4);have HQ:=Hd hQ;have HI:=Hd Ap
   have Aw:=fun j x h=>Hd (@Ea j x h)
   have Dl:=Hd hF;have HTL:=Hd By;have HLEN:=Hd Be
   have Ef:bs.length<=77834:=by omega
   have Dr:=Hd Ah
   have Cx:d.length<=32:=by rw[By];omega
   clear hs Bt Cc Cw Cu Dj Dk Ac Cf Bf Bu Db Bj hO hM hW Ch hQ Cz Cp Ci Bz Cv Bi Aj Ap Ea HZ Ah Az Dd Dr Be hF By
   by_cases hFN:F<=N
   ·have Ar:k<=F/\F<=N/\d.length+k<=F/\F<=d.length+k/\F<=F:=by have:=Dl.out;have:=HTL.out;omega
    obtain⟨Ar,Dv,Dy,Dx,Dt⟩:=Ar
    go_wp2_with fail
    go_region
    go_wp2_with fail
    go_loopw[6,7] (fun a i wk=>∃(x:Int)(m:Nat),a=.int .i64 x/\i=.int .i64 m/\k<=m/\m<=F/\(d.take (m-k)).foldl min q=x/\Below w.heap.size w wk) (fun _ i _=>F-(intOf i).toNat)
    case atStart=>exact⟨q,k,Bg1 HQ.out,rfl,Q1 _,Ar,by rw[Nat.sub_self];rfl,Aq.drew⟩
    case round=>
     clear Ay Ba
     obtain⟨x,m,rfl,rfl,Ah,Az,hx,Aa⟩:=hrel
     have HX:=Hd hx
     clear hx
     by_cases hmE:m<F
     ·obtain⟨yy,Ag⟩:∃y,l[m]?=some y:=⟨_,Q7 (by rw[HN.out];omega)⟩
      obtain⟨xx,Ae⟩:∃x,l[m-1]?=some x:=⟨_,Q7 (by rw[HN.out];omega)⟩
      obtain⟨_,e1,_,Ba⟩:=(HR.out.below (Aa.mono hB)).at Ag
      cases e1
      obtain⟨_,e1,_,Ay⟩:=(HR.out.below (Aa.mono hB)).at Ae
      cases e1
      have Bg:1<=m:=by omega
      have Ai:=(HTK' m xx yy Ah (by omega) Ae Ag).out
      have Ca:=Hd (An4 min q Ai)
      clear Ae Ag Ai
      go_wp2_with fail
      go_region
      go_wp2_with fail
      go_roundw
      case rel=>exact⟨min x (wrap64 (yy-xx)),m+1,Bg1 (by split<;>omega),by go_num,by omega,hmE,by rw[show m+1-k=m-k+1 from by omega,Ca.out,HX.out],Aa.drew⟩
      case measure=>simp[intOf]<;>omega
     ·have hx:x=M:=by rw[←HX.out,←Bv.out,List.take_of_length_le (by omega)]
      subst hx
      clear HX Bv
      go_wp2_with fail
      clear hmE
      go_loopw[8,9,10] (fun v b i wk=>∃(U:List Nat)(y m:Nat),b=.int .i64 y/\i=.int .i64 m/\k<=m/\m<=F/\OwnN .u64 96 wk w.heap.size v U/\U=O.take (m-k)/\y=wmx (O.take (m-k))/\Below w.heap.size w wk) (fun _ _ i _=>F-(intOf i).toNat)
      case atStart=>exact⟨[],0,k,rfl,rfl,Q1 _,Ar,OwnN.nil _ _ _ _,by rw[Nat.sub_self];rfl,by rw[Nat.sub_self];rfl,Aa⟩
      case round=>
       clear Aa
       rename_i mOld _ _ _
       clear Ah Az
       obtain⟨U,y,m,rfl,rfl,Ah,Az,Ab,hU,hy,Aa⟩:=hrel
       have Dp:U.length<=32:=by rw[hU,List.length_take,HOL.out];omega
       have Ds:y<=64:=by rw[hy];exact Bw _
       have HU:=Hd hU;have HY:=Hd hy
       clear hU hy
       by_cases hmE:m<F
       ·obtain⟨yy,Ag⟩:∃y,l[m]?=some y:=⟨_,Q7 (by rw[HN.out];omega)⟩
        obtain⟨xx,Ae⟩:∃x,l[m-1]?=some x:=⟨_,Q7 (by rw[HN.out];omega)⟩
        obtain⟨_,e1,_,Ba⟩:=(HR.out.below (Aa.mono hB)).at Ag
        cases e1
        obtain⟨_,e1,_,Ay⟩:=(HR.out.below (Aa.mono hB)).at Ae
        cases e1
        have Bg:1<=m:=by omega
        have Ai:=(HTK' m xx yy Ah (by omega) Ae Ag).out
        have Bq:=(HLY _ (List.mem_of_getElem? Ai)).out
        have Au:=(HOA' _ _ Ai).out
        have Br:=Hd (Aw _ _ Au).out
        have Bs:=Hd (Bm9 Au)
        have Ac:=HO64.out _ (List.mem_of_getElem? Au)
        obtain⟨o,ho⟩:∃o:Nat,(wrap64 (yy-xx)-x).toNat=o:=⟨_,rfl⟩
        rw[ho] at Br Bs Ac
        have Bp:=Br0 (yy-xx)
        have hE:=Di4 Bq Bp.2 Bn ho
        have HE:=Hd hE
        have Cm:=fun w=>Hd (Ar8 o w Ac)
        have Dw:=Bb7 Ac
        clear Ae Ag Ai Au Bq Bp ho hE
        go_wp2_with fail
        go_region
        rw[HE.out]
        have Ce:=Aa.drew.size
        replace Ab:OwnN .u64 96 wr.drew w.heap.size _ U:=Ab
        replace Aa:=Aa.drew
        clear Ay Ba HE
        generalize wr.drew=Ck at *
        go_wp2_with(first
         | (go_at_call 206;(with_reducible refine(Cm _).out.mono ?_);rintro e w' ⟨rfl,rfl⟩)
         | (at_builtin;refine Br2 rfl _ _ 228 rfl w.heap.size 96 .u64 8 Tryz.underlying228 Tryz.infoU64 _ U rfl (Ab.alloc _) (Ck.heap.size+1) _ [o] rfl (RdN.one _ _ _ _ _ (by decide) (by decide)) (by unfold maxLen;simp;omega) (by simp;omega) (by simp;omega) ?_;intro v3 w3 Ao An _;have hbel3:=(Aa.alloc Ce (.cells #[.int .u64 (o:Int)] 96)).trans An;clear Ab An))
        go_roundw
        case rel=>exact⟨U++[o],max y (wid o),m+1,Bg1 (by split<;>omega),by go_num,by omega,hmE,Ao,by rw[show m+1-k=m-k+1 from by omega,Bs.out,HU.out],by rw[show m+1-k=m-k+1 from by omega,Br.out,HY.out],hbel3⟩
        case measure=>simp[intOf]<;>omega
       ·have Bh:O.take (m-k)=O:=List.take_of_length_le (by rw[HOL.out];omega)
        have Cb:U=O:=by rw[HU.out,Bh]
        have Cg:y=W:=by rw[HY.out,Bh,HWG.out]
        subst Cb;subst Cg
        have Ak:=Ab.read
        have Al:=Hd (Bs5 _ U (y:Nat) _ _ Ak (Q1 _) HO64.out Bx.out)
        clear HU HY Bh Ak HWG Bx HO64 Ab
        go_wp2_with fail
        refine Al.out.mono ?_;rintro e w3 ⟨rfl,An⟩
        have Ax:=Aa0 Aa An
        have Bf:=HPL.out
        have Ad:=congrArg List.length Bm.out
        rw[Q5,Q5] at Ad
        simp only[Q6,Q8] at Ad
        clear Al An hmE
        go_wp2_with fail
        have Dz:IntKind.u8.wrap (y:Int)=(y:Int):=by simp[IntKind.wrap,IntKind.bits,IntKind.signed];omega
        have Bc:=fun(W:World)m=>Ae8 (P:=Tryz.prog) 41 9 5 Tryz.underlying41 Tryz.underlying5 Tryz.underlying9 W (y:Int) m
        have Bk:=fun(W:World)m=>Ap5 (P:=Tryz.prog) 41 9 5 Tryz.underlying41 Tryz.underlying5 Tryz.underlying9 W (y:Int) m
        have Af:=fun(W:World)(g:Nat)m h=>Aj3 (P:=Tryz.prog) 41 9 5 Tryz.underlying41 Tryz.underlying5 Tryz.underlying9 W g (y:Int) m h
        simp only[Int.toNat_natCast] at Bc Bk Af
        have Dq:=fun w=>Ag1 (P:=Tryz.prog) (Aa4 zm) [UInt8.ofNat y] (by simp only[Q6,Q8];omega) w
        have Cd:=fun w=>Ag1 (P:=Tryz.prog) (Aa4 zm++[UInt8.ofNat y]) (Ac4 U y) (by rw[Q5];simp only[Q6,Q8];omega) w
        rw[Bm.out] at Cd
        have Eb:=fun w=>Ag1 (P:=Tryz.prog) bs bk (by omega) w
        have Bb:=Hd Af
        clear Bm Bd Bf Af h8 Ad HPL HOL HLY HONE HOA' Aw HTK' HRD HI HQ Bw
        go_region_with(first
         | (go_at_call 134;(with_reducible refine(Da _).out.mono ?_);rintro e w' ⟨rfl,rfl⟩)
         | (go_at_call 48;(with_reducible refine(Dm _).out.mono ?_);rintro e w4 ⟨rfl,As⟩;try have hcv4:=fun m=>Bb.out w4 w3.heap.size m ((As.cell (by simp)).trans (Ar3 w3 _ _))))
        all_goals
         go_wp2_with fail
         go_roundw
         case rel=>exact⟨bs++bk,F,rfl,(by first | rfl | exact Bg1 Cq),by omega,by omega,HS.out,(by first
          | exact Aa0 (Ax.alloc Ax.size (.cells #[.int .u8 (y:Int)] 5)).drew As
          | exact(Aa0 Ax.drew As).alloc (Aa0 Ax.drew As).size (.cells #[.int .u8 (y:Int)] 5))⟩
         case measure=>simp[intOf]<;>omega
   ·have Ar:k<=N/\N<=N/\d.length+k<=N/\N<=d.length+k/\N<=F:=by have:=Dl.out;have:=HTL.out;omega
    obtain⟨Ar,Dv,Dy,Dx,Dt⟩:=Ar
    go_wp2_with fail
    go_region
    go_wp2_with fail
    go_loopw[6,7] (fun a i wk=>∃(x:Int)(m:Nat),a=.int .i64 x/\i=.int .i64 m/\k<=m/\m<=N/\(d.take (m-k)).foldl min q=x/\Below w.heap.size w wk) (fun _ i _=>N-(intOf i).toNat)
    case atStart=>exact⟨q,k,Bg1 HQ.out,rfl,Q1 _,Ar,by rw[Nat.sub_self];rfl,Aq.drew⟩
    case round=>
     clear Ay Ba
     obtain⟨x,m,rfl,rfl,Ah,Az,hx,Aa⟩:=hrel
     have HX:=Hd hx
     clear hx
     by_cases hmE:m<N
     ·obtain⟨yy,Ag⟩:∃y,l[m]?=some y:=⟨_,Q7 (by rw[HN.out];omega)⟩
      obtain⟨xx,Ae⟩:∃x,l[m-1]?=some x:=⟨_,Q7 (by rw[HN.out];omega)⟩
      obtain⟨_,e1,_,Ba⟩:=(HR.out.below (Aa.mono hB)).at Ag
      cases e1
      obtain⟨_,e1,_,Ay⟩:=(HR.out.below (Aa.mono hB)).at Ae
      cases e1
      have Bg:1<=m:=by omega
      have Ai:=(HTK' m xx yy Ah (by omega) Ae Ag).out
      have Ca:=Hd (An4 min q Ai)
      clear Ae Ag Ai
      go_wp2_with fail
      go_region
      go_wp2_with fail
      go_roundw
      case rel=>exact⟨min x (wrap64 (yy-xx)),m+1,Bg1 (by split<;>omega),by go_num,by omega,hmE,by rw[show m+1-k=m-k+1 from by omega,Ca.out,HX.out],Aa.drew⟩
      case measure=>simp[intOf]<;>omega
     ·have hx:x=M:=by rw[←HX.out,←Bv.out,List.take_of_length_le (by omega)]
      subst hx
      clear HX Bv
      go_wp2_with fail
      clear hmE
      go_loopw[8,9,10] (fun v b i wk=>∃(U:List Nat)(y m:Nat),b=.int .i64 y/\i=.int .i64 m/\k<=m/\m<=N/\OwnN .u64 96 wk w.heap.size v U/\U=O.take (m-k)/\y=wmx (O.take (m-k))/\Below w.heap.size w wk) (fun _ _ i _=>N-(intOf i).toNat)
      case atStart=>exact⟨[],0,k,rfl,rfl,Q1 _,Ar,OwnN.nil _ _ _ _,by rw[Nat.sub_self];rfl,by rw[Nat.sub_self];rfl,Aa⟩
      case round=>
       clear Aa
       rename_i mOld _ _ _
       clear Ah Az
       obtain⟨U,y,m,rfl,rfl,Ah,Az,Ab,hU,hy,Aa⟩:=hrel
       have Dp:U.length<=32:=by rw[hU,List.length_take,HOL.out];omega
       have Ds:y<=64:=by rw[hy];exact Bw _
       have HU:=Hd hU;have HY:=Hd hy
       clear hU hy
       by_cases hmE:m<N
       ·obtain⟨yy,Ag⟩:∃y,l[m]?=some y:=⟨_,Q7 (by rw[HN.out];omega)⟩
        obtain⟨xx,Ae⟩:∃x,l[m-1]?=some x:=⟨_,Q7 (by rw[HN.out];omega)⟩
        obtain⟨_,e1,_,Ba⟩:=(HR.out.below (Aa.mono hB)).at Ag
        cases e1
        obtain⟨_,e1,_,Ay⟩:=(HR.out.below (Aa.mono hB)).at Ae
        cases e1
        have Bg:1<=m:=by omega
        have Ai:=(HTK' m xx yy Ah (by omega) Ae Ag).out
        have Bq:=(HLY _ (List.mem_of_getElem? Ai)).out
        have Au:=(HOA' _ _ Ai).out
        have Br:=Hd (Aw _ _ Au).out
        have Bs:=Hd (Bm9 Au)
        have Ac:=HO64.out _ (List.mem_of_getElem? Au)
        obtain⟨o,ho⟩:∃o:Nat,(wrap64 (yy-xx)-x).toNat=o:=⟨_,rfl⟩
        rw[ho] at Br Bs Ac
        have Bp:=Br0 (yy-xx)
        have hE:=Di4 Bq Bp.2 Bn ho
        have HE:=Hd hE
        have Cm:=fun w=>Hd (Ar8 o w Ac)
        have Dw:=Bb7 Ac
        clear Ae Ag Ai Au Bq Bp ho hE
        go_wp2_with fail
        go_region
        rw[HE.out]
        have Ce:=Aa.drew.size
        replace Ab:OwnN .u64 96 wr.drew w.heap.size _ U:=Ab
        replace Aa:=Aa.drew
        clear Ay Ba HE
        generalize wr.drew=Ck at *
        go_wp2_with(first
         | (go_at_call 206;(with_reducible refine(Cm _).out.mono ?_);rintro e w' ⟨rfl,rfl⟩)
         | (at_builtin;refine Br2 rfl _ _ 228 rfl w.heap.size 96 .u64 8 Tryz.underlying228 Tryz.infoU64 _ U rfl (Ab.alloc _) (Ck.heap.size+1) _ [o] rfl (RdN.one _ _ _ _ _ (by decide) (by decide)) (by unfold maxLen;simp;omega) (by simp;omega) (by simp;omega) ?_;intro v3 w3 Ao An _;have hbel3:=(Aa.alloc Ce (.cells #[.int .u64 (o:Int)] 96)).trans An;clear Ab An))
        go_roundw
        case rel=>exact⟨U++[o],max y (wid o),m+1,Bg1 (by split<;>omega),by go_num,by omega,hmE,Ao,by rw[show m+1-k=m-k+1 from by omega,Bs.out,HU.out],by rw[show m+1-k=m-k+1 from by omega,Br.out,HY.out],hbel3⟩
        case measure=>simp[intOf]<;>omega
       ·have Bh:O.take (m-k)=O:=List.take_of_length_le (by rw[HOL.out];omega)
        have Cb:U=O:=by rw[HU.out,Bh]
        have Cg:y=W:=by rw[HY.out,Bh,HWG.out]
        subst Cb;subst Cg
        have Ak:=Ab.read
        have Al:=Hd (Bs5 _ U (y:Nat) _ _ Ak (Q1 _) HO64.out Bx.out)
        clear HU HY Bh Ak HWG Bx HO64 Ab
        go_wp2_with fail
        refine Al.out.mono ?_;rintro e w3 ⟨rfl,An⟩
        have Ax:=Aa0 Aa An
        have Bf:=HPL.out
        have Ad:=congrArg List.length Bm.out
        rw[Q5,Q5] at Ad
        simp only[Q6,Q8] at Ad
        clear Al An hmE
        go_wp2_with fail
        have Dz:IntKind.u8.wrap (y:Int)=(y:Int):=by simp[IntKind.wrap,IntKind.bits,IntKind.signed];omega
        have Bc:=fun(W:World)m=>Ae8 (P:=Tryz.prog) 41 9 5 Tryz.underlying41 Tryz.underlying5 Tryz.underlying9 W (y:Int) m
        have Bk:=fun(W:World)m=>Ap5 (P:=Tryz.prog) 41 9 5 Tryz.underlying41 Tryz.underlying5 Tryz.underlying9 W (y:Int) m
        have Af:=fun(W:World)(g:Nat)m h=>Aj3 (P:=Tryz.prog) 41 9 5 Tryz.underlying41 Tryz.underlying5 Tryz.underlying9 W g (y:Int) m h
        simp only[Int.toNat_natCast] at Bc Bk Af
        have Dq:=fun w=>Ag1 (P:=Tryz.prog) (Aa4 zm) [UInt8.ofNat y] (by simp only[Q6,Q8];omega) w
        have Cd:=fun w=>Ag1 (P:=Tryz.prog) (Aa4 zm++[UInt8.ofNat y]) (Ac4 U y) (by rw[Q5];simp only[Q6,Q8];omega) w
        rw[Bm.out] at Cd
        have Eb:=fun w=>Ag1 (P:=Tryz.prog) bs bk (by omega) w
        have Bb:=Hd Af
        clear Bm Bd Bf Af h8 Ad HPL HOL HLY HONE HOA' Aw HTK' HRD HI HQ Bw
        go_region_with(first
         | (go_at_call 134;(with_reducible refine(Da _).out.mono ?_);rintro e w' ⟨rfl,rfl⟩)
         | (go_at_call 48;(with_reducible refine(Dm _).out.mono ?_);rintro e w4 ⟨rfl,As⟩;try have hcv4:=fun m=>Bb.out w4 w3.heap.size m ((As.cell (by simp)).trans (Ar3 w3 _ _))))
        all_goals
         go_wp2_with fail
         go_roundw
         case rel=>exact⟨bs++bk,F,rfl,(by first | rfl | exact Bg1 Cq),by omega,by omega,HS.out,(by first
          | exact Aa0 (Ax.alloc Ax.size (.cells #[.int .u8 (y:Int)] 5)).drew As
          | exact(Aa0 Ax.drew As).alloc (Aa0 Ax.drew As).size (.cells #[.int .u8 (y:Int)] 5))⟩
         case measure=>simp[intOf]<;>omega
  ·have Dg:D.drop (k-1)=[]:=List.drop_eq_nil_of_le (by rw[HDL.out];omega)
   rw[Dg,Be8,List.append_nil] at hs
   have HS:=Hd hs;clear hs Dg
   go_wp2
   go_ret
   exact RetB.mk (by rw[HS.out];rfl) Aq
end Go.P
