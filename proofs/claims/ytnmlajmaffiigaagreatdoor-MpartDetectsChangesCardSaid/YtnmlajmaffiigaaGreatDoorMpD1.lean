/- Texts of one part, joined. -/
import Derived.Test.YtnmlajmaffiigaaGreatDoorMpa
import Derived.Test.YtnmlajmaffiigaaGreatDoorMpb
import Derived.Test.YtnmlajmaffiigaaGreatDoorGa
import Derived.Test.YtnmlajmaffiigaaGreatDoorShelf
import Derived.Test.YtnmlajmaffiigaaGreatDoorZoW3
import Derived.Test.YtnmlajmaffiigaaGreatDoorBt3
set_option linter.constructorNameAsVariable false
set_option maxRecDepth 100000
set_option maxHeartbeats 2000000
open Go Go.Proofs Go.Proofs.YtnmlajmaffiigaaGreatDoor Go.P
namespace Go.MP
open RowKit VB VarM VS VL CK RS SC MK ZN
theorem Tail.word{F G:ByteArray}{k:Nat}(h:Tail F G k):Ac6 G 0=Ac6 F k:=by
 unfold Ac6
 rw[h.bN,h.bN,h.bN,h.bN]
 rfl
theorem Eu9{P:Program}{t:TypeId}(h:P.underlying t=some .string){s X:ByteArray}{a b:Nat}(Aa:a<=b)(hb:b<=s.size)(hX:s.extract a b=X)(w:World):
   (Instr.slice t (.string s) (some (.int .i64 (a:Int))) (some (.int .i64 (b:Int))) none).run P w=.ok (.string X) w:=by
 have:=run_slice_string (P:=P) w t s .i64 .i64 (a:Int) (b:Int) h (by omega) (by omega) (by omega)
 rw[Int.toNat_natCast,Int.toNat_natCast,hX] at this
 exact this
theorem Fd0{s:ByteArray}:Lib.hasPrefix s.data.toList mkB=decide (s.extract 0 4=str mkB):=by
 have h:s.extract 0 4=str (s.data.toList.take 4):=by rw[Aa8,List.drop_zero]
 rw[h]
 unfold Lib.hasPrefix
 rw[Bool.eq_iff_iff,List.isPrefixOf_iff_prefix,decide_eq_true_iff]
 constructor
 ·rintro⟨r,hr⟩;rw[←hr];rfl
 ·intro e
  have e':s.data.toList.take 4=mkB:=congrArg (fun s:ByteArray=>s.data.toList) e
  exact⟨s.data.toList.drop 4,by rw[←e'];exact List.take_append_drop _ _⟩
theorem Fc9{s:ByteArray}(h4:4<=s.size):Lib.hasSuffix s.data.toList mkB=decide (s.extract (s.size-4) s.size=str mkB):=by
 have hl:s.data.toList.length=s.size:=Aa1 s
 have h:s.extract (s.size-4) s.size=str (s.data.toList.drop (s.size-4)):=by rw[Aa8,List.take_of_length_le (by rw[List.length_drop];omega)]
 rw[h]
 unfold Lib.hasSuffix
 rw[Bool.eq_iff_iff,List.isSuffixOf_iff_suffix,decide_eq_true_iff]
 constructor
 ·rintro⟨r,hr⟩
  have Aa:r.length=s.size-4:=by
   have:=congrArg List.length hr
   rw[Q5,hl,show mkB.length=4 from rfl] at this
   omega
  rw[←Aa,←hr,List.drop_left]
 ·intro e
  have e':s.data.toList.drop (s.size-4)=mkB:=congrArg (fun s:ByteArray=>s.data.toList) e
  exact⟨s.data.toList.take (s.size-4),by rw[←e'];exact List.take_append_drop _ _⟩
def divV(file:ByteArray):Value:=.tuple #[.string (if Ap6 file=0 then file.extract 4 (Be7 file) else⟨#[]⟩),.string (if Ap6 file=0 then At9 file else⟨#[]⟩),.int .i64 (Ap6 file:Nat)]
theorem Ay7{file:ByteArray}{e:Nat}(h:Ap6 file=e)(h0:e≠0):divV file=.tuple #[.string ⟨#[]⟩,.string ⟨#[]⟩,.int .i64 (e:Nat)]:=by
 unfold divV;rw[h,if_neg h0,if_neg h0]
theorem Dx4{file:ByteArray}(h:Ap6 file=0):divV file=.tuple #[.string (file.extract 4 (Be7 file)),.string (At9 file),.int .i64 0]:=by
 unfold divV;rw[h,if_pos rfl,if_pos rfl];rfl
theorem Dx3{S F k:Nat}(hF:F=S-8)(Aa:12<=S)(hS:S<=140737488351232)(hk:k<4294967296):
   wrap64 ((S:Int)-8)=(F:Int)/\IntKind.i64.wrap ((S:Int)-8)=(F:Int)/\wrap64 (k:Int)=(k:Int)/\IntKind.i64.wrap (k:Int)=(k:Int)/\wrap64 (12+(k:Int))=((12+k:Nat):Int)/\IntKind.i64.wrap (12+(k:Int))=((12+k:Nat):Int):=
 ⟨by unfold wrap64;omega,(IntWalk.i64_in _ ⟨by omega,by omega⟩).trans (by omega),by unfold wrap64;omega,IntWalk.i64_in _ ⟨by omega,by omega⟩,by unfold wrap64;omega,(IntWalk.i64_in _ ⟨by omega,by omega⟩).trans (by omega)⟩
theorem De1{F k A B:Nat}(hA:A=F-k)(hB:B=F-4)(hk:k<=F)(h4:4<=F)(hS:F<=140737488351232):
   wrap64 ((F:Int)-(k:Int))=(A:Int)/\IntKind.i64.wrap ((F:Int)-(k:Int))=(A:Int)/\wrap64 ((F:Int)-4)=(B:Int)/\IntKind.i64.wrap ((F:Int)-4)=(B:Int):=
 ⟨by unfold wrap64;omega,(IntWalk.i64_in _ ⟨by omega,by omega⟩).trans (by omega),by unfold wrap64;omega,(IntWalk.i64_in _ ⟨by omega,by omega⟩).trans (by omega)⟩
end Go.MP
namespace Go.P
open RowKit VB VarM BP VS VL SC CK Go.ST MK RS ZN MP CR
theorem De0(file:ByteArray)(W:World)(hs:file.size<=140737488351232):Calls Tryz.prog 103 #[.string file] W (RetB (divV file) W):=by
 by_cases h12:file.size<12
 ·have he:Ap6 file=10:=by unfold Ap6;rw[if_pos h12]
  rw[Ay7 he (by decide)]
  have hd:decide ((file.size:Int)<12)=true:=Q4 (by omega)
  have Bh:decide (file.size<12)=true:=Q4 h12
  clear he h12
  go_enter Tryz.func103,Tryz.ntmps103
  go_wp2_with fail
  refine bodyPost_ret (v:=.tuple #[.string ⟨#[]⟩,.string ⟨#[]⟩,.int .i64 10]) (by simp[results,Tryz.results103,go_sem]) rfl ?_
  exact RetB.mk rfl (Q2 _ _)
 obtain⟨S,hS⟩:∃S,file.size=S:=⟨_,rfl⟩
 rw[hS] at h12 hs
 have hd:decide ((S:Int)<12)=false:=Q3 (by omega)
 have Bh:decide (S<12)=false:=Q3 h12
 obtain⟨F,hF⟩:∃F,F=S-8:=⟨_,rfl⟩
 have Ai:Tail file (file.extract F S) F:=⟨by omega,by rw[hS]⟩
 have Ab:=Ed3 file F
 have Aa:=fun w=>Bj2 (file.extract F S) w (by rw[Ai.size];omega)
 rw[Ai.word] at Aa
 obtain⟨k,hk⟩:∃k,Ac6 file F=k:=⟨_,rfl⟩
 rw[hk] at Aa Ab
 have U:=Hd (Dx3 hF (by omega) (by omega) Ab)
 have Af:=Hd Aa
 have Bn:(F:Int)<=(S:Int):=by omega
 have Bl:F<=S:=by omega
 have Ad:=Hd (fun(h:S<k+12)=>show Ap6 file=10 by unfold Ap6;rw[hS,←hF,hk,if_neg (by omega),if_pos h])
 have Ak:=Hd (fun(h:¬S<k+12)(h2:file.extract 0 4≠str mkB\/file.extract (S-4) S≠str mkB\/k<8)=>show Ap6 file=2 by unfold Ap6;rw[hS,←hF,hk,if_neg (by omega),if_neg h,if_pos h2])
 have Al:=Hd (fun(h:¬S<k+12)(h2:¬(file.extract 0 4≠str mkB\/file.extract (S-4) S≠str mkB\/k<8))(h3:Ac6 file (S-12)≠Ap1 (file.extract (S-8-k) (S-12)).data.toList)=>show Ap6 file=9 by unfold Ap6;rw[hS,←hF,hk,if_neg (by omega),if_neg h,if_neg h2,hF,if_pos h3])
 have An:=Hd (fun(h:¬S<k+12)(h2:¬(file.extract 0 4≠str mkB\/file.extract (S-4) S≠str mkB\/k<8))(h3:¬Ac6 file (S-12)≠Ap1 (file.extract (S-8-k) (S-12)).data.toList)=>show Ap6 file=0 by unfold Ap6;rw[hS,←hF,hk,if_neg (by omega),if_neg h,if_neg h2,hF,if_neg h3])
 have Ay:=Hd (@Fd0 file);have HSF:=Hd (@Fc9 file (by omega))
 rw[hS] at HSF
 by_cases hb:S<k+12
 ·rw[Ay7 (Ad.out hb) (by decide)]
  have Bi:decide ((S:Int)<12+(k:Int))=true:=Q4 (by omega)
  have As:decide (S<12+k)=true:=Q4 (by omega)
  clear Ad Ak Al An hb Ai hk hF h12 hs Aa Ab
  obtain⟨u1,u2,u3,u4,u5,u6⟩:=U.out
  clear U
  go_enter Tryz.func103,Tryz.ntmps103
  go_wp2_with(go_at_call 104;(with_reducible refine(Af.out _).mono ?_);rintro e w7 ⟨rfl,Ah⟩)
  refine bodyPost_ret (v:=.tuple #[.string ⟨#[]⟩,.string ⟨#[]⟩,.int .i64 10]) (by simp[results,Tryz.results103,go_sem]) rfl ?_
  exact RetB.mk rfl (by assumption)
 have Bi:decide ((S:Int)<12+(k:Int))=false:=Q3 (by omega)
 have As:decide (S<12+k)=false:=Q3 (by omega)
 have HH:=Hd hb
 have HP:=fun w=>Hd (Tryz.strings_HasPrefix file ⟨#[77,80,84,49]⟩ w)
 have HQ:=fun w=>Hd (Tryz.strings_HasSuffix file ⟨#[77,80,84,49]⟩ w (by omega))
 rw[show(⟨#[77,80,84,49]⟩:ByteArray).data.toList=mkB from rfl,Ay.out] at HP
 rw[show(⟨#[77,80,84,49]⟩:ByteArray).data.toList=mkB from rfl,HSF.out] at HQ
 by_cases hm:file.extract 0 4≠str mkB\/file.extract (S-4) S≠str mkB\/k<8
 ·rw[Ay7 (Ak.out hb hm) (by decide)]
  have Bj:file.extract 0 4≠str mkB\/(file.extract 0 4=str mkB/\file.extract (S-4) S≠str mkB)\/(file.extract 0 4=str mkB/\file.extract (S-4) S=str mkB/\k<8):=by
   by_cases e1:file.extract 0 4=str mkB
   ·by_cases e2:file.extract (S-4) S=str mkB
    ·rcases hm with h | h | h
     ·exact absurd e1 h
     ·exact absurd e2 h
     ·exact .inr (.inr ⟨e1,e2,h⟩)
    ·exact .inr (.inl ⟨e1,e2⟩)
   ·exact .inl e1
  have h8:=fun(h:k<8)=>(show decide ((k:Int)<8)=true/\decide (k<8)=true from⟨Q4 (by omega),Q4 h⟩)
  have H8:=Hd h8
  clear Ad Ak Al An hb Ai hk hF h12 hs Aa Ab hm h8 HH Ay HSF
  obtain⟨u1,u2,u3,u4,u5,u6⟩:=U.out
  clear U
  rcases Bj with e1 | ⟨e1,e2⟩ | ⟨e1,e2,e3⟩
  ·have d1:decide (file.extract 0 4=str mkB)=false:=Q3 e1
   simp only[d1] at HP
   clear e1 d1 HQ H8
   go_enter Tryz.func103,Tryz.ntmps103
   go_wp2_with(first | (go_at_call 104;(with_reducible refine(Af.out _).mono ?_);rintro e w7 ⟨rfl,Ah⟩) | (go_at_call 142;(with_reducible refine(HP _).out.mono ?_);rintro e w' ⟨rfl,rfl⟩))
   refine bodyPost_ret (v:=.tuple #[.string ⟨#[]⟩,.string ⟨#[]⟩,.int .i64 2]) (by simp[results,Tryz.results103,go_sem]) rfl ?_
   exact RetB.mk rfl (by assumption)
  ·have d1:decide (file.extract 0 4=str mkB)=true:=Q4 e1
   have d2:decide (file.extract (S-4) S=str mkB)=false:=Q3 e2
   simp only[d1] at HP
   simp only[d2] at HQ
   clear e1 d1 e2 d2 H8
   go_enter Tryz.func103,Tryz.ntmps103
   go_wp2_with(first | (go_at_call 104;(with_reducible refine(Af.out _).mono ?_);rintro e w7 ⟨rfl,Ah⟩) | (go_at_call 142;(with_reducible refine(HP _).out.mono ?_);rintro e w' ⟨rfl,rfl⟩) | (go_at_call 143;(with_reducible refine(HQ _).out.mono ?_);rintro e w' ⟨rfl,rfl⟩))
   refine bodyPost_ret (v:=.tuple #[.string ⟨#[]⟩,.string ⟨#[]⟩,.int .i64 2]) (by simp[results,Tryz.results103,go_sem]) rfl ?_
   exact RetB.mk rfl (by assumption)
  ·have d1:decide (file.extract 0 4=str mkB)=true:=Q4 e1
   have d2:decide (file.extract (S-4) S=str mkB)=true:=Q4 e2
   simp only[d1] at HP
   simp only[d2] at HQ
   obtain⟨z1,z2⟩:=H8.out e3
   clear e1 d1 e2 d2 H8 e3
   go_enter Tryz.func103,Tryz.ntmps103
   go_wp2_with(first | (go_at_call 104;(with_reducible refine(Af.out _).mono ?_);rintro e w7 ⟨rfl,Ah⟩) | (go_at_call 142;(with_reducible refine(HP _).out.mono ?_);rintro e w' ⟨rfl,rfl⟩) | (go_at_call 143;(with_reducible refine(HQ _).out.mono ?_);rintro e w' ⟨rfl,rfl⟩))
   refine bodyPost_ret (v:=.tuple #[.string ⟨#[]⟩,.string ⟨#[]⟩,.int .i64 2]) (by simp[results,Tryz.results103,go_sem]) rfl ?_
   exact RetB.mk rfl (by assumption)
 have Ar:file.extract 0 4=str mkB/\file.extract (S-4) S=str mkB/\¬k<8:=⟨Classical.not_not.1 fun h=>hm (.inl h),Classical.not_not.1 fun h=>hm (.inr (.inl h)),fun h=>hm (.inr (.inr h))⟩
 have d1:decide (file.extract 0 4=str mkB)=true:=Q4 Ar.1
 have d2:decide (file.extract (S-4) S=str mkB)=true:=Q4 Ar.2.1
 simp only[d1] at HP
 simp only[d2] at HQ
 clear d1 d2
 have h8:=Ar.2.2
 have d3:decide ((k:Int)<8)=false:=Q3 (by omega)
 have Bo:decide (k<8)=false:=Q3 (by omega)
 obtain⟨A,hA⟩:∃A,A=F-k:=⟨_,rfl⟩
 obtain⟨B,hB⟩:∃B,B=F-4:=⟨_,rfl⟩
 have Ao:Be7 file=A:=by unfold Be7;rw[hS,←hF,hk,hA]
 have Bc:At9 file=file.extract A B:=by unfold At9;rw[Ao,hS,show S-12=B by omega]
 have U2:=Hd (De1 hA hB (by omega) (by omega) (by omega))
 have Bb:Tail file (file.extract B S) B:=⟨by omega,by rw[hS]⟩
 have Ae:=fun w=>Bj2 (file.extract B S) w (by rw[Bb.size];omega)
 rw[Bb.word] at Ae
 have Bf:=Hd Ae
 have Bm:(B:Int)<=(S:Int):=by omega
 have Bk:B<=S:=by omega
 obtain⟨FT,Ag⟩:∃FT,file.extract A B=FT:=⟨_,rfl⟩
 obtain⟨DT,Aq⟩:∃DT,file.extract 4 A=DT:=⟨_,rfl⟩
 have Bg:=Hd (fun w=>Eu9 (P:=Tryz.prog) Tryz.underlying9 (show A<=B by omega) (show B<=file.size by omega) Ag w)
 have Be:=Hd (fun w=>(show(Instr.slice 9 (.string file) (some (.int .i64 4)) (some (.int .i64 (A:Int))) none).run Tryz.prog w=.ok (.string DT) w from Eu9 (P:=Tryz.prog) Tryz.underlying9 (show 4<=A by omega) (show A<=file.size by omega) Aq w))
 have Bd:=Hd (fun(vt:Value)(w:World)(h:RdN .u32 w w.heap.size vt tab)=>Bv8 vt tab FT w h Go.CR.tab_lt (by rw[←Ag,ByteArray.size_extract];omega))
 have Ap:=Al.out hb hm
 have Aj:=An.out hb hm
 rw[show S-8-k=A by omega,show S-12=B by omega,Ag] at Ap Aj
 rw[show sumL tab FT.data.toList=Ap1 FT.data.toList from rfl] at Bd
 generalize Ap1 FT.data.toList=CR at *
 generalize Ac6 file B=WN at *
 clear Ad Ak Al An hb Ai hk hF h12 hs Aa Ab HH Ay HSF hm Ar h8 Bb Ae hA hB
 obtain⟨u1,u2,u3,u4,u5,u6⟩:=U.out
 obtain⟨v1,v2,v3,v4⟩:=U2.out
 have c1:=Bg.out
 have c2:=Be.out
 clear U U2 Bg Be
 by_cases hc:WN=CR
 ·have hE:=Aj (fun h=>h hc)
  rw[Dx4 hE,Ao,Bc,Ag,Aq]
  have q1:((WN:Int)!=(CR:Int))=false:=by rw[hc];simp
  have q2:(WN !=CR)=false:=by rw[hc];simp
  clear hE Aj Ap Ao Bc Ag Aq hc
  go_enter Tryz.func103,Tryz.ntmps103
  go_wp2_with(first | (go_at_call 104;(with_reducible refine(Af.out _).mono ?_);rintro e w7 ⟨rfl,Ah⟩) | (go_at_call 142;(with_reducible refine(HP _).out.mono ?_);rintro e w' ⟨rfl,rfl⟩) | (go_at_call 143;(with_reducible refine(HQ _).out.mono ?_);rintro e w' ⟨rfl,rfl⟩))
  (with_reducible refine(Bf.out _).mono ?_);rintro e w8 ⟨rfl,Az⟩
  have Ax:=Hd (show Below W.heap.size W w8 from Aa0 (by assumption) Az)
  go_wp2_with fail
  (with_reducible refine(As8 _).mono ?_)
  rintro e w4 ⟨vt,rfl,Ac,Aw⟩
  have Ba:=Hd (Bd.out vt w4 Ac.read)
  obtain⟨At,ct,rfl,_⟩:=Ac.read
  have Au:=Hd (Aa0 Ax.out Aw)
  go_wp2_with fail
  (with_reducible refine Ba.out.mono ?_)
  rintro e w5 ⟨rfl,rfl⟩
  go_wp2_with fail
  refine bodyPost_ret (v:=.tuple #[.string DT,.string FT,.int .i64 0]) (by simp[results,Tryz.results103,go_sem]) rfl ?_
  exact RetB.mk rfl Au.out
 ·have hE:=Ap hc
  rw[Ay7 hE (by decide)]
  have q1:((WN:Int)!=(CR:Int))=true:=Ab5 (by omega)
  have q2:(WN !=CR)=true:=by simp[hc]
  clear hE Aj Ap Ao Bc Ag Aq hc
  go_enter Tryz.func103,Tryz.ntmps103
  go_wp2_with(first | (go_at_call 104;(with_reducible refine(Af.out _).mono ?_);rintro e w7 ⟨rfl,Ah⟩) | (go_at_call 142;(with_reducible refine(HP _).out.mono ?_);rintro e w' ⟨rfl,rfl⟩) | (go_at_call 143;(with_reducible refine(HQ _).out.mono ?_);rintro e w' ⟨rfl,rfl⟩))
  (with_reducible refine(Bf.out _).mono ?_);rintro e w8 ⟨rfl,Az⟩
  have Ax:=Hd (show Below W.heap.size W w8 from Aa0 (by assumption) Az)
  go_wp2_with fail
  (with_reducible refine(As8 _).mono ?_)
  rintro e w4 ⟨vt,rfl,Ac,Aw⟩
  have Ba:=Hd (Bd.out vt w4 Ac.read)
  obtain⟨At,ct,rfl,_⟩:=Ac.read
  have Au:=Hd (Aa0 Ax.out Aw)
  go_wp2_with fail
  (with_reducible refine Ba.out.mono ?_)
  rintro e w5 ⟨rfl,rfl⟩
  go_wp2_with fail
  refine bodyPost_ret (v:=.tuple #[.string ⟨#[]⟩,.string ⟨#[]⟩,.int .i64 9]) (by simp[results,Tryz.results103,go_sem]) rfl ?_
  exact RetB.mk rfl Au.out
end Go.P

namespace Go.MP
open RowKit VB VarM VS VL CK RS SC MK ZN
theorem Eh7{cs:List Col}{f:Inf}{i:Nat}(hi:i<f.zs.length)(h:okZ cs f.rows i (f.zs.getD i zn0)=false):Dp3 cs f=false:=by
 unfold Dp3
 rw[List.all_eq_false]
 exact⟨i,List.mem_range.2 hi,by rw[h];decide⟩
theorem Fa0{cs:List Col}{f:Inf}(h:∀i,i<f.zs.length->okZ cs f.rows i (f.zs.getD i zn0)=true):Dp3 cs f=true:=by
 unfold Dp3
 rw[List.all_eq_true]
 exact fun i hi=>h i (List.mem_range.1 hi)
theorem Cr1{cs:List Col}{key:Int}{f:Inf}(h:¬1<=f.rows):okI cs key f=false:=by unfold okI;rw[Q3 h];rfl
theorem okI_zs{cs:List Col}{key:Int}{f:Inf}(h:Dp3 cs f=false):okI cs key f=false:=by unfold okI;rw[h];simp
theorem okI_lo{cs:List Col}{key:Int}{f:Inf}(h:¬Ae6 (Be6 cs key) (cs.getD key.toNat col0).nu f.lo=0):okI cs key f=false:=by unfold okI;rw[Q3 h];simp
theorem okI_hi{cs:List Col}{key:Int}{f:Inf}(h:¬Ae6 (Be6 cs key) (cs.getD key.toNat col0).nu f.hi=0):okI cs key f=false:=by unfold okI;rw[Q3 h];simp
theorem Fa1{cs:List Col}{key:Int}{f:Inf}(h1:1<=f.rows)(h2:Dp3 cs f=true)(h3:Ae6 (Be6 cs key) (cs.getD key.toNat col0).nu f.lo=0)(h4:Ae6 (Be6 cs key) (cs.getD key.toNat col0).nu f.hi=0):okI cs key f=decide (Bm0 (Be6 cs key) f.lo f.lq f.hi f.hq<=0):=by
 unfold okI;rw[Q4 h1,h2,Q4 h3,Q4 h4];simp
end Go.MP
namespace Go.P
open RowKit VB VarM BP VS VL SC CK Go.ST MK RS ZN MP
theorem Di1(cs:List Col)(v:Value)(key:Int)(zv:Value)(f:Inf)(W:World)(hr:RdC W W.heap.size v cs)(hz:RdK zonL W W.heap.size zv f.zs)(hc:Ad9 cs key=0)(hl:f.zs.length<=cs.length)(Be:f.rows<=1024):
   Calls Tryz.prog 106 #[.agg #[v,.int .i64 key],Dg4 zv f] W (RetB (.bool (okI cs key f)) W):=by
 obtain⟨c0,Cx,-,k0,k1⟩:=Ad7 hc
 obtain⟨W0,Cd⟩:∃W0,W0=W:=⟨_,rfl⟩
 rw[←Cd] at hr hz⊢
 clear Cd
 have HR:=Hd hr;have HZ:=Hd hz
 have hV:=Var2.new W0 v (.int .i64 key) 24
 have Bz:=(Q2 W0.heap.size W0).alloc (Q1 _) (.cells #[v,.int .i64 key] 24)
 have Br:(W0.alloc (.cells #[v,.int .i64 key] 24)).heap.size=W0.heap.size+1:=by simp
 obtain⟨A,cc,rfl,Dd,Dc,Aq⟩:=hr
 obtain⟨W1,Bu⟩:∃W1,W0.alloc (.cells #[.slice A cs.length cc,.int .i64 key] 24)=W1:=⟨_,rfl⟩
 rw[Bu] at hV Bz Br
 obtain⟨zA,zc,zn,rfl,Bp,-,-⟩:=hz.bds
 have hI:=VarC.new W1 (infC (.slice zA zn zc) f) 53
 have Ag:=(Q2 W1.heap.size W1).alloc (Q1 _) (.cells (infC (.slice zA zn zc) f).toArray 53)
 have Bd:(W1.alloc (.cells (infC (.slice zA zn zc) f).toArray 53)).heap.size=W0.heap.size+2:=by simp[Br]
 unfold Dg4
 unfold infC at hI Ag Bd
 obtain⟨Aa,Af,⟨lb,ln,lt⟩,Aj,⟨qb,qn,qt⟩,Ak⟩:=f
 simp only at hI Ag Bd Bp hl Be⊢
 obtain⟨W2,Bv⟩:∃W2,W1.alloc (.cells #[.int .i64 (Aa:Nat),.slice zA zn zc,.bool lb,.int .i64 ln,.string lt,.int .i64 (Aj:Nat),.bool qb,.int .i64 qn,.string qt,.int .i64 (Ak:Nat)] 53)=W2:=⟨_,rfl⟩
 change VarC (W1.alloc (.cells #[.int .i64 (Aa:Nat),.slice zA zn zc,.bool lb,.int .i64 ln,.string lt,.int .i64 (Aj:Nat),.bool qb,.int .i64 qn,.string qt,.int .i64 (Ak:Nat)] 53)) _ _ at hI
 rw[Bv] at hI Ag Bd
 have Cf:=hV.below Ag (by omega)
 have Ca:=Bz.trans (Ag.mono (by omega))
 have Ad:=Hd (fun(w:World)(h:Below W2.heap.size W2 w)=>show(w.cell? ⟨W0.heap.size,0,none⟩=some (.slice A cs.length cc)/\w.cell? ⟨W0.heap.size,1,none⟩=some (.int .i64 key)) /\
    (w.cell? ⟨W1.heap.size,0,none⟩=some (.int .i64 (Aa:Int))/\w.cell? ⟨W1.heap.size,1,none⟩=some (.slice zA zn zc)/\w.cell? ⟨W1.heap.size,2,none⟩=some (.bool lb)/\w.cell? ⟨W1.heap.size,3,none⟩=some (.int .i64 ln)/\w.cell? ⟨W1.heap.size,4,none⟩=some (.string lt)/\w.cell? ⟨W1.heap.size,5,none⟩=some (.int .i64 (Aj:Int)) /\
    w.cell? ⟨W1.heap.size,6,none⟩=some (.bool qb)/\w.cell? ⟨W1.heap.size,7,none⟩=some (.int .i64 qn)/\w.cell? ⟨W1.heap.size,8,none⟩=some (.string qt)/\w.cell? ⟨W1.heap.size,9,none⟩=some (.int .i64 (Ak:Int)))/\Below W0.heap.size W0 w from by
  obtain⟨v0,v1,-,-⟩:=Cf.step h
  have hi:=hI.step h
  exact⟨⟨v0,v1⟩,⟨hi.c 0 _ rfl,hi.c 1 _ rfl,hi.c 2 _ rfl,hi.c 3 _ rfl,hi.c 4 _ rfl,hi.c 5 _ rfl,hi.c 6 _ rfl,hi.c 7 _ rfl,hi.c 8 _ rfl,hi.c 9 _ rfl⟩,Ca.trans (h.mono (by omega))⟩)
 rw[Br] at Ad
 have Cl:=Hd Bu;have HW2:=Hd Bv;have HH2:=Hd Bd;have HZN:=Hd Bp;have HLZ:=Hd hl
 clear Bp hl hz Bd
 clear hV Bz hI Ag Cf Ca Aq
 by_cases h1:1<=Aa
 case neg=>
  rw[Cr1 h1]
  have hd:decide ((Aa:Int)<1)=true:=Q4 (by omega)
  have Cm:decide (Aa<1)=true:=Q4 (by omega)
  obtain⟨⟨v0,v1⟩,⟨i0,i1,i2,i3,i4,i5,i6,i7,i8,i9⟩,Ai⟩:=Ad.out W2 (Q2 _ _)
  clear h1
  go_enter Tryz.func106,Tryz.ntmps106
  go_wp2_with fail
  go_ret
  exact RetB.mk rfl Ai
 have hd:decide ((Aa:Int)<1)=false:=Q3 (by omega)
 have Cm:decide (Aa<1)=false:=Q3 (by omega)
 have H1:=Hd h1
 clear h1
 obtain⟨⟨v0,v1⟩,⟨i0,i1,i2,i3,i4,i5,i6,i7,i8,i9⟩,Ai⟩:=Ad.out W2 (Q2 _ _)
 have Da:=HH2.out
 go_enter Tryz.func106,Tryz.ntmps106
 go_wp2_with fail
 clear v0 v1 i0 i1 i2 i3 i4 i5 i6 i7 i8 i9 Ai
 go_loopw[4,5,14] (fun _ _ iv wr=>∃j:Nat,iv=.int .i64 j/\j<=zn/\Hid (∀i,i<j->okZ cs Aa i (Af.getD i zn0)=true)/\Below W2.heap.size W2 wr) (fun _ _ iv _=>zn-(intOf iv).toNat)
 case atStart=>exact⟨0,rfl,Nat.zero_le _,Hd (fun i h=>absurd h (Nat.not_lt_zero _)),Q2 _ _⟩
 case round=>
  obtain⟨j,rfl,hj,Bi,Ab⟩:=hrel
  obtain⟨⟨v0,v1⟩,⟨i0,i1,i2,i3,i4,i5,i6,i7,i8,i9⟩,Ai⟩:=Ad.out wr Ab
  have Db:=Ab.size
  by_cases hlt:j<zn
  case neg=>
   obtain rfl:j=zn:=by omega
   have Cv:decide ((j:Int)<(j:Int))=false:=Q3 (by omega)
   obtain⟨k,rfl⟩:∃k:Nat,key=k:=⟨key.toNat,by omega⟩
   have Cq:k<cs.length:=by omega
   have Bw:=HR.out.below Ai
   obtain⟨A2,c2,Bq,-,-,Aq⟩:=Bw
   cases Bq
   obtain⟨Ch,Ax,Ay,Al⟩:=Aq k Cq
   subst Ax
   have Cb:=Hd Al
   have Cg:Dp3 cs ⟨Aa,Af,⟨lb,ln,lt⟩,Aj,⟨qb,qn,qt⟩,Ak⟩=true:=Fa0 fun i hi=>Bi.out i (by rw[HZN.out];exact hi)
   have Ag:=@okI_lo cs (k:Int) ⟨Aa,Af,⟨lb,ln,lt⟩,Aj,⟨qb,qn,qt⟩,Ak⟩
   have Bh:=@okI_hi cs (k:Int) ⟨Aa,Af,⟨lb,ln,lt⟩,Aj,⟨qb,qn,qt⟩,Ak⟩
   have Bg:=@Fa1 cs (k:Int) ⟨Aa,Af,⟨lb,ln,lt⟩,Aj,⟨qb,qn,qt⟩,Ak⟩ H1.out Cg
   unfold Be6 Ae6 at Ag Bh Bg
   rw[Int.toNat_natCast] at Ag Bh Bg
   generalize cs.getD k col0=C at *
   obtain⟨As,Ac,Ar,Ah⟩:=C
   obtain⟨q0,q1,q2,q3⟩:=Cb.out
   simp only at q0 q1 q2 q3 Ag Bh Bg
   have Bx:=fun w=>Hd (Bb3 As Ac Ar Ah lb ln lt w)
   have Bt:=fun w=>Hd (Bb3 As Ac Ar Ah qb qn qt w)
   have By:=fun w=>Hd (Cw9 Ac lb ln lt (Aj:Int) qb qn qt (Ak:Int) w)
   generalize chk Ac Ah lb ln lt=e1 at *
   generalize chk Ac Ah qb qn qt=e2 at *
   generalize Bm0 Ac ⟨lb,ln,lt⟩ (Aj:Int) ⟨qb,qn,qt⟩ (Ak:Int)=cm at *
   have Bk:=Hd Ag;have HB2:=Hd Bh;have HB3:=Hd Bg
   have An:=Ab.alloc Ab.size (.cells #[.string As,.int .i64 Ac,.int .i64 Ar,.bool Ah] 62)
   have Ae:=VarC.new wr [.string As,.int .i64 Ac,.int .i64 Ar,.bool Ah] 62
   change VarC (wr.alloc (.cells #[.string As,.int .i64 Ac,.int .i64 Ar,.bool Ah] 62)) _ _ at Ae
   obtain⟨X,hX⟩:∃X,wr.alloc (.cells #[.string As,.int .i64 Ac,.int .i64 Ar,.bool Ah] 62)=X:=⟨_,rfl⟩
   rw[hX] at An Ae
   have Bc:=Hd An
   have Ba:=Hd Ae
   have Ci:(k:Int)<(cs.length:Int):=by omega
   obtain⟨⟨-,-⟩,⟨x0,x1,x2,x3,x4,x5,x6,x7,x8,x9⟩,Bb⟩:=Ad.out X An
   have p0:=Ae.c 0 _ rfl
   have p1:=Ae.c 1 _ rfl
   have p2:=Ae.c 2 _ rfl
   have p3:=Ae.c 3 _ rfl
   have Bn:=Hd Bb
   clear Cg Ag Bh Bg Aq Al Cb Bi Ab An Ae Ay i2 i3 i4 i5 i6 i7 i8 i9 Ai Bb k0 k1 hc c0 Bu Bv Cl HW2 HZ HR hlt hj
   by_cases he1:e1=0
   case neg=>
    have z1:((e1:Int)!=0)=true:=Ab5 (by omega)
    have HF:=Hd (Bk.out he1)
    clear Bk HB2 HB3 he1 Bt By
    go_wp2_with(go_at_call 149;(with_reducible refine(Bx _).out.mono ?_);rintro e w7 ⟨rfl,Aw⟩)
    go_ret
    exact RetB.mk (by rw[HF.out];rfl) (Aa0 Bn.out Aw)
   subst he1
   by_cases he2:e2=0
   case neg=>
    have z1:((e2:Int)!=0)=true:=Ab5 (by omega)
    have HF:=Hd (HB2.out he2)
    clear Bk HB2 HB3 he2 By
    go_wp2_with(first
     | (go_at_call 149;(with_reducible refine(Bx _).out.mono ?_);rintro e w7 ⟨rfl,Aw⟩;have HB7:=Hd (Aa0 Bc.out Aw);obtain⟨-,⟨-,-,-,-,-,-,x6,x7,x8,x9⟩,-⟩:=Ad.out w7 HB7.out;have hx7:=Ba.out.step Aw;have p0:=hx7.c 0 _ rfl;have p1:=hx7.c 1 _ rfl;have p2:=hx7.c 2 _ rfl;have p3:=hx7.c 3 _ rfl)
     | (go_at_call 149;(with_reducible refine(Bt _).out.mono ?_);rintro e w8 ⟨rfl,Bo⟩;have HB8:=Hd (Aa0 HB7.out Bo)))
    go_ret
    exact RetB.mk (by rw[HF.out];rfl) (Ad.out _ HB8.out).2.2
   subst he2
   have HF:=Hd (HB3.out rfl rfl)
   clear Bk HB2 HB3
   go_wp2_with(first
    | (go_at_call 149;(with_reducible refine(Bx _).out.mono ?_);rintro e w7 ⟨rfl,Aw⟩;have HB7:=Hd (Aa0 Bc.out Aw);obtain⟨-,⟨-,-,-,-,-,-,x6,x7,x8,x9⟩,-⟩:=Ad.out w7 HB7.out;have hx7:=Ba.out.step Aw;have HX7:=Hd hx7;have p0:=hx7.c 0 _ rfl;have p1:=hx7.c 1 _ rfl;have p2:=hx7.c 2 _ rfl;have p3:=hx7.c 3 _ rfl)
    | (go_at_call 149;(with_reducible refine(Bt _).out.mono ?_);rintro e w8 ⟨rfl,Bo⟩;have HB8:=Hd (Aa0 HB7.out Bo);obtain⟨-,⟨-,-,z2,z3,z4,z5,z6,z7,z8,z9⟩,-⟩:=Ad.out w8 HB8.out;have hx8:=HX7.out.step Bo;have r1:=hx8.c 1 _ rfl)
    | (go_at_call 115;(with_reducible refine(By _).out.mono ?_);rintro e w9 ⟨rfl,Cp⟩;have HB9:=Hd (Aa0 HB8.out Cp)))
   go_ret
   exact RetB.mk (by rw[HF.out];rfl) (Ad.out _ HB9.out).2.2
  have Cv:decide ((j:Int)<(zn:Int))=true:=Q4 (by omega)
  have Cn:decide (j<zn)=true:=Q4 hlt
  have Bs:j<cs.length:=by have:=HLZ.out;have:=HZN.out;omega
  have Bj:Af[j]?=some (Af[j]'(by rw[←HZN.out];exact hlt)):=Q7 _
  have Bl:Af.getD j zn0=Af[j]'(by rw[←HZN.out];exact hlt):=by rw[List.getD_eq_getElem?_getD,Bj];rfl
  have Ce:=HZ.out.below Ai
  have Bw:=HR.out.below Ai
  generalize Af[j]'_=z at Bj Bl
  obtain⟨ad,Cr,Ck,Ap⟩:=Ce.at Bj
  have Cz:cs[j]?=some cs[j]:=Q7 Bs
  obtain⟨A2,c2,Bq,-,-,Aq⟩:=Bw
  cases Bq
  obtain⟨Ch,Ax,Ay,Al⟩:=Aq j Bs
  subst Cr
  subst Ax
  obtain⟨q0,q1,q2,q3⟩:=Al
  have Az:=Hd (fun(h:okZ cs Aa j z=false)=>okI_zs (key:=key) (Eh7 (f:=⟨Aa,Af,⟨lb,ln,lt⟩,Aj,⟨qb,qn,qt⟩,Ak⟩) (by rw[←HZN.out];exact hlt) (show okZ cs Aa j (Af.getD j zn0)=false by rw[Bl];exact h)))
  have Bf:=Hd (fun(h:okZ cs Aa j z=true)=>show ∀i,i<j+1->okZ cs Aa i (Af.getD i zn0)=true from fun i hi=>by
   by_cases e:i=j
   ·rw[e,Bl];exact h
   ·exact Bi.out i (by omega))
  obtain⟨Ao,nl,⟨mb,mi,ms⟩,⟨xb,xi,xs⟩⟩:=z
  have y0:wr.cell? (ad.add (j*8))=some (.int .i64 Ao):=Ap.c0 rfl
  have y1:wr.cell? ⟨(ad.add (j*8)).block,(ad.add (j*8)).off+1,none⟩=some (.int .i64 nl):=Ap.ck 1 (by decide) rfl
  have y2:wr.cell? ⟨(ad.add (j*8)).block,(ad.add (j*8)).off+2,none⟩=some (.bool mb):=Ap.ck 2 (by decide) rfl
  have y3:wr.cell? ⟨(ad.add (j*8)).block,(ad.add (j*8)).off+3,none⟩=some (.int .i64 mi):=Ap.ck 3 (by decide) rfl
  have y4:wr.cell? ⟨(ad.add (j*8)).block,(ad.add (j*8)).off+4,none⟩=some (.string ms):=Ap.ck 4 (by decide) rfl
  have y5:wr.cell? ⟨(ad.add (j*8)).block,(ad.add (j*8)).off+5,none⟩=some (.bool xb):=Ap.ck 5 (by decide) rfl
  have y6:wr.cell? ⟨(ad.add (j*8)).block,(ad.add (j*8)).off+6,none⟩=some (.int .i64 xi):=Ap.ck 6 (by decide) rfl
  have y7:wr.cell? ⟨(ad.add (j*8)).block,(ad.add (j*8)).off+7,none⟩=some (.string xs):=Ap.ck 7 (by decide) rfl
  have An:=Ab.alloc Ab.size (.cells #[.int .i64 Ao,.int .i64 nl,.bool mb,.int .i64 mi,.string ms,.bool xb,.int .i64 xi,.string xs] 59)
  have Ae:=VarC.new wr [.int .i64 Ao,.int .i64 nl,.bool mb,.int .i64 mi,.string ms,.bool xb,.int .i64 xi,.string xs] 59
  have Bm:=(Q2 wr.heap.size wr).alloc (Q1 _) (.cells #[.int .i64 Ao,.int .i64 nl,.bool mb,.int .i64 mi,.string ms,.bool xb,.int .i64 xi,.string xs] 59)
  change VarC (wr.alloc (.cells #[.int .i64 Ao,.int .i64 nl,.bool mb,.int .i64 mi,.string ms,.bool xb,.int .i64 xi,.string xs] 59)) _ _ at Ae
  obtain⟨X,hX⟩:∃X,wr.alloc (.cells #[.int .i64 Ao,.int .i64 nl,.bool mb,.int .i64 mi,.string ms,.bool xb,.int .i64 xi,.string xs] 59)=X:=⟨_,rfl⟩
  rw[hX] at An Ae Bm
  have Bc:=Hd An
  have Ba:=Hd (fun(w:World)(h:Below X.heap.size X w)=>show(w.cell? ⟨wr.heap.size,0,none⟩=some (.int .i64 Ao)/\w.cell? ⟨wr.heap.size,1,none⟩=some (.int .i64 nl)/\w.cell? ⟨wr.heap.size,2,none⟩=some (.bool mb)/\w.cell? ⟨wr.heap.size,3,none⟩=some (.int .i64 mi)/\w.cell? ⟨wr.heap.size,4,none⟩=some (.string ms)/\w.cell? ⟨wr.heap.size,5,none⟩=some (.bool xb)/\w.cell? ⟨wr.heap.size,6,none⟩=some (.int .i64 xi)/\w.cell? ⟨wr.heap.size,7,none⟩=some (.string xs)) /\
     At4 w Ch j (cs.getD j col0)/\Below W2.heap.size W2 w from by
   have Au:=Ae.step h
   have h2:=Bm.trans (h.mono Bm.size)
   exact⟨⟨Au.c 0 _ rfl,Au.c 1 _ rfl,Au.c 2 _ rfl,Au.c 3 _ rfl,Au.c 4 _ rfl,Au.c 5 _ rfl,Au.c 6 _ rfl,Au.c 7 _ rfl⟩,(Aq j Bs).elim fun _ hx=>by cases hx.1;exact hx.2.2.below h2 (by have:=hx.2.1;omega),Bc.out.trans (h.mono An.size)⟩)
  have Cj:zn<=12:=by have:=HLZ.out;have:=HZN.out;omega
  have Cs:cs.length<=12:=Cx
  have Ct:(j:Int)<(cs.length:Int):=by omega
  clear Ab An Bj Bl Ap Ce Bi Aq i0 i2 i3 i4 i5 i6 i7 i8 i9 Ai k1 k0 c0 hc Ck Ay Ae Bm v0 v1 q0 q1 q2 q3
  by_cases he:Ao=(Aa:Int)
  case neg=>
   have Cw:(Ao !=(Aa:Int))=true:=Ab5 he
   have HF:=Hd (Az.out (by unfold okZ;rw[Q3 he];rfl))
   clear Az Bf he
   go_wp2_with fail
   clear y0 y1 y2 y3 y4 y5 y6 y7 i1 hX
   obtain⟨⟨x0,x1,x2,x3,x4,x5,x6,x7⟩,⟨q0,q1,q2,q3⟩,Bb⟩:=Ba.out X (Q2 _ _)
   obtain⟨⟨v0,v1⟩,⟨i0,i1,i2,i3,i4,i5,i6,i7,i8,i9⟩,Ai⟩:=Ad.out X Bb
   go_quiet(fail)
   go_wp2_with fail
   go_ret
   exact RetB.mk (by rw[HF.out];rfl) ((Ad.out _ (Go.below_drewN Bc.out _)).2.2)
  subst he
  have Cw:((Aa:Int)!=(Aa:Int))=false:=by simp
  have Cu:(Aa !=Aa)=false:=by simp
  generalize hC:cs.getD j col0=C at *
  obtain⟨As,Ac,Ar,Ah⟩:=C
  have Co:=fun w=>Hd (Cx7 As Ac Ar Ah (Aa:Int) nl mb mi ms xb xi xs w)
  have Cc:okZ cs Aa j ⟨(Aa:Int),nl,⟨mb,mi,ms⟩,⟨xb,xi,xs⟩⟩=Er2 Ac Ah ⟨(Aa:Int),nl,⟨mb,mi,ms⟩,⟨xb,xi,xs⟩⟩:=by unfold okZ;rw[hC];simp
  rw[Cc] at Az Bf
  generalize Er2 Ac Ah ⟨(Aa:Int),nl,⟨mb,mi,ms⟩,⟨xb,xi,xs⟩⟩=ok at *
  clear Cc hC
  go_wp2_with fail
  clear y0 y1 y2 y3 y4 y5 y6 y7 i1 hX
  refine Go.Confl.wp_region_confl (by simp only[List.map_cons,List.map_nil];rfl) (by kernel_rfl) (by kernel_rfl) ?_
  iterate 15
   first
   | (refine Go.Confl.chain_skip (Go.Confl.unwanted_is rfl rfl) ?_)
   | (first | apply Go.Confl.chain_is _ (Go.Confl.wanted_none rfl) | apply Go.Confl.chain_is _ (Go.Confl.wanted_is rfl rfl)
      ·intro b w hr hb K hK
       simp[Go.Confl.readFacts,Go.Confl.tmpsOf,Go.Confl.writerOf,Go.Confl.Is,Op.operands,Call.operands,List.findIdx?,List.findIdx?.go] at hr
       obtain⟨⟨x0,x1,x2,x3,x4,x5,x6,x7⟩,⟨q0,q1,q2,q3⟩,Bb⟩:=Ba.out _ hb
       simp only at q0 q1 q2 q3
       obtain⟨⟨v0,v1⟩,⟨i0,i1,i2,i3,i4,i5,i6,i7,i8,i9⟩,Ai⟩:=Ad.out _ Bb
       go_wp2_with(first
        | (go_at_call 148;(with_reducible refine(Co _).out.mono ?_);rintro e w' ⟨rfl,Cy⟩))
       try(simp only[hr];go_wp2)
       exact hK _ _ rfl (by first | exact Q2 _ _ | assumption))
   simp only[List.nil_append,List.cons_append]
  intro us w hp hb
  simp[Go.Confl.allPosts,Go.Confl.Is] at hp
  simp only[Go.Confl.putsFrom,hp,Act.put,List.setIfInBounds_toArray,List.set_cons_zero,List.set_cons_succ]
  have Bn:=Hd ((Ba.out _ hb).2.2)
  clear hp hb
  cases ok with
  | false=>
    have HF:=Hd (Az.out rfl)
    clear Az Bf
    go_wp2_with fail
    go_ret
    exact RetB.mk (by rw[HF.out];rfl) (Ad.out _ Bn.out).2.2
  | true=>
    have HF:=Hd (Bf.out rfl)
    clear Az Bf
    go_wp2_with fail
    go_roundw
    case rel=>exact⟨j+1,by go_num,hlt,HF,Bn.out⟩
    case measure=>simp[intOf];omega
end Go.P
