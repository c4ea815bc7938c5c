/- Texts of one part, joined. -/
import Derived.Test.YtnmlajmaffiigaaGreatDoorMpG1
import Derived.Test.YtnmlajmaffiigaaGreatDoorMpb
import Derived.Test.YtnmlajmaffiigaaGreatDoorMpa
set_option linter.constructorNameAsVariable false
set_option maxRecDepth 100000
set_option maxHeartbeats 1000000
open Go Go.Proofs Go.Proofs.YtnmlajmaffiigaaGreatDoor Go.P
namespace Go.MP
open RowKit VB VarM VS VL ZN
theorem Du4(s:ByteArray)(i:Int):(Aa2 s i).1<18446744073709551616:=by
 by_cases h:(Aa2 s i).2.2=0
 ·exact(Bu7 h).2.2
 ·unfold Aa2 at h⊢
  split
  ·show(0:Nat)<_;decide
  ·rename_i ho
   rw[if_neg ho] at h
   generalize Bj7 (s.data.toList.drop i.toNat)=G at *
   obtain⟨a,b,c⟩:=G
   simp only at h⊢
   split
   ·rename_i hc;rw[if_pos hc] at h;exact absurd rfl h
   ·show(0:Nat)<_;decide
def GotN(s:ByteArray)(a:Int)(fl:Bool)(lim n:Nat)(a':Int)(fl':Bool):Prop:=
 n<=lim/\(∀m p,rdN s a lim=some (m,p)->n=m/\a'=p/\fl'=fl)/\(rdN s a lim=none->fl'=true)
theorem GotN.big{s:ByteArray}{a:Int}{fl:Bool}{Aa:Nat}{a':Int}(h:¬(Aa2 s a).1<=Aa):GotN s a fl Aa 0 a' true:=by
 refine⟨Nat.zero_le _,fun m p e=>?_,fun _=>rfl⟩
 unfold rdN at e
 rw[if_neg (fun x=>h x.2)] at e;cases e
theorem GotN.mk{s:ByteArray}{a:Int}{fl:Bool}{Aa:Nat}(h:(Aa2 s a).1<=Aa):
   GotN s a fl Aa (Aa2 s a).1 (if(Aa2 s a).2.2=0 then(Aa2 s a).2.1 else a) (fl || decide ((Aa2 s a).2.2≠0)):=by
 refine⟨h,fun m p e=>?_,fun e=>?_⟩
 ·unfold rdN at e
  by_cases hc:(Aa2 s a).2.2=0
  ·rw[if_pos ⟨hc,h⟩] at e
   cases e
   rw[if_pos hc]
   exact⟨rfl,rfl,by simp[hc]⟩
  ·rw[if_neg (fun x=>hc x.1)] at e;cases e
 ·unfold rdN at e
  by_cases hc:(Aa2 s a).2.2=0
  ·rw[if_pos ⟨hc,h⟩] at e;cases e
  ·simp[hc]
theorem VarC.gb{w w':World}{b g:Nat}{vs:List Value}(h:VarC w b vs)(hg:Go.KV.GB g w w')(hn:b≠g):VarC w' b vs:=
 ⟨fun k u hu=>by rw[World.cell?_of_block (w:=w) (a:=⟨b,k,none⟩) (hg.block b h.lt hn)];exact h.c k u hu,
  fun k hk=>by rw[World.frozen?_of_block (w:=w) (a:=⟨b,k,none⟩) (hg.block b h.lt hn)];exact h.fr k hk,Nat.lt_of_lt_of_le h.lt hg.size⟩
theorem GB.trans{g:Nat}{a b c:World}(h:Go.KV.GB g a b)(h':Go.KV.GB g b c):Go.KV.GB g a c:=
 ⟨h'.os.trans h.os,h'.tape.trans h.tape,h'.output.trans h.output,Nat.le_trans h.size h'.size,fun k hk hn=>(h'.block k (Nat.lt_of_lt_of_le hk h.size) hn).trans (h.block k hk hn)⟩
def GotK(s:ByteArray)(a:Int)(fl:Bool)(v:Vl)(q:Nat)(a':Int)(fl':Bool):Prop:=
 q<=1099511627776/\(∀x m p,rdK s a=some (x,m,p)->v=x/\q=m/\a'=p/\fl'=fl)/\(rdK s a=none->fl'=true)
theorem GotK.mk {s:ByteArray} {a a1 a':Int} {fl f1 f2:Bool} {v:Vl} {q:Nat} (hv:v=⟨(Ag9 s a).nul,(Ag9 s a).n,(Ag9 s a).s⟩) (ha:a1=if(Ag9 s a).e=0 then(Ag9 s a).i else a)
   (hf:f1=(fl || decide ((Ag9 s a).e≠0))) (h:GotN s a1 f1 1099511627776 q a' f2):GotK s a fl v q a' f2:=by
 obtain⟨h1,h2,h3⟩:=h
 unfold GotK rdK rdV
 by_cases hc:(Ag9 s a).e=0
 ·rw[if_pos hc] at ha
  have Aa:f1=fl:=by rw[hf];simp[hc]
  subst ha Aa
  rw[if_pos hc]
  simp only
  refine⟨h1,fun x m p e=>?_,fun e=>?_⟩
  ·cases hr:rdN s (Ag9 s a).i 1099511627776 with
   | none=>rw[hr] at e;cases e
   | some y=>
     obtain⟨m',p'⟩:=y
     rw[hr] at e
     cases e
     obtain⟨e1,e2,e3⟩:=h2 _ _ hr
     exact⟨hv,e1,e2,e3⟩
  ·cases hr:rdN s (Ag9 s a).i 1099511627776 with
   | none=>exact h3 hr
   | some y=>obtain⟨m',p'⟩:=y;rw[hr] at e;cases e
 ·rw[if_neg hc]
  have Aa:f1=true:=by rw[hf];simp[hc]
  subst Aa
  refine⟨h1,fun x m p e=>(by cases e),fun _=>?_⟩
  cases hr:rdN s a1 1099511627776 with
  | none=>exact h3 hr
  | some y=>exact(h2 y.1 y.2 hr).2.2
end Go.MP
namespace Go.P
open RowKit VB VarM BP VS VL SC CK Go.ST MK RS ZN MP
theorem Ba7(g:Nat)(s:ByteArray)(a:Int)(fl:Bool)(Aa:Nat)(w:World)(hv:VarC w g (Bf5 s a fl))(hs:s.size<=maxLen)(hl:Aa<=9223372036854775807)(L:Int)(hL:L=(Aa:Int)):
   Calls Tryz.prog 144 #[.pointer (some ⟨g,0,none⟩),.int .i64 L] w (fun en w'=>∃(n:Nat)(a':Int)(Ae:Bool),en=.returned (.int .i64 (n:Int))/\VarC w' g (Bf5 s a' Ae)/\Go.KV.GB g w w'/\GotN s a fl Aa n a' Ae):=by
 subst hL
 have HT:=Hd (Dj4 g s a fl w hv hs (.func (.func 180) #[] #[]) rfl)
 have HB:=Hd (fun a'(h:¬(Aa2 s a).1<=Aa)=>@GotN.big s a fl Aa a' h)
 have HM:=Hd (@GotN.mk s a fl Aa)
 have Ac:(Aa2 s a).1<18446744073709551616:=Du4 s a
 generalize (if(Aa2 s a).2.2=0 then(Aa2 s a).2.1 else a)=a1 at *
 generalize (fl || decide ((Aa2 s a).2.2≠0))=f1 at *
 generalize (Aa2 s a).1=x at *
 have Aj:IntKind.u64.wrap (Aa:Int)=(Aa:Int):=by simp only[IntKind.wrap,IntKind.bits,IntKind.signed,Bool.false_and,Bool.false_eq_true,if_false,Int.reducePow];omega
 by_cases hle:x<=Aa
 ·have hd:decide ((Aa:Int)<(x:Int))=false:=Q3 (by omega)
  have Af:decide (Aa<x)=false:=Q3 (by omega)
  have Ak:wrap64 (x:Int)=(x:Int):=by unfold wrap64;omega
  have Ai:IntKind.i64.wrap (x:Int)=(x:Int):=IntWalk.i64_in _ ⟨by omega,by omega⟩
  have Ah:=Hd (HM.out hle)
  clear HM HB hv Ac hle
  go_enter Tryz.func144,Tryz.ntmps144
  go_wp2_with(go_at_call 179;(with_reducible refine HT.out.mono ?_);rintro e w7 ⟨rfl,Ab,Ad⟩)
  go_ret
  exact⟨x,a1,f1,rfl,Ab,Ad,Ah.out⟩
 ·have hd:decide ((Aa:Int)<(x:Int))=true:=Q4 (by omega)
  have Af:decide (Aa<x)=true:=Q4 (by omega)
  have Ag:=Hd (fun a'=>HB.out a' hle)
  clear HM HB hv Ac hle
  go_enter Tryz.func144,Tryz.ntmps144
  go_wp2_with(go_at_call 179;(with_reducible refine HT.out.mono ?_);rintro e w7 ⟨rfl,Ab,Ad⟩;have z2:=Ab.fr 2 (show 2<3 by decide);have c2:=Ab.c 2 _ rfl;have HV7:=Hd Ab;have HG7:=Hd Ad;clear Ab Ad)
  go_ret
  exact⟨0,a1,true,rfl,HV7.out.set (k:=2) (show 2<3 by decide) (.bool true),HG7.out.set 2 _,Ag.out a1⟩
theorem Eg1(g:Nat)(s:ByteArray)(a:Int)(fl:Bool)(w:World)(hv:VarC w g (Bf5 s a fl))(hs:s.size<=4611686018427387904):
   Calls Tryz.prog 147 #[.pointer (some ⟨g,0,none⟩)] w (fun en w'=>∃(v:Vl)(q:Nat)(a':Int)(Bc:Bool),en=.returned (.agg #[.bool v.nu,.int .i64 v.n,.string v.s,.int .i64 (q:Int)])/\VarC w' g (Bf5 s a' Bc)/\Go.KV.GB g w w'/\GotK s a fl v q a' Bc):=by
 obtain⟨w0,Az⟩:∃w0,w0=w:=⟨_,rfl⟩
 rw[←Az] at hv⊢
 clear Az
 have Bn:=hv.lt
 have Ai:=VarC.new w0 [.bool false,.int .i64 0,.string ⟨#[]⟩,.int .i64 0] 51
 have Ag:=(Q2 w0.heap.size w0).alloc (Q1 _) (.cells #[.bool false,.int .i64 0,.string ⟨#[]⟩,.int .i64 0] 51)
 have Bj:(w0.alloc (.cells #[.bool false,.int .i64 0,.string ⟨#[]⟩,.int .i64 0] 51)).heap.size=w0.heap.size+1:=by simp
 obtain⟨X,hX⟩:∃X,w0.alloc (.cells #[.bool false,.int .i64 0,.string ⟨#[]⟩,.int .i64 0] 51)=X:=⟨_,rfl⟩
 change VarC (w0.alloc (.cells #[.bool false,.int .i64 0,.string ⟨#[]⟩,.int .i64 0] 51)) _ _ at Ai
 rw[hX] at Ai Ag Bj
 have Ba:=hv.step Ag
 have HT:=Hd (Dj3 g s a fl X Ba hs (.func (.func 182) #[] #[]) rfl)
 have Au:=Hd (fun(a1 a':Int)(f1 f2:Bool)(v:Vl)(q:Nat)=>@GotK.mk s a a1 a' fl f1 f2 v q)
 have HN:=Hd (fun(a1:Int)(f1:Bool)(w:World)(hv:VarC w g (Bf5 s a1 f1))=>Ba7 g s a1 f1 1099511627776 w hv (by unfold maxLen;omega) (by decide) 1099511627776 rfl)
 have Ay:=(Go.KV.GB.refl g w0).of Ag (Q1 _)
 have Bd:=Hd Ai;have HGX:=Hd Ay
 clear hv Ba Ai Ag Ay
 generalize (if(Ag9 s a).e=0 then(Ag9 s a).i else a)=a1 at *
 generalize (fl || decide ((Ag9 s a).e≠0))=f1 at *
 obtain⟨V,hV⟩:∃V:Vl,V=⟨(Ag9 s a).nul,(Ag9 s a).n,(Ag9 s a).s⟩:=⟨_,rfl⟩
 obtain⟨vb,vn,vt⟩:=V
 have Ax:(Ag9 s a).nul=vb:=(congrArg Vl.nu hV).symm
 have Aw:(Ag9 s a).n=vn:=(congrArg Vl.n hV).symm
 have Be:(Ag9 s a).s=vt:=(congrArg Vl.s hV).symm
 rw[Ax,Aw,Be] at HT
 have Bk:=Hd (fun a' f2 q h=>Au.out a1 a' f1 f2 ⟨vb,vn,vt⟩ q hV rfl rfl h)
 clear hV Ax Aw Be Au
 go_enter Tryz.func147,Tryz.ntmps147
 go_wp2_with(go_at_call 183;(with_reducible refine HT.out.mono ?_);rintro e w7 ⟨rfl,Bf,Bg⟩;have HV7:=Hd Bf;have HG7:=Hd Bg;clear Bf Bg)
 have n3:g≠w0.heap.size:=by omega
 have h7:=HG7.out.size
 have Ac:=Hd (VarC.new w7 [.bool vb,.int .i64 vn,.string vt] 49)
 have Ad:=Hd (HV7.out.alloc (.cells #[.bool vb,.int .i64 vn,.string vt] 49))
 have Ae:=Hd ((Bd.out.gb HG7.out (fun e=>n3 e.symm)).alloc (.cells #[.bool vb,.int .i64 vn,.string vt] 49))
 have As:=Hd ((GB.trans HGX.out HG7.out).alloc (.cells #[.bool vb,.int .i64 vn,.string vt] 49))
 have n1:w7.heap.size≠g:=by omega
 have n2:w7.heap.size≠w0.heap.size:=by omega
 obtain⟨X3,Ak⟩:∃X3,w7.alloc (.cells #[.bool vb,.int .i64 vn,.string vt] 49)=X3:=⟨_,rfl⟩
 have Ah:=Ac.out
 change VarC (w7.alloc (.cells #[.bool vb,.int .i64 vn,.string vt] 49)) _ _ at Ah
 rw[Ak] at Ah
 have Ac:=Hd Ah
 rw[Ak] at Ad Ae As⊢
 generalize w7.heap.size=b3 at *
 obtain⟨b2,Ar⟩:∃b2,w0.heap.size=b2:=⟨_,rfl⟩
 rw[Ar] at n2 n3 Ae⊢
 have Bm:g<b2:=by omega
 have Ab:w0.heap.size<=b2:=by omega
 have p0:=Ac.out.c 0 _ rfl
 have p1:=Ac.out.c 1 _ rfl
 have p2:=Ac.out.c 2 _ rfl
 have Bi:=Hd (HN.out a1 f1 X3.drew ⟨fun k u hu=>Ad.out.c k u hu,fun k hk=>Ad.out.fr k hk,Ad.out.lt⟩)
 have Aa:=Hd (show VarC X3.drew b3 _ from⟨fun k u hu=>Ac.out.c k u hu,fun k hk=>Ac.out.fr k hk,Ac.out.lt⟩)
 have Al:=Hd (show VarC X3.drew b2 _ from⟨fun k u hu=>Ae.out.c k u hu,fun k hk=>Ae.out.fr k hk,Ae.out.lt⟩)
 have Ao:=Hd (As.out.drew)
 clear Ah Ad HT HV7 HG7 Bd HGX hX Ak Ar h7
 have q0:X3.drew.cell? ⟨b3,0,none⟩=_:=Aa.out.c 0 _ rfl
 have q1:X3.drew.cell? ⟨b3,1,none⟩=_:=Aa.out.c 1 _ rfl
 have q2:X3.drew.cell? ⟨b3,2,none⟩=_:=Aa.out.c 2 _ rfl
 clear HN
 go_region_with(first
  | (go_at_call 144;(with_reducible refine Bi.out.mono ?_);rintro e w8 ⟨q,a',f2,rfl,Bb,Aj,Af⟩;have HR3:=Hd (Aa.out.gb Aj n1);have HR2:=Hd (Al.out.gb Aj (fun e=>n3 e.symm));have HV8:=Hd Bb;have HG8:=Hd (GB.trans Ao.out Aj);have HGT:=Hd (Bk.out _ _ _ Af);have r0:=HR3.out.c 0 _ rfl;have r1:=HR3.out.c 1 _ rfl;have r2:=HR3.out.c 2 _ rfl;have s0:=HR2.out.c 0 _ rfl;have s1:=HR2.out.c 1 _ rfl;have s2:=HR2.out.c 2 _ rfl;have s3:=HR2.out.c 3 _ rfl;have t0:=HR2.out.fr 0 (show 0<4 by decide);have t1:=HR2.out.fr 1 (show 1<4 by decide);have t2:=HR2.out.fr 2 (show 2<4 by decide);have t3:=HR2.out.fr 3 (show 3<4 by decide);clear Bb Aj Af))
 all_goals
  have An:=HR2.out.putC [.bool vb,.int .i64 vn,.string vt,.int .i64 (q:Int)] 0 (Q1 4)
  have Aq:=HV8.out.oputC (c:=b2) n3 [.bool vb,.int .i64 vn,.string vt,.int .i64 (q:Int)] 0
  have Ap:Go.KV.GB g w0 (putC w8 b2 0 [.bool vb,.int .i64 vn,.string vt,.int .i64 (q:Int)]):=((((HG8.out.setO (b:=b2) Ab 0 _).setO (b:=b2) Ab 1 _).setO (b:=b2) Ab 2 _).setO (b:=b2) Ab 3 _)
  obtain⟨Z,hZ⟩:∃Z,putC w8 b2 0 [.bool vb,.int .i64 vn,.string vt,.int .i64 (q:Int)]=Z:=⟨_,rfl⟩
  rw[hZ] at An Aq Ap
  have Bl:((((w8.setCell ⟨b2,0,none⟩ (.bool vb)).setCell ⟨b2,1,none⟩ (.int .i64 vn)).setCell ⟨b2,2,none⟩ (.string vt)).setCell ⟨b2,3,none⟩ (.int .i64 (q:Int)))=Z:=hZ
  have hm:VarC Z b2 [.bool vb,.int .i64 vn,.string vt,.int .i64 (q:Int)]:=An
  have m0:=hm.c 0 _ rfl
  have m1:=hm.c 1 _ rfl
  have m2:=hm.c 2 _ rfl
  have m3:=hm.c 3 _ rfl
  have Bh:=Hd Aq;have HGZ:=Hd Ap
  clear An Aq Ap hZ hm
  rw[Bl]
  go_wp2_with fail
  refine bodyPost_ret (v:=.agg #[.bool vb,.int .i64 vn,.string vt,.int .i64 (q:Int)]) (by simp[results,Tryz.results147,go_sem,m0,m1,m2,m3]) rfl ?_
  exact⟨⟨vb,vn,vt⟩,q,a',f2,rfl,Bh.out,HGZ.out,HGT.out⟩
end Go.P

namespace Go.MP
open RowKit VB VarM VS VL ZN
theorem GB.grown{g:Nat}{w w':World}(h:Go.KV.GB g w w'):w.grownBy w' (some g):=⟨h.os,h.tape,h.output,h.size,fun k hk hn=>h.block k hk (fun e=>hn (by rw[e]))⟩
theorem Bi0{g base sz n:Nat}{e:TypeId}{v:Value}{xs:List Value}{w w':World}(h:w.ownsRow base e sz v n xs)(hg:Go.KV.GB g w w')(hb:g<base):w'.ownsRow base e sz v n xs:=by
 refine World.ownsRow.kept h (GB.grown hg) ?_
 cases hv:v.ownBlock with
 | none=>exact .inl rfl
 | some b=>exact .inr (fun e=>by have h1:=(World.ownsRow.lt h b hv).1;have h2:b=g:=Option.some.inj e;omega)
section
variable {M:Nat} {G:ByteArray} {D:Nat} {rows:Nat} {ks:List Nat} {zs:List Zn} {k:Nat} {a a':Int} {fl fl':Bool} {n:Nat}
theorem Bs7{i p:Int}{Aa m:Nat}(h:rdN G i Aa=some (m,p)):(Aa2 G i).2.2=0/\(Aa2 G i).1=m/\(Aa2 G i).2.1=p/\m<=Aa:=by
 unfold rdN at h
 split at h
 ·rename_i hc;cases h;exact⟨hc.1,rfl,rfl,hc.2⟩
 ·cases h
theorem Cs3{a0:Int}{j:Nat}:∀{i:Nat},j<=i->∀{Aa:List Nat}{p':Int},ksA G a0 i=some (Aa,p')->∃ks p,ksA G a0 j=some (ks,p)/\ks.sum<=Aa.sum
 | 0,hj,Aa,p',h=>by
   obtain rfl:j=0:=by omega
   exact⟨_,_,h,Q1 _⟩
 | i+1,hj,Aa,p',h=>by
   by_cases e:j=i+1
   ·subst e;exact⟨_,_,h,Q1 _⟩
   ·unfold ksA at h
    cases hr:ksA G a0 i with
    | none=>rw[hr] at h;cases h
    | some y=>
      obtain⟨Ab,p1⟩:=y
      rw[hr] at h
      simp only at h
      split at h
      ·cases h
       obtain⟨ks,p,h1,h2⟩:=Cs3 (show j<=i by omega) hr
       exact⟨ks,p,h1,by rw[List.sum_append];omega⟩
      ·cases h
theorem Cs2{a0 p q:Int}{x:Nat}(h:ksA G a0 k=some (ks,p))(h0:(Aa2 G p).2.2=0)(hx:(Aa2 G p).1=x)(hq:(Aa2 G p).2.1=q):ksA G a0 (k+1)=some (ks++[x],q):=by
 rw[ksA,h]
 simp only
 rw[if_pos h0,hx,hq]
theorem ks_bad{a0:Int}(h:ksA G a0 k=some (ks,a))(hr:rdN G a (D-ks.sum)=none)(hk:k<=M)(hs:ks.sum<=D){Aa:List Nat}{p':Int}(hF:ksA G a0 (M+1)=some (Aa,p')):Aa.sum≠D:=by
 obtain⟨k1,p1,h1,h2⟩:=Cs3 (show k+1<=M+1 by omega) hF
 by_cases h0:(Aa2 G a).2.2=0
 ·rw[Cs2 h h0 rfl rfl] at h1
  cases h1
  unfold rdN at hr
  have Ab:¬(Aa2 G a).1<=D-ks.sum:=fun hle=>by rw[if_pos ⟨h0,hle⟩] at hr;cases hr
  rw[List.sum_append,List.sum_singleton] at h2
  omega
 ·rw[ksA,h] at h1
  simp only at h1
  rw[if_neg h0] at h1
  cases h1
theorem Cm0{a1:Int}{j:Nat}:∀{i:Nat},j<=i->zsA G a1 j=none->zsA G a1 i=none
 | 0,hj,h=>by
   obtain rfl:j=0:=by omega
   exact h
 | i+1,hj,h=>by
   by_cases e:j=i+1
   ·subst e;exact h
   ·rw[zsA,Cm0 (show j<=i by omega) h]
def KInv(M:Nat)(G:ByteArray)(D:Nat)(rows:Nat)(ks:List Nat)(k:Nat)(a:Int)(fl:Bool):Prop:=
 (fl=false->∃a0,rdN G 0 1024=some (rows,a0)/\ksA G a0 k=some (ks,a))/\(fl=true->Ai2 M G D=none)
def ZInv(M:Nat)(G:ByteArray)(D:Nat)(rows:Nat)(ks:List Nat)(zs:List Zn)(k:Nat)(a:Int)(fl:Bool):Prop:=
 (fl=false->∃a0 a1,rdN G 0 1024=some (rows,a0)/\ksA G a0 (M+1)=some (ks,a1)/\zsA G a1 k=some (zs,a))/\(fl=true->Ai2 M G D=none)
def LInv(M:Nat)(G:ByteArray)(D:Nat)(rows:Nat)(ks:List Nat)(zs:List Zn)(lo:Vl)(lq:Nat)(a:Int)(fl:Bool):Prop:=
 (fl=false->∃a0 a1 a2,rdN G 0 1024=some (rows,a0)/\ksA G a0 (M+1)=some (ks,a1)/\zsA G a1 M=some (zs,a2)/\rdK G a2=some (lo,lq,a))/\(fl=true->Ai2 M G D=none)
def HInv(M:Nat)(G:ByteArray)(D:Nat)(rows:Nat)(ks:List Nat)(zs:List Zn)(lo:Vl)(lq:Nat)(hi:Vl)(hq:Nat)(a:Int)(fl:Bool):Prop:=
 (fl=false->∃a0 a1 a2 a3,rdN G 0 1024=some (rows,a0)/\ksA G a0 (M+1)=some (ks,a1)/\zsA G a1 M=some (zs,a2)/\rdK G a2=some (lo,lq,a3)/\rdK G a3=some (hi,hq,a))/\(fl=true->Ai2 M G D=none)
theorem kinv0(g:GotN G 0 false 1024 n a fl):KInv M G D n [] 0 a fl:=by
 obtain⟨-,g1,g2⟩:=g
 cases hr:rdN G 0 1024 with
 | none=>
   refine⟨fun e=>?_,fun _=>by unfold Ai2;rw[hr]⟩
   rw[g2 hr] at e;cases e
 | some y=>
   obtain⟨m,p⟩:=y
   obtain⟨rfl,rfl,rfl⟩:=g1 _ _ hr
   exact⟨fun _=>⟨_,hr,rfl⟩,fun e=>by cases e⟩
theorem Ds1(h:KInv M G D rows ks k a fl)(hk:k<=M)(hs:ks.sum<=D)(g:GotN G a fl (D-ks.sum) n a' fl'):KInv M G D rows (ks++[n]) (k+1) a' fl':=by
 obtain⟨-,g1,g2⟩:=g
 cases fl with
 | true=>
   have hf:fl'=true:=by
    cases hr:rdN G a (D-ks.sum) with
    | none=>exact g2 hr
    | some y=>exact(g1 y.1 y.2 hr).2.2
   subst hf
   exact⟨fun e=>(by cases e),fun _=>h.2 rfl⟩
 | false=>
   obtain⟨a0,h1,h2⟩:=h.1 rfl
   cases hr:rdN G a (D-ks.sum) with
   | none=>
     refine⟨fun e=>(by rw[g2 hr] at e;cases e),fun _=>?_⟩
     unfold Ai2
     rw[h1]
     simp only
     cases hF:ksA G a0 (M+1) with
     | none=>rfl
     | some y=>
       simp only
       rw[if_pos (ks_bad h2 hr hk hs hF)]
   | some y=>
     obtain⟨m,p⟩:=y
     obtain⟨rfl,rfl,rfl⟩:=g1 _ _ hr
     obtain⟨r1,r2,r3,-⟩:=Bs7 hr
     exact⟨fun _=>⟨a0,h1,Cs2 h2 r1 r2 r3⟩,fun e=>by cases e⟩
theorem zinv0(h:KInv M G D rows ks (M+1) a fl):ZInv M G D rows ks [] 0 a fl:=
 ⟨fun e=>by obtain⟨a0,h1,h2⟩:=h.1 e;exact⟨a0,a,h1,h2,rfl⟩,h.2⟩
theorem Dh0(h:ZInv M G D rows ks zs k a fl)(hk:k<M):ZInv M G D rows ks (zs++[(As4 G a).1]) (k+1) (if(As4 G a).2.2=0 then(As4 G a).2.1 else a) (fl || decide ((As4 G a).2.2≠0)):=by
 cases fl with
 | true=>exact⟨fun e=>by simp at e,fun _=>h.2 rfl⟩
 | false=>
   obtain⟨a0,a1,h1,h2,h3⟩:=h.1 rfl
   by_cases hc:(As4 G a).2.2=0
   ·rw[if_pos hc]
    refine⟨fun _=>⟨a0,a1,h1,h2,?_⟩,fun e=>by simp[hc] at e⟩
    rw[zsA,h3]
    simp only
    rw[if_pos hc]
   ·refine⟨fun e=>by simp[hc] at e,fun _=>?_⟩
    have hz:zsA G a1 (k+1)=none:=by
     rw[zsA,h3]
     simp only
     rw[if_neg hc]
    have hM:=Cm0 (show k+1<=M by omega) hz
    unfold Ai2
    rw[h1]
    simp only
    rw[h2]
    simp only
    split
    ·rfl
    ·rw[hM]
theorem Fb6{v:Vl}{q:Nat}(h:ZInv M G D rows ks zs M a fl)(g:GotK G a fl v q a' fl'):LInv M G D rows ks zs v q a' fl':=by
 obtain⟨-,g1,g2⟩:=g
 cases fl with
 | true=>
   have hf:fl'=true:=by
    cases hr:rdK G a with
    | none=>exact g2 hr
    | some y=>exact(g1 y.1 y.2.1 y.2.2 hr).2.2.2
   subst hf
   exact⟨fun e=>(by cases e),fun _=>h.2 rfl⟩
 | false=>
   obtain⟨a0,a1,h1,h2,h3⟩:=h.1 rfl
   cases hr:rdK G a with
   | none=>
     refine⟨fun e=>(by rw[g2 hr] at e;cases e),fun _=>?_⟩
     unfold Ai2
     rw[h1]
     simp only
     rw[h2]
     simp only
     split
     ·rfl
     ·rw[h3]
      simp only
      rw[hr]
   | some y=>
     obtain⟨x,m,p⟩:=y
     obtain⟨rfl,rfl,rfl,rfl⟩:=g1 _ _ _ hr
     exact⟨fun _=>⟨a0,a1,a,h1,h2,h3,hr⟩,fun e=>by cases e⟩
theorem Fc7{lo v:Vl}{lq q:Nat}(h:LInv M G D rows ks zs lo lq a fl)(g:GotK G a fl v q a' fl'):HInv M G D rows ks zs lo lq v q a' fl':=by
 obtain⟨-,g1,g2⟩:=g
 cases fl with
 | true=>
   have hf:fl'=true:=by
    cases hr:rdK G a with
    | none=>exact g2 hr
    | some y=>exact(g1 y.1 y.2.1 y.2.2 hr).2.2.2
   subst hf
   exact⟨fun e=>(by cases e),fun _=>h.2 rfl⟩
 | false=>
   obtain⟨a0,a1,a2,h1,h2,h3,h4⟩:=h.1 rfl
   cases hr:rdK G a with
   | none=>
     refine⟨fun e=>(by rw[g2 hr] at e;cases e),fun _=>?_⟩
     unfold Ai2
     rw[h1]
     simp only
     rw[h2]
     simp only
     split
     ·rfl
     ·rw[h3]
      simp only
      rw[h4]
      simp only
      rw[hr]
   | some y=>
     obtain⟨x,m,p⟩:=y
     obtain⟨rfl,rfl,rfl,rfl⟩:=g1 _ _ _ hr
     exact⟨fun _=>⟨a0,a1,a2,a,h1,h2,h3,h4,hr⟩,fun e=>by cases e⟩
theorem Fc6{lo hi:Vl}{lq hq:Nat}(h:HInv M G D rows ks zs lo lq hi hq a fl)(h0:fl=false)(ha:a=(G.size:Int))(hs:ks.sum=D):Ai2 M G D=some ⟨⟨rows,zs,lo,lq,hi,hq⟩,ks⟩:=by
 obtain⟨a0,a1,a2,a3,h1,h2,h3,h4,h5⟩:=h.1 h0
 unfold Ai2
 rw[h1]
 simp only
 rw[h2]
 simp only
 rw[if_neg (fun h=>h hs),h3]
 simp only
 rw[h4]
 simp only
 rw[h5]
 simp only
 rw[if_pos ha]
theorem Fc8{lo hi:Vl}{lq hq:Nat}(h:HInv M G D rows ks zs lo lq hi hq a fl)(hb:fl=true\/a≠(G.size:Int)\/ks.sum≠D):Ai2 M G D=none:=by
 cases fl with
 | true=>exact h.2 rfl
 | false=>
   obtain⟨a0,a1,a2,a3,h1,h2,h3,h4,h5⟩:=h.1 rfl
   unfold Ai2
   rw[h1]
   simp only
   rw[h2]
   simp only
   split
   ·rfl
   ·rename_i hs
    rw[h3]
    simp only
    rw[h4]
    simp only
    rw[h5]
    simp only
    rw[if_neg]
    intro ha
    rcases hb with h | h | h
    ·cases h
    ·exact h ha
    ·exact hs h
def Aq0(D:ByteArray)(ks:List Nat):List ByteArray:=(List.range ks.length).map fun i=>D.extract (ks.take i).sum (ks.take (i+1)).sum
theorem Cc7(D:ByteArray)(ks:List Nat):(Aq0 D ks).length=ks.length:=by unfold Aq0;rw[List.length_map,List.length_range]
theorem De6(D:ByteArray)(ks:List Nat)(k:Nat):Aq0 D (ks++[k])=Aq0 D ks++[D.extract ks.sum (ks.sum+k)]:=by
 unfold Aq0
 rw[Q5,List.length_singleton,List.range_succ,List.map_append,List.map_singleton]
 congr 1
 ·refine List.map_congr_left fun i hi=>?_
  have:=List.mem_range.1 hi
  rw[List.take_append_of_le_length (by omega),List.take_append_of_le_length (by omega)]
 ·rw[List.take_append_of_le_length (Q1 _),List.take_length,List.take_of_length_le (by rw[Q5,List.length_singleton];exact Q1 _),List.sum_append,List.sum_singleton]
end
end Go.MP

namespace Go.MP
open RowKit VB VarM VS VL SC CK Go.ST MK RS ZN
section
variable {cs:List Col} {key:Int} {file:ByteArray} {o:Opn} {i:Nat}
theorem Dr8{G:ByteArray}{a:Int}:∀{n:Nat}{ks:List Nat}{p:Int},ksA G a n=some (ks,p)->ks.length=n
 | 0,ks,p,h=>by cases h;rfl
 | n+1,ks,p,h=>by
   unfold ksA at h
   cases hr:ksA G a n with
   | none=>rw[hr] at h;cases h
   | some y=>
     obtain⟨k1,p1⟩:=y
     rw[hr] at h
     simp only at h
     split at h
     ·cases h
      rw[Q5,Dr8 hr];rfl
     ·cases h
theorem Dg8{G:ByteArray}{a:Int}:∀{n:Nat}{zs:List Zn}{p:Int},zsA G a n=some (zs,p)->zs.length=n
 | 0,zs,p,h=>by cases h;rfl
 | n+1,zs,p,h=>by
   unfold zsA at h
   cases hr:zsA G a n with
   | none=>rw[hr] at h;cases h
   | some y=>
     obtain⟨k1,p1⟩:=y
     rw[hr] at h
     simp only at h
     split at h
     ·cases h
      rw[Q5,Dg8 hr];rfl
     ·cases h
structure FormOk(m D:Nat)(o:Opn):Prop where
 rows:o.inf.rows<=1024
 zl:o.inf.zs.length=m
 kl:o.ks.length=m+1
 sum:o.ks.sum=D
 lq:o.inf.lq<=1099511627776
 hq:o.inf.hq<=1099511627776
theorem Dn6{G:ByteArray}{p p':Int}{v:Vl}{q:Nat}(h:rdK G p=some (v,q,p')):q<=1099511627776:=by
 unfold rdK at h
 cases hv:rdV G p with
 | none=>rw[hv] at h;cases h
 | some y=>
   obtain⟨v1,p1⟩:=y
   rw[hv] at h
   simp only at h
   cases hn:rdN G p1 1099511627776 with
   | none=>rw[hn] at h;cases h
   | some z=>
     obtain⟨q1,p2⟩:=z
     rw[hn] at h
     cases h
     exact(Bs7 hn).2.2.2
theorem Ct3{m D:Nat}{G:ByteArray}(h:Ai2 m G D=some o):FormOk m D o:=by
 unfold Ai2 at h
 cases h1:rdN G 0 1024 with
 | none=>rw[h1] at h;cases h
 | some y=>
   obtain⟨n,a0⟩:=y
   rw[h1] at h
   simp only at h
   cases h2:ksA G a0 (m+1) with
   | none=>rw[h2] at h;cases h
   | some y=>
     obtain⟨ks,a1⟩:=y
     rw[h2] at h
     simp only at h
     split at h
     ·cases h
     ·rename_i hs
      cases h3:zsA G a1 m with
      | none=>rw[h3] at h;cases h
      | some y=>
        obtain⟨zs,a2⟩:=y
        rw[h3] at h
        simp only at h
        cases h4:rdK G a2 with
        | none=>rw[h4] at h;cases h
        | some y=>
          obtain⟨lo,lq,a3⟩:=y
          rw[h4] at h
          simp only at h
          cases h5:rdK G a3 with
          | none=>rw[h5] at h;cases h
          | some y=>
            obtain⟨hi,hq,a4⟩:=y
            rw[h5] at h
            simp only at h
            split at h
            ·cases h
             exact⟨(Bs7 h1).2.2.2,Dg8 h3,Dr8 h2,Classical.not_not.1 hs,Dn6 h4,Dn6 h5⟩
            ·cases h
theorem Da0{D:Nat}{G:ByteArray}(h:Ba3 cs key G D=some o):Ai2 cs.length G D=some o/\okI cs key o.inf=true:=by
 unfold Ba3 at h
 cases hf:Ai2 cs.length G D with
 | none=>rw[hf] at h;cases h
 | some y=>
   rw[hf] at h
   simp only at h
   split at h
   ·rename_i hk;cases h;exact⟨rfl,hk⟩
   ·cases h
theorem Da1{D:Nat}{G:ByteArray}(h:Ai2 cs.length G D=none):Ba3 cs key G D=none:=by unfold Ba3;rw[h]
theorem Dn4{D:Nat}{G:ByteArray}(h:Ai2 cs.length G D=some o)(h2:okI cs key o.inf=false):Ba3 cs key G D=none:=by unfold Ba3;rw[h];simp[h2]
theorem Ef9{D:Nat}{G:ByteArray}(h:Ai2 cs.length G D=some o)(h2:okI cs key o.inf=true):Ba3 cs key G D=some o:=by unfold Ba3;rw[h];simp[h2]
theorem Do9(h:Ad9 cs key≠0):opn cs key file=(Ad9 cs key,Ec3):=by unfold opn;rw[if_pos h]
theorem Cq3(hc:Ad9 cs key=0)(h:Ap6 file≠0):opn cs key file=(Ap6 file,Ec3):=by unfold opn;rw[if_neg (by simp[hc]),if_pos h]
theorem Cq2(hc:Ad9 cs key=0)(h:Ap6 file=0)(h2:Ac6 (At9 file) 0≠IDN cs key):opn cs key file=(1,Ec3):=by unfold opn;rw[if_neg (by simp[hc]),if_neg (by simp[h]),if_pos h2]
theorem Es9(hc:Ad9 cs key=0)(h:Ap6 file=0)(h2:Ac6 (At9 file) 0=IDN cs key)(h3:Ba3 cs key ((At9 file).extract 4 (At9 file).size) (Be7 file-4)=none):opn cs key file=(2,Ec3):=by
 unfold opn;rw[if_neg (by simp[hc]),if_neg (by simp[h]),if_neg (by simp[h2]),h3]
theorem Do8(hc:Ad9 cs key=0)(h:Ap6 file=0)(h2:Ac6 (At9 file) 0=IDN cs key)(h3:Ba3 cs key ((At9 file).extract 4 (At9 file).size) (Be7 file-4)=some o):opn cs key file=(0,o):=by
 unfold opn;rw[if_neg (by simp[hc]),if_neg (by simp[h]),if_neg (by simp[h2]),h3]
theorem div_ok(h:Ap6 file=0):12<=file.size/\4<=Be7 file/\Be7 file+4<=file.size-12/\(At9 file).size=file.size-12-Be7 file:=by
 unfold Ap6 at h
 split at h
 ·cases h
 ·rename_i h1
  split at h
  ·cases h
  ·rename_i h2
   split at h
   ·cases h
   ·rename_i h3
    have h4:¬Ac6 file (file.size-8)<8:=fun e=>h3 (.inr (.inr e))
    have e:Be7 file=file.size-8-Ac6 file (file.size-8):=rfl
    refine⟨by omega,by omega,by omega,?_⟩
    unfold At9
    rw[ByteArray.size_extract]
    omega
theorem Bi3(h:(opn cs key file).1=0):Ad9 cs key=0/\Ap6 file=0/\FormOk cs.length (Be7 file-4) (opn cs key file).2/\okI cs key (opn cs key file).2.inf=true:=by
 have hc:Ad9 cs key=0:=Classical.byContradiction fun hc=>by rw[Do9 hc] at h;exact hc h
 have hd:Ap6 file=0:=Classical.byContradiction fun hd=>by rw[Cq3 hc hd] at h;exact hd h
 by_cases hi:Ac6 (At9 file) 0=IDN cs key
 ·cases hr:Ba3 cs key ((At9 file).extract 4 (At9 file).size) (Be7 file-4) with
  | none=>rw[Es9 hc hd hi hr] at h;cases h
  | some o=>
    rw[Do8 hc hd hi hr]
    obtain⟨h1,h2⟩:=Da0 hr
    exact⟨hc,hd,Ct3 h1,h2⟩
 ·rw[Cq2 hc hd hi] at h;cases h
def chL(file:ByteArray)(o:Opn):List ByteArray:=(List.range o.ks.length).map (Bd2 file o)
theorem Dz8(file:ByteArray)(o:Opn):(chL file o).length=o.ks.length:=by unfold chL;rw[List.length_map,List.length_range]
theorem chL_at(h:i<o.ks.length):(chL file o)[i]?=some (Bd2 file o i):=by unfold chL;rw[List.getElem?_map,List.getElem?_range h];rfl
theorem Bg3:∀(ks:List Nat)(n:Nat),(ks.take n).sum<=ks.sum
 | [],n=>by simp
 | k::ks,0=>by simp
 | k::ks,n+1=>by
   rw[List.take_succ_cons,List.sum_cons,List.sum_cons]
   have:=Bg3 ks n
   omega
theorem Fe9(h4:4<=Be7 file)(hs:o.ks.sum=Be7 file-4):Aq0 (file.extract 4 (Be7 file)) o.ks=chL file o:=by
 unfold Aq0 chL
 refine List.map_congr_left fun i _=>?_
 have h2:=Bg3 o.ks (i+1)
 unfold Bd2
 rw[Aa8,Aa8,Aa8]
 congr 1
 show((str _).data.toList.drop _).take _=_
 have e:∀l:List UInt8,(str l).data.toList=l:=fun l=>rfl
 rw[e]
 rw[List.drop_take,List.take_take,List.drop_drop]
 congr 1
 omega
theorem En5(h:(At8 cs file o i).2=0):(At8 cs file o i).1.length=o.inf.rows:=by
 unfold At8 at h⊢
 split
 ·rename_i h1;rw[if_pos h1] at h;exact absurd h h1
 ·split
  ·rename_i h1 h2;rw[if_neg h1,if_pos h2] at h;cases h
  ·rename_i h1 h2;exact Classical.not_not.1 h2
theorem En7(h:(At7 (Ak2 cs i).ty (Ak2 cs i).nu (Bd2 file o i)).2≠0):At8 cs file o i=([],(At7 (Ak2 cs i).ty (Ak2 cs i).nu (Bd2 file o i)).2):=by unfold At8;rw[if_pos h]
theorem En6(h:(At7 (Ak2 cs i).ty (Ak2 cs i).nu (Bd2 file o i)).2=0)(h2:(At7 (Ak2 cs i).ty (Ak2 cs i).nu (Bd2 file o i)).1.length≠o.inf.rows):At8 cs file o i=([],2):=by unfold At8;rw[if_neg (by simp[h]),if_pos h2]
theorem Cv4(h:(At7 (Ak2 cs i).ty (Ak2 cs i).nu (Bd2 file o i)).2=0)(h2:(At7 (Ak2 cs i).ty (Ak2 cs i).nu (Bd2 file o i)).1.length=o.inf.rows):At8 cs file o i=((At7 (Ak2 cs i).ty (Ak2 cs i).nu (Bd2 file o i)).1,0):=by unfold At8;rw[if_neg (by simp[h]),if_neg (by simp[h2])]
theorem Eo4{z:Int}(h:(opn cs key file).1≠0):Dg5 cs key file z=([],(opn cs key file).1):=by unfold Dg5;rw[if_pos h]
theorem Eo3{z:Int}(h:(opn cs key file).1=0)(h2:z<0\/(cs.length:Int)<z):Dg5 cs key file z=([],4):=by unfold Dg5;rw[if_neg (by simp[h]),if_pos h2]
theorem Ck1(h:(opn cs key file).1=0)(h2:i<=cs.length):Dg5 cs key file (i:Int)=At8 cs file (opn cs key file).2 i:=by
 unfold Dg5;rw[if_neg (by simp[h]),if_neg (by omega),Int.toNat_natCast]
theorem Em8(hi:i<=cs.length)(h0:∀k,k<i->(At8 cs file o k).2=0)(h:(At8 cs file o i).2≠0):De4 cs file o=(At8 cs file o i).2:=by
 unfold De4
 refine Dw3 (j:=i) ?_ (fun k hk=>?_) h
 ·rw[List.getElem?_map,List.getElem?_range (by omega)];rfl
 ·rw[List.getElem?_map,List.getElem?_range (by omega),Option.map_some,h0 k hk]
theorem Dx9(h0:∀k,k<cs.length+1->(At8 cs file o k).2=0):De4 cs file o=0:=Cc6 fun i hi=>h0 i (by omega)
theorem Dn2(cs:List Col)(file:ByteArray)(o:Opn):(Am0 cs file o).length=o.inf.rows:=by unfold Am0;rw[List.length_map,List.length_range]
theorem Ey6(h:(opn cs key file).1=0)(h2:De4 cs file (opn cs key file).2=0)(h3:¬(Ak3 cs key (Am0 cs file (opn cs key file).2)=true/\Ac7 cs key (Am0 cs file (opn cs key file).2)=(opn cs key file).2.inf)):Bw8 cs key file=([],2):=by
 unfold Bw8;rw[if_neg (by simp[h]),if_neg (by simp[h2]),if_neg h3]
theorem Ef8(h:(opn cs key file).1=0)(h2:De4 cs file (opn cs key file).2=0)(h3:Ak3 cs key (Am0 cs file (opn cs key file).2)=true/\Ac7 cs key (Am0 cs file (opn cs key file).2)=(opn cs key file).2.inf):Bw8 cs key file=(Am0 cs file (opn cs key file).2,0):=by
 unfold Bw8;rw[if_neg (by simp[h]),if_neg (by simp[h2]),if_pos h3]
end
end Go.MP
