/- Texts of one part, joined. -/
import Derived.Test.YtnmlajmaffiigaaGreatDoorMpG2
import Derived.Test.YtnmlajmaffiigaaGreatDoorGb
import Derived.Test.YtnmlajmaffiigaaGreatDoorMpb
set_option linter.constructorNameAsVariable false
set_option maxRecDepth 100000
set_option maxHeartbeats 1000000
open Go Go.Proofs Go.Proofs.YtnmlajmaffiigaaGreatDoor Go.P
namespace Go.MP
open RowKit VB VS VL MK RS ZN
def Dif(x y:Vl):Prop:=(x.nu=true/\y.nu=false)\/(x.nu=false/\y.nu=true)\/(x.nu=y.nu/\¬x.n=y.n)\/(x.nu=y.nu/\x.n=y.n/\¬x.s.toList=y.s.toList)
theorem Dx7{x y:Vl}(h:¬x=y):Dif x y:=by
 rcases Dh9 x y with h1 | h1 | h1 | h1 | h1
 ·exact absurd h1 h
 ·exact .inl h1
 ·exact .inr (.inl h1)
 ·exact .inr (.inr (.inl h1))
 ·exact .inr (.inr (.inr h1))
theorem Ev7(a b:Zn):a=b\/¬a.rows=b.rows\/(a.rows=b.rows/\¬a.nulls=b.nulls)\/(a.rows=b.rows/\a.nulls=b.nulls/\Dif a.mn b.mn)\/(a.rows=b.rows/\a.nulls=b.nulls/\a.mn=b.mn/\Dif a.mx b.mx):=by
 obtain⟨r,u,m,x⟩:=a;obtain⟨r',u',m',x'⟩:=b
 by_cases h1:r=r'
 ·by_cases h2:u=u'
  ·by_cases h3:m=m'
   ·by_cases h4:x=x'
    ·exact .inl (by rw[h1,h2,h3,h4])
    ·exact .inr (.inr (.inr (.inr ⟨h1,h2,h3,Dx7 h4⟩)))
   ·exact .inr (.inr (.inr (.inl ⟨h1,h2,Dx7 h3⟩)))
  ·exact .inr (.inr (.inl ⟨h1,h2⟩))
 ·exact .inr (.inl h1)
theorem Ef2{α:Type}{l m:List α}{j:Nat}{x:α}(h:∀i<j,l[i]?=m[i]?)(h1:l[j]?=some x)(h2:m[j]?=some x):∀i<j+1,l[i]?=m[i]?:=fun i hi=>by
 by_cases e:i=j
 ·rw[e,h1,h2]
 ·exact h i (by omega)
theorem Ef3{α:Type}{l m:List α}{j:Nat}(h:∀i<j,l[i]?=m[i]?)(h1:l.length<=j)(h2:m.length<=j):l=m:=List.ext_getElem? fun i=>by
 by_cases hi:i<j
 ·exact h i hi
 ·rw[List.getElem?_eq_none (by omega),List.getElem?_eq_none (by omega)]
end Go.MP
namespace Go.P
open RowKit VB VS VL MK RS ZN MP
theorem Ex7(x y:Value)(l m:List Zn)(w:World)(hx:RdK zonL w w.heap.size x l)(hy:RdK zonL w w.heap.size y m):Calls Tryz.prog 108 #[x,y] w (SameP (l=m) w):=by
 obtain⟨A,c,k1,rfl,rfl,Ak,Ag⟩:=hx.bds
 obtain⟨A',c',k2,rfl,rfl,Aj,Ai⟩:=hy.bds
 have HX:=Hd hx;have HY:=Hd hy;clear hx hy
 go_enter Tryz.func108,Tryz.ntmps108
 by_cases hlen:l.length=m.length
 case neg=>
  go_wp2
  go_ret
  exact SameP.no rfl (fun h=>hlen (by rw[h])) (Q2 _ _)
 rw[hlen]
 have Ah:=Hd hlen
 go_wp2
 go_loopw[13] (fun i wr=>∃j:Nat,i=.int .i64 j/\j<=m.length/\Hid (∀i<j,l[i]?=m[i]?)/\Below w.heap.size w wr) (fun i _=>m.length-(intOf i).toNat)
 case atStart=>exact⟨0,rfl,Nat.zero_le _,Hd (fun i hi=>absurd hi (by omega)),Q2 _ _⟩
 case round=>
  obtain⟨j,rfl,hj,HA,Aa⟩:=hrel
  by_cases hlt:j<m.length
  case neg=>
   go_wp2
   go_ret
   exact SameP.yes rfl (Ef3 HA.out (by omega) (by omega)) Aa
  have Ad:l[j]?=some l[j]:=Q7 (by omega)
  have Ae:m[j]?=some m[j]:=Q7 hlt
  obtain⟨ad,rfl,_,q⟩:=(HX.out.below Aa).at Ad
  obtain⟨Ab,rfl,_,p⟩:=(HY.out.below Aa).at Ae
  have Ac:=Hd Ad;have HE2:=Hd Ae;clear Ad Ae
  generalize l[j]=V at Ac q
  generalize m[j]=U at HE2 p
  obtain⟨v0,v1,⟨v2,v3,v4⟩,⟨v5,v6,v7⟩⟩:=V
  obtain⟨u0,u1,⟨u2,u3,u4⟩,⟨u5,u6,u7⟩⟩:=U
  have HN:=Hd (show ¬(⟨v0,v1,⟨v2,v3,v4⟩,⟨v5,v6,v7⟩⟩:Zn)=⟨u0,u1,⟨u2,u3,u4⟩,⟨u5,u6,u7⟩⟩->¬l=m from fun h1 h2=>h1 (by have:=Ac.out;rw[h2,HE2.out] at this;injection this with h3;exact h3.symm))
  have q0:wr.cell? (ad.add (j*8))=some (.int .i64 v0):=q.c0 rfl
  have q1:wr.cell? ⟨(ad.add (j*8)).block,(ad.add (j*8)).off+1,none⟩=some (.int .i64 v1):=q.ck 1 (by decide) rfl
  have q2:wr.cell? ⟨(ad.add (j*8)).block,(ad.add (j*8)).off+2,none⟩=some (.bool v2):=q.ck 2 (by decide) rfl
  have q3:wr.cell? ⟨(ad.add (j*8)).block,(ad.add (j*8)).off+3,none⟩=some (.int .i64 v3):=q.ck 3 (by decide) rfl
  have q4:wr.cell? ⟨(ad.add (j*8)).block,(ad.add (j*8)).off+4,none⟩=some (.string v4):=q.ck 4 (by decide) rfl
  have q5:wr.cell? ⟨(ad.add (j*8)).block,(ad.add (j*8)).off+5,none⟩=some (.bool v5):=q.ck 5 (by decide) rfl
  have q6:wr.cell? ⟨(ad.add (j*8)).block,(ad.add (j*8)).off+6,none⟩=some (.int .i64 v6):=q.ck 6 (by decide) rfl
  have q7:wr.cell? ⟨(ad.add (j*8)).block,(ad.add (j*8)).off+7,none⟩=some (.string v7):=q.ck 7 (by decide) rfl
  have p0:wr.cell? (Ab.add (j*8))=some (.int .i64 u0):=p.c0 rfl
  have p1:wr.cell? ⟨(Ab.add (j*8)).block,(Ab.add (j*8)).off+1,none⟩=some (.int .i64 u1):=p.ck 1 (by decide) rfl
  have p2:wr.cell? ⟨(Ab.add (j*8)).block,(Ab.add (j*8)).off+2,none⟩=some (.bool u2):=p.ck 2 (by decide) rfl
  have p3:wr.cell? ⟨(Ab.add (j*8)).block,(Ab.add (j*8)).off+3,none⟩=some (.int .i64 u3):=p.ck 3 (by decide) rfl
  have p4:wr.cell? ⟨(Ab.add (j*8)).block,(Ab.add (j*8)).off+4,none⟩=some (.string u4):=p.ck 4 (by decide) rfl
  have p5:wr.cell? ⟨(Ab.add (j*8)).block,(Ab.add (j*8)).off+5,none⟩=some (.bool u5):=p.ck 5 (by decide) rfl
  have p6:wr.cell? ⟨(Ab.add (j*8)).block,(Ab.add (j*8)).off+6,none⟩=some (.int .i64 u6):=p.ck 6 (by decide) rfl
  have p7:wr.cell? ⟨(Ab.add (j*8)).block,(Ab.add (j*8)).off+7,none⟩=some (.string u7):=p.ck 7 (by decide) rfl
  clear q p
  rcases Ev7 ⟨v0,v1,⟨v2,v3,v4⟩,⟨v5,v6,v7⟩⟩ ⟨u0,u1,⟨u2,u3,u4⟩,⟨u5,u6,u7⟩⟩ with he | h0 | ⟨h0,h1⟩ | ⟨h0,h1,h2⟩ | ⟨h0,h1,h2,h3⟩
  ·injection he with e1 e2 e3 e4
   injection e3 with e5 e6 e7
   injection e4 with e8 e9 e10
   subst e1 e2 e5 e6 e7 e8 e9 e10
   have Af:=Hd (Ef2 HA.out Ac.out HE2.out)
   clear HN HA
   go_wp2_with fail
   go_region
   go_wp2_with fail
   go_roundw
   case rel=>exact⟨j+1,by go_num,hlt,Af,Aa.drew⟩
   case measure=>simp[intOf]<;>omega
  ·simp only at h0
   have HF:=Hd (HN.out (fun h=>h0 (by injection h)))
   clear HN HA
   go_wp2_with fail
   go_region
   go_wp2_with fail
   go_ret
   exact SameP.no rfl HF.out Aa.drew
  ·simp only at h0 h1
   have HF:=Hd (HN.out (fun h=>h1 (by injection h)))
   subst h0
   clear HN HA
   go_wp2_with fail
   go_region
   go_wp2_with fail
   go_ret
   exact SameP.no rfl HF.out Aa.drew
  ·simp only at h0 h1 h2
   subst h0 h1
   rcases h2 with⟨d1,d2⟩ | ⟨d1,d2⟩ | ⟨d1,d2⟩ | ⟨d1,d2,d3⟩
   all_goals simp only at d1 d2
   all_goals have HF:=Hd (HN.out (by intro h;injection h with _ _ h;injection h;simp_all))
   all_goals subst d1
   all_goals try subst d2
   all_goals clear HN HA
   all_goals go_wp2_with fail
   all_goals go_region
   all_goals go_wp2_with fail
   all_goals go_ret
   all_goals exact SameP.no rfl HF.out Aa.drew
  ·simp only at h0 h1 h2 h3
   subst h0 h1
   injection h2 with e5 e6 e7
   subst e5 e6 e7
   rcases h3 with⟨d1,d2⟩ | ⟨d1,d2⟩ | ⟨d1,d2⟩ | ⟨d1,d2,d3⟩
   all_goals simp only at d1 d2
   all_goals have HF:=Hd (HN.out (by intro h;injection h with _ _ _ h;injection h;simp_all))
   all_goals subst d1
   all_goals try subst d2
   all_goals clear HN HA
   all_goals go_wp2_with fail
   all_goals go_region
   all_goals go_wp2_with fail
   all_goals go_ret
   all_goals exact SameP.no rfl HF.out Aa.drew
end Go.P

namespace Go.MP
open RowKit VB VS VL MK RS ZN
theorem Dm7(a b:Vl)(p q:Nat):(a=b/\p=q)\/Dif a b\/(a=b/\¬p=q):=by
 by_cases h:a=b
 ·by_cases h2:p=q
  ·exact .inl ⟨h,h2⟩
  ·exact .inr (.inr ⟨h,h2⟩)
 ·exact .inr (.inl (Dx7 h))
end Go.MP
namespace Go.P
open RowKit VB VS VL MK RS ZN MP
theorem Cl4(zv uv:Value)(f h:Inf)(W:World)(hz:RdK zonL W W.heap.size zv f.zs)(hu:RdK zonL W W.heap.size uv h.zs):Calls Tryz.prog 65 #[Dg4 zv f,Dg4 uv h] W (SameP (f=h) W):=by
 obtain⟨fr,fz,⟨f2,f3,f4⟩,f5,⟨f6,f7,f8⟩,f9⟩:=f
 obtain⟨hr,Ag,⟨h2,h3,h4⟩,h5,⟨h6,h7,h8⟩,h9⟩:=h
 unfold Dg4
 simp only at hz hu⊢
 have hI:=VarC.new W [.int .i64 (fr:Nat),zv,.bool f2,.int .i64 f3,.string f4,.int .i64 (f5:Nat),.bool f6,.int .i64 f7,.string f8,.int .i64 (f9:Nat)] 53
 have Ac:=(Q2 W.heap.size W).alloc (Q1 _) (.cells #[.int .i64 (fr:Nat),zv,.bool f2,.int .i64 f3,.string f4,.int .i64 (f5:Nat),.bool f6,.int .i64 f7,.string f8,.int .i64 (f9:Nat)] 53)
 have Ad:(W.alloc (.cells #[.int .i64 (fr:Nat),zv,.bool f2,.int .i64 f3,.string f4,.int .i64 (f5:Nat),.bool f6,.int .i64 f7,.string f8,.int .i64 (f9:Nat)] 53)).heap.size=W.heap.size+1:=by simp
 change VarC (W.alloc (.cells #[.int .i64 (fr:Nat),zv,.bool f2,.int .i64 f3,.string f4,.int .i64 (f5:Nat),.bool f6,.int .i64 f7,.string f8,.int .i64 (f9:Nat)] 53)) _ _ at hI
 obtain⟨W1,Ak⟩:∃W1,W.alloc (.cells #[.int .i64 (fr:Nat),zv,.bool f2,.int .i64 f3,.string f4,.int .i64 (f5:Nat),.bool f6,.int .i64 f7,.string f8,.int .i64 (f9:Nat)] 53)=W1:=⟨_,rfl⟩
 rw[Ak] at hI Ac Ad
 have hJ:=VarC.new W1 [.int .i64 (hr:Nat),uv,.bool h2,.int .i64 h3,.string h4,.int .i64 (h5:Nat),.bool h6,.int .i64 h7,.string h8,.int .i64 (h9:Nat)] 53
 have Ab:=(Q2 W1.heap.size W1).alloc (Q1 _) (.cells #[.int .i64 (hr:Nat),uv,.bool h2,.int .i64 h3,.string h4,.int .i64 (h5:Nat),.bool h6,.int .i64 h7,.string h8,.int .i64 (h9:Nat)] 53)
 change VarC (W1.alloc (.cells #[.int .i64 (hr:Nat),uv,.bool h2,.int .i64 h3,.string h4,.int .i64 (h5:Nat),.bool h6,.int .i64 h7,.string h8,.int .i64 (h9:Nat)] 53)) _ _ at hJ
 obtain⟨W2,Al⟩:∃W2,W1.alloc (.cells #[.int .i64 (hr:Nat),uv,.bool h2,.int .i64 h3,.string h4,.int .i64 (h5:Nat),.bool h6,.int .i64 h7,.string h8,.int .i64 (h9:Nat)] 53)=W2:=⟨_,rfl⟩
 rw[Al] at hJ Ab
 have Ae:=hI.step Ab
 have Ai:=Hd (Ac.trans (Ab.mono (by omega)))
 rw[Ad] at hJ
 have An:=Hd (fun(w:World)(h:Below W2.heap.size W2 w)=>show((w.cell? ⟨W.heap.size,2,none⟩=some (.bool f2)/\w.cell? ⟨W.heap.size,3,none⟩=some (.int .i64 f3)/\w.cell? ⟨W.heap.size,4,none⟩=some (.string f4)/\w.cell? ⟨W.heap.size,5,none⟩=some (.int .i64 (f5:Nat))) /\
    (w.cell? ⟨W.heap.size,6,none⟩=some (.bool f6)/\w.cell? ⟨W.heap.size,7,none⟩=some (.int .i64 f7)/\w.cell? ⟨W.heap.size,8,none⟩=some (.string f8)/\w.cell? ⟨W.heap.size,9,none⟩=some (.int .i64 (f9:Nat)))) /\
    ((w.cell? ⟨W.heap.size+1,2,none⟩=some (.bool h2)/\w.cell? ⟨W.heap.size+1,3,none⟩=some (.int .i64 h3)/\w.cell? ⟨W.heap.size+1,4,none⟩=some (.string h4)/\w.cell? ⟨W.heap.size+1,5,none⟩=some (.int .i64 (h5:Nat))) /\
    (w.cell? ⟨W.heap.size+1,6,none⟩=some (.bool h6)/\w.cell? ⟨W.heap.size+1,7,none⟩=some (.int .i64 h7)/\w.cell? ⟨W.heap.size+1,8,none⟩=some (.string h8)/\w.cell? ⟨W.heap.size+1,9,none⟩=some (.int .i64 (h9:Nat)))) from by
  have a:=Ae.step h
  have b:=hJ.step h
  exact⟨⟨⟨a.c 2 _ rfl,a.c 3 _ rfl,a.c 4 _ rfl,a.c 5 _ rfl⟩,a.c 6 _ rfl,a.c 7 _ rfl,a.c 8 _ rfl,a.c 9 _ rfl⟩,⟨b.c 2 _ rfl,b.c 3 _ rfl,b.c 4 _ rfl,b.c 5 _ rfl⟩,b.c 6 _ rfl,b.c 7 _ rfl,b.c 8 _ rfl,b.c 9 _ rfl⟩)
 have Ah:=Hd (Ex7 zv uv fz Ag W2 ((hz.step Ac).step Ab) ((hu.step Ac).step Ab))
 have i0:=Ae.c 0 _ rfl
 have i1:=Ae.c 1 _ rfl
 have j0:=hJ.c 0 _ rfl
 have j1:=hJ.c 1 _ rfl
 have Ao:=Ad
 clear hI Ac Ad hJ Ab Ae hz hu
 by_cases e0:fr=hr
 case neg=>
  have hd:((fr:Int)==(hr:Int))=false:=by simp;omega
  have Aj:(fr==hr)=false:=by simp[e0]
  have HF:=Hd (show ¬(⟨fr,fz,⟨f2,f3,f4⟩,f5,⟨f6,f7,f8⟩,f9⟩:Inf)=⟨hr,Ag,⟨h2,h3,h4⟩,h5,⟨h6,h7,h8⟩,h9⟩ from fun e=>e0 (by injection e))
  clear e0
  go_enter Tryz.func65,Tryz.ntmps65
  go_wp2_with fail
  go_ret
  exact SameP.no rfl HF.out Ai.out
 subst e0
 have hd:((fr:Int)==(fr:Int))=true:=by simp
 have Aj:(fr==fr)=true:=by simp
 go_enter Tryz.func65,Tryz.ntmps65
 go_wp2_with fail
 (with_reducible refine Ah.out.mono ?_);rintro e w3 ⟨b,rfl,hb,Af⟩
 have Aa:=Hd (Aa0 Ai.out Af)
 obtain⟨⟨⟨a2,a3,a4,a5⟩,a6,a7,a8,a9⟩,⟨b2,b3,b4,b5⟩,b6,b7,b8,b9⟩:=An.out w3 Af
 clear i0 i1 j0 j1 Af Ah
 cases b with
 | false=>
   have HF:=Hd (show ¬(⟨fr,fz,⟨f2,f3,f4⟩,f5,⟨f6,f7,f8⟩,f9⟩:Inf)=⟨fr,Ag,⟨h2,h3,h4⟩,h5,⟨h6,h7,h8⟩,h9⟩ from fun e=>absurd (hb.2 (by injection e)) (by decide))
   clear hb
   go_wp2_with fail
   go_ret
   exact SameP.no rfl HF.out Aa.out
 | true=>
   obtain rfl:=hb.1 rfl
   clear hb
   rcases Dm7 ⟨f2,f3,f4⟩ ⟨h2,h3,h4⟩ f5 h5 with⟨e1,e2⟩ | e1 | ⟨e1,e2⟩
   ·injection e1 with d1 d2 d3
    subst d1 d2 d3 e2
    rcases Dm7 ⟨f6,f7,f8⟩ ⟨h6,h7,h8⟩ f9 h9 with⟨e1,e2⟩ | e1 | ⟨e1,e2⟩
    ·injection e1 with d1 d2 d3
     subst d1 d2 d3 e2
     go_wp2_with fail
     go_ret
     exact SameP.yes rfl (by first | rfl | trivial) Aa.out
    ·rcases e1 with⟨d1,d2⟩ | ⟨d1,d2⟩ | ⟨d1,d2⟩ | ⟨d1,d2,d3⟩
     all_goals simp only at d1 d2
     all_goals have HF:=Hd (show ¬(⟨fr,fz,⟨f2,f3,f4⟩,f5,⟨f6,f7,f8⟩,f9⟩:Inf)=⟨fr,fz,⟨f2,f3,f4⟩,f5,⟨h6,h7,h8⟩,h9⟩ from by intro e;injection e with _ _ _ _ e;injection e;simp_all)
     all_goals subst d1
     all_goals try subst d2
     all_goals go_wp2_with fail
     all_goals go_ret
     all_goals exact SameP.no rfl HF.out Aa.out
    ·injection e1 with d1 d2 d3
     subst d1 d2 d3
     have HF:=Hd (show ¬(⟨fr,fz,⟨f2,f3,f4⟩,f5,⟨f6,f7,f8⟩,f9⟩:Inf)=⟨fr,fz,⟨f2,f3,f4⟩,f5,⟨f6,f7,f8⟩,h9⟩ from by intro e;injection e;simp_all)
     have e3:¬(f9:Int)=(h9:Int):=by omega
     go_wp2_with fail
     go_ret
     exact SameP.no rfl HF.out Aa.out
   ·rcases e1 with⟨d1,d2⟩ | ⟨d1,d2⟩ | ⟨d1,d2⟩ | ⟨d1,d2,d3⟩
    all_goals simp only at d1 d2
    all_goals have HF:=Hd (show ¬(⟨fr,fz,⟨f2,f3,f4⟩,f5,⟨f6,f7,f8⟩,f9⟩:Inf)=⟨fr,fz,⟨h2,h3,h4⟩,h5,⟨h6,h7,h8⟩,h9⟩ from by intro e;injection e with _ _ e;injection e;simp_all)
    all_goals subst d1
    all_goals try subst d2
    all_goals go_wp2_with fail
    all_goals go_ret
    all_goals exact SameP.no rfl HF.out Aa.out
   ·injection e1 with d1 d2 d3
    subst d1 d2 d3
    have HF:=Hd (show ¬(⟨fr,fz,⟨f2,f3,f4⟩,f5,⟨f6,f7,f8⟩,f9⟩:Inf)=⟨fr,fz,⟨f2,f3,f4⟩,h5,⟨h6,h7,h8⟩,h9⟩ from by intro e;injection e;simp_all)
    have e3:¬(f5:Int)=(h5:Int):=by omega
    go_wp2_with fail
    go_ret
    exact SameP.no rfl HF.out Aa.out
end Go.P
