/- Layer 16, the statements' own: the sequence numbers of records as values. -/
import Derived.Test.YtnmlajmaffiigaaGreatDoorBt7b
import Derived.Test.YtnmlajmaffiigaaGreatDoorZon
import Derived.Test.YtnmlajmaffiigaaGreatDoorGa
import Derived.Test.YtnmlajmaffiigaaGreatDoorBt2
import Derived.Test.YtnmlajmaffiigaaGreatDoorDlt
set_option linter.constructorNameAsVariable false
set_option maxRecDepth 100000
set_option maxHeartbeats 1000000
open Go Go.Proofs Go.Proofs.YtnmlajmaffiigaaGreatDoor Go.P
namespace Go.MP
open VL MK VS RS Go.ST CK SC
def Bs4(l:List Rc):List Vl:=l.map fun r=>⟨false,r.seq,⟨#[]⟩⟩
theorem Bs3(l:List Rc):(Bs4 l).length=l.length:=List.length_map _
theorem Dl2{j:Nat}{l:List Rc}{r:Rc}(h:l[j]?=some r):Bs4 (l.take (j+1))=Bs4 (l.take j)++[⟨false,r.seq,⟨#[]⟩⟩]:=by
 unfold Bs4;rw[List.take_add_one,h,List.map_append];rfl
end Go.MP
namespace Go.P
open RowKit VB VS VL SC CK Go.ST MK RS MP
theorem Dm2(x:Value)(l:List Rc)(W:World)(hx:RdR W W.heap.size x l)(hb:l.length*32<=140737488351232):
   Calls Tryz.prog 51 #[x] W (RetVl 49 (Bs4 l) W):=by
 obtain⟨A,c,n,rfl,hn,Ay,Ax⟩:=hx.bds
 have HX:=Hd hx;have HZ:=Hd hb;have HN:=Hd hn
 clear hx hb hn
 go_enter Tryz.func51,Tryz.ntmps51
 go_wp2
 go_loopw[3,5,8] (fun ov _ iv wr=>∃j:Nat,iv=.int .i64 j/\j<=n/\OwnL 49 wr W.heap.size ov (Bs4 (l.take j))/\Below W.heap.size W wr) (fun _ _ iv _=>n-(intOf iv).toNat)
 case atStart=>exact⟨0,rfl,Nat.zero_le _,OwnL.nil _ _ _,Q2 _ _⟩
 case round=>
  obtain⟨i,rfl,hi,Aa,Ac⟩:=hrel
  have Ao:(Bs4 (l.take i)).length<=4398046510976:=by rw[Bs3,List.length_take];have:=HZ.out;omega
  by_cases hlti:i<n
  case neg=>
   have HF:=Hd (show l.take i=l from List.take_of_length_le (by have:=HN.out;omega))
   have Aq:decide ((i:Int)<(n:Int))=false:=Q3 (by omega)
   rw[HF.out] at Aa
   go_wp2
   go_ret
   exact RetVl.mk rfl Aa Ac
  have Aq:decide ((i:Int)<(n:Int))=true:=Q4 (by omega)
  have Aw:decide (i<n)=true:=Q4 hlti
  have Aj:i<l.length:=by have:=HN.out;omega
  have Ae:l[i]?=some l[i]:=Q7 Aj
  obtain⟨ad,rA,rn,rc,rfl,-,q0,q1,-,-⟩:=(HX.out.below Ac).at Ae
  have Ag:=Hd (Dl2 Ae)
  generalize l[i]=R at q0 q1 Ag
  obtain⟨q,row⟩:=R
  simp only at q0 q1 Ag
  have Af:=(Q2 wr.heap.size wr).alloc (Q1 _) (.cells #[.int .i64 q,.slice rA rn rc] 67)
  have Ar:=Ac.size
  have Ad:=RdK.lit (L:=valL) (wr.alloc (.cells #[.int .i64 q,.slice rA rn rc] 67)) [⟨false,q,⟨#[]⟩⟩] 1 49 (Q1 1) (by decide)
  rw[show(wr.alloc (.cells #[.int .i64 q,.slice rA rn rc] 67)).heap.size=wr.heap.size+1 from by simp] at Ad
  have Al:=Hd Ad
  have HO:=Hd (Bo1 ((Aa.below Af).alloc (.cells #[.bool false,.int .i64 q,.string ⟨#[]⟩] 49)))
  have An:=Hd (show W.heap.size<=((wr.alloc (.cells #[.int .i64 q,.slice rA rn rc] 67)).alloc (.cells #[.bool false,.int .i64 q,.string ⟨#[]⟩] 49)).heap.size by simp;omega)
  have Ak:=Hd ((Ac.trans (Af.mono Ar)).alloc (by simp;omega) (.cells #[.bool false,.int .i64 q,.string ⟨#[]⟩] 49))
  have Ai:=Hd Ao
  have Ap:i+1<=4398046510976:=by have:=HZ.out;omega
  clear Aj Ae Aa Ac Ao Ad Af
  go_wp2_with(at_builtin;refine Af5 (L:=valL) rfl _ _ 63 rfl W.heap.size 49 32 Tryz.underlying63 Tryz.infVal _ (Bs4 (l.take i)) rfl HO.out _ _ [⟨false,q,⟨#[]⟩⟩] rfl Al.out (by have:=Ai.out;unfold maxLen;simp only[Q6,Q8];omega) (by have:=Ai.out;simp only[Q6,Q8];omega) An.out ?_)
  intro v' w' Ab Ah _
  have Au:=Hd (show OwnL 49 w' W.heap.size v' (Bs4 (l.take (i+1))) by rw[Ag.out];exact Ab)
  have As:=Hd (Ak.out.trans Ah)
  clear Ab Ah HO Al Ak An
  go_wp2_with fail
  go_roundw
  all_goals first
   | exact⟨i+1,by go_num,hlti,Au.out,As.out⟩
   | (simp[intOf];omega)
end Go.P
namespace Go.MP
open VL VarM VS
def Aj0(v:Vl)(q:Nat):List UInt8:=Ai9 v.nu v.n v.s++Aa4 q
end Go.MP
namespace Go.P
open RowKit VB VarM VS VL SC CK Go.ST MK RS ZN MP
theorem By7(b:Bool)(n:Int)(s:ByteArray)(q:Nat)(W:World)(hn:(Lit.int .i64 n).wf=true)(hs:s.size<=140737488351232)(hq:q<9223372036854775808):
   Calls Tryz.prog 53 #[.agg #[.bool b,.int .i64 n,.string s,.int .i64 (q:Int)]] W (RetB (.string (str (Aj0 ⟨b,n,s⟩ q))) W):=by
 have H1:=fun w=>Hd (Bh1 b n s w hn hs)
 have H2:=fun w=>Hd (Ac5 q w (by omega))
 have l1:=putV_len (b:=b) hn hs
 have l2:=Aa5 (n:=q) (by omega)
 rw[show Aj0 ⟨b,n,s⟩ q=Ai9 b n s++Aa4 q from rfl]
 generalize Ai9 b n s=p1 at *
 generalize Aa4 q=p2 at *
 have a1:∀w,(Op.stringOp .add (str p1) (str p2)).run Tryz.prog w=.ok (.string (str (p1++p2))) w:=fun w=>by
  rw[run_string_add_sum w _ _ (by rw[Aa3,Aa3];omega),Ab8]
 clear l1 l2
 generalize str (p1++p2)=q1 at *
 generalize str p1=t1 at *
 generalize str p2=t2 at *
 have hu:IntKind.u64.wrap (q:Int)=(q:Int):=IntWalk.u64_in _ ⟨by omega,by omega⟩
 have HV:=Hd (show ∀w,Below (W.alloc (.cells #[.bool b,.int .i64 n,.string s,.int .i64 (q:Int)] 51)).heap.size (W.alloc (.cells #[.bool b,.int .i64 n,.string s,.int .i64 (q:Int)] 51)) w->Go.VL.Var4 w W.heap.size (.bool b) (.int .i64 n) (.string s) (.int .i64 (q:Int)) from fun w hb=>(Go.VL.Var4.new W (.bool b) (.int .i64 n) (.string s) (.int .i64 (q:Int)) 51).step hb)
 have HB:=Hd (show Below W.heap.size W (W.alloc (.cells #[.bool b,.int .i64 n,.string s,.int .i64 (q:Int)] 51)) from(Q2 _ _).alloc (Q1 _) _)
 go_enter Tryz.func53,Tryz.ntmps53
 go_wp2_with fail
 refine Go.Confl.wp_region_confl (by simp only[List.map_cons,List.map_nil];rfl) (by kernel_rfl) (by kernel_rfl) ?_
 iterate 9
  first
  | (refine Go.Confl.chain_skip (Go.Confl.unwanted_is rfl rfl) ?_)
  | (first | apply Go.Confl.chain_is _ (Go.Confl.wanted_none rfl) | apply Go.Confl.chain_is _ (Go.Confl.wanted_is rfl rfl)
     ·intro b w hr hb K hK
      simp[Go.Confl.readFacts,Go.Confl.tmpsOf,Go.Confl.writerOf,Go.Confl.Is,Op.operands,Call.operands,List.findIdx?,List.findIdx?.go] at hr
      obtain⟨c0,c1,c2,c3⟩:=HV.out _ hb
      go_wp2_with(first
       | (go_at_call 96;(with_reducible refine(H1 _).out.mono ?_);rintro e w' ⟨rfl,Aa⟩)
       | (go_at_call 48;(with_reducible refine(H2 _).out.mono ?_);rintro e w' ⟨rfl,Aa⟩))
      try(simp only[hr];go_wp2)
      exact hK _ _ rfl (by first | exact Q2 _ _ | assumption))
  simp only[List.nil_append,List.cons_append]
 intro us w hp hb
 simp[Go.Confl.allPosts,Go.Confl.Is] at hp
 simp only[Go.Confl.putsFrom,hp,Act.put,List.setIfInBounds_toArray,List.set_cons_zero,List.set_cons_succ]
 go_wp2
 go_ret
 exact RetB.mk rfl (Aa0 HB.out hb)
end Go.P
namespace Go.MP
open RowKit VB VarM VS VL SC CK Go.ST MK RS ZN
theorem wf_bd{n:Int}(h:-9223372036854775808<=n/\n<=9223372036854775807):(Lit.int .i64 n).wf=true:=WalkArith.wf_i64 ⟨h.1,h.2⟩
theorem Cr5{x:Vl}(h:Nrm x):x.nu=true->x.n=0/\x.s=⟨#[]⟩:=fun e=>by rw[h e];exact⟨rfl,rfl⟩
def seqC:Col:=⟨str [115,101,113],1,0,false⟩
def Ak2(cs:List Col)(i:Nat):Col:=if i<cs.length then cs.getD i col0 else seqC
theorem Am3{cs:List Col}{i:Nat}(h:i<cs.length):Ak2 cs i=cs.getD i col0:=if_pos h
theorem Ay9{cs:List Col}{i:Nat}(h:¬i<cs.length):Ak2 cs i=seqC:=if_neg h
def Bl9(cs:List Col)(l:List Rc)(i:Nat):List Vl:=if i<cs.length then Go.RS.colL i l else Bs4 l
theorem Aj9{cs:List Col}{l:List Rc}{i:Nat}(h:i<cs.length):Bl9 cs l i=Go.RS.colL i l:=if_pos h
theorem At0{cs:List Col}{l:List Rc}{i:Nat}(h:¬i<cs.length):Bl9 cs l i=Bs4 l:=if_neg h
theorem Af6(cs:List Col)(l:List Rc)(i:Nat):(Bl9 cs l i).length=l.length:=by
 unfold Bl9;split
 ·exact List.length_map _
 ·exact Bs3 l
def chB(cs:List Col)(l:List Rc)(i:Nat):List UInt8:=Bb5 (Ak2 cs i).ty (Bl9 cs l i)
def chs(cs:List Col)(l:List Rc)(n:Nat):List (List UInt8):=(List.range n).map (chB cs l)
theorem Av1(cs:List Col)(l:List Rc)(n:Nat):(chs cs l n).length=n:=by unfold chs;rw[List.length_map,List.length_range]
theorem Bf2(cs:List Col)(l:List Rc)(n:Nat):chs cs l (n+1)=chs cs l n++[chB cs l n]:=by unfold chs;rw[List.range_succ,List.map_append];rfl
def Ae4(ch:List (List UInt8)):List UInt8:=ch.flatMap fun b=>Aa4 b.length
theorem As2(ch:List (List UInt8))(b:List UInt8):Ae4 (ch++[b])=Ae4 ch++Aa4 b.length:=by unfold Ae4;rw[List.flatMap_append];simp
def zns(cs:List Col)(l:List Rc)(n:Nat):List Zn:=(List.range n).map fun i=>zof (cs.getD i col0).ty (Go.RS.colL i l)
theorem Az7(cs:List Col)(l:List Rc)(n:Nat):(zns cs l n).length=n:=by unfold zns;rw[List.length_map,List.length_range]
theorem Bq8(cs:List Col)(l:List Rc)(n:Nat):zns cs l (n+1)=zns cs l n++[zof (cs.getD n col0).ty (Go.RS.colL n l)]:=by unfold zns;rw[List.range_succ,List.map_append];rfl
def Ap4(zs:List Zn):List UInt8:=zs.flatMap Bs8
theorem Bf7(zs:List Zn)(z:Zn):Ap4 (zs++[z])=Ap4 zs++Bs8 z:=by unfold Ap4;rw[List.flatMap_append];simp
structure Inf where
 rows:Nat
 zs:List Zn
 lo:Vl
 lq:Nat
 hi:Vl
 hq:Nat
def rc0:Rc:=⟨0,[]⟩
def Ac7(cs:List Col)(key:Int)(l:List Rc):Inf:=⟨l.length,zns cs l cs.length,Ac9 key.toNat (l.getD 0 rc0),(l.getD 0 rc0).seq.toNat,Ac9 key.toNat (l.getD (l.length-1) rc0),(l.getD (l.length-1) rc0).seq.toNat⟩
def Ay6(id:Nat)(ch:List (List UInt8))(f:Inf):List UInt8:=Ad8 id++Aa4 f.rows++Ae4 ch++Ap4 f.zs++(Aj0 f.lo f.lq++Aj0 f.hi f.hq)
def Ac3(b:List UInt8):List UInt8:=b++Ad8 (Ap1 b)
def mkB:List UInt8:=[77,80,84,49]
def Bu8(ch:List (List UInt8))(b:List UInt8):List UInt8:=mkB++ch.flatten++Ac3 b++Ad8 (Ac3 b).length++mkB
def Aa9(cs:List Col)(key:Int)(l:List Rc):List UInt8:=Bu8 (chs cs l (cs.length+1)) (Ay6 (IDN cs key) (chs cs l (cs.length+1)) (Ac7 cs key l))
def An6(cs:List Col)(key:Int)(l:List Rc):Nat:=if Ad9 cs key≠0 then Ad9 cs key else if 1024<l.length then 7 else if l.length=0\/Ak3 cs key l=false then 1 else 0
def Fh7(cs:List Col)(key:Int)(l:List Rc):ByteArray:=if An6 cs key l=0 then str (Aa9 cs key l) else⟨#[]⟩
theorem Dw7{cs:List Col}{key:Int}{l:List Rc}(h:Ad9 cs key≠0):An6 cs key l=Ad9 cs key:=if_pos h
theorem Dd7{cs:List Col}{key:Int}{l:List Rc}(h:Ad9 cs key=0)(h2:1024<l.length):An6 cs key l=7:=by unfold An6;rw[if_neg (by simp[h]),if_pos h2]
theorem Bk3{cs:List Col}{key:Int}{l:List Rc}(h:Ad9 cs key=0)(h2:¬1024<l.length)(h3:l.length=0\/Ak3 cs key l=false):An6 cs key l=1:=by unfold An6;rw[if_neg (by simp[h]),if_neg h2,if_pos h3]
theorem Bv1{cs:List Col}{key:Int}{l:List Rc}(h2:¬1024<l.length)(h3:l.length≠0)(h4:Ak3 cs key l=true):An6 cs key l=0:=by
 have h:Ad9 cs key=0:=by
  unfold Ak3 at h4
  exact(Am7 (Bool.and_eq_true_iff.1 h4).1).1
 unfold An6;rw[if_neg (by simp[h]),if_neg h2,if_neg (by simp[h3,h4])]
theorem Dd6{cs:List Col}{key:Int}{l:List Rc}(h:An6 cs key l=0):Ad9 cs key=0/\l.length<=1024/\l.length≠0/\Ak3 cs key l=true:=by
 unfold An6 at h
 split at h
 ·contradiction
 ·split at h
  ·cases h
  ·split at h
   ·cases h
   ·rename_i h1 h2 h3
    refine⟨by simpa using h1,by omega,fun e=>h3 (.inl e),?_⟩
    cases h4:Ak3 cs key l with
    | true=>rfl
    | false=>exact absurd (.inr h4) h3
theorem El6{cs:List Col}{key:Int}{l:List Rc}(h:An6 cs key l≠0):Fh7 cs key l=⟨#[]⟩:=if_neg h
theorem Bk2{cs:List Col}{key:Int}{l:List Rc}(h:An6 cs key l=0):Fh7 cs key l=str (Aa9 cs key l):=if_pos h
theorem Cj2:∀{l:List Nat},fe l=0->∀e∈l,e=0
 | [],_,e,h=>by cases h
 | a::l,h,e,he=>by
   unfold fe at h
   by_cases ha:a=0
   ·rw[if_pos ha] at h
    rcases List.mem_cons.1 he with rfl | he
    ·exact ha
    ·exact Cj2 h e he
   ·rw[if_neg ha] at h;exact absurd h ha
theorem Cd1{cs:List Col}{l:List Vl}(h:Ag5 cs l=0){k:Nat}{y:Vl}(hy:l[k]?=some y):Ae6 (cs.getD k col0).ty (cs.getD k col0).nu y=0:=by
 have hl:=Af1 h
 unfold Ag5 at h
 rw[if_pos hl] at h
 have hk:k<l.length:=(List.getElem?_eq_some_iff.1 hy).1
 have:=Cj2 h _ (List.mem_map.2 ⟨k,List.mem_range.2 hk,rfl⟩)
 rwa [show l.getD k vl0=y from by rw[List.getD_eq_getElem?_getD,hy];rfl] at this
structure Srt(cs:List Col)(key:Int)(l:List Rc):Prop where
 sch:Ad9 cs key=0
 ok:∀r∈l,Ag3 cs r=true
 asc:∀(i:Nat)(a b:Rc),l[i]?=some a->l[i+1]?=some b->Ac8 (Be6 cs key) key.toNat a b<0
theorem By1{cs:List Col}{key:Int}{l:List Rc}(h:Ak3 cs key l=true):Srt cs key l:=by
 unfold Ak3 at h
 obtain⟨h1,h2⟩:=Bool.and_eq_true_iff.1 h
 obtain⟨h3,h4⟩:=Am7 h1
 exact⟨h3,h4,Df9 h2⟩
theorem Ay1{cs:List Col}{key:Int}(h:Ad9 cs key=0)(i:Nat):okT (Ak2 cs i).ty=true:=by
 unfold Ak2
 split
 ·rename_i hi
  exact(Cd2 ((Ad7 h).2.2.1 i hi)).2.2.1
 ·decide
theorem Ae2{cs:List Col}{r:Rc}(h:Ag3 cs r=true):0<=r.seq/\r.seq<=1099511627776/\Ag5 cs r.row=0:=of_decide_eq_true h
theorem Cc8{cs:List Col}{l:List Rc}(ho:∀r∈l,Ag3 cs r=true)(i:Nat):∀x∈Bl9 cs l i,Ae6 (Ak2 cs i).ty (Ak2 cs i).nu x=0:=by
 intro x hx
 by_cases hi:i<cs.length
 ·rw[Aj9 hi] at hx
  rw[Am3 hi]
  obtain⟨r,hr,rfl⟩:=List.mem_map.1 hx
  have h:=(Ae2 (ho r hr)).2.2
  have hl:=Af1 h
  have hg:r.row[i]?=some (r.row[i]'(by omega)):=Q7 _
  have Aa:r.row.getD i ⟨true,0,⟨#[]⟩⟩=r.row[i]'(by omega):=by rw[List.getD_eq_getElem?_getD,hg];rfl
  rw[Aa]
  exact Cd1 h hg
 ·rw[At0 hi] at hx
  rw[Ay9 hi]
  obtain⟨r,hr,rfl⟩:=List.mem_map.1 hx
  show chk 1 false false r.seq ⟨#[]⟩=0
  rw[Ap3 (by decide),if_neg (by rintro(h | h);exact absurd h.1 (by decide);exact h.2 rfl)]
  rfl
theorem Dy9{cs:List Col}{l:List Rc}(ho:∀r∈l,Ag3 cs r=true)(hb:InR l)(i:Nat):∀x∈Bl9 cs l i,-9223372036854775808<=x.n/\x.n<=9223372036854775807:=by
 intro x hx
 by_cases hi:i<cs.length
 ·rw[Aj9 hi] at hx
  obtain⟨r,hr,rfl⟩:=List.mem_map.1 hx
  by_cases hk:i<r.row.length
  ·rw[List.getD_eq_getElem?_getD,Q7 hk]
   exact hb r hr _ (List.getElem_mem _)
  ·rw[List.getD_eq_getElem?_getD,List.getElem?_eq_none (by omega)]
   exact⟨by decide,by decide⟩
 ·rw[At0 hi] at hx
  obtain⟨r,hr,rfl⟩:=List.mem_map.1 hx
  have:=Ae2 (ho r hr)
  exact⟨by show _<=r.seq;omega,by show r.seq<=_;omega⟩
theorem col_E{cs:List Col}{key:Int}{l:List Rc}(h:Ad9 cs key=0)(hl:l.length<=1024)(ho:∀r∈l,Ag3 cs r=true)(i:Nat):Dd9 (Ak2 cs i).ty (Ak2 cs i).nu (Bl9 cs l i)=0:=
 Dw9 (Ay1 h i) (by rw[Af6];omega) (Cc8 ho i)
theorem Bk6{cs:List Col}{key:Int}{l:List Rc}(h:Ad9 cs key=0)(ho:∀r∈l,Ag3 cs r=true)(hb:InR l)(i:Nat):∀x∈Bl9 cs l i,Vok x:=ok_of (Ay1 h i) (Cc8 ho i) (Dy9 ho hb i)
theorem Ar2{cs:List Col}{key:Int}{l:List Rc}(h:Ad9 cs key=0)(hl:l.length<=1024)(ho:∀r∈l,Ag3 cs r=true)(hb:InR l)(i:Nat):5<=(chB cs l i).length/\(chB cs l i).length<=330004:=by
 obtain⟨k,_,_,_,h4,_⟩:=best_spec (Ak2 cs i).ty (Bl9 cs l i)
 unfold chB
 rw[h4]
 exact⟨Cd7 _ _ _,Cw5 (by rw[Af6];omega) (Bk6 h ho hb i)⟩
theorem Dv7{α:Type}{ls:List (List α)}{b:Nat}(h:∀x∈ls,x.length<=b):ls.flatten.length<=ls.length*b:=by
 induction ls with
 | nil=>simp
 | cons a ls ih=>
   have h1:=ih fun x hx=>h x (List.mem_cons_of_mem _ hx)
   have h2:=h a (List.mem_cons_self ..)
   rw[List.flatten_cons,Q5,Q6,Nat.add_mul]
   omega
theorem Bj9{α β:Type}{l:List α}{f:α->List β}{b:Nat}(h:∀x∈l,(f x).length<=b):(l.flatMap f).length<=l.length*b:=by
 rw[List.flatMap_def]
 have:=Dv7 (ls:=l.map f) (b:=b) fun x hx=>by
  obtain⟨y,hy,rfl⟩:=List.mem_map.1 hx
  exact h y hy
 rwa [List.length_map] at this
theorem Ck2{cs:List Col}{l:List Rc}{n:Nat}{b:List UInt8}(h:b∈chs cs l n):∃i,i<n/\b=chB cs l i:=by
 obtain⟨i,hi,rfl⟩:=List.mem_map.1 h
 exact⟨i,List.mem_range.1 hi,rfl⟩
structure ZBd(z:Zn):Prop where
 r0:0<=z.rows
 r1:z.rows<=1024
 u0:0<=z.nulls
 u1:z.nulls<=1024
 mn:Nrm z.mn
 mx:Nrm z.mx
 mi:-9223372036854775808<=z.mn.n/\z.mn.n<=9223372036854775807
 xi:-9223372036854775808<=z.mx.n/\z.mx.n<=9223372036854775807
 ms:z.mn.s.size<=64
 xs:z.mx.s.size<=64
theorem Er0{ty:Int}{l:List Vl}(hl:l.length<=1024)(h:∀x∈l,Vok x):ZBd (zof ty l):=by
 have hn:=Bx8 ty l
 have hm:∀m,(∀sg,isM ty sg l m->(-9223372036854775808<=m.n/\m.n<=9223372036854775807)/\m.s.size<=64):=fun m sg hm=>by
  rcases hm with⟨_,rfl⟩ | ⟨h1,_,_⟩
  ·exact⟨⟨by decide,by decide⟩,by decide⟩
  ·exact⟨(h m h1).2,(h m h1).1⟩
 obtain⟨i1,i2⟩:=Ci2 ty l
 obtain⟨n1,n2⟩:=Cf6 ty l
 exact⟨Int.natCast_nonneg _,(by show(l.length:Int)<=1024;omega),Int.natCast_nonneg _,(by show((stz ty l).1:Int)<=1024;omega),n1,n2,(hm _ _ i1).1,(hm _ _ i2).1,(hm _ _ i1).2,(hm _ _ i2).2⟩
theorem ZBd.len{z:Zn}(h:ZBd z):(Bs8 z).length<=190:=by
 have l1:=Aa5 (n:=z.rows.toNat) (by have:=h.r1;omega)
 have l2:=Aa5 (n:=z.nulls.toNat) (by have:=h.u1;omega)
 have l3:=Go.ZN.putV_len (b:=z.mn.nu) (s:=z.mn.s) (wf_bd h.mi) (by have:=h.ms;omega)
 have l4:=Go.ZN.putV_len (b:=z.mx.nu) (s:=z.mx.s) (wf_bd h.xi) (by have:=h.xs;omega)
 have h3:=h.ms
 have h4:=h.xs
 unfold Bs8
 simp only[Q5]
 omega
theorem Dg9{cs:List Col}{l:List Rc}{n:Nat}{z:Zn}(h:z∈zns cs l n):∃i,i<n/\z=zof (cs.getD i col0).ty (Go.RS.colL i l):=by
 obtain⟨i,hi,rfl⟩:=List.mem_map.1 h
 exact⟨i,List.mem_range.1 hi,rfl⟩
theorem Er1{cs:List Col}{key:Int}{l:List Rc}(h:Ad9 cs key=0)(hl:l.length<=1024)(ho:∀r∈l,Ag3 cs r=true)(hb:InR l):∀z∈zns cs l cs.length,ZBd z:=by
 intro z hz
 obtain⟨i,hi,rfl⟩:=Dg9 hz
 have:=Er0 (ty:=(cs.getD i col0).ty) (l:=Go.RS.colL i l) (by rw[←Aj9 hi,Af6];exact hl) (by rw[←Aj9 hi];exact Bk6 h ho hb i)
 exact this
theorem Be1{v:Vl}{q:Nat}(hv:Vok v)(hq:q<=1099511627776):(Aj0 v q).length<=100:=by
 have l1:=Go.ZN.putV_len (b:=v.nu) (s:=v.s) (wf_bd hv.2) (by have:=hv.1;omega)
 have l2:=Aa5 (n:=q) (by omega)
 have:=hv.1
 unfold Aj0
 rw[Q5]
 omega
theorem Ca7{cs:List Col}{key:Int}{r:Rc}(h:Ad9 cs key=0)(ho:Ag3 cs r=true):∃x,r.row[key.toNat]?=some x/\Ac9 key.toNat r=x/\Ae6 (Be6 cs key) (cs.getD key.toNat col0).nu x=0:=by
 obtain⟨_,_,_,h4,h5⟩:=Ad7 h
 have hr:=(Ae2 ho).2.2
 have hl:=Af1 hr
 have hk:key.toNat<r.row.length:=by omega
 have hg:r.row[key.toNat]?=some r.row[key.toNat]:=Q7 hk
 exact⟨_,hg,Fb9 hg,Cd1 hr hg⟩
theorem Bi9{cs:List Col}{key:Int}{r:Rc}{l:List Rc}(h:Ad9 cs key=0)(ho:∀r∈l,Ag3 cs r=true)(hb:InR l)(hr:r∈l):Vok (Ac9 key.toNat r):=by
 obtain⟨x,h1,h2,h3⟩:=Ca7 h (ho r hr)
 obtain⟨_,_,_,h4,h5⟩:=Ad7 h
 have hT:=Ay1 h key.toNat
 rw[Am3 (by omega)] at hT
 rw[h2]
 exact⟨Go.CK.chkV_size hT h3,hb r hr x (List.mem_of_getElem? h1)⟩
end Go.MP
namespace Go.MP
open RowKit VB VarM VS VL SC CK Go.ST MK RS ZN
section
variable {F G:ByteArray} {k:Nat}
structure Tail(F G:ByteArray)(k:Nat):Prop where
 le:k<=F.size
 eq:G=F.extract k F.size
theorem Tail.list(h:Tail F G k):G.data.toList=F.data.toList.drop k:=by
 rw[h.eq,Ad3,List.take_of_length_le]
 rw[List.length_drop,Aa1];exact Q1 _
theorem Tail.size(h:Tail F G k):G.size=F.size-k:=by rw[←Aa1,h.list,List.length_drop,Aa1]
theorem Tail.bN(h:Tail F G k)(i:Nat):Go.VB.bN G i=Go.VB.bN F (k+i):=by
 unfold Go.VB.bN
 rw[h.list,List.getD_eq_getElem?_getD,List.getElem?_drop,List.getD_eq_getElem?_getD]
theorem Tail.cut(h:Tail F G k)(i j:Nat):G.extract i j=F.extract (k+i) (k+j):=by
 rw[Aa8,Aa8,h.list,List.drop_drop,show k+j-(k+i)=j-i by omega]
end
section
variable (G:ByteArray)
def rdN(i:Int)(lim:Nat):Option (Nat×Int):=if(Aa2 G i).2.2=0/\(Aa2 G i).1<=lim then some ((Aa2 G i).1,(Aa2 G i).2.1) else none
def ksA(a:Int):Nat->Option (List Nat×Int)
 | 0=>some ([],a)
 | n+1=>match ksA a n with
   | none=>none
   | some (ks,p)=>if(Aa2 G p).2.2=0 then some (ks++[(Aa2 G p).1],(Aa2 G p).2.1) else none
def zsA(a:Int):Nat->Option (List Zn×Int)
 | 0=>some ([],a)
 | n+1=>match zsA a n with
   | none=>none
   | some (zs,p)=>if(As4 G p).2.2=0 then some (zs++[(As4 G p).1],(As4 G p).2.1) else none
def rdV(i:Int):Option (Vl×Int):=if(Ag9 G i).e=0 then some (⟨(Ag9 G i).nul,(Ag9 G i).n,(Ag9 G i).s⟩,(Ag9 G i).i) else none
def rdK(i:Int):Option (Vl×Nat×Int):=match rdV G i with
 | none=>none
 | some (v,p)=>match rdN G p 1099511627776 with
   | none=>none
   | some (q,p')=>some (v,q,p')
end
structure Opn where
 inf:Inf
 ks:List Nat
def Ec3:Opn:=⟨⟨0,[],vl0,0,vl0,0⟩,[]⟩
def Ai2(m:Nat)(G:ByteArray)(D:Nat):Option Opn:=
 match rdN G 0 1024 with
 | none=>none
 | some (n,a0)=>match ksA G a0 (m+1) with
   | none=>none
   | some (ks,a1)=>if ks.sum≠D then none else match zsA G a1 m with
     | none=>none
     | some (zs,a2)=>match rdK G a2 with
       | none=>none
       | some (lo,lq,a3)=>match rdK G a3 with
         | none=>none
         | some (hi,hq,a4)=>if a4=(G.size:Int) then some ⟨⟨n,zs,lo,lq,hi,hq⟩,ks⟩ else none
def okZ(cs:List Col)(rows:Nat)(i:Nat)(z:Zn):Bool:=decide (z.rows=(rows:Int))&&Er2 (cs.getD i col0).ty (cs.getD i col0).nu z
def Dp3(cs:List Col)(f:Inf):Bool:=(List.range f.zs.length).all fun i=>okZ cs f.rows i (f.zs.getD i zn0)
def okI(cs:List Col)(key:Int)(f:Inf):Bool:=
 decide (1<=f.rows)&&Dp3 cs f&&decide (Ae6 (Be6 cs key) (cs.getD key.toNat col0).nu f.lo=0)&&decide (Ae6 (Be6 cs key) (cs.getD key.toNat col0).nu f.hi=0)&&decide (Bm0 (Be6 cs key) f.lo f.lq f.hi f.hq<=0)
def Ba3(cs:List Col)(key:Int)(G:ByteArray)(D:Nat):Option Opn:=match Ai2 cs.length G D with
 | none=>none
 | some o=>if okI cs key o.inf=true then some o else none
def Ap6(file:ByteArray):Nat:=
 if file.size<12 then 10
 else if file.size<Ac6 file (file.size-8)+12 then 10
 else if file.extract 0 4≠str mkB\/file.extract (file.size-4) file.size≠str mkB\/Ac6 file (file.size-8)<8 then 2
 else if Ac6 file (file.size-12)≠Ap1 (file.extract (file.size-8-Ac6 file (file.size-8)) (file.size-12)).data.toList then 9
 else 0
def Be7(file:ByteArray):Nat:=file.size-8-Ac6 file (file.size-8)
def At9(file:ByteArray):ByteArray:=file.extract (Be7 file) (file.size-12)
def opn(cs:List Col)(key:Int)(file:ByteArray):Nat×Opn:=
 if Ad9 cs key≠0 then(Ad9 cs key,Ec3)
 else if Ap6 file≠0 then(Ap6 file,Ec3)
 else if Ac6 (At9 file) 0≠IDN cs key then(1,Ec3)
 else match Ba3 cs key ((At9 file).extract 4 (At9 file).size) (Be7 file-4) with
  | none=>(2,Ec3)
  | some o=>(0,o)
def Bd2(file:ByteArray)(o:Opn)(i:Nat):ByteArray:=file.extract (4+(o.ks.take i).sum) (4+(o.ks.take (i+1)).sum)
def At8(cs:List Col)(file:ByteArray)(o:Opn)(i:Nat):List Vl×Nat:=
 if(At7 (Ak2 cs i).ty (Ak2 cs i).nu (Bd2 file o i)).2≠0 then([],(At7 (Ak2 cs i).ty (Ak2 cs i).nu (Bd2 file o i)).2)
 else if(At7 (Ak2 cs i).ty (Ak2 cs i).nu (Bd2 file o i)).1.length≠o.inf.rows then([],2)
 else((At7 (Ak2 cs i).ty (Ak2 cs i).nu (Bd2 file o i)).1,0)
def Dg5(cs:List Col)(key:Int)(file:ByteArray)(i:Int):List Vl×Nat:=
 if(opn cs key file).1≠0 then([],(opn cs key file).1)
 else if i<0\/(cs.length:Int)<i then([],4)
 else At8 cs file (opn cs key file).2 i.toNat
def Cz5(cs:List Col)(file:ByteArray)(o:Opn)(k n:Nat):List Vl:=(List.range k).map fun i=>(At8 cs file o i).1.getD n vl0
def recD(cs:List Col)(file:ByteArray)(o:Opn)(n:Nat):Rc:=⟨((At8 cs file o cs.length).1.getD n vl0).n,Cz5 cs file o cs.length n⟩
def Am0(cs:List Col)(file:ByteArray)(o:Opn):List Rc:=(List.range o.inf.rows).map (recD cs file o)
def De4(cs:List Col)(file:ByteArray)(o:Opn):Nat:=fe ((List.range (cs.length+1)).map fun i=>(At8 cs file o i).2)
open Classical in
noncomputable def Bw8(cs:List Col)(key:Int)(file:ByteArray):List Rc×Nat:=
 if(opn cs key file).1≠0 then([],(opn cs key file).1)
 else if De4 cs file (opn cs key file).2≠0 then([],De4 cs file (opn cs key file).2)
 else if Ak3 cs key (Am0 cs file (opn cs key file).2)=true/\Ac7 cs key (Am0 cs file (opn cs key file).2)=(opn cs key file).2.inf then(Am0 cs file (opn cs key file).2,0)
 else([],2)
end Go.MP
namespace Go.P
open RowKit VB VL VS ZN CK VarM MP
theorem Ct2(a p r:List UInt8)(k:Nat)(hk:k<=4096)(hp:p=Aa4 k):Aj1 (str (a++(p++r))) (a.length:Nat)=(k,(a.length:Int)+p.length,0):=by
 unfold Aj1
 rw[Bb1 a p r k (by omega) hp,if_neg (fun h=>h rfl),if_neg (by simp only;omega)]
theorem Du1(a r:List UInt8){z:Zn}(h:ZBd z):As4 (str (a++(Bs8 z++r))) (a.length:Nat)=(z,(a.length:Int)+(Bs8 z).length,0):=by
 obtain⟨Ab,Aa,⟨mb,mi,ms⟩,⟨xb,xi,xs⟩⟩:=z
 have h1:=h.r0;have h2:=h.r1;have h3:=h.u0;have h4:=h.u1
 simp only at h1 h2 h3 h4
 obtain⟨k,rfl⟩:=Int.eq_ofNat_of_zero_le h1
 obtain⟨j,rfl⟩:=Int.eq_ofNat_of_zero_le h3
 have hp:Bs8 ⟨(k:Int),(j:Int),⟨mb,mi,ms⟩,⟨xb,xi,xs⟩⟩=Aa4 k++(Aa4 j++(Ai9 mb mi ms++Ai9 xb xi xs)):=by
  unfold Bs8;simp only[Int.toNat_natCast,List.append_assoc]
 rw[hp]
 have e1:=Ct2 a (Aa4 k) (Aa4 j++(Ai9 mb mi ms++Ai9 xb xi xs)++r) k (by omega) rfl
 have e2:=Ct2 (a++Aa4 k) (Aa4 j) (Ai9 mb mi ms++Ai9 xb xi xs++r) j (by omega) rfl
 have e3:=Bu6 (a++Aa4 k++Aa4 j) (Ai9 xb xi xs++r) mb mi ms (wf_bd h.mi) (by have:=h.ms;simp only at this;omega) (Cr5 h.mn)
 have e4:=Bu6 (a++Aa4 k++Aa4 j++Ai9 mb mi ms) r xb xi xs (wf_bd h.xi) (by have:=h.xs;simp only at this;omega) (Cr5 h.mx)
 have s1:str (a++(Aa4 k++(Aa4 j++(Ai9 mb mi ms++Ai9 xb xi xs))++r))=str (a++(Aa4 k++(Aa4 j++(Ai9 mb mi ms++Ai9 xb xi xs)++r))):=by simp
 have s2:str (a++(Aa4 k++(Aa4 j++(Ai9 mb mi ms++Ai9 xb xi xs)++r)))=str (a++Aa4 k++(Aa4 j++(Ai9 mb mi ms++Ai9 xb xi xs++r))):=by simp
 have s3:str (a++(Aa4 k++(Aa4 j++(Ai9 mb mi ms++Ai9 xb xi xs)++r)))=str (a++Aa4 k++Aa4 j++(Ai9 mb mi ms++(Ai9 xb xi xs++r))):=by simp
 have s4:str (a++(Aa4 k++(Aa4 j++(Ai9 mb mi ms++Ai9 xb xi xs)++r)))=str (a++Aa4 k++Aa4 j++Ai9 mb mi ms++(Ai9 xb xi xs++r)):=by simp
 rw[s1]
 rw[←s2] at e2
 rw[←s3] at e3
 rw[←s4] at e4
 have i1:(a.length:Int)+(Aa4 k).length=((a++Aa4 k).length:Nat):=by simp
 have i2:((a++Aa4 k).length:Int)+(Aa4 j).length=((a++Aa4 k++Aa4 j).length:Nat):=by simp;omega
 have i3:((a++Aa4 k++Aa4 j).length:Int)+(Ai9 mb mi ms).length=((a++Aa4 k++Aa4 j++Ai9 mb mi ms).length:Nat):=by simp;omega
 rw[i1] at e1
 rw[i2] at e2
 rw[i3] at e3
 rw[Du2 e1 e2 e3 e4]
 simp only[Q5,Int.natCast_add,Prod.mk.injEq,true_and,and_true]
 omega
end Go.P
namespace Go.MP
open RowKit VB VarM VS VL SC CK Go.ST MK RS ZN
theorem Ap7(a p r:List UInt8){i j:Nat}(hi:i=a.length)(hj:j=a.length+p.length):(str (a++(p++r))).extract i j=str p:=by
 subst hi hj
 rw[Aa8,Ab7,List.drop_left,Nat.add_sub_cancel_left,List.take_left]
theorem Br3(a r:List UInt8){n i:Nat}(hn:n<4294967296)(hi:i=a.length):Ac6 (str (a++(Ad8 n++r))) i=n:=by
 subst hi
 unfold Ac6
 rw[Aj7 (i:=0) _ (by omega),Aj7 (i:=1) _ (by omega),Aj7 (i:=2) _ (by omega),Aj7 (i:=3) _ (by omega)]
 have e0:(((Ad8 n++r)).getD 0 0).toNat=n%256:=Aq3 n
 have e1:(((Ad8 n++r)).getD 1 0).toNat=n/256%256:=Aq3 _
 have e2:(((Ad8 n++r)).getD 2 0).toNat=n/65536%256:=Aq3 _
 have e3:(((Ad8 n++r)).getD 3 0).toNat=n/16777216%256:=Aq3 _
 rw[e0,e1,e2,e3]
 omega
theorem Ab1(n:Nat):(Ad8 n).length=4:=rfl
theorem Ab0:mkB.length=4:=rfl
theorem Ad5(b:List UInt8):(Ac3 b).length=b.length+4:=by unfold Ac3;rw[Q5,Ab1]
section
variable {ch:List (List UInt8)} {b data rest file:List UInt8}
def Ab6(data b:List UInt8):List UInt8:=mkB++(data++(Ac3 b++(Ad8 (Ac3 b).length++mkB)))
theorem Af0(ch:List (List UInt8))(b:List UInt8):Bu8 ch b=Ab6 ch.flatten b:=by unfold Bu8 Ab6;simp only[List.append_assoc]
theorem Af9:(str (Ab6 data b)).size=data.length+b.length+16:=by
 unfold Ab6
 rw[Aa3]
 simp only[Q5,Ab1,Ab0,Ad5]
 omega
theorem Bl5(hb:b.length+4<4294967296):Ac6 (str (Ab6 data b)) ((str (Ab6 data b)).size-8)=b.length+4:=by
 rw[Af9]
 have h:Ab6 data b=(mkB++(data++Ac3 b))++(Ad8 (b.length+4)++mkB):=by unfold Ab6;rw[Ad5];simp only[List.append_assoc]
 rw[h]
 exact Br3 _ _ hb (by simp only[Q5,Ab0,Ad5];omega)
theorem Dg0:Ac6 (str (Ab6 data b)) ((str (Ab6 data b)).size-12)=Ap1 b:=by
 rw[Af9]
 have h:Ab6 data b=(mkB++(data++b))++(Ad8 (Ap1 b)++(Ad8 (Ac3 b).length++mkB)):=by unfold Ab6 Ac3;simp only[List.append_assoc]
 rw[h]
 exact Br3 _ _ (Aq8 b) (by simp only[Q5,Ab0];omega)
theorem Az5(hb:b.length+4<4294967296):Be7 (str (Ab6 data b))=data.length+4:=by
 unfold Be7
 rw[Bl5 hb,Af9]
 omega
theorem Az4(hb:b.length+4<4294967296):At9 (str (Ab6 data b))=str b:=by
 unfold At9
 rw[Az5 hb,Af9]
 have h:Ab6 data b=(mkB++data)++(b++(Ad8 (Ap1 b)++(Ad8 (Ac3 b).length++mkB))):=by unfold Ab6 Ac3;simp only[List.append_assoc]
 rw[h]
 exact Ap7 _ _ _ (by simp only[Q5,Ab0];omega) (by simp only[Q5,Ab0];omega)
theorem Bl6(hb:b.length+4<4294967296)(h4:4<=b.length):Ap6 (str (Ab6 data b))=0:=by
 have hf:=Az4 (data:=data) hb
 unfold At9 Be7 at hf
 unfold Ap6
 rw[Bl5 hb] at hf⊢
 rw[hf,Dg0,Af9]
 have h1:(str (Ab6 data b)).extract 0 4=str mkB:=by
  have h:Ab6 data b=[]++(mkB++(data++(Ac3 b++(Ad8 (Ac3 b).length++mkB)))):=rfl
  rw[h]
  exact Ap7 _ _ _ rfl rfl
 have h2:(str (Ab6 data b)).extract (data.length+b.length+16-4) (data.length+b.length+16)=str mkB:=by
  have h:Ab6 data b=(mkB++(data++(Ac3 b++Ad8 (Ac3 b).length)))++(mkB++[]):=by unfold Ab6;simp only[List.append_assoc,List.append_nil]
  rw[h]
  exact Ap7 _ _ _ (by simp only[Q5,Ab0,Ad5,Ab1];omega) (by simp only[Q5,Ab0,Ad5,Ab1];omega)
 rw[if_neg (by omega),if_neg (by omega),if_neg (by rw[h1,h2];simp;omega),if_neg (fun h=>h rfl)]
end
theorem Dr7(ch:List (List UInt8))(Ab Aa:List UInt8)(hl:∀b∈ch,b.length<18446744073709551616):∀n,n<=ch.length->ksA (str (Ab++(Ae4 ch++Aa))) (Ab.length:Nat) n=some ((ch.take n).map List.length,(Ab.length:Int)+(Ae4 (ch.take n)).length)
 | 0,_=>by simp[ksA,Ae4]
 | n+1,hn=>by
   have ih:=Dr7 ch Ab Aa hl n (by omega)
   have hg:ch[n]?=some ch[n]:=Q7 (by omega)
   have ht:ch.take (n+1)=ch.take n++[ch[n]]:=by rw[List.take_add_one,hg];rfl
   have hc:ch=ch.take n++(ch[n]::ch.drop (n+1)):=by rw[←List.drop_eq_getElem_cons,List.take_append_drop]
   have hs:Ae4 ch=Ae4 (ch.take n)++(Aa4 ch[n].length++Ae4 (ch.drop (n+1))):=by
    conv=>lhs;rw[hc]
    unfold Ae4;rw[List.flatMap_append,List.flatMap_cons]
   have e:=Bb1 (Ab++Ae4 (ch.take n)) (Aa4 ch[n].length) (Ae4 (ch.drop (n+1))++Aa) ch[n].length (hl _ (List.getElem_mem _)) rfl
   have hS:str (Ab++(Ae4 ch++Aa))=str ((Ab++Ae4 (ch.take n))++(Aa4 ch[n].length++(Ae4 (ch.drop (n+1))++Aa))):=by rw[hs];simp only[List.append_assoc]
   have hp:(Ab.length:Int)+(Ae4 (ch.take n)).length=((Ab++Ae4 (ch.take n)).length:Nat):=by rw[Q5];omega
   unfold ksA
   rw[ih]
   simp only
   rw[hp,hS,e]
   simp only[if_true]
   rw[ht,List.map_append,As2,Q5,Q5]
   simp only[List.map_cons,List.map_nil,Option.some.injEq,Prod.mk.injEq,true_and]
   omega
theorem Dg7(zs:List Zn)(Ab Aa:List UInt8)(hz:∀z∈zs,ZBd z):∀n,n<=zs.length->zsA (str (Ab++(Ap4 zs++Aa))) (Ab.length:Nat) n=some (zs.take n,(Ab.length:Int)+(Ap4 (zs.take n)).length)
 | 0,_=>by simp[zsA,Ap4]
 | n+1,hn=>by
   have ih:=Dg7 zs Ab Aa hz n (by omega)
   have hg:zs[n]?=some zs[n]:=Q7 (by omega)
   have ht:zs.take (n+1)=zs.take n++[zs[n]]:=by rw[List.take_add_one,hg];rfl
   have hc:zs=zs.take n++(zs[n]::zs.drop (n+1)):=by rw[←List.drop_eq_getElem_cons,List.take_append_drop]
   have hs:Ap4 zs=Ap4 (zs.take n)++(Bs8 zs[n]++Ap4 (zs.drop (n+1))):=by
    conv=>lhs;rw[hc]
    unfold Ap4;rw[List.flatMap_append,List.flatMap_cons]
   have e:=Du1 (Ab++Ap4 (zs.take n)) (Ap4 (zs.drop (n+1))++Aa) (hz _ (List.getElem_mem (by omega:n<zs.length)))
   have hS:str (Ab++(Ap4 zs++Aa))=str ((Ab++Ap4 (zs.take n))++(Bs8 zs[n]++(Ap4 (zs.drop (n+1))++Aa))):=by rw[hs];simp only[List.append_assoc]
   have hp:(Ab.length:Int)+(Ap4 (zs.take n)).length=((Ab++Ap4 (zs.take n)).length:Nat):=by rw[Q5];omega
   unfold zsA
   rw[ih]
   simp only
   rw[hp,hS,e]
   simp only[if_true]
   rw[ht,Bf7,Q5,Q5]
   simp only[Option.some.injEq,Prod.mk.injEq,true_and]
   omega
theorem Dn5(a r:List UInt8){v:Vl}{q:Nat}(hv:Vok v)(h0:v.nu=true->v.n=0/\v.s=⟨#[]⟩)(hq:q<=1099511627776):rdK (str (a++(Aj0 v q++r))) (a.length:Nat)=some (v,q,(a.length:Int)+(Aj0 v q).length):=by
 obtain⟨nu,n,s⟩:=v
 have e1:=Bu6 a (Aa4 q++r) nu n s (wf_bd hv.2) (by have:=hv.1;simp only at this;omega) h0
 have e2:=Bb1 (a++Ai9 nu n s) (Aa4 q) r q (by omega) rfl
 have hS:str (a++(Aj0 ⟨nu,n,s⟩ q++r))=str (a++(Ai9 nu n s++(Aa4 q++r))):=by unfold Aj0;simp only[List.append_assoc]
 have Aa:str (a++(Ai9 nu n s++(Aa4 q++r)))=str (a++Ai9 nu n s++(Aa4 q++r)):=by simp only[List.append_assoc]
 have hp:(a.length:Int)+(Ai9 nu n s).length=((a++Ai9 nu n s).length:Nat):=by rw[Q5];omega
 unfold rdK rdV
 rw[hS,e1]
 simp only[if_true]
 unfold rdN
 rw[hp,Aa,e2]
 simp only[hq,true_and,if_true]
 unfold Aj0
 rw[Q5,Q5]
 simp only[Option.some.injEq,Prod.mk.injEq,true_and]
 omega
structure IBd(m:Nat)(ch:List (List UInt8))(f:Inf):Prop where
 n:f.rows<=1024
 cl:ch.length=m+1
 lens:∀b∈ch,b.length<=330004
 zl:f.zs.length=m
 zs:∀z∈f.zs,ZBd z
 lo:Vok f.lo
 l0:f.lo.nu=true->f.lo.n=0/\f.lo.s=⟨#[]⟩
 lq:f.lq<=1099511627776
 hi:Vok f.hi
 h0:f.hi.nu=true->f.hi.n=0/\f.hi.s=⟨#[]⟩
 hq:f.hq<=1099511627776
def bodyB(ch:List (List UInt8))(f:Inf):List UInt8:=Aa4 f.rows++(Ae4 ch++(Ap4 f.zs++(Aj0 f.lo f.lq++Aj0 f.hi f.hq)))
theorem Bj8(id:Nat)(ch:List (List UInt8))(f:Inf):Ay6 id ch f=Ad8 id++Go.MP.bodyB ch f:=by unfold Ay6 Go.MP.bodyB;simp only[List.append_assoc]
theorem Dv4{m:Nat}{ch:List (List UInt8)}{f:Inf}(h:IBd m ch f):Ai2 m (str (Go.MP.bodyB ch f)) ch.flatten.length=some ⟨f,ch.map List.length⟩:=by
 have hn:=h.n
 have e1:=Bb1 [] (Aa4 f.rows) (Ae4 ch++(Ap4 f.zs++(Aj0 f.lo f.lq++Aj0 f.hi f.hq))) f.rows (by omega) rfl
 have e2:=Dr7 ch (Aa4 f.rows) (Ap4 f.zs++(Aj0 f.lo f.lq++Aj0 f.hi f.hq)) (fun b hb=>by have:=h.lens b hb;omega) (m+1) (by rw[h.cl];exact Q1 _)
 have e3:=Dg7 f.zs (Aa4 f.rows++Ae4 ch) (Aj0 f.lo f.lq++Aj0 f.hi f.hq) h.zs m (by rw[h.zl];exact Q1 _)
 have e4:=Dn5 (Aa4 f.rows++Ae4 ch++Ap4 f.zs) (Aj0 f.hi f.hq) h.lo h.l0 h.lq
 have e5:=Dn5 (Aa4 f.rows++Ae4 ch++Ap4 f.zs++Aj0 f.lo f.lq) [] h.hi h.h0 h.hq
 have hB:Go.MP.bodyB ch f=[]++(Aa4 f.rows++(Ae4 ch++(Ap4 f.zs++(Aj0 f.lo f.lq++Aj0 f.hi f.hq)))):=rfl
 have Ad:Go.MP.bodyB ch f=Aa4 f.rows++(Ae4 ch++(Ap4 f.zs++(Aj0 f.lo f.lq++Aj0 f.hi f.hq))):=rfl
 have Ac:Go.MP.bodyB ch f=Aa4 f.rows++Ae4 ch++(Ap4 f.zs++(Aj0 f.lo f.lq++Aj0 f.hi f.hq)):=by unfold Go.MP.bodyB;simp only[List.append_assoc]
 have Aa:Go.MP.bodyB ch f=Aa4 f.rows++Ae4 ch++Ap4 f.zs++(Aj0 f.lo f.lq++Aj0 f.hi f.hq):=by unfold Go.MP.bodyB;simp only[List.append_assoc]
 have Ae:Go.MP.bodyB ch f=Aa4 f.rows++Ae4 ch++Ap4 f.zs++Aj0 f.lo f.lq++(Aj0 f.hi f.hq++[]):=by unfold Go.MP.bodyB;simp only[List.append_assoc,List.append_nil]
 rw[←hB] at e1
 rw[←Ad,List.take_of_length_le (by rw[h.cl];exact Q1 _)] at e2
 rw[←Ac,List.take_of_length_le (by rw[h.zl];exact Q1 _)] at e3
 rw[←Aa] at e4
 rw[←Ae] at e5
 have p1:((([]:List UInt8).length:Nat):Int)+(Aa4 f.rows).length=((Aa4 f.rows).length:Nat):=by simp
 have p2:((Aa4 f.rows).length:Int)+(Ae4 ch).length=((Aa4 f.rows++Ae4 ch).length:Nat):=by simp only[Q5];omega
 have p3:((Aa4 f.rows++Ae4 ch).length:Int)+(Ap4 f.zs).length=((Aa4 f.rows++Ae4 ch++Ap4 f.zs).length:Nat):=by simp only[Q5];omega
 have p4:((Aa4 f.rows++Ae4 ch++Ap4 f.zs).length:Int)+(Aj0 f.lo f.lq).length=((Aa4 f.rows++Ae4 ch++Ap4 f.zs++Aj0 f.lo f.lq).length:Nat):=by simp only[Q5];omega
 have p5:((Aa4 f.rows++Ae4 ch++Ap4 f.zs++Aj0 f.lo f.lq).length:Int)+(Aj0 f.hi f.hq).length=((str (Go.MP.bodyB ch f)).size:Nat):=by rw[Aa3,Aa];simp only[Q5];omega
 rw[p1] at e1
 rw[p2] at e2
 rw[p3] at e3
 rw[p4] at e4
 rw[p5] at e5
 have Ab:rdN (str (Go.MP.bodyB ch f)) 0 1024=some (f.rows,(((Aa4 f.rows).length:Nat):Int)):=by
  unfold rdN
  rw[show(0:Int)=((([]:List UInt8).length:Nat):Int) from rfl,e1]
  simp only[hn,true_and,if_true]
 unfold Ai2
 rw[Ab]
 simp only
 rw[e2]
 simp only
 rw[if_neg (by rw[List.length_flatten];exact fun h=>h rfl),e3]
 simp only
 rw[e4]
 simp only
 rw[e5]
 simp only[if_true]
theorem Fd7(n:Nat)(r:List UInt8):(str (Ad8 n++r)).extract 4 (str (Ad8 n++r)).size=str r:=by
 have h:Ad8 n++r=Ad8 n++(r++[]):=by rw[List.append_nil]
 rw[h]
 exact Ap7 _ _ _ rfl (by rw[Aa3];simp only[Q5,Ab1,Q8];omega)
theorem Bf4{m:Nat}{ch:List (List UInt8)}{f:Inf}(h:IBd m ch f)(Aa:m<=12)(id:Nat):4<=(Ay6 id ch f).length/\(Ay6 id ch f).length<=10000:=by
 have l1:=Aa5 (n:=f.rows) (by have:=h.n;omega)
 have l2:(Ae4 ch).length<=ch.length*10:=Bj9 fun b hb=>Aa5 (by have:=h.lens b hb;omega)
 have l3:(Ap4 f.zs).length<=f.zs.length*190:=Bj9 fun z hz=>(h.zs z hz).len
 have l4:=Be1 h.lo h.lq
 have l5:=Be1 h.hi h.hq
 rw[h.cl] at l2
 rw[h.zl] at l3
 rw[Bj8]
 unfold Go.MP.bodyB
 simp only[Q5,Ab1]
 omega
theorem Ez5{cs:List Col}{key:Int}{ch:List (List UInt8)}{f:Inf}(hc:Ad9 cs key=0)(h:IBd cs.length ch f)(hi:okI cs key f=true):
   opn cs key (str (Bu8 ch (Ay6 (IDN cs key) ch f)))=(0,⟨f,ch.map List.length⟩):=by
 have Ab:=(Ad7 hc).2.1
 obtain⟨b1,b2⟩:=Bf4 h Ab (IDN cs key)
 have Aa:IDN cs key<4294967296:=by rw[Bq6 hc];exact Aq8 _
 have hb:(Ay6 (IDN cs key) ch f).length+4<4294967296:=by omega
 rw[Af0]
 unfold opn
 rw[if_neg (by simp[hc]),Bl6 hb b1,if_neg (fun h=>h rfl),Az4 hb,Az5 hb,Bj8,Fd7]
 have hw:Ac6 (str (Ad8 (IDN cs key)++Go.MP.bodyB ch f)) 0=IDN cs key:=Br3 [] _ Aa rfl
 rw[hw,if_neg (fun h=>h rfl),show ch.flatten.length+4-4=ch.flatten.length by omega]
 unfold Ba3
 rw[Dv4 h]
 simp only[hi,if_true]
theorem Ep1(ch:List (List UInt8))(b:List UInt8)(f:Inf){i:Nat}(hi:i<ch.length):Bd2 (str (Bu8 ch b)) ⟨f,ch.map List.length⟩ i=str ch[i]:=by
 have hg:ch[i]?=some ch[i]:=Q7 hi
 have hc:ch=ch.take i++(ch[i]::ch.drop (i+1)):=by rw[←List.drop_eq_getElem_cons,List.take_append_drop]
 have hf:ch.flatten=(ch.take i).flatten++(ch[i]++(ch.drop (i+1)).flatten):=by
  conv=>lhs;rw[hc]
  rw[List.flatten_append,List.flatten_cons]
 have hs:∀n,((ch.map List.length).take n).sum=((ch.take n).flatten).length:=fun n=>by rw[List.length_flatten,List.map_take]
 unfold Bd2
 simp only
 rw[hs,hs,List.take_add_one,hg,List.flatten_append]
 have h:Bu8 ch b=(mkB++(ch.take i).flatten)++(ch[i]++((ch.drop (i+1)).flatten++(Ac3 b++(Ad8 (Ac3 b).length++mkB)))):=by
  unfold Bu8;rw[hf];simp only[List.append_assoc]
 rw[h]
 refine Ap7 _ _ _ (by simp only[Q5,Ab0]) ?_
 simp only[Option.toList_some,List.flatten_cons,List.flatten_nil,Q5,List.append_nil,Ab0]
 omega
end Go.MP
namespace Go.MP
open RowKit VB VarM VS VL SC CK Go.ST MK RS ZN
section
variable {cs:List Col} {key:Int} {l:List Rc}
theorem Ax7(h0:l.length≠0):l.getD 0 rc0∈l/\l[0]?=some (l.getD 0 rc0):=by
 have h:0<l.length:=by omega
 rw[List.getD_eq_getElem?_getD,Q7 h]
 exact⟨List.getElem_mem h,rfl⟩
theorem Bh3(h0:l.length≠0):l.getD (l.length-1) rc0∈l/\l[l.length-1]?=some (l.getD (l.length-1) rc0):=by
 have h:l.length-1<l.length:=by omega
 rw[List.getD_eq_getElem?_getD,Q7 h]
 exact⟨List.getElem_mem h,rfl⟩
theorem Cs5{r:Rc}(hc:Ad9 cs key=0)(ho:Ag3 cs r=true):(Ac9 key.toNat r).nu=true->(Ac9 key.toNat r).n=0/\(Ac9 key.toNat r).s=⟨#[]⟩:=by
 intro hn
 obtain⟨x,_,h2,h3⟩:=Ca7 hc ho
 obtain⟨_,_,_,h4,h5⟩:=Ad7 hc
 have hT:=Ay1 hc key.toNat
 rw[Am3 (by omega)] at hT
 rw[h2] at hn⊢
 have:=Bw3 hT h3 hn
 rw[this]
 exact⟨rfl,rfl⟩
theorem Cb1(S:Srt cs key l)(hl:l.length<=1024)(h0:l.length≠0)(hb:InR l):IBd cs.length (chs cs l (cs.length+1)) (Ac7 cs key l):=by
 obtain⟨f1,_⟩:=Ax7 h0
 obtain⟨g1,_⟩:=Bh3 h0
 have q1:=Ae2 (S.ok _ f1)
 have q2:=Ae2 (S.ok _ g1)
 refine⟨hl,Av1 ..,fun b hb'=>?_,Az7 ..,Er1 S.sch hl S.ok hb,Bi9 S.sch S.ok hb f1,Cs5 S.sch (S.ok _ f1),?_,Bi9 S.sch S.ok hb g1,Cs5 S.sch (S.ok _ g1),?_⟩
 ·obtain⟨i,_,rfl⟩:=Ck2 hb'
  exact(Ar2 S.sch hl S.ok hb i).2
 ·show(l.getD 0 rc0).seq.toNat<=_
  omega
 ·show(l.getD (l.length-1) rc0).seq.toNat<=_
  omega
theorem Ev2(S:Srt cs key l):∀(j:Nat)(a b:Rc),l[0]?=some a->l[j]?=some b->Ac8 (Be6 cs key) key.toNat a b<=0
 | 0,a,b,h1,h2=>by
   rw[h1] at h2
   cases h2
   have:=Bf1 (Be6 cs key) (Ac9 key.toNat a) a.seq (Ac9 key.toNat a) a.seq
   unfold Ac8
   omega
 | j+1,a,b,h1,h2=>by
   have hj:j+1<l.length:=(List.getElem?_eq_some_iff.1 h2).1
   have hg:l[j]?=some l[j]:=Q7 (by omega)
   have h3:=Ev2 S j a _ h1 hg
   have h4:=S.asc j _ _ hg h2
   exact Dz4 h3 (Int.le_of_lt h4)
theorem Eh8{f:Inf}(h:∀i z,f.zs[i]?=some z->okZ cs f.rows i z=true):Dp3 cs f=true:=by
 unfold Dp3
 rw[List.all_eq_true]
 intro i hi
 have Aa:i<f.zs.length:=List.mem_range.1 hi
 have hg:f.zs[i]?=some f.zs[i]:=Q7 Aa
 rw[List.getD_eq_getElem?_getD,hg]
 exact h i _ hg
theorem zns_at{n i:Nat}(hi:i<n):(zns cs l n)[i]?=some (zof (cs.getD i col0).ty (Go.RS.colL i l)):=by
 unfold zns
 rw[List.getElem?_map,List.getElem?_range hi];rfl
theorem okI_of(S:Srt cs key l)(hl:l.length<=1024)(h0:l.length≠0):okI cs key (Ac7 cs key l)=true:=by
 obtain⟨f1,f2⟩:=Ax7 h0
 obtain⟨g1,g2⟩:=Bh3 h0
 have q1:=Ae2 (S.ok _ f1)
 have q2:=Ae2 (S.ok _ g1)
 obtain⟨x1,_,e1,k1⟩:=Ca7 S.sch (S.ok _ f1)
 obtain⟨x2,_,e2,k2⟩:=Ca7 S.sch (S.ok _ g1)
 have hz:Dp3 cs (Ac7 cs key l)=true:=Eh8 fun i z hz=>by
  have hi:i<cs.length:=by
   have:=(List.getElem?_eq_some_iff.1 hz).1
   rwa [show(Ac7 cs key l).zs=zns cs l cs.length from rfl,Az7] at this
  rw[show(Ac7 cs key l).zs=zns cs l cs.length from rfl,zns_at hi] at hz
  cases hz
  have hT:=Ay1 S.sch i
  rw[Am3 hi] at hT
  have hv:=Cc8 S.ok i
  rw[Aj9 hi,Am3 hi] at hv
  unfold okZ
  rw[Ec8 hT (by rw[←Aj9 hi,Af6];omega) hv,Bool.and_true]
  refine Q4 ?_
  show((Go.RS.colL i l).length:Int)=(l.length:Nat)
  rw[←Aj9 hi,Af6]
 have Aa:=Ev2 S (l.length-1) _ _ f2 g2
 unfold Ac8 at Aa
 rw[←Int.toNat_of_nonneg q1.1,←Int.toNat_of_nonneg q2.1] at Aa
 unfold okI
 rw[hz,Q4 (show 1<=(Ac7 cs key l).rows by show 1<=l.length;omega),Q4 (show Ae6 (Be6 cs key) (cs.getD key.toNat col0).nu (Ac7 cs key l).lo=0 by show Ae6 _ _ (Ac9 key.toNat (l.getD 0 rc0))=0;rw[e1];exact k1),
  Q4 (show Ae6 (Be6 cs key) (cs.getD key.toNat col0).nu (Ac7 cs key l).hi=0 by show Ae6 _ _ (Ac9 key.toNat (l.getD (l.length-1) rc0))=0;rw[e2];exact k2),Q4 (show Bm0 (Be6 cs key) (Ac7 cs key l).lo (Ac7 cs key l).lq (Ac7 cs key l).hi (Ac7 cs key l).hq<=0 from Aa)]
 rfl
theorem Bo2(S:Srt cs key l)(hl:l.length<=1024)(h0:l.length≠0)(hb:InR l):opn cs key (str (Aa9 cs key l))=(0,⟨Ac7 cs key l,(chs cs l (cs.length+1)).map List.length⟩):=
 Ez5 S.sch (Cb1 S hl h0 hb) (okI_of S hl h0)
theorem Bp6{n i:Nat}(hi:i<n):(chs cs l n)[i]'(by rw[Av1];exact hi)=chB cs l i:=by
 unfold chs
 rw[List.getElem_map,List.getElem_range]
theorem Dz9(S:Srt cs key l)(hl:l.length<=1024)(hb:InR l)(i:Nat):At7 (Ak2 cs i).ty (Ak2 cs i).nu (str (chB cs l i))=(Bl9 cs l i,0):=by
 obtain⟨k,_,_,h3,h4,_⟩:=best_spec (Ak2 cs i).ty (Bl9 cs l i)
 unfold chB
 rw[h4]
 exact De5 (Ay1 S.sch i) h3 (by rw[Af6];omega) (Cc8 S.ok i) (Dy9 S.ok hb i)
theorem Ff8(b:List UInt8)(f:Inf){i:Nat}(hi:i<=cs.length):Bd2 (str (Bu8 (chs cs l (cs.length+1)) b)) ⟨f,(chs cs l (cs.length+1)).map List.length⟩ i=str (chB cs l i):=by
 rw[Ep1 _ b f (i:=i) (by rw[Av1];omega),Bp6 (by omega)]
theorem Bv7(S:Srt cs key l)(hl:l.length<=1024)(hb:InR l){i:Nat}(hi:i<=cs.length):At8 cs (str (Aa9 cs key l)) ⟨Ac7 cs key l,(chs cs l (cs.length+1)).map List.length⟩ i=(Bl9 cs l i,0):=by
 unfold At8 Aa9
 rw[Ff8 _ _ hi,Dz9 S hl hb]
 rw[if_neg (fun h=>h rfl),if_neg (by rw[Af6];exact fun h=>h rfl)]
theorem Cc6{file:ByteArray}{o:Opn}(h:∀i,i<=cs.length->(At8 cs file o i).2=0):De4 cs file o=0:=by
 refine Cj3 fun e he=>?_
 obtain⟨i,hi,rfl⟩:=List.mem_map.1 he
 exact h i (by have:=List.mem_range.1 hi;omega)
theorem Em9{file:ByteArray}{o:Opn}(h:De4 cs file o=0){i:Nat}(hi:i<=cs.length):(At8 cs file o i).2=0:=Cj2 h _ (List.mem_map.2 ⟨i,List.mem_range.2 (by omega),rfl⟩)
theorem Ff2{r:Rc}{n i:Nat}(hr:l[n]?=some r):(Go.RS.colL i l).getD n vl0=r.row.getD i ⟨true,0,⟨#[]⟩⟩:=by
 unfold Go.RS.colL
 rw[List.getD_eq_getElem?_getD,List.getElem?_map,hr];rfl
theorem Ey3(S:Srt cs key l)(hl:l.length<=1024)(hb:InR l):Am0 cs (str (Aa9 cs key l)) ⟨Ac7 cs key l,(chs cs l (cs.length+1)).map List.length⟩=l:=by
 refine List.ext_getElem? fun n=>?_
 unfold Am0
 simp only
 rw[List.getElem?_map]
 by_cases hn:n<l.length
 ·have hg:l[n]?=some l[n]:=Q7 hn
  rw[List.getElem?_range (show n<(Ac7 cs key l).rows from hn),hg,Option.map_some]
  congr 1
  have ho:=Ae2 (S.ok _ (List.getElem_mem hn))
  have Aa:=Af1 ho.2.2
  generalize hR:l[n]=R at *
  obtain⟨q,row⟩:=R
  unfold recD Cz5
  rw[Bv7 S hl hb (Q1 _),At0 (Nat.lt_irrefl _)]
  simp only at Aa
  congr 1
  ·unfold Bs4
   rw[List.getD_eq_getElem?_getD,List.getElem?_map,hg];rfl
  ·refine List.ext_getElem? fun i=>?_
   rw[List.getElem?_map]
   by_cases hi:i<cs.length
   ·rw[List.getElem?_range hi,Option.map_some,Bv7 S hl hb (Nat.le_of_lt hi)]
    simp only
    rw[Aj9 hi,Ff2 hg,List.getD_eq_getElem?_getD,Q7 (show i<row.length by omega)];rfl
   ·rw[List.getElem?_eq_none (by rw[List.length_range];omega),List.getElem?_eq_none (by omega)];rfl
 ·rw[List.getElem?_eq_none (by rw[List.length_range];show l.length<=n;omega),List.getElem?_eq_none (by omega)];rfl
theorem Ey5(h:Ak3 cs key l=true)(hl:l.length<=1024)(h0:l.length≠0)(hb:InR l):Bw8 cs key (str (Aa9 cs key l))=(l,0):=by
 have S:=By1 h
 unfold Bw8
 rw[Bo2 S hl h0 hb]
 simp only
 rw[if_neg (fun h=>h rfl),Cc6 (fun i hi=>by rw[Bv7 S hl hb hi]),if_neg (fun h=>h rfl),Ey3 S hl hb,if_pos ⟨h,rfl⟩]
theorem Ff3(S:Srt cs key l)(hl:l.length<=1024)(h0:l.length≠0)(hb:InR l){i:Nat}(hi:i<=cs.length):Dg5 cs key (str (Aa9 cs key l)) i=(Bl9 cs l i,0):=by
 unfold Dg5
 rw[Bo2 S hl h0 hb]
 simp only
 rw[if_neg (fun h=>h rfl),if_neg (by omega),Int.toNat_natCast,Bv7 S hl hb hi]
end
section
variable {cs:List Col} {key:Int} {l:List Rc}
theorem Cy9{b:List UInt8}(h:1<=b.length):Ac0 (str (Ac3 b))=0:=Au4 b h
def chg(T:List UInt8)(k:Nat)(x:UInt8):List UInt8:=T.take k++x::T.drop (k+1)
theorem Am5{T:List UInt8}{k:Nat}(h:k<T.length)(x:UInt8):(chg T k x).length=T.length:=by
 unfold chg;rw[Q5,List.length_take,Q6,List.length_drop];omega
theorem Az0(A B:List UInt8){k:Nat}(h:k<A.length)(x:UInt8):chg (A++B) k x=chg A k x++B:=by
 unfold chg
 rw[List.take_append_of_le_length (by omega),List.drop_append_of_le_length (by omega),List.append_assoc];rfl
theorem Aj6(A B:List UInt8){k:Nat}(h:A.length<=k)(x:UInt8):chg (A++B) k x=A++chg B (k-A.length) x:=by
 obtain⟨j,rfl⟩:∃j,k=A.length+j:=⟨k-A.length,by omega⟩
 unfold chg
 rw[Nat.add_sub_cancel_left,List.take_append,List.take_of_length_le (by omega),Nat.add_sub_cancel_left,List.append_assoc,Nat.add_assoc,List.drop_append,List.drop_eq_nil_of_le (by omega),List.nil_append,show A.length+(j+1)-A.length=j+1 by omega]
theorem Ev0{T:List UInt8}{k:Nat}{x y:UInt8}(hy:T[k]?=some y)(Aa:x≠y):chg T k x≠T:=by
 intro e
 have hk:=(List.getElem?_eq_some_iff.1 hy).1
 have h1:(chg T k x)[k]?=some x:=by
  unfold chg
  rw[List.getElem?_append_right (by rw[List.length_take];omega),List.length_take,Nat.min_eq_left (by omega),Nat.sub_self];rfl
 rw[e,hy] at h1
 cases h1
 exact Aa rfl
theorem By2{T:List UInt8}(h5:5<=T.length)(hs:Ac0 (str T)=0){k:Nat}{x y:UInt8}(hy:T[k]?=some y)(Aa:x≠y):Ac0 (str (chg T k x))=9:=by
 have hk:=(List.getElem?_eq_some_iff.1 hy).1
 by_cases h1:k+1<T.length
 ·have hz:T[k+1]?=some T[k+1]:=Q7 h1
  have h:=Bb9 h5 hs h1 (x':=x) (y':=T[k+1]) hy hz (fun h=>Aa h.1)
  have e:chg T k x=T.take k++[x,T[k+1]]++T.drop (k+2):=by
   unfold chg
   rw[List.append_assoc,List.drop_eq_getElem_cons h1];rfl
  rw[e];exact h
 ·obtain⟨j,rfl⟩:∃j,k=j+1:=⟨k-1,by omega⟩
  have hj:T[j]?=some (T[j]'(by omega)):=Q7 (by omega)
  have h:=Bb9 h5 hs (i:=j) (by omega) (x':=T[j]'(by omega)) (y':=x) hj hy (fun h=>Aa h.2)
  have e:chg T (j+1) x=T.take j++[T[j]'(by omega),x]++T.drop (j+2):=by
   unfold chg
   rw[List.take_add_one,hj]
   simp only[Option.toList_some,List.append_assoc,List.cons_append,List.nil_append]
  rw[e];exact h
theorem Fe5{ty:Int}{nu:Bool}{s:ByteArray}(hT:okT ty=true)(h:Ac0 s=9):At7 ty nu s=([],9):=by
 rw[Go.CK.decC_bad hT (by rw[h];decide),h]
def Ae0(m1 data s m2:List UInt8):List UInt8:=m1++(data++(s++(Ad8 s.length++m2)))
theorem Aq2{m1 data s m2:List UInt8}(h1:m1.length=4)(h2:m2.length=4):(str (Ae0 m1 data s m2)).size=data.length+s.length+12:=by
 unfold Ae0
 rw[Aa3]
 simp only[Q5,Ab1,h1,h2]
 omega
theorem Bx1{m1 data s m2:List UInt8}(h1:m1.length=4)(h2:m2.length=4)(hs:s.length<4294967296):Ac6 (str (Ae0 m1 data s m2)) ((str (Ae0 m1 data s m2)).size-8)=s.length:=by
 rw[Aq2 h1 h2]
 have h:Ae0 m1 data s m2=(m1++(data++s))++(Ad8 s.length++m2):=by unfold Ae0;simp only[List.append_assoc]
 rw[h]
 exact Br3 _ _ hs (by simp only[Q5,h1];omega)
theorem Bx2{m1 data s m2:List UInt8}(h1:m1.length=4)(h2:m2.length=4)(hs:s.length<4294967296)(Ab:m1≠mkB\/m2≠mkB):Ap6 (str (Ae0 m1 data s m2))=2:=by
 have e1:(str (Ae0 m1 data s m2)).extract 0 4=str m1:=by
  have h:Ae0 m1 data s m2=[]++(m1++(data++(s++(Ad8 s.length++m2)))):=rfl
  rw[h]
  exact Ap7 _ _ _ rfl (by rw[h1];rfl)
 have e2:(str (Ae0 m1 data s m2)).extract ((str (Ae0 m1 data s m2)).size-4) (str (Ae0 m1 data s m2)).size=str m2:=by
  rw[Aq2 h1 h2]
  have h:Ae0 m1 data s m2=(m1++(data++(s++Ad8 s.length)))++(m2++[]):=by unfold Ae0;simp only[List.append_assoc,List.append_nil]
  rw[h]
  exact Ap7 _ _ _ (by simp only[Q5,h1,Ab1];omega) (by simp only[Q5,h1,h2,Ab1];omega)
 have Aa:∀{a b:List UInt8},str a=str b->a=b:=fun h=>by
  have:=congrArg (fun s:ByteArray=>s.data.toList) h
  exact this
 unfold Ap6
 rw[Bx1 h1 h2 hs,e1,e2,Aq2 h1 h2,if_neg (by omega),if_neg (by omega),if_pos]
 rcases Ab with h | h
 ·exact .inl fun e=>h (Aa e)
 ·exact .inr (.inl fun e=>h (Aa e))
theorem Ed1{data s:List UInt8}(h8:8<=s.length)(hs:s.length<4294967296)(hn:Ac0 (str s)=9):Ap6 (str (Ae0 mkB data s mkB))=9:=by
 have e1:(str (Ae0 mkB data s mkB)).extract 0 4=str mkB:=by
  have h:Ae0 mkB data s mkB=[]++(mkB++(data++(s++(Ad8 s.length++mkB)))):=rfl
  rw[h]
  exact Ap7 _ _ _ rfl rfl
 have e2:(str (Ae0 mkB data s mkB)).extract ((str (Ae0 mkB data s mkB)).size-4) (str (Ae0 mkB data s mkB)).size=str mkB:=by
  rw[Aq2 Ab0 Ab0]
  have h:Ae0 mkB data s mkB=(mkB++(data++(s++Ad8 s.length)))++(mkB++[]):=by unfold Ae0;simp only[List.append_assoc,List.append_nil]
  rw[h]
  exact Ap7 _ _ _ (by simp only[Q5,Ab0,Ab1];omega) (by simp only[Q5,Ab0,Ab1];omega)
 have hc:s=s.take (s.length-4)++s.drop (s.length-4):=(List.take_append_drop _ _).symm
 have e3:(str (Ae0 mkB data s mkB)).extract (data.length+4) (data.length+s.length)=(str s).extract 0 ((str s).size-4):=by
  have hx:(str s).extract 0 ((str s).size-4)=str (s.take (s.length-4)):=by rw[Aa8,Ab7,Aa3,List.drop_zero,Nat.sub_zero]
  rw[hx]
  have h:Ae0 mkB data s mkB=(mkB++data)++(s.take (s.length-4)++(s.drop (s.length-4)++(Ad8 s.length++mkB))):=by
   unfold Ae0
   conv=>lhs;rw[hc]
   simp only[List.append_assoc,Q5,List.length_take,List.length_drop]
   rw[show min (s.length-4) s.length+(s.length-(s.length-4))=s.length by omega]
  rw[h]
  exact Ap7 _ _ _ (by simp only[Q5,Ab0];omega) (by simp only[Q5,List.length_take,Ab0];omega)
 have e4:Ac6 (str (Ae0 mkB data s mkB)) (data.length+s.length)=Ac6 (str s) ((str s).size-4):=by
  have hb:∀j,j<4->bN (str (Ae0 mkB data s mkB)) (data.length+s.length+j)=bN (str s) (s.length-4+j):=fun j hj=>by
   have h:Ae0 mkB data s mkB=(mkB++data)++(s++(Ad8 s.length++mkB)):=by unfold Ae0;simp only[List.append_assoc]
   rw[h,Aj7 (i:=s.length-4+j) _ (by simp only[Q5,Ab0];omega),Cx0,List.getD_eq_getElem?_getD,List.getElem?_append_left (by omega),List.getD_eq_getElem?_getD]
  unfold Ac6
  rw[Aa3,←hb 1 (by omega),←hb 2 (by omega),←hb 3 (by omega),show s.length-4=s.length-4+0 from rfl,←hb 0 (by omega)]
  rfl
 have h5:¬(str s).size<5:=by rw[Aa3];omega
 unfold Ac0 at hn
 rw[if_neg h5] at hn
 have Aa:Ac6 (str s) ((str s).size-4)≠Ap1 ((str s).extract 0 ((str s).size-4)).data.toList:=fun e=>by rw[if_neg (fun h=>h e)] at hn;cases hn
 unfold Ap6
 rw[Bx1 Ab0 Ab0 hs,e1,e2,Aq2 Ab0 Ab0,if_neg (by omega),if_neg (by omega),if_neg (by simp;omega),show data.length+s.length+12-12=data.length+s.length by omega,
  show data.length+s.length+12-8-s.length=data.length+4 by omega,e3,e4,if_pos Aa]
theorem Cq4{cs:List Col}{key:Int}{d1 d2 b:List UInt8}(hl:d1.length=d2.length)(hb:b.length+4<4294967296)(h4:4<=b.length):opn cs key (str (Ab6 d1 b))=opn cs key (str (Ab6 d2 b)):=by
 unfold opn
 rw[Bl6 hb h4,Bl6 hb h4,Az4 hb,Az4 hb,Az5 hb,Az5 hb,hl]
theorem Cw3(ch:List (List UInt8))(b:List UInt8)(o:Opn)(ho:o.ks=ch.map List.length){i k:Nat}(hi:i<ch.length)(hk:k<(ch[i]).length)(x:UInt8):
   Bd2 (str (Ab6 (chg ch.flatten ((ch.take i).flatten.length+k) x) b)) o i=str (chg ch[i] k x):=by
 have hg:ch[i]?=some ch[i]:=Q7 hi
 have hc:ch=ch.take i++(ch[i]::ch.drop (i+1)):=by rw[←List.drop_eq_getElem_cons,List.take_append_drop]
 have hf:ch.flatten=(ch.take i).flatten++(ch[i]++(ch.drop (i+1)).flatten):=by
  conv=>lhs;rw[hc]
  rw[List.flatten_append,List.flatten_cons]
 have hs:∀n,((ch.map List.length).take n).sum=((ch.take n).flatten).length:=fun n=>by rw[List.length_flatten,List.map_take]
 have he:chg ch.flatten ((ch.take i).flatten.length+k) x=(ch.take i).flatten++(chg ch[i] k x++(ch.drop (i+1)).flatten):=by
  rw[hf,Aj6 _ _ (Nat.le_add_right _ _),Nat.add_sub_cancel_left,Az0 _ _ hk]
 unfold Bd2
 rw[ho,hs,hs,List.take_add_one,hg,List.flatten_append,he]
 have h:Ab6 ((ch.take i).flatten++(chg ch[i] k x++(ch.drop (i+1)).flatten)) b=(mkB++(ch.take i).flatten)++(chg ch[i] k x++((ch.drop (i+1)).flatten++(Ac3 b++(Ad8 (Ac3 b).length++mkB)))):=by
  unfold Ab6;simp only[List.append_assoc]
 rw[h]
 refine Ap7 _ _ _ (by simp only[Q5,Ab0]) ?_
 simp only[Option.toList_some,List.flatten_cons,List.flatten_nil,Q5,List.append_nil,Ab0,Am5 hk]
 omega
theorem Ep2(ch:List (List UInt8))(b:List UInt8)(o:Opn)(ho:o.ks=ch.map List.length){i j k:Nat}(hi:i<ch.length)(Ac:i<j)(hj:j<ch.length)(hk:k<(ch[i]).length)(x:UInt8):
   Bd2 (str (Ab6 (chg ch.flatten ((ch.take i).flatten.length+k) x) b)) o j=str ch[j]:=by
 have hg:ch[j]?=some ch[j]:=Q7 hj
 have hc:ch=ch.take j++(ch[j]::ch.drop (j+1)):=by rw[←List.drop_eq_getElem_cons,List.take_append_drop]
 have hf:ch.flatten=(ch.take j).flatten++(ch[j]++(ch.drop (j+1)).flatten):=by
  conv=>lhs;rw[hc]
  rw[List.flatten_append,List.flatten_cons]
 have hs:∀n,((ch.map List.length).take n).sum=((ch.take n).flatten).length:=fun n=>by rw[List.length_flatten,List.map_take]
 have Ab:(ch.take i).flatten.length+k<(ch.take j).flatten.length:=by
  have h1:ch.take j=ch.take i++(ch[i]::(ch.take j).drop (i+1)):=by
   have Aa:i<(ch.take j).length:=by rw[List.length_take];omega
   have e:=List.take_append_drop i (ch.take j)
   rw[List.take_take,Nat.min_eq_left (by omega),List.drop_eq_getElem_cons Aa,List.getElem_take] at e
   exact e.symm
  rw[h1,List.flatten_append,List.flatten_cons,Q5,Q5]
  omega
 have he:chg ch.flatten ((ch.take i).flatten.length+k) x=chg (ch.take j).flatten ((ch.take i).flatten.length+k) x++(ch[j]++(ch.drop (j+1)).flatten):=by
  rw[hf,Az0 _ _ Ab]
 unfold Bd2
 rw[ho,hs,hs,List.take_add_one,hg,List.flatten_append,he]
 have h:Ab6 (chg (ch.take j).flatten ((ch.take i).flatten.length+k) x++(ch[j]++(ch.drop (j+1)).flatten)) b=(mkB++chg (ch.take j).flatten ((ch.take i).flatten.length+k) x)++(ch[j]++((ch.drop (j+1)).flatten++(Ac3 b++(Ad8 (Ac3 b).length++mkB)))):=by
  unfold Ab6;simp only[List.append_assoc]
 rw[h]
 refine Ap7 _ _ _ (by simp only[Q5,Ab0,Am5 Ab]) ?_
 simp only[Option.toList_some,List.flatten_cons,List.flatten_nil,Q5,List.append_nil,Ab0,Am5 Ab]
 omega
end
end Go.MP
namespace Go.MP
open RowKit VB VarM VS VL SC CK Go.ST MK RS ZN NU
def vz(ty:Int):Nat:=if ty=3 then 67 else 12
def mz(ty:Int):Nat:=if ty=3 then 65 else 10
def bndC(n:Nat)(c:Col):Nat:=16+2*vz c.ty+n*mz c.ty+(n+7)/8
def bndN(cs:List Col)(n:Nat):Nat:=192+10*n+(n+7)/8+(cs.map (bndC n)).sum
theorem Ep7(n:Nat):bndN [] n=192+10*n+(n+7)/8:=rfl
theorem Ck9{n:Nat}(hn:n<=1024):∀cs:List Col,bndN cs n<=10600+cs.length*68000
 | []=>by rw[Ep7];simp;omega
 | c::cs=>by
   have ih:=Ck9 hn cs
   have h1:vz c.ty<=67:=by unfold vz;split<;>omega
   have h2:mz c.ty<=65:=by unfold mz;split<;>omega
   have h3:n*mz c.ty<=n*65:=Nat.mul_le_mul_left _ h2
   have hb:bndC n c<=68000:=by unfold bndC;omega
   unfold bndN at ih⊢
   rw[List.map_cons,List.sum_cons,Q6,Nat.add_mul]
   omega
theorem one_mz{typ:Int}{x:Vl}(h:Vok x):(one typ x).length<=mz typ:=by
 unfold one mz
 by_cases ht:typ=3
 ·rw[if_pos ht,if_pos ht,Q5,Aa1]
  have:=Ah0 (n:=x.s.size) 1 (by have:=h.1;omega) (by decide)
  have:=h.1
  omega
 ·rw[if_neg ht,if_neg ht]
  exact Aa5 (n:=(Ai4 x.n).toNat) (Go.RL.zig_lt h.2)
theorem Eg6{typ:Int}{l:List Vl}(h:∀x∈l,Vok x):(Ag8 typ l).length<=l.length*mz typ:=Bj9 fun x hx=>one_mz (h x hx)
theorem Ea8{typ:Int}{l:List Vl}(hl:l.length<=1024)(h:∀x∈l,Vok x):(Bb5 typ l).length<=9+l.length*mz typ+(l.length+7)/8:=by
 obtain⟨k,_,_,_,h4,h5⟩:=best_spec typ l
 have hu:uses typ ((1:Nat):Int)=true:=by
  by_cases ht:typ=3
  ·exact(Cf3 ht).1
  ·exact(Br7 ht).1
 have h6:=(h5 1 hu).1
 have h7:=Eg6 (typ:=typ) (l:=Ab9 l) (Cg0 h)
 have h8:(Ab9 l).length*mz typ<=l.length*mz typ:=Nat.mul_le_mul_right _ (Ao0 l)
 have hc:=List.count_le_length (a:=true) (l:=Ae3 l)
 rw[Af3] at hc
 have p1:=Ah0 (n:=(Ae3 l).length) 2 (by rw[Af3];omega) (by decide)
 have p2:=Ah0 (n:=(Ae3 l).count true) 2 (by omega) (by decide)
 have hs:=Az2 (Ae3 l)
 rw[Af3] at hs
 have hb:(Aa7 typ ((1:Nat):Int) l).length=(Go.CK.bodyB typ ((1:Nat):Int) l).length+4:=by unfold Aa7;rw[Q5];rfl
 have hp:Av6 typ ((1:Nat):Int) (Ab9 l)=Ag8 typ (Ab9 l):=Do6 typ _
 have hn:(Fh5 (Ae3 l)).length<=4+(l.length+7)/8:=by
  unfold Fh5
  rw[Q5,Q5]
  by_cases h0:(Ae3 l).count true=0
  ·rw[if_pos h0];simp only[Q8];omega
  ·rw[if_neg h0,Aa1];omega
 rw[h4]
 rw[hb,←Bq4,Q5,Q5,Q6,Q8,hp] at h6
 omega
theorem Cg7{typ:Int}{nu:Bool}{x:Vl}(hT:okT typ=true)(hv:Ae6 typ nu x=0\/x=Go.ZN.nulV)(hx:Vok x):(Ai9 x.nu x.n x.s).length<=vz typ:=by
 have Aa:(Ai9 true x.n x.s).length<=vz typ:=by
  show 1<=vz typ
  unfold vz;split<;>omega
 obtain⟨xn,n,s⟩:=x
 cases xn with
 | true=>exact Aa
 | false=>
   rcases hv with hv | hv
   ·unfold Ae6 at hv
    simp only at hv
    rw[Ap3 hT] at hv
    have hz:=Aa5 (n:=(Ai4 n).toNat) (Go.RL.zig_lt hx.2)
    have Ac:=Ah0 (n:=s.size) 1 (by have:=hx.1;simp only at this;omega) (by decide)
    have Ab:=hx.1
    simp only at Ab
    show([1]++Aa4 (Ai4 n).toNat++Aa4 s.size++s.data.toList).length<=_
    simp only[Q5,Q6,Q8,Aa1]
    unfold vz
    by_cases h3:typ=3
    ·rw[if_pos h3]
     by_cases h0:n=0
     ·subst h0
      have:(Aa4 (Ai4 0).toNat).length=1:=by rw[show(Ai4 0).toNat=0 from rfl,Ao1 (by decide)];rfl
      omega
     ·rw[if_pos (.inl ⟨h3,h0⟩)] at hv;cases hv
    ·rw[if_neg h3]
     by_cases h0:s.size=0
     ·omega
     ·rw[if_pos (.inr ⟨h3,h0⟩)] at hv;cases hv
   ·cases hv
theorem Ey9{typ:Int}{nu:Bool}{l:List Vl}(hT:okT typ=true)(hl:l.length<=1024)(hv:∀x∈l,Ae6 typ nu x=0)(h:∀x∈l,Vok x):(Bs8 (zof typ l)).length<=4+2*vz typ:=by
 have hm:∀m sg,isM typ sg l m->(Ai9 m.nu m.n m.s).length<=vz typ:=fun m sg hm=>by
  rcases hm with⟨_,rfl⟩ | ⟨h1,_,_⟩
  ·exact Cg7 hT (nu:=true) (.inr rfl) ⟨by decide,by decide⟩
  ·exact Cg7 hT (.inl (hv m h1)) (h m h1)
 obtain⟨i1,i2⟩:=Ci2 typ l
 have l1:(Ai9 (zof typ l).mn.nu (zof typ l).mn.n (zof typ l).mn.s).length<=vz typ:=hm _ _ i1
 have l2:(Ai9 (zof typ l).mx.nu (zof typ l).mx.n (zof typ l).mx.s).length<=vz typ:=hm _ _ i2
 have hn:=Bx8 typ l
 have p1:=Ah0 (n:=(zof typ l).rows.toNat) 2 (by show((l.length:Int)).toNat<_;omega) (by decide)
 have p2:=Ah0 (n:=(zof typ l).nulls.toNat) 2 (by show(((stz typ l).1:Int)).toNat<_;omega) (by decide)
 unfold Bs8
 simp only[Q5]
 omega
theorem vz_le(ty:Int):vz ty<=67:=by unfold vz;split<;>omega
section
variable {cs:List Col} {key:Int} {l:List Rc}
theorem Do2{r:Rc}(S:Srt cs key l)(hb:InR l)(hr:r∈l):(Aj0 (Ac9 key.toNat r) r.seq.toNat).length<=73:=by
 obtain⟨x,_,h2,h3⟩:=Ca7 S.sch (S.ok r hr)
 obtain⟨_,_,_,h4,h5⟩:=Ad7 S.sch
 have hT:=Ay1 S.sch key.toNat
 rw[Am3 (by omega)] at hT
 have hv:=Bi9 S.sch S.ok hb hr
 rw[h2] at hv⊢
 have h6:=Cg7 hT (.inl h3) hv
 have h7:=vz_le (cs.getD key.toNat col0).ty
 have hq:=Ae2 (S.ok r hr)
 have h8:=Ah0 (n:=r.seq.toNat) 6 (by omega) (by decide)
 unfold Aj0
 rw[Q5]
 omega
theorem Dy7(S:Srt cs key l)(hl:l.length<=1024)(hb:InR l):∀n,n<=cs.length->(chs cs l n).flatten.length+(Ae4 (chs cs l n)).length+(Ap4 (zns cs l n)).length<=((cs.take n).map (bndC l.length)).sum
 | 0,_=>by simp[chs,Ae4,zns,Ap4]
 | n+1,hn=>by
   have ih:=Dy7 S hl hb n (by omega)
   have hT:=Ay1 S.sch n
   have hv:=Cc8 S.ok n
   have hk:=Bk6 S.sch S.ok hb n
   have h1:=Ea8 (typ:=(Ak2 cs n).ty) (by rw[Af6];exact hl) hk
   have h2:=Ah0 (n:=(chB cs l n).length) 3 (by have:=(Ar2 S.sch hl S.ok hb n).2;omega) (by decide)
   have h3:=Ey9 hT (by rw[Af6];exact hl) hv hk
   rw[Af6] at h1
   rw[Aj9 (show n<cs.length by omega)] at h3
   rw[Am3 (show n<cs.length by omega)] at h1 h3
   have hc:(chB cs l n).length=(Bb5 (cs.getD n col0).ty (Bl9 cs l n)).length:=by unfold chB;rw[Am3 (show n<cs.length by omega)]
   rw[Bf2,As2,Bq8,Bf7,List.flatten_append,List.take_add_one,Q7 (show n<cs.length by omega)]
   simp only[Option.toList_some,List.flatten_cons,List.flatten_nil,List.append_nil,Q5,List.map_append,List.sum_append,List.map_cons,List.map_nil,List.sum_cons,List.sum_nil]
   have hg:cs.getD n col0=cs[n]:=by rw[List.getD_eq_getElem?_getD,Q7 (show n<cs.length by omega)];rfl
   rw[hg] at h1 h3 hc
   have Aa:bndC l.length cs[n]=16+2*vz cs[n].ty+l.length*mz cs[n].ty+(l.length+7)/8:=rfl
   rw[hg,Aa]
   omega
theorem Dv9(S:Srt cs key l)(hl:l.length<=1024)(h0:l.length≠0)(hb:InR l):(Aa9 cs key l).length<=bndN cs l.length:=by
 have h1:=Dy7 S hl hb cs.length (Q1 _)
 rw[List.take_length] at h1
 have h2:=Ea8 (typ:=(Ak2 cs cs.length).ty) (by rw[Af6];exact hl) (Bk6 S.sch S.ok hb cs.length)
 have h3:=Ah0 (n:=(chB cs l cs.length).length) 3 (by have:=(Ar2 S.sch hl S.ok hb cs.length).2;omega) (by decide)
 rw[Af6,Ay9 (Nat.lt_irrefl _)] at h2
 have hm:mz seqC.ty=10:=rfl
 rw[hm] at h2
 have hc:(chB cs l cs.length).length=(Bb5 seqC.ty (Bl9 cs l cs.length)).length:=by unfold chB;rw[Ay9 (Nat.lt_irrefl _)]
 have h4:=Do2 S hb (Ax7 h0).1
 have h5:=Do2 S hb (Bh3 h0).1
 have h6:=Ah0 (n:=l.length) 2 (by omega) (by decide)
 unfold Aa9
 rw[Af0,←Aa3,Af9,Bj8,Bf2]
 unfold Go.MP.bodyB
 rw[As2,List.flatten_append]
 simp only[List.flatten_cons,List.flatten_nil,List.append_nil,Q5,Ab1]
 have e1:(Ac7 cs key l).rows=l.length:=rfl
 have e2:(Ac7 cs key l).zs=zns cs l cs.length:=rfl
 have e3:Aj0 (Ac7 cs key l).lo (Ac7 cs key l).lq=Aj0 (Ac9 key.toNat (l.getD 0 rc0)) (l.getD 0 rc0).seq.toNat:=rfl
 have e4:Aj0 (Ac7 cs key l).hi (Ac7 cs key l).hq=Aj0 (Ac9 key.toNat (l.getD (l.length-1) rc0)) (l.getD (l.length-1) rc0).seq.toNat:=rfl
 rw[e1,e2,e3,e4]
 unfold bndN
 omega
theorem Dv8:∀(ch:List (List UInt8))(k:Nat),k<ch.flatten.length->∃i j,∃hi:i<ch.length,j<ch[i].length/\k=(ch.take i).flatten.length+j
 | [],k,h=>by simp at h
 | a::ch,k,h=>by
   by_cases hk:k<a.length
   ·exact⟨0,k,by simp,by simpa using hk,by simp⟩
   ·rw[List.flatten_cons,Q5] at h
    obtain⟨i,j,hi,h1,h2⟩:=Dv8 ch (k-a.length) (by omega)
    exact⟨i+1,j,by rw[Q6];omega,by simpa using h1,by rw[List.take_succ_cons,List.flatten_cons,Q5];omega⟩
theorem Bl7(data b:List UInt8){k:Nat}(h:k<data.length)(x:UInt8):chg (Ab6 data b) (4+k) x=Ab6 (chg data k x) b:=by
 unfold Ab6
 rw[Aj6 _ _ (by rw[Ab0];omega),Ab0,Nat.add_sub_cancel_left,Az0 _ _ h]
theorem Cv5{file:ByteArray}{o:Opn}{i:Nat}(hc:Ad9 cs key=0)(h:Ac0 (Bd2 file o i)=9):At8 cs file o i=([],9):=by
 unfold At8
 rw[Fe5 (Ay1 hc i) h,if_pos (by decide)]
theorem Cp1{file:ByteArray}(h:(opn cs key file).1≠0):Bw8 cs key file=([],(opn cs key file).1):=by unfold Bw8;rw[if_pos h]
theorem Cp0{file:ByteArray}(h:(opn cs key file).1=0)(h2:De4 cs file (opn cs key file).2≠0):Bw8 cs key file=([],De4 cs file (opn cs key file).2):=by unfold Bw8;rw[if_neg (by simp[h]),if_pos h2]
theorem Ez6{file:ByteArray}(hc:Ad9 cs key=0)(h:Ap6 file≠0):opn cs key file=(Ap6 file,Ec3):=by unfold opn;rw[if_neg (by simp[hc]),if_pos h]
theorem Dz7{i j:Nat}{x y:UInt8}(S:Srt cs key l)(hl:l.length<=1024)(hb:InR l)(hy:(chB cs l i)[j]?=some y)(Aa:x≠y):Ac0 (str (chg (chB cs l i) j x))=9:=by
 refine By2 (Ar2 S.sch hl S.ok hb i).1 ?_ hy Aa
 obtain⟨k,_,_,_,h4,_⟩:=best_spec (Ak2 cs i).ty (Bl9 cs l i)
 unfold chB
 rw[h4]
 exact Bm2 _ _ _
theorem Dz5{k:Nat}{x y:UInt8}(S:Srt cs key l)(hl:l.length<=1024)(h0:l.length≠0)(hb:InR l)(hk:k<(chs cs l (cs.length+1)).flatten.length)(hy:(chs cs l (cs.length+1)).flatten[k]?=some y)(Ab:x≠y):
   ∃i,i<=cs.length/\opn cs key (str (chg (Aa9 cs key l) (4+k) x))=(0,⟨Ac7 cs key l,(chs cs l (cs.length+1)).map List.length⟩) /\
    At8 cs (str (chg (Aa9 cs key l) (4+k) x)) ⟨Ac7 cs key l,(chs cs l (cs.length+1)).map List.length⟩ i=([],9):=by
 have hI:=Cb1 S hl h0 hb
 obtain⟨b1,b2⟩:=Bf4 hI (Ad7 S.sch).2.1 (IDN cs key)
 have hO:=Bo2 S hl h0 hb
 unfold Aa9 at hO⊢
 rw[Af0] at hO⊢
 generalize Ay6 (IDN cs key) (chs cs l (cs.length+1)) (Ac7 cs key l)=b at *
 rw[Bl7 _ _ hk]
 obtain⟨i,j,hi,hj,rfl⟩:=Dv8 _ _ hk
 have Aa:i<=cs.length:=by rw[Av1] at hi;omega
 refine⟨i,Aa,?_,?_⟩
 ·rw[Cq4 (Am5 hk x) (by omega) b1];exact hO
 ·refine Cv5 S.sch ?_
  rw[Cw3 _ b _ rfl hi hj x,Bp6 (by omega)]
  refine Dz7 S hl hb (y:=y) ?_ Ab
  rw[Bp6 (show i<cs.length+1 by omega)] at hj
  have hc:chs cs l (cs.length+1)=(chs cs l (cs.length+1)).take i++(chB cs l i::(chs cs l (cs.length+1)).drop (i+1)):=by
   rw[←Bp6 (cs:=cs) (l:=l) (show i<cs.length+1 by omega),←List.drop_eq_getElem_cons,List.take_append_drop]
  rw[hc,List.flatten_append,List.flatten_cons,←hc,List.getElem?_append_right (Nat.le_add_right _ _),Nat.add_sub_cancel_left,List.getElem?_append_left hj] at hy
  exact hy
theorem Ey4 {k:Nat} {x y:UInt8} (S:Srt cs key l) (hl:l.length<=1024) (h0:l.length≠0) (hb:InR l) (hy:(Aa9 cs key l)[k]?=some y) (Aa:x≠y)
   (hk:¬((Aa9 cs key l).length<=k+8/\k+4<(Aa9 cs key l).length)):(Bw8 cs key (str (chg (Aa9 cs key l) k x))).2≠0:=by
 have hI:=Cb1 S hl h0 hb
 obtain⟨b1,b2⟩:=Bf4 hI (Ad7 S.sch).2.1 (IDN cs key)
 have Ac:(Aa9 cs key l).length=(chs cs l (cs.length+1)).flatten.length+(Ay6 (IDN cs key) (chs cs l (cs.length+1)) (Ac7 cs key l)).length+16:=by
  unfold Aa9
  rw[Af0,←Aa3,Af9]
 have Af:=(List.getElem?_eq_some_iff.1 hy).1
 have Ab:Ap6 (str (chg (Aa9 cs key l) k x))≠0->(Bw8 cs key (str (chg (Aa9 cs key l) k x))).2≠0:=fun h=>by
  have ho:=Ez6 (key:=key) S.sch h
  rw[Cp1 (by rw[ho];exact h),ho];exact h
 by_cases c1:4<=k/\k-4<(chs cs l (cs.length+1)).flatten.length
 ·obtain⟨j,rfl⟩:∃j,k=4+j:=⟨k-4,by omega⟩
  have hj:j<(chs cs l (cs.length+1)).flatten.length:=by omega
  have Ad:(chs cs l (cs.length+1)).flatten[j]?=some y:=by
   unfold Aa9 at hy
   rw[Af0] at hy
   unfold Ab6 at hy
   rw[List.getElem?_append_right (by rw[Ab0];omega),Ab0,Nat.add_sub_cancel_left,List.getElem?_append_left hj] at hy
   exact hy
  obtain⟨i,hi,ho,hd⟩:=Dz5 S hl h0 hb hj Ad Aa
  have hE:De4 cs (str (chg (Aa9 cs key l) (4+j) x)) (opn cs key (str (chg (Aa9 cs key l) (4+j) x))).2≠0:=fun h=>by
   have:=Em9 h hi
   rw[ho,hd] at this
   cases this
  rw[Cp0 (by rw[ho]) hE];exact hE
 ·refine Ab ?_
  generalize hD:(chs cs l (cs.length+1)).flatten=D at *
  generalize hB:Ay6 (IDN cs key) (chs cs l (cs.length+1)) (Ac7 cs key l)=b at *
  have hf:Aa9 cs key l=Ae0 mkB D (Ac3 b) mkB:=by unfold Aa9;rw[Af0,hD,hB];rfl
  rw[hf] at hy⊢
  by_cases c2:k<4
  ·have e:chg (Ae0 mkB D (Ac3 b) mkB) k x=Ae0 (chg mkB k x) D (Ac3 b) mkB:=by
     unfold Ae0
     rw[Az0 _ _ (by rw[Ab0];exact c2)]
   unfold Ae0 at hy
   rw[List.getElem?_append_left (by rw[Ab0];exact c2)] at hy
   rw[e,Bx2 (by rw[Am5 (by rw[Ab0];exact c2),Ab0]) Ab0 (by rw[Ad5];omega) (.inl (Ev0 hy Aa))]
   decide
  ·by_cases c3:k<4+D.length+(Ac3 b).length
   ·obtain⟨j,rfl⟩:∃j,k=4+(D.length+j):=⟨k-4-D.length,by omega⟩
    have hj:j<(Ac3 b).length:=by omega
    have e:chg (Ae0 mkB D (Ac3 b) mkB) (4+(D.length+j)) x=Ae0 mkB D (chg (Ac3 b) j x) mkB:=by
     unfold Ae0
     rw[Aj6 _ _ (by rw[Ab0];omega),Ab0,Nat.add_sub_cancel_left,Aj6 _ _ (by omega),Nat.add_sub_cancel_left,Az0 _ _ hj,Am5 hj]
    unfold Ae0 at hy
    rw[List.getElem?_append_right (by rw[Ab0];omega),Ab0,Nat.add_sub_cancel_left,List.getElem?_append_right (by omega),Nat.add_sub_cancel_left,List.getElem?_append_left hj] at hy
    have Ae:=By2 (T:=Ac3 b) (by rw[Ad5];omega) (Cy9 (by omega)) hy Aa
    rw[e,Ed1 (by rw[Am5 hj,Ad5];omega) (by rw[Am5 hj,Ad5];omega) Ae]
    decide
   ·rw[Ad5] at c3
    obtain⟨j,rfl⟩:∃j,k=4+(D.length+((Ac3 b).length+(4+j))):=⟨k-8-D.length-(Ac3 b).length,by rw[Ad5];omega⟩
    rw[Ad5] at *
    have hj:j<mkB.length:=by rw[Ab0];omega
    have e:chg (Ae0 mkB D (Ac3 b) mkB) (4+(D.length+(b.length+4+(4+j)))) x=Ae0 mkB D (Ac3 b) (chg mkB j x):=by
     unfold Ae0
     rw[Aj6 _ _ (by rw[Ab0];omega),Ab0,Nat.add_sub_cancel_left,Aj6 _ _ (by omega),Nat.add_sub_cancel_left,Aj6 _ _ (by rw[Ad5];omega),Ad5,Nat.add_sub_cancel_left,Aj6 _ _ (by rw[Ab1];omega),Ab1,Nat.add_sub_cancel_left]
    unfold Ae0 at hy
    rw[List.getElem?_append_right (by rw[Ab0];omega),Ab0,Nat.add_sub_cancel_left,List.getElem?_append_right (by omega),Nat.add_sub_cancel_left,List.getElem?_append_right (by rw[Ad5];omega),Ad5,Nat.add_sub_cancel_left,List.getElem?_append_right (by rw[Ab1];omega),Ab1,Nat.add_sub_cancel_left] at hy
    rw[e,Bx2 Ab0 (by rw[Am5 hj,Ab0]) (by rw[Ad5];omega) (.inr (Ev0 hy Aa))]
    decide
end
end Go.MP
