/- Layer 16: the walks over package mpart's reader: take, number, rank. -/
import Derived.Test.YtnmlajmaffiigaaGreatDoorMpa
import Derived.Test.YtnmlajmaffiigaaGreatDoorMpb
import Derived.Test.YtnmlajmaffiigaaGreatDoorGk
import Derived.Test.YtnmlajmaffiigaaGreatDoorGv
import Derived.Test.YtnmlajmaffiigaaGreatDoorGb
import Derived.Test.YtnmlajmaffiigaaGreatDoorZon
import Derived.Test.YtnmlajmaffiigaaGreatDoorGa
set_option linter.constructorNameAsVariable false
set_option maxRecDepth 100000
set_option maxHeartbeats 2000000
open Go Go.Proofs Go.Proofs.YtnmlajmaffiigaaGreatDoor Go.P
namespace Go.MP
open RowKit VB VarM VS VL ZN
def Bf5(s:ByteArray)(a:Int)(fl:Bool):List Value:=[.string s,.int .i64 a,.bool fl]
theorem Cn5{G:Nat->World->Prop}(H:Nat->World->Prop){P:Prop}(Ab:(∀b Y,H b Y->G b Y)->P)(Aa:∀b Y,H b Y->G b Y):P:=Ab Aa
end Go.MP
namespace Go.P
open RowKit VB VarM BP VS VL SC CK Go.ST MK RS ZN MP
theorem Dj4(g:Nat)(s:ByteArray)(a:Int)(fl:Bool)(w:World)(hv:VarC w g (Bf5 s a fl))(hs:s.size<=maxLen)(V:Value)(hV:V=.func (.func 180) #[] #[]):
   Calls Tryz.prog 179 #[.pointer (some ⟨g,0,none⟩),V] w (fun en w'=>en=.returned (.int .u64 (Aa2 s a).1)/\VarC w' g (Bf5 s (if(Aa2 s a).2.2=0 then(Aa2 s a).2.1 else a) (fl || decide ((Aa2 s a).2.2≠0)))/\Go.KV.GB g w w'):=by
 subst hV
 obtain⟨w0,Ac⟩:∃w0,w0=w:=⟨_,rfl⟩
 rw[←Ac] at hv⊢
 clear Ac
 obtain⟨x,b,c,hg⟩:∃x b c,Aa2 s a=(x,b,c):=⟨_,_,_,rfl⟩
 rw[hg]
 simp only
 have HG:=fun w=>Hd (Al0 s a w hs hg)
 have Ab:=Hd (fun(w':World)(h:Below w0.heap.size w0 w')=>show w'.cell? ⟨g,0,none⟩=some (.string s)/\w'.cell? ⟨g,1,none⟩=some (.int .i64 a)/\w'.cell? ⟨g,2,none⟩=some (.bool fl) from⟨(hv.step h).c 0 _ rfl,(hv.step h).c 1 _ rfl,(hv.step h).c 2 _ rfl⟩)
 have Ae:=Hd (fun(w':World)(h:Below w0.heap.size w0 w')=>hv.step h)
 clear hg hv
 go_enter Tryz.func179,Tryz.ntmps179
 go_wp2_with fail
 refine Go.Confl.wp_region_confl (by simp only[List.map_cons,List.map_nil];rfl) (by kernel_rfl) (by kernel_rfl) ?_
 iterate 17
  first
  | (refine Go.Confl.chain_skip (Go.Confl.unwanted_is rfl rfl) ?_)
  | (first | apply Go.Confl.chain_is _ (Go.Confl.wanted_none rfl) | apply Go.Confl.chain_is _ (Go.Confl.wanted_is rfl rfl)
     ·intro b w hr hb K hK
      simp[Go.Confl.readFacts,Go.Confl.tmpsOf,Go.Confl.writerOf,Go.Confl.Is,Op.operands,Call.operands,List.findIdx?,List.findIdx?.go] at hr
      obtain⟨y0,y1,y2⟩:=Ab.out _ hb
      go_wp2_with(first
       | (go_at_call 180;(with_reducible refine(HG _).out.mono ?_);rintro e w' ⟨rfl,rfl⟩))
      try(simp only[hr];go_wp2)
      exact hK _ _ rfl (by first | exact Q2 _ _ | assumption))
  simp only[List.nil_append,List.cons_append]
 intro us w hp hb
 simp[Go.Confl.allPosts,Go.Confl.Is] at hp
 simp only[Go.Confl.putsFrom,hp,Act.put,List.setIfInBounds_toArray,List.set_cons_zero,List.set_cons_succ]
 obtain⟨y0,y1,y2⟩:=Ab.out _ hb
 have Aa:=Ae.out _ hb
 have z1:=Aa.fr 1 (show 1<3 by decide)
 have z2:=Aa.fr 2 (show 2<3 by decide)
 have Ad:=(Go.KV.GB.refl g w0).of hb (Q1 _)
 have HW:=Hd Aa;have HGB:=Hd Ad
 clear hp hb Aa Ad
 by_cases hc:c=0
 ·subst hc
  go_wp2_with fail
  go_ret
  refine⟨rfl,?_,HGB.out.set 1 _⟩
  have h:=HW.out.set (k:=1) (show 1<3 by decide) (.int .i64 b)
  simpa[Bf5] using h
 ·have hd:((c:Int)!=0)=true:=Ab5 (by omega)
  have HC:=Hd hc
  clear hc
  go_wp2_with fail
  go_ret
  refine⟨rfl,?_,HGB.out.set 2 _⟩
  have h:=HW.out.set (k:=2) (show 2<3 by decide) (.bool true)
  have hc:=HC.out
  simpa[Bf5,hc] using h
theorem Dj3(g:Nat)(s:ByteArray)(a:Int)(fl:Bool)(w:World)(hv:VarC w g (Bf5 s a fl))(hs:s.size<=4611686018427387904)(V:Value)(hV:V=.func (.func 182) #[] #[]):
   Calls Tryz.prog 183 #[.pointer (some ⟨g,0,none⟩),V] w (fun en w'=>en=.returned (.agg #[.bool (Ag9 s a).nul,.int .i64 (Ag9 s a).n,.string (Ag9 s a).s])/\VarC w' g (Bf5 s (if(Ag9 s a).e=0 then(Ag9 s a).i else a) (fl || decide ((Ag9 s a).e≠0)))/\Go.KV.GB g w w'):=by
 subst hV
 obtain⟨w0,Az⟩:∃w0,w0=w:=⟨_,rfl⟩
 rw[←Az] at hv⊢
 clear Az
 have h0:=fun w=>As5 s a w hs
 generalize Ag9 s a=G at *
 obtain⟨vb,vn,vt,b,c⟩:=G
 simp only
 have HG:=fun w=>Hd (show Calls Tryz.prog 182 #[.string s,.int .i64 a] w (RetB (.tuple #[.agg #[.bool vb,.int .i64 vn,.string vt],.int .i64 b,.int .i64 (c:Int)]) w) from h0 w)
 clear h0
 have Bh:=hv.lt
 have As:=VarC.new w0 [.bool false,.int .i64 0,.string ⟨#[]⟩] 49
 have Ar:=(Q2 w0.heap.size w0).alloc (Q1 _) (.cells #[.bool false,.int .i64 0,.string ⟨#[]⟩] 49)
 obtain⟨X,hX⟩:∃X,w0.alloc (.cells #[.bool false,.int .i64 0,.string ⟨#[]⟩] 49)=X:=⟨_,rfl⟩
 change VarC (w0.alloc (.cells #[.bool false,.int .i64 0,.string ⟨#[]⟩] 49)) _ _ at As
 rw[hX] at As Ar
 have An:=hv.step Ar
 have Ap:=Hd (fun(w':World)(h:Below X.heap.size X w')=>show w'.cell? ⟨g,0,none⟩=some (.string s)/\w'.cell? ⟨g,1,none⟩=some (.int .i64 a)/\w'.cell? ⟨g,2,none⟩=some (.bool fl) from⟨(An.step h).c 0 _ rfl,(An.step h).c 1 _ rfl,(An.step h).c 2 _ rfl⟩)
 have Ax:=Hd (fun(w':World)(h:Below X.heap.size X w')=>And.intro (An.step h) (As.step h))
 have Bb:=Hd Ar
 clear hv An As Ar
 go_enter Tryz.func183,Tryz.ntmps183
 go_wp2_with fail
 have Ay:X.heap.size=w0.heap.size+1:=by rw[←hX];simp
 have Bg:g<X.heap.size:=by omega
 obtain⟨y0,y1,y2⟩:=Ap.out _ (Q2 _ _)
 have Ba:=Hd ((Q2 X.heap.size X).alloc (Q1 _) (.cells #[.bool false,.int .i64 0,.string ⟨#[]⟩] 49))
 have Bc:=Hd (show VarC (X.alloc (.cells #[.bool false,.int .i64 0,.string ⟨#[]⟩] 49)) (w0.heap.size+1) [.bool false,.int .i64 0,.string ⟨#[]⟩] by rw[←Ay];exact VarC.new X [.bool false,.int .i64 0,.string ⟨#[]⟩] 49)
 apply Cn5 (fun b5 Y=>VarC Y b5 [.bool vb,.int .i64 vn,.string vt]/\w0.heap.size<b5/\Below X.heap.size X Y)
 focus
  intro Ao
  have HT:=Hd Ao
  clear Ao
  go_region_law(first
   | (go_simp;go_at_call 182;(with_reducible refine(HG X.drew).out.mono ?_);rintro e w7 ⟨rfl,Aq⟩;have HBA:=Hd ((Q2 X.heap.size X).drew.trans Aq);obtain⟨y0,y1,y2⟩:=Ap.out w7 HBA.out)
   | (go_simp;go_at_call 182;(with_reducible refine(HG (X.alloc (.cells #[.bool false,.int .i64 0,.string ⟨#[]⟩] 49)).drew).out.mono ?_);rintro e w7 ⟨rfl,Aq⟩;have HVW:=Hd (Bc.out.step ((Q2 _ _).drew.trans Aq));have z0:=HVW.out.c 0 _ rfl;have f0:=HVW.out.fr 0 (show 0<3 by decide);have z1:=HVW.out.c 1 _ rfl;have f1:=HVW.out.fr 1 (show 1<3 by decide);have z2:=HVW.out.c 2 _ rfl;have f2:=HVW.out.fr 2 (show 2<3 by decide);have HBA:=Hd (Ba.out.drew.trans (Aq.mono (by simp)));obtain⟨y0,y1,y2⟩:=Ap.out w7 HBA.out)
   | fail)
  all_goals
   first
   | (have Ae:=Hd (HVW.out.putC [.bool vb,.int .i64 vn,.string vt] 0 (Q1 3))
      have Ah:=Hd (Ag2 (g:=w0.heap.size+1) [.bool vb,.int .i64 vn,.string vt] 0 HBA.out (by omega))
      have Ad:w0.heap.size<w0.heap.size+1:=Nat.lt_succ_self _
      obtain⟨Y,hY⟩:∃Y,putC w7 (w0.heap.size+1) 0 [.bool vb,.int .i64 vn,.string vt]=Y:=⟨_,rfl⟩
      rw[hY] at Ae Ah
      have Be:(((w7.setCell ⟨w0.heap.size+1,0,none⟩ (.bool vb)).setCell ⟨w0.heap.size+1,1,none⟩ (.int .i64 vn)).setCell ⟨w0.heap.size+1,2,none⟩ (.string vt))=Y:=hY
      rw[Be]
      obtain⟨b5,Al⟩:∃b5,w0.heap.size+1=b5:=⟨_,rfl⟩
      rw[Al] at Ae Ay Ad⊢)
   | (have Ae:=Hd (show VarC (w7.alloc (.cells #[.bool vb,.int .i64 vn,.string vt] 49)) _ _ from VarC.new w7 [.bool vb,.int .i64 vn,.string vt] 49)
      have Ah:=Hd (HBA.out.alloc HBA.out.size (.cells #[.bool vb,.int .i64 vn,.string vt] 49))
      have Ad:w0.heap.size<w7.heap.size:=by have:=HBA.out.size;omega
      obtain⟨Y,hY⟩:∃Y,w7.alloc (.cells #[.bool vb,.int .i64 vn,.string vt] 49)=Y:=⟨_,rfl⟩
      rw[hY] at Ae Ah⊢
      obtain⟨b5,Al⟩:∃b5,w7.heap.size=b5:=⟨_,rfl⟩
      rw[Al] at Ae Ad⊢)
   exact HT.out _ _ ⟨Ae.out,Ad,Ah.out⟩
 ·intro b5 Y ⟨Ab,Ad,Al⟩
  have Ae:=Hd Ab;have Ah:=Hd Al
  clear Ab Al Bg Ba Bc y0 y1 y2
  obtain⟨Ag,Aa⟩:=Ax.out _ Ah.out
  have Af:=(Bb.out.trans (Ah.out.mono (by omega)):Below w0.heap.size w0 Y)
  obtain⟨R,hR⟩:∃R,w0.heap.size=R:=⟨_,rfl⟩
  rw[hR] at Aa Ad⊢
  have n1:b5≠g:=by omega
  have n2:b5≠R:=by omega
  have n3:g≠R:=by omega
  have Bd:=(Go.KV.GB.refl g w0).of Af (Q1 _)
  have k0:=Ae.out.c 0 _ rfl
  have k1:=Ae.out.c 1 _ rfl
  have k2:=Ae.out.c 2 _ rfl
  have Ak:=Hd Ag;have HRG:=Hd Aa;have HGB:=Hd Bd
  clear Ag Aa Af Bd Ah Ax Ap Bb hX HG
  by_cases hc:c=0
  ·subst hc
   have y1:=Ak.out.c 1 _ rfl
   have x1:=Ak.out.fr 1 (show 1<3 by decide)
   have Ag:=Ak.out.set (k:=1) (show 1<3 by decide) (.int .i64 b)
   have Ab:=Ae.out.other n1 1 (.int .i64 b)
   have Aa:=HRG.out.other (fun e=>n3 e.symm) 1 (.int .i64 b)
   have Af:=HGB.out.set 1 (.int .i64 b)
   obtain⟨Y1,Au⟩:∃Y1,Y.setCell ⟨g,1,none⟩ (.int .i64 b)=Y1:=⟨_,rfl⟩
   rw[Au] at Ag Ab Aa Af
   have p0:=Ab.c 0 _ rfl
   have r0:=Aa.c 0 _ rfl
   have t0:=Aa.fr 0 (show 0<3 by decide)
   have p1:=Ab.c 1 _ rfl
   have r1:=Aa.c 1 _ rfl
   have t1:=Aa.fr 1 (show 1<3 by decide)
   have p2:=Ab.c 2 _ rfl
   have r2:=Aa.c 2 _ rfl
   have t2:=Aa.fr 2 (show 2<3 by decide)
   have Ac:=Aa.putC [.bool vb,.int .i64 vn,.string vt] 0 (Q1 3)
   have Aj:=Ag.oputC (c:=R) n3 [.bool vb,.int .i64 vn,.string vt] 0
   have Ai:Go.KV.GB g w0 (putC Y1 R 0 [.bool vb,.int .i64 vn,.string vt]):=(((Af.setO (by omega) 0 _).setO (by omega) 1 _).setO (by omega) 2 _)
   obtain⟨Z,hZ⟩:∃Z,putC Y1 R 0 [.bool vb,.int .i64 vn,.string vt]=Z:=⟨_,rfl⟩
   rw[hZ] at Ac Aj Ai
   have Bf:(((Y1.setCell ⟨R,0,none⟩ (.bool vb)).setCell ⟨R,1,none⟩ (.int .i64 vn)).setCell ⟨R,2,none⟩ (.string vt))=Z:=hZ
   change VarC Z R [.bool vb,.int .i64 vn,.string vt] at Ac
   have m0:=Ac.c 0 _ rfl
   have m1:=Ac.c 1 _ rfl
   have m2:=Ac.c 2 _ rfl
   have Aw:=Hd Aj;have HGZ:=Hd Ai
   clear Ag Ab Aa Af Ac Aj Ai hZ
   go_wp2_with fail
   refine bodyPost_ret (v:=.agg #[.bool vb,.int .i64 vn,.string vt]) (by simp[results,Tryz.results183,go_sem,m0,m1,m2]) rfl ?_
   exact⟨rfl,by simpa[Bf5] using Aw.out,HGZ.out⟩
  ·have hd:((c:Int)!=0)=true:=Ab5 (by omega)
   have HC:=Hd hc
   clear hc
   have y2:=Ak.out.c 2 _ rfl
   have x2:=Ak.out.fr 2 (show 2<3 by decide)
   have Ag:=Ak.out.set (k:=2) (show 2<3 by decide) (.bool true)
   have Ab:=Ae.out.other n1 2 (.bool true)
   have Aa:=HRG.out.other (fun e=>n3 e.symm) 2 (.bool true)
   have Af:=HGB.out.set 2 (.bool true)
   obtain⟨Y1,Au⟩:∃Y1,Y.setCell ⟨g,2,none⟩ (.bool true)=Y1:=⟨_,rfl⟩
   rw[Au] at Ag Ab Aa Af
   have p0:=Ab.c 0 _ rfl
   have r0:=Aa.c 0 _ rfl
   have t0:=Aa.fr 0 (show 0<3 by decide)
   have p1:=Ab.c 1 _ rfl
   have r1:=Aa.c 1 _ rfl
   have t1:=Aa.fr 1 (show 1<3 by decide)
   have p2:=Ab.c 2 _ rfl
   have r2:=Aa.c 2 _ rfl
   have t2:=Aa.fr 2 (show 2<3 by decide)
   have Ac:=Aa.putC [.bool vb,.int .i64 vn,.string vt] 0 (Q1 3)
   have Aj:=Ag.oputC (c:=R) n3 [.bool vb,.int .i64 vn,.string vt] 0
   have Ai:Go.KV.GB g w0 (putC Y1 R 0 [.bool vb,.int .i64 vn,.string vt]):=(((Af.setO (by omega) 0 _).setO (by omega) 1 _).setO (by omega) 2 _)
   obtain⟨Z,hZ⟩:∃Z,putC Y1 R 0 [.bool vb,.int .i64 vn,.string vt]=Z:=⟨_,rfl⟩
   rw[hZ] at Ac Aj Ai
   have Bf:(((Y1.setCell ⟨R,0,none⟩ (.bool vb)).setCell ⟨R,1,none⟩ (.int .i64 vn)).setCell ⟨R,2,none⟩ (.string vt))=Z:=hZ
   change VarC Z R [.bool vb,.int .i64 vn,.string vt] at Ac
   have m0:=Ac.c 0 _ rfl
   have m1:=Ac.c 1 _ rfl
   have m2:=Ac.c 2 _ rfl
   have Aw:=Hd Aj;have HGZ:=Hd Ai
   clear Ag Ab Aa Af Ac Aj Ai hZ
   go_wp2_with fail
   refine bodyPost_ret (v:=.agg #[.bool vb,.int .i64 vn,.string vt]) (by simp[results,Tryz.results183,go_sem,m0,m1,m2]) rfl ?_
   have hc:=HC.out
   exact⟨rfl,by simpa[Bf5,hc] using Aw.out,HGZ.out⟩
theorem Dj2(g:Nat)(s:ByteArray)(a:Int)(fl:Bool)(w:World)(hv:VarC w g (Bf5 s a fl))(hs:s.size<=4611686018427387904)(V:Value)(hV:V=.func (.func 146) #[] #[]):
   Calls Tryz.prog 145 #[.pointer (some ⟨g,0,none⟩),V] w (fun en w'=>en=.returned ((As4 s a).1.val)/\VarC w' g (Bf5 s (if(As4 s a).2.2=0 then(As4 s a).2.1 else a) (fl || decide ((As4 s a).2.2≠0)))/\Go.KV.GB g w w'):=by
 subst hV
 obtain⟨w0,Az⟩:∃w0,w0=w:=⟨_,rfl⟩
 rw[←Az] at hv⊢
 clear Az
 have h0:=fun w=>Ec7 s a w hs
 generalize As4 s a=G at *
 obtain⟨⟨zr,zu,⟨zb,zi,zt⟩,⟨xb,xi,xt⟩⟩,b,c⟩:=G
 simp only
 have HG:=fun w=>Hd (show Calls Tryz.prog 146 #[.string s,.int .i64 a] w (RetB (.tuple #[.agg #[.int .i64 zr,.int .i64 zu,.bool zb,.int .i64 zi,.string zt,.bool xb,.int .i64 xi,.string xt],.int .i64 b,.int .i64 (c:Int)]) w) from h0 w)
 clear h0
 have Bh:=hv.lt
 have As:=VarC.new w0 [.int .i64 0,.int .i64 0,.bool false,.int .i64 0,.string ⟨#[]⟩,.bool false,.int .i64 0,.string ⟨#[]⟩] 59
 have Ar:=(Q2 w0.heap.size w0).alloc (Q1 _) (.cells #[.int .i64 0,.int .i64 0,.bool false,.int .i64 0,.string ⟨#[]⟩,.bool false,.int .i64 0,.string ⟨#[]⟩] 59)
 obtain⟨X,hX⟩:∃X,w0.alloc (.cells #[.int .i64 0,.int .i64 0,.bool false,.int .i64 0,.string ⟨#[]⟩,.bool false,.int .i64 0,.string ⟨#[]⟩] 59)=X:=⟨_,rfl⟩
 change VarC (w0.alloc (.cells #[.int .i64 0,.int .i64 0,.bool false,.int .i64 0,.string ⟨#[]⟩,.bool false,.int .i64 0,.string ⟨#[]⟩] 59)) _ _ at As
 rw[hX] at As Ar
 have An:=hv.step Ar
 have Ap:=Hd (fun(w':World)(h:Below X.heap.size X w')=>show w'.cell? ⟨g,0,none⟩=some (.string s)/\w'.cell? ⟨g,1,none⟩=some (.int .i64 a)/\w'.cell? ⟨g,2,none⟩=some (.bool fl) from⟨(An.step h).c 0 _ rfl,(An.step h).c 1 _ rfl,(An.step h).c 2 _ rfl⟩)
 have Ax:=Hd (fun(w':World)(h:Below X.heap.size X w')=>And.intro (An.step h) (As.step h))
 have Bb:=Hd Ar
 clear hv An As Ar
 go_enter Tryz.func145,Tryz.ntmps145
 go_wp2_with fail
 have Ay:X.heap.size=w0.heap.size+1:=by rw[←hX];simp
 have Bg:g<X.heap.size:=by omega
 obtain⟨y0,y1,y2⟩:=Ap.out _ (Q2 _ _)
 have Ba:=Hd ((Q2 X.heap.size X).alloc (Q1 _) (.cells #[.int .i64 0,.int .i64 0,.bool false,.int .i64 0,.string ⟨#[]⟩,.bool false,.int .i64 0,.string ⟨#[]⟩] 59))
 have Bc:=Hd (show VarC (X.alloc (.cells #[.int .i64 0,.int .i64 0,.bool false,.int .i64 0,.string ⟨#[]⟩,.bool false,.int .i64 0,.string ⟨#[]⟩] 59)) (w0.heap.size+1) [.int .i64 0,.int .i64 0,.bool false,.int .i64 0,.string ⟨#[]⟩,.bool false,.int .i64 0,.string ⟨#[]⟩] by rw[←Ay];exact VarC.new X [.int .i64 0,.int .i64 0,.bool false,.int .i64 0,.string ⟨#[]⟩,.bool false,.int .i64 0,.string ⟨#[]⟩] 59)
 apply Cn5 (fun b5 Y=>VarC Y b5 [.int .i64 zr,.int .i64 zu,.bool zb,.int .i64 zi,.string zt,.bool xb,.int .i64 xi,.string xt]/\w0.heap.size<b5/\Below X.heap.size X Y)
 focus
  intro Ao
  have HT:=Hd Ao
  clear Ao
  go_region_law(first
   | (go_simp;go_at_call 146;(with_reducible refine(HG X.drew).out.mono ?_);rintro e w7 ⟨rfl,Aq⟩;have HBA:=Hd ((Q2 X.heap.size X).drew.trans Aq);obtain⟨y0,y1,y2⟩:=Ap.out w7 HBA.out)
   | (go_simp;go_at_call 146;(with_reducible refine(HG (X.alloc (.cells #[.int .i64 0,.int .i64 0,.bool false,.int .i64 0,.string ⟨#[]⟩,.bool false,.int .i64 0,.string ⟨#[]⟩] 59)).drew).out.mono ?_);rintro e w7 ⟨rfl,Aq⟩;have HVW:=Hd (Bc.out.step ((Q2 _ _).drew.trans Aq));have z0:=HVW.out.c 0 _ rfl;have f0:=HVW.out.fr 0 (show 0<8 by decide);have z1:=HVW.out.c 1 _ rfl;have f1:=HVW.out.fr 1 (show 1<8 by decide);have z2:=HVW.out.c 2 _ rfl;have f2:=HVW.out.fr 2 (show 2<8 by decide);have z3:=HVW.out.c 3 _ rfl;have f3:=HVW.out.fr 3 (show 3<8 by decide);have z4:=HVW.out.c 4 _ rfl;have f4:=HVW.out.fr 4 (show 4<8 by decide);have z5:=HVW.out.c 5 _ rfl;have f5:=HVW.out.fr 5 (show 5<8 by decide);have z6:=HVW.out.c 6 _ rfl;have f6:=HVW.out.fr 6 (show 6<8 by decide);have z7:=HVW.out.c 7 _ rfl;have f7:=HVW.out.fr 7 (show 7<8 by decide);have HBA:=Hd (Ba.out.drew.trans (Aq.mono (by simp)));obtain⟨y0,y1,y2⟩:=Ap.out w7 HBA.out)
   | fail)
  all_goals
   first
   | (have Ad:=Hd (HVW.out.putC [.int .i64 zr,.int .i64 zu,.bool zb,.int .i64 zi,.string zt,.bool xb,.int .i64 xi,.string xt] 0 (Q1 8))
      have Ah:=Hd (Ag2 (g:=w0.heap.size+1) [.int .i64 zr,.int .i64 zu,.bool zb,.int .i64 zi,.string zt,.bool xb,.int .i64 xi,.string xt] 0 HBA.out (by omega))
      have Ae:w0.heap.size<w0.heap.size+1:=Nat.lt_succ_self _
      obtain⟨Y,hY⟩:∃Y,putC w7 (w0.heap.size+1) 0 [.int .i64 zr,.int .i64 zu,.bool zb,.int .i64 zi,.string zt,.bool xb,.int .i64 xi,.string xt]=Y:=⟨_,rfl⟩
      rw[hY] at Ad Ah
      have Be:((((((((w7.setCell ⟨w0.heap.size+1,0,none⟩ (.int .i64 zr)).setCell ⟨w0.heap.size+1,1,none⟩ (.int .i64 zu)).setCell ⟨w0.heap.size+1,2,none⟩ (.bool zb)).setCell ⟨w0.heap.size+1,3,none⟩ (.int .i64 zi)).setCell ⟨w0.heap.size+1,4,none⟩ (.string zt)).setCell ⟨w0.heap.size+1,5,none⟩ (.bool xb)).setCell ⟨w0.heap.size+1,6,none⟩ (.int .i64 xi)).setCell ⟨w0.heap.size+1,7,none⟩ (.string xt))=Y:=hY
      rw[Be]
      obtain⟨b5,Al⟩:∃b5,w0.heap.size+1=b5:=⟨_,rfl⟩
      rw[Al] at Ad Ay Ae⊢)
   | (have Ad:=Hd (show VarC (w7.alloc (.cells #[.int .i64 zr,.int .i64 zu,.bool zb,.int .i64 zi,.string zt,.bool xb,.int .i64 xi,.string xt] 59)) _ _ from VarC.new w7 [.int .i64 zr,.int .i64 zu,.bool zb,.int .i64 zi,.string zt,.bool xb,.int .i64 xi,.string xt] 59)
      have Ah:=Hd (HBA.out.alloc HBA.out.size (.cells #[.int .i64 zr,.int .i64 zu,.bool zb,.int .i64 zi,.string zt,.bool xb,.int .i64 xi,.string xt] 59))
      have Ae:w0.heap.size<w7.heap.size:=by have:=HBA.out.size;omega
      obtain⟨Y,hY⟩:∃Y,w7.alloc (.cells #[.int .i64 zr,.int .i64 zu,.bool zb,.int .i64 zi,.string zt,.bool xb,.int .i64 xi,.string xt] 59)=Y:=⟨_,rfl⟩
      rw[hY] at Ad Ah⊢
      obtain⟨b5,Al⟩:∃b5,w7.heap.size=b5:=⟨_,rfl⟩
      rw[Al] at Ad Ae⊢)
   exact HT.out _ _ ⟨Ad.out,Ae,Ah.out⟩
 ·intro b5 Y ⟨Ab,Ae,Al⟩
  have Ad:=Hd Ab;have Ah:=Hd Al
  clear Ab Al Bg Ba Bc y0 y1 y2
  obtain⟨Ag,Aa⟩:=Ax.out _ Ah.out
  have Af:=(Bb.out.trans (Ah.out.mono (by omega)):Below w0.heap.size w0 Y)
  obtain⟨R,hR⟩:∃R,w0.heap.size=R:=⟨_,rfl⟩
  rw[hR] at Aa Ae⊢
  have n1:b5≠g:=by omega
  have n2:b5≠R:=by omega
  have n3:g≠R:=by omega
  have Bd:=(Go.KV.GB.refl g w0).of Af (Q1 _)
  have k0:=Ad.out.c 0 _ rfl
  have k1:=Ad.out.c 1 _ rfl
  have k2:=Ad.out.c 2 _ rfl
  have k3:=Ad.out.c 3 _ rfl
  have k4:=Ad.out.c 4 _ rfl
  have k5:=Ad.out.c 5 _ rfl
  have k6:=Ad.out.c 6 _ rfl
  have k7:=Ad.out.c 7 _ rfl
  have Ak:=Hd Ag;have HRG:=Hd Aa;have HGB:=Hd Bd
  clear Ag Aa Af Bd Ah Ax Ap Bb hX HG
  by_cases hc:c=0
  ·subst hc
   have y1:=Ak.out.c 1 _ rfl
   have x1:=Ak.out.fr 1 (show 1<3 by decide)
   have Ag:=Ak.out.set (k:=1) (show 1<3 by decide) (.int .i64 b)
   have Ab:=Ad.out.other n1 1 (.int .i64 b)
   have Aa:=HRG.out.other (fun e=>n3 e.symm) 1 (.int .i64 b)
   have Af:=HGB.out.set 1 (.int .i64 b)
   obtain⟨Y1,Au⟩:∃Y1,Y.setCell ⟨g,1,none⟩ (.int .i64 b)=Y1:=⟨_,rfl⟩
   rw[Au] at Ag Ab Aa Af
   have p0:=Ab.c 0 _ rfl
   have r0:=Aa.c 0 _ rfl
   have t0:=Aa.fr 0 (show 0<8 by decide)
   have p1:=Ab.c 1 _ rfl
   have r1:=Aa.c 1 _ rfl
   have t1:=Aa.fr 1 (show 1<8 by decide)
   have p2:=Ab.c 2 _ rfl
   have r2:=Aa.c 2 _ rfl
   have t2:=Aa.fr 2 (show 2<8 by decide)
   have p3:=Ab.c 3 _ rfl
   have r3:=Aa.c 3 _ rfl
   have t3:=Aa.fr 3 (show 3<8 by decide)
   have p4:=Ab.c 4 _ rfl
   have r4:=Aa.c 4 _ rfl
   have t4:=Aa.fr 4 (show 4<8 by decide)
   have p5:=Ab.c 5 _ rfl
   have r5:=Aa.c 5 _ rfl
   have t5:=Aa.fr 5 (show 5<8 by decide)
   have p6:=Ab.c 6 _ rfl
   have r6:=Aa.c 6 _ rfl
   have t6:=Aa.fr 6 (show 6<8 by decide)
   have p7:=Ab.c 7 _ rfl
   have r7:=Aa.c 7 _ rfl
   have t7:=Aa.fr 7 (show 7<8 by decide)
   have Ac:=Aa.putC [.int .i64 zr,.int .i64 zu,.bool zb,.int .i64 zi,.string zt,.bool xb,.int .i64 xi,.string xt] 0 (Q1 8)
   have Aj:=Ag.oputC (c:=R) n3 [.int .i64 zr,.int .i64 zu,.bool zb,.int .i64 zi,.string zt,.bool xb,.int .i64 xi,.string xt] 0
   have Ai:Go.KV.GB g w0 (putC Y1 R 0 [.int .i64 zr,.int .i64 zu,.bool zb,.int .i64 zi,.string zt,.bool xb,.int .i64 xi,.string xt]):=((((((((Af.setO (by omega) 0 _).setO (by omega) 1 _).setO (by omega) 2 _).setO (by omega) 3 _).setO (by omega) 4 _).setO (by omega) 5 _).setO (by omega) 6 _).setO (by omega) 7 _)
   obtain⟨Z,hZ⟩:∃Z,putC Y1 R 0 [.int .i64 zr,.int .i64 zu,.bool zb,.int .i64 zi,.string zt,.bool xb,.int .i64 xi,.string xt]=Z:=⟨_,rfl⟩
   rw[hZ] at Ac Aj Ai
   have Bf:((((((((Y1.setCell ⟨R,0,none⟩ (.int .i64 zr)).setCell ⟨R,1,none⟩ (.int .i64 zu)).setCell ⟨R,2,none⟩ (.bool zb)).setCell ⟨R,3,none⟩ (.int .i64 zi)).setCell ⟨R,4,none⟩ (.string zt)).setCell ⟨R,5,none⟩ (.bool xb)).setCell ⟨R,6,none⟩ (.int .i64 xi)).setCell ⟨R,7,none⟩ (.string xt))=Z:=hZ
   change VarC Z R [.int .i64 zr,.int .i64 zu,.bool zb,.int .i64 zi,.string zt,.bool xb,.int .i64 xi,.string xt] at Ac
   have m0:=Ac.c 0 _ rfl
   have m1:=Ac.c 1 _ rfl
   have m2:=Ac.c 2 _ rfl
   have m3:=Ac.c 3 _ rfl
   have m4:=Ac.c 4 _ rfl
   have m5:=Ac.c 5 _ rfl
   have m6:=Ac.c 6 _ rfl
   have m7:=Ac.c 7 _ rfl
   have Aw:=Hd Aj;have HGZ:=Hd Ai
   clear Ag Ab Aa Af Ac Aj Ai hZ
   go_wp2_with fail
   refine bodyPost_ret (v:=.agg #[.int .i64 zr,.int .i64 zu,.bool zb,.int .i64 zi,.string zt,.bool xb,.int .i64 xi,.string xt]) (by simp[results,Tryz.results145,go_sem,m0,m1,m2,m3,m4,m5,m6,m7]) rfl ?_
   exact⟨rfl,by simpa[Bf5] using Aw.out,HGZ.out⟩
  ·have hd:((c:Int)!=0)=true:=Ab5 (by omega)
   have HC:=Hd hc
   clear hc
   have y2:=Ak.out.c 2 _ rfl
   have x2:=Ak.out.fr 2 (show 2<3 by decide)
   have Ag:=Ak.out.set (k:=2) (show 2<3 by decide) (.bool true)
   have Ab:=Ad.out.other n1 2 (.bool true)
   have Aa:=HRG.out.other (fun e=>n3 e.symm) 2 (.bool true)
   have Af:=HGB.out.set 2 (.bool true)
   obtain⟨Y1,Au⟩:∃Y1,Y.setCell ⟨g,2,none⟩ (.bool true)=Y1:=⟨_,rfl⟩
   rw[Au] at Ag Ab Aa Af
   have p0:=Ab.c 0 _ rfl
   have r0:=Aa.c 0 _ rfl
   have t0:=Aa.fr 0 (show 0<8 by decide)
   have p1:=Ab.c 1 _ rfl
   have r1:=Aa.c 1 _ rfl
   have t1:=Aa.fr 1 (show 1<8 by decide)
   have p2:=Ab.c 2 _ rfl
   have r2:=Aa.c 2 _ rfl
   have t2:=Aa.fr 2 (show 2<8 by decide)
   have p3:=Ab.c 3 _ rfl
   have r3:=Aa.c 3 _ rfl
   have t3:=Aa.fr 3 (show 3<8 by decide)
   have p4:=Ab.c 4 _ rfl
   have r4:=Aa.c 4 _ rfl
   have t4:=Aa.fr 4 (show 4<8 by decide)
   have p5:=Ab.c 5 _ rfl
   have r5:=Aa.c 5 _ rfl
   have t5:=Aa.fr 5 (show 5<8 by decide)
   have p6:=Ab.c 6 _ rfl
   have r6:=Aa.c 6 _ rfl
   have t6:=Aa.fr 6 (show 6<8 by decide)
   have p7:=Ab.c 7 _ rfl
   have r7:=Aa.c 7 _ rfl
   have t7:=Aa.fr 7 (show 7<8 by decide)
   have Ac:=Aa.putC [.int .i64 zr,.int .i64 zu,.bool zb,.int .i64 zi,.string zt,.bool xb,.int .i64 xi,.string xt] 0 (Q1 8)
   have Aj:=Ag.oputC (c:=R) n3 [.int .i64 zr,.int .i64 zu,.bool zb,.int .i64 zi,.string zt,.bool xb,.int .i64 xi,.string xt] 0
   have Ai:Go.KV.GB g w0 (putC Y1 R 0 [.int .i64 zr,.int .i64 zu,.bool zb,.int .i64 zi,.string zt,.bool xb,.int .i64 xi,.string xt]):=((((((((Af.setO (by omega) 0 _).setO (by omega) 1 _).setO (by omega) 2 _).setO (by omega) 3 _).setO (by omega) 4 _).setO (by omega) 5 _).setO (by omega) 6 _).setO (by omega) 7 _)
   obtain⟨Z,hZ⟩:∃Z,putC Y1 R 0 [.int .i64 zr,.int .i64 zu,.bool zb,.int .i64 zi,.string zt,.bool xb,.int .i64 xi,.string xt]=Z:=⟨_,rfl⟩
   rw[hZ] at Ac Aj Ai
   have Bf:((((((((Y1.setCell ⟨R,0,none⟩ (.int .i64 zr)).setCell ⟨R,1,none⟩ (.int .i64 zu)).setCell ⟨R,2,none⟩ (.bool zb)).setCell ⟨R,3,none⟩ (.int .i64 zi)).setCell ⟨R,4,none⟩ (.string zt)).setCell ⟨R,5,none⟩ (.bool xb)).setCell ⟨R,6,none⟩ (.int .i64 xi)).setCell ⟨R,7,none⟩ (.string xt))=Z:=hZ
   change VarC Z R [.int .i64 zr,.int .i64 zu,.bool zb,.int .i64 zi,.string zt,.bool xb,.int .i64 xi,.string xt] at Ac
   have m0:=Ac.c 0 _ rfl
   have m1:=Ac.c 1 _ rfl
   have m2:=Ac.c 2 _ rfl
   have m3:=Ac.c 3 _ rfl
   have m4:=Ac.c 4 _ rfl
   have m5:=Ac.c 5 _ rfl
   have m6:=Ac.c 6 _ rfl
   have m7:=Ac.c 7 _ rfl
   have Aw:=Hd Aj;have HGZ:=Hd Ai
   clear Ag Ab Aa Af Ac Aj Ai hZ
   go_wp2_with fail
   refine bodyPost_ret (v:=.agg #[.int .i64 zr,.int .i64 zu,.bool zb,.int .i64 zi,.string zt,.bool xb,.int .i64 xi,.string xt]) (by simp[results,Tryz.results145,go_sem,m0,m1,m2,m3,m4,m5,m6,m7]) rfl ?_
   have hc:=HC.out
   exact⟨rfl,by simpa[Bf5,hc] using Aw.out,HGZ.out⟩
end Go.P
