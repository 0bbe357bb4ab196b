import Derived.Test.YtpehcaidjlemiaaGreatDoorMMQ16
set_option maxHeartbeats 8000000
set_option maxRecDepth 100000
set_option linter.all false
namespace Go.Proofs.YtpehcaidjlemiaaGreatDoor
open Go Go.RowKit Go.Proofs.Tryz
variable {w:World} {B:Nat} {A:Option Addr}
theorem qCI:(prog.info? 43).map (fun i=>(i.zero,i.size,i.bytes))=some (some (.agg #[.slice none 0 0,.slice none 0 0,.slice none 0 0,.slice none 0 0]),4,96):=by kernel_rfl
theorem qCJ:(prog.info? 24).map (fun i=>(i.zero,i.size,i.bytes))=some (some (.slice none 0 0),1,24):=by kernel_rfl
def qCK (z:List Bool) (k:Nat):z.drop (min z.length k)=z.drop k:=by
 by_cases a:k<=z.length
 ·rw [Nat.min_eq_right a]
 ·rw [eD (by omega),eE (aA _),eE (by omega)]
def qCL {z:List Bool} (a:Row w B A (qbK z)) (c t:Nat):∃ d,(if c=t then A else A.map (·.add (t*1)))=d/\(t<=z.length->z.length<=c->Row w B d (qbK (z.drop t))):=by
 refine ⟨_,rfl,fun n k=> ?_⟩;rcases a with a|⟨b,i,rfl,l,m⟩
 ·have :z=[]:=sB (by simpa [qbK] using congrArg List.length a)
  subst this;exact .inl (by simp [qbK])
 ·by_cases e:c=t
  ·subst e
   rw [eA rfl,eE k];exact .inl rfl
  ·rw [dA e]
   refine .inr ⟨b,i+t*1,by simp [Addr.add],l,fun j u g=> ?_⟩;have h:qbK (z.drop t)=(qbK z).drop t:=by simp [qbK,List.map_drop]
   rw [h,List.getElem?_drop] at g;have :=m (t+j) u g;rwa [Nat.mul_one,uB]
def qr5 (Ls:List (List En)) (z:List Bool) (w3:World) (vs d a b i:Value) (wr:World):Prop:=∃ (k:Nat) (c e:List Nat),k<=Ls.length/\i= .int .i64 (k:Int)/\qcF w3.heap.size (Ls.take k) (Ls.take k) ((qdQ z Ls).take k) ((qdQ z Ls).take k) c e vs d a b w3 wr
def walk_MergeMerges (b7:Option Addr) (bv a9:Nat) (bo:List Dc) (ap:Option Addr) (a0 bz:Nat) (O:List Int) (c9:Int) (br:Option Addr) (ad al:Nat) (r:List Bool) (W:World) (bm:qlG W b7 bv a9 bo) (h1:qh0 .i64 W ap a0 bz O) (h2:(Lit.int .i64 c9).wf=true) (h3:qkL W br ad al r) (em:Tab W):
    yG 3 #[.slice b7 bv a9,.slice ap a0 bz,.int .i64 c9,.slice br ad al] W fun e b=>e= .returned (.bool true)/\wG W b:=by
  have ⟨hh,gc,g5,hp,gz⟩:=lG qCt;have ⟨hy,ht,gq,hc,fy⟩:=lG qCu;have ⟨gh,hg,hj,ft,gi⟩:=lG qCI;have ⟨b0,hw,f6,h6,hm⟩:=lG qCJ;obtain ⟨gv,dz,ej,e5,dy⟩:=bm;obtain ⟨f3,ed,ez,fg,ew⟩:=h1;obtain ⟨⟨eo,q2,q3⟩,f1⟩:=h3;have c7:yG 10 #[.slice b7 bv a9,.int .i64 12,.int .i64 1,.int .i64 2] W (qq3 (qcL bo 12 1 2) W):=qAX b7 bv a9 bo 12 1 2 W ej e5 (by unfold maxLen at dz;omega) (by omega) (by omega) (by omega) fun q g9 f a1=>by
    have :=dy q g9 f a1;unfold maxLen at this;omega
  have ⟨aa,ba⟩:=qE (qcL bo 12 1 2);have df:qbz aa:=by rw [ba];exact qzg _ _ _ _ (by omega) (by omega) (by omega)
  have ex:aa.length<=12:=by rw [ba,qln];omega
  rw [<- ba] at c7;have er:=qH c7;have f4:=qH df;have ⟨N,ds⟩:=qE aa.length;rw [<- ds] at ex;have bw:=qH ds;have fb:=qH em;have f7:qI (Row W W.heap.size ap (qaa O)):=qH fg;have hq:=qH ez;have ha:qI (∀ a∈O, -9223372036854775808<=a/\a<=9223372036854775807):=qH fun a gg=>qmY (ew a gg)
  have g1:a0<=9223372036854775807:=by unfold maxLen at ed;omega
  have bd:=qH eo;have f5:=qH q3;have hx:=qH q2;have ⟨g,ig,e7,e2⟩:=qtF (qmY h2);have ⟨m,hb⟩:=qE (1+g%3:Nat);have iu:1<=m:=by omega
  have ir:m<=3:=by omega
  have fk:=qH e7;have dx:=qH e2;have gw:qI ((1:Int)+(g:Int)%3=(m:Int)):=qH (by omega);have ⟨Ls,bt⟩:=qE (qcN aa O m);have cf:=qH bt;have eb:Ls.length=m:=by rw [bt];exact qjh aa O m
  have T:=qH eb;have cc:qI (∀ B∈Ls,qbz B):=qH fun B ay=>by
    rw [bt] at ay;obtain ⟨j,_,rfl⟩:=tA.1 ay;exact qCq df O m j
  have d3:qI (∀ (aj:Option Addr) (ak:Nat) (K:World),qa6 (fun k=>k<K.heap.size) K (.slice aj N ak) aa->Row K K.heap.size ap (qaa O)->yG 9 #[.slice aj N ak,.slice ap a0 bz,.int .i64 (m:Int)] K (qrn aa O m K)):=qH fun aj ak K h1 h2=>
    qBJ aj ap N ak a0 bz m aa O K h1 bw.o.symm (by omega) h2 hq.o g1 ha.o (by omega) (by omega)
  clear gv dz ej e5 dy ba df ds em c7 f3 ed ez fg ew bt eb eo q2 q3 e7 e2 hb h2
  go_enter func3,ntmps3
  go_upto_if 24 with fail
  go_cut [2] from 23 to 27 (fun s g4=>s= .int .i64 (g:Int)/\W=g4)
  case first=>
    by_cases bm:c9<0
    · have fl:=fk.o bm
      go_wp2_with fail
      go_meet;exact ⟨rfl,rfl⟩
    · have fl:=dx.o bm
      subst fl
      go_wp2_with fail
      go_meet;exact ⟨rfl,rfl⟩
  case rest=>
    obtain ⟨rfl,rfl⟩:=hcut
    go_upto_region 4 with fail
    rw [gw.o];clear fk dx
    go_upto_region 5 with (first
      | (go_at_call 10; (with_reducible refine er.o.mono ?_); rintro e K ⟨V, rfl, da, ey⟩
         obtain ⟨aj,ak,rfl,g8,C⟩:=da.nest;rw [<- bw.o] at g8 ⊢;have dw:qI (qa6 (fun k=>W.heap.size<=k) K (.slice aj N ak) aa):=qH (by rw [bw.o];exact da);have b6:=qH ey;clear da ey C)
      | (go_at_call 9; (with_reducible refine (d3.o aj ak K dw.o.small ((f7.o.below b6.o).more b6.o.size)).mono ?_); rintro e w3 ⟨ef, ls, ij, rfl, a8⟩
         rw [<- cf.o] at a8;have bx:=qH a8;have bh:=qH (b6.o.trans (a8.below.mono b6.o.size));clear a8))
    have aq:qr5 Ls r w3 (.slice none 0 0) (.slice none 0 0) (.slice none 0 0) (.slice none 0 0) (.int .i64 0) w3:=⟨0,[],[],kA _,rfl,qCy w3⟩;have d4:=qH aq;clear aq d3 er dw;go_wp2
    go_loopw [10,11,12,13,14,15,16,17,18] (fun vs gd hz hn i _ _ _ _ wr=>qr5 Ls r w3 vs gd hz hn i wr) (fun _ _ _ _ i _ _ _ _ _=>m-(intOf i).toNat)
    case atStart=>exact d4.o
    case round=>
      clear d4;obtain ⟨k,hi,gy,hu,rfl,L⟩:=hrel;rw [T.o] at hu;by_cases bk:k<m
      · have aw:k<Ls.length:=by rw [T.o];exact bk
        have ar:=(bx.o.cell bk).1;have az:=bx.o.own_es bk;have fh:=(bx.o.row bk);obtain ⟨b1,bc,d6,h7, -⟩:=qaU fh;rw [d6] at ar az;have bj:=cc.o _ (pA aw);have du:Ls.take (k+1)=Ls.take k++[Ls[k]]:=aB aw;have c5:k<(qdQ r Ls).length:=by rw [qhZ];exact aw
        have an:(qdQ r Ls).take (k+1)=(qdQ r Ls).take k++[qeQ (r.drop (4*k)) Ls[k].length]:=by rw [aB c5,qr2 aw c5]
        have d1:(Ls.take k).length=k:=by rw [sA];omega
        have d8:((qdQ r Ls).take k).length=k:=by rw [sA];omega
        have ⟨B,ay⟩:=qE (Ls[k]);rw [<- ay] at az ar bj du an;have ⟨n,b3⟩:=qE B.length;rw [<- b3] at az ar an;have iv:n<=100:=by rw [b3];exact bj.few
        have ⟨t,fa⟩:=qE (min ad (4*k));have eg:r.drop (4*k)=r.drop t:=by rw [fa,<- bd.o,qCK]
        rw [eg] at an;have ⟨R,bi⟩:=qE (qeQ (r.drop t) n);rw [<- bi] at an;have fo:R.length=n:=by rw [bi,qrv]
        have di:qI (∀ b,wG w3 b->b.cell? ⟨ef,k,none⟩=some (.slice b1 n bc)):=qH fun b D=>(D.cell (p:=⟨ef,k,none⟩) bx.o.lt.1).trans ar
        have h:=di.o wr L.run.below;have gm:=qH b3;have e3:=qH (fun (b:World) (D:wG w3 b)=>az.later D);have fj:=qH bj;have gl:=qH du;have gp:=qH an;have bf:=qH d1;have b2:=qH d8;have d0:=qH L;have gt:=qH bi;have ip:(k:Int)<(m:Int):=by omega
        clear ar az fh d6 bj du d1 d8 ay b3 L an eg bi c5
        go_upto_region 13 with (first
          | (go_at_call 11; (with_reducible refine (qBR (.slice b1 n bc) B wr (e3.o wr d0.o.run.below).small fj.o).mono ?_); rintro e bb ⟨S, rfl, d9, -, e4⟩
             have cy:=qH (d0.o.later e4);have hf:=qH d9;have U:=di.o bb cy.o.run.below;clear d9 e4))
        have ⟨ca,ea,fn⟩:=qCL f5.o al t;have e9:=fn (by have :=bd.o;omega) (by rw [bd.o];exact f1);have il:t<=ad:=by omega
        have ia:(t:Int)<=(ad:Int):=by omega
        have ge:min (ad:Int) (IntKind.i64.wrap (4*(k:Int)))=(t:Int):=by
          rw [show IntKind.i64.wrap (4*(k:Int))=4*(k:Int) from iG _ (by omega)]
          omega
        have ho:(if al=t then br else Option.map (fun x=>x.add t) br)=ca:=by simpa using ea
        clear fa;have h4:qI (∀ b,wG W b->yG 12 #[.slice ca (ad-t) (al-t),.int .i64 (n:Int)] b (qry (r.drop t) n b)):=qH fun b D=>
          qB0 ca (ad-t) (al-t) (r.drop t) n b (by rw [rB,bd.o]) ((e9.below D).more D.size) (by omega) (by have :=hx.o;omega)
        have e1:=qH fo;have h0:qI (wG W bb):=qH (bh.o.trans (cy.o.run.below.mono bh.o.size));clear ea fn e9 fo
        go_region_law (first
          | (go_simp; go_at_call 12; (with_reducible refine (h4.o _ h0.o.drew).mono ?_); rintro e a5 ⟨ao, b4, rfl, c3, dh, e8⟩
             have dp:=(bA bb.heap.size bb).drew.trans e8;rw [<- gt.o] at c3 dh;have cr:=qH (cy.o.later dp);have fs:=qH (hf.o.below dp);have hs:=qH dh;have fu:qI (qat 0 4 a5 (some ⟨ao,0,none⟩) (R.map Value.bool)):=qH (.of_own c3);have h9:=cr.o.run.size;clear c3 dh e8 dp))
        all_goals
          clear ge ho h U
          go_wp2_with (first
            | (at_builtin; refine wB _ rfl (.tmp 65) (.tmp 67) 29 rfl w3.heap.size 33 hh _ 1 8 underlying29 gc g5 hp gz rfl (by omega) u10 k (qbD hi) rfl (by have := cr.o.run.segs.alloc (.cells #[.pointer (some ⟨S, 0, none⟩)] 33); rwa [bf.o] at this) ⟨a5.heap.size, 0, none⟩ 1 1 [.pointer (some ⟨S, 0, none⟩)] rfl rfl (qaH a5 [.pointer (some ⟨S, 0, none⟩)] 33) (by intro u C; simp at C; subst C; rfl) (by unfold maxLen; omega) (by omega) (by simp; omega) ?_
               intro it bu cw cs h5;have d:=(bA a5.heap.size a5).alloc (aA _) (.cells #[.pointer (some ⟨S,0,none⟩)] 33);have c0:=cr.o.later d;rw [<- bf.o] at cw;have cl:=qar.grown c0.run.segs cs;have gu:=qH ((hs.o.below d).keptN cl (by decide) (by decide));have fw:=qH ((fu.o.keepT (.of_below d)).keepN cl (by decide));have cv:=qH (c0.seg (fs.o.below d) cw cs);have ih:=cv.o.run.size;clear cw cs h5 d c0 cl)
            | (at_builtin; refine wB _ rfl (.tmp 69) (.tmp 71) 30 rfl w3.heap.size 37 hy _ 1 8 underlying30 ht gq hc fy rfl (by omega) u11 k (qbD gy) rfl (by have := cv.o.run.sets.alloc (.cells #[.pointer (some ⟨b4, 0, none⟩)] 37); rwa [b2.o] at this) ⟨bu.heap.size, 0, none⟩ 1 1 [.pointer (some ⟨b4, 0, none⟩)] rfl rfl (qaH bu [.pointer (some ⟨b4, 0, none⟩)] 37) (by intro u C; simp at C; subst C; rfl) (by unfold maxLen; omega) (by omega) (by simp; omega) ?_
               intro ii av ci c6 f0;have d:=(bA bu.heap.size bu).alloc (aA _) (.cells #[.pointer (some ⟨b4,0,none⟩)] 37);have cg:=cv.o.later d;rw [<- b2.o] at ci;have ev:=qar.grown cg.run.sets c6;have g3:=qH ((fw.o.keepT (.of_below d)).keepN ev (by decide));have cu:=qH (cg.set (gu.o.below d) ci c6);have h8:=di.o av cu.o.run.below;have f2:qI (yG 13 #[.slice b1 n bc] av (qrp (qac B) av)):=qH (by
                 obtain ⟨ic,iq,dg, -,C⟩:=(e3.o av cu.o.run.below).nest;injection dg with dg
                 subst dg;exact qB1 b1 n bc B av gm.o.symm C fj.o)
               clear ci c6 f0 d cg ev)
            | (go_at_call 13; (with_reducible refine f2.o.mono ?_); rintro e bp ⟨l, h, J, M, w, z, v, y, rfl, fq, ac, ch⟩
               have dt:=qH (cu.o.later ch);have gj:=qH (g3.o.keepT (.of_below ch));have ⟨a4,cx⟩:=qE ((qac B).ids.length);have ⟨a3,ct⟩:=qE ((qac B).seqs.length);have ⟨au,c8⟩:=qE ((qac B).keys.length);have ⟨a2,c2⟩:=qE ((qac B).lists.length);rw [<- cx,<- ct,<- c8,<- c2];have bq:qI ((qac B).ids.length=a4/\(qac B).seqs.length=a3/\(qac B).keys.length=au/\(qac B).lists.length=a2):=qH ⟨cx.symm,ct.symm,c8.symm,c2.symm⟩;have gr:=qH fq;have b8:=qH ac;have ⟨g0,dc,et⟩:=dt.o.parts;rw [bf.o] at dc;have ep:=qH dc;have g6:=qH et;have iw:=dt.o.run.size;clear fq ac ch cx ct c8 c2 dc et)
            | (at_builtin; refine wB _ rfl (.tmp 73) (.tmp 79) 31 rfl w3.heap.size 43 gh _ 4 96 underlying31 hg hj ft gi rfl (by omega) u12 k g0 rfl (ep.o.alloc _) ⟨bp.heap.size, 0, none⟩ 1 1 [.slice l a4 h, .slice J a3 M, .slice w au z, .slice v a2 y] rfl rfl (qaH bp [.slice l a4 h, .slice J a3 M, .slice w au z, .slice v a2 y] 43) (by intro u C; simp at C; rcases C with rfl | rfl | rfl | rfl <;> rfl) (by unfold maxLen; omega) (by omega) (by simp; omega) ?_
               intro ib ab cz dq gs;have d:=(bA bp.heap.size bp).alloc (aA _) (.cells #[.slice l a4 h,.slice J a3 M,.slice w au z,.slice v a2 y] 43);have c4:=ep.o.alloc (.cells #[.slice l a4 h,.slice J a3 M,.slice w au z,.slice v a2 y] 43);have fi:=qar.grown c4 dq;rw [<- bq.o.1,<- bq.o.2.1,<- bq.o.2.2.1,<- bq.o.2.2.2] at cz;have hk:=qH ((gj.o.keepT (.of_below d)).keepN fi (by decide));have dj:=qH ((dt.o.later d).part bf.o.symm gr.o (b8.o.below d) c4 (g6.o.keepN (E:=PT) (.of_below d) (by decide) (by decide) (by decide) (by decide)) cz dq);have ⟨hl,b9,ei⟩:=dj.o.truths;rw [b2.o] at b9;have fd:=qH b9;have hd:=qH ei;have io:=dj.o.run.size;clear cz dq gs d c4 fi b9 ei)
            | (at_builtin; refine wB _ rfl (.tmp 81) (.tmp 83) 32 rfl w3.heap.size 24 b0 _ 1 24 underlying32 hw f6 h6 hm rfl (by omega) u13 k hl rfl (fd.o.alloc _) ⟨ab.heap.size, 0, none⟩ 1 1 [.slice (some ⟨ao, 0, none⟩) n n] rfl rfl (qaH ab [.slice (some ⟨ao, 0, none⟩) n n] 24) (by intro u C; simp at C; subst C; rfl) (by unfold maxLen; omega) (by omega) (by simp; omega) ?_
               intro ie am dm d5 fz;have d:=(bA ab.heap.size ab).alloc (aA _) (.cells #[.slice (some ⟨ao,0,none⟩) n n] 24);rw [show (Value.slice (some ⟨ao,0,none⟩) n n)= .slice (some ⟨ao,0,none⟩) R.length n by rw [e1.o]] at dm;have cd:=(dj.o.later d).truth b2.o.symm ⟨by rw [e1.o];exact aA _,by unfold maxLen;omega⟩ (hk.o.keepT (.of_below d)) (fd.o.alloc _) (hd.o.keepT (.of_below d)) dm d5;rw [<- gl.o,<- gp.o] at cd;have gn:=qH cd;clear dm d5 fz d cd))
          go_roundw
          case rel=>exact ⟨k+1,_,_,aw,by go_num,gn.o⟩
          case measure=>simp [intOf];omega
      · obtain rfl:m=k:=by omega
        rw [nB (by rw [T.o];exact aA _),nB (by rw [qhZ,T.o];exact aA _)] at L;obtain ⟨A,c,J,M,rfl,rfl, -, -⟩:=L.run.lens;obtain ⟨ck,dr,cn,cp,rfl,rfl⟩:=L.lens;have cj:wG W wr:=bh.o.trans (L.run.below.mono bh.o.size);have ⟨ee,aq⟩:=L.run.ins;have dn:(qaz Ls.flatten).Nodup:=by rw [cf.o];exact qz0 (qjm f4.o)
        have gk:Ls.flatten.length<=12:=by rw [cf.o,qCr O (by omega),<- bw.o];exact ex
        have a1:=qCz r Ls;have d7:=qCC a1 cc.o (by rw [T.o];omega) (by omega) dn;have cb:=qH (qCE A J m c m M Ls (qdQ r Ls) wr ee aq T.o (by rw [qhZ,T.o]) (by omega) cc.o (by omega) (fb.o.below cj fb.o.lt) a1 dn);have dk:qI (∀ b,wG wr b->yG 15 #[.slice ck m dr,.slice cn m cp] b (qrI (Ls.map qac) (qdQ r Ls) b)):=qH fun b D=>qCx ck cn m dr cp _ _ b ((L.later D).ins).1 ((L.later D).ins).2 (by rw [gB,T.o]) d7
        have e0:=qH cj;rw [qhZ,T.o];clear L cj ee aq dn gk a1 d7;have ⟨ps,eh⟩:=qE (Ls.map qac);have ⟨rs,fm⟩:=qE (qdQ r Ls);rw [<- eh,<- fm] at cb dk;clear eh fm
        go_upto_region 19 with (go_at_call 14;(with_reducible refine cb.o.mono ?_);rintro e ab ⟨o,S,ek,dl,rfl,ce,dv⟩)
        have ⟨x,cm⟩:=qE (qd3 ps (qaj rs o));rw [<- cm] at ce dl;have ⟨I,db⟩:=qE x.ids.length;have ⟨G,c1⟩:=qE x.seqs.length;have ⟨F,de⟩:=qE x.keys.length;have ⟨H,co⟩:=qE x.lists.length;have f9:qI (yG 15 #[.slice ck m dr,.slice cn m cp] ab fun e w'=>∃ l h J M w z v y,e= .returned (.tuple #[.agg #[.slice l I h,.slice J G M,.slice w F z,.slice v H y],.int .i64 0])/\qdg w' l J w v x/\wG ab w'):=qH ((dk.o ab dv).mono fun e w' ⟨im,l,h,J,M,w,z,v,y,g2,d2,ac,gx⟩=>by
          obtain rfl:=g2.ext ek;rw [<- cm] at d2 ac;exact ⟨l,h,J,M,w,z,v,y,by rw [db,c1,de,co];exact d2,ac,gx⟩)
        have fx:=qH ce;have fc:=qH (e0.o.trans (dv.mono e0.o.size));have ec:=qH dl;have fr:qI (x.ids.length=I/\x.seqs.length=G/\x.keys.length=F/\x.lists.length=H):=qH ⟨db.symm,c1.symm,de.symm,co.symm⟩;clear ek cm ce dl dv db c1 de co cb dk
        go_upto_region 20 with (go_at_call 15; (with_reducible refine f9.o.mono ?_); rintro e am ⟨l, h, w, z, v, y, ah, U, rfl, ac, cq⟩
                                have b8:=qH ac;have fv:=qH (fx.o.below cq);have es:=qH (fc.o.trans (cq.mono fc.o.size));clear ac cq)
        have d:=(bA am.heap.size am).alloc (aA _) (.cells #[.slice l I h,.slice w G z,.slice v F y,.slice ah H U] 43);have ax:=jA am (.cells #[.slice l I h,.slice w G z,.slice v F y,.slice ah H U] 43);have ⟨a6,ff⟩:=qE (am.alloc (.cells #[.slice l I h,.slice w G z,.slice v F y,.slice ah H U] 43));rw [<- ff] at d ax ⊢;have ⟨Q,eu⟩:=qE am.heap.size;rw [<- eu] at ax ⊢;have be:qI (∀ b,wG a6 b->b.cell? ⟨Q,0,none⟩=some (.slice l I h)/\b.cell? ⟨Q,1,none⟩=some (.slice w G z)/\b.cell? ⟨Q,2,none⟩=some (.slice v F y)/\b.cell? ⟨Q,3,none⟩=some (.slice ah H U)):=qH fun b D=>(qaw ((D.block _ (gA.1 ax).1).trans ax)).1
        have g7:=qH (b8.o.below d);have he:=qH (fv.o.below d);have fp:=qH (es.o.trans (d.mono es.o.size));have ga:qI (∀ b,wG a6 b->yG 17 #[.pointer (some ⟨S,0,none⟩)] b fun e w'=>∃ Z ae Y ai P af X ag,e= .returned (.agg #[.slice Z I ae,.slice Y G ai,.slice P F af,.slice X H ag])/\PAt w' w'.heap.size Z Y P X x/\wG b w'):=qH fun b D=>by
          have :=qCG (he.o.below D);unfold qhW at this;have ⟨bl,a7,bg,b5⟩:=fr.o;rwa [bl,a7,bg,b5] at this
        have hv:qI (∀ (b:World) (Z Y P X:Option Addr) (ae ai af ag:Nat),wG a6 b->PAt b b.heap.size Z Y P X x->yG 16 #[.agg #[.slice Z I ae,.slice Y G ai,.slice P F af,.slice X H ag],.agg #[.slice l I h,.slice w G z,.slice v F y,.slice ah H U]] b fun e w'=>e= .returned (.bool true)/\wG b w'):=qH fun b Z Y P X ae ai af ag D gb=>by
          have ⟨bl,a7,bg,b5⟩:=fr.o;have :=qAa Z Y P X l w v ah I ae G ai F af H ag I h G z F y H U x x b bl a7 bg b5 bl a7 bg b5 gb (g7.o.pat.later D) ec.o ec.o;rwa [yA rfl] at this
        have bn:=qH (bA a6.heap.size a6).drew;clear d ax ff eu
        go_region_held3 (fun b=>b.cell? ⟨Q,0,none⟩=some (.slice l I h)/\b.cell? ⟨Q,1,none⟩=some (.slice w G z)/\b.cell? ⟨Q,2,none⟩=some (.slice v F y)/\b.cell? ⟨Q,3,none⟩=some (.slice ah H U))
          (first|exact be.o _ bn.o|exact be.o _ bs.o|exact be.o _ dd.o|exact be.o _ e6.o)
          (first
            | (go_at_call 17; (with_reducible refine (ga.o _ bn.o).mono ?_); rintro e hr ⟨Z, ae, Y, ai, P, af, X, ag, rfl, en, eq⟩
               have bs:=qH (bn.o.trans (eq.mono bn.o.size));have gf:=qH en;clear eq en)
            | (go_at_call 16; (with_reducible refine (hv.o hr Z Y P X ae ai af ag bs.o gf.o).mono ?_); rintro e f8 ⟨rfl, fe⟩
               have dd:=qH (bs.o.trans (fe.mono bs.o.size));clear fe)
            | (go_at_call 18; (with_reducible refine (qwk qyp f8).mono ?_); rintro e ik ⟨rfl, el⟩
               have e6:=qH (dd.o.trans (el.mono dd.o.size));clear el))
        all_goals
          go_wp2;go_ret;exact ⟨rfl,fp.o.trans (e6.o.mono fp.o.size)⟩
