/- CounterLinear, part 19 of 24: R3Fit, R3Scan, R3RefOf, R3Rof. -/
import Derived.Test.YtfjjoohflcchnaaDoorCounterLinear01
import Derived.Test.YtfjjoohflcchnaaDoorCounterLinear15
set_option linter.unusedSimpArgs false
set_option linter.unusedVariables false
set_option maxHeartbeats 4000000
set_option maxRecDepth 100000
noncomputable section
namespace Go.Proofs.YtfjjoohflcchnaaDoor.R3
open Go.RowKit Go.Proofs.YtfjjoohflcchnaaDoor.His Go.Deep Go.Maps
variable {b k n t:Nat} {an:List (List (Int×Int))} {u:World} {sc:List (List Call)} {tr:List Step} {e:Ev}
def FitP (sc:List (List Call)) (an:List (List (Int×Int))) (tr:List Step):Prop:=Alike sc an∧∃ st,Ofs sc an 0 tr st0 (some st)
theorem note_any (s:Step) (w:World):
 Calls Tryd.prog 113 #[stepV s] w λe w'=>RetB e (s.op=9∨s.op=10)∧Below w.heap.size w w':=by
 by_cases h9:s.op=9
 .have g:(s.op==9)=true:=by simpa using h9
  have H:Hid (s.op=9):=h9;clear h9
  go_enter Tryd.func113,Tryd.ntmps113
  go_wp2
  go_ret;exact ⟨retB_yes rfl (.inl H.out),below_alloc (Below.refl _ _) _⟩
 .have g:(s.op==9)=false:=by simpa using h9
  have H:Hid (¬ s.op=9):=h9;clear h9
  go_enter Tryd.func113,Tryd.ntmps113
  go_wp2
  go_ret;exact ⟨⟨_,rfl,by have:=H.out;simp[this]⟩,below_alloc (Below.refl _ _) _⟩
def noteC (tab:Nat->Nat×Nat×Nat) (t:Nat):Value:=I (((tab t).1+(tab t).2.1:Nat):Int)
theorem make_ints (n:Nat) (hn:n<=1048576) (w:World):
 (Instr.makeSlice 22 (.int .i64 (n:Int)) (.int .i64 (n:Int))).run Tryd.prog w=.ok (.slice (some ⟨w.heap.size,0,none⟩) n n) (w.alloc (.cells (madeCells #[I 0] n) 3)):=by
 have info3:(Tryd.prog.info? 3).map (λi=>(i.zero,i.size,i.bytes))=some (some (.int .i64 0),1,8):=by kernel_rfl
 cases hq:Tryd.prog.info? 3 with
 |none=>rw[hq] at info3;cases info3
 |some i =>have hi:=info3;rw[hq] at hi;simp only[Option.map_some,Option.some.injEq,Prod.mk.injEq] at hi;obtain ⟨hz,hs,hb⟩:=hi;have:=run_make (P:=Tryd.prog) w 22 3 i _ Tryd.underlying22 hq hz .i64 .i64 (n:Int) (n:Int) (by omega) (by omega) (by rw[hb];omega) (by omega);rw[hs] at this;rw[this];simp[Value.cells]
structure FitInv (w0:World) (bt n:Nat) (an:List (List (Int×Int))) (st:St) (u:World):Prop where
 row:u.rowIs bt 3 n (noteC st.tab)
 below:Below w0.heap.size w0 u
 ok:∀ t,t<n->(st.tab t).2.1<=(st.tab t).1∧(st.tab t).1<=(st.tab t).2.1+1∧(st.tab t).1<=(an.getD t []).length
theorem FitInv.later {w0:World}{bt:Nat}{st:St}{u':World}(h:FitInv w0 bt n an st u) (hb:Below u.heap.size u u'):FitInv w0 bt n an st u' :=
 ⟨row_later hb h.row h.row.lt,h.below.trans (hb.mono h.below.size),h.ok⟩
theorem fit_no {st:St}(hp:∀ r,Ofs sc an 0 tr st0 r->Ofs sc an k (tr.drop k) st r) (h:∀ r,Ofs sc an k (tr.drop k) st r->r=none):¬ FitP sc an tr:=by rintro ⟨_,st',h'⟩;have:=h _ (hp _ h');cases this
theorem note_set {w:World}{bt:Nat}{tab tab':Nat->Nat×Nat×Nat}(h:w.rowIs bt 3 n (noteC tab)) (m:Nat) (h0:(tab' t).1+(tab' t).2.1=m) (h1:∀ i,i≠t->tab' i=tab i):(w.setCell ⟨bt,t,none⟩ (I m)).rowIs bt 3 n (noteC tab') :=
 (h.set t (I m)).congr λi _=>by by_cases e:i=t;subst e;rw[if_pos rfl];unfold noteC;rw[h0];rw[if_neg e];unfold noteC;rw[h1 i e]
theorem fit_any (sv av tv:Value) (sc:List (List Call)) (an:List (List (Int×Int))) (tr:List Step) (w:World) (hs:SSw 4 callL w sv sc) (ha:SSw 2 ansL w av an) (ht:SLw 5 stepL w tv tr)
 (bn:sc.length<=1048576) (ba:∀ i,(an.getD i []).length<=1048576):
 Calls Tryd.prog 82 #[sv,av,tv] w λe w'=>RetB e (FitP sc an tr)∧Below w.heap.size w w':=by
 obtain ⟨p,cap,rfl,p1,p2,p3⟩:=hs;obtain ⟨q,caq,rfl,q1,q2,q3⟩:=ha;obtain ⟨o,cao,rfl,o1,o2,o3⟩:=ht;unfold maxLen at p2 q2 o2;have P3:Hid (∀ i l,sc[i]? = some l->∃ blk off vi,p=some ⟨blk,off,none⟩∧w.cell? ⟨blk,off+i,none⟩=some vi∧SLw 4 callL w vi l):=p3;have Q3:Hid (∀ i l,an[i]? = some l->∃ blk off vi,q=some ⟨blk,off,none⟩∧w.cell? ⟨blk,off+i,none⟩=some vi∧SLw 2 ansL w vi l):=q3;have O3:Hid (∀ i a,tr[i]? = some a->∃ blk off,o=some ⟨blk,off,none⟩∧blk<w.heap.size∧w.rangeAt blk (off+i*5) (stepL a)):=o3;have BA:Hid (∀ i,(an.getD i []).length<=1048576):=ba;clear p3 q3 o3 ba;by_cases hl:an.length=sc.length
 .have hl':((an.length:Int) != (sc.length:Int))=false:=by simp[hl]
  have HL:Hid (an.length=sc.length):=hl;clear hl;have hmk:=make_ints sc.length bn
  go_enter Tryd.func82,Tryd.ntmps82
  go_wp2_with fail
  go_loopw [7] (λi u=>∃ k:Nat,k<=sc.length∧i=.int .i64 k∧(∀ i,i<k->(sc.getD i []).length=(an.getD i []).length)∧∃ q,u=w.drewN q) (λi _=>sc.length - (intOf i).toNat)
  case atStart=>exact ⟨0,Nat.zero_le _,rfl,λi hi=>absurd hi (Nat.not_lt_zero _),0,rfl⟩
  case round =>
   obtain ⟨k,hk,rfl,hso,qn,rfl⟩:=hrel;by_cases hlt:k<sc.length
   .have hlt2:k<an.length:=by have:=HL.out;omega
    obtain ⟨blk,off,vi,rfl,hc,⟨p2',cp2,rfl,i1,i2,_⟩⟩:=P3.out k _ (getD_some hlt []);obtain ⟨blk',off',vi',rfl,hc',⟨p3',cp3,rfl,j1,j2,_⟩⟩:=Q3.out k _ (getD_some hlt2 []);unfold maxLen at i2 j2;have HSO:Hid (∀ i,i<k->(sc.getD i []).length=(an.getD i []).length):=hso;clear hso hmk;generalize hna:(sc.getD k []).length=na at hc i1;generalize hnb:(an.getD k []).length=nb at hc' j1;have HNA:Hid ((sc.getD k []).length=na):=hna;have HNB:Hid ((an.getD k []).length=nb):=hnb;clear hna hnb;by_cases he:na=nb
    .have HEQ:Hid (na=nb):=he
     have he':((nb:Int) != (na:Int))=false:=by simp[he]
     clear he;go_wp2_with fail
     go_quiet (fail)
     go_wp2_with fail
     go_roundw
     case rel=>exact ⟨k+1,by omega,by go_num,upto_succ HSO.out (HNA.out.trans (HEQ.out.trans HNB.out.symm)),_,rfl⟩
     case measure=>simp[intOf];omega
    .have HEQ:Hid (¬ na=nb):=he
     have he':((nb:Int) != (na:Int))=true:=by simpa using (by omega:¬ ((nb:Int)=(na:Int)))
     clear he;go_wp2_with fail
     go_quiet (fail)
     go_wp2_with fail;go_ret;exact ⟨retB_no rfl (λh=>HEQ.out (HNA.out.symm.trans ((h.1.2 k hlt).trans HNB.out))),below_drewN (below_drewN (Below.refl _ _) _) _⟩
   .have:k=sc.length:=by omega
    subst this;have HAL:Hid (Alike sc an):=⟨HL.out.symm,hso⟩
    clear hso;go_wp2_with fail;clear hmk
    go_loopw [9] (λi u=>∃ (k:Nat) (st:St),k<=tr.length∧i=.int .i64 k∧(∀ r,Ofs sc an 0 tr st0 r->Ofs sc an k (tr.drop k) st r)∧(∀ r,Ofs sc an k (tr.drop k) st r->Ofs sc an 0 tr st0 r)∧FitInv w w.heap.size sc.length an st u) (λi _=>tr.length - (intOf i).toNat)
    case atStart =>refine ⟨0,st0,Nat.zero_le _,rfl,λr h=>h,λr h=>h,⟨?_,below_alloc (below_drewN (Below.refl _ _) _) _,λt _=>⟨Qi _,Nat.zero_le _,Nat.zero_le _⟩⟩⟩;exact (World.rowIs_made (w.drewN qn) (I 0) sc.length 3).congr λi _=>rfl
    case round =>
     obtain ⟨k,st,hk,rfl,hto,hfro,hinv⟩:=hrel;obtain ⟨wo,hwo⟩:∃ wo,wo=wr:=⟨wr,rfl⟩
     subst hwo;have HTO:Hid (∀ r,Ofs sc an 0 tr st0 r->Ofs sc an k (tr.drop k) st r):=hto;have HFR:Hid (∀ r,Ofs sc an k (tr.drop k) st r->Ofs sc an 0 tr st0 r):=hfro;have HINV:Hid (FitInv w w.heap.size sc.length an st wo):=hinv;by_cases hlt:k<tr.length
     .obtain ⟨s,hsk⟩:∃ s,tr[k]? = some s:=⟨_,Qf hlt⟩
      obtain ⟨blk,off,rfl,hblk,hr⟩:=O3.out k s hsk;have HDR:Hid (tr.drop k=s :: tr.drop (k+1)):=by rw[List.drop_eq_getElem_cons hlt];rw[Qf hlt] at hsk;rw[Qd hsk];rfl
      have HST:Hid (wo.rangeAt blk (off+k*5) (stepL s)):=range_later hinv.below hr hblk;have hsz:w.heap.size<wo.heap.size:=hinv.row.lt;clear hto hfro hinv hsk hr;by_cases hop:s.op=9∨s.op=10
      .by_cases hth:s.thr<0∨(sc.length:Int)<=s.thr
       .have HNO:Hid (¬ FitP sc an tr):=fit_no HTO.out (λr h=>by rw[HDR.out] at h;exact ofs_out hop hth h)
        have HOP:Hid (s.op=9∨s.op=10):=hop;have g2:s.thr<0∨(0<=s.thr∧(sc.length:Int)<=s.thr):=by omega
        clear hop hth
        go_wp2_with ((with_reducible refine wp_load45 (.tmp 47) ?_ ?_ blk (off+k*5) ?_ s ?_ ?_);rfl;rfl;rfl;exact HST.out)
        refine (note_any s _).mono ?_;rintro e w3 ⟨⟨b3,rfl,hb⟩,hb3⟩;have:b3=true:=hb.2 HOP.out;subst this;obtain ⟨hc3,hf3⟩:=bcell hb3;have HB3:Hid (Below _ _ w3):=hb3;clear hb hb3;rcases g2 with g2|⟨g2,g2'⟩
        all_goals
         go_wp2_with fail;go_ret;exact ⟨retB_no rfl HNO.out,below_step (below_alloc HINV.out.below _) HB3.out⟩
       .obtain ⟨t,hte⟩:=Int.eq_ofNat_of_zero_le (show 0<=s.thr by omega)
        have htl:t<sc.length:=by omega
        obtain ⟨sthr,scel,sop,sold,snew⟩:=s;simp only at hte hop hth;subst hte;have htla:t<an.length:=by have:=HL.out;omega
        obtain ⟨ablk,aoff,avi,rfl,ac0,⟨ip,icap,rfl,i1,i2,i3⟩⟩:=Q3.out t _ (getD_some htla []);obtain ⟨sblk,soff,svi,rfl,sc0,⟨jp,jcap,rfl,j1,j2,j3⟩⟩:=P3.out t _ (getD_some htl []);have labk:ablk<w.heap.size:=World.block_lt_of_cell? _ _ ac0;have lsbk:sblk<w.heap.size:=World.block_lt_of_cell? _ _ sc0;have hlen:(sc.getD t []).length=(an.getD t []).length:=HAL.out.2 t htl;have hbig:=BA.out t;obtain ⟨k1,k2,k3⟩:=HINV.out.ok t htl;have HI3:Hid (∀ i a,(an.getD t [])[i]? = some a->∃ blk off,ip=some ⟨blk,off,none⟩∧blk<w.heap.size∧w.rangeAt blk (off+i*2) (ansL a)):=i3;unfold maxLen at i2 j2;have HOPP:Hid (sop=9∨sop=10):=hop;clear i3 j3 hth;have c0:=HINV.out.row.cell (i:=t) htl;have f0:=HINV.out.row.frozen t;unfold noteC at c0;generalize hb:(st.tab t).1=b at *;generalize he:(st.tab t).2.1=e at *;generalize hm:b+e=m at c0;have HBT:Hid ((st.tab t).1=b):=hb;have HET:Hid ((st.tab t).2.1=e):=he;have HM:Hid (b+e=m):=hm;generalize hnl:(an.getD t []).length=nl at *;have HNL:Hid ((an.getD t []).length=nl):=hnl;rw[hlen] at sc0 j1;have hq:(m:Int) / 2=(e:Int):=by omega
        have hmb:(m:Int)<=4194304:=by omega
        clear hb he hm hlen hnl
        go_wp2_with ((with_reducible refine wp_load45 (.tmp 47) ?_ ?_ blk (off+k*5) ?_ ⟨t,scel,sop,sold,snew⟩ ?_ ?_);rfl;rfl;rfl;exact HST.out)
        refine (note_any ⟨t,scel,sop,sold,snew⟩ _).mono ?_;rintro ed w3 ⟨⟨b3,rfl,hbb⟩,hb3⟩;have:b3=true:=hbb.2 HOPP.out;subst this;have HB3:Hid (Below _ _ w3):=hb3;have hz3:wo.heap.size+1<=w3.heap.size:=by have:=hb3.size;simpa using this
        have ac:w3.cell? ⟨ablk,aoff+t,none⟩=some (.slice ip nl icap):=by rw[(below_step (below_alloc HINV.out.below _) hb3).cell (p:=⟨ablk,aoff+t,none⟩) labk];exact ac0
        have scc:w3.cell? ⟨sblk,soff+t,none⟩=some (.slice jp nl jcap):=by rw[(below_step (below_alloc HINV.out.below _) hb3).cell (p:=⟨sblk,soff+t,none⟩) lsbk];exact sc0
        obtain ⟨hc3,hf3⟩:=bcell hb3;clear hbb hb3 ac0 sc0;by_cases hbe:b=e
        .have hr2:(m:Int) % 2=0:=by have:=HM.out;omega
         rcases hop with hop|hop
         .subst hop
          by_cases hso:sold=(e:Int)
          .subst hso
           by_cases hel:e<nl
           .by_cases hnw:snew=0
            .have hnw':(snew != 0)=false:=by rw[hnw];rfl
             have HOK:Hid (beginOk an st t ⟨t,scel,9,e,snew⟩):=⟨by rw[HBT.out,HET.out];exact hbe,by rw[HBT.out,HNL.out];omega,by rw[HBT.out];simp;omega,hnw⟩
             have HBE:Hid (b=e):=hbe;clear hnw hbe;go_wp2_with fail
             go_quiet (fail)
             go_wp2_with fail
             go_roundw
             case rel =>
              have hbe:=HBE.out;have hb3:=below_step (below_alloc (Below.refl _ wo) _) HB3.out;refine ⟨k+1,beginSt sc st t k,by omega,by go_num,λr h=>?_,λr h=>HFR.out r ?_,⟨?_,?_,λt' ht'=>?_⟩⟩
              .have:=HTO.out r h
               rw[HDR.out] at this;exact ofs_begin rfl rfl htl HOK.out this
              .rw[HDR.out]
               exact .inr (.inr (.inl ⟨t,rfl,htl,rfl,HOK.out,h⟩))
              .refine row_later (below_drewN (Below.refl (w.heap.size+1) _) _) (note_set (row_later hb3 HINV.out.row HINV.out.row.lt) (m+1) ?_ ?_) (Nat.lt_succ_self _)
               simp only[beginSt,upd,if_pos,HBT.out,HET.out];have:=HM.out;omega;intro i hi;simp[beginSt,upd,hi]
              exact below_drewN ((HINV.out.below.trans (hb3.mono HINV.out.below.size)).setCell (Qi _) _) _
              .have hk':=HINV.out.ok t' ht'
               by_cases ee:t'=t
               .subst ee
                simp only[beginSt,upd,if_pos];rw[HBT.out,HET.out] at *;rw[HNL.out];omega
               .simp only[beginSt,upd,if_neg ee]
                exact hk'
             case measure=>simp[intOf];omega
            .have hnw':(snew != 0)=true:=by simpa using hnw
             have HNO:Hid (¬ FitP sc an tr):=fit_no HTO.out (λr h=>by rw[HDR.out] at h;exact ofs_nobegin (t:=t) rfl rfl htl (λh'=>hnw h'.2.2.2) h)
             clear hnw;go_wp2_with fail
             go_quiet (fail)
             go_wp2_with fail;go_ret;exact ⟨retB_no rfl HNO.out,below_drewN ((below_step (below_alloc HINV.out.below _) HB3.out).setCell (Qi _) _) _⟩
           .have HNO:Hid (¬ FitP sc an tr):=fit_no HTO.out (λr h=>by rw[HDR.out] at h;exact ofs_nobegin (t:=t) rfl rfl htl (λh'=>by have:=h'.2.1;rw[HBT.out,HNL.out] at this;omega) h)
            go_wp2_with fail;go_ret;exact ⟨retB_no rfl HNO.out,(below_step (below_alloc HINV.out.below _) HB3.out).setCell (Qi _) _⟩
          .have hso':(sold != (e:Int))=true:=by simpa using hso
           have HNO:Hid (¬ FitP sc an tr):=fit_no HTO.out (λr h=>by rw[HDR.out] at h;exact ofs_nobegin (t:=t) rfl rfl htl (λh'=>by have:=h'.2.2.1;rw[HBT.out] at this;simp only at this;omega) h)
           clear hso;go_wp2_with fail;go_ret;exact ⟨retB_no rfl HNO.out,(below_step (below_alloc HINV.out.below _) HB3.out).setCell (Qi _) _⟩
         .subst hop
          have HNO:Hid (¬ FitP sc an tr):=fit_no HTO.out (λr h=>by rw[HDR.out] at h;exact ofs_noend (t:=t) rfl rfl htl (λh'=>by have:=h'.1;rw[HBT.out,HET.out] at this;omega) h)
          go_wp2_with fail;all_goals
           go_ret;exact ⟨retB_no rfl HNO.out,(below_step (below_alloc HINV.out.below _) HB3.out).setCell (Qi _) _⟩
        .have hr2:(m:Int) % 2=1:=by have:=HM.out;omega
         rcases hop with hop|hop
         .subst hop
          have HNO:Hid (¬ FitP sc an tr):=fit_no HTO.out (λr h=>by rw[HDR.out] at h;exact ofs_nobegin (t:=t) rfl rfl htl (λh'=>by have:=h'.1;rw[HBT.out,HET.out] at this;omega) h)
          go_wp2_with fail;all_goals
           go_ret;exact ⟨retB_no rfl HNO.out,(below_step (below_alloc HINV.out.below _) HB3.out).setCell (Qi _) _⟩
         .subst hop
          have hel:e<nl:=by omega
          obtain ⟨cblk,coff,rfl,lcb,cr⟩:=HI3.out e _ (getD_some (by rw[HNL.out];exact hel) (0,0));have cr3:=range_later (below_step (below_alloc HINV.out.below _) HB3.out) cr lcb;generalize hcl:(an.getD t []).getD e (0,0)=cl at cr3;have HCL:Hid ((an.getD t []).getD e (0,0)=cl):=hcl;have q0:w3.cell? ⟨cblk,coff+e*2,none⟩=some (I cl.1):=by simpa using cr3 0 _ rfl
          have n1:¬ w.heap.size=cblk:=by omega
          have n2:¬ cblk=w.heap.size:=by omega
          have n3:¬ ablk=w.heap.size:=by omega
          have n4:¬ w.heap.size=ablk:=by omega
          clear cr cr3 hcl;by_cases hso:sold=(e:Int)
          .subst hso
           by_cases hnw:snew=cl.1
           .have HOK:Hid (endOk an st t ⟨t,scel,10,e,snew⟩):=⟨by rw[HBT.out,HET.out];omega,by rw[HET.out],by rw[HET.out,HCL.out];exact hnw⟩
            subst hnw;go_wp2_with fail
            go_quiet (fail)
            go_wp2_with fail
            go_roundw
            case rel =>
             have hb3:=below_step (below_alloc (Below.refl _ wo) _) HB3.out;have htab:(endSt an st t k).tab=upd st.tab t ((st.tab t).1,(st.tab t).2.1+1,(st.tab t).2.2):=rfl;refine ⟨k+1,endSt an st t k,by omega,by go_num,λr h=>?_,λr h=>HFR.out r ?_,⟨?_,?_,λt' ht'=>?_⟩⟩
             .have:=HTO.out r h
              rw[HDR.out] at this;exact ofs_end rfl rfl htl HOK.out this
             .rw[HDR.out]
              exact .inr (.inr (.inr (.inl ⟨t,rfl,htl,rfl,HOK.out,h⟩)))
             .refine row_later (below_drewN (Below.refl (w.heap.size+1) _) _) (note_set (row_later hb3 HINV.out.row HINV.out.row.lt) (m+1) ?_ ?_) (Nat.lt_succ_self _)
              rw[htab];simp only[upd,if_pos,HBT.out,HET.out];have:=HM.out;omega;intro i hi;rw[htab];simp[upd,hi]
             exact below_drewN ((HINV.out.below.trans (hb3.mono HINV.out.below.size)).setCell (Qi _) _) _
             .have hk':=HINV.out.ok t' ht'
              rw[htab];by_cases ee:t'=t
              .subst ee
               simp only[upd,if_pos];rw[HBT.out,HET.out] at *;rw[HNL.out];omega
              .simp only[upd,if_neg ee]
               exact hk'
            case measure=>simp[intOf];omega
           .have hnw':(snew != cl.1)=true:=by simpa using hnw
            have HNO:Hid (¬ FitP sc an tr):=fit_no HTO.out (λr h=>by rw[HDR.out] at h;exact ofs_noend (t:=t) rfl rfl htl (λh'=>by have:=h'.2.2;rw[HET.out,HCL.out] at this;exact hnw this) h)
            clear hnw;go_wp2_with fail
            go_quiet (fail)
            go_wp2_with fail;go_ret;exact ⟨retB_no rfl HNO.out,below_drewN ((below_step (below_alloc HINV.out.below _) HB3.out).setCell (Qi _) _) _⟩
          .have hso':(sold != (e:Int))=true:=by simpa using hso
           have HNO:Hid (¬ FitP sc an tr):=fit_no HTO.out (λr h=>by rw[HDR.out] at h;exact ofs_noend (t:=t) rfl rfl htl (λh'=>by have:=h'.2.1;rw[HET.out] at this;simp only at this;omega) h)
           clear hso;go_wp2_with fail;go_ret;exact ⟨retB_no rfl HNO.out,(below_step (below_alloc HINV.out.below _) HB3.out).setCell (Qi _) _⟩
      .have HOP:Hid (¬ (s.op=9∨s.op=10)):=hop
       clear hop
       go_wp2_with ((with_reducible refine wp_load45 (.tmp 47) ?_ ?_ blk (off+k*5) ?_ s ?_ ?_);rfl;rfl;rfl;exact HST.out)
       refine (note_any s _).mono ?_;rintro e w3 ⟨⟨b3,rfl,hb⟩,hb3⟩;have:b3=false:=by
        cases b3 with
        |false=>rfl
        |true=>exact absurd (hb.1 rfl) HOP.out
       subst this;have HB3:Hid (Below _ _ w3):=hb3;clear hb hb3;go_wp2_with fail
       go_roundw
       case rel =>
        have hn:=HOP.out;refine ⟨k+1,st,by omega,by go_num,λr h=>?_,λr h=>HFR.out r ?_,HINV.out.later (below_step (below_alloc (Below.refl _ _) _) HB3.out)⟩
        .have:=HTO.out r h
         rw[HDR.out] at this;exact ofs_skip (λh=>hn (.inl h)) (λh=>hn (.inr h)) this
        .rw[HDR.out]
         exact .inl ⟨λh=>hn (.inl h),λh=>hn (.inr h),h⟩
       case measure=>simp[intOf];omega
     .have:k=tr.length:=by omega
      subst this;go_wp2_with fail;go_ret;exact ⟨retB_yes rfl ⟨HAL.out,st,HFR.out _ (by rw[List.drop_length];rfl)⟩,HINV.out.below⟩
 .have hl':((an.length:Int) != (sc.length:Int))=true:=by simpa using (by omega:¬ ((an.length:Int)=(sc.length:Int)))
  have HL:Hid (¬ an.length=sc.length):=hl;clear hl
  go_enter Tryd.func82,Tryd.ntmps82
  go_wp2_with fail;go_ret;exact ⟨retB_no rfl (λh=>HL.out h.1.1.symm),Below.refl _ _⟩
def step0:Step:=⟨0,0,0,0,0⟩
def endsB (x b:Step):Bool:=x.op==10&&x.thr==b.thr&&x.old==b.old&&x.new != 4
theorem ends_iff {x b:Step}:endsB x b=true↔x.op=10∧x.thr=b.thr∧x.old=b.old∧x.new≠4:=by unfold endsB;simp[and_assoc]
def scan (sc:List (List Call)) (an:List (List (Int×Int))) (tr:List Step) (i:Nat):Nat->Ev
 |0=>begunEv (tr.getD i step0).thr i ((sc.getD (tr.getD i step0).thr.toNat []).getD (tr.getD i step0).old.toNat call0)
 |n+1=>if endsB (tr.getD (i+1+n) step0) (tr.getD i step0)=true then ended (i+1+n) ((an.getD (tr.getD i step0).thr.toNat []).getD (tr.getD i step0).old.toNat (0,0)) (scan sc an tr i n) else scan sc an tr i n
def begs (tr:List Step) (k:Nat):List Nat:=(List.range k).filter λi=>(tr.getD i step0).op==9
theorem begs_succ (tr:List Step) (k:Nat):begs tr (k+1)=begs tr k++(if (tr.getD k step0).op=9 then [k] else []):=by
 unfold begs;rw[List.range_succ,List.filter_append]
 congr 1
 by_cases h:(tr.getD k step0).op=9;rw[if_pos h,List.filter_cons_of_pos (by simpa using h)];rfl;rw[if_neg h,List.filter_cons_of_neg (by simpa using h)];rfl
theorem begs_lt {i:Nat}(h:i∈begs tr k):i<k:=by unfold begs at h;rw[List.mem_filter] at h;exact List.mem_range.1 h.1
structure ScanInv (sc:List (List Call)) (an:List (List (Int×Int))) (tr:List Step) (k:Nat) (st:St):Prop where
 evs:st.evs=(begs tr k).map λi=>scan sc an tr i (k - i - 1)
 ok:∀ t,(st.tab t).2.1<=(st.tab t).1∧(st.tab t).1<=(st.tab t).2.1+1
 its:∀ i∈begs tr k,∃ t o:Nat,(tr.getD i step0).thr=t∧(tr.getD i step0).old=o∧o<(st.tab t).1
 one:∀ i∈begs tr k,∀ j∈begs tr k,(tr.getD i step0).thr=(tr.getD j step0).thr->(tr.getD i step0).old=(tr.getD j step0).old->i=j
 last:∀ t,(st.tab t).2.1<(st.tab t).1->∃ i,(begs tr k)[(st.tab t).2.2]? = some i∧(tr.getD i step0).thr=t∧(tr.getD i step0).old=(st.tab t).2.1
theorem scanInv_start (sc:List (List Call)) (an:List (List (Int×Int))) (tr:List Step):ScanInv sc an tr 0 st0 :=
 ⟨rfl,λ_=>⟨Qi _,Nat.zero_le _⟩,λi hi=>by simp[begs] at hi,λi hi=>by simp[begs] at hi,λt h=>absurd h (Nat.lt_irrefl _)⟩
theorem scan_step {i:Nat}(hi:i<k):
 scan sc an tr i (k+1 - i - 1)=if endsB (tr.getD k step0) (tr.getD i step0)=true then ended k ((an.getD (tr.getD i step0).thr.toNat []).getD (tr.getD i step0).old.toNat (0,0)) (scan sc an tr i (k - i - 1)) else scan sc an tr i (k - i - 1):=by
 have e1:k+1 - i - 1=(k - i - 1)+1:=by omega
 have e2:i+1+(k - i - 1)=k:=by omega
 rw[e1,scan,e2]
theorem scanInv_skip {st:St}(h:ScanInv sc an tr k st) (h9:(tr.getD k step0).op≠9) (h10:(tr.getD k step0).op≠10):ScanInv sc an tr (k+1) st:=by
 have hb:begs tr (k+1)=begs tr k:=by rw[begs_succ,if_neg h9,List.append_nil]
 refine ⟨?_,h.ok,by rw[hb];exact h.its,by rw[hb];exact h.one,by rw[hb];exact h.last⟩;rw[hb,h.evs];apply List.map_congr_left;intro i hi;rw[scan_step (begs_lt hi),if_neg (λhe=>h10 (ends_iff.1 he).1)]
theorem scanInv_begin {st:St}(h:ScanInv sc an tr k st) (h9:(tr.getD k step0).op=9) (ht:(tr.getD k step0).thr=t) (ho:beginOk an st t (tr.getD k step0)):
 ScanInv sc an tr (k+1) (beginSt sc st t k):=by
 have hb:begs tr (k+1)=begs tr k++[k]:=by rw[begs_succ,if_pos h9]
 have hold:(tr.getD k step0).old=(st.tab t).1:=ho.2.2.1;have hbe:=ho.1;refine ⟨?_,λt'=>?_,λi hi=>?_,λi hi j hj h1 h2=>?_,λt' h'=>?_⟩
 .rw[hb,List.map_append]
  show st.evs++[begunEv t k _]=_
  congr 1
  .rw[h.evs]
   apply List.map_congr_left;intro i hi;rw[scan_step (begs_lt hi),if_neg (λhe=>by have:=(ends_iff.1 he).1;omega)]
  .have e1:k+1 - k - 1=0:=by omega
   simp only[List.map_cons,List.map_nil,e1,scan,ht,hold];simp
 .by_cases e:t'=t
  subst e;simp only[beginSt,upd,if_pos];omega;simp only[beginSt,upd,if_neg e];exact h.ok t'
 .rw[hb,List.mem_append] at hi
  rcases hi with hi|hi
  .obtain ⟨t',o,e1,e2,e3⟩:=h.its i hi
   refine ⟨t',o,e1,e2,?_⟩;by_cases e:t'=t;subst e;simp only[beginSt,upd,if_pos];omega;simp only[beginSt,upd,if_neg e];exact e3
  .simp at hi
   subst hi;exact ⟨t,(st.tab t).1,ht,hold,by simp[beginSt,upd]⟩
 .rw[hb,List.mem_append] at hi hj
  rcases hi with hi|hi<;>rcases hj with hj|hj;exact h.one i hi j hj h1 h2
  .simp at hj
   subst hj;obtain ⟨t',o,e1,e2,e3⟩:=h.its i hi;have:t'=t:=by omega
   subst this;omega
  .simp at hi
   subst hi;obtain ⟨t',o,e1,e2,e3⟩:=h.its j hj;have:t'=t:=by omega
   subst this;omega
  simp at hi hj;omega
 .have hlen:(begs tr k).length=st.evs.length:=by rw[h.evs,List.length_map]
  by_cases e:t'=t
  .subst e
   refine ⟨k,?_,ht,?_⟩
   .simp only[beginSt,upd,if_pos]
    rw[hb,<-hlen];simp
   simp only[beginSt,upd,if_pos];omega
  .simp only[beginSt,upd,if_neg e] at h' ⊢
   obtain ⟨i,e1,e2,e3⟩:=h.last t' h';refine ⟨i,?_,e2,e3⟩;rw[hb,Qn (Qc e1).1];exact e1
theorem scanInv_end {st:St}(h:ScanInv sc an tr k st) (h10:(tr.getD k step0).op=10) (ht:(tr.getD k step0).thr=t) (ho:endOk an st t (tr.getD k step0)):
 ScanInv sc an tr (k+1) (endSt an st t k):=by
 have hb:begs tr (k+1)=begs tr k:=by rw[begs_succ,if_neg (by omega),List.append_nil]
 obtain ⟨ho1,ho2,ho3⟩:=ho;obtain ⟨iv,v1,v2,v3⟩:=h.last t ho1;have htab:(endSt an st t k).tab=upd st.tab t ((st.tab t).1,(st.tab t).2.1+1,(st.tab t).2.2):=rfl;have hok:=h.ok t;refine ⟨?_,λt'=>?_,λi hi=>?_,by rw[hb];exact h.one,λt' h'=>?_⟩
 .rw[hb]
  have hval:∀ i∈begs tr k,endsB (tr.getD k step0) (tr.getD i step0)=true↔(i=iv∧((an.getD t []).getD (st.tab t).2.1 (0,0)).1≠4):=by
   intro i hi;rw[ends_iff];constructor
   .rintro ⟨_,e2,e3,e4⟩
    refine ⟨h.one i hi iv (List.mem_of_getElem? v1) (by omega) (by omega),by rw[<-ho3];exact e4⟩
   .rintro ⟨rfl,e⟩
    exact ⟨h10,by omega,by omega,by rw[ho3];exact e⟩
  show (if ((an.getD t []).getD (st.tab t).2.1 (0,0)).1=4 then st.evs else st.evs.set (st.tab t).2.2 (ended k ((an.getD t []).getD (st.tab t).2.1 (0,0)) (st.evs.getD (st.tab t).2.2 ev0)))=_;by_cases h4:((an.getD t []).getD (st.tab t).2.1 (0,0)).1=4
  .rw[if_pos h4,h.evs]
   apply List.map_congr_left;intro i hi;rw[scan_step (begs_lt hi),if_neg (λhe=>((hval i hi).1 he).2 h4)]
  .rw[if_neg h4]
   apply List.ext_getElem?;intro m;have hlen:(begs tr k).length=st.evs.length:=by rw[h.evs,List.length_map]
   rw[Qq,List.getElem?_map];by_cases em:(st.tab t).2.2=m
   .subst em
    have hlt:(st.tab t).2.2<st.evs.length:=by rw[<-hlen];exact (Qc v1).1
    rw[if_pos rfl,if_pos hlt,v1];have hmem:=List.mem_of_getElem? v1;simp only[Option.map_some];rw[scan_step (begs_lt hmem),if_pos ((hval iv hmem).2 ⟨rfl,h4⟩)];have e1:st.evs.getD (st.tab t).2.2 ev0=scan sc an tr iv (k - iv - 1):=by rw[Ql,h.evs,List.getElem?_map,v1];rfl
    rw[e1,v2,v3];simp
   .rw[if_neg em]
    cases hm:(begs tr k)[m]? with
    |none =>
     have:st.evs[m]? = none:=by rw[h.evs,List.getElem?_map,hm];rfl
     rw[this];rfl
    |some i =>
     have hmem:=List.mem_of_getElem? hm;have hne:i≠iv:=λe=>by
      subst e;have hnd:(begs tr k).Nodup:=List.Nodup.sublist List.filter_sublist List.nodup_range;have l1:=(Qc v1)
      have l2:=(Qc hm)
      obtain ⟨p1,q1⟩:=l1;obtain ⟨p2,q2⟩:=l2;rcases Nat.lt_or_gt_of_ne em with hl|hl;exact List.pairwise_iff_getElem.1 hnd _ _ p1 p2 hl (q1.trans q2.symm);exact List.pairwise_iff_getElem.1 hnd _ _ p2 p1 hl (q2.trans q1.symm)
     have:st.evs[m]? = some (scan sc an tr i (k - i - 1)):=by rw[h.evs,List.getElem?_map,hm];rfl
     rw[this];simp only[Option.map_some];rw[scan_step (begs_lt hmem),if_neg (λhe=>hne ((hval i hmem).1 he).1)]
 .rw[htab]
  by_cases e:t'=t;subst e;simp only[upd,if_pos];omega;simp only[upd,if_neg e];exact h.ok t'
 .rw[hb] at hi
  obtain ⟨t',o,e1,e2,e3⟩:=h.its i hi;refine ⟨t',o,e1,e2,?_⟩;rw[htab];by_cases e:t'=t;subst e;simp only[upd,if_pos];exact e3;simp only[upd,if_neg e];exact e3
 .rw[htab] at h' ⊢
  rw[hb];by_cases e:t'=t;subst e;simp only[upd,if_pos] at h';omega;simp only[upd,if_neg e] at h' ⊢;exact h.last t' h'
theorem scanInv_run {sc:List (List Call)}{an:List (List (Int×Int))}{tr:List Step}:∀ (l:List Step) (k:Nat) (st r:St),k<=tr.length->tr.drop k=l->ScanInv sc an tr k st->Ofs sc an k l st (some r)->ScanInv sc an tr tr.length r
 | [],k,st,r,hk,hd,hi,h=>by
  have hk':tr.length<=k:=List.drop_eq_nil_iff.1 hd;have:k=tr.length:=by omega
  subst this;cases h;exact hi
 |s :: l,k,st,r,hk,hd,hi,h=>by
  have hlt:k<tr.length:=by rcases Nat.lt_or_ge k tr.length with h'|h';exact h';rw[List.drop_eq_nil_iff.2 h'] at hd;cases hd
  rw[List.drop_eq_getElem_cons hlt] at hd;have hs:tr.getD k step0=s:=by rw[Ql,Qf hlt];exact (List.cons.inj hd).1
  have hd':=(List.cons.inj hd).2;rcases h with ⟨h1,h2,h⟩|⟨_,_,h⟩|⟨t,h1,h2,h3,h4,h⟩|⟨t,h1,h2,h3,h4,h⟩|⟨t,h1,h2,h3,h4,h⟩|⟨t,h1,h2,h3,h4,h⟩
  exact scanInv_run l (k+1) st r hlt hd' (scanInv_skip hi (by rw[hs];exact h1) (by rw[hs];exact h2)) h;cases h;exact scanInv_run l (k+1) _ r hlt hd' (scanInv_begin hi (by rw[hs];exact h3) (by rw[hs];exact h1) (by rw[hs];exact h4)) h;exact scanInv_run l (k+1) _ r hlt hd' (scanInv_end hi (by rw[hs];exact h3) (by rw[hs];exact h1) (by rw[hs];exact h4)) h;cases h;cases h
def refEvs (sc:List (List Call)) (an:List (List (Int×Int))) (tr:List Step) (k:Nat):List Ev:=(begs tr k).map λi=>scan sc an tr i (tr.length - i - 1)
theorem evs_ref {r:St}(h:Ofs sc an 0 tr st0 (some r)):r.evs=refEvs sc an tr tr.length :=
 (scanInv_run tr 0 st0 r (Nat.zero_le _) rfl (scanInv_start sc an tr) h).evs
theorem ofs_total {sc:List (List Call)}{an:List (List (Int×Int))}:∀ (l:List Step) (k:Nat) (st:St),∃ r,Ofs sc an k l st r
 | [],k,st=>⟨some st,rfl⟩
 |s :: l,k,st=>by
  by_cases hop:s.op=9∨s.op=10
  .by_cases hth:s.thr<0∨(sc.length:Int)<=s.thr
   exact ⟨none,.inr (.inl ⟨hop,hth,rfl⟩)⟩
   .obtain ⟨t,ht⟩:=Int.eq_ofNat_of_zero_le (show 0<=s.thr by omega)
    have htl:t<sc.length:=by omega
    rcases hop with hop|hop
    .by_cases ho:beginOk an st t s
     .obtain ⟨r,hr⟩:=ofs_total l (k+1) (beginSt sc st t k)
      exact ⟨r,.inr (.inr (.inl ⟨t,ht,htl,hop,ho,hr⟩))⟩
     exact ⟨none,.inr (.inr (.inr (.inr (.inl ⟨t,ht,htl,hop,ho,rfl⟩))))⟩
    .by_cases ho:endOk an st t s
     .obtain ⟨r,hr⟩:=ofs_total l (k+1) (endSt an st t k)
      exact ⟨r,.inr (.inr (.inr (.inl ⟨t,ht,htl,hop,ho,hr⟩)))⟩
     exact ⟨none,.inr (.inr (.inr (.inr (.inr ⟨t,ht,htl,hop,ho,rfl⟩))))⟩
  .obtain ⟨r,hr⟩:=ofs_total l (k+1) st
   exact ⟨r,.inl ⟨λh=>hop (.inl h),λh=>hop (.inr h),hr⟩⟩
theorem begin_facts {sc:List (List Call)}{an:List (List (Int×Int))}{tr:List Step}:∀ (l:List Step) (k:Nat) (st r:St),tr.drop k=l->Ofs sc an k l st (some r)->∀ i,k<=i->i<tr.length->(tr.getD i step0).op=9 ->
 ∃ t o:Nat,(tr.getD i step0).thr=t∧t<sc.length∧(tr.getD i step0).old=o∧o<(an.getD t []).length
 | [],k,st,r,hd,_,i,hk,hi,_=>by have:=List.drop_eq_nil_iff.1 hd;omega
 |s :: l,k,st,r,hd,h,i,hk,hi,h9=>by
  have hlt:k<tr.length:=by omega
  rw[List.drop_eq_getElem_cons hlt] at hd;have hs:tr.getD k step0=s:=by rw[Ql,Qf hlt];exact (List.cons.inj hd).1
  have hd':=(List.cons.inj hd).2;by_cases e:i=k
  .subst e
   rw[hs] at h9 ⊢;rcases h with ⟨h1,_,_⟩|⟨_,_,h⟩|⟨t,h1,h2,h3,h4,h⟩|⟨t,h1,h2,h3,h4,h⟩|⟨t,h1,h2,h3,h4,h⟩|⟨t,h1,h2,h3,h4,h⟩
   exact absurd h9 h1;cases h;exact ⟨t,(st.tab t).1,h1,h2,h4.2.2.1,h4.2.1⟩;omega;cases h;cases h
  .rcases h with ⟨h1,h2,h⟩|⟨_,_,h⟩|⟨t,h1,h2,h3,h4,h⟩|⟨t,h1,h2,h3,h4,h⟩|⟨t,h1,h2,h3,h4,h⟩|⟨t,h1,h2,h3,h4,h⟩
   exact begin_facts l (k+1) _ r hd' h i (by omega) hi h9;cases h;exact begin_facts l (k+1) _ r hd' h i (by omega) hi h9;exact begin_facts l (k+1) _ r hd' h i (by omega) hi h9;cases h;cases h
def Box (u:World) (b:Nat) (e:Ev):Prop:=u.heap[b]? = some (.cells (evC e) 81 (0,0))
theorem Box.range (h:Box u b e):u.rangeAt b 0 (evC e).toList:=by intro j v hj;simp only[World.cell?];rw[show u.heap[b]? = some (.cells (evC e) 81 (0,0)) from h];simpa using hj
theorem Box.frozen (h:Box u b e) (j:Nat):u.frozen? ⟨b,j,none⟩=false:=by simp only[World.frozen?];rw[show u.heap[b]? = some (.cells (evC e) 81 (0,0)) from h];simp
theorem Box.set (h:Box u b e) (k:Nat) (a:Int×Int):Box (((u.setCell ⟨b,5,none⟩ (I k)).setCell ⟨b,6,none⟩ (I a.1)).setCell ⟨b,7,none⟩ (I a.2)) b (ended k a e):=by have h':u.heap[b]? = some (.cells (evC e) 81 (0,0)):=h;unfold Box;simp[World.setCell,Array.getElem?_modify,h',ended]
theorem refEvs_succ (sc:List (List Call)) (an:List (List (Int×Int))) (tr:List Step) (k:Nat):
 refEvs sc an tr (k+1)=refEvs sc an tr k++(if (tr.getD k step0).op=9 then [scan sc an tr k (tr.length - k - 1)] else []):=by
 unfold refEvs;rw[begs_succ,List.map_append];by_cases h:(tr.getD k step0).op=9;rw[if_pos h,if_pos h];rfl;rw[if_neg h,if_neg h];rfl
theorem refEvs_len (sc:List (List Call)) (an:List (List (Int×Int))) (tr:List Step) (k:Nat):(refEvs sc an tr k).length<=k:=by unfold refEvs begs;rw[List.length_map];exact Qk (List.length_filter_le _ _) (by simp)
theorem Box.later {u':World}(h:Box u b e) (hb:Below n u u') (hn:b<n):Box u' b e:=(hb.block b hn).trans h
theorem scan_next {j:Nat}(hj:k<j) (x:Step) (hx:tr.getD j step0=x) (t o:Nat) (b:Step) (hb:tr.getD k step0=b) (ht:b.thr=t) (ho:b.old=o):
 scan sc an tr k (j+1 - k - 1)=if endsB x b=true then ended j ((an.getD t []).getD o (0,0)) (scan sc an tr k (j - k - 1)) else scan sc an tr k (j - k - 1):=by
 rw[scan_step hj,hx,hb,ht,ho];rfl
theorem rof_any (sv av tv:Value) (sc:List (List Call)) (an:List (List (Int×Int))) (tr:List Step) (w:World) (hs:SSw 4 callL w sv sc) (ha:SSw 2 ansL w av an) (ht:SLw 5 stepL w tv tr)
 (bn:sc.length<=1048576) (ba:∀ i,(an.getD i []).length<=1048576) (bt:tr.length<=1048576):
 Calls Tryd.prog 49 #[sv,av,tv] w λe w'=>(∃ r,(Alike sc an->Ofs sc an 0 tr st0 r)∧(¬ Alike sc an->r=none)∧RetOf e w.heap.size w' r)∧Below w.heap.size w w':=by
 have HSS:Hid (SSw 4 callL w sv sc):=hs;have HSA:Hid (SSw 2 ansL w av an):=ha;have HTT:Hid (SLw 5 stepL w tv tr):=ht;obtain ⟨p,cap,rfl,p1,p2,p3⟩:=hs;obtain ⟨q,caq,rfl,q1,q2,q3⟩:=ha;obtain ⟨o,cao,rfl,o1,o2,o3⟩:=ht;unfold maxLen at p2 q2 o2;have P3:Hid (∀ i l,sc[i]? = some l->∃ blk off vi,p=some ⟨blk,off,none⟩∧w.cell? ⟨blk,off+i,none⟩=some vi∧SLw 4 callL w vi l):=p3;have Q3:Hid (∀ i l,an[i]? = some l->∃ blk off vi,q=some ⟨blk,off,none⟩∧w.cell? ⟨blk,off+i,none⟩=some vi∧SLw 2 ansL w vi l):=q3;have O3:Hid (∀ i a,tr[i]? = some a->∃ blk off,o=some ⟨blk,off,none⟩∧blk<w.heap.size∧w.rangeAt blk (off+i*5) (stepL a)):=o3;have BA:Hid (∀ i,(an.getD i []).length<=1048576):=ba;clear p3 q3 o3 ba
 go_enter Tryd.func49,Tryd.ntmps49
 go_wp2_with fail;refine (fit_any _ _ _ sc an tr _ HSS.out HSA.out HTT.out bn BA.out).mono ?_;rintro e w1 ⟨⟨b,rfl,hb⟩,hb1⟩;have HB1:Hid (Below w.heap.size w w1):=hb1;have HFB:Hid (b=true↔FitP sc an tr):=hb;clear hb hb1;cases b
 .obtain ⟨r,hr⟩:=ofs_total (sc:=sc) (an:=an) tr 0 st0
  have HN:Hid (Alike sc an->Ofs sc an 0 tr st0 none):=λhal=>by
   cases r with
   |none=>exact hr
   |some st=>exact absurd (HFB.out.2 ⟨hal,st,hr⟩) (by decide)
  clear hr;go_wp2_with fail
  go_ret2
  exact ⟨⟨none,HN.out,λ_=>rfl,.inl ⟨rfl,rfl⟩⟩,HB1.out⟩
 .obtain ⟨hal,sf,hsf⟩:=HFB.out.1 rfl
  have HAL:Hid (Alike sc an):=hal;have HSF:Hid (Ofs sc an 0 tr st0 (some sf)):=hsf;have HBF:Hid (∀ i,i<tr.length->(tr.getD i step0).op=9->∃ t o:Nat,(tr.getD i step0).thr=t∧t<sc.length∧(tr.getD i step0).old=o∧o<(an.getD t []).length):=λi hi h9=>begin_facts tr 0 st0 sf rfl hsf i (Nat.zero_le _) hi h9;clear hal hsf;go_wp2_with fail
  go_loopw [9,10] (λlv i u=>∃ (k:Nat) (pl:Option Addr) (cpl:Nat),k<=tr.length∧i=.int .i64 k∧lv=.slice pl (refEvs sc an tr k).length cpl∧u.ownsRow w.heap.size 81 8 lv (refEvs sc an tr k).length ((refEvs sc an tr k).flatMap evL)∧Below w.heap.size w u) (λ_ i _=>tr.length - (intOf i).toNat)
  case atStart=>exact ⟨0,none,0,Nat.zero_le _,rfl,rfl,⟨rfl,.inl ⟨rfl,rfl⟩⟩,HB1.out⟩
  case round =>
   obtain ⟨k,pl,cpl,hk,rfl,rfl,hown,hbel⟩:=hrel;obtain ⟨wo,hwo⟩:∃ wo,wo=wr:=⟨wr,rfl⟩
   subst hwo;have HOWN:Hid (wo.ownsRow w.heap.size 81 8 (.slice pl (refEvs sc an tr k).length cpl) (refEvs sc an tr k).length ((refEvs sc an tr k).flatMap evL)):=hown;have HBEL:Hid (Below w.heap.size w wo):=hbel;have hszo:w.heap.size<=wo.heap.size:=hbel.size;have hnk:=refEvs_len sc an tr k;clear hown hbel;by_cases hlt:k<tr.length
   .obtain ⟨s,hsk⟩:∃ s,tr[k]? = some s:=⟨_,Qf hlt⟩
    have HSK:Hid (tr.getD k step0=s):=by rw[Ql,hsk];rfl
    obtain ⟨blk,off,rfl,hblk,hr⟩:=O3.out k s hsk;have HST:Hid (wo.rangeAt blk (off+k*5) (stepL s)):=range_later HBEL.out hr hblk;clear hsk hr;by_cases hop:s.op=9
    .have hf:=HBF.out k hlt (by rw[HSK.out];exact hop)
     rw[HSK.out] at hf;obtain ⟨t,o,hte,htl,hoe,hol⟩:=hf;obtain ⟨sthr,scel,sop,sold,snew⟩:=s;simp only at hte hop hoe;subst hte hop hoe;have htla:t<an.length:=by have:=HAL.out.1;omega
     have hlen:(sc.getD t []).length=(an.getD t []).length:=HAL.out.2 t htl;obtain ⟨ablk,aoff,avi,rfl,ac0,⟨ip,icap,rfl,i1,i2,i3⟩⟩:=Q3.out t _ (getD_some htla []);obtain ⟨sblk,soff,svi,rfl,sc0,⟨jp,jcap,rfl,j1,j2,j3⟩⟩:=P3.out t _ (getD_some htl []);obtain ⟨cblk,coff,rfl,lcb,cr⟩:=i3 o _ (getD_some hol (0,0));obtain ⟨dblk,doff,rfl,ldb,dr⟩:=j3 o _ (getD_some (by omega) call0);have labk:ablk<w.heap.size:=World.block_lt_of_cell? _ _ ac0;have lsbk:sblk<w.heap.size:=World.block_lt_of_cell? _ _ sc0;have sc1:wo.cell? ⟨sblk,soff+t,none⟩=some (.slice (some ⟨dblk,doff,none⟩) (sc.getD t []).length jcap):=by rw[HBEL.out.cell (p:=⟨sblk,soff+t,none⟩) lsbk];exact sc0
     have dr1:=range_later HBEL.out dr ldb;have HAC:Hid (w.cell? ⟨ablk,aoff+t,none⟩=some (.slice (some ⟨cblk,coff,none⟩) (an.getD t []).length icap)):=ac0;have HCR:Hid (w.rangeAt cblk (coff+o*2) (ansL ((an.getD t []).getD o (0,0)))):=cr;unfold maxLen at i2 j2;generalize hdl:(sc.getD t []).getD o call0=dl at dr1;have HDL:Hid ((sc.getD t []).getD o call0=dl):=hdl;have d0:wo.cell? ⟨dblk,doff+o*4,none⟩=some (I dl.op):=by simpa using dr1 0 _ rfl
     have d1:wo.cell? ⟨dblk,doff+o*4+1,none⟩=some (I dl.a):=by simpa using dr1 1 _ rfl
     have d2:wo.cell? ⟨dblk,doff+o*4+2,none⟩=some (I dl.b):=by simpa using dr1 2 _ rfl
     have d3:wo.cell? ⟨dblk,doff+o*4+3,none⟩=some (I dl.c):=by simpa using dr1 3 _ rfl
     generalize hnl:(sc.getD t []).length=nl at sc1 j1 hlen;generalize hnl2:(an.getD t []).length=nl2 at hol i1 hlen;have HNL2:Hid ((an.getD t []).length=nl2):=hnl2;have honl:(o:Int)<(nl:Int):=by omega
     have honl2:(o:Int)<(nl2:Int):=by omega
     have lso:sblk<wo.heap.size:=by omega
     have ldo:dblk<wo.heap.size:=by omega
     clear hdl hnl hnl2 i3 j3 ac0 sc0 cr dr dr1 hlen
     go_wp2_with ((with_reducible refine wp_load45 (.tmp 30) ?_ ?_ blk (off+k*5) ?_ ⟨t,scel,9,o,snew⟩ ?_ ?_);rfl;rfl;rfl;exact HST.out)
     go_region_held3 (λu=>u.cell? ⟨wo.heap.size,0,none⟩=some (I t)∧u.cell? ⟨wo.heap.size,3,none⟩=some (I o)∧u.cell? ⟨sblk,soff+t,none⟩=some (.slice (some ⟨dblk,doff,none⟩) nl jcap) ∧
      u.cell? ⟨dblk,doff+o*4,none⟩=some (I dl.op)∧u.cell? ⟨dblk,doff+o*4+1,none⟩=some (I dl.a)∧u.cell? ⟨dblk,doff+o*4+2,none⟩=some (I dl.b)∧u.cell? ⟨dblk,doff+o*4+3,none⟩=some (I dl.c))
      (first|(exact keep7 ‹_› (below_alloc (Below.refl _ _) _))|(simp[go_sem, *];done))
      (fail)
     rename_i hH;clear hH;go_wp2_with fail;have HSK':Hid (tr.getD k step0=⟨t,scel,9,o,snew⟩):=HSK.out;clear sc1 d0 d1 d2 d3 lso ldo
     go_loopw [14] (λi u=>∃ j:Nat,k+1<=j∧j<=tr.length∧i=.int .i64 j∧Box u (wo.heap.size+1+1) (scan sc an tr k (j - k - 1))∧u.cell? ⟨wo.heap.size,0,none⟩=some (I t)∧u.cell? ⟨wo.heap.size,3,none⟩=some (I o)∧Below wo.heap.size wo u) (λi _=>tr.length - (intOf i).toNat)
     case atStart =>
      refine ⟨k+1,Qi _,by omega,by go_num,?_,?_,?_,(below_alloc (below_alloc (below_alloc (Below.refl _ _) _) _) _).drew⟩
      .have e1:k+1 - k - 1=0:=by omega
       rw[e1,scan,HSK'.out];simp only[Int.toNat_natCast,HDL.out];show ((((wo.alloc _).alloc _).alloc _).drew).heap[wo.heap.size+1+1]? = _;have:=heap_alloc_new ((wo.alloc (.cells #[I t,I scel,I 9,I o,I snew] 60)).alloc (.cells #[I dl.op,I dl.a,I dl.b,I dl.c] 35)) (.cells (evC (begunEv t k dl)) 81);rw[World.size_alloc,World.size_alloc] at this;exact this
      .simp[go_sem]
      .simp[go_sem]
     case round =>
      obtain ⟨j,hkj,hj,rfl,hbox,s0,s3,hbw⟩:=hrel;have HBOX:Hid (Box wr (wo.heap.size+1+1) (scan sc an tr k (j - k - 1))):=hbox;have HBW:Hid (Below wo.heap.size wo wr):=hbw;have heb:wo.heap.size+1+1<wr.heap.size:=(Qb hbox).1;have lwr0:wo.heap.size<wr.heap.size:=by omega
      clear hbox hbw;by_cases hjl:j<tr.length
      .obtain ⟨x,hxj⟩:∃ x,tr[j]? = some x:=⟨_,Qf hjl⟩
       have HXJ:Hid (tr.getD j step0=x):=by rw[Ql,hxj];rfl
       obtain ⟨b',o',e',_,hrx⟩:=O3.out j x hxj;cases e';have HSX:Hid (wr.rangeAt blk (off+j*5) (stepL x)):=range_later HBW.out (range_later HBEL.out hrx hblk) (by omega);have hsn:=scan_next (sc:=sc) (an:=an) (show k<j by omega) x HXJ.out t o ⟨t,scel,9,o,snew⟩ HSK'.out rfl rfl;have HSN:Hid (scan sc an tr k (j+1 - k - 1)=if endsB x ⟨t,scel,9,o,snew⟩=true then ended j ((an.getD t []).getD o (0,0)) (scan sc an tr k (j - k - 1)) else scan sc an tr k (j - k - 1)):=hsn;clear hxj hrx hsn;by_cases hen:endsB x ⟨t,scel,9,o,snew⟩=true
       .have HEN:Hid (endsB x ⟨t,scel,9,o,snew⟩=true):=hen
        obtain ⟨e1,e2,e3,e4⟩:=ends_iff.1 hen;simp only at e2 e3;have e1':(x.op==10)=true:=by simpa using e1
        have e2':(x.thr==(t:Int))=true:=by simpa using e2
        have e3':(x.old==(o:Int))=true:=by simpa using e3
        have e4':(x.new != 4)=true:=by simpa using e4
        have ac:=range_later HBW.out (range_later HBEL.out HCR.out lcb) (show cblk<wo.heap.size by omega);have av1:wr.cell? ⟨ablk,aoff+t,none⟩=some (.slice (some ⟨cblk,coff,none⟩) nl2 icap):=by rw[HBW.out.cell (p:=⟨ablk,aoff+t,none⟩) (by simp;omega),HBEL.out.cell (p:=⟨ablk,aoff+t,none⟩) labk,HAC.out,HNL2.out]
        generalize hcl:(an.getD t []).getD o (0,0)=cl at ac;have HCL:Hid ((an.getD t []).getD o (0,0)=cl):=hcl;have q0:wr.cell? ⟨cblk,coff+o*2,none⟩=some (I cl.1):=by simpa using ac 0 _ rfl
        have q1':wr.cell? ⟨cblk,coff+o*2+1,none⟩=some (I cl.2):=by simpa using ac 1 _ rfl
        obtain ⟨x0,x1,x2,x3,x4,x5,x6,x7⟩:=box8 HBOX.out.range;have f5:=HBOX.out.frozen 5;have f6:=HBOX.out.frozen 6;have f7:=HBOX.out.frozen 7;have n1:¬ cblk=wo.heap.size+1+1:=by omega
        have n2:¬ wo.heap.size+1+1=cblk:=by omega
        have n3:¬ ablk=wo.heap.size+1+1:=by omega
        have n4:¬ wo.heap.size+1+1=ablk:=by omega
        have lar:ablk<wr.heap.size:=by omega
        have lcr:cblk<wr.heap.size:=by omega
        have n5:¬ wo.heap.size=wo.heap.size+1+1:=by omega
        clear hen e1 e2 e3 e4 ac hcl
        go_wp2_with ((with_reducible refine wp_load45 (.tmp 65) ?_ ?_ blk (off+j*5) ?_ x ?_ ?_);rfl;rfl;rfl;exact HSX.out)
        go_region_held3 (λu=>u.cell? ⟨wo.heap.size,0,none⟩=some (I t)∧u.cell? ⟨wo.heap.size,3,none⟩=some (I o)∧u.cell? ⟨ablk,aoff+t,none⟩=some (.slice (some ⟨cblk,coff,none⟩) nl2 icap)∧u.cell? ⟨cblk,coff+o*2,none⟩=some (I cl.1)∧u.cell? ⟨cblk,coff+o*2+1,none⟩=some (I cl.2))
         ((simp[go_sem, *];done))
         (fail)
        rename_i hH;clear hH;go_wp2_with fail
        go_roundw
        case rel =>
         have b3:=((HBW.out.setCell (p:=⟨wo.heap.size+1+1,5,none⟩) (by simp;omega) (I j)).setCell (p:=⟨wo.heap.size+1+1,6,none⟩) (by simp;omega) (I cl.1)).setCell (p:=⟨wo.heap.size+1+1,7,none⟩) (by simp;omega) (I cl.2);have hbx:=HBOX.out.set j cl;have hb:=(below_alloc (Below.refl _ (((wr.setCell ⟨wo.heap.size+1+1,5,none⟩ (I j)).setCell ⟨wo.heap.size+1+1,6,none⟩ (I cl.1)).setCell ⟨wo.heap.size+1+1,7,none⟩ (I cl.2))) (.cells #[I x.thr,I x.cel,I x.op,I x.old,I x.new] 60)).drew;have c0':(((wr.setCell ⟨wo.heap.size+1+1,5,none⟩ (I j)).setCell ⟨wo.heap.size+1+1,6,none⟩ (I cl.1)).setCell ⟨wo.heap.size+1+1,7,none⟩ (I cl.2)).cell? ⟨wo.heap.size,0,none⟩=some (I t):=by rw[World.cell?_setCell_other (h:=by simp),World.cell?_setCell_other (h:=by simp),World.cell?_setCell_other (h:=by simp)];exact s0
         have c3':(((wr.setCell ⟨wo.heap.size+1+1,5,none⟩ (I j)).setCell ⟨wo.heap.size+1+1,6,none⟩ (I cl.1)).setCell ⟨wo.heap.size+1+1,7,none⟩ (I cl.2)).cell? ⟨wo.heap.size,3,none⟩=some (I o):=by rw[World.cell?_setCell_other (h:=by simp),World.cell?_setCell_other (h:=by simp),World.cell?_setCell_other (h:=by simp)];exact s3
         refine ⟨j+1,by omega,by omega,by go_num,?_,kcell hb c0',kcell hb c3',b3.trans (hb.mono b3.size)⟩;rw[HSN.out,if_pos HEN.out,HCL.out];exact hbx.later hb (Qb hbx).1
        case measure=>simp[intOf];omega
       .have HEN:Hid (¬ endsB x ⟨t,scel,9,o,snew⟩=true):=hen
        have hcs:(x.op==10)=false∨((x.op==10)=true∧(x.thr==(t:Int))=false)∨((x.op==10)=true∧(x.thr==(t:Int))=true∧(x.old==(o:Int))=false)∨((x.op==10)=true∧(x.thr==(t:Int))=true∧(x.old==(o:Int))=true∧(x.new != 4)=false):=by
         unfold endsB at hen;simp only[Bool.and_eq_true,not_and] at hen;cases h1:(x.op==10) with
         |false=>exact .inl rfl
         |true =>
          cases h2:(x.thr==(t:Int)) with
          |false=>exact .inr (.inl ⟨rfl,rfl⟩)
          |true =>
           cases h3:(x.old==(o:Int)) with
           |false=>exact .inr (.inr (.inl ⟨rfl,rfl,rfl⟩))
           |true=>exact .inr (.inr (.inr ⟨rfl,rfl,rfl,by simpa using hen ⟨⟨h1,h2⟩,h3⟩⟩))
        clear hen;rcases hcs with g1|⟨g1,g2⟩|⟨g1,g2,g3⟩|⟨g1,g2,g3,g4⟩
        all_goals
         go_wp2_with ((with_reducible refine wp_load45 (.tmp 65) ?_ ?_ blk (off+j*5) ?_ x ?_ ?_);rfl;rfl;rfl;exact HSX.out)
         go_roundw
         case rel =>have hb:=below_alloc (Below.refl _ wr) (.cells #[I x.thr,I x.cel,I x.op,I x.old,I x.new] 60);refine ⟨j+1,by omega,by omega,by go_num,?_,kcell hb s0,kcell hb s3,HBW.out.trans (hb.mono (by omega))⟩;rw[HSN.out,if_neg HEN.out];exact HBOX.out.later hb heb
         case measure=>simp[intOf];omega
      .have:j=tr.length:=by omega
       subst this;obtain ⟨j0,hj',hj0,hj1,hj2⟩:=info_parts info33;have HOW2:Hid (wr.ownsRow w.heap.size 81 8 (.slice pl (refEvs sc an tr k).length cpl) (refEvs sc an tr k).length ((refEvs sc an tr k).flatMap evL)):=own_later HBW.out HOWN.out;have hgb:=own_block HOWN.out;generalize hev:scan sc an tr k (tr.length - k - 1)=ev at HBOX;have HEV:Hid (scan sc an tr k (tr.length - k - 1)=ev):=hev;have HRE:Hid (refEvs sc an tr (k+1)=refEvs sc an tr k++[ev]):=by have h:=refEvs_succ sc an tr k;rw[HSK'.out,if_pos rfl,hev] at h;exact h
       generalize hre:(refEvs sc an tr k).length=nr at hnk HOW2 hgb ⊢;have HNR:Hid ((refEvs sc an tr k).length=nr):=hre;clear hev hre s0 s3
       go_wp2_with (first
        |((with_reducible refine wp_load33 (.tmp 13) ?_ ?_ (wo.heap.size+1+1) 0 ?_ ev ?_ ?_);rfl;rfl;rfl;exact HBOX.out.range)
        |(at_builtin;refine wpList_append_lies _ rfl (.tmp 101) (.tmp 103) 77 rfl w.heap.size 81 j0 _ 8 64 Tryd.underlying77 hj' hj0 hj1 hj2 rfl (by decide) (.slice pl nr cpl) nr ((refEvs sc an tr k).flatMap evL) rfl
           (own_later (below_alloc (Below.refl _ _) _) HOW2.out) ⟨wr.heap.size,0,none⟩ 1 1 (evL ev) rfl rfl (news8 _ _ _) (one8 _) (by decide) (by unfold maxLen;omega) (by omega) (by simp;omega) _ rfl ?_;intro g cpg w6 hown6 hgrow6 hat6 hlt6))
       have HO6:Hid (w6.ownsRow w.heap.size 81 8 (.slice (some ⟨g,0,none⟩) (nr+1) cpg) (nr+1) ((refEvs sc an tr k).flatMap evL++evL ev)):=hown6;have HB6:Hid (Below w.heap.size w w6):=by have bw:=HBEL.out.trans (HBW.out.mono HBEL.out.size);exact (below_alloc bw _).grown hgrow6 (by simp;omega) (λg hg=>by have:=hgb g hg;omega)
       clear hown6 hgrow6 hat6 hlt6 hgb;go_wp2_with fail
       go_roundw
       case rel =>
        refine ⟨k+1,some ⟨g,0,none⟩,cpg,by omega,by go_num,?_,?_,HB6.out⟩;rw[HRE.out,Qj,HNR.out];rfl
        .rw[HRE.out,Qj,HNR.out,List.flatMap_append]
         simpa using HO6.out
       case measure=>simp[intOf];omega
    .have HNP:Hid (¬ s.op=9):=hop
     have hop':(s.op != 9)=true:=by simpa using hop
     clear hop
     go_wp2_with ((with_reducible refine wp_load45 (.tmp 30) ?_ ?_ blk (off+k*5) ?_ s ?_ ?_);rfl;rfl;rfl;exact HST.out)
     go_roundw
     case rel =>
      have e1:refEvs sc an tr (k+1)=refEvs sc an tr k:=by rw[refEvs_succ,HSK.out,if_neg HNP.out,List.append_nil]
      refine ⟨k+1,pl,cpl,by omega,by go_num,by rw[e1],?_,below_alloc HBEL.out _⟩;rw[e1];exact own_later (below_alloc (Below.refl _ _) _) HOWN.out
     case measure=>simp[intOf];omega
   .have:k=tr.length:=by omega
    subst this;go_wp2_with fail
    go_ret2
    refine ⟨⟨some sf,λ_=>HSF.out,λh=>absurd HAL.out h,.inr ⟨sf,_,rfl,rfl,?_⟩⟩,HBEL.out⟩;rw[evs_ref HSF.out];exact HOWN.out
end Go.Proofs.YtfjjoohflcchnaaDoor.R3
