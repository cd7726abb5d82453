import Derived.Test.YtgnncnhkgmhngaaGreatDoorJ45
set_option maxHeartbeats 4000000
set_option maxRecDepth 100000
namespace Go.Proofs.YtgnncnhkgmhngaaGreatDoor
open Go.RowKit Go.Sort
attribute [local go_sem] Oper.semAt_some
structure RemF (w:World) (ta:Option Addr) (tn tc q:Nat) (V:TV) (W:World) (tB:Nat):Prop where
 bel:RowKit.Below w.heap.size w W
 lt:w.heap.size+3<=tB
 tab:B3 W tB (.string V.name) V.cv V.rv
 res:Bk W (w.heap.size+2) [.int .i64 0, .int .i64 0, .int .i64 0, .slice none 0 0, .int .i64 0]
 c0:W.cell? ⟨w.heap.size,0,none⟩=some (.slice ta tn tc)
 c1:W.cell? ⟨w.heap.size+1,0,none⟩=some (.pointer (some ⟨q,0,none⟩))
def remF (hd:Sp.Row->Bool) (w:World) (x:List Value):List Sp.Row:=if hd (decR w.heap.size w (x.headD undef)) then [] else [decR w.heap.size w (x.headD undef)]
def RemI (C:Nat->Prop) (hd:Sp.Row->Bool) (w W:World) (pre:List (List Value)) (A:World):Prop:=RowsI (fun b=>C b/\b<w.heap.size) W (W.heap.size+6) W.heap.size (pre.flatMap (remF hd w)) A
theorem wp_append_run {P:Program} {o:Oper} {a:Act} {w:World} {K:Act->World->Prop} {Q:Exit->Act->World->Prop} {t ty:TypeId} {v u v' : Value} {w' : World} (hap:(Builtin.append_ #[t,t] ty #[v,u]).run P w = .ok v' w') (s x:Operand)
  (ho:o.op = .call { callee := .builtin .append,args:=#[s,x],argTypes:=#[t,t] }) (hty:o.type=ty) (hs:a.eval s=v) (hx:a.eval x=u) (h:K (a.put o.dst v') w'):o.wp P a w K Q:=by
 subst hty
 unfold Oper.wp execOp
 simp only [ho,resolve,invoke,builtin,Sem.run_bind,Sem.run_pure,Result.andThen_ok,List.map_toArray,List.map_cons,List.map_nil,hs,hx,hap]
 exact h
theorem rem_append {D:Nat->Prop} {W A A3:World} {N Br:Nat} {v:Value} {xs:List Value} {R0:List (List Sv.Val)} {r:List Sv.Val} {ua:Option Addr} {un uc:Nat} (bx:Boxed A Br 32 v) (ox:A.ownsRow N 41 1 v xs.length xs) (ax:Al (RwC (fun b=>D b/\some b≠v.ownBlock) A) xs R0) (bel:RowKit.Below W.heap.size W A) (hBw:W.heap.size<=Br) (hBN:Br<N) (hDB:∀ b,D b->b≠Br) (hsz:N<=A.heap.size) (hxl:xs.length<=1000)
  (b3:RowKit.Below A.heap.size A A3) (hr:RwC (fun b=>D b/\some b≠v.ownBlock) A3 (.slice ua un uc) r)
  (i0:TypeInfo) (ji:Tryz.prog.info? 41=some i0) (jz0:i0.zero=some (.slice none 0 0)) (jz1:i0.size=1) (jz2:i0.bytes=24) :
  ∃ g' c' W4,Hid (RowsI D W N Br (R0 ++ [r]) (W4.setCell ⟨Br,0,none⟩ (.slice (some ⟨g',0,none⟩) (xs.length+1) c'))/\Fr (fun k=>k<N/\k≠Br) A (W4.setCell ⟨Br,0,none⟩ (.slice (some ⟨g',0,none⟩) (xs.length+1) c')))/\
   (Builtin.append_ #[32,32] 32 #[v, .slice (some ⟨A3.heap.size,0,none⟩) 1 1]).run Tryz.prog (A3.alloc (.cells #[.slice ua un uc] 41)) = .ok (.slice (some ⟨g',0,none⟩) (xs.length+1) c') W4/\W4.cell? ⟨Br,0,none⟩=some v/\W4.frozen? ⟨Br,0,none⟩=false/\A3.heap.size<W4.heap.size/\∀ j,j<A3.heap.size->some j≠v.ownBlock->W4.heap[j]?=A3.heap[j]?:=by
 have hz3:A.heap.size<=A3.heap.size:=b3.size
 have ho:(A3.alloc (.cells #[.slice ua un uc] 41)).ownsRow N 41 1 v xs.length xs:=ownsV_below (ownsV_below ox b3) ((Gr.refl A3).alloc _).below
 obtain ⟨g',c',W4,hap,hown,hgrow,hat,_⟩:=run_append_lies (P:=Tryz.prog) (A3.alloc (.cells #[.slice ua un uc] 41)) 32 32 N 41 i0 (.slice none 0 0) 1 24 Tryz.underlying32 ji jz0 jz1 jz2 rfl (by decide) v xs.length xs ho ⟨A3.heap.size,0,none⟩ 1 1 [.slice ua un uc] rfl (newV1 _ _ _) (one_slice _ _ _) (by omega) (by unfold maxLen;omega) (by omega) (by simp;omega) (A3.heap.size+1) (by simp)
 obtain ⟨p1,p2,p3⟩:=RowsI.push hBw hBN hDB hsz bel bx ox ax b3 hr hown hgrow hat
 refine ⟨g',c',W4,⟨p2,p3⟩,hap,p1.cell,p1.frozen,by have:=hgrow.size;simp at this;omega,fun j hj hne=>(hgrow.block j (by simp;omega) hne).trans (Below.heap_alloc A3 _ j hj)⟩
theorem prods_one {α:Type} (xs:List α):prods [xs]=xs.map fun v => [v]:=by
 simp [prods]
 induction xs with
 | nil=>rfl
 | cons a l ih=>simp [ih]
theorem remF_all (hd:Sp.Row->Bool) (w:World):∀ xs:List Value,(xs.map fun v => [v]).flatMap (remF hd w)=(xs.map (decR w.heap.size w)).filter fun r=>!hd r
 | []=>rfl
 | a::l=>by
  simp only [List.map_cons,List.flatMap_cons,List.filter_cons]
  rw [remF_all hd w l]
  unfold remF
  simp only [List.headD_cons]
  by_cases h:hd (decR w.heap.size w a)=true
  ·simp [h]
  ·simp [h]
theorem set5_cells {w:World} {q d:Nat} {x0 x1 x2 x3 x4:Value} {o:Obj} (h:Bk w q [x0,x1,x2,x3,x4]) (hd:q≠d) (a b c e f:Value):((((((w.setCell ⟨q,0,none⟩ a).setCell ⟨q,1,none⟩ b).setCell ⟨q,2,none⟩ c).setCell ⟨q,3,none⟩ e).setCell ⟨q,4,none⟩ f).putObj d o).cell? ⟨q,0,none⟩=some a/\((((((w.setCell ⟨q,0,none⟩ a).setCell ⟨q,1,none⟩ b).setCell ⟨q,2,none⟩ c).setCell ⟨q,3,none⟩ e).setCell ⟨q,4,none⟩ f).putObj d o).cell? ⟨q,1,none⟩=some b/\((((((w.setCell ⟨q,0,none⟩ a).setCell ⟨q,1,none⟩ b).setCell ⟨q,2,none⟩ c).setCell ⟨q,3,none⟩ e).setCell ⟨q,4,none⟩ f).putObj d o).cell? ⟨q,2,none⟩=some c/\((((((w.setCell ⟨q,0,none⟩ a).setCell ⟨q,1,none⟩ b).setCell ⟨q,2,none⟩ c).setCell ⟨q,3,none⟩ e).setCell ⟨q,4,none⟩ f).putObj d o).cell? ⟨q,3,none⟩=some e/\((((((w.setCell ⟨q,0,none⟩ a).setCell ⟨q,1,none⟩ b).setCell ⟨q,2,none⟩ c).setCell ⟨q,3,none⟩ e).setCell ⟨q,4,none⟩ f).putObj d o).cell? ⟨q,4,none⟩=some f:=by
 have h5:=((((h.put 0 (by simp) a).put 1 (by simp) b).put 2 (by simp) c).put 3 (by simp) e).put 4 (by simp) f
 have hk:∀ i,((((((w.setCell ⟨q,0,none⟩ a).setCell ⟨q,1,none⟩ b).setCell ⟨q,2,none⟩ c).setCell ⟨q,3,none⟩ e).setCell ⟨q,4,none⟩ f).putObj d o).cell? ⟨q,i,none⟩=(((((w.setCell ⟨q,0,none⟩ a).setCell ⟨q,1,none⟩ b).setCell ⟨q,2,none⟩ c).setCell ⟨q,3,none⟩ e).setCell ⟨q,4,none⟩ f).cell? ⟨q,i,none⟩:=fun i=>World.cell?_of_block (a:=⟨q,i,none⟩) (World.putObj_heap_other hd)
 exact ⟨(hk 0).trans (h5.c 0 (by simp)),(hk 1).trans (h5.c 1 (by simp)),(hk 2).trans (h5.c 2 (by simp)),(hk 3).trans (h5.c 3 (by simp)),(hk 4).trans (h5.c 4 (by simp))⟩
theorem wrap_small {z:Nat} (h:z<=1000):IntKind.i64.wrap (z:Int)=(z:Int):=by
 first
  | (simp [IntKind.wrap,IntKind.bits,IntKind.signed];omega)
  | (unfold IntKind.wrap;simp;omega)
theorem TbsC.sl {C:Nat->Prop} {w:World} {T:List Sp.Tb} {v:Value} (h:TbsC C w T v):∃ a n c,v = .slice a n c:=by
 rcases h.2 with ⟨_,e⟩ | ⟨b,off,c,V,e,_⟩
 ·exact ⟨_,_,_,e⟩
 ·exact ⟨_,_,_,e⟩
theorem rem_with {D:Nat->Prop} {A B:World} {T:List Sp.Tb} {t:Sp.Tb} {V:TV} {tv:Value} (hT:TbsC (fun b=>D b\/A.heap.size<=b) A T tv) (hV:Tb1C (fun b=>D b\/A.heap.size<=b) B t V) (hb:RowKit.Below A.heap.size A B) (hl:T.length<=800) :
  Calls Tryz.prog 86 #[tv,enT V] B fun e w'=>∃ v',e = .returned v'/\TbsC (fun b=>D b\/A.heap.size<=b) w' (Sp.withT t T) v'/\RowKit.Below B.heap.size B w':=by
 obtain ⟨VL,hVL,hAL,hLL⟩:=(hT.bel hb).ltv
 have hLT:VL.length=T.length:=hAL.len.symm
 refine (twith_any (t:=V) hVL (by omega)).mono ?_
 rintro e w5 ⟨v5,rfl,o5,b5⟩
 exact ⟨v5,rfl,with_tbs (fun j hj => .inr (by have:=hb.size;omega)) hAL hV o5 b5 (by omega),b5⟩
theorem put5_cell {w:World} {q b o:Nat} {x y z u s v:Value} (h:b≠q) (hc:w.cell? ⟨b,o,none⟩=some v):(((((w.setCell ⟨q,0,none⟩ x).setCell ⟨q,1,none⟩ y).setCell ⟨q,2,none⟩ z).setCell ⟨q,3,none⟩ u).setCell ⟨q,4,none⟩ s).cell? ⟨b,o,none⟩=some v:=
 (World.cell?_of_block (w:=w) (a:=⟨b,o,none⟩) (heap_set5 h _ _ _ _ _)).trans hc
theorem cell_al {w:World} {b o:Nat} {v:Value} {ob:Obj} (h:w.cell? ⟨b,o,none⟩=some v):(w.alloc ob).cell? ⟨b,o,none⟩=some v:=(((Gr.refl w).alloc ob).cell (p:=⟨b,o,none⟩) (cell_lt h)).trans h
theorem remF_one {w w0 w1:World} {ta:Option Addr} {tn tc q:Nat} {vn:ByteArray} {ca:Option Addr} {cl cc:Nat} {ra:Option Addr} {rl rc:Nat} (G0:Gr w w0) (HG1:Gr w0.drew w1) (hz0:w0.heap.size=w.heap.size+3) (HB5:Bk w0 (w.heap.size+2) [.int .i64 0, .int .i64 0, .int .i64 0, .slice none 0 0, .int .i64 0]) (u0:w1.cell? ⟨w.heap.size,0,none⟩=some (.slice ta tn tc)) (u1:w1.cell? ⟨w.heap.size+1,0,none⟩=some (.pointer (some ⟨q,0,none⟩))) :
  RemF w ta tn tc q ⟨vn,ca,cl,cc,ra,rl,rc⟩ (w1.alloc (.cells #[.string vn, .slice ca cl cc, .slice ra rl rc] 187)) w1.heap.size:=by
 have h1:Gr w w1:=G0.drew.trans HG1
 have hz:w0.heap.size<=w1.heap.size:=HG1.size
 exact ⟨(h1.alloc _).below,by omega,B3.new w1 _ _ _ _,(HB5.below ((Gr.refl w0).drew.trans HG1).below).alloc _,cell_al u0,cell_al u1⟩
theorem remF_two {w w0 w1:World} {ta:Option Addr} {tn tc q:Nat} {vn:ByteArray} {ca:Option Addr} {cl cc:Nat} {ra:Option Addr} {rl rc:Nat} {o:Obj} (G0:Gr w w0) (HG2:Gr (w0.alloc o).drew w1) (hz0:w0.heap.size=w.heap.size+3) (HB5:Bk w0 (w.heap.size+2) [.int .i64 0, .int .i64 0, .int .i64 0, .slice none 0 0, .int .i64 0]) (HN4:B3 w1 w0.heap.size (.string ⟨#[]⟩) (.slice none 0 0) (.slice none 0 0)) (u0:w1.cell? ⟨w.heap.size,0,none⟩=some (.slice ta tn tc)) (u1:w1.cell? ⟨w.heap.size+1,0,none⟩=some (.pointer (some ⟨q,0,none⟩))) :
  RemF w ta tn tc q ⟨vn,ca,cl,cc,ra,rl,rc⟩ (((w1.setCell ⟨w.heap.size+3,0,none⟩ (.string vn)).setCell ⟨w.heap.size+3,1,none⟩ (.slice ca cl cc)).setCell ⟨w.heap.size+3,2,none⟩ (.slice ra rl rc)) (w.heap.size+3):=by
 have h1:Gr w w1:=(G0.alloc _).drew.trans HG2
 have hB5:Bk w1 (w.heap.size+2) [.int .i64 0, .int .i64 0, .int .i64 0, .slice none 0 0, .int .i64 0]:=HB5.below (((Gr.refl w0).alloc _).drew.trans HG2).below
 have h23:w.heap.size+2≠w.heap.size+3:=by omega
 have e5:(((w1.setCell ⟨w.heap.size+3,0,none⟩ (.string vn)).setCell ⟨w.heap.size+3,1,none⟩ (.slice ca cl cc)).setCell ⟨w.heap.size+3,2,none⟩ (.slice ra rl rc)).heap[w.heap.size+2]?=w1.heap[w.heap.size+2]?:=(Below.heap_setCell _ _ _ _ h23).trans ((Below.heap_setCell _ _ _ _ h23).trans (Below.heap_setCell _ _ _ _ h23))
 rw [hz0] at HN4
 have h3:w.heap.size<=w.heap.size+3:=by omega
 exact ⟨((h1.below.setCell (p:=⟨w.heap.size+3,0,none⟩) h3 _).setCell (p:=⟨w.heap.size+3,1,none⟩) h3 _).setCell (p:=⟨w.heap.size+3,2,none⟩) h3 _,Nat.le_refl _,HN4.fill _ _ _,hB5.same (by simp [World.setCell]) e5,put3_cell (by omega) u0,put3_cell (by omega) u1⟩
theorem rremove_in (n:Nat) (hn:6<=n) {C:Nat->Prop} {T:List Sp.Tb} {t:Sp.Tb} {q:Nat} {nm:Sp.Nm} {tv wv:Value} {w:World} (hd:Sp.Row->Bool) (hC:∀ j,w.heap.size<=j->C j) (ht:TbsC C w T tv) (hf:Sp.findTb nm.1 T=some t)
  (hA:At w q [.string (bz nm.1), .int .i64 (nm.2:Nat),wv]) (hTl:T.length<=800)
  (hX:∀ r∈t.rows,∀ (A:World) (iv:Value),RowKit.Below w.heap.size w A->Arn A tv [[r]] iv->Calls Tryz.prog 150 #[wv,iv] A fun e A'=>e = .returned (.bool (hd r))/\Gr A A') :
  CallsIn Fence.wide n Tryz.prog 90 #[tv, .pointer (some ⟨q,0,none⟩)] w fun e w'=>∃ v,e = .returned v/\(∃ tv',v = .tuple #[tv',enRes 0 0 0 (.slice none 0 0) ((t.rows.length - (t.rows.filter fun r=>!hd r).length:Nat))]/\TbsC C w' (Sp.withT { t with rows:=t.rows.filter fun r=>!hd r } T) tv')/\RowKit.Below w.heap.size w w':=by
 have h1:1<=n:=by omega
 have hro:Fence.wide.round=none:=rfl
 have hfn:∀ k,Fence.wide.fn k:=fun _=>trivial
 obtain ⟨ta,tn,tc,rfl⟩:∃ a n c,tv = .slice a n c:=by
  rcases ht.2 with ⟨_,e⟩ | ⟨b,off,c,V,e,_⟩
  ·exact ⟨_,_,_,e⟩
  ·exact ⟨_,_,_,e⟩
 have b0:=hA.k0
 have b2:=hA.k2
 have hqw:=hA.1
 have ht:=ht.to (D:=fun b=>(C b/\b<w.heap.size)\/w.heap.size+3<=b) fun b h1 h2 => .inl ⟨h1,h2⟩
 obtain ⟨V,hV,hFd⟩:=tfindC ht hf
 have HT:=hid ht
 have HFd:=hid hFd
 have HV:=hid hV
 have HX:=hid hX
 have HC:=hid hC
 obtain ⟨w0,hw0⟩:∃ w0,w0=((w.alloc (.cells #[.slice ta tn tc] 113)).alloc (.cells #[.pointer (some ⟨q,0,none⟩)] 171)).alloc (.cells #[.int .i64 0, .int .i64 0, .int .i64 0, .slice none 0 0, .int .i64 0] 56):=⟨_,rfl⟩
 have G0:Hid (Gr w w0):=by show Gr _ _;rw [hw0];exact (((Gr.refl w).alloc _).alloc _).alloc _
 have hz0:w0.heap.size=w.heap.size+3:=by rw [hw0];simp
 have x0:w0.cell? ⟨w.heap.size,0,none⟩=some (.slice ta tn tc):=by
  rw [hw0];exact ((((Gr.refl _).alloc _).alloc _).cell (p:=⟨w.heap.size,0,none⟩) (by simp)).trans (by simp)
 have x1:w0.cell? ⟨w.heap.size+1,0,none⟩=some (.pointer (some ⟨q,0,none⟩)):=by
  rw [hw0]
  refine (((Gr.refl _).alloc _).cell (p:=⟨w.heap.size+1,0,none⟩) (by simp)).trans ?_
  have h:=World.cell?_alloc_new (w.alloc (.cells #[.slice ta tn tc] 113)) #[.pointer (some ⟨q,0,none⟩)] 171 0
  rw [World.size_alloc] at h
  exact h
 have HB5:Hid (Bk w0 (w.heap.size+2) [.int .i64 0, .int .i64 0, .int .i64 0, .slice none 0 0, .int .i64 0]):=by
  show Bk _ _ _
  have h:=Bk.new ((w.alloc (.cells #[.slice ta tn tc] 113)).alloc (.cells #[.pointer (some ⟨q,0,none⟩)] 171)) #[.int .i64 0, .int .i64 0, .int .i64 0, .slice none 0 0, .int .i64 0] 56
  rw [<- hw0] at h
  simpa using h
 have y0:=(G0.out.cell (p:=⟨q,0,none⟩) hqw).trans b0
 have x0' : w0.drew.cell? ⟨w.heap.size,0,none⟩=some (.slice ta tn tc):=x0
 have x1' : w0.drew.cell? ⟨w.heap.size+1,0,none⟩=some (.pointer (some ⟨q,0,none⟩)):=x1
 have y0' : w0.drew.cell? ⟨q,0,none⟩=some (.string (bz nm.1)):=y0
 obtain ⟨vn,ca,cl,cc,ra,rl,rc⟩:=V
 refine callsIn_of_wp_marks Tryz.func90 rfl (hfn _) ?_ hro
 simp only [Tryz.ntmps90,List.size_toArray,List.length_cons,List.length_nil,Nat.reduceAdd,Nat.reduceSub,Array.replicate_succ,Array.replicate_zero,List.push_toArray,List.append_toArray,List.nil_append,List.cons_append]
 gi_wp2
 rw [<- hw0]
 clear hw0 ht hV hFd hX hC hA
 refine wpIn_wide.2 ?_
 have G0d:Hid (RowKit.Below w.heap.size w w0.drew):=G0.out.drew.below
 have G0e:Hid (RowKit.Below w.heap.size w (w0.alloc (.cells #[.string ⟨#[]⟩, .slice none 0 0, .slice none 0 0] 187)).drew):=(G0.out.alloc _).drew.below
 have z0:(w0.alloc (.cells #[.string ⟨#[]⟩, .slice none 0 0, .slice none 0 0] 187)).drew.cell? ⟨w.heap.size,0,none⟩=some (.slice ta tn tc):=(((Gr.refl w0).alloc _).cell (p:=⟨w.heap.size,0,none⟩) (by show w.heap.size<w0.heap.size;omega)).trans x0
 have z1:(w0.alloc (.cells #[.string ⟨#[]⟩, .slice none 0 0, .slice none 0 0] 187)).drew.cell? ⟨w.heap.size+1,0,none⟩=some (.pointer (some ⟨q,0,none⟩)):=(((Gr.refl w0).alloc _).cell (p:=⟨w.heap.size+1,0,none⟩) (by show w.heap.size+1<w0.heap.size;omega)).trans x1
 have z2:(w0.alloc (.cells #[.string ⟨#[]⟩, .slice none 0 0, .slice none 0 0] 187)).drew.cell? ⟨q,0,none⟩=some (.string (bz nm.1)):=(((Gr.refl w0).alloc _).cell (p:=⟨q,0,none⟩) (by show q<w0.heap.size;omega)).trans y0
 have hq3:w.heap.size≠w.heap.size+3:=by omega
 have hq4:w.heap.size+1≠w.heap.size+3:=by omega
 have hq5:q≠w.heap.size+3:=by omega
 have HN3:Hid (B3 (w0.alloc (.cells #[.string ⟨#[]⟩, .slice none 0 0, .slice none 0 0] 187)).drew w0.heap.size (.string ⟨#[]⟩) (.slice none 0 0) (.slice none 0 0)):=(B3.new w0 _ _ _ _).gr (Gr.refl _).drew
 go_region_held3 (fun w'=>w'.cell? ⟨w.heap.size,0,none⟩=some (.slice ta tn tc)/\w'.cell? ⟨w.heap.size+1,0,none⟩=some (.pointer (some ⟨q,0,none⟩))/\w'.cell? ⟨q,0,none⟩=some (.string (bz nm.1))) (first | (with_reducible exact ⟨x0',x1',y0'⟩) | (with_reducible exact ⟨x0,x1,y0⟩) | (with_reducible exact ⟨z0,z1,z2⟩) | (with_reducible exact ⟨u0,u1,u2⟩) | (with_reducible exact ⟨put3_cell hq3 u0,put3_cell hq4 u1,put3_cell hq5 u2⟩) | (with_reducible exact ⟨cell_al u0,cell_al u1,cell_al u2⟩) | go_keep)
  (first | (go_at_call 146;refine (HFd.out _ G0d.out).mono ?_;rintro e1 w1 ⟨rfl,g1⟩;have HG1:=hid g1;have u0:=(g1.cell (p:=⟨w.heap.size,0,none⟩) (by show w.heap.size<w0.heap.size;omega)).trans x0';have u1:=(g1.cell (p:=⟨w.heap.size+1,0,none⟩) (by show w.heap.size+1<w0.heap.size;omega)).trans x1';have u2:=(g1.cell (p:=⟨q,0,none⟩) (by show q<w0.heap.size;omega)).trans y0';clear g1) | (go_at_call 146;refine (HFd.out _ G0e.out).mono ?_;rintro e1 w1 ⟨rfl,g1⟩;have HG2:=hid g1;have HN4:=hid (HN3.out.gr g1);obtain ⟨n0,n1,n2,n3,n4,n5,n6⟩:=HN4.out;rw [hz0] at n0 n1 n2 n3 n4 n5 n6;have u0:=(g1.cell (p:=⟨w.heap.size,0,none⟩) (by simp;omega)).trans z0;have u1:=(g1.cell (p:=⟨w.heap.size+1,0,none⟩) (by simp;omega)).trans z1;have u2:=(g1.cell (p:=⟨q,0,none⟩) (by simp;omega)).trans z2;clear g1))
 all_goals
  first
   | (have hF:RemF w ta tn tc q ⟨vn,ca,cl,cc,ra,rl,rc⟩ (w1.alloc (.cells #[.string vn, .slice ca cl cc, .slice ra rl rc] 187)) w1.heap.size:=remF_one G0.out HG1.out hz0 HB5.out u0 u1;generalize w1.alloc (.cells #[.string vn, .slice ca cl cc, .slice ra rl rc] 187)=W at hF ⊢;generalize w1.heap.size=tB at hF ⊢)
   | (have hF:RemF w ta tn tc q ⟨vn,ca,cl,cc,ra,rl,rc⟩ (((w1.setCell ⟨w.heap.size+3,0,none⟩ (.string vn)).setCell ⟨w.heap.size+3,1,none⟩ (.slice ca cl cc)).setCell ⟨w.heap.size+3,2,none⟩ (.slice ra rl rc)) (w.heap.size+3):=remF_two G0.out HG2.out hz0 HB5.out HN4.out u0 u1;generalize ((w1.setCell ⟨w.heap.size+3,0,none⟩ (.string vn)).setCell ⟨w.heap.size+3,1,none⟩ (.slice ca cl cc)).setCell ⟨w.heap.size+3,2,none⟩ (.slice ra rl rc)=W at hF ⊢;generalize w.heap.size+3=tB at hF ⊢)
  have HF:=hid hF
  obtain ⟨bel0,htB,⟨t0,t1,t2,t3,t4,t5,t6⟩,hres,c0,c1⟩:=hF
  clear u0 u1 u2
  obtain ⟨xs,hsl,hal⟩:=(HV.out.to (D:=fun b=>C b/\b<w.heap.size) (fun b h1 h2=>by rcases h1 with h1 | h1;exact h1;omega)).lrs
  have hzW:=bel0.size
  have halR:Al (Rw w.heap.size w) xs t.rows:=hal.mono fun a b h=>h.rw
  have hdec:=decR_map halR
  have hlx:xs.length=t.rows.length:=hal.len
  obtain ⟨W2,hW2⟩:∃ W2,W2=((W.alloc (.cells #[.slice none 0 0] 32)).alloc (.cells #[.slice ra rl rc] 32)).alloc (.cells #[.slice (some ⟨W.heap.size+1,0,none⟩) 1 1] 326):=⟨_,rfl⟩
  have GW:Hid (Gr W W2):=by show Gr _ _;rw [hW2];exact (((Gr.refl W).alloc _).alloc _).alloc _
  have hz2:W2.heap.size=W.heap.size+3:=by rw [hW2];simp
  have HBr:Hid (Boxed W2 W.heap.size 32 (.slice none 0 0)):=by
   show Boxed _ _ _ _;rw [hW2];exact ((Boxed.new W 32 (.slice none 0 0)).alloc _).alloc _
  have e1:W2.cell? ⟨W.heap.size+1,0,none⟩=some (.slice ra rl rc):=by
   rw [hW2]
   refine cell_al ?_
   have h:=World.cell?_alloc_new (W.alloc (.cells #[.slice none 0 0] 32)) #[.slice ra rl rc] 32 0
   rw [World.size_alloc] at h
   exact h
  have e2:W2.cell? ⟨W.heap.size+2,0,none⟩=some (.slice (some ⟨W.heap.size+1,0,none⟩) 1 1):=by
   rw [hW2]
   have h:=World.cell?_alloc_new ((W.alloc (.cells #[.slice none 0 0] 32)).alloc (.cells #[.slice ra rl rc] 32)) #[.slice (some ⟨W.heap.size+1,0,none⟩) 1 1] 326 0
   rw [World.size_alloc,World.size_alloc] at h
   exact h
  have HTo:Hid (Calls Tryz.prog 149 #[.slice (some ⟨W.heap.size+1,0,none⟩) 1 1] ((W.alloc (.cells #[.slice none 0 0] 32)).alloc (.cells #[.slice ra rl rc] 32)) fun e w'=>e = .returned (.func (.func 191) #[] #[.pointer (some ⟨W.heap.size+2,0,none⟩)])/\w'=W2):=by
   have h:=together_any (some ⟨W.heap.size+1,0,none⟩) 1 1 ((W.alloc (.cells #[.slice none 0 0] 32)).alloc (.cells #[.slice ra rl rc] 32))
   refine h.mono ?_
   rintro e w' ⟨he,hw⟩
   exact ⟨by rw [he];simp,hw.trans hW2.symm⟩
  clear hW2
  gi_wp2
  refine (callsIn_wide.2 HTo.out).mono ?_
  rintro e w9 ⟨rfl,rfl⟩
  have hTabs:Tabs (fun j=>(j<w9.heap.size+3/\j≠W.heap.size)/\j≠w9.heap.size+2) w9 (W.heap.size+1) 0 [xs]:=by
   refine ⟨by omega,⟨⟨by omega,by omega⟩,by omega⟩,fun i hi=>?_⟩
   obtain rfl:i=0:=by simpa using hi
   refine ⟨_,by rw [Nat.zero_add];exact e1,?_⟩
   rcases hsl with ⟨h,h'⟩ | ⟨b,o,c,e,hb,hc⟩
   ·exact .inl ⟨h,by simpa using h'⟩
   ·refine .inr ⟨b,o,c,by simpa using e,by omega,⟨⟨by omega,by omega⟩,by omega⟩,fun j hj=>?_⟩
    exact (GW.out.cell (p:=⟨b,o+j,none⟩) (by show b<_;omega)).trans ((bel0.cell (p:=⟨b,o+j,none⟩) hb).trans (hc j (by simpa using hj)))
  gi_wp2
  refine range_tog (W:=w9) (tabs := [xs]) (Bt:=W.heap.size+2) (tb:=W.heap.size+1) (tc:=1) h1 rfl rfl (fun j=>j<w9.heap.size+3/\j≠W.heap.size) ⟨by omega,by omega⟩ ⟨by omega,by omega⟩ ⟨by omega,by omega⟩ (by simp) (by simp) ?_ ?_ ?_ (by omega) e2 hTabs
   (fun pre A=>RemI C hd w W pre A) (fun s A B hi hs ho ht hp hb=>?_) (fun W1 hs1 hb1=>?_) ?_ (fun l A K hK=>?_) (fun l pre x A hi hx hl hsz=>?_) (fun A hi hdf=>?_)
  ·intro t' ht';simp at ht';subst ht';rw [hlx];have:=HV.out.rowN;omega
  ·intro t' ht' r hr
   simp at ht'
   subst ht'
   obtain ⟨y,_,hy⟩:=hal.memR hr
   rcases hy with ⟨e,_⟩ | ⟨b,o,c,e,_⟩
   ·exact ⟨_,_,_,e⟩
   ·exact ⟨_,_,_,e⟩
  ·rw [prods_one,List.length_map,hlx];exact HV.out.rowN
  ·exact RowsI.same hi (by omega) (by omega) (by omega) (fun b h => .inl (by omega)) hs ho ht hp hb
  ·exact RowsI.start ((hb1.block _ (by omega)).trans HBr.out) (by omega) (GW.out.below.trans (hb1.mono GW.out.size))
  rotate_left
  ·gi_wp2
   exact hK
  ·obtain ⟨⟨v,ys,bx,ox,ax⟩,hszR,bel⟩:=hi
   have hxm:=hx.2.2
   rw [prods_one] at hxm
   obtain ⟨v0,hv0,rfl⟩:=List.mem_map.1 hxm
   have hr0:decR w.heap.size w v0∈t.rows:=by rw [<- hdec];exact List.mem_map.2 ⟨v0,hv0,rfl⟩
   have hBwA:RowKit.Below w.heap.size w A:=bel0.trans (bel.mono hzW)
   have HTk:=hid (hx.tkn (rss := [t.rows]) (k:=w.heap.size) (w:=w) ⟨halR,trivial⟩ hBwA (Nat.le_refl _))
   have HXr:=hid (HX.out _ hr0)
   have HFx:Hid ((pre ++ [[v0]]).flatMap (remF hd w)=pre.flatMap (remF hd w)++(if hd (decR w.heap.size w v0) then [] else [decR w.heap.size w v0])):=by show _=_;simp [remF]
   have hyl:ys.length<=1000:=by
    have h2:(pre.flatMap (remF hd w)).length<=pre.length:=flat_one _ _ (fun tk=>by unfold remF;split <;> simp)
    rw [ax.len];omega
   have hrwv:RwC (fun b=>C b/\b<w.heap.size) w v0 (decR w.heap.size w v0):=by
    obtain ⟨y,_,hy⟩:=hal.memR hv0
    rw [decR_eq hy.rw];exact hy
   have HRv:=hid hrwv
   simp only [List.map_cons,List.map_nil] at HTk
   generalize decR w.heap.size w v0=r0 at *
   generalize pre.flatMap (remF hd w)=R0 at *
   have HBx0:=hid bx
   have HOx:=hid ox
   have HAx:=hid ax
   have HBel:=hid bel
   have s0:=(bel.cell (p:=⟨w.heap.size,0,none⟩) (by show w.heap.size<_;omega)).trans c0
   have s1:=(bel.cell (p:=⟨w.heap.size+1,0,none⟩) (by show w.heap.size+1<_;omega)).trans c1
   have s2:=(hBwA.cell (p:=⟨q,2,none⟩) hqw).trans b2
   have hzA:=bel.size
   have HBwA:=hid hBwA
   have hmx:=mixed
   have tk0:=hx.1.at_ 0 (by simp)
   rw [hz2] at HTk tk0
   simp only [List.getElem_cons_zero] at tk0
   clear ax ox bel bx hxm hrwv
   gi_wp2
   refine wpIn_region_heldR (S:=fun w'=>w'.cell? ⟨w.heap.size,0,none⟩=some (.slice ta tn tc)/\w'.cell? ⟨w.heap.size+1,0,none⟩=some (.pointer (some ⟨q,0,none⟩))/\w'.cell? ⟨q,2,none⟩=some wv) hmx (by kernel_rfl) ?_ ?_
   ·rintro ⟨a',w',h⟩
    exact absurd h.1 (by simp)
   refine wpAnyH_take (i:=0) (v := .pointer (some ⟨q,0,none⟩)) rfl (by kernel_rfl) (by kernel_rfl) (by kernel_rfl) (fun _ _ _ h=>h) (.inl ⟨by rfl,fun w' hS=>by obtain ⟨g0,g1,g2⟩:=hS;go_simp⟩) ⟨s0,s1,s2⟩ ?_
   refine wpAnyH_take (i:=1) (v := .pointer (some ⟨q,0,none⟩)) rfl (by kernel_rfl) (by kernel_rfl) (by kernel_rfl) (fun _ _ _ h=>h) (.inl ⟨by rfl,fun w' hS=>by obtain ⟨g0,g1,g2⟩:=hS;go_simp⟩) ⟨s0,s1,s2⟩ ?_
   refine wpAnyH_take (i:=2) (v := .pointer (some ⟨q,2,none⟩)) rfl (by kernel_rfl) (by kernel_rfl) (by kernel_rfl) (fun _ _ _ h=>h) (.inl ⟨by rfl,fun w' hS=>by obtain ⟨g0,g1,g2⟩:=hS;go_simp⟩) ⟨s0,s1,s2⟩ ?_
   refine wpAnyH_take (i:=3) (v:=wv) rfl (by kernel_rfl) (by kernel_rfl) (by kernel_rfl) (fun _ _ _ h=>h) (.inl ⟨by rfl,fun w' hS=>by obtain ⟨g0,g1,g2⟩:=hS;go_simp⟩) ⟨s0,s1,s2⟩ ?_
   refine wpAnyH_take (i:=4) (v := .slice ta tn tc) rfl (by kernel_rfl) (by kernel_rfl) (by kernel_rfl) (fun _ _ _ h=>h) (.inl ⟨by rfl,fun w' hS=>by obtain ⟨g0,g1,g2⟩:=hS;go_simp⟩) ⟨s0,s1,s2⟩ ?_
   refine wpAnyH_take (i:=6) (v := .slice (some ⟨W.heap.size+3+2,0,none⟩) 1 1) rfl (by kernel_rfl) (by kernel_rfl) (by kernel_rfl) (fun _ _ _ h=>h) (.inl ⟨by rfl,fun w' hS=>by obtain ⟨g0,g1,g2⟩:=hS;go_simp⟩) ⟨s0,s1,s2⟩ ?_
   refine wpAnyH_one (i:=5) (by kernel_rfl) rfl rfl (fun K hK=>?_)
   go_simp
   refine (nothing_any ta tn tc A.drew).mono ?_
   rintro e1 A1 ⟨v1,rfl,ar1,g1⟩
   obtain ⟨nb,rfl,hnb,_⟩:=ar1.ptr
   have HAr1:=hid ar1
   have HG1':=hid ((Gr.refl A).drew.trans g1)
   have p0:=(HG1'.out.cell (p:=⟨w.heap.size,0,none⟩) (cell_lt s0)).trans s0
   have p1:=(HG1'.out.cell (p:=⟨w.heap.size+1,0,none⟩) (cell_lt s1)).trans s1
   have p2:=(HG1'.out.cell (p:=⟨q,2,none⟩) (cell_lt s2)).trans s2
   clear ar1 g1
   refine hK _ _ ⟨p0,p1,p2⟩ ?_
   clear hK K
   refine wpAnyH_one (i:=7) (by kernel_rfl) rfl rfl (fun K hK=>?_)
   go_simp
   refine (with_any HAr1.out (HTk.out.gr HG1'.out)).mono ?_
   rintro e2 A2 ⟨v2,rfl,ar2,g2⟩
   obtain ⟨ib,rfl,hib,_⟩:=ar2.ptr
   have HAr2:=hid ar2
   have HG2':=hid (HG1'.out.trans g2)
   have o0:=(g2.cell (p:=⟨w.heap.size,0,none⟩) (cell_lt p0)).trans p0
   have o1:=(g2.cell (p:=⟨w.heap.size+1,0,none⟩) (cell_lt p1)).trans p1
   have o2:=(g2.cell (p:=⟨q,2,none⟩) (cell_lt p2)).trans p2
   clear ar2 g2
   refine hK _ _ ⟨o0,o1,o2⟩ ?_
   clear hK K
   refine wpAnyH_one (i:=8) (by kernel_rfl) rfl rfl (fun K hK=>?_)
   go_simp
   refine (HXr.out A2 _ (HBwA.out.trans (HG2'.out.below.mono HBwA.out.size)) HAr2.out).mono ?_
   rintro e3 A3 ⟨rfl,g3⟩
   have HG3':=hid (HG2'.out.trans g3)
   have q0:=(g3.cell (p:=⟨w.heap.size,0,none⟩) (cell_lt o0)).trans o0
   have q1:=(g3.cell (p:=⟨w.heap.size+1,0,none⟩) (cell_lt o1)).trans o1
   have q2:=(g3.cell (p:=⟨q,2,none⟩) (cell_lt o2)).trans o2
   clear g3
   refine hK _ _ ⟨q0,q1,q2⟩ ?_
   clear hK K
   refine wpAnyH_one (i:=9) (by kernel_rfl) rfl rfl (fun K hK=>?_)
   go_simp
   refine hK _ _ ⟨q0,q1,q2⟩ ?_
   clear hK K
   refine wpAnyH_done (by kernel_rfl) ?_ _
   have hz3:=HG3'.out.size
   have hB3:=boxed_of_gr HBx0.out HG3'.out
   cases hh:hd r0
   ·have HFt:Hid ((if hd r0=true then [] else [r0]) = [r0]):=by show _=_;rw [hh];rfl
    clear hh
    obtain ⟨i0,ji,jz0,jz1,jz2⟩:=info_parts infoRowC
    obtain ⟨va,vn',vc,rfl⟩:∃ a n c,v0 = .slice a n c:=by
     rcases HRv.out with ⟨e,_⟩ | ⟨b,o,c,e,_⟩
     ·exact ⟨_,_,_,e⟩
     ·exact ⟨_,_,_,e⟩
    have hrw3:RwC (fun b=>(C b/\b<w.heap.size)/\some b≠v.ownBlock) A3.drew (.slice va vn' vc) r0:=by
     have hB:RowKit.Below w.heap.size w A3.drew:=HBwA.out.trans (HG3'.out.drew.below.mono HBwA.out.size)
     exact ((HRv.out.bel hB)).to fun b hb _=>⟨hb,fun e=>by have:=(ownsV_block HOx.out b e.symm).1;omega⟩
    obtain ⟨g',c',W4,HPu,hap,k0,k1,k2,k3⟩:=rem_append HBx0.out HOx.out HAx.out HBel.out (Nat.le_refl _) (by omega) (fun b hb=>by omega) (by omega) hyl (HG3'.out.drew.below) hrw3 i0 ji jz0 jz1 jz2
    have m0:A3.drew.cell? ⟨W.heap.size,0,none⟩=some v:=hB3.cell
    have m1:A3.drew.cell? ⟨W.heap.size+3+2,0,none⟩=some (.slice va vn' vc):=(HG3'.out.cell (p:=⟨W.heap.size+3+2,0,none⟩) (cell_lt tk0)).trans tk0
    have m2:W4.cell? ⟨W.heap.size+3+2,0,none⟩=some (.slice va vn' vc):=(World.cell?_of_block (w:=A3) (a:=⟨W.heap.size+3+2,0,none⟩) (k3 (W.heap.size+3+2) (cell_lt m1) (fun e=>by have:=(ownsV_block HOx.out (W.heap.size+3+2) e.symm).1;omega))).trans m1
    have hne5:W.heap.size+3+2≠W.heap.size:=by omega
    have m4:(A3.alloc (.cells #[.slice va vn' vc] 41)).cell? ⟨W.heap.size,0,none⟩=some v:=cell_al (w:=A3) m0
    have m5:(A3.alloc (.cells #[.slice va vn' vc] 41)).drew.cell? ⟨W.heap.size,0,none⟩=some v:=m4
    gi_wp2
    have m3:(W4.setCell ⟨W.heap.size,0,none⟩ (.slice (some ⟨g',0,none⟩) (ys.length+1) c')).cell? ⟨W.heap.size+3+2,0,none⟩=some (.slice va vn' vc):=(World.cell?_of_block (w:=W4) (a:=⟨W.heap.size+3+2,0,none⟩) (Below.heap_setCell _ _ _ _ hne5)).trans m2
    refine wpIn_region_heldR (S:=fun w'=>w'.cell? ⟨W.heap.size+3+2,0,none⟩=some (.slice va vn' vc)) hmx (by kernel_rfl) ?_ ?_
    ·rintro ⟨a',w',h⟩
     exact absurd h.1 (by simp)
    refine wpAnyH_take (i:=1) (v := .slice (some ⟨W.heap.size+3+2,0,none⟩) 1 1) rfl (by kernel_rfl) (by kernel_rfl) (by kernel_rfl) (fun _ _ _ h=>h) (.inl ⟨by rfl,fun w' hS=>by have g0:w'.cell? ⟨W.heap.size+3+2,0,none⟩=some (.slice va vn' vc):=hS;go_simp⟩) m1 ?_
    refine wpAnyH_take (i:=2) (v := .pointer (some ⟨W.heap.size+3+2,0,none⟩)) rfl (by kernel_rfl) (by kernel_rfl) (by kernel_rfl) (fun _ _ _ h=>h) (.inl ⟨by rfl,fun w' hS=>by have g0:w'.cell? ⟨W.heap.size+3+2,0,none⟩=some (.slice va vn' vc):=hS;go_simp⟩) m1 ?_
    refine wpAnyH_take (i:=3) (v := .slice va vn' vc) rfl (by kernel_rfl) (by kernel_rfl) (by kernel_rfl) (fun _ _ _ h=>h) (.inl ⟨by rfl,fun w' hS=>by have g0:w'.cell? ⟨W.heap.size+3+2,0,none⟩=some (.slice va vn' vc):=hS;go_simp⟩) m1 ?_
    refine wpAnyH_two (i:=0) (j:=4) (by kernel_rfl) rfl rfl rfl rfl (fun K hK=>?_) (fun K hK=>?_)
    ·go_simp
     refine hK _ _ m1 ?_
     clear hK K
     refine wpAnyH_one (i:=4) (by kernel_rfl) rfl rfl (fun K hK=>?_)
     go_simp
     refine hK _ _ (cell_al m1) ?_
     clear hK K
     refine wpAnyH_one (i:=5) (by kernel_rfl) rfl rfl (fun K hK=>?_)
     refine wp_append_run hap (.tmp 35) (.tmp 39) (by rfl) (by rfl) (by rfl) (by rfl) ?_
     refine hK _ _ m2 ?_
     clear hK K
     refine wpAnyH_one (i:=6) (by kernel_rfl) rfl rfl (fun K hK=>?_)
     go_simp
     refine hK _ _ m3 ?_
     refine wpAnyH_done (by kernel_rfl) ?_ _
     clear hK K
     gi_wp2
     refine ⟨HPu.out.2,?_⟩
     show RemI _ _ _ _ _ _
     unfold RemI
     rw [HFx.out,HFt.out]
     exact HPu.out.1
    ·go_simp
     refine hK _ _ (cell_al m1) ?_
     clear hK K
     refine wpAnyH_one (i:=0) (by kernel_rfl) rfl rfl (fun K hK=>?_)
     go_simp
     refine hK _ _ (cell_al m1) ?_
     clear hK K
     refine wpAnyH_one (i:=5) (by kernel_rfl) rfl rfl (fun K hK=>?_)
     refine wp_append_run hap (.tmp 35) (.tmp 39) (by rfl) (by rfl) (by rfl) (by rfl) ?_
     refine hK _ _ m2 ?_
     clear hK K
     refine wpAnyH_one (i:=6) (by kernel_rfl) rfl rfl (fun K hK=>?_)
     go_simp
     refine hK _ _ m3 ?_
     refine wpAnyH_done (by kernel_rfl) ?_ _
     clear hK K
     gi_wp2
     refine ⟨HPu.out.2,?_⟩
     show RemI _ _ _ _ _ _
     unfold RemI
     rw [HFx.out,HFt.out]
     exact HPu.out.1
   ·have HFt:Hid ((if hd r0=true then [] else [r0]) = []):=by show _=_;rw [hh];rfl
    clear hh
    gi_wp2
    refine ⟨Fr.of_gr HG3'.out,?_⟩
    show RemI _ _ _ _ _ _
    unfold RemI
    rw [HFx.out,HFt.out,List.append_nil]
    exact ⟨⟨v,ys,hB3,ownsV_below HOx.out HG3'.out.below,HAx.out.mono fun a b h=>h.bel HG3'.out.below⟩,Nat.le_trans hszR (Nat.add_le_add_right HG3'.out.size 1),HBel.out.trans (HG3'.out.below.mono HBel.out.size)⟩
  ·obtain ⟨⟨v,ys,bx,ox,ax⟩,hszR,bel⟩:=hi
   have hE:(prods [xs]).flatMap (remF hd w)=t.rows.filter fun r=>!hd r:=by
    rw [prods_one,<- hdec]
    exact remF_all hd w xs
   rw [hE] at ax
   clear hE
   have HBx0:=hid bx
   have HOx:=hid ox
   have HAx:=hid ax
   have HBel:=hid bel
   have r0:=bx.cell
   have s0:=(bel.cell (p:=⟨w.heap.size,0,none⟩) (by show w.heap.size<_;omega)).trans c0
   have hzA:=bel.size
   have HDf:=hid hdf
   clear bx ox ax bel hdf
   obtain ⟨va,vn',vc,rfl⟩:∃ a n c,v = .slice a n c:=by
    rcases SlV.owned HOx.out with ⟨e,_⟩ | ⟨b,o,c,e,_⟩
    ·exact ⟨_,_,_,e⟩
    ·exact ⟨_,_,_,e⟩
   have HTb:Hid (B3 A tB (.string vn) (.slice ca cl cc) (.slice ra rl rc)):=HF.out.tab.same HBel.out.size (HBel.out.block tB HF.out.tab.lt)
   have HR5:=hid (HF.out.res.below HBel.out)
   obtain ⟨⟨p0,p1,p2,p3,p4⟩,g0,g1,g2,g3,g4⟩:=HR5.out.five
   obtain ⟨d0,d1,d2,d3,d4,d5,d6⟩:=HTb.out
   have hltA:W.heap.size+3<A.heap.size:=by
    have:=(Array.getElem?_eq_some_iff.1 HDf.out).1
    rw [hz2] at this
    exact this
   have hBwA:RowKit.Below w.heap.size w A:=bel0.trans (HBel.out.mono hzW)
   have HBwA:=hid hBwA
   have HTD:Hid (TbsC (fun b=>(C b/\b<w.heap.size)\/A.heap.size<=b) A T (.slice ta tn tc)):=(HT.out.to (D:=fun b=>(C b/\b<w.heap.size)\/A.heap.size<=b) (fun b h1 h2=>by rcases h1 with h1 | h1;exact .inl h1;omega)).bel hBwA
   have HVD:Hid (Tb1C (fun b=>(C b/\b<w.heap.size)\/A.heap.size<=b) A t ⟨vn,ca,cl,cc,ra,rl,rc⟩):=(HV.out.to (D:=fun b=>(C b/\b<w.heap.size)\/A.heap.size<=b) (fun b h1 h2=>by rcases h1 with h1 | h1;exact .inl h1;omega)).bel hBwA
   obtain ⟨Rf,hRf⟩:∃ Rf,Rf=t.rows.filter fun r=>!hd r:=⟨_,rfl⟩
   have HRf:=hid hRf
   have hRl:Rf.length<=t.rows.length:=by rw [hRf];exact List.length_filter_le _ _
   rw [<- hRf] at HAx
   clear hRf
   have hvl:vn'=Rf.length:=by
    have h1:=HOx.out
    have h2:=HAx.out.len
    rcases SlV.owned h1 with ⟨e,e'⟩ | ⟨b,o,c,e,_⟩
    ·injection e with _ e2 _;rw [e2,<- h2,e'];rfl
    ·injection e with _ e2 _;rw [e2,h2]
   have GAd:=hid (((Gr.refl A).alloc (.cells #[.slice va vn' vc] 32)).drew)
   have HLr:Hid (Lrs (fun b=>(C b/\b<w.heap.size)\/A.heap.size<=b) A (.slice va vn' vc) Rf):=⟨ys,SlV.owned HOx.out,HAx.out.mono fun a b h=>h.to fun _ h _ => .inl h.1⟩
   have hrlN:=HV.out.rowN
   have HHv:=hid (having_any (C:=fun b=>(C b/\b<w.heap.size)\/A.heap.size<=b) (b:=A.heap.size) (off:=0) (n:=1) (c:=1) (vs := [.slice va vn' vc]) (rss := [Rf]) (w:=(A.alloc (.cells #[.slice va vn' vc] 32)).drew) (fun j hj => .inr (by have:=GAd.out.size;omega)) (HVD.out.bel GAd.out.below) rfl rfl (by simp)
    (fun j hj=>by obtain rfl:j=0:=(by simpa using hj);simp)
    (fun j hj=>by obtain rfl:j=0:=(by simpa using hj);exact HLr.out.bel GAd.out.below)
    (by simp;omega) (by omega))
   have hrl:rl=t.rows.length:=HV.out.rl
   have x0:A.drew.cell? ⟨w.heap.size,0,none⟩=some (.slice ta tn tc):=s0
   have x1:A.drew.cell? ⟨tB,0,none⟩=some (.string vn):=d1
   have x2:A.drew.cell? ⟨tB,1,none⟩=some (.slice ca cl cc):=d2
   have x3:A.drew.cell? ⟨tB,2,none⟩=some (.slice ra rl rc):=d3
   have x4:A.drew.cell? ⟨W.heap.size,0,none⟩=some (.slice va vn' vc):=r0
   have HRlen:=hid hrl
   have HVl:=hid hvl
   have HRb:Hid (rl<=1000/\vn'<=rl):=⟨by omega,by omega⟩
   have hrb1:=HRb.out.1
   have hrb2:=HRb.out.2
   clear hrl hvl hRl
   gi_wp2
   refine wpIn_wide.2 ?_
   have z0:(A.alloc (.cells #[.slice va vn' vc] 32)).drew.cell? ⟨w.heap.size,0,none⟩=some (.slice ta tn tc):=cell_al (w:=A) s0
   have z1:(A.alloc (.cells #[.slice va vn' vc] 32)).drew.cell? ⟨tB,0,none⟩=some (.string vn):=cell_al (w:=A) d1
   have z2:(A.alloc (.cells #[.slice va vn' vc] 32)).drew.cell? ⟨tB,1,none⟩=some (.slice ca cl cc):=cell_al (w:=A) d2
   have z3:(A.alloc (.cells #[.slice va vn' vc] 32)).drew.cell? ⟨tB,2,none⟩=some (.slice ra rl rc):=cell_al (w:=A) d3
   have z4:(A.alloc (.cells #[.slice va vn' vc] 32)).drew.cell? ⟨W.heap.size,0,none⟩=some (.slice va vn' vc):=cell_al (w:=A) r0
   have j1:w.heap.size≠w.heap.size+2:=by omega
   have j2:tB≠w.heap.size+2:=by omega
   have j3:W.heap.size≠w.heap.size+2:=by omega
   go_region_held3 (fun w'=>w'.cell? ⟨w.heap.size,0,none⟩=some (.slice ta tn tc)/\w'.cell? ⟨tB,0,none⟩=some (.string vn)/\w'.cell? ⟨tB,1,none⟩=some (.slice ca cl cc)/\w'.cell? ⟨tB,2,none⟩=some (.slice ra rl rc)/\w'.cell? ⟨W.heap.size,0,none⟩=some (.slice va vn' vc))
    (first | (with_reducible exact ⟨x0,x1,x2,x3,x4⟩) | (with_reducible exact ⟨s0,d1,d2,d3,r0⟩) | (with_reducible exact ⟨z0,z1,z2,z3,z4⟩) | (with_reducible exact ⟨a0,a1,a2,a3,a4⟩) | (with_reducible exact ⟨b0',b1',b2',b3',b4'⟩) | (with_reducible exact ⟨put5_cell j1 b0',put5_cell j2 b1',put5_cell j2 b2',put5_cell j2 b3',put5_cell j3 b4'⟩) | go_keep)
    (first | (go_at_call 148;refine HHv.out.mono ?_;rintro e1 B1 ⟨v1,rfl,⟨V1,rfl,hV1⟩,hb1⟩;have a0:=(hb1.cell (p:=⟨w.heap.size,0,none⟩) (cell_lt z0)).trans z0;have a1:=(hb1.cell (p:=⟨tB,0,none⟩) (cell_lt z1)).trans z1;have a2:=(hb1.cell (p:=⟨tB,1,none⟩) (cell_lt z1)).trans z2;have a3:=(hb1.cell (p:=⟨tB,2,none⟩) (cell_lt z1)).trans z3;have a4:=(hb1.cell (p:=⟨W.heap.size,0,none⟩) (cell_lt z4)).trans z4;have HBA1:Hid (RowKit.Below A.heap.size A B1):=(GAd.out.below.trans (hb1.mono GAd.out.size));have HWx:=hid (rem_with HTD.out hV1 HBA1.out hTl);clear hb1 hV1) | (have _hx:=HWx;go_at_call 86;refine HWx.out.mono ?_;rintro e2 B2 ⟨v2,rfl,hT2,hb2⟩;have b0':=(hb2.cell (p:=⟨w.heap.size,0,none⟩) (cell_lt a0)).trans a0;have b1':=(hb2.cell (p:=⟨tB,0,none⟩) (cell_lt a1)).trans a1;have b2':=(hb2.cell (p:=⟨tB,1,none⟩) (cell_lt a1)).trans a2;have b3':=(hb2.cell (p:=⟨tB,2,none⟩) (cell_lt a1)).trans a3;have b4':=(hb2.cell (p:=⟨W.heap.size,0,none⟩) (cell_lt a4)).trans a4;have HBA2:Hid (RowKit.Below A.heap.size A B2):=HBA1.out.trans (hb2.mono HBA1.out.size);have HT2:=hid hT2;obtain ⟨va2,vn2,vc2,rfl⟩:=hT2.sl;have HRB:=hid (HR5.out.below HBA2.out);obtain ⟨⟨y0,y1,y2,y3,y4⟩,f0,f1,f2,f3,f4⟩:=HRB.out.five;clear hb2 hT2))
   have hwr:IntKind.i64.wrap ((rl:Int) - (vn' : Int))=((rl - vn' : Nat):Int):=by
    rw [show ((rl:Int) - (vn' : Int))=((rl - vn' : Nat):Int) by omega]
    exact wrap_small (by omega)
   have hDf:(((((B2.setCell ⟨w.heap.size+2,0,none⟩ (.int .i64 0)).setCell ⟨w.heap.size+2,1,none⟩ (.int .i64 0)).setCell ⟨w.heap.size+2,2,none⟩ (.int .i64 0)).setCell ⟨w.heap.size+2,3,none⟩ (.slice none 0 0)).setCell ⟨w.heap.size+2,4,none⟩ (.int .i64 ((rl - vn' : Nat):Int))).heap[W.heap.size+3]?=some (.deferred (some [])):=(heap_set5 (show W.heap.size+3≠w.heap.size+2 by omega) _ _ _ _ _).trans ((HBA2.out.block _ hltA).trans (by have:=HDf.out;rw [hz2] at this;exact this))
   rw [hwr]
   have HDf2:=hid hDf
   clear hDf
   gi_wp2
   have hDf:=HDf2.out
   obtain ⟨k0,k1,k2,k3,k4⟩:=set5_cells (d:=W.heap.size+3) (o := .deferred none) HRB.out (by omega) (.int .i64 0) (.int .i64 0) (.int .i64 0) (.slice none 0 0) (.int .i64 ((rl - vn' : Nat):Int))
   refine ⟨by simp, .inl ⟨_,_,rfl,run_takeDeferred hDf,?_⟩⟩
   refine ⟨.tuple #[.slice va2 vn2 vc2,enRes 0 0 0 (.slice none 0 0) ((rl - vn' : Nat):Int)],by simp [results,Tryz.f90,go_sem,k0,k1,k2,k3,k4],_,rfl,⟨.slice va2 vn2 vc2,?_,?_⟩,?_⟩
   ·rw [HRlen.out,HVl.out,<- HRf.out]
   ·rw [<- HRf.out]
    have hT3:TbsC (fun b=>(C b/\b<w.heap.size)\/A.heap.size<=b) B2 (Sp.withT { t with rows:=Rf } T) (.slice va2 vn2 vc2):=by
     have:=HT2.out
     simpa using this
    refine (hT3.blk (by simp [World.setCell]) fun b hb _=>?_).to fun b hb _=>?_
    ·exact (World.putObj_heap_other (by rcases hb with hb | hb <;> omega)).trans (heap_set5 (show b≠w.heap.size+2 by rcases hb with hb | hb <;> omega) _ _ _ _ _)
    ·rcases hb with hb | hb
     ·exact hb.1
     ·exact HC.out b (by omega)
   ·exact (below_set5 (HBwA.out.trans (HBA2.out.mono HBwA.out.size)) (by omega) _ _ _ _ _).trans (belowK_b (w:=w) (Nat.le_refl _) _ (W.heap.size+3) _ _ (by omega) hDf rfl rfl)
end Go.Proofs.YtgnncnhkgmhngaaGreatDoor
