import Derived.Test.YtgnncnhkgmhngaaGreatDoorJ07
import Derived.Test.YtgnncnhkgmhngaaGreatDoorJ08
import Derived.Deep.RegionHeld3
set_option maxHeartbeats 4000000
namespace Go.Proofs.YtgnncnhkgmhngaaGreatDoor
open Sp
open Go.RowKit Go.Sort
structure Fc (cb lo hi:Nat) (w w' : World):Prop where
 os:w'.os=w.os
 tape:w'.tape=w.tape
 output:w'.output=w.output
 size:w.heap.size<=w'.heap.size
 block:∀ k,k<w.heap.size->k≠cb->¬ (lo<=k/\k<hi)->w'.heap[k]?=w.heap[k]?
 slc:∀ k,k<w.heap.size->k≠cb->(∃ a n c,w.cell? ⟨k,0,none⟩=some (.slice a n c))->w'.heap[k]?=w.heap[k]?
theorem Fc.refl (cb lo hi:Nat) (w:World):Fc cb lo hi w w:=⟨rfl,rfl,rfl,aF _,λ_ _ _ _=>rfl,λ_ _ _ _=>rfl⟩
theorem Fc.trans {cb lo hi:Nat} {x y z:World} (h:Fc cb lo hi x y) (k:Fc cb lo hi y z):Fc cb lo hi x z:=
 ⟨k.os.trans h.os,k.tape.trans h.tape,k.output.trans h.output,cE h.size k.size,λi hi hb hn=>(k.block i (bY hi h.size) hb hn).trans (h.block i hi hb hn),
  λi hi hb hs=>(k.slc i (bY hi h.size) hb (by obtain ⟨a,n,c,e⟩:=hs;exact ⟨a,n,c,(fB (w:=x) (a:=⟨i,0,none⟩) (h.slc i hi hb ⟨a,n,c,e⟩)).trans e⟩)).trans (h.slc i hi hb hs)⟩
theorem Fc.of {cb lo hi:Nat} {w w' : World} (h:Kept cb w w'):Fc cb lo hi w w':=⟨h.os,h.tape,h.output,h.size,λk hk hb _=>h.block k hk hb,λk hk hb _=>h.block k hk hb⟩
theorem Fc.gr {cb lo hi:Nat} {w w' : World} (g:Gr w w'):Fc cb lo hi w w':=Fc.of (Kept.below g.below)
theorem Fc.wide {cb lo hi lo' hi' : Nat} {w w' : World} (h:Fc cb lo hi w w') (a:lo'<=lo) (b:hi<=hi'):Fc cb lo' hi' w w':=⟨h.os,h.tape,h.output,h.size,λk hk hb hn=>h.block k hk hb (by omega),h.slc⟩
theorem Fc.cell {cb lo hi:Nat} {w w' : World} (h:Fc cb lo hi w w') {p:Addr} (hp:p.block<w.heap.size) (hb:p.block≠cb) (hn:¬ (lo<=p.block/\p.block<hi)):w'.cell? p=w.cell? p:=fB (w:=w) (h.block p.block hp hb hn)
theorem Fc.frozen {cb lo hi:Nat} {w w' : World} (h:Fc cb lo hi w w') {p:Addr} (hp:p.block<w.heap.size) (hb:p.block≠cb) (hn:¬ (lo<=p.block/\p.block<hi)):w'.frozen? p=w.frozen? p:=wF (w:=w) (h.block p.block hp hb hn)
theorem Fc.alloc {cb lo hi:Nat} {a w:World} (h:Fc cb lo hi a w) (o:Obj):Fc cb lo hi a (w.alloc o):=h.trans (Fc.gr ((Gr.refl w).alloc o))
theorem Fc.drewN {cb lo hi:Nat} {a w:World} (h:Fc cb lo hi a w) (n:Nat):Fc cb lo hi a (w.drewN n):=h.trans (Fc.gr ((Gr.refl w).drewN n))
theorem Kept.gr {b:Nat} {w w' : World} (g:Gr w w'):Kept b w w':=Kept.below g.below
structure CB (cb:Nat) (tv:Value) (c:CS) (w:World):Prop where
 lt:cb<w.heap.size
 c0:w.cell? ⟨cb,0,none⟩=some tv
 c1:w.cell? ⟨cb,1,none⟩=some (.int .i64 (c.err:Nat))
 c2:w.cell? ⟨cb,2,none⟩=some (.int .i64 (c.at_:Nat))
 c3:w.cell? ⟨cb,3,none⟩=some (.bool c.much)
 fz:∀ o,w.frozen? ⟨cb,o,none⟩=false
theorem CB.same {cb:Nat} {tv:Value} {c:CS} {w w' : World} (h:CB cb tv c w) (hs:w.heap.size<=w'.heap.size) (e:w'.heap[cb]?=w.heap[cb]?):CB cb tv c w':=by
 have hc:∀ o,w'.cell? ⟨cb,o,none⟩=w.cell? ⟨cb,o,none⟩:=λo=>fB (w:=w) (a:=⟨cb,o,none⟩) e
 exact ⟨bY h.lt hs,(hc 0).trans h.c0,(hc 1).trans h.c1,(hc 2).trans h.c2,(hc 3).trans h.c3,λo=>(wF (w:=w) (a:=⟨cb,o,none⟩) e).trans (h.fz o)⟩
theorem CB.gr {cb:Nat} {tv:Value} {c:CS} {w w' : World} (h:CB cb tv c w) (g:Gr w w'):CB cb tv c w':=h.same g.size (g.below.block cb h.lt)
theorem CB.alloc {cb:Nat} {tv:Value} {c:CS} {w:World} (h:CB cb tv c w) (o:Obj):CB cb tv c (w.alloc o):=h.gr ((Gr.refl w).alloc o)
theorem CB.drewN {cb:Nat} {tv:Value} {c:CS} {w:World} (h:CB cb tv c w) (n:Nat):CB cb tv c (w.drewN n):=h.gr ((Gr.refl w).drewN n)
theorem CB.put {cb:Nat} {tv:Value} {c:CS} {w:World} (h:CB cb tv c w) (q o:Nat) (hq:q≠cb) (u:Value):CB cb tv c (w.setCell ⟨q,o,none⟩ u):=h.same (by simp [World.setCell]) (dQ _ _ _ _ (Ne.symm hq))
theorem cU {cb:Nat} {tv:Value} {c:CS} {w:World} (h:CB cb tv c w) (x a:Nat) :
  Calls Tryz.prog 177 #[.pointer (some ⟨cb,0,none⟩), .int .i64 (x:Nat), .int .i64 (a:Nat)] w λr w'=>r = .returned (.tuple #[])/\CB cb tv (c.fail x a) w'/\Kept cb w w':=by
 have HH:=hid h
 obtain ⟨lt,c0,c1,c2,c3,fz⟩:=h
 have f1:=fz 1
 have f2:=fz 2
 have FZ:=hid fz
 clear fz
 obtain ⟨ce,ca,cm⟩:=c
 simp only [] at c1 c2 c3
 by_cases hc:ce=0
 ·subst hc
  have c1' : w.cell? ⟨cb,1,none⟩=some (.int .i64 0):=c1
  clear c1
  go_enter Tryz.func177,Tryz.ntmps177
  go_wp2
  go_end0
  refine ⟨rfl,⟨by simpa [World.setCell] using lt,by go_simp,?_,?_,?_,λo=>by have:=FZ.out o;go_simp⟩,((Kept.refl cb w).setCell 1 _).setCell 2 _⟩
  all_goals simp only [CS.fail]
  all_goals go_simp
  all_goals rfl
 ·have hn:((ce:Int) != 0)=true:=by simp;omega
  have HC:Hid ((⟨ce,ca,cm⟩:CS).fail x a=⟨ce,ca,cm⟩):=by show _=_;simp [CS.fail,hc]
  go_enter Tryz.func177,Tryz.ntmps177
  go_wp2
  go_end0
  exact ⟨rfl,by rw [HC.out];exact HH.out,Kept.refl cb w⟩
structure Hi (w:World) (b off:Nat) (l:List Int):Prop where
 lb:b<w.heap.size
 n:∀ j,(h:j<l.length)->w.cell? ⟨b,off+j,none⟩=some (.int .i64 l[j])
theorem Hi.gr {w w' : World} {b off:Nat} {l:List Int} (h:Hi w b off l) (g:Gr w w'):Hi w' b off l:=
 ⟨bY h.lb g.size,λj hj=>(g.cell (p:=⟨b,_,none⟩) h.lb).trans (h.n j hj)⟩
theorem Hi.kept {cb:Nat} {w w' : World} {b off:Nat} {l:List Int} (h:Hi w b off l) (k:Kept cb w w') (hb:b≠cb):Hi w' b off l:=
 ⟨bY h.lb k.size,λj hj=>(k.cell (p:=⟨b,_,none⟩) h.lb hb).trans (h.n j hj)⟩
def Si (w:World) (v:Value) (l:List Int):Prop:=(v = .slice none 0 0/\l = [])\/∃ b off c,v = .slice (some ⟨b,off,none⟩) l.length c/\Hi w b off l
theorem Si.gr {w w' : World} {v:Value} {l:List Int} (h:Si w v l) (g:Gr w w'):Si w' v l:=by
 rcases h with h | ⟨b,off,c,e,h⟩
 ·exact .inl h
 ·exact .inr ⟨b,off,c,e,h.gr g⟩
theorem Iy (f t:Int) (l:List Int) (h1:f≠0) (h2:t≠0) (h3:t≠f):lM f (t::l)=(0,false):=by
 simp [lM,h1,h2,h3]
theorem Iz (f t:Int) (l:List Int) (h1:f≠0) (h2:t=0\/t=f):lM f (t::l)=lM f l:=by
 rcases h2 with h | h <;> simp [lM,h1,h]
theorem IC (t:Int) (l:List Int):lM 0 (t::l)=lM t l:=by simp [lM]
theorem ID (b off n c:Nat) (l:List Int) (w:World) (hz:n=l.length) (hbig:n<=100000) (hl:Hi w b off l) :
  Calls Tryz.prog 220 #[.slice (some ⟨b,off,none⟩) n c] w λe w'=>e = .returned (.tuple #[.int .i64 (fit l).1, .bool (fit l).2])/\Gr w w':=by
 have HV:=hid hl
 have HZ:=hid hz
 clear hl hz
 have HD:Hid (fit l=lM 0 (l.drop 0)):=rfl
 generalize fit l=dv at *
 go_enter Tryz.func220,Tryz.ntmps220
 go_wp2
 go_loopw [4,9] (λf i wr=>∃ (k:Nat) (q:Int),k<=n/\i = .int .i64 k/\f = .int .i64 q/\Hid (Gr w wr)/\Hid (dv=lM q (l.drop k))) (λ_ i _=>n - (intOf i).toNat)
 case atStart=>exact ⟨0,0,fO _,rfl,rfl,Gr.refl _,HD⟩
 case round=>
  obtain ⟨k,q,hk,rfl,rfl,HG,HR⟩:=hrel
  by_cases hlt:k<n
  ·have hkz:k<l.length:=by have:=HZ.out;omega
   have fQ:=HV.out.gr HG.out
   have c0:=fQ.n k hkz
   clear fQ
   have HS:Hid (dv=lM q (l[k]::l.drop (k+1))):=by show _=_;rw [HR.out,nS hkz]
   generalize l[k]=t at c0 HS
   clear HR
   by_cases h1:q=0
   ·subst h1
    have HN:Hid (dv=lM t (l.drop (k+1))):=by show _=_;rw [HS.out,IC]
    clear HS
    go_wp2_with fail
    go_roundw
    case rel=>exact ⟨k+1,t,by omega,by go_num,rfl,HG,HN⟩
    case measure=>simp [intOf];omega
   ·have e1:(q == 0)=false:=by simpa using h1
    by_cases h2:t=0
    ·subst h2
     have HN:Hid (dv=lM q (l.drop (k+1))):=by show _=_;rw [HS.out,Iz _ _ _ h1 (.inl rfl)]
     clear HS
     go_wp2_with fail
     go_roundw
     case rel=>exact ⟨k+1,q,by omega,by go_num,rfl,HG,HN⟩
     case measure=>simp [intOf];omega
    ·have e2:(t != 0)=true:=by simpa using h2
     by_cases h3:t=q
     ·subst h3
      have HN:Hid (dv=lM t (l.drop (k+1))):=by show _=_;rw [HS.out,Iz _ _ _ h1 (.inr rfl)]
      clear HS
      go_wp2_with fail
      go_roundw
      case rel=>exact ⟨k+1,t,by omega,by go_num,rfl,HG,HN⟩
      case measure=>simp [intOf];omega
     ·have e3:(t != q)=true:=by simpa using h3
      have HN:Hid (dv=(0,false)):=by show _=_;rw [HS.out,Iy _ _ _ h1 h2 h3]
      clear HS
      go_wp2_with fail
      exact cL (v := .tuple #[.int .i64 0, .bool false]) (by simp [results,Tryz.results220,go_sem, *]) rfl ⟨by rw [HN.out],HG.out⟩
  ·have HF:Hid (dv=(q,true)):=by show _=_;rw [HR.out,Aw (by have:=HZ.out;omega)];rfl
   go_wp2_with fail
   exact cL (v := .tuple #[.int .i64 q, .bool true]) (by simp [results,Tryz.results220,go_sem, *]) rfl ⟨by rw [HF.out],HG.out⟩
theorem IE (w:World) :
  Calls Tryz.prog 220 #[.slice none 0 0] w λe w'=>e = .returned (.tuple #[.int .i64 (fit []).1, .bool (fit []).2])/\Gr w w':=by
 go_enter Tryz.func220,Tryz.ntmps220
 go_wp2
 go_loopw [4,9] (λf i wr=>i = .int .i64 0/\f = .int .i64 0/\wr=w) (λ_ _ _=>0)
 case atStart=>exact ⟨rfl,rfl,rfl⟩
 case round=>
  obtain ⟨rfl,rfl,rfl⟩:=hrel
  go_wp2_with fail
  exact cL (v := .tuple #[.int .i64 0, .bool true]) (by simp [results,Tryz.results220,go_sem, *]) rfl ⟨rfl,Gr.refl _⟩
theorem yT {w:World} {v:Value} {l:List Int} (h:Si w v l) (hb:l.length<=100000) :
  Calls Tryz.prog 220 #[v] w λe w'=>e = .returned (.tuple #[.int .i64 (fit l).1, .bool (fit l).2])/\Gr w w':=by
 rcases h with ⟨rfl,rfl⟩ | ⟨b,off,c,rfl,h⟩
 ·exact IE w
 ·exact ID b off _ c l w rfl hb h
theorem Si.kept {cb:Nat} {w w' : World} {v:Value} {l:List Int} (h:Si w v l) (k:Kept cb w w') (hb:∀ b off n c,v = .slice (some ⟨b,off,none⟩) n c->b≠cb):Si w' v l:=by
 rcases h with h | ⟨b,off,c,e,h⟩
 ·exact .inl h
 ·exact .inr ⟨b,off,c,e,h.kept k (hb _ _ _ _ e)⟩
theorem jF {cb:Nat} {tv:Value} {c:CS} {w:World} (h:CB cb tv c w) (a:Nat) {v:Value} {l:List Int} (hl:Si w v l) (hbig:l.length<=100000) :
  Calls Tryz.prog 181 #[.pointer (some ⟨cb,0,none⟩), .int .i64 (a:Nat),v] w λr w'=>r = .returned (.int .i64 (c.fit a l).1)/\CB cb tv (c.fit a l).2 w'/\Kept cb w w':=by
 have HH:=hid h
 have HF:Hid (Calls Tryz.prog 220 #[v] w λe w'=>e = .returned (.tuple #[.int .i64 (fit l).1, .bool (fit l).2])/\Gr w w'):=yT hl hbig
 obtain ⟨sa,sn,sc,rfl⟩:∃ sa sn sc,v = .slice sa sn sc:=by
  rcases hl with ⟨e,_⟩ | ⟨b,off,c,e,_⟩ <;> exact ⟨_,_,_,e⟩
 clear h hl
 have HV:Hid ((c.fit a l).1=(fit l).1/\(c.fit a l).2=if (fit l).2 then c else c.fail 5 a):=⟨rfl,rfl⟩
 generalize (c.fit a l).1=r1 at *
 generalize (c.fit a l).2=r2 at *
 generalize (fit l).1=q1 at *
 generalize (fit l).2=q2 at *
 go_enter Tryz.func181,Tryz.ntmps181
 go_wp2_with fail
 refine Calls.mono HF.out ?_
 rintro e w1 ⟨rfl,g1⟩
 have H1:Hid (CB cb tv c w1):=HH.out.gr g1
 have K1:Hid (Kept cb w w1):=Kept.gr g1
 clear g1 HF
 cases q2
 ·go_wp2_with fail
  refine (cU H1.out 5 a).mono ?_
  rintro e w2 ⟨rfl,h2,k2⟩
  have H2:Hid (CB cb tv (c.fail 5 a) w2/\Kept cb w w2):=⟨h2,K1.out.trans k2⟩
  clear h2 k2
  go_wp2_with fail
  go_ret
  exact ⟨by rw [HV.out.1];rfl,by rw [HV.out.2];exact H2.out.1,H2.out.2⟩
 ·go_wp2_with fail
  go_ret
  exact ⟨by rw [HV.out.1];rfl,by rw [HV.out.2];exact H1.out,K1.out⟩
theorem dJ (l:Sp.Bs):(bz l).toList=l:=by simp [bz,pD]
structure nZ (k:Nat) (w:World) (t:Sp.Tb) (tv:TV):Prop where
 name:tv.name=bz t.name
 cols:(t.cols = []/\tv.ca=none/\tv.cl=0/\tv.cc=0)\/∃ b off,tv.ca=some ⟨b,off,none⟩/\tv.cl=t.cols.length/\b<k/\oD w b off (t.cols.map λx=>(bz x.1,x.2))
 iC:t.cols.length<=50
 rl:tv.rl=t.rows.length
 rows:(t.rows = []/\tv.ra=none/\tv.rc=0)\/∃ rb ro,tv.ra=some ⟨rb,ro,none⟩/\ER k w rb ro t.rows
 Dg:t.rows.length<=1000
def Low (k:Nat) (w w' : World):Prop:=w.heap.size<=w'.heap.size/\∀ j,j<k->j<w.heap.size->w'.heap[j]?=w.heap[j]?
theorem Low.ET {k cb lo hi:Nat} {w w' : World} (h:Fc cb lo hi w w') (h1:k<=lo) (h2:k<=cb):Low k w w':=⟨h.size,λj hj hs=>h.block j hs (by omega) (by omega)⟩
theorem Low.kE {k cb:Nat} {w w' : World} (h:Kept cb w w') (h2:k<=cb):Low k w w':=⟨h.size,λj hj hs=>h.block j hs (by omega)⟩
theorem Low.dZ {k:Nat} {w w' : World} (h:Gr w w'):Low k w w':=⟨h.size,λj _hj hs=>h.below.block j hs⟩
theorem Hv.low {k:Nat} {w w' : World} {b off:Nat} {vs:List Sv.Val} (h:Hv w b off vs) (g:Low k w w') (hb:b<k):Hv w' b off vs:=by
 have e:∀ o,w'.cell? ⟨b,o,none⟩=w.cell? ⟨b,o,none⟩:=λo=>fB (w:=w) (a:=⟨b,o,none⟩) (g.2 b hb h.lb)
 exact ⟨bY h.lb g.1,λj hj=>(e _).trans (h.k j hj),λj hj=>(e _).trans (h.n j hj),λj hj=>(e _).trans (h.s j hj)⟩
theorem Rw.low {k:Nat} {w w' : World} {v:Value} {vs:List Sv.Val} (h:Rw k w v vs) (g:Low k w w'):Rw k w' v vs:=by
 rcases h with h | ⟨b,off,c,e,hb,hv⟩
 ·exact .inl h
 ·exact .inr ⟨b,off,c,e,hb,hv.low g hb⟩
theorem oD.low {k:Nat} {w w' : World} {b off:Nat} {cs:List (ByteArray×Int)} (h:oD w b off cs) (g:Low k w w') (hb:b<k):oD w' b off cs:=by
 have e:∀ o,w'.cell? ⟨b,o,none⟩=w.cell? ⟨b,o,none⟩:=λo=>fB (w:=w) (a:=⟨b,o,none⟩) (g.2 b hb h.lb)
 exact ⟨bY h.lb g.1,λj hj=>(e _).trans (h.n j hj),λj hj=>(e _).trans (h.t j hj)⟩
theorem ER.low {k:Nat} {w w' : World} {rb ro:Nat} {rs:List (List Sv.Val)} (hk:k<=w.heap.size) (h:ER k w rb ro rs) (g:Low k w w'):ER k w' rb ro rs:=
 ⟨h.lb,λi hi=>by
  obtain ⟨v,h1,h2⟩:=h.at_ i hi
  exact ⟨v,(fB (w:=w) (a:=⟨rb,ro+i,none⟩) (g.2 rb h.lb (by have:=h.lb;omega))).trans h1,h2.low g⟩⟩
theorem nZ.low {k:Nat} {w w' : World} {t:Sp.Tb} {tv:TV} (hk:k<=w.heap.size) (h:nZ k w t tv) (g:Low k w w'):nZ k w' t tv:=by
 refine ⟨h.name,?_,h.iC,h.rl,?_,h.Dg⟩
 ·rcases h.cols with h | ⟨b,off,h1,h2,h3,h4⟩
  ·exact .inl h
  ·exact .inr ⟨b,off,h1,h2,h3,h4.low g h3⟩
 ·rcases h.rows with h | ⟨b,off,h1,h2⟩
  ·exact .inl h
  ·exact .inr ⟨b,off,h1,h2.low hk g⟩
theorem nZ.no (k:Nat) (w:World):nZ k w iR noT:=⟨rfl, .inl ⟨rfl,rfl,rfl,rfl⟩,by decide,rfl, .inl ⟨rfl,rfl,rfl⟩,by decide⟩
def CR (k:Nat) (w:World):List Sp.Tb->List TV->Prop
 | [], []=>True
 | t::T,v::V=>nZ k w t v/\CR k w T V
 | [],_::_=>False
 | _::_, []=>False
theorem CR.len {k:Nat} {w:World} : ∀ {T:List Sp.Tb} {V:List TV},CR k w T V->V.length=T.length
 | [], [],_=>rfl
 | _::_,_::_,h=>by simp [CR.len h.2]
 | [],_::_,h=>h.elim
 | _::_, [],h=>h.elim
theorem CR.low {k:Nat} {w w' : World} (hk:k<=w.heap.size) (g:Low k w w'):∀ {T:List Sp.Tb} {V:List TV},CR k w T V->CR k w' T V
 | [], [],_=>trivial
 | _::_,_::_,h=>⟨h.1.low hk g,CR.low hk g h.2⟩
 | [],_::_,h=>h.elim
 | _::_, [],h=>h.elim
theorem CR.find {k:Nat} {w:World} (x:Sp.Bs):∀ {T:List Sp.Tb} {V:List TV},CR k w T V->(aG x T=none/\gI x V=none)\/∃ t tv,aG x T=some t/\gI x V=some tv/\nZ k w t tv
 | [], [],_ => .inl ⟨rfl,rfl⟩
 | t::T,v::V,h=>by
  have e:v.name.toList=t.name:=by rw [h.1.name,dJ]
  simp only [aG,gI,e]
  cases hx:(t.name == x)
  ·simpa using CR.find x h.2
  ·exact .inr ⟨t,v,by simp,by simp,h.1⟩
 | [],_::_,h=>h.elim
 | _::_, [],h=>h.elim
def sF (k:Nat) (w:World) (T:List Sp.Tb) (v:Value):Prop:=
 T.length<=1000/\k<=w.heap.size/\((T = []/\v = .slice none 0 0)\/∃ b off c V,v = .slice (some ⟨b,off,none⟩) T.length c/\b<k/\Lt w b off V/\CR k w T V)
theorem Lt.low {k:Nat} {w w' : World} {b off:Nat} {ts:List TV} (h:Lt w b off ts) (g:Low k w w') (hb:b<k):Lt w' b off ts:=by
 have e:∀ o,w'.cell? ⟨b,o,none⟩=w.cell? ⟨b,o,none⟩:=λo=>fB (w:=w) (a:=⟨b,o,none⟩) (g.2 b hb h.lb)
 exact ⟨bY h.lb g.1,λj hj=>(e _).trans (h.n j hj),λj hj=>(e _).trans (h.c j hj),λj hj=>(e _).trans (h.r j hj)⟩
theorem sF.low {k:Nat} {w w' : World} {T:List Sp.Tb} {v:Value} (h:sF k w T v) (g:Low k w w'):sF k w' T v:=by
 refine ⟨h.1,cE h.2.1 g.1,?_⟩
 rcases h.2.2 with e | ⟨b,off,c,V,h1,h2,h3,h4⟩
 ·exact .inl e
 ·exact .inr ⟨b,off,c,V,h1,h2,h3.low g h2,h4.low h.2.1 g⟩
theorem wI {k:Nat} {w:World} {T:List Sp.Tb} {v:Value} (h:sF k w T v) (x:Sp.Bs) :
  (aG x T=none/\∀ w1,Gr w w1->Calls Tryz.prog 146 #[v, .string (bz x)] w1 λe w'=>e = .returned (.tuple #[sE noT, .bool false])/\Gr w1 w')\/
  ∃ t tv,aG x T=some t/\nZ k w t tv/\∀ w1,Gr w w1->Calls Tryz.prog 146 #[v, .string (bz x)] w1 λe w'=>e = .returned (.tuple #[sE tv, .bool true])/\Gr w1 w':=by
 rcases h.2.2 with ⟨rfl,rfl⟩ | ⟨b,off,c,V,rfl,h2,h3,h4⟩
 ·exact .inl ⟨rfl,λw1 _=>AR _ w1⟩
 ·have F:=λw1 (g:Gr w w1)=>tC b off T.length c V (bz x) w1 h4.len.symm (by have:=h.1;omega) (h3.gr g)
  rw [dJ] at F
  rcases h4.find x with ⟨e1,e2⟩ | ⟨t,tv,e1,e2,e3⟩
  ·rw [e2] at F;exact .inl ⟨e1,F⟩
  ·rw [e2] at F;exact .inr ⟨t,tv,e1,e3,F⟩
theorem B3.same {w w' : World} {b:Nat} {x y z:Value} (h:B3 w b x y z) (hs:w.heap.size<=w'.heap.size) (e:w'.heap[b]?=w.heap[b]?):B3 w' b x y z:=by
 have hc:∀ o,w'.cell? ⟨b,o,none⟩=w.cell? ⟨b,o,none⟩:=λo=>fB (w:=w) (a:=⟨b,o,none⟩) e
 have hf:∀ o,w'.frozen? ⟨b,o,none⟩=w.frozen? ⟨b,o,none⟩:=λo=>wF (w:=w) (a:=⟨b,o,none⟩) e
 exact ⟨bY h.lt hs,(hc 0).trans h.c0,(hc 1).trans h.c1,(hc 2).trans h.c2,(hf 0).trans h.f0,(hf 1).trans h.f1,(hf 2).trans h.f2⟩
theorem B3.wJ {cb:Nat} {w w' : World} {b:Nat} {x y z:Value} (h:B3 w b x y z) (k:Kept cb w w') (hb:b≠cb):B3 w' b x y z:=h.same k.size (k.block b h.lt hb)
theorem B3.IF {w:World} {b q:Nat} {x y z:Value} (h:B3 w b x y z) (hq:b≠q) (u v t:Value):B3 (((w.setCell ⟨q,0,none⟩ u).setCell ⟨q,1,none⟩ v).setCell ⟨q,2,none⟩ t) b x y z:=
 h.same (by simp [World.setCell]) (((dQ _ _ _ _ hq).trans (dQ _ _ _ _ hq)).trans (dQ _ _ _ _ hq))
theorem B3.fill {w:World} {b:Nat} {x y z:Value} (h:B3 w b x y z) (x' y' z' : Value):B3 (((w.setCell ⟨b,0,none⟩ x').setCell ⟨b,1,none⟩ y').setCell ⟨b,2,none⟩ z') b x' y' z':=by
 obtain ⟨lt,c0,c1,c2,f0,f1,f2⟩:=h
 refine ⟨by simpa [World.setCell] using lt,?_,?_,?_,?_,?_,?_⟩ <;> go_simp
theorem kF {cb k:Nat} {tv:Value} {c:CS} {T:List Sp.Tb} {w:World} (h:CB cb tv c w) (ht:sF k w T tv) (x:Nm) :
  Calls Tryz.prog 136 #[.pointer (some ⟨cb,0,none⟩),O6 x] w λr w'=>∃ v,r = .returned (sE v)/\nZ k w' (aR T x c).1 v/\CB cb tv (aR T x c).2 w'/\Kept cb w w':=by
 obtain ⟨xw,xa⟩:=x
 have Ve:Hid (k<=w.heap.size):=ht.2.1
 have HH:=hid h
 have G1:Hid (Gr w (w.alloc (.cells #[.string (bz xw), .int .i64 (xa:Nat)] 165))):=(Gr.refl w).alloc _
 have c0:=(G1.out.cell (p:=⟨cb,0,none⟩) h.lt).trans h.c0
 have hlt:=h.lt
 have n0:(w.alloc (.cells #[.string (bz xw), .int .i64 (xa:Nat)] 165)).cell? ⟨w.heap.size,0,none⟩=some (.string (bz xw)):=by simp
 have n1:(w.alloc (.cells #[.string (bz xw), .int .i64 (xa:Nat)] 165)).cell? ⟨w.heap.size,1,none⟩=some (.int .i64 (xa:Nat)):=by simp
 rcases wI ht xw with ⟨e,F⟩ | ⟨t,v,e,hT,F⟩
 ·have HV:Hid (aR T (xw,xa) c=(iR,c.fail 4 xa)):=by show _=_;simp [aR,e]
  have HF:Hid (∀ w1,Gr (w.alloc (.cells #[.string (bz xw), .int .i64 (xa:Nat)] 165)) w1->Calls Tryz.prog 146 #[tv, .string (bz xw)] w1 λe w'=>e = .returned (.tuple #[.agg #[.string ⟨#[]⟩, .slice none 0 0, .slice none 0 0], .bool false])/\Gr w1 w'/\Gr (w.alloc (.cells #[.string (bz xw), .int .i64 (xa:Nat)] 165)) w'):=λw1 g=>(F w1 (G1.out.trans g)).mono λ_ _ h=>⟨h.1,h.2,g.trans h.2⟩
  clear F e ht h
  go_enter Tryz.func136,Tryz.ntmps136
  go_wp2_with fail
  go_region_held3 (λw'=>w'.cell? ⟨cb,0,none⟩=some tv/\w'.cell? ⟨w.heap.size,0,none⟩=some (.string (bz xw))) (first | go_keep | exact ⟨c0,n0⟩ | exact ⟨y0,y1⟩ | (constructor <;> go_simp)) ((go_at_call 146;refine (HF.out _ (by repeat first | exact Gr.refl _ | apply Gr.alloc | apply Gr.drew | apply Gr.drewN)).mono ?_;rintro e w2 ⟨rfl,g2,gA⟩;have y0:=(gA.cell (p:=⟨cb,0,none⟩) (by simp;omega)).trans c0;have y1:=(gA.cell (p:=⟨w.heap.size,0,none⟩) (by simp)).trans n0;try (have hB:B3 w2 (w.heap.size+1+1) (.string ⟨#[]⟩) (.slice none 0 0) (.slice none 0 0):=(by have h:=((B3.new _ (.string ⟨#[]⟩) (.slice none 0 0) (.slice none 0 0) 187).gr (Gr.drew (Gr.refl _))).gr g2;simpa using h);obtain ⟨z0,z1,z2,z3,z4,z5,z6⟩:=hB)))
  ·have hR:B3 w2 (w.heap.size+1) (.string ⟨#[]⟩) (.slice none 0 0) (.slice none 0 0):=by have h:=((B3.new (w.alloc (.cells #[.string (bz xw), .int .i64 (xa:Nat)] 165)) (.string ⟨#[]⟩) (.slice none 0 0) (.slice none 0 0) 187).gr (Gr.drew (Gr.refl _))).gr g2;simpa using h
   have G2:Gr w w2:=G1.out.trans gA
   have hq:w.heap.size+1<w2.heap.size:=hR.lt
   have HW:Hid (CB cb tv c (w2.alloc (.cells #[.string ⟨#[]⟩, .slice none 0 0, .slice none 0 0] 187))/\Gr w (w2.alloc (.cells #[.string ⟨#[]⟩, .slice none 0 0, .slice none 0 0] 187))/\B3 (w2.alloc (.cells #[.string ⟨#[]⟩, .slice none 0 0, .slice none 0 0] 187)) w2.heap.size (.string ⟨#[]⟩) (.slice none 0 0) (.slice none 0 0)/\B3 (w2.alloc (.cells #[.string ⟨#[]⟩, .slice none 0 0, .slice none 0 0] 187)) (w.heap.size+1) (.string ⟨#[]⟩) (.slice none 0 0) (.slice none 0 0)/\(w2.alloc (.cells #[.string ⟨#[]⟩, .slice none 0 0, .slice none 0 0] 187)).cell? ⟨w.heap.size,1,none⟩=some (.int .i64 (xa:Nat))):=⟨(HH.out.gr G2).alloc _,G2.alloc _,B3.new _ _ _ _ _,hR.alloc _,(((Gr.refl w2).alloc _).cell (p:=⟨w.heap.size,1,none⟩) (by show w.heap.size<_;omega)).trans ((gA.cell (p:=⟨w.heap.size,1,none⟩) (by simp)).trans n1)⟩
   rename_i hHeld
   clear hHeld y0 y1 g2 gA hR G2 n0 n1 c0 HF G1
   generalize w2.alloc (.cells #[.string ⟨#[]⟩, .slice none 0 0, .slice none 0 0] 187)=w3 at *
   generalize w2.heap.size=q at *
   have n1:=HW.out.2.2.2.2
   go_wp2_with fail
   refine (cU HW.out.1 4 xa).mono ?_
   rintro e w4 ⟨rfl,h4,k4⟩
   have H4:Hid (CB cb tv (c.fail 4 xa) w4/\Kept cb w w4):=⟨h4,(Kept.gr HW.out.2.1).trans k4⟩
   obtain ⟨zl,z0,z1,z2,z3,z4,z5⟩:=HW.out.2.2.1.wJ k4 (by omega)
   obtain ⟨rl',r0,r1,r2,r3,r4,r5⟩:=HW.out.2.2.2.1.wJ k4 (by omega)
   clear h4 k4 n1
   go_wp2_with fail
   exact cL (v := .agg #[.string ⟨#[]⟩, .slice none 0 0, .slice none 0 0]) (by simp [results,Tryz.results136,go_sem, *]) rfl ⟨noT,rfl,by rw [HV.out];exact nZ.no _ _,by rw [HV.out];exact (((H4.out.1.put _ _ (by omega) _).put _ _ (by omega) _).put _ _ (by omega) _),((H4.out.2.aJ (by simp) _).aJ (by simp) _).aJ (by simp) _⟩
  ·have hR:B3 w2 (w.heap.size+1) (.string ⟨#[]⟩) (.slice none 0 0) (.slice none 0 0):=by have h:=(((B3.new (w.alloc (.cells #[.string (bz xw), .int .i64 (xa:Nat)] 165)) (.string ⟨#[]⟩) (.slice none 0 0) (.slice none 0 0) 187).alloc (.cells #[.string ⟨#[]⟩, .slice none 0 0, .slice none 0 0] 187)).gr (Gr.drew (Gr.refl _))).gr g2;simpa using h
   have G2:Gr w w2:=G1.out.trans gA
   have hq:w.heap.size+1<w.heap.size+1+1:=by omega
   have HW:Hid (CB cb tv c (((w2.setCell ⟨w.heap.size+1+1,0,none⟩ (.string ⟨#[]⟩)).setCell ⟨w.heap.size+1+1,1,none⟩ (.slice none 0 0)).setCell ⟨w.heap.size+1+1,2,none⟩ (.slice none 0 0))/\Gr w (((w2.setCell ⟨w.heap.size+1+1,0,none⟩ (.string ⟨#[]⟩)).setCell ⟨w.heap.size+1+1,1,none⟩ (.slice none 0 0)).setCell ⟨w.heap.size+1+1,2,none⟩ (.slice none 0 0))/\B3 (((w2.setCell ⟨w.heap.size+1+1,0,none⟩ (.string ⟨#[]⟩)).setCell ⟨w.heap.size+1+1,1,none⟩ (.slice none 0 0)).setCell ⟨w.heap.size+1+1,2,none⟩ (.slice none 0 0)) (w.heap.size+1+1) (.string ⟨#[]⟩) (.slice none 0 0) (.slice none 0 0)/\B3 (((w2.setCell ⟨w.heap.size+1+1,0,none⟩ (.string ⟨#[]⟩)).setCell ⟨w.heap.size+1+1,1,none⟩ (.slice none 0 0)).setCell ⟨w.heap.size+1+1,2,none⟩ (.slice none 0 0)) (w.heap.size+1) (.string ⟨#[]⟩) (.slice none 0 0) (.slice none 0 0)/\(((w2.setCell ⟨w.heap.size+1+1,0,none⟩ (.string ⟨#[]⟩)).setCell ⟨w.heap.size+1+1,1,none⟩ (.slice none 0 0)).setCell ⟨w.heap.size+1+1,2,none⟩ (.slice none 0 0)).cell? ⟨w.heap.size,1,none⟩=some (.int .i64 (xa:Nat))):=⟨(((HH.out.gr G2).put _ _ (by omega) _).put _ _ (by omega) _).put _ _ (by omega) _,G2.fG (by omega) _ _ _,B3.fill ⟨z0,z1,z2,z3,z4,z5,z6⟩ _ _ _,hR.IF (by omega) _ _ _,by
    have e:∀ (x y z:Value),(((w2.setCell ⟨w.heap.size+1+1,0,none⟩ x).setCell ⟨w.heap.size+1+1,1,none⟩ y).setCell ⟨w.heap.size+1+1,2,none⟩ z).heap[w.heap.size]?=w2.heap[w.heap.size]?:=λx y z=>((dQ _ _ _ _ (by show w.heap.size≠w.heap.size+1+1;omega)).trans (dQ _ _ _ _ (by show w.heap.size≠w.heap.size+1+1;omega))).trans (dQ _ _ _ _ (by show w.heap.size≠w.heap.size+1+1;omega))
    exact (fB (w:=w2) (a:=⟨w.heap.size,1,none⟩) (e _ _ _)).trans ((gA.cell (p:=⟨w.heap.size,1,none⟩) (by simp)).trans n1)⟩
   rename_i hHeld
   clear hHeld y0 y1 g2 gA hR G2 n0 n1 c0 HF G1 z0 z1 z2 z3 z4 z5 z6
   obtain ⟨w3,hw3⟩:∃ w3,w3=((w2.setCell ⟨w.heap.size+1+1,0,none⟩ (.string ⟨#[]⟩)).setCell ⟨w.heap.size+1+1,1,none⟩ (.slice none 0 0)).setCell ⟨w.heap.size+1+1,2,none⟩ (.slice none 0 0):=⟨_,rfl⟩
   obtain ⟨q,hq3⟩:∃ q,q=w.heap.size+1+1:=⟨_,rfl⟩
   rw [<- hw3] at HW ⊢
   rw [<- hq3] at HW hq ⊢
   clear hw3 hq3
   have n1:=HW.out.2.2.2.2
   go_wp2_with fail
   refine (cU HW.out.1 4 xa).mono ?_
   rintro e w4 ⟨rfl,h4,k4⟩
   have H4:Hid (CB cb tv (c.fail 4 xa) w4/\Kept cb w w4):=⟨h4,(Kept.gr HW.out.2.1).trans k4⟩
   obtain ⟨zl,z0,z1,z2,z3,z4,z5⟩:=HW.out.2.2.1.wJ k4 (by omega)
   obtain ⟨rl',r0,r1,r2,r3,r4,r5⟩:=HW.out.2.2.2.1.wJ k4 (by omega)
   clear h4 k4 n1
   go_wp2_with fail
   exact cL (v := .agg #[.string ⟨#[]⟩, .slice none 0 0, .slice none 0 0]) (by simp [results,Tryz.results136,go_sem, *]) rfl ⟨noT,rfl,by rw [HV.out];exact nZ.no _ _,by rw [HV.out];exact (((H4.out.1.put _ _ (by omega) _).put _ _ (by omega) _).put _ _ (by omega) _),((H4.out.2.aJ (by simp) _).aJ (by simp) _).aJ (by simp) _⟩
 ·obtain ⟨vn,va,vl,vc,ra,rl,rc⟩:=v
  have HT:=hid hT
  have HV:Hid (aR T (xw,xa) c=(t,c)):=by show _=_;simp [aR,e]
  clear hT
  have HF:Hid (∀ w1,Gr (w.alloc (.cells #[.string (bz xw), .int .i64 (xa:Nat)] 165)) w1->Calls Tryz.prog 146 #[tv, .string (bz xw)] w1 λe w'=>e = .returned (.tuple #[.agg #[.string vn, .slice va vl vc, .slice ra rl rc], .bool true])/\Gr w1 w'/\Gr (w.alloc (.cells #[.string (bz xw), .int .i64 (xa:Nat)] 165)) w'):=λw1 g=>(F w1 (G1.out.trans g)).mono λ_ _ h=>⟨h.1,h.2,g.trans h.2⟩
  clear F e ht h
  go_enter Tryz.func136,Tryz.ntmps136
  go_wp2_with fail
  go_region_held3 (λw'=>w'.cell? ⟨cb,0,none⟩=some tv/\w'.cell? ⟨w.heap.size,0,none⟩=some (.string (bz xw))) (first | go_keep | exact ⟨c0,n0⟩ | exact ⟨y0,y1⟩ | (constructor <;> go_simp)) ((go_at_call 146;refine (HF.out _ (by repeat first | exact Gr.refl _ | apply Gr.alloc | apply Gr.drew | apply Gr.drewN)).mono ?_;rintro e w2 ⟨rfl,g2,gA⟩;have y0:=(gA.cell (p:=⟨cb,0,none⟩) (by simp;omega)).trans c0;have y1:=(gA.cell (p:=⟨w.heap.size,0,none⟩) (by simp)).trans n0;try (have hB:B3 w2 (w.heap.size+1+1) (.string ⟨#[]⟩) (.slice none 0 0) (.slice none 0 0):=(by have h:=((B3.new _ (.string ⟨#[]⟩) (.slice none 0 0) (.slice none 0 0) 187).gr (Gr.drew (Gr.refl _))).gr g2;simpa using h);obtain ⟨z0,z1,z2,z3,z4,z5,z6⟩:=hB)))
  ·have hR:B3 w2 (w.heap.size+1) (.string ⟨#[]⟩) (.slice none 0 0) (.slice none 0 0):=by have h:=((B3.new (w.alloc (.cells #[.string (bz xw), .int .i64 (xa:Nat)] 165)) (.string ⟨#[]⟩) (.slice none 0 0) (.slice none 0 0) 187).gr (Gr.drew (Gr.refl _))).gr g2;simpa using h
   have G2:Gr w w2:=G1.out.trans gA
   have hq:w.heap.size+1<w2.heap.size:=hR.lt
   have HW:Hid (CB cb tv c (w2.alloc (.cells #[.string vn, .slice va vl vc, .slice ra rl rc] 187))/\Gr w (w2.alloc (.cells #[.string vn, .slice va vl vc, .slice ra rl rc] 187))/\B3 (w2.alloc (.cells #[.string vn, .slice va vl vc, .slice ra rl rc] 187)) w2.heap.size (.string vn) (.slice va vl vc) (.slice ra rl rc)/\B3 (w2.alloc (.cells #[.string vn, .slice va vl vc, .slice ra rl rc] 187)) (w.heap.size+1) (.string ⟨#[]⟩) (.slice none 0 0) (.slice none 0 0)/\(w2.alloc (.cells #[.string vn, .slice va vl vc, .slice ra rl rc] 187)).cell? ⟨w.heap.size,1,none⟩=some (.int .i64 (xa:Nat))):=⟨(HH.out.gr G2).alloc _,G2.alloc _,B3.new _ _ _ _ _,hR.alloc _,(((Gr.refl w2).alloc _).cell (p:=⟨w.heap.size,1,none⟩) (by show w.heap.size<_;omega)).trans ((gA.cell (p:=⟨w.heap.size,1,none⟩) (by simp)).trans n1)⟩
   rename_i hHeld
   clear hHeld y0 y1 g2 gA hR G2 n0 n1 c0 HF G1
   generalize w2.alloc (.cells #[.string vn, .slice va vl vc, .slice ra rl rc] 187)=w3 at *
   generalize w2.heap.size=q at *
   obtain ⟨zl,z0,z1,z2,z3,z4,z5⟩:=HW.out.2.2.1
   obtain ⟨rl',r0,r1,r2,r3,r4,r5⟩:=HW.out.2.2.2.1
   go_wp2_with fail
   exact cL (v := .agg #[.string vn, .slice va vl vc, .slice ra rl rc]) (by simp [results,Tryz.results136,go_sem, *]) rfl ⟨_,rfl,by rw [HV.out];exact HT.out.low Ve.out (Low.dZ (HW.out.2.1.fG (by omega) _ _ _)),by rw [HV.out];exact (((HW.out.1.put _ _ (by omega) _).put _ _ (by omega) _).put _ _ (by omega) _),Kept.gr (HW.out.2.1.fG (by omega) _ _ _)⟩
  ·have hR:B3 w2 (w.heap.size+1) (.string ⟨#[]⟩) (.slice none 0 0) (.slice none 0 0):=by have h:=(((B3.new (w.alloc (.cells #[.string (bz xw), .int .i64 (xa:Nat)] 165)) (.string ⟨#[]⟩) (.slice none 0 0) (.slice none 0 0) 187).alloc (.cells #[.string ⟨#[]⟩, .slice none 0 0, .slice none 0 0] 187)).gr (Gr.drew (Gr.refl _))).gr g2;simpa using h
   have G2:Gr w w2:=G1.out.trans gA
   have hq:w.heap.size+1<w.heap.size+1+1:=by omega
   have HW:Hid (CB cb tv c (((w2.setCell ⟨w.heap.size+1+1,0,none⟩ (.string vn)).setCell ⟨w.heap.size+1+1,1,none⟩ (.slice va vl vc)).setCell ⟨w.heap.size+1+1,2,none⟩ (.slice ra rl rc))/\Gr w (((w2.setCell ⟨w.heap.size+1+1,0,none⟩ (.string vn)).setCell ⟨w.heap.size+1+1,1,none⟩ (.slice va vl vc)).setCell ⟨w.heap.size+1+1,2,none⟩ (.slice ra rl rc))/\B3 (((w2.setCell ⟨w.heap.size+1+1,0,none⟩ (.string vn)).setCell ⟨w.heap.size+1+1,1,none⟩ (.slice va vl vc)).setCell ⟨w.heap.size+1+1,2,none⟩ (.slice ra rl rc)) (w.heap.size+1+1) (.string vn) (.slice va vl vc) (.slice ra rl rc)/\B3 (((w2.setCell ⟨w.heap.size+1+1,0,none⟩ (.string vn)).setCell ⟨w.heap.size+1+1,1,none⟩ (.slice va vl vc)).setCell ⟨w.heap.size+1+1,2,none⟩ (.slice ra rl rc)) (w.heap.size+1) (.string ⟨#[]⟩) (.slice none 0 0) (.slice none 0 0)/\(((w2.setCell ⟨w.heap.size+1+1,0,none⟩ (.string vn)).setCell ⟨w.heap.size+1+1,1,none⟩ (.slice va vl vc)).setCell ⟨w.heap.size+1+1,2,none⟩ (.slice ra rl rc)).cell? ⟨w.heap.size,1,none⟩=some (.int .i64 (xa:Nat))):=⟨(((HH.out.gr G2).put _ _ (by omega) _).put _ _ (by omega) _).put _ _ (by omega) _,G2.fG (by omega) _ _ _,B3.fill ⟨z0,z1,z2,z3,z4,z5,z6⟩ _ _ _,hR.IF (by omega) _ _ _,by
    have e:∀ (x y z:Value),(((w2.setCell ⟨w.heap.size+1+1,0,none⟩ x).setCell ⟨w.heap.size+1+1,1,none⟩ y).setCell ⟨w.heap.size+1+1,2,none⟩ z).heap[w.heap.size]?=w2.heap[w.heap.size]?:=λx y z=>((dQ _ _ _ _ (by show w.heap.size≠w.heap.size+1+1;omega)).trans (dQ _ _ _ _ (by show w.heap.size≠w.heap.size+1+1;omega))).trans (dQ _ _ _ _ (by show w.heap.size≠w.heap.size+1+1;omega))
    exact (fB (w:=w2) (a:=⟨w.heap.size,1,none⟩) (e _ _ _)).trans ((gA.cell (p:=⟨w.heap.size,1,none⟩) (by simp)).trans n1)⟩
   rename_i hHeld
   clear hHeld y0 y1 g2 gA hR G2 n0 n1 c0 HF G1 z0 z1 z2 z3 z4 z5 z6
   obtain ⟨w3,hw3⟩:∃ w3,w3=((w2.setCell ⟨w.heap.size+1+1,0,none⟩ (.string vn)).setCell ⟨w.heap.size+1+1,1,none⟩ (.slice va vl vc)).setCell ⟨w.heap.size+1+1,2,none⟩ (.slice ra rl rc):=⟨_,rfl⟩
   obtain ⟨q,hq3⟩:∃ q,q=w.heap.size+1+1:=⟨_,rfl⟩
   rw [<- hw3] at HW ⊢
   rw [<- hq3] at HW hq ⊢
   clear hw3 hq3
   obtain ⟨zl,z0,z1,z2,z3,z4,z5⟩:=HW.out.2.2.1
   obtain ⟨rl',r0,r1,r2,r3,r4,r5⟩:=HW.out.2.2.2.1
   go_wp2_with fail
   exact cL (v := .agg #[.string vn, .slice va vl vc, .slice ra rl rc]) (by simp [results,Tryz.results136,go_sem, *]) rfl ⟨_,rfl,by rw [HV.out];exact HT.out.low Ve.out (Low.dZ (HW.out.2.1.fG (by omega) _ _ _)),by rw [HV.out];exact (((HW.out.1.put _ _ (by omega) _).put _ _ (by omega) _).put _ _ (by omega) _),Kept.gr (HW.out.2.1.fG (by omega) _ _ _)⟩
end Go.Proofs.YtgnncnhkgmhngaaGreatDoor
