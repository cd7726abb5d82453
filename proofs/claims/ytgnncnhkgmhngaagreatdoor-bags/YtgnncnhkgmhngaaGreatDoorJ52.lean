import Derived.Test.YtgnncnhkgmhngaaGreatDoorJ51
import Derived.Laws.AppendOwnNone
set_option maxHeartbeats 400000
namespace Go.Proofs.YtgnncnhkgmhngaaGreatDoor
open Sp
open Go.RowKit Go.Sort
namespace Sp
def CN (k:Nat) (c:Int):Nd := .sel false k (.cons (.col [] [97] k 0 0 0) (.cons (.col [] [98] (k+3) 0 0 c) .nil)) [(([117],k+10), [117],k+10)] .none
def Nr (w:Bs) (all:Bool) (k:Nat) (c:Int):Nd := .comb w 16 all (Sp.all [116]) (CN k c)
def Mi:Nd := .sel true 16 .none [(([116],23), [116],23)] .none
structure Cq (s w:Bs) (all:Bool) (k:Nat):Prop where
 p:parse s=(0,0)
 t:tree s = .query (Nr w all k 0)
 w:w = [117,110,105,111,110]\/w = [101,120,99,101,112,116]\/w = [105,110,116,101,114,115,101,99,116]
 k:k<=100
theorem Zn:Cq [115,101,108,101,99,116,32,42,32,102,114,111,109,32,116,32,117,110,105,111,110,32,97,108,108,32,115,101,108,101,99,116,32,97,44,32,98,32,102,114,111,109,32,117] [117,110,105,111,110] true 33:=⟨by kernel_rfl,by kernel_rfl, .inl rfl,by decide⟩
theorem Zo:Cq [115,101,108,101,99,116,32,42,32,102,114,111,109,32,116,32,101,120,99,101,112,116,32,97,108,108,32,115,101,108,101,99,116,32,97,44,32,98,32,102,114,111,109,32,117] [101,120,99,101,112,116] true 34:=⟨by kernel_rfl,by kernel_rfl, .inr (.inl rfl),by decide⟩
theorem Zp:Cq [115,101,108,101,99,116,32,42,32,102,114,111,109,32,116,32,105,110,116,101,114,115,101,99,116,32,97,108,108,32,115,101,108,101,99,116,32,97,44,32,98,32,102,114,111,109,32,117] [105,110,116,101,114,115,101,99,116] true 37:=⟨by kernel_rfl,by kernel_rfl, .inr (.inr rfl),by decide⟩
theorem Zq:Cq [115,101,108,101,99,116,32,42,32,102,114,111,109,32,116,32,117,110,105,111,110,32,115,101,108,101,99,116,32,97,44,32,98,32,102,114,111,109,32,117] [117,110,105,111,110] false 29:=⟨by kernel_rfl,by kernel_rfl, .inl rfl,by decide⟩
theorem Zr:Cq [115,101,108,101,99,116,32,42,32,102,114,111,109,32,116,32,101,120,99,101,112,116,32,115,101,108,101,99,116,32,97,44,32,98,32,102,114,111,109,32,117] [101,120,99,101,112,116] false 30:=⟨by kernel_rfl,by kernel_rfl, .inr (.inl rfl),by decide⟩
theorem Zs:Cq [115,101,108,101,99,116,32,42,32,102,114,111,109,32,116,32,105,110,116,101,114,115,101,99,116,32,115,101,108,101,99,116,32,97,44,32,98,32,102,114,111,109,32,117] [105,110,116,101,114,115,101,99,116] false 33:=⟨by kernel_rfl,by kernel_rfl, .inr (.inr rfl),by decide⟩
theorem RE:parse [115,101,108,101,99,116,32,100,105,115,116,105,110,99,116,32,42,32,102,114,111,109,32,116]=(0,0):=by kernel_rfl
theorem RF:tree [115,101,108,101,99,116,32,100,105,115,116,105,110,99,116,32,42,32,102,114,111,109,32,116] = .query Mi:=by kernel_rfl
theorem RG {R S:List Row} {T:List Tb} (h:TU R S T) (hR:R.length<=1000):check T (.query Mi)=(⟨0,0,false⟩, .query Mi):=by
 have e:check T (.query Mi)=(CS.note [[([116],tt R)]] ⟨0,0,false⟩, .query Mi):=by rcases h with rfl | rfl <;> kernel_rfl
 rw [e,uN hR]
theorem RH {R S:List Row} {T:List Tb} (h:TU R S T) (hR:R.length<=1000) (hS:S.length<=1000) (w:Bs) (all:Bool) (k:Nat):check T (.query (Nr w all k 0))=(⟨0,0,false⟩, .query (Nr w all k 1)):=by
 have e:check T (.query (Nr w all k 0))=(CS.note [[([117],uu S)]] (CS.note [[([116],tt R)]] ⟨0,0,false⟩), .query (Nr w all k 1)):=by rcases h with rfl | rfl <;> kernel_rfl
 rw [e,uN hS,uN hR]
end Sp
theorem OS:okS 90000 (.query Mi):=by simp [okS,Mi,wf,Nd.dep]
theorem OT {w:Sp.Bs} {all:Bool} {k:Nat} (c:Int):okS 90000 (.query (Nr w all k c)):=by simp [okS,Nr,CN,Sp.all,wf,Nd.dep,Nd.len]
theorem yF {di:Bool} {st a:Nat} {T:List Sp.Tb} {nm:Sp.Bs} {R:List Row} {b:Sp.Tb} (hf:aG nm T=some b) (hb:b.rows=R) (hc:b.cols=cab) (hT:Nk T) (hl:R.length<=1000):n9 T 2 (.sel di st .none [((nm,a),nm,a)] .none):=by
 have e:rowsOf T [((nm,a),nm,a)] = [R]:=by simp [rowsOf,hf,hb]
 refine ⟨di,st, .none,_, .none,rfl,?_,rfl,?_,by simp,by simp,?_,?_,?_,λh=>absurd rfl h⟩
 ·simp [wf]
 ·refine ⟨?_,?_,trivial,trivial⟩
  ·intro x hx
   rw [List.mem_singleton] at hx
   subst hx
   simp [hf]
  ·simp only [Sp.product,Hz,List.map_cons,List.map_nil,List.foldl_cons,List.foldl_nil,hf,Option.getD_some,hb]
   omega
 ·rw [e,Sp.fA]
  simpa using hl
 ·rw [e,Sp.fA]
  intro tk htk
  obtain ⟨r,hr,rfl⟩:=List.mem_map.1 htk
  have:=hT b (iK hf) r (by rw [hb];exact hr)
  rw [hc] at this
  simpa [cellsOf,cab] using this
 ·intro _
  simp [Er,hf,hc,cab]
theorem Mj {k:Nat} {T:List Sp.Tb} {S:List Row} (hf:aG [117] T=some (uu S)) (hl:S.length<=1000):n9 T 2 (CN k 1):=by
 have e:rowsOf T [(([117],k+10), [117],k+10)] = [S]:=by simp [rowsOf,hf,uu]
 refine ⟨false,k,_,_, .none,rfl,?_,rfl,?_,by simp,by simp,?_,?_,(λh=>by cases h),λ_=>rfl⟩
 ·simp [CN,wf,Nd.len]
 ·refine ⟨?_,?_,?_,trivial⟩
  ·intro x hx
   rw [List.mem_singleton] at hx
   subst hx
   simp [hf]
  ·simp only [Sp.product,Hz,List.map_cons,List.map_nil,List.foldl_cons,List.foldl_nil,hf,Option.getD_some,uu]
   omega
  ·have hlv:Hz T [(([117],k+10), [117],k+10)] = [([117],uu S)]:=by simp [Hz,hf]
   rw [hlv]
   exact ⟨⟨_,_,rfl,rfl,by decide,by simp [uu,cab]⟩,⟨_,_,rfl,rfl,by decide,by simp [uu,cab]⟩,trivial⟩
 ·rw [e,Sp.fA]
  simpa using hl
 ·rw [e,Sp.fA]
  intro tk htk
  rfl
theorem RI {k:Nat} {T:List Sp.Tb} {S:List Row} (hf:aG [117] T=some (uu S)) (hS:∀ r∈S,r.length=2):Sp.rn T (CN k 1) []=aI S:=by
 unfold CN
 rw [uM]
 congr 1
 simp only [rowsOf,List.map_cons,List.map_nil,hf,Option.getD_some,uu,Sp.fA,List.flatMap_map,holds,if_true]
 clear hf
 induction S with
 | nil=>rfl
 | cons x l ih=>
  rw [List.flatMap_cons,ih λr hr=>hS r (List.mem_cons_of_mem _ hr)]
  have hx:=hS x List.mem_cons_self
  match x,hx with
  | [a,b],_=>rfl
theorem OU {T:List Sp.Tb} {R:List Row} (hf:aG [116] T=some (Sp.tt R)):Sp.rn T Mi []=once (aI R):=by
 have h:Sp.rn T (.sel false 16 .none [(([116],23), [116],23)] .none) []=aI R:=by
  rw [uM]
  congr 1
  simp only [rowsOf,List.map_cons,List.map_nil,hf,Option.getD_some,Sp.tt,Sp.fA,List.flatMap_map,holds,if_true,cellsOf,List.flatten_cons,List.flatten_nil,List.append_nil]
  clear hf
  induction R with
  | nil=>rfl
  | cons x l ih=>rw [List.flatMap_cons,ih];rfl
 rw [<- h,Mi,Am,Am]
 rfl
theorem CO {w:Sp.Bs} {all:Bool} {R S:List Row} (hl:R.length<=1000) (hl2:S.length<=1000):(combined w all (aI R) (aI S)).length<=100000:=by
 have h1:=(bF R).length_eq
 have h2:=(bF S).length_eq
 have h3:=iJ (aI R)
 have h4:=iJ (aI S)
 have h5:=eD (l:=aI R) (m:=aI S)
 have h6:=eD (l:=once (aI R)) (m:=once (aI S))
 have h7:=(bF (aI R++aI S)).length_eq
 have h8:=(bF ((matched (once (aI R)) (once (aI S))).2++once (aI S))).length_eq
 rw [List.length_append] at h7 h8
 unfold combined
 cases all <;> simp only [Bool.false_eq_true,if_false,if_true] <;> split <;> (try split) <;> omega
theorem Kt {bb k:Nat} {all:Bool} {wd:Sp.Bs} {R S:List Row} {s:ByteArray} {w0 w:World} (hr:Es w0) (h:rF bb w0 R S w) (hq:Cq s.data.toList wd all k) (hR:∀ r∈R,r.length=2) (hS:∀ r∈S,r.length=2) (hl:R.length<=1000) (hl2:S.length<=1000) :
  Calls Tryz.prog 17 #[.pointer (some ⟨bb,0,none⟩), .string s, .int .i64 2] w λr w'=>∃ rv,r = .returned (.tuple #[rv, .bool true])/\dS w.heap.size 2 w' rv (combined wd all (aI R) (aI S))/\rF bb w0 R S w'/\Kept bb w w':=by
 obtain ⟨T,hT,h⟩:=h
 have hrn:Sp.rn T (Nr wd all k 1) []=combined wd all (aI R) (aI S):=by
  show combined wd all (Sp.rn T (Sp.all [116]) []) (Sp.rn T (CN k 1) [])=_
  rw [Ki (R:=R) hT.ft rfl,RI hT.fu hS]
 have hlt:=(bF R).length_eq
 have S0:=(bF S).length_eq
 have hR':=Hu (a:=16) (w:=wd) (all:=all) (yF (di:=false) (st:=7) (a:=14) hT.ft rfl rfl (hT.ok hR hS) hl) (Mj (k:=k) hT.fu hl2) (hT.ok hR hS) hT.cols (by omega) hq.w (by rw [show Sp.rn T (.sel false 7 .none [(([116],14), [116],14)] .none) []=aI R from Ki hT.ft rfl];omega) (by rw [RI hT.fu hS];omega)
 rw [show Sp.rn T (.comb wd 16 all (.sel false 7 .none [(([116],14), [116],14)] .none) (CN k 1)) []=_ from hrn] at hR'
 refine (FA (wd:=2) hr h hq.p hq.t (λz=>by simp) (OT 0) (RH hT hl hl2 wd all k) (CO hl hl2) (by omega) (by omega) hR').mono ?_
 rintro r w' ⟨rv,rfl,h1,h2,h3⟩
 exact ⟨rv,rfl,h1,⟨T,hT,h2⟩,h3⟩
theorem Ku {bb:Nat} {R S:List Row} {s:ByteArray} {w0 w:World} (hr:Es w0) (h:rF bb w0 R S w) (hs:s.data.toList = [115,101,108,101,99,116,32,100,105,115,116,105,110,99,116,32,42,32,102,114,111,109,32,116]) (hR:∀ r∈R,r.length=2) (hS:∀ r∈S,r.length=2) (hl:R.length<=1000) :
  Calls Tryz.prog 17 #[.pointer (some ⟨bb,0,none⟩), .string s, .int .i64 2] w λr w'=>∃ rv,r = .returned (.tuple #[rv, .bool true])/\dS w.heap.size 2 w' rv (once (aI R))/\rF bb w0 R S w'/\Kept bb w w':=by
 obtain ⟨T,hT,h⟩:=h
 have hlt:=(bF R).length_eq
 have hol:=iJ (aI R)
 obtain ⟨di,st,ex,src,wh,e,h1,h2,h3,h4,h5,h6,h7,h8,h9⟩:=yF (di:=true) (st:=16) (a:=23) hT.ft rfl rfl (hT.ok hR hS) hl
 cases e
 have hR':=Cz (N:=90000) (wd:=2) (by omega) h1 h2 h3 (hT.ok hR hS) hT.cols h4 h5 h6 h7 (by omega) h8 h9
 rw [show Sp.rn T (.sel true 16 .none [(([116],23), [116],23)] .none) []=_ from OU hT.ft] at hR'
 refine (FA (wd:=2) hr h (by rw [hs];exact RE) (by rw [hs];exact RF) (λz=>by simp) OS (RG hT hl) (by omega) (by omega) (by omega) hR').mono ?_
 rintro r w' ⟨rv,rfl,h1,h2,h3⟩
 exact ⟨rv,rfl,h1,⟨T,hT,h2⟩,h3⟩
def LB (bb:Nat) (w:World) (v:Value) (rows:List (List Sv.Val)):Prop:=∃ base xs,bb<base/\w.ownsRow base 41 1 v xs.length xs/\Rs w xs rows
theorem Rs.bel {w w' : World} {xs:List Value} {rs:List (List Sv.Val)} (h:Rs w xs rs) (g:RowKit.Below w.heap.size w w'):Rs w' xs rs:=
 ⟨h.len,λi hi hi'=>by
  obtain ⟨⟨b,c,e,hv⟩,h2⟩:=h.at_ i hi hi'
  exact ⟨⟨b,c,e,hv.same g.size (g.block b hv.lb)⟩,h2⟩⟩
theorem LB.bel {bb:Nat} {w w' : World} {v:Value} {rows:List (List Sv.Val)} (h:LB bb w v rows) (g:RowKit.Below w.heap.size w w'):LB bb w' v rows:=by
 obtain ⟨base,xs,h1,h2,h3⟩:=h
 exact ⟨base,xs,h1,aH h2 g,h3.bel g⟩
theorem LB.kept {bb:Nat} {w0 w w' : World} {R S:List Row} {v:Value} {rows:List (List Sv.Val)} (h:LB bb w v rows) (hf:rF bb w0 R S w) (g:Kept bb w w'):LB bb w' v rows:=by
 obtain ⟨base,xs,h1,h2,h3⟩:=h
 obtain ⟨T,_,tv,k1,k2,_,_⟩:=hf
 obtain ⟨a,n,c,rfl⟩:=k2.sl
 refine ⟨base,xs,h1,?_,h3.len,λi hi hi'=>?_⟩
 ·have hb:=aB h2
  rcases id h2.2 with h0 | ⟨q,cap,cur,rfl,hr⟩
  ·exact ⟨h2.1, .inl h0⟩
  ·exact aV h2 (g.block q (hb q rfl).2 (by have:=(hb q rfl).1;omega))
 ·obtain ⟨⟨b,c,e,hv⟩,hp⟩:=h3.at_ i hi hi'
  exact ⟨⟨b,c,e,hv.noS (Q:=(·=bb)) (by rintro q rfl;exact k1.noS) g.size (λj hj hn=>g.block j hj hn)⟩,hp⟩
theorem LB.lv {bb:Nat} {w:World} {v:Value} {rows:List (List Sv.Val)} (h:LB bb w v rows):Lv w v rows:=by
 obtain ⟨base,xs,h1,h2,h3⟩:=h
 exact No h2 h3
theorem LB.sl {bb:Nat} {w:World} {v:Value} {rows:List (List Sv.Val)} (h:LB bb w v rows):∃ a c,v = .slice a rows.length c:=h.lv.sl
theorem LB.PF {bb:Nat} {w:World} {v:Value} {rows:List (List Sv.Val)} (h:LB bb w v rows):∃ xs,sI w v xs/\Rs w xs rows:=by
 obtain ⟨base,xs,h1,h2,h3⟩:=h
 exact ⟨xs,sI.owned h2,h3⟩
theorem LB.at_ {bb:Nat} {w:World} {v:Value} {rows:List (List Sv.Val)} (h:LB bb w v rows) (i:Nat) (hi:i<rows.length):∃ g c b l k,v = .slice (some ⟨g,0,none⟩) rows.length c/\rows.length<=c/\w.cell? ⟨g,i,none⟩=some (.slice b l k)/\Rn w (.slice b l k) rows[i]/\Lv w (.slice (some ⟨g,0,none⟩) i c) (rows.take i)/\g<w.heap.size:=by
 obtain ⟨base,xs,h1,h2,h3⟩:=h
 have hl:=h3.len
 have hv:=No h2 h3
 have hb:=aB h2
 rcases id h2.2 with h0 | ⟨g,cap,cur,rfl,h0,hc,r1,_⟩
 ·have:=h0.2;omega
 ·have hi' : i<xs.length:=by omega
  obtain ⟨b,c,e,hz⟩:=(h3.at_ i hi' hi).1
  have hce:=bO h2 i _ (rI hi')
  rw [e] at hce
  refine ⟨g,cap,_,_,c,by rw [<- hl],by omega,hce,⟨b,0,c,rfl,hz⟩,?_,(hb g rfl).2⟩
  refine .inr ⟨g,0,cap,by rw [List.length_take,Nat.min_eq_left (by omega)],⟨(hb g rfl).2,λj hj=>?_⟩⟩
  have hj' : j<i:=by rw [List.length_take] at hj;omega
  rw [List.getElem_take,Nat.zero_add]
  exact ⟨xs[j]'(by omega),bO h2 j _ (rI (by omega)),(h3.at_ j (by omega) (by omega)).1.rn⟩
theorem Rs.app {w:World} {xs ys:List Value} {rs ss:List (List Sv.Val)} (h:Rs w xs rs) (k:Rs w ys ss):Rs w (xs++ys) (rs++ss):=by
 refine ⟨by simp [h.len,k.len],λi hi hi'=>?_⟩
 have e:=h.len
 by_cases c:i<xs.length
 ·rw [List.getElem_append_left c,List.getElem_append_left (by omega)]
  exact h.at_ i c (by omega)
 ·rw [List.getElem_append_right (by omega),List.getElem_append_right (by omega)]
  simp only [<- e]
  simp only [List.length_append] at hi hi'
  exact k.at_ (i - xs.length) (by omega) (by omega)
theorem jC {P:Program} (w:World) {ops:Array Oper} {rest:List Oper} {o:Oper} {a:Act} {Q:Exit->Act->World->Prop} (hgd:o.guard=none) (s x:Operand) (t:TypeId)
  (ho:o.op = .call { callee := .builtin .append,args:=#[s,x],argTypes:=#[t,t] })
  (base:Nat) (e:TypeId) (i:TypeInfo) (z:Value) (bytes:Nat) (ht:P.underlying t=some (.slice e)) (hi:P.info? e=some i) (hz:i.zero=some z)
  (hsize:i.size=1) (hby:i.bytes=bytes) (hzs:z.cells.size=1)
  (v:Value) (n:Nat) (xs:List Value) (hs:a.eval s=v) (hown:w.ownsRow base e 1 v n xs) (hnil:n=0->v = .slice none 0 0)
  (u:Value) (ys:List Value) (hx:a.eval x=u) (hu:sI w u ys) (h1:∀ u∈ys,u.oneCell'=true)
  (h63:n+ys.length<=maxLen) (hbytes:(n+ys.length)*bytes<=140737488355328) (hbase:base<=w.heap.size)
  (h:∀ v' w',w'.ownsRow base e 1 v' (n+ys.length) (xs++ys)->w.grownBy w' v.ownBlock->(n+ys.length=0->v' = .slice none 0 0)->wpList P ops Q rest (a.put o.dst v') w'):wpList P ops Q (o::rest) a w:=by
 rcases hu with ⟨rfl,rfl⟩ | ⟨b,off,c,rfl,hb,hc⟩
 ·refine wpList_append_own_none hgd s x t ho base e i 1 ht hi v n xs hs hown hx ?_
  exact h v w (by simpa using hown) (World.grownBy.refl _ _) (by simpa using hnil)
 ·refine wpList_append_own w hgd s x t ho base e i z 1 bytes ht hi hz hsize hby hzs (by decide) v n xs hs hown ⟨b,off,none⟩ ys.length c ys hx (by simp) (λj q hj=>?_) h1 h63 hbytes hbase λv' w' k1 k2 k3=>h v' w' k1 k2 λhn=>k3.2 ⟨hnil (by omega),by omega⟩
  obtain ⟨hj',e⟩:=List.getElem?_eq_some_iff.1 hj
  rw [<- e,Addr.add_lit]
  exact hc j hj'
theorem EG (a:Option Addr) (c:Nat) (w:World):Calls Tryz.prog 19 #[.slice a 0 c] w λe w'=>e = .returned (.slice none 0 0)/\Gr w w':=by
 go_enter Tryz.func19,Tryz.ntmps19
 go_wp2
 go_loop [3,4] (λv i=>i = .int .i64 0/\v = .slice none 0 0) (λ_ _=>0)
 case atStart=>exact ⟨rfl,rfl⟩
 case round=>
  obtain ⟨rfl,rfl⟩:=hrel
  go_wp2
  go_ret
  exact ⟨rfl,Gr.refl _⟩
theorem FH {bb:Nat} {l:List (Int×Int)} {v:Value} {w:World} (h:rG w v l) (hl:l.length<=9223372036854775807) (hbb:bb<w.heap.size) :
  Calls Tryz.prog 19 #[v] w λe w'=>∃ v,e = .returned v/\LB bb w' v (nQ (l.take 20))/\RowKit.Below w.heap.size w w':=by
 rcases h with ⟨a,c,rfl,rfl⟩ | ⟨b,off,c,rfl,h⟩
 ·refine (EG a c w).mono ?_
  rintro e w' ⟨rfl,g⟩
  exact ⟨_,rfl,⟨w.heap.size, [],hbb,World.ownsRow_nil _ _ _ _,rfl,λi hi=>by simp at hi⟩,g.below⟩
 ·refine (CE l b off _ c w rfl hl h).mono ?_
  rintro e w' ⟨⟨v,xs,m,rfl,ho,hs⟩,hb⟩
  have hm:m=xs.length:=by have:=ho.1;omega
  subst hm
  exact ⟨v,rfl,⟨w.heap.size,xs,hbb,ho,hs⟩,hb⟩
end Go.Proofs.YtgnncnhkgmhngaaGreatDoor
