import Derived.Test.YtgnncnhkgmhngaaGreatDoorJ06
import Derived.Calls
import Derived.RunT
set_option maxHeartbeats 2000000
namespace Go.Proofs.YtgnncnhkgmhngaaGreatDoor
open Go.RowKit Go.Sort
namespace Sv
def reckoned (w:Sp.Bs):List Val→Val
 | []=>null
 | [a]=>int (wrap64 (-a.n))
 | a::d::_=>
  if w == [43] then int (wrap64 (a.n+d.n)) else if w == [45] then int (wrap64 (a.n - d.n)) else if w == [42] then int (wrap64 (a.n*d.n))
  else if d.n=0 then null else int (wrap64 (a.n.tdiv d.n))
end Sv
theorem reck1_any (b off c:Nat) (x:ByteArray) (a:Sv.Val) (w:World) (hv:Hv w b off [a]) :
  Calls Tryz.prog 268 #[.string x, .slice (some ⟨b,off,none⟩) 1 c] w fun e w'=>e = .returned (enV (Sv.reckoned x.toList [a]))∧Gr w w':=by
 have HD:Hid (Sv.reckoned x.toList [a]=Sv.int (wrap64 (-a.n))):=rfl
 generalize Sv.reckoned x.toList [a]=dv at *
 have R0:Hid (B3 (w.alloc (.cells #[.int .i64 0, .int .i64 0, .string ⟨#[]⟩] 40)) w.heap.size (.int .i64 0) (.int .i64 0) (.string ⟨#[]⟩)):=B3.new w _ _ _ _
 have G0:Hid (Gr w (w.alloc (.cells #[.int .i64 0, .int .i64 0, .string ⟨#[]⟩] 40))):=(Gr.refl w).alloc _
 have c1:(w.alloc (.cells #[.int .i64 0, .int .i64 0, .string ⟨#[]⟩] 40)).cell? ⟨b,off+1,none⟩=some (.int .i64 a.n):=by
  have:=(hv.gr G0.out).n 0 (by simp);simpa using this
 clear hv
 go_enter Tryz.func268,Tryz.ntmps268
 go_wp2_with fail
 refine (vint_any _ _).mono ?_
 rintro e w3 ⟨rfl,g3⟩
 obtain ⟨rl,r0,r1,r2,r3,r4,r5⟩:=R0.out.gr g3
 go_wp2_with fail
 exact bodyPost_ret (v:=enV (Sv.int (wrap64 (-a.n)))) (by simp [results,Tryz.results268,go_sem, *]) rfl ⟨by rw [HD.out],(G0.out.trans g3).set3 (Nat.le_refl _) _ _ _⟩
theorem reck2_any (b off n c:Nat) (x:ByteArray) (a d:Sv.Val) (l:List Sv.Val) (w:World) (hn:n=l.length+2) (hbig:n≤100000) (hv:Hv w b off (a::d::l)) :
  Calls Tryz.prog 268 #[.string x, .slice (some ⟨b,off,none⟩) n c] w fun e w'=>e = .returned (enV (Sv.reckoned x.toList (a::d::l)))∧Gr w w':=by
 have HD:Hid (Sv.reckoned x.toList (a::d::l)=if x.toList == [43] then Sv.int (wrap64 (a.n+d.n)) else if x.toList == [45] then Sv.int (wrap64 (a.n - d.n)) else if x.toList == [42] then Sv.int (wrap64 (a.n*d.n)) else if d.n=0 then Sv.null else Sv.int (wrap64 (a.n.tdiv d.n))):=rfl
 generalize Sv.reckoned x.toList (a::d::l)=dv at *
 have R0:Hid (B3 (w.alloc (.cells #[.int .i64 0, .int .i64 0, .string ⟨#[]⟩] 40)) w.heap.size (.int .i64 0) (.int .i64 0) (.string ⟨#[]⟩)):=B3.new w _ _ _ _
 have G0:Hid (Gr w (w.alloc (.cells #[.int .i64 0, .int .i64 0, .string ⟨#[]⟩] 40))):=(Gr.refl w).alloc _
 have c1:(w.alloc (.cells #[.int .i64 0, .int .i64 0, .string ⟨#[]⟩] 40)).cell? ⟨b,off+1,none⟩=some (.int .i64 a.n):=by
  have:=(hv.gr G0.out).n 0 (by simp);simpa using this
 have c2:(w.alloc (.cells #[.int .i64 0, .int .i64 0, .string ⟨#[]⟩] 40)).cell? ⟨b,off+3+1,none⟩=some (.int .i64 d.n):=by
  have:=(hv.gr G0.out).n 1 (by simp);simpa using this
 have hn1:((n:Int) == 1)=false:=by simp;omega
 have hn2:(0:Int)<(n:Int):=by omega
 have hn3:(1:Int)<(n:Int):=by omega
 have hm:=mixed
 generalize a.n=an at *
 generalize d.n=dn at *
 clear hv hn
 go_enter Tryz.func268,Tryz.ntmps268
 go_wp2_with fail
 go_quiet (fail)
 have R1:Hid (B3 ((w.alloc (.cells #[.int .i64 0, .int .i64 0, .string ⟨#[]⟩] 40)).drewN nq) w.heap.size (.int .i64 0) (.int .i64 0) (.string ⟨#[]⟩)):=R0.out.gr ((Gr.refl _).drewN _)
 have G1:Hid (Gr w ((w.alloc (.cells #[.int .i64 0, .int .i64 0, .string ⟨#[]⟩] 40)).drewN nq)):=G0.out.drewN _
 clear R0 G0
 cases h1:(x.toList == [43])
 ·cases h2:(x.toList == [45])
  ·cases h3:(x.toList == [42])
   ·by_cases h4:dn=0
    ·have h5:(dn == 0)=true:=by simp [h4]
     have HV:Hid (dv=Sv.null):=by show _=_;rw [HD.out,h1,h2,h3,if_pos h4];rfl
     clear h4
     go_wp2_with fail
     refine (null_any _).mono ?_
     rintro e w3 ⟨rfl,g3⟩
     obtain ⟨rl,r0,r1,r2,r3,r4,r5⟩:=R1.out.gr g3
     go_wp2_with fail
     exact bodyPost_ret (v:=enV (Sv.null)) (by simp [results,Tryz.results268,go_sem, *]) rfl ⟨by rw [HV.out],(G1.out.trans g3).set3 (Nat.le_refl _) _ _ _⟩
    ·have h5:(dn == 0)=false:=by simp [h4]
     have HV:Hid (dv=Sv.int (wrap64 (an.tdiv dn))):=by show _=_;rw [HD.out,h1,h2,h3,if_neg h4];rfl
     go_wp2_with fail
     refine (vint_any _ _).mono ?_
     rintro e w3 ⟨rfl,g3⟩
     obtain ⟨rl,r0,r1,r2,r3,r4,r5⟩:=R1.out.gr g3
     go_wp2_with fail
     exact bodyPost_ret (v:=enV (Sv.int (wrap64 (an.tdiv dn)))) (by simp [results,Tryz.results268,go_sem, *]) rfl ⟨by rw [HV.out],(G1.out.trans g3).set3 (Nat.le_refl _) _ _ _⟩
   ·have HV:Hid (dv=Sv.int (wrap64 (an*dn))):=by show _=_;rw [HD.out,h1,h2,h3];rfl
    go_wp2_with fail
    refine (vint_any _ _).mono ?_
    rintro e w3 ⟨rfl,g3⟩
    obtain ⟨rl,r0,r1,r2,r3,r4,r5⟩:=R1.out.gr g3
    go_wp2_with fail
    exact bodyPost_ret (v:=enV (Sv.int (wrap64 (an*dn)))) (by simp [results,Tryz.results268,go_sem, *]) rfl ⟨by rw [HV.out],(G1.out.trans g3).set3 (Nat.le_refl _) _ _ _⟩
  ·have HV:Hid (dv=Sv.int (wrap64 (an - dn))):=by show _=_;rw [HD.out,h1,h2];rfl
   go_wp2_with fail
   refine (vint_any _ _).mono ?_
   rintro e w3 ⟨rfl,g3⟩
   obtain ⟨rl,r0,r1,r2,r3,r4,r5⟩:=R1.out.gr g3
   go_wp2_with fail
   exact bodyPost_ret (v:=enV (Sv.int (wrap64 (an - dn)))) (by simp [results,Tryz.results268,go_sem, *]) rfl ⟨by rw [HV.out],(G1.out.trans g3).set3 (Nat.le_refl _) _ _ _⟩
 ·have HV:Hid (dv=Sv.int (wrap64 (an+dn))):=by show _=_;rw [HD.out,h1];rfl
  go_wp2_with fail
  refine (vint_any _ _).mono ?_
  rintro e w3 ⟨rfl,g3⟩
  obtain ⟨rl,r0,r1,r2,r3,r4,r5⟩:=R1.out.gr g3
  go_wp2_with fail
  exact bodyPost_ret (v:=enV (Sv.int (wrap64 (an+dn)))) (by simp [results,Tryz.results268,go_sem, *]) rfl ⟨by rw [HV.out],(G1.out.trans g3).set3 (Nat.le_refl _) _ _ _⟩
theorem reck_any (b off n c:Nat) (x:ByteArray) (vs:List Sv.Val) (w:World) (hn:n=vs.length) (h1:1≤n) (hbig:n≤100000) (hv:Hv w b off vs) :
  Calls Tryz.prog 268 #[.string x, .slice (some ⟨b,off,none⟩) n c] w fun e w'=>e = .returned (enV (Sv.reckoned x.toList vs))∧Gr w w':=by
 match vs,hn,hv with
 | [],hn,_=>simp at hn;omega
 | [a],hn,hv=>subst hn;exact reck1_any b off c x a w hv
 | a::d::l,hn,hv=>exact reck2_any b off n c x a d l w (by simpa using hn) hbig hv
namespace Sv
def isSum (w:Sp.Bs):Bool:=w == [43]||w == [45]||w == [42]||w == [47]
def of (w:Sp.Bs) (l:List Val):Val:=
 if w == [97,110,100] then decided (bool false) l
 else if w == [111,114] then decided (bool true) l
 else if w == [105,115] then bool (isNull (l.headD null))
 else if w == [99,111,97,108,101,115,99,101] then firstKnown l
 else if l.any isNull then null
 else if w == [110,111,116] then bool (!isTrue (l.headD null))
 else if isSum w then reckoned w l
 else bool (compared w (cmp (l.headD null) (l.tail.headD null)))
def isCmp (w:Sp.Bs):Bool:=!(w == [97,110,100]||w == [111,114]||w == [105,115]||w == [99,111,97,108,101,115,99,101]||w == [110,111,116]||isSum w)
end Sv
theorem sum_cases (w:Sp.Bs) (h:Sv.isSum w=true):(w == [43])=true∨((w == [43])=false∧(w == [45])=true)∨((w == [43])=false∧(w == [45])=false∧(w == [42])=true)∨((w == [43])=false∧(w == [45])=false∧(w == [42])=false∧(w == [47])=true):=by
 unfold Sv.isSum at h
 generalize (w == [43])=a at *
 generalize (w == [45])=b at *
 generalize (w == [42])=c at *
 generalize (w == [47])=d at *
 cases a <;> cases b <;> cases c <;> cases d <;> simp at h ⊢
theorem of_any (b off n c:Nat) (x:ByteArray) (vs:List Sv.Val) (w:World) (hn:n=vs.length) (h1:1≤n) (h2:Sv.isCmp x.toList=true→2≤n) (hbig:n≤100000) (hv:Hv w b off vs) :
  Calls Tryz.prog 233 #[.string x, .slice (some ⟨b,off,none⟩) n c] w fun e w'=>e = .returned (enV (Sv.of x.toList vs))∧Gr w w':=by
 have HD:Hid (Sv.of x.toList vs=Sv.of x.toList vs):=rfl
 have D1:Hid (∀ t w1,Gr w w1→Calls Tryz.prog 264 #[enV t, .slice (some ⟨b,off,none⟩) n c] w1 fun e w'=>e = .returned (enV (Sv.decided t vs))∧Gr w1 w'):=fun t w1 g=>decided_any b off n c vs t w1 hn hbig (hv.gr g)
 have D2:Hid (∀ w1,Gr w w1→Calls Tryz.prog 267 #[.slice (some ⟨b,off,none⟩) n c, .func (.func 265) #[] #[]] w1 fun e w'=>e = .returned (.bool (vs.any Sv.isNull))∧Gr w1 w'):=fun w1 g=>nullIn_any b off n c vs w1 hn hbig (hv.gr g)
 have D3:Hid (∀ w1,Gr w w1→Calls Tryz.prog 266 #[.slice (some ⟨b,off,none⟩) n c] w1 fun e w'=>e = .returned (enV (Sv.firstKnown vs))∧Gr w1 w'):=fun w1 g=>firstKnown_any b off n c vs w1 hn hbig (hv.gr g)
 have D4:Hid (∀ w1,Gr w w1→Calls Tryz.prog 268 #[.string x, .slice (some ⟨b,off,none⟩) n c] w1 fun e w'=>e = .returned (enV (Sv.reckoned x.toList vs))∧Gr w1 w'):=fun w1 g=>reck_any b off n c x vs w1 hn h1 hbig (hv.gr g)
 have hne:0<vs.length:=by omega
 have HA:=hid hv
 have HB:Hid (vs.headD Sv.null=vs[0]):=by show _=_;cases vs with | nil=>simp at hne | cons a l=>rfl
 have HC:Hid ((h:1<vs.length)→vs.tail.headD Sv.null=vs[1]):=fun h=>by
  match vs,h with
  | a::d::l,_=>rfl
 have HN:=hid hn
 have hn2:(0:Int)<(n:Int):=by omega
 have R0:Hid (B3 (w.alloc (.cells #[.int .i64 0, .int .i64 0, .string ⟨#[]⟩] 40)) w.heap.size (.int .i64 0) (.int .i64 0) (.string ⟨#[]⟩)):=B3.new w _ _ _ _
 have G0:Hid (Gr w (w.alloc (.cells #[.int .i64 0, .int .i64 0, .string ⟨#[]⟩] 40))):=(Gr.refl w).alloc _
 have H2:=hid h2
 clear hv hn h2
 cases e1:(x.toList == [97,110,100])
 ·cases e2:(x.toList == [111,114])
  ·cases e3:(x.toList == [105,115])
   ·cases e4:(x.toList == [99,111,97,108,101,115,99,101])
    ·cases e5:vs.any Sv.isNull
     ·rw [e5] at D2
      cases e6:(x.toList == [110,111,116])
      ·cases e7:Sv.isSum x.toList
       ·have h2:2≤n:=H2.out (by simp [Sv.isCmp,e1,e2,e3,e4,e6,e7])
        have HV:Hid (Sv.of x.toList vs=Sv.bool (Sv.compared x.toList (Sv.cmp vs[0] (vs[1]'(by have:=HN.out;omega))))):=by show _=_;simp only [Sv.of,e1,e2,e3,e4,e5,e6,e7];rw [HB.out,HC.out (by have:=HN.out;omega)];rfl
        generalize Sv.of x.toList vs=dv at *
        have C1:Hid (∀ w,Calls Tryz.prog 270 #[.agg #[.int .i64 vs[0].k, .int .i64 vs[0].n, .string vs[0].s], .agg #[.int .i64 (vs[1]'(by have:=HN.out;omega)).k, .int .i64 (vs[1]'(by have:=HN.out;omega)).n, .string (vs[1]'(by have:=HN.out;omega)).s]] w fun e w'=>e = .returned (.int .i64 (Sv.cmp vs[0] (vs[1]'(by have:=HN.out;omega))))∧Gr w w'):=fun w=>vcmp_any vs[0] _ w
        have hn3:(1:Int)<(n:Int):=by omega
        have s1:(x.toList == [43])=false:=by simp only [Sv.isSum,Bool.or_eq_false_iff] at e7;exact e7.1.1.1
        have s2:(x.toList == [45])=false:=by simp only [Sv.isSum,Bool.or_eq_false_iff] at e7;exact e7.1.1.2
        have s3:(x.toList == [42])=false:=by simp only [Sv.isSum,Bool.or_eq_false_iff] at e7;exact e7.1.2
        have s4:(x.toList == [47])=false:=by simp only [Sv.isSum,Bool.or_eq_false_iff] at e7;exact e7.2
        have hm:=mixed
        clear e5 e7
        go_enter Tryz.func233,Tryz.ntmps233
        go_wp2_with fail
        refine (D2.out _ G0.out).mono ?_
        rintro e w1 ⟨rfl,g⟩
        have R1:Hid (B3 w1 w.heap.size (.int .i64 0) (.int .i64 0) (.string ⟨#[]⟩)):=R0.out.gr g
        have G1:Hid (Gr w w1):=G0.out.trans g
        clear g R0 G0
        have HVr:=HA.out.gr G1.out
        have u0:=HVr.k 0 (by have:=HN.out;omega)
        have u1:=HVr.n 0 (by have:=HN.out;omega)
        have u2:=HVr.s 0 (by have:=HN.out;omega)
        clear HVr
        have HVr:=HA.out.gr G1.out
        have v0:=HVr.k 1 (by have:=HN.out;omega)
        have v1:=HVr.n 1 (by have:=HN.out;omega)
        have v2:=HVr.s 1 (by have:=HN.out;omega)
        clear HVr
        simp only [Nat.zero_mul,Nat.add_zero,Nat.one_mul] at u0 u1 u2 v0 v1 v2
        generalize vs[0].k=ak at u0 C1
        generalize vs[0].n=aN at u1 C1
        generalize vs[0].s=aS at u2 C1
        generalize (vs[1]'(by have:=HN.out;omega)).k=bk at v0 C1
        generalize (vs[1]'(by have:=HN.out;omega)).n=bN at v1 C1
        generalize (vs[1]'(by have:=HN.out;omega)).s=bS at v2 C1
        generalize Sv.cmp vs[0] (vs[1]'(by have:=HN.out;omega))=cv at *
        go_wp2_with fail
        go_region_with (first | (go_at_call 270;refine (C1.out _).mono ?_;rintro e w2 ⟨rfl,g2⟩) | (go_at_call 269;refine (compared_any _ _ _).mono ?_;rintro e w3 ⟨rfl,rfl⟩) | (go_at_call 231;refine (vbool_any _ _).mono ?_;rintro e w4 ⟨rfl,g4⟩;obtain ⟨rl,r0,r1,r2,r3,r4,r5⟩:=R1.out.gr (((Gr.refl w1).drew.trans g2).trans g4)))
        all_goals go_wp2_with fail
        all_goals exact bodyPost_ret (v:=enV (Sv.bool (Sv.compared x.toList cv))) (by simp [results,Tryz.results233,go_sem, *]) rfl ⟨by rw [HV.out],(((G1.out.drew).trans g2).trans g4).set3 (Nat.le_refl _) _ _ _⟩
       ·have HV:Hid (Sv.of x.toList vs=Sv.reckoned x.toList vs):=by show _=_;simp only [Sv.of,e1,e2,e3,e4,e5,e6,e7];rfl
        generalize Sv.of x.toList vs=dv at *
        generalize Sv.reckoned x.toList vs=rv at *
        have e8:=sum_cases _ e7
        clear e7 e5
        go_enter Tryz.func233,Tryz.ntmps233
        go_wp2_with fail
        refine (D2.out _ G0.out).mono ?_
        rintro e w1 ⟨rfl,g⟩
        have R1:Hid (B3 w1 w.heap.size (.int .i64 0) (.int .i64 0) (.string ⟨#[]⟩)):=R0.out.gr g
        have G1:Hid (Gr w w1):=G0.out.trans g
        clear g R0 G0
        rcases e8 with e8 | ⟨e8,e9⟩ | ⟨e8,e9,e10⟩ | ⟨e8,e9,e10,e11⟩
        all_goals go_wp2_with fail
        all_goals refine (D4.out _ G1.out).mono ?_
        all_goals rintro e w2 ⟨rfl,g⟩
        all_goals obtain ⟨rl,r0,r1,r2,r3,r4,r5⟩:=R1.out.gr g
        all_goals go_wp2_with fail
        all_goals exact bodyPost_ret (v:=enV rv) (by simp [results,Tryz.results233,go_sem, *]) rfl ⟨by rw [HV.out],(G1.out.trans g).set3 (Nat.le_refl _) _ _ _⟩
      ·have HV:Hid (Sv.of x.toList vs=Sv.bool (!Sv.isTrue vs[0])):=by show _=_;simp only [Sv.of,e1,e2,e3,e4,e5,e6];rw [HB.out];rfl
       generalize Sv.of x.toList vs=dv at *
       have C1:Hid (∀ w,Calls Tryz.prog 193 #[.agg #[.int .i64 vs[0].k, .int .i64 vs[0].n, .string vs[0].s]] w fun e w'=>e = .returned (.bool (Sv.isTrue vs[0]))∧Gr w w'):=fun w=>isTrue_any vs[0] w
       clear e5
       go_enter Tryz.func233,Tryz.ntmps233
       go_wp2_with fail
       refine (D2.out _ G0.out).mono ?_
       rintro e w1 ⟨rfl,g⟩
       have R1:Hid (B3 w1 w.heap.size (.int .i64 0) (.int .i64 0) (.string ⟨#[]⟩)):=R0.out.gr g
       have G1:Hid (Gr w w1):=G0.out.trans g
       clear g R0 G0
       have HVr:=HA.out.gr G1.out
       have u0:=HVr.k 0 (by have:=HN.out;omega)
       have u1:=HVr.n 0 (by have:=HN.out;omega)
       have u2:=HVr.s 0 (by have:=HN.out;omega)
       clear HVr
       simp only [Nat.zero_mul,Nat.add_zero] at u0 u1 u2
       generalize vs[0].k=ak at u0 C1
       generalize vs[0].n=aN at u1 C1
       generalize vs[0].s=aS at u2 C1
       generalize Sv.isTrue vs[0]=tv at *
       go_wp2_with fail
       refine (C1.out _).mono ?_
       rintro e w2 ⟨rfl,g⟩
       have R2:Hid (B3 w2 w.heap.size (.int .i64 0) (.int .i64 0) (.string ⟨#[]⟩)):=R1.out.gr g
       have G2:Hid (Gr w w2):=G1.out.trans g
       clear g R1 G1
       clear u0 u1 u2
       go_wp2_with fail
       refine (vbool_any _ _).mono ?_
       rintro e w3 ⟨rfl,g⟩
       have R3:Hid (B3 w3 w.heap.size (.int .i64 0) (.int .i64 0) (.string ⟨#[]⟩)):=R2.out.gr g
       have G3:Hid (Gr w w3):=G2.out.trans g
       clear g R2 G2
       obtain ⟨rl,r0,r1,r2,r3,r4,r5⟩:=R3.out
       go_wp2_with fail
       exact bodyPost_ret (v:=enV (Sv.bool (!tv))) (by simp [results,Tryz.results233,go_sem, *]) rfl ⟨by rw [HV.out],G3.out.set3 (Nat.le_refl _) _ _ _⟩
     ·rw [e5] at D2
      have HV:Hid (Sv.of x.toList vs=Sv.null):=by show _=_;simp only [Sv.of,e1,e2,e3,e4,e5];rfl
      generalize Sv.of x.toList vs=dv at *
      clear e5
      go_enter Tryz.func233,Tryz.ntmps233
      go_wp2_with fail
      refine (D2.out _ G0.out).mono ?_
      rintro e w1 ⟨rfl,g⟩
      have R1:Hid (B3 w1 w.heap.size (.int .i64 0) (.int .i64 0) (.string ⟨#[]⟩)):=R0.out.gr g
      have G1:Hid (Gr w w1):=G0.out.trans g
      clear g R0 G0
      go_wp2_with fail
      refine (null_any _).mono ?_
      rintro e w2 ⟨rfl,g⟩
      have R2:Hid (B3 w2 w.heap.size (.int .i64 0) (.int .i64 0) (.string ⟨#[]⟩)):=R1.out.gr g
      have G2:Hid (Gr w w2):=G1.out.trans g
      clear g R1 G1
      obtain ⟨rl,r0,r1,r2,r3,r4,r5⟩:=R2.out
      go_wp2_with fail
      exact bodyPost_ret (v:=enV (Sv.null)) (by simp [results,Tryz.results233,go_sem, *]) rfl ⟨by rw [HV.out],G2.out.set3 (Nat.le_refl _) _ _ _⟩
    ·have HV:Hid (Sv.of x.toList vs=Sv.firstKnown vs):=by show _=_;simp only [Sv.of,e1,e2,e3,e4];rfl
     generalize Sv.of x.toList vs=dv at *
     generalize Sv.firstKnown vs=fv at *
     go_enter Tryz.func233,Tryz.ntmps233
     go_wp2_with fail
     refine (D3.out _ G0.out).mono ?_
     rintro e w1 ⟨rfl,g⟩
     have R1:Hid (B3 w1 w.heap.size (.int .i64 0) (.int .i64 0) (.string ⟨#[]⟩)):=R0.out.gr g
     have G1:Hid (Gr w w1):=G0.out.trans g
     clear g R0 G0
     obtain ⟨rl,r0,r1,r2,r3,r4,r5⟩:=R1.out
     go_wp2_with fail
     exact bodyPost_ret (v:=enV (fv)) (by simp [results,Tryz.results233,go_sem, *]) rfl ⟨by rw [HV.out],G1.out.set3 (Nat.le_refl _) _ _ _⟩
   ·have HV:Hid (Sv.of x.toList vs=Sv.bool (Sv.isNull vs[0])):=by show _=_;simp only [Sv.of,e1,e2,e3];rw [HB.out];rfl
    generalize Sv.of x.toList vs=dv at *
    have C1:Hid (∀ w,Calls Tryz.prog 265 #[.agg #[.int .i64 vs[0].k, .int .i64 vs[0].n, .string vs[0].s]] w fun e w'=>e = .returned (.bool (Sv.isNull vs[0]))∧Gr w w'):=fun w=>visNull_any vs[0] w
    have HVr:=HA.out.gr G0.out
    have u0:=HVr.k 0 (by have:=HN.out;omega)
    have u1:=HVr.n 0 (by have:=HN.out;omega)
    have u2:=HVr.s 0 (by have:=HN.out;omega)
    clear HVr
    simp only [Nat.zero_mul,Nat.add_zero] at u0 u1 u2
    generalize vs[0].k=ak at u0 C1
    generalize vs[0].n=aN at u1 C1
    generalize vs[0].s=aS at u2 C1
    generalize Sv.isNull vs[0]=tv at *
    go_enter Tryz.func233,Tryz.ntmps233
    go_wp2_with fail
    refine (C1.out _).mono ?_
    rintro e w1 ⟨rfl,g⟩
    have R1:Hid (B3 w1 w.heap.size (.int .i64 0) (.int .i64 0) (.string ⟨#[]⟩)):=R0.out.gr g
    have G1:Hid (Gr w w1):=G0.out.trans g
    clear g R0 G0
    clear u0 u1 u2
    go_wp2_with fail
    refine (vbool_any _ _).mono ?_
    rintro e w2 ⟨rfl,g⟩
    have R2:Hid (B3 w2 w.heap.size (.int .i64 0) (.int .i64 0) (.string ⟨#[]⟩)):=R1.out.gr g
    have G2:Hid (Gr w w2):=G1.out.trans g
    clear g R1 G1
    obtain ⟨rl,r0,r1,r2,r3,r4,r5⟩:=R2.out
    go_wp2_with fail
    exact bodyPost_ret (v:=enV (Sv.bool tv)) (by simp [results,Tryz.results233,go_sem, *]) rfl ⟨by rw [HV.out],G2.out.set3 (Nat.le_refl _) _ _ _⟩
  ·have HV:Hid (Sv.of x.toList vs=Sv.decided (Sv.bool true) vs):=by show _=_;simp only [Sv.of,e1,e2];rfl
   generalize Sv.of x.toList vs=dv at *
   go_enter Tryz.func233,Tryz.ntmps233
   go_wp2_with fail
   refine (vbool_any _ _).mono ?_
   rintro e w1 ⟨rfl,g⟩
   have R1:Hid (B3 w1 w.heap.size (.int .i64 0) (.int .i64 0) (.string ⟨#[]⟩)):=R0.out.gr g
   have G1:Hid (Gr w w1):=G0.out.trans g
   clear g R0 G0
   go_wp2_with fail
   refine (D1.out _ _ G1.out).mono ?_
   rintro e w2 ⟨rfl,g⟩
   have R2:Hid (B3 w2 w.heap.size (.int .i64 0) (.int .i64 0) (.string ⟨#[]⟩)):=R1.out.gr g
   have G2:Hid (Gr w w2):=G1.out.trans g
   clear g R1 G1
   generalize Sv.decided (Sv.bool true) vs=fv at *
   obtain ⟨rl,r0,r1,r2,r3,r4,r5⟩:=R2.out
   go_wp2_with fail
   exact bodyPost_ret (v:=enV (fv)) (by simp [results,Tryz.results233,go_sem, *]) rfl ⟨by rw [HV.out],G2.out.set3 (Nat.le_refl _) _ _ _⟩
 ·have HV:Hid (Sv.of x.toList vs=Sv.decided (Sv.bool false) vs):=by show _=_;simp only [Sv.of,e1];rfl
  generalize Sv.of x.toList vs=dv at *
  go_enter Tryz.func233,Tryz.ntmps233
  go_wp2_with fail
  refine (vbool_any _ _).mono ?_
  rintro e w1 ⟨rfl,g⟩
  have R1:Hid (B3 w1 w.heap.size (.int .i64 0) (.int .i64 0) (.string ⟨#[]⟩)):=R0.out.gr g
  have G1:Hid (Gr w w1):=G0.out.trans g
  clear g R0 G0
  go_wp2_with fail
  refine (D1.out _ _ G1.out).mono ?_
  rintro e w2 ⟨rfl,g⟩
  have R2:Hid (B3 w2 w.heap.size (.int .i64 0) (.int .i64 0) (.string ⟨#[]⟩)):=R1.out.gr g
  have G2:Hid (Gr w w2):=G1.out.trans g
  clear g R1 G1
  generalize Sv.decided (Sv.bool false) vs=fv at *
  obtain ⟨rl,r0,r1,r2,r3,r4,r5⟩:=R2.out
  go_wp2_with fail
  exact bodyPost_ret (v:=enV (fv)) (by simp [results,Tryz.results233,go_sem, *]) rfl ⟨by rw [HV.out],G2.out.set3 (Nat.le_refl _) _ _ _⟩
end Go.Proofs.YtgnncnhkgmhngaaGreatDoor
namespace Go.Proofs.YtgnncnhkgmhngaaGreatDoor.Dr
open Go
theorem ask_le {α : Type} : ∀ (q : Ask α) (w : World) (d : Nat), d ≤ w.drawn → d ≤ (w.ask q).2.drawn
  | .done a, w, d, h => h
  | .ask what range k, w, d, h => by
    simp only [World.ask]
    split
    · exact ask_le _ _ _ h
    · exact ask_le _ _ _ (Nat.le_trans h (Nat.le_succ _))
theorem sys_le (w : World) (c : Sys) (d : Nat) (h : d ≤ w.drawn) : d ≤ (w.sys c).2.drawn := by
  have h2 := ask_le (Kernel.perform c w.os) w d h
  unfold World.sys
  split
  · exact h
  · rename_i r os w' _ e
    rw [e] at h2
    exact h2
def rw' {α : Type} : Result α → World
  | .ok _ w => w
  | .halt _ w => w
theorem viewStore_same (p : Program) (w w' : World) (at_ : Addr) (u : TypeId) (k : Addr) (v : Value) (b : Bool) (l : List Addr) (h : w.viewStore p at_ u k v b = .ok (w', l)) : w'.drawn = w.drawn := by
  unfold World.viewStore at h
  simp only [bind, Except.bind, pure, Except.pure] at h
  repeat' split at h
  all_goals first | (cases h; done) | skip
  all_goals first | (cases h; rfl) | skip
  all_goals (try (simp only [Except.ok.injEq, Prod.mk.injEq] at h; obtain ⟨rfl, _⟩ := h; rfl))
theorem farStore_same (p : Program) (w w' : World) (a : Addr) (v : Value) (b : Bool) (l : List Addr) (h : w.farStore p a v b = .ok (w', l)) : w'.drawn = w.drawn := by
  unfold World.farStore at h
  split at h
  · split at h
    · rename_i r e
      cases h
      exact viewStore_same p w w' _ _ _ _ _ _ e
    · cases h
  · cases h
theorem run_le {α : Type} (p : Program) (e : Sem α) : ∀ (w : World) (d : Nat), d ≤ w.drawn → d ≤ (rw' (e.run p w)).drawn := by
  induction e with
  | pure a => intro w d h; exact h
  | load m a k ih =>
    intro w d h; simp only [Sem.run]; split
    · exact ih _ _ _ h
    · split
      · exact ih _ _ _ h
      · exact h
  | store m a v k ih =>
    intro w d h
    cases v <;> simp only [Sem.run] <;> first
      | exact h
      | (split
         · split
           · exact h
           · exact ih _ _ h
         · split
           · rename_i hh
             exact ih _ _ (by rw [farStore_same p w _ a _ _ _ hh]; exact h)
           · exact h)
  | new o k ih => intro w d h; exact ih _ _ _ h
  | shape r k ih => intro w d h; exact ih _ _ _ h
  | freeze a n k ih => intro w d h; exact ih _ _ (by unfold World.freeze; split <;> exact h)
  | frozen a k ih => intro w d h; exact ih _ _ _ h
  | getObj r k ih => intro w d h; simp only [Sem.run]; split <;> first | exact h | exact ih _ _ _ h
  | setObj r o k ih => intro w d h; simp only [Sem.run]; split <;> first | exact h | exact ih _ _ h
  | choose q k ih =>
    intro w d h; simp only [Sem.run]; split
    · exact ih _ _ _ h
    · exact ih _ _ _ (Nat.le_trans h (Nat.le_succ _))
  | sys c k ih => intro w d h; exact ih _ _ _ (sys_le w c d h)
  | program k ih => intro w d h; exact ih _ _ _ h
  | mark m k ih => intro w d h; exact ih _ _ h
  | halt h => intro w d h; exact h
theorem run_ok {α : Type} {p : Program} {e : Sem α} {w w' : World} {a : α} {d : Nat} (h : d ≤ w.drawn) (hr : e.run p w = .ok a w') : d ≤ w'.drawn := by
  have := run_le p e w d h; rw [hr] at this; exact this
theorem run_halt {α : Type} {p : Program} {e : Sem α} {w w' : World} {a : Halt} {d : Nat} (h : d ≤ w.drawn) (hr : e.run p w = .halt a w') : d ≤ w'.drawn := by
  have := run_le p e w d h; rw [hr] at this; exact this
theorem runT_ok {α : Type} {p : Program} {e : Sem α} {w w' : World} {a : α} {d : Nat} {es es' : Array Event} (h : d ≤ w.drawn) (hr : e.runT p w es = (.ok a w', es')) : d ≤ w'.drawn :=
  run_ok h (by rw [← Sem.runT_fst p e w es, hr])
theorem runT_halt {α : Type} {p : Program} {e : Sem α} {w w' : World} {a : Halt} {d : Nat} {es es' : Array Event} (h : d ≤ w.drawn) (hr : e.runT p w es = (.halt a w', es')) : d ≤ w'.drawn :=
  run_halt h (by rw [← Sem.runT_fst p e w es, hr])
theorem run1_ok {α : Type} {p : Program} {e : Sem α} {w w' : World} {a : α} {d : Nat} {es : Array Event} (h : d ≤ w.drawn) (hr : (e.runT p w es).1 = .ok a w') : d ≤ w'.drawn :=
  run_ok h (by rw [← Sem.runT_fst p e w es, hr])
theorem run1_halt {α : Type} {p : Program} {e : Sem α} {w w' : World} {a : Halt} {d : Nat} {es : Array Event} (h : d ≤ w.drawn) (hr : (e.runT p w es).1 = .halt a w') : d ≤ w'.drawn :=
  run_halt h (by rw [← Sem.runT_fst p e w es, hr])
def Ge (d : Nat) : GStep → Prop
  | .go _ w _ => d ≤ w.drawn
  | .comm _ _ _ _ w _ => d ≤ w.drawn
  | .spawn _ _ w _ => d ≤ w.drawn
  | .count _ w _ => d ≤ w.drawn
  | .timer _ _ w _ => d ≤ w.drawn
  | .alone _ _ w _ => d ≤ w.drawn
  | .newcoro _ _ _ w _ => d ≤ w.drawn
  | .coroswitch _ _ _ w _ => d ≤ w.drawn
  | .collect _ w _ => d ≤ w.drawn
  | .watch _ w _ => d ≤ w.drawn
  | .ended _ _ _ => True
theorem Ge.after {d : Nat} {s : GStep} (es : Array Event) (h : Ge d s) : Ge d (GStep.after es s) := by cases s <;> exact h
theorem endWith_ge (w : World) (fd : Nat) (t : ByteArray) (o : Outcome) (d : Nat) : Ge d (endWith w fd t o) := by
  unfold endWith
  repeat' split
  all_goals exact trivial
theorem dieOf_ge (fr : Frame) (l : List ByteArray) (m : String) (b : Bool) (w : World) (d : Nat) (h : d ≤ w.drawn) : Ge d (dieOf fr l m b w) := h
theorem endThrow_ge (fr : Frame) (m : String) (w : World) (d : Nat) (h : d ≤ w.drawn) : Ge d (endThrow fr m w) := h
theorem endPrinting_ge (p : Program) (fr : Frame) (v : Value) (w : World) (d : Nat) (h : d ≤ w.drawn) : Ge d (endPrinting p fr v w) := by
  unfold endPrinting
  simp only []
  split
  · exact h
  · exact trivial
theorem endFatal_ge (p : Program) (fr : Frame) (cs : List Frame) (dy : Option Dying) (m : String) (w : World) (d : Nat) (h : d ≤ w.drawn) : Ge d (endFatal p fr cs dy m w) := by
  unfold endFatal
  simp only []
  split
  · rename_i hr; exact run_ok h hr
  · exact trivial
  · exact trivial
theorem writeOn_ge (p : Program) (fr : Frame) (dy : Dying) (f : Fatal) (w : World) (d : Nat) (h : d ≤ w.drawn) : Ge d (writeOn p fr dy f w) := by
  unfold writeOn
  simp only []
  split
  · exact trivial
  · split
    · rename_i hr; exact runT_ok h hr
    · rename_i hr; exact runT_halt h hr
    · exact trivial
    · exact trivial
theorem die_ge (p : Program) (fr : Frame) (dy : Dying) (w : World) (d : Nat) (h : d ≤ w.drawn) : Ge d (die p fr dy w) := by
  unfold die
  split
  · exact writeOn_ge p fr dy _ w d h
  · split
    · split
      · exact h
      · exact endWith_ge _ _ _ _ _
    · simp only []
      split
      · exact h
      · split
        · rename_i hr; exact run_ok h hr
        · exact trivial
      · refine Ge.after _ ?_
        split
        · rename_i hr; exact run1_ok h hr
        · rename_i hr; exact run1_ok h hr
        · exact trivial
        · rename_i hr; exact endPrinting_ge _ _ _ _ _ (run1_halt h hr)
        · exact trivial
      · exact trivial
theorem doReturn_ge (p : Program) (main : Bool) (fr : Frame) (cs : List Frame) (dy : Option Dying) (v : Value) (w : World) (d : Nat) (h : d ≤ w.drawn) : Ge d (doReturn p main fr cs dy v w) := by
  unfold doReturn
  repeat' split
  all_goals first | exact h | exact trivial
theorem ge_ite {d : Nat} {c : Prop} [Decidable c] {a b : GStep} (h1 : Ge d a) (h2 : Ge d b) : Ge d (if c then a else b) := by
  split
  · exact h1
  · exact h2
theorem callDeferred_ge (p : Program) (fr : Frame) (cs : List Frame) (dy : Option Dying) (df : Deferred) (w : World) (d : Nat) (h : d ≤ w.drawn) : Ge d (callDeferred p fr cs dy df w) := by
  unfold callDeferred
  refine ge_ite trivial ?_
  simp only []
  refine Ge.after _ ?_
  split
  all_goals rename_i hr
  all_goals first
    | exact trivial
    | exact run1_ok h hr
    | exact run1_halt h hr
    | exact endFatal_ge _ _ _ _ _ _ _ (run1_halt h hr)
    | exact endThrow_ge _ _ _ _ (run1_halt h hr)
    | (split <;> exact run1_ok h hr)
theorem unwind_ge (p : Program) (main : Bool) (fr : Frame) (cs : List Frame) (dy : Option Dying) (w : World) (d : Nat) (h : d ≤ w.drawn) : Ge d (unwind p main fr cs dy w) := by
  unfold unwind
  split
  · simp only []
    refine Ge.after _ ?_
    split
    · rename_i hr; exact run1_ok h hr
    · exact trivial
  · exact callDeferred_ge _ _ _ _ _ _ _ h
  · split
    · exact trivial
    · split
      · exact trivial
      · split
        · exact h
        · split
          · split
            · exact h
            · split
              · rename_i hr; exact run_ok h hr
              · exact trivial
              · exact trivial
          · split
            · exact endPrinting_ge _ _ _ _ _ h
            · exact trivial
    · split
      · exact doReturn_ge _ _ _ _ _ _ _ _ h
      · simp only []
        refine Ge.after _ ?_
        split
        · rename_i hr; exact doReturn_ge _ _ _ _ _ _ _ _ (run1_ok h hr)
        · exact trivial
        · exact trivial
theorem early_ge (p : Program) (fr : Frame) (cs : List Frame) (dy : Option Dying) (g : Nat) (w : World) (d : Nat) (h : d ≤ w.drawn) : Ge d (early p fr cs dy g w) := by
  unfold early
  simp only []
  have hn : ∀ w : World, d ≤ w.drawn → Ge d (match w.heap[g]? with
    | some (.pending c elem) => GStep.go { frame := fr, callers := cs, status := .running, dying := dy } { w with heap := w.heap.setIfInBounds g (.cells c elem) }
    | _ => .ended (.stuck "early: the variable does not wait" (fr.pos p)) w) := fun w h => by
    split
    · exact h
    · exact trivial
  refine ge_ite (hn w h) ?_
  split
  · exact trivial
  · refine ge_ite (hn w h) ?_
    refine ge_ite (hn w h) ?_
    split
    · exact trivial
    · exact h
    · exact trivial
    · exact hn w h
    · refine ge_ite h ?_
      refine ge_ite (hn w h) ?_
      split
      · rename_i hr; exact hn _ (run_ok h hr)
      · rename_i hr; exact run_ok h hr
      · exact trivial
end Go.Proofs.YtgnncnhkgmhngaaGreatDoor.Dr
