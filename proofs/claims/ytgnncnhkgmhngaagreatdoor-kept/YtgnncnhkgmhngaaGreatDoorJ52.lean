import Derived.Test.YtgnncnhkgmhngaaGreatDoorJ51
namespace Go.Proofs.YtgnncnhkgmhngaaGreatDoor.Sp
theorem st_delete {s:Bs} {a0 e1 a1 e2 a2 e3 z:Nat} {nm:Bs} {W:Nd} (h0:Tok s 0 .key a0 [100,101,108,101,116,101] e1) (h1:Tok s e1 .key a1 [102,114,111,109] e2) (h2:Tok s e2 .name a2 nm e3) (hw:Par s .where_ 9 0 e3 z W) (m:Nat) :
  stmt s (m+9) (.live 0) = .live z/\stm s (m+9) (.live 0) = .delete (nm,a2) W:=by
 constructor
 ·show (if St.is s _ (.live 0)=true then _ else if St.is s _ (.live 0)=true then _ else if St.is s _ (.live 0)=true then _ else if St.is s _ (.live 0)=true then run s (m+9) .where_ 0 (St.nameT s (St.must s _ (St.step s (.live 0)))) else _)=_
  rw [h0.is,h0.is,h0.is,h0.is,h0.step,h1.must,h2.nameT,(hw m).1];rfl
 ·show (if St.is s _ (.live 0)=true then _ else if St.is s _ (.live 0)=true then _ else if St.is s _ (.live 0)=true then _ else if St.is s _ (.live 0)=true then Stm.delete (St.nm s (St.must s _ (St.step s (.live 0)))) (tr s (m+9) .where_ 0 .nil (St.nameT s (St.must s _ (St.step s (.live 0))))) else _)=_
  rw [h0.is,h0.is,h0.is,h0.is,h0.step,h1.must,h2.nameT,h2.nm,(hw m).2];rfl
theorem st_insert {s:Bs} {a0 e1 a1 e2 a2 e3 a3 e4 a4 e5 z a5 y:Nat} {nm:Bs} {W:Nd} (h0:Tok s 0 .key a0 [105,110,115,101,114,116] e1) (h1:Tok s e1 .key a1 [105,110,116,111] e2) (h2:Tok s e2 .name a2 nm e3) (h3:Tok s e3 .key a3 [118,97,108,117,101,115] e4) (h4:Tok s e4 .key a4 [40] e5) (hl:Par s .list 10 0 e5 z W) (h5:Tok s z .key a5 [41] y) (hy:St.is s [44] (.live y)=false) (m:Nat) :
  stmt s (m+10) (.live 0) = .live y/\stm s (m+10) (.live 0) = .insertV a1 (nm,a2) [(a4,W)]:=by
 have hr:rowT s (m+10) (.live e4) = .live y:=by
  show St.must s _ (run s (m+10) .list 0 (St.must s _ (.live e4)))=_
  rw [h4.must,(hl m).1,h5.must]
 constructor
 ·show (if St.is s _ (.live 0)=true then _ else if St.is s _ (.live 0)=true then _ else if St.is s _ (.live 0)=true then (if St.is s _ (St.nameT s (St.must s _ (St.step s (.live 0))))=true then (if St.is s _ (rowT s (m+10) (St.step s (St.nameT s (St.must s _ (St.step s (.live 0))))))=true then _ else rowT s (m+10) (St.step s (St.nameT s (St.must s _ (St.step s (.live 0)))))) else _) else _)=_
  rw [h0.is,h0.is,h0.is,h0.step,h1.must,h2.nameT,h3.is,h3.step,hr,hy];rfl
 ·show (if St.is s _ (.live 0)=true then _ else if St.is s _ (.live 0)=true then _ else if St.is s _ (.live 0)=true then (if St.is s _ (St.nameT s (St.must s _ (St.step s (.live 0))))=true then Stm.insertV (St.at_ s (St.step s (.live 0))) (St.nm s (St.must s _ (St.step s (.live 0)))) ((St.at_ s (St.step s (St.nameT s (St.must s _ (St.step s (.live 0))))),tr s (m+10) .list 0 .nil (St.must s _ (St.step s (St.nameT s (St.must s _ (St.step s (.live 0)))))))::(if St.is s _ (rowT s (m+10) (St.step s (St.nameT s (St.must s _ (St.step s (.live 0))))))=true then _ else [])) else _) else _)=_
  rw [h0.is,h0.is,h0.is,h0.step,h1.must,h2.nameT,h3.is,h3.step,hr,hy,h4.must,(hl m).2,h1.at_,h2.nm,h4.at_];rfl
def dq:Bs->Bs
 | [] => []
 | c::r=>if c == 39 then 39::39::dq r else c::dq r
theorem txtLen_dq (suf:Bs) (hs:∀ c r,suf=c::r->(c == 39)=false):∀ x:Bs,txtLen (dq x++39::suf)=some ((dq x).length+1)
 | []=>by
  cases suf with
  | nil=>rfl
  | cons c r=>
   show (match c::r with | []=>some 1 | c'::r'=>if (c' == 39)=true then (txtLen r').map (·+2) else some 1)=_
   rw [show (match c::r with | []=>some 1 | c'::r'=>if (c' == 39)=true then (txtLen r').map (·+2) else some 1)=(if (c == 39)=true then (txtLen r).map (·+2) else some 1) from rfl,hs c r rfl];rfl
 | c::x=>by
  by_cases h:(c == 39)=true
  ·rw [dq,if_pos h,List.cons_append,List.cons_append]
   show (txtLen (dq x++39::suf)).map (·+2)=_
   rw [txtLen_dq suf hs x]
   rfl
  ·rw [dq,if_neg h,List.cons_append]
   rw [show ∀ g,txtLen (c::g)=(txtLen g).map (·+1) from fun g=>by rw [txtLen.eq_def];simp only [];rw [if_neg h],txtLen_dq suf hs x]
   rfl
theorem unq_dq:∀ x:Bs,unq (dq x)=x
 | []=>rfl
 | c::x=>by
  by_cases h:(c == 39)=true
  ·rw [dq,if_pos h,unq]
   simp only [beq_self_eq_true,Bool.and_self,if_true]
   rw [unq_dq x,eq_of_beq h]
  ·have ih:=unq_dq x
   rw [dq,if_neg h]
   cases hd:dq x with
   | nil=>rw [hd] at ih;rw [unq];rw [<- ih];rfl
   | cons c' r=>
    rw [hd] at ih
    rw [unq,if_neg (by simp [h]),ih]
def qu (x:Bs):Bs:=39::(dq x ++ [39])
theorem txtVal_qu (x:Bs):txtVal (qu x)=x:=by
 have:(List.drop 1 (qu x)).take ((qu x).length - 2)=dq x:=by simp [qu]
 rw [txtVal,this,unq_dq]
theorem first_qu (x suf:Bs) (hs:∀ c r,suf=c::r->(c == 39)=false):first (qu x++suf)=(.txt,(qu x).length):=by
 have e:qu x++suf=39::(dq x++39::suf):=by simp [qu]
 rw [e]
 show (match txtLen (dq x++39::suf) with | some n=>(Cl.txt,n+1) | none=>(.bad,0))=_
 rw [txtLen_dq suf hs]
 simp [qu]
theorem tok_at {s r:Bs} {e a n:Nat} {c:Cl} (h1:e+many isSp (s.drop e)=a) (h2:s.drop a=r) (h3:first r=(c,n)):Tok s e c a (r.take n) (a+n):=by
 have e1:tokAt s e=a:=h1
 refine ⟨?_,e1,?_,?_⟩
 ·unfold tokCl;rw [e1,h2,h3]
 ·unfold tokWord tokLen;rw [e1,h2,h3]
 ·unfold tokEnd tokLen;rw [e1,h2,h3]
theorem del_q (x:Bs) (hx:(qu x).length<=1900):parse ([100,101,108,101,116,101,32,102,114,111,109,32,117,32,119,104,101,114,101,32,98,32,61,32]++qu x)=(0,0)/\tree ([100,101,108,101,116,101,32,102,114,111,109,32,117,32,119,104,101,114,101,32,98,32,61,32]++qu x) = .delete ([117],12) (.clause 14 (.op [61] 22 (.cons (.col [] [98] 20 0 0 0) (.cons (.const (Sv.text ⟨x.toArray⟩)) .nil)))):=by
 generalize hs : [100,101,108,101,116,101,32,102,114,111,109,32,117,32,119,104,101,114,101,32,98,32,61,32]++qu x=s
 have h0:Tok s 0 .key 0 [100,101,108,101,116,101] 6:=by subst hs;exact ⟨by kernel_rfl,by kernel_rfl,by kernel_rfl,by kernel_rfl⟩
 have h1:Tok s 6 .key 7 [102,114,111,109] 11:=by subst hs;exact ⟨by kernel_rfl,by kernel_rfl,by kernel_rfl,by kernel_rfl⟩
 have h2:Tok s 11 .name 12 [117] 13:=by subst hs;exact ⟨by kernel_rfl,by kernel_rfl,by kernel_rfl,by kernel_rfl⟩
 have h3:Tok s 13 .key 14 [119,104,101,114,101] 19:=by subst hs;exact ⟨by kernel_rfl,by kernel_rfl,by kernel_rfl,by kernel_rfl⟩
 have h4:Tok s 19 .name 20 [98] 21:=by subst hs;exact ⟨by kernel_rfl,by kernel_rfl,by kernel_rfl,by kernel_rfl⟩
 have h5:Tok s 21 .key 22 [61] 23:=by subst hs;exact ⟨by kernel_rfl,by kernel_rfl,by kernel_rfl,by kernel_rfl⟩
 have hl:s.length=24+(qu x).length:=by subst hs;simp;omega
 have hq:Tok s 23 .txt 24 (qu x) (24+(qu x).length):=by
  have:=tok_at (s:=s) (r:=qu x) (e:=23) (a:=24) (by subst hs;rfl) (by subst hs;rfl) (show first (qu x)=_ by have:=first_qu x [] (by simp);simpa using this)
  simpa using this
 have hf:Tok s (24+(qu x).length) .fin (24+(qu x).length) [] (24+(qu x).length):=by
  have hd:s.drop (24+(qu x).length) = []:=List.drop_eq_nil_of_le (by omega)
  exact tok_at (r := []) (n:=0) (by rw [hd];rfl) hd rfl
 have pc:Par s .sum 4 0 19 21 (.col [] [98] 20 0 0 0):=par_sum (par_col h4 (by rw [h5.is];rfl)) (h4.no rfl _) (by rw [h5.is];rfl) (by rw [h5.is];rfl) (by rw [h5.is];rfl) (by rw [h5.is];rfl)
 have pt:Par s .sum 4 0 23 (24+(qu x).length) (.const (Sv.text ⟨(txtVal (qu x)).toArray⟩)):=par_sum (par_txt hq) (hq.no rfl _) (hf.no rfl _) (hf.no rfl _) (hf.no rfl _) (hf.no rfl _)
 have pw:=par_where h3 (par_expr (par_eq pc h5 pt) (h4.no rfl _) (hf.no rfl _) (hf.no rfl _))
 obtain ⟨m,hm⟩:∃ m,fuel s=m+9:=⟨fuel s - 9,by unfold fuel;omega⟩
 obtain ⟨r1,r2⟩:=st_delete h0 h1 h2 pw m
 refine ⟨?_,?_⟩
 ·unfold parse
  rw [if_neg (by omega),hm]
  show (if St.isCl s .fin (stmt s (m+9) (.live 0))=true then stmt s (m+9) (.live 0) else _).out=_
  rw [r1,hf.isCl];rfl
 ·unfold tree
  rw [hm,r2,txtVal_qu]
theorem ins_q (x:Bs) (hx:(qu x).length<=1900):parse ([105,110,115,101,114,116,32,105,110,116,111,32,117,32,118,97,108,117,101,115,32,40,55,44,32]++(qu x ++ [41]))=(0,0)/\tree ([105,110,115,101,114,116,32,105,110,116,111,32,117,32,118,97,108,117,101,115,32,40,55,44,32]++(qu x ++ [41]))=ins [117] (Sv.int 7) (Sv.text ⟨x.toArray⟩):=by
 generalize hs : [105,110,115,101,114,116,32,105,110,116,111,32,117,32,118,97,108,117,101,115,32,40,55,44,32]++(qu x ++ [41])=s
 have h0:Tok s 0 .key 0 [105,110,115,101,114,116] 6:=by subst hs;exact ⟨by kernel_rfl,by kernel_rfl,by kernel_rfl,by kernel_rfl⟩
 have h1:Tok s 6 .key 7 [105,110,116,111] 11:=by subst hs;exact ⟨by kernel_rfl,by kernel_rfl,by kernel_rfl,by kernel_rfl⟩
 have h2:Tok s 11 .name 12 [117] 13:=by subst hs;exact ⟨by kernel_rfl,by kernel_rfl,by kernel_rfl,by kernel_rfl⟩
 have h3:Tok s 13 .key 14 [118,97,108,117,101,115] 20:=by subst hs;exact ⟨by kernel_rfl,by kernel_rfl,by kernel_rfl,by kernel_rfl⟩
 have h4:Tok s 20 .key 21 [40] 22:=by subst hs;exact ⟨by kernel_rfl,by kernel_rfl,by kernel_rfl,by kernel_rfl⟩
 have h5:Tok s 22 .num 22 [55] 23:=by subst hs;exact ⟨by kernel_rfl,by kernel_rfl,by kernel_rfl,by kernel_rfl⟩
 have h6:Tok s 23 .key 23 [44] 24:=by subst hs;exact ⟨by kernel_rfl,by kernel_rfl,by kernel_rfl,by kernel_rfl⟩
 have hl:s.length=25+(qu x).length+1:=by subst hs;simp;omega
 have hd1:s.drop (25+(qu x).length) = [41]:=by
  subst hs
  rw [<- List.drop_drop]
  show List.drop (qu x).length (qu x ++ [41]) = [41]
  simp
 have hq:Tok s 24 .txt 25 (qu x) (25+(qu x).length):=by
  have:=tok_at (s:=s) (r:=qu x ++ [41]) (e:=24) (a:=25) (by subst hs;rfl) (by subst hs;rfl) (first_qu x [41] (by rintro c r h;cases h;rfl))
  simpa using this
 have hc:Tok s (25+(qu x).length) .key (25+(qu x).length) [41] (25+(qu x).length+1):=tok_at (r := [41]) (n:=1) (by rw [hd1];rfl) hd1 rfl
 have hf:Tok s (25+(qu x).length+1) .fin (25+(qu x).length+1) [] (25+(qu x).length+1):=by
  have hd:s.drop (25+(qu x).length+1) = []:=List.drop_eq_nil_of_le (by omega)
  exact tok_at (r := []) (n:=0) (by rw [hd];rfl) hd rfl
 have p7:Par s .sum 4 0 22 23 (.const (Sv.int (numVal [55]))):=par_sum (par_num h5) (h5.no rfl _) (by rw [h6.is];rfl) (by rw [h6.is];rfl) (by rw [h6.is];rfl) (by rw [h6.is];rfl)
 have e7:=par_expr (par_plain p7 ⟨by show (St.is s _ (.live _)||St.is s _ (.live _)||St.is s _ (.live _)||St.is s _ (.live _)||St.is s _ (.live _)||St.is s _ (.live _))=false;rw [h6.is,h6.is,h6.is,h6.is,h6.is,h6.is];rfl,by rw [h6.is];rfl,by rw [h6.is];rfl,by rw [h6.is];rfl⟩) (h5.no rfl _) (by rw [h6.is];rfl) (by rw [h6.is];rfl)
 have pt:Par s .sum 4 0 24 (25+(qu x).length) (.const (Sv.text ⟨(txtVal (qu x)).toArray⟩)):=par_sum (par_txt hq) (hq.no rfl _) (by rw [hc.is];rfl) (by rw [hc.is];rfl) (by rw [hc.is];rfl) (by rw [hc.is];rfl)
 have et:=par_expr (par_plain pt ⟨by show (St.is s _ (.live _)||St.is s _ (.live _)||St.is s _ (.live _)||St.is s _ (.live _)||St.is s _ (.live _)||St.is s _ (.live _))=false;rw [hc.is,hc.is,hc.is,hc.is,hc.is,hc.is];rfl,by rw [hc.is];rfl,by rw [hc.is];rfl,by rw [hc.is];rfl⟩) (hq.no rfl _) (by rw [hc.is];rfl) (by rw [hc.is];rfl)
 obtain ⟨m,hm⟩:∃ m,fuel s=m+10:=⟨fuel s - 10,by unfold fuel;omega⟩
 obtain ⟨r1,r2⟩:=st_insert h0 h1 h2 h3 h4 (par_two e7 h6 et (by rw [hc.is];rfl)) hc (hf.no rfl _) m
 refine ⟨?_,?_⟩
 ·unfold parse
  rw [if_neg (by omega),hm]
  show (if St.isCl s .fin (stmt s (m+10) (.live 0))=true then stmt s (m+10) (.live 0) else _).out=_
  rw [r1,hf.isCl];rfl
 ·unfold tree
  rw [hm,r2,txtVal_qu]
  rfl
theorem st_select {s:Bs} {a0 e1 e2 a2 e3 a3 e4 a4 a5 e5 z a1 w4:Nat} {nm c:Bs} {L W:Nd} (h0:Tok s 0 .key a0 [115,101,108,101,99,116] e1) (h1:Tok s e1 .name a1 c w4) (hL:Par s .list 9 0 e1 e2 L) (h2:Tok s e2 .key a2 [102,114,111,109] e3) (h3:Tok s e3 .name a3 nm e4) (h4:Tok s e4 .key a4 [119,104,101,114,101] e5) (hw:Par s .where_ 9 0 e4 z W) (hf:Tok s z .fin a5 [] z) (m:Nat) :
  stmt s (m+12) (.live 0) = .live z/\stm s (m+12) (.live 0) = .query (.sel false a1 L [((nm,a3),nm,a3)] W):=by
 have c0:St.take s [100,105,115,116,105,110,99,116] (.live e1) = .live e1:=by
  show (if St.is s _ (.live e1)=true then _ else _)=_
  rw [h1.no rfl];rfl
 have fr:run s (m+9) .fromL 0 (.live e3) = .live e4:=by
  show (if St.is s _ (if St.isCl s .name (St.nameT s (.live e3))=true then St.step s (St.nameT s (.live e3)) else St.nameT s (.live e3))=true then _ else (if St.isCl s .name (St.nameT s (.live e3))=true then St.step s (St.nameT s (.live e3)) else St.nameT s (.live e3)))=_
  rw [h3.nameT,h4.isCl]
  show (if St.is s _ (.live e4)=true then _ else St.live e4)=_
  rw [h4.is];rfl
 have ff:tr.froms s (m+9) (.live e3) = [((nm,a3),nm,a3)]:=by
  show (if St.is s _ (if St.isCl s .name (St.nameT s (.live e3))=true then St.step s (St.nameT s (.live e3)) else St.nameT s (.live e3))=true then _ else [(St.nm s (.live e3),if St.isCl s .name (St.nameT s (.live e3))=true then St.nm s (St.nameT s (.live e3)) else St.nm s (.live e3))])=_
  rw [h3.nameT,h4.isCl,h3.nm]
  show (if St.is s _ (.live e4)=true then _ else [((nm,a3),(nm,a3))])=_
  rw [h4.is];rfl
 have fa:run s (m+10) .factor 0 (.live 0) = .live z:=by
  show (if St.is s _ (.live 0)=true then _ else run s (m+9) .where_ 0 (if St.is s _ (if St.is s _ (St.take s _ (St.must s _ (.live 0)))=true then St.step s (St.take s _ (St.must s _ (.live 0))) else run s (m+9) .list 0 (St.take s _ (St.must s _ (.live 0))))=true then run s (m+9) .fromL 0 (St.step s (if St.is s _ (St.take s _ (St.must s _ (.live 0)))=true then St.step s (St.take s _ (St.must s _ (.live 0))) else run s (m+9) .list 0 (St.take s _ (St.must s _ (.live 0))))) else (if St.is s _ (St.take s _ (St.must s _ (.live 0)))=true then St.step s (St.take s _ (St.must s _ (.live 0))) else run s (m+9) .list 0 (St.take s _ (St.must s _ (.live 0))))))=_
  rw [h0.is,h0.must,c0,h1.no rfl,(hL m).1]
  show run s (m+9) .where_ 0 (if St.is s _ (.live e2)=true then run s (m+9) .fromL 0 (St.step s (.live e2)) else _)=_
  rw [h2.is,h2.step,fr]
  exact (hw m).1
 have ta:tr s (m+10) .factor 0 .nil (.live 0) = .sel false a1 L [((nm,a3),nm,a3)] W:=by
  show (if St.is s _ (.live 0)=true then _ else Nd.sel (St.is s _ (St.must s _ (.live 0))) (St.at_ s (St.take s _ (St.must s _ (.live 0)))) (if St.is s _ (St.take s _ (St.must s _ (.live 0)))=true then Nd.none else tr s (m+9) .list 0 .nil (St.take s _ (St.must s _ (.live 0)))) (if St.is s _ (if St.is s _ (St.take s _ (St.must s _ (.live 0)))=true then St.step s (St.take s _ (St.must s _ (.live 0))) else run s (m+9) .list 0 (St.take s _ (St.must s _ (.live 0))))=true then tr.froms s (m+9) (St.step s (if St.is s _ (St.take s _ (St.must s _ (.live 0)))=true then St.step s (St.take s _ (St.must s _ (.live 0))) else run s (m+9) .list 0 (St.take s _ (St.must s _ (.live 0))))) else []) (tr s (m+9) .where_ 0 .nil (if St.is s _ (if St.is s _ (St.take s _ (St.must s _ (.live 0)))=true then St.step s (St.take s _ (St.must s _ (.live 0))) else run s (m+9) .list 0 (St.take s _ (St.must s _ (.live 0))))=true then run s (m+9) .fromL 0 (St.step s (if St.is s _ (St.take s _ (St.must s _ (.live 0)))=true then St.step s (St.take s _ (St.must s _ (.live 0))) else run s (m+9) .list 0 (St.take s _ (St.must s _ (.live 0))))) else (if St.is s _ (St.take s _ (St.must s _ (.live 0)))=true then St.step s (St.take s _ (St.must s _ (.live 0))) else run s (m+9) .list 0 (St.take s _ (St.must s _ (.live 0)))))))=_
  rw [h0.is,h0.must,c0,h1.no rfl,h1.no rfl,(hL m).1,(hL m).2,h1.at_]
  show Nd.sel false a1 L (if St.is s _ (.live e2)=true then tr.froms s (m+9) (St.step s (.live e2)) else []) (tr s (m+9) .where_ 0 .nil (if St.is s _ (.live e2)=true then run s (m+9) .fromL 0 (St.step s (.live e2)) else _))=_
  rw [h2.is,h2.step,fr,ff]
  exact congrArg _ (hw m).2
 have te:run s (m+11) .term 0 (.live 0) = .live z/\tr s (m+11) .term 0 .nil (.live 0) = .sel false a1 L [((nm,a3),nm,a3)] W:=by
  constructor
  ·show run s (m+10) .termL 0 (run s (m+10) .factor 0 (.live 0))=_
   rw [fa]
   show (if St.is s _ (.live z)=true then _ else St.live z)=_
   rw [hf.no rfl];rfl
  ·show tr s (m+10) .termL 0 (tr s (m+10) .factor 0 .nil (.live 0)) (run s (m+10) .factor 0 (.live 0))=_
   rw [fa,ta]
   show (if St.is s _ (.live z)=true then _ else Nd.sel false a1 L [((nm,a3),nm,a3)] W)=_
   rw [hf.no rfl];rfl
 have qu' : run s (m+12) .query 0 (.live 0) = .live z/\tr s (m+12) .query 0 .nil (.live 0) = .sel false a1 L [((nm,a3),nm,a3)] W:=by
  constructor
  ·show run s (m+11) .queryL 0 (run s (m+11) .term 0 (.live 0))=_
   rw [te.1]
   show (if (St.is s _ (.live z)||St.is s _ (.live z))=true then _ else St.live z)=_
   rw [hf.no rfl,hf.no rfl];rfl
  ·show tr s (m+11) .queryL 0 (tr s (m+11) .term 0 .nil (.live 0)) (run s (m+11) .term 0 (.live 0))=_
   rw [te.1,te.2]
   show (if (St.is s _ (.live z)||St.is s _ (.live z))=true then _ else Nd.sel false a1 L [((nm,a3),nm,a3)] W)=_
   rw [hf.no rfl,hf.no rfl];rfl
 constructor
 ·show (if St.is s _ (.live 0)=true then _ else if St.is s _ (.live 0)=true then _ else if St.is s _ (.live 0)=true then _ else if St.is s _ (.live 0)=true then _ else if St.is s _ (.live 0)=true then _ else if (St.is s _ (.live 0)||St.is s _ (.live 0)||St.is s _ (.live 0))=true then _ else run s (m+12) .query 0 (.live 0))=_
  rw [h0.is,h0.is,h0.is,h0.is,h0.is,h0.is,h0.is,h0.is,qu'.1];rfl
 ·show (if St.is s _ (.live 0)=true then _ else if St.is s _ (.live 0)=true then _ else if St.is s _ (.live 0)=true then _ else if St.is s _ (.live 0)=true then _ else if St.is s _ (.live 0)=true then _ else if (St.is s _ (.live 0)||St.is s _ (.live 0)||St.is s _ (.live 0))=true then _ else Stm.query (tr s (m+12) .query 0 .nil (.live 0)))=_
  rw [h0.is,h0.is,h0.is,h0.is,h0.is,h0.is,h0.is,h0.is,qu'.2];rfl
def beq (a a' : Nat) (ce:Int) (tx:Sv.Val):Nd := .op [61] a (.cons (.col [] [98] a' 0 0 ce) (.cons (.const tx) .nil))
def selB (ce:Int) (tx:Sv.Val):Nd := .sel false 7 (.cons (.col [] [98] 7 0 0 ce) .nil) [(([117],14), [117],14)] (.clause 16 (beq 24 22 ce tx))
def delB (ce:Int) (tx:Sv.Val):Stm := .delete ([117],12) (.clause 14 (beq 22 20 ce tx))
theorem sel_q (x:Bs) (hx:(qu x).length<=1900):parse ([115,101,108,101,99,116,32,98,32,102,114,111,109,32,117,32,119,104,101,114,101,32,98,32,61,32]++qu x)=(0,0)/\tree ([115,101,108,101,99,116,32,98,32,102,114,111,109,32,117,32,119,104,101,114,101,32,98,32,61,32]++qu x) = .query (selB 0 (Sv.text ⟨x.toArray⟩)):=by
 generalize hs : [115,101,108,101,99,116,32,98,32,102,114,111,109,32,117,32,119,104,101,114,101,32,98,32,61,32]++qu x=s
 have h0:Tok s 0 .key 0 [115,101,108,101,99,116] 6:=by subst hs;exact ⟨by kernel_rfl,by kernel_rfl,by kernel_rfl,by kernel_rfl⟩
 have h1:Tok s 6 .name 7 [98] 8:=by subst hs;exact ⟨by kernel_rfl,by kernel_rfl,by kernel_rfl,by kernel_rfl⟩
 have h2:Tok s 8 .key 9 [102,114,111,109] 13:=by subst hs;exact ⟨by kernel_rfl,by kernel_rfl,by kernel_rfl,by kernel_rfl⟩
 have h3:Tok s 13 .name 14 [117] 15:=by subst hs;exact ⟨by kernel_rfl,by kernel_rfl,by kernel_rfl,by kernel_rfl⟩
 have h4:Tok s 15 .key 16 [119,104,101,114,101] 21:=by subst hs;exact ⟨by kernel_rfl,by kernel_rfl,by kernel_rfl,by kernel_rfl⟩
 have h5:Tok s 21 .name 22 [98] 23:=by subst hs;exact ⟨by kernel_rfl,by kernel_rfl,by kernel_rfl,by kernel_rfl⟩
 have h6:Tok s 23 .key 24 [61] 25:=by subst hs;exact ⟨by kernel_rfl,by kernel_rfl,by kernel_rfl,by kernel_rfl⟩
 have hl:s.length=26+(qu x).length:=by subst hs;simp;omega
 have hq:Tok s 25 .txt 26 (qu x) (26+(qu x).length):=by
  have:=tok_at (s:=s) (r:=qu x) (e:=25) (a:=26) (by subst hs;rfl) (by subst hs;rfl) (show first (qu x)=_ by have:=first_qu x [] (by simp);simpa using this)
  simpa using this
 have hf:Tok s (26+(qu x).length) .fin (26+(qu x).length) [] (26+(qu x).length):=by
  have hd:s.drop (26+(qu x).length) = []:=List.drop_eq_nil_of_le (by omega)
  exact tok_at (r := []) (n:=0) (by rw [hd];rfl) hd rfl
 have p0:Par s .sum 4 0 6 8 (.col [] [98] 7 0 0 0):=par_sum (par_col h1 (by rw [h2.is];rfl)) (h1.no rfl _) (by rw [h2.is];rfl) (by rw [h2.is];rfl) (by rw [h2.is];rfl) (by rw [h2.is];rfl)
 have e0:=par_expr (par_plain p0 ⟨by show (St.is s _ (.live _)||St.is s _ (.live _)||St.is s _ (.live _)||St.is s _ (.live _)||St.is s _ (.live _)||St.is s _ (.live _))=false;rw [h2.is,h2.is,h2.is,h2.is,h2.is,h2.is];rfl,by rw [h2.is];rfl,by rw [h2.is];rfl,by rw [h2.is];rfl⟩) (h1.no rfl _) (by rw [h2.is];rfl) (by rw [h2.is];rfl)
 have pc:Par s .sum 4 0 21 23 (.col [] [98] 22 0 0 0):=par_sum (par_col h5 (by rw [h6.is];rfl)) (h5.no rfl _) (by rw [h6.is];rfl) (by rw [h6.is];rfl) (by rw [h6.is];rfl) (by rw [h6.is];rfl)
 have pt:Par s .sum 4 0 25 (26+(qu x).length) (.const (Sv.text ⟨(txtVal (qu x)).toArray⟩)):=par_sum (par_txt hq) (hq.no rfl _) (hf.no rfl _) (hf.no rfl _) (hf.no rfl _) (hf.no rfl _)
 have pw:=par_where h4 (par_expr (par_eq pc h6 pt) (h5.no rfl _) (hf.no rfl _) (hf.no rfl _))
 obtain ⟨m,hm⟩:∃ m,fuel s=m+12:=⟨fuel s - 12,by unfold fuel;omega⟩
 obtain ⟨r1,r2⟩:=st_select h0 h1 (par_one e0 (by rw [h2.is];rfl)) h2 h3 h4 pw hf m
 refine ⟨?_,?_⟩
 ·unfold parse
  rw [if_neg (by omega),hm]
  show (if St.isCl s .fin (stmt s (m+12) (.live 0))=true then stmt s (m+12) (.live 0) else _).out=_
  rw [r1,hf.isCl];rfl
 ·unfold tree
  rw [hm,r2,txtVal_qu]
  rfl
theorem c_del_q {R S:List Row} {T:List Tb} (h:TU R S T) (x:ByteArray):check T (delB 0 (Sv.text x))=(⟨0,0,false⟩,delB 1 (Sv.text x)):=by
 rcases h with rfl | rfl <;> kernel_rfl
theorem c_sel_q {R S:List Row} {T:List Tb} (h:TU R S T) (hS:S.length<=1000) (x:ByteArray):check T (.query (selB 0 (Sv.text x)))=(⟨0,0,false⟩, .query (selB 1 (Sv.text x))):=by
 have e:check T (.query (selB 0 (Sv.text x)))=(CS.note [[([117],uu S)]] ⟨0,0,false⟩, .query (selB 1 (Sv.text x))):=by rcases h with rfl | rfl <;> kernel_rfl
 rw [e,note_one hS]
end Go.Proofs.YtgnncnhkgmhngaaGreatDoor.Sp
namespace Go.Proofs.YtgnncnhkgmhngaaGreatDoor
open Go.RowKit Go.Sort
theorem cmp_self (v:Sv.Val):Sv.cmp v v=0:=cm_val.refl v
theorem holds_q (T:List Sp.Tb) (a a' c:Nat) (x:ByteArray) (va:Sv.Val) (l:List (List Sp.Row)):Sp.holds T (.clause c (Sp.beq a a' 1 (Sv.text x))) ([[va,Sv.text x]]::l)=true:=by
 have e:Sp.val (Sp.rn T (Sp.beq a a' 1 (Sv.text x)) ([[va,Sv.text x]]::l))=Sv.of [61] [Sv.text x,Sv.text x]:=rfl
 have e2:Sv.of [61] [Sv.text x,Sv.text x]=Sv.bool true:=by
  have e3:Sv.of [61] [Sv.text x,Sv.text x]=Sv.bool (Sv.compared [61] (Sv.cmp (Sv.text x) (Sv.text x))):=by kernel_rfl
  rw [e3,cmp_self];rfl
 show Sv.isTrue (Sp.val (Sp.rn T (Sp.beq a a' 1 (Sv.text x)) ([[va,Sv.text x]]::l)))=true
 rw [e,e2];rfl
theorem eo_one {va vb:Sv.Val} {nm:Sp.Bs} {S:List Sp.Row} : Sp.Eo [[[va,vb]]] [[(nm,Sp.uu S)]]:=by
 refine ⟨by simp,fun o lv ho=>?_⟩
 match o,ho with
 | 0,ho=>
  simp only [List.getElem?_cons_zero,Option.some.injEq] at ho
  subst ho
  refine ⟨[[va,vb]],rfl,by simp,fun i y hi=>?_⟩
  match i,hi with
  | 0,hi=>
   simp only [List.getElem?_cons_zero,Option.some.injEq] at hi
   subst hi
   exact ⟨[va,vb],rfl,by simp,by simp [Sp.uu,Sp.cab]⟩
  | i+1,hi=>simp at hi
 | o+1,ho=>simp at ho
theorem runs_del_q {R:List Sp.Row} {T:List Sp.Tb} {va:Sv.Val} {x:ByteArray} {wd:Nat} (h:Sp.TU R [[va,Sv.text x]] T):Runs T (Sp.delB 1 (Sv.text x)) (Sp.withT (Sp.uu []) T) wd 0 0 0 1 []:=by
 have hf:=holds_q T 22 20 14 x va []
 have:=runs_remove (wd:=wd) (N:=90000) (nm:=([117],12)) (wh := .clause 14 (Sp.beq 22 20 1 (Sv.text x))) (lvs := [[([117],Sp.uu [[va,Sv.text x]])]]) h.fu (by omega) rfl (by simp [Sp.wf,Sp.beq,Sp.Nd.len];decide) (fun r hr=>by
  have hr:r = [va,Sv.text x]:=by simpa [Sp.uu] using hr
  subst hr
  exact eo_one) ⟨⟨_,_,rfl,rfl,by decide,by simp [Sp.uu,Sp.cab]⟩,trivial,trivial⟩ h.len
 simpa [Sp.uu,Sp.delB,hf] using this
theorem sort_one (r:Sp.Row):sortR [r] = [r]:=by simp [sortR]
theorem runs_sel_q {R:List Sp.Row} {T:List Sp.Tb} {va:Sv.Val} {x:ByteArray} (h:Sp.TU R [[va,Sv.text x]] T) (hR:∀ r∈R,r.length=2):Runs T (.query (Sp.selB 1 (Sv.text x))) T 1 0 0 1 0 [[Sv.text x]]:=by
 have hf:=holds_q T 24 22 16 x va []
 have e:Sp.rowsOf T [(([117],14), [117],14)] = [[[va,Sv.text x]]]:=by simp [Sp.rowsOf,h.fu,Sp.uu]
 have ec:Sp.cellsOf T (.cons (.col [] [98] 7 0 0 1) .nil) [[va,Sv.text x]] [] = [Sv.text x]:=rfl
 have hrn:Sp.rn T (Sp.selB 1 (Sv.text x)) [] = [[Sv.text x]]:=by
  unfold Sp.selB
  rw [Sp.rn_sel,e,Sp.prods_one]
  simp only [List.map_cons,List.map_nil,List.flatMap_cons,List.flatMap_nil,List.append_nil,hf,if_true,ec]
  exact sort_one _
 rw [<- hrn]
 refine runs_select (N:=90000) (wd:=1) (by omega) ?_ rfl ?_ (h.ok hR (by simp)) h.cols (by simp) (by simp) ?_ ?_ (by omega) (fun h=>by cases h) (fun _=>rfl)
 ·refine ⟨rfl, .inr ⟨by simp [Sp.Nd.len],by simp [Sp.Nd.len],by simp [Sp.wf]⟩,by simp,?_⟩
  simp [Sp.wf,Sp.beq,Sp.Nd.len];decide
 ·have hlv:Sp.lvT T [(([117],14), [117],14)] = [([117],Sp.uu [[va,Sv.text x]])]:=by simp [Sp.lvT,h.fu]
  refine ⟨?_,?_,?_,?_⟩
  ·intro y hy
   rw [List.mem_singleton] at hy
   subst hy
   simp [h.fu]
  ·rw [hlv]
   simp [Sp.product,Sp.uu]
  ·rw [hlv]
   exact ⟨⟨_,_,rfl,rfl,by decide,by simp [Sp.uu,Sp.cab]⟩,trivial⟩
  ·rw [hlv]
   exact ⟨⟨_,_,rfl,rfl,by decide,by simp [Sp.uu,Sp.cab]⟩,trivial,trivial⟩
 ·rw [e,Sp.prods_one]
  simp
 ·rw [e,Sp.prods_one]
  intro tk htk
  have htk:tk = [[va,Sv.text x]]:=by simpa using htk
  subst htk
  rfl
theorem dbl_dq:∀ l:List UInt8,dbl l=Sp.dq l
 | []=>rfl
 | c::l=>by rw [dbl,Sp.dq,dbl_dq l]
theorem bz_self (x:ByteArray):(⟨x.data.toList.toArray⟩:ByteArray)=x:=by cases x;simp
theorem does_ins_q {bb:Nat} {R:List Sp.Row} {x s:ByteArray} {w0 w:World} (hr:VRX w0) (h:Fil bb w0 R [] w) (hs:s.data.toList = [105,110,115,101,114,116,32,105,110,116,111,32,117,32,118,97,108,117,101,115,32,40,55,44,32]++(Sp.qu x.data.toList ++ [41])) (hx:(Sp.qu x.data.toList).length<=1900) :
  Calls Tryz.prog 21 #[.pointer (some ⟨bb,0,none⟩), .string s, .int .i64 1] w fun r w'=>r = .returned (.bool true)/\Fil bb w0 R [[Sv.int 7,Sv.text x]] w'/\Kept bb w w':=by
 obtain ⟨T,hT,h⟩:=h
 have hi:=Sp.ins_q x.data.toList hx
 rw [<- hs,bz_self] at hi
 refine (does_ok hr h hi.1 hi.2 (fun z=>by simp [Sp.ins]) (ok_ins _ _ _) (Sp.c_ins_u hT ⟨.inl ⟨_,rfl⟩, .inl ⟨_,rfl⟩⟩) (runs_ins_u hT _ _ (by simp))).mono ?_
 rintro r w' ⟨rfl,h',h3⟩
 exact ⟨rfl,⟨_,hT.wu _,h'⟩,h3⟩
theorem does_del_q {bb:Nat} {R:List Sp.Row} {va:Sv.Val} {x s:ByteArray} {w0 w:World} (hr:VRX w0) (h:Fil bb w0 R [[va,Sv.text x]] w) (hs:s.data.toList = [100,101,108,101,116,101,32,102,114,111,109,32,117,32,119,104,101,114,101,32,98,32,61,32]++Sp.qu x.data.toList) (hx:(Sp.qu x.data.toList).length<=1900) :
  Calls Tryz.prog 21 #[.pointer (some ⟨bb,0,none⟩), .string s, .int .i64 1] w fun r w'=>r = .returned (.bool true)/\Fil bb w0 R [] w'/\Kept bb w w':=by
 obtain ⟨T,hT,h⟩:=h
 have hi:=Sp.del_q x.data.toList hx
 rw [<- hs,bz_self] at hi
 refine (does_ok hr h hi.1 hi.2 (fun z=>by simp) (by simp [Sp.okS,Sp.wf,Sp.Nd.len,Sp.Nd.dep];decide) (Sp.c_del_q hT x) (runs_del_q hT)).mono ?_
 rintro r w' ⟨rfl,h',h3⟩
 exact ⟨rfl,⟨_,hT.wu _,h'⟩,h3⟩
theorem asks_sel_q {bb:Nat} {R:List Sp.Row} {va:Sv.Val} {x s:ByteArray} {w0 w:World} (hr:VRX w0) (h:Fil bb w0 R [[va,Sv.text x]] w) (hs:s.data.toList = [115,101,108,101,99,116,32,98,32,102,114,111,109,32,117,32,119,104,101,114,101,32,98,32,61,32]++Sp.qu x.data.toList) (hx:(Sp.qu x.data.toList).length<=1900) (hR:∀ r∈R,r.length=2) :
  Calls Tryz.prog 17 #[.pointer (some ⟨bb,0,none⟩), .string s, .int .i64 1] w fun r w'=>∃ rv,r = .returned (.tuple #[rv, .bool true])/\RsO w.heap.size 1 w' rv [[Sv.text x]]/\Fil bb w0 R [[va,Sv.text x]] w'/\Kept bb w w':=by
 obtain ⟨T,hT,h⟩:=h
 have hi:=Sp.sel_q x.data.toList hx
 rw [<- hs,bz_self] at hi
 refine (asks_ok (wd:=1) hr h hi.1 hi.2 (fun z=>by simp) (by simp [Sp.okS,Sp.selB,Sp.beq,Sp.wf,Sp.Nd.len,Sp.Nd.dep];decide) (Sp.c_sel_q hT (by simp) x) (by simp) (by omega) (by omega) (runs_sel_q hT hR)).mono ?_
 rintro r w' ⟨rv,rfl,h1,h2,h3⟩
 exact ⟨rv,rfl,h1,⟨T,hT,h2⟩,h3⟩
theorem rvs_len {l:List (Int×Int)} : ∀ r∈rvs l,r.length=2:=by
 intro r hr
 obtain ⟨x,_,rfl⟩:=List.mem_map.1 hr
 rfl
theorem RawV.bel {w w' : World} {v:Value} {l:List (Int×Int)} (h:RawV w v l) (g:RowKit.Below w.heap.size w w'):RawV w' v l:=by
 rcases h with h | ⟨b,off,c,e,h⟩
 ·exact .inl h
 ·exact .inr ⟨b,off,c,e,⟨Nat.lt_of_lt_of_le h.lb g.size,fun i hi=>⟨(g.cell (p:=⟨b,_,none⟩) h.lb).trans (h.at_ i hi).1,(g.cell (p:=⟨b,_,none⟩) h.lb).trans (h.at_ i hi).2⟩,h.rng⟩⟩
theorem Fil.below {bb:Nat} {w0 w:World} {R S:List Sp.Row} (h:Fil bb w0 R S w):RowKit.Below w0.heap.size w0 w:=by
 obtain ⟨T,_,tv,_,_,_,h⟩:=h
 exact h
theorem Lv.sl {w:World} {v:Value} {rs:List (List Sv.Val)} (h:Lv w v rs):∃ a c,v = .slice a rs.length c:=by
 rcases h with ⟨rfl,rfl⟩ | ⟨b,off,c,rfl,_⟩
 ·exact ⟨none,0,rfl⟩
 ·exact ⟨_,c,rfl⟩
theorem lrows_v {l:List (Int×Int)} {v:Value} {w:World} (h:RawV w v l) (hl:l.length<=9223372036854775807) :
  Calls Tryz.prog 19 #[v] w fun e w'=>∃ v,e = .returned v/\Lv w' v (rvs (l.take 20))/\Gr w w':=by
 rcases h with ⟨a,c,rfl,rfl⟩ | ⟨b,off,c,rfl,h⟩
 ·exact lrows_nil a c w
 ·exact lrows_any l b off c w hl h
end Go.Proofs.YtgnncnhkgmhngaaGreatDoor
