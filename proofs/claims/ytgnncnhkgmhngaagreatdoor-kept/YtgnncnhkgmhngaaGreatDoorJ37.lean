import Derived.Calls
import Derived.RunT
namespace Go.Proofs.YtgnncnhkgmhngaaGreatDoor.Dr
open Go
theorem ask_le {α : Type} : ∀ (q : Ask α) (w : World) (d : Nat), d <= w.drawn -> d <= (w.ask q).2.drawn
  | .done a, w, d, h => h
  | .ask what range k, w, d, h => by
    simp only [World.ask]
    split
    · exact ask_le _ _ _ h
    · exact ask_le _ _ _ (Nat.le_trans h (Nat.le_succ _))
theorem sys_le (w : World) (c : Sys) (d : Nat) (h : d <= w.drawn) : d <= (w.sys c).2.drawn := by
  have h2 := ask_le (Kernel.perform c w.os) w d h
  unfold World.sys
  split
  · exact h
  · rename_i r os w' _ e
    rw [e] at h2
    exact h2
def rw' {α : Type} : Result α -> World
  | .ok _ w => w
  | .halt _ w => w
theorem viewStore_same (p : Program) (w w' : World) (at_ : Addr) (u : TypeId) (k : Addr) (v : Value) (b : Bool) (l : List Addr) (h : w.viewStore p at_ u k v b = .ok (w', l)) : w'.drawn = w.drawn := by
  unfold World.viewStore at h
  simp only [bind, Except.bind, pure, Except.pure] at h
  repeat' split at h
  all_goals first | (cases h; done) | skip
  all_goals first | (cases h; rfl) | skip
  all_goals (try (simp only [Except.ok.injEq, Prod.mk.injEq] at h; obtain ⟨rfl, _⟩ := h; rfl))
theorem farStore_same (p : Program) (w w' : World) (a : Addr) (v : Value) (b : Bool) (l : List Addr) (h : w.farStore p a v b = .ok (w', l)) : w'.drawn = w.drawn := by
  unfold World.farStore at h
  split at h
  · split at h
    · rename_i r e
      cases h
      exact viewStore_same p w w' _ _ _ _ _ _ e
    · cases h
  · cases h
theorem run_le {α : Type} (p : Program) (e : Sem α) : ∀ (w : World) (d : Nat), d <= w.drawn -> d <= (rw' (e.run p w)).drawn := by
  induction e with
  | pure a => intro w d h; exact h
  | load m a k ih =>
    intro w d h; simp only [Sem.run]; split
    · exact ih _ _ _ h
    · split
      · exact ih _ _ _ h
      · exact h
  | store m a v k ih =>
    intro w d h
    cases v <;> simp only [Sem.run] <;> first
      | exact h
      | (split
         · split
           · exact h
           · exact ih _ _ h
         · split
           · rename_i hh
             exact ih _ _ (by rw [farStore_same p w _ a _ _ _ hh]; exact h)
           · exact h)
  | new o k ih => intro w d h; exact ih _ _ _ h
  | shape r k ih => intro w d h; exact ih _ _ _ h
  | freeze a n k ih => intro w d h; exact ih _ _ (by unfold World.freeze; split <;> exact h)
  | frozen a k ih => intro w d h; exact ih _ _ _ h
  | getObj r k ih => intro w d h; simp only [Sem.run]; split <;> first | exact h | exact ih _ _ _ h
  | setObj r o k ih => intro w d h; simp only [Sem.run]; split <;> first | exact h | exact ih _ _ h
  | choose q k ih =>
    intro w d h; simp only [Sem.run]; split
    · exact ih _ _ _ h
    · exact ih _ _ _ (Nat.le_trans h (Nat.le_succ _))
  | sys c k ih => intro w d h; exact ih _ _ _ (sys_le w c d h)
  | program k ih => intro w d h; exact ih _ _ _ h
  | mark m k ih => intro w d h; exact ih _ _ h
  | halt h => intro w d h; exact h
theorem run_ok {α : Type} {p : Program} {e : Sem α} {w w' : World} {a : α} {d : Nat} (h : d <= w.drawn) (hr : e.run p w = .ok a w') : d <= w'.drawn := by
  have := run_le p e w d h; rw [hr] at this; exact this
theorem run_halt {α : Type} {p : Program} {e : Sem α} {w w' : World} {a : Halt} {d : Nat} (h : d <= w.drawn) (hr : e.run p w = .halt a w') : d <= w'.drawn := by
  have := run_le p e w d h; rw [hr] at this; exact this
theorem runT_ok {α : Type} {p : Program} {e : Sem α} {w w' : World} {a : α} {d : Nat} {es es' : Array Event} (h : d <= w.drawn) (hr : e.runT p w es = (.ok a w', es')) : d <= w'.drawn :=
  run_ok h (by rw [<- Sem.runT_fst p e w es, hr])
theorem runT_halt {α : Type} {p : Program} {e : Sem α} {w w' : World} {a : Halt} {d : Nat} {es es' : Array Event} (h : d <= w.drawn) (hr : e.runT p w es = (.halt a w', es')) : d <= w'.drawn :=
  run_halt h (by rw [<- Sem.runT_fst p e w es, hr])
theorem run1_ok {α : Type} {p : Program} {e : Sem α} {w w' : World} {a : α} {d : Nat} {es : Array Event} (h : d <= w.drawn) (hr : (e.runT p w es).1 = .ok a w') : d <= w'.drawn :=
  run_ok h (by rw [<- Sem.runT_fst p e w es, hr])
theorem run1_halt {α : Type} {p : Program} {e : Sem α} {w w' : World} {a : Halt} {d : Nat} {es : Array Event} (h : d <= w.drawn) (hr : (e.runT p w es).1 = .halt a w') : d <= w'.drawn :=
  run_halt h (by rw [<- Sem.runT_fst p e w es, hr])
def Ge (d : Nat) : GStep -> Prop
  | .go _ w _ => d <= w.drawn
  | .comm _ _ _ _ w _ => d <= w.drawn
  | .spawn _ _ w _ => d <= w.drawn
  | .count _ w _ => d <= w.drawn
  | .timer _ _ w _ => d <= w.drawn
  | .alone _ _ w _ => d <= w.drawn
  | .newcoro _ _ _ w _ => d <= w.drawn
  | .coroswitch _ _ _ w _ => d <= w.drawn
  | .collect _ w _ => d <= w.drawn
  | .watch _ w _ => d <= w.drawn
  | .ended _ _ _ => True
theorem Ge.after {d : Nat} {s : GStep} (es : Array Event) (h : Ge d s) : Ge d (GStep.after es s) := by cases s <;> exact h
theorem endWith_ge (w : World) (fd : Nat) (t : ByteArray) (o : Outcome) (d : Nat) : Ge d (endWith w fd t o) := by
  unfold endWith
  repeat' split
  all_goals exact trivial
theorem dieOf_ge (fr : Frame) (l : List ByteArray) (m : String) (b : Bool) (w : World) (d : Nat) (h : d <= w.drawn) : Ge d (dieOf fr l m b w) := h
theorem endThrow_ge (fr : Frame) (m : String) (w : World) (d : Nat) (h : d <= w.drawn) : Ge d (endThrow fr m w) := h
theorem endPrinting_ge (p : Program) (fr : Frame) (v : Value) (w : World) (d : Nat) (h : d <= w.drawn) : Ge d (endPrinting p fr v w) := by
  unfold endPrinting
  simp only []
  split
  · exact h
  · exact trivial
theorem endFatal_ge (p : Program) (fr : Frame) (cs : List Frame) (dy : Option Dying) (m : String) (w : World) (d : Nat) (h : d <= w.drawn) : Ge d (endFatal p fr cs dy m w) := by
  unfold endFatal
  simp only []
  split
  · rename_i hr; exact run_ok h hr
  · exact trivial
  · exact trivial
theorem writeOn_ge (p : Program) (fr : Frame) (dy : Dying) (f : Fatal) (w : World) (d : Nat) (h : d <= w.drawn) : Ge d (writeOn p fr dy f w) := by
  unfold writeOn
  simp only []
  split
  · exact trivial
  · split
    · rename_i hr; exact runT_ok h hr
    · rename_i hr; exact runT_halt h hr
    · exact trivial
    · exact trivial
theorem die_ge (p : Program) (fr : Frame) (dy : Dying) (w : World) (d : Nat) (h : d <= w.drawn) : Ge d (die p fr dy w) := by
  unfold die
  split
  · exact writeOn_ge p fr dy _ w d h
  · split
    · split
      · exact h
      · exact endWith_ge _ _ _ _ _
    · simp only []
      split
      · exact h
      · split
        · rename_i hr; exact run_ok h hr
        · exact trivial
      · refine Ge.after _ ?_
        split
        · rename_i hr; exact run1_ok h hr
        · rename_i hr; exact run1_ok h hr
        · exact trivial
        · rename_i hr; exact endPrinting_ge _ _ _ _ _ (run1_halt h hr)
        · exact trivial
      · exact trivial
theorem doReturn_ge (p : Program) (main : Bool) (fr : Frame) (cs : List Frame) (dy : Option Dying) (v : Value) (w : World) (d : Nat) (h : d <= w.drawn) : Ge d (doReturn p main fr cs dy v w) := by
  unfold doReturn
  repeat' split
  all_goals first | exact h | exact trivial
theorem ge_ite {d : Nat} {c : Prop} [Decidable c] {a b : GStep} (h1 : Ge d a) (h2 : Ge d b) : Ge d (if c then a else b) := by
  split
  · exact h1
  · exact h2
theorem callDeferred_ge (p : Program) (fr : Frame) (cs : List Frame) (dy : Option Dying) (df : Deferred) (w : World) (d : Nat) (h : d <= w.drawn) : Ge d (callDeferred p fr cs dy df w) := by
  unfold callDeferred
  refine ge_ite trivial ?_
  simp only []
  refine Ge.after _ ?_
  split
  all_goals rename_i hr
  all_goals first
    | exact trivial
    | exact run1_ok h hr
    | exact run1_halt h hr
    | exact endFatal_ge _ _ _ _ _ _ _ (run1_halt h hr)
    | exact endThrow_ge _ _ _ _ (run1_halt h hr)
    | (split <;> exact run1_ok h hr)
theorem unwind_ge (p : Program) (main : Bool) (fr : Frame) (cs : List Frame) (dy : Option Dying) (w : World) (d : Nat) (h : d <= w.drawn) : Ge d (unwind p main fr cs dy w) := by
  unfold unwind
  split
  · simp only []
    refine Ge.after _ ?_
    split
    · rename_i hr; exact run1_ok h hr
    · exact trivial
  · exact callDeferred_ge _ _ _ _ _ _ _ h
  · split
    · exact trivial
    · split
      · exact trivial
      · split
        · exact h
        · split
          · split
            · exact h
            · split
              · rename_i hr; exact run_ok h hr
              · exact trivial
              · exact trivial
          · split
            · exact endPrinting_ge _ _ _ _ _ h
            · exact trivial
    · split
      · exact doReturn_ge _ _ _ _ _ _ _ _ h
      · simp only []
        refine Ge.after _ ?_
        split
        · rename_i hr; exact doReturn_ge _ _ _ _ _ _ _ _ (run1_ok h hr)
        · exact trivial
        · exact trivial
theorem early_ge (p : Program) (fr : Frame) (cs : List Frame) (dy : Option Dying) (g : Nat) (w : World) (d : Nat) (h : d <= w.drawn) : Ge d (early p fr cs dy g w) := by
  unfold early
  simp only []
  have hn : ∀ w : World, d <= w.drawn -> Ge d (match w.heap[g]? with
    | some (.pending c elem) => GStep.go { frame := fr, callers := cs, status := .running, dying := dy } { w with heap := w.heap.setIfInBounds g (.cells c elem) }
    | _ => .ended (.stuck "early: the variable does not wait" (fr.pos p)) w) := fun w h => by
    split
    · exact h
    · exact trivial
  refine ge_ite (hn w h) ?_
  split
  · exact trivial
  · refine ge_ite (hn w h) ?_
    refine ge_ite (hn w h) ?_
    split
    · exact trivial
    · exact h
    · exact trivial
    · exact hn w h
    · refine ge_ite h ?_
      refine ge_ite (hn w h) ?_
      split
      · rename_i hr; exact hn _ (run_ok h hr)
      · rename_i hr; exact run_ok h hr
      · exact trivial
theorem ge_elim {α:Type} {d:Nat} {o:Option α} {a:GStep} {f:α->GStep} (h1:Ge d a) (h2:∀ x,Ge d (f x)):Ge d (o.elim a f):=by
 cases o
 ·exact h1
 ·exact h2 _
theorem apply_ge (p:Program) (listen:Bool) (fr:Frame) (cs:List Frame) (dy:Option Dying) (s:Sem Next) (w:World) (d:Nat) (h:d<=w.drawn):Ge d (stepG.apply p listen fr cs dy s w):=by
 unfold stepG.apply
 simp only []
 refine Ge.after _ ?_
 have hx:(if listen then s.runT p w #[] else (s.run p w,#[])).1=s.run p w:=by
  cases listen
  ·rfl
  ·exact Sem.runT_fst p s w #[]
 rw [hx]
 split
 all_goals rename_i hr
 all_goals first
  | exact trivial
  | exact run_ok h hr
  | exact run_halt h hr
  | exact endFatal_ge _ _ _ _ _ _ _ (run_halt h hr)
  | exact endThrow_ge _ _ _ _ (run_halt h hr)
  | exact early_ge _ _ _ _ _ _ _ (run_halt h hr)
  | skip
 all_goals first
  | (split <;> exact run_ok h hr)
  | exact ge_ite (endThrow_ge _ _ _ _ (run_ok h hr)) (run_ok h hr)
  | skip
theorem oper_ge (p:Program) (listen:Bool) (fr:Frame) (cs:List Frame) (dy:Option Dying) (w:World) (d:Nat) (h:d<=w.drawn):Ge d (stepG.oper p listen fr cs dy w):=by
 unfold stepG.oper
 split
 ·exact trivial
 ·split
  ·exact apply_ge p _ _ _ _ _ _ _ h
  ·exact apply_ge p _ _ _ _ _ _ _ h
theorem exec_ge (p:Program) (main listen:Bool) (fr:Frame) (cs:List Frame) (dy:Option Dying) (w:World) (d:Nat) (h:d<=w.drawn):Ge d (stepG.exec p main listen fr cs dy w):=by
 unfold stepG.exec
 simp only []
 have hm:∀ (c:Prop) [Decidable c] (jump:Option Code),Ge d (match fr.roundOf with
   | none => if c then GStep.go { frame := { fr with mode := .returning }, callers := cs, status := .running, dying := dy } w else .ended (.stuck "exit, goto: no such block or label" (fr.pos p)) w
   | some l=>
    GStep.after (seen p fr.fn ((Instr.endRound l jump).runT p w #[]).2) <| match ((Instr.endRound l jump).runT p w #[]).1 with
    | .ok v w=>doReturn p main fr cs dy v w
    | .halt _ w => .ended (.stuck "range over a function: no such loop" (fr.pos p)) w) := fun c _ jump => by
  split
  ·exact ge_ite h trivial
  ·refine Ge.after _ ?_
   split
   ·rename_i hr;exact doReturn_ge _ _ _ _ _ _ _ _ (run1_ok h hr)
   ·exact trivial
 split
 all_goals first
  | exact hm _ _
  | exact h
  | exact trivial
  | exact apply_ge p _ _ _ _ _ _ _ h
  | skip
 ·split
  ·exact h
  ·exact trivial
 ·exact ge_elim (hm _ _) fun _=>h
 ·exact ge_elim (hm _ _) fun _=>h
 ·refine Ge.after _ ?_
  split
  ·rename_i hr;exact apply_ge p _ _ _ _ _ _ _ (run1_ok h hr)
  ·exact trivial
 ·refine Ge.after _ ?_
  split
  ·rename_i hr;exact run1_ok h hr
  ·rename_i hr;exact run1_halt h hr
  ·exact trivial
 ·exact ge_elim trivial fun _=>apply_ge p _ _ _ _ _ _ _ h
 ·refine ge_ite h ?_
  split
  ·rename_i hr;exact run_ok h hr
  ·exact trivial
 ·exact ge_ite (oper_ge p _ _ _ _ _ _ h) h
theorem stepG_ge (p:Program) (main listen:Bool) (g:Goroutine) (w:World) (d:Nat) (h:d<=w.drawn):Ge d (stepG p main g w listen):=by
 unfold stepG
 simp only []
 split
 ·exact die_ge _ _ _ _ _ h
 ·exact exec_ge _ _ _ _ _ _ _ _ h
 ·exact unwind_ge _ _ _ _ _ _ _ h
def Se (d:Nat):Stepped->Prop
 | .next m=>d<=m.world.drawn
 | .ended _ _=>True
theorem se_ite {d:Nat} {c:Prop} [Decidable c] {a b:Stepped} (h1:Se d a) (h2:Se d b):Se d (if c then a else b):=by
 split
 ·exact h1
 ·exact h2
theorem look_se (p:Program) (gs:Array Goroutine) (r:Rest) (w:World) (d:Nat) (h:d<=w.drawn):Se d (look p gs r w):=by
 unfold look
 split
 ·simp only []
  refine se_ite trivial ?_
  split
  ·exact trivial
  ·split
   ·rename_i hr
    have hz:=run_ok h hr
    exact hz
   ·exact trivial
   ·exact trivial
 ·exact trivial
theorem se_ite1 {d:Nat} {c:Prop} [Decidable c] {a b:Stepped×Array MemOp} (h1:Se d a.1) (h2:Se d b.1):Se d (if c then a else b).1:=by
 split
 ·exact h1
 ·exact h2
theorem communicate_se (p:Program) (r:Rest) (gs:Array Goroutine) (i:Nat) (g:Goroutine) (cs:Array CommCase) (b:Bool) (sh:CommShape) (w:World) (d:Nat) (h:d<=w.drawn):Se d (communicate p r gs i g cs b sh w).1:=by
 unfold communicate
 simp only []
 refine se_ite1 trivial ?_
 refine se_ite1 (se_ite1 ?_ h) ?_
 ·split
  ·rename_i hr
   unfold waitingAt at hr
   split at hr
   ·split at hr
    ·cases hr;exact h
    ·cases hr
   ·cases hr;exact h
  ·exact trivial
 ·split
  ·exact trivial
  ·rename_i hr
   have hz:=run_ok h hr
   split
   ·split
    ·rename_i hr2
     have hz2:=run_halt hz hr2
     exact hz2
    ·exact trivial
   ·exact hz
   ·exact hz
   ·split
    ·exact hz
    ·split
     ·rename_i hr2
      have hz2:=run_ok hz hr2
      exact hz2
     ·exact trivial
   ·exact hz
   ·exact hz
   ·exact trivial
theorem timerOp_le (m m' : Machine) (op:TimerOp) (v:Value) (d:Nat) (h:d<=m.world.drawn) (hr:timerOp m op = .ok (v,m')):d<=m'.world.drawn:=by
 have hret:∀ (m:Machine) (k:Nat) (t:Timer) (a b:Nat),d<=m.world.drawn->d<=(retime m k t a b).2.world.drawn:=fun m k t a b h=>by
  unfold retime
  simp only []
  split
  ·unfold drain;split <;> exact h
  ·exact h
 have hnam:∀ (m:Machine) (var:Addr) (f:Nat->Timer->Value×Machine),(∀ k t,d<=(f k t).2.world.drawn)->timerOp.named m var f = .ok (v,m')->d<=m'.world.drawn:=fun m var f hf hr=>by
  unfold timerOp.named at hr
  split at hr
  ·rename_i k _
   have hz:=hf k (m.rest.timers.getD k default)
   injection hr with hr
   rw [hr] at hz
   exact hz
  ·cases hr
 cases op with
 | new t=>
  simp only [timerOp] at hr
  split at hr
  ·injection hr with hr;injection hr with h1 h2;rw [<- h2];exact h
  ·split at hr
   ·split at hr
    ·cases hr
    ·injection hr with hr;injection hr with h1 h2;rw [<- h2];exact h
   ·cases hr
 | stop var=>exact hnam m var _ (fun k t=>hret m k t _ _ h) hr
 | reset var a b=>
  simp only [timerOp] at hr
  split at hr
  ·rename_i m2 ho
   have h2:d<=m2.world.drawn:=by
    unfold timerOp.opened at ho
    split at ho
    ·split at ho
     ·cases ho;exact h
     ·cases ho
    ·cases ho;exact h
   exact hnam _ var _ (fun k t=>hret m2 k t _ _ h2) hr
  ·cases hr
 | deadline ctx a b c=>
  simp only [timerOp] at hr
  injection hr with hr;injection hr with h1 h2;rw [<- h2];exact h
theorem serve_se (p:Program) (m:Machine) (k:Nat) (d:Nat) (h:d<=m.world.drawn):Se d (serve p m k):=by
 unfold serve
 split
 ·exact trivial
 ·exact h
 ·simp only []
  split
  ·exact trivial
  ·exact h
theorem runT_se (p:Program) (m:Machine) (i:Nat) (l:Bool) (d:Nat) (h:d<=m.world.drawn):Se d (runT p m i l).1:=by
 unfold runT
 simp only []
 have hs:∀ g,Ge d (stepG p (i == 0) g m.world l):=fun g=>stepG_ge p _ l g _ d h
 split
 all_goals rename_i hr
 all_goals (have hz:=hs (m.gs.swapAt! i { (default:Goroutine) with status := .finished }).1;rw [hr] at hz)
 all_goals first
  | exact trivial
  | exact hz
  | exact communicate_se _ _ _ _ _ _ _ _ _ _ hz
  | exact look_se _ _ _ _ _ hz
  | exact se_ite trivial hz
  | skip
 ·simp only []
  split
  ·exact hz
  ·split
   ·rename_i e;injection e with e1 e2;rw [<- e2];exact hz
   ·exact trivial
  ·exact trivial
 ·simp only []
  split
  ·rename_i ht
   have ht2:=fun hh=>timerOp_le _ _ _ _ d hh ht
   exact ht2 hz
  ·split
   ·rename_i e;injection e with e1 e2;rw [<- e2];exact hz
   ·exact trivial
  ·exact trivial
  ·exact trivial
def Me (d:Nat):Move->Prop
 | .goroutine m _=>d<=m.world.drawn
 | .machine s _=>Se d s
theorem me_ite {d:Nat} {c:Prop} [Decidable c] {a b:Move} (h1:Me d a) (h2:Me d b):Me d (if c then a else b):=by
 split
 ·exact h1
 ·exact h2
theorem askOn_me (p:Program) (m:Machine) (d:Nat) (h:d<=m.world.drawn):Me d (askOn p m):=by
 unfold askOn
 simp only []
 split
 ·exact trivial
 ·rename_i hr
  have hz:=run_ok h hr
  refine me_ite (serve_se _ _ _ _ hz) ?_
  split
  ·split
   ·exact hz
   ·refine me_ite hz ?_
    split
    ·exact trivial
    ·exact trivial
  ·split
   ·skip
    split
    ·exact trivial
    ·rename_i hp
     have hz2:=run_ok hz hp
     refine me_ite hz2 ?_
     split
     ·exact trivial
     ·rename_i hq
      have hz3:=run_ok hz2 hq
      exact hz3
   ·split
    ·exact trivial
    ·rename_i h5
     have h6:=run_ok hz h5
     split
     ·exact trivial
     ·rename_i hp
      have hz2:=run_ok h6 hp
      refine me_ite hz2 ?_
      split
      ·exact trivial
      ·rename_i hq
       have hz3:=run_ok hz2 hq
       exact hz3
    ·rename_i h5
     have h6:=run_ok hz h5
     exact h6
    ·rename_i h5
     have h6:=run_ok hz h5
     split
     ·exact trivial
     ·rename_i hp
      have hz2:=run_ok (by exact h6) hp
      refine me_ite hz2 ?_
      split
      ·exact trivial
      ·rename_i hq
       have hz3:=run_ok hz2 hq
       exact hz3
theorem ask_me (p:Program) (m:Machine) (d:Nat) (h:d<=m.world.drawn):Me d (ask p m):=by
 unfold ask
 refine me_ite ?_ (askOn_me p m d h)
 split
 ·exact trivial
 ·rename_i h5
  have h6:=run_ok h h5
  have h7:=look_se p m.gs m.rest _ d h6
  split
  ·rename_i h8
   rw [h8] at h7
   exact askOn_me _ _ _ h7
  ·exact h7
 ·rename_i h5
  have h6:=run_ok h h5
  exact askOn_me _ _ _ h6
theorem move_me (p:Program) (m:Machine) (d:Nat) (h:d<=m.world.drawn):Me d (move p m):=by
 unfold move
 split
 ·exact me_ite h trivial
 ·split
  ·exact me_ite h (ask_me _ _ _ h)
  ·exact ask_me _ _ _ h
theorem step_se (p:Program) (m:Machine) (d:Nat) (h:d<=m.world.drawn):Se d (step p m):=by
 unfold step stepT
 have h2:=move_me p m d h
 split
 ·rename_i e;rw [e] at h2;exact runT_se _ _ _ _ _ h2
 ·rename_i e;rw [e] at h2;exact h2
theorem runN_se (p:Program):∀ (n:Nat) (m:Machine) (d:Nat),d<=m.world.drawn->Se d (runN p n m)
 | 0,m,d,h=>h
 | n+1,m,d,h=>by
  have h2:=step_se p m d h
  unfold runN
  split
  ·rename_i e;rw [e] at h2;exact runN_se p n _ d h2
  ·exact h2
theorem calls_drawn {P:Program} {f:FuncId} {args:Array Value} {w:World} {R:Ending->World->Prop} (h:Calls P f args w R) (ho:∀ w',¬ R .outgrown w') :
  Calls P f args w fun e w'=>R e w'/\w.drawn<=w'.drawn:=by
 intro cs
 obtain ⟨e,w',fr,hR,hC,hf,hl⟩:=h cs
 refine ⟨e,w',fr,⟨hR,?_⟩,hC,hf,hl⟩
 have key:Steps P (lone (Frame.enter P f args .normal) cs w) (lone fr cs w')->w.drawn<=w'.drawn:=fun ⟨n,hn⟩=>by
  have:=runN_se P n (lone (Frame.enter P f args .normal) cs w) w.drawn (Nat.le_refl _)
  rw [hn] at this
  exact this
 cases e with
 | returned v=>exact key hC
 | panicked c=>exact key hC
 | outgrown=>exact absurd hR (ho w')
end Go.Proofs.YtgnncnhkgmhngaaGreatDoor.Dr
