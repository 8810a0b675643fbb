import PyProof.Rows.All
import Wide.All
import OpenK.AllK
import Wide.FinOn
import Lean
import PyProof.EqAt
import PyProof.EqKinds
import PyProof.TupleCall
import PyProof.LongRange
import KE.KDictLaws
import KE.KDictList
import KE.KDictOf
import KE.KDictSum
import KE.KEqDict
import KE.KRevSl
import KE.LcSums
import PyProof.AttrMissHeap
import PyProof.ConsumeWalk
import PyProof.DictValues
import PyProof.DictWalks
import PyProof.MaxThree
import PyProof.NeKinds
import PyProof.Rows.RuleIs
import PyProof.Rows.SetFrom
import PyProof.Rows.SortKey
import PyProof.Rows.SortRuns
import PyProof.Rows.SortShellK
import PyProof.SetRoads
import PyProof.StrBlockI
import PyProof.StrCalls2
import PyProof.StrLawsJoin
import PyProof.WalkInts
import PySem.Challenge.RW_lategone_k22_put_together_refused
set_option Elab.async false
set_option linter.all false
set_option maxRecDepth 100000
set_option maxHeartbeats 4000000
namespace PySem.W.Fast
def tw7340983821162668824:=0
def tw8195179365756422410:=0
def tw8601387365839494138:=0
def tw15250479982973822517:=0
def tw15360233935247937664:=0
def tw3645759708968574135:=0
def tw12191112679667810091:=0
def tw528670741386000114:=0
def tw7206241369476891126:=0
def tw12834743717301284375:=0
def tw4033209127021659937:=0
def tw16534079609046705233:=0
def tw11528183104262074341:=0
def tw11463908818800153448:=0
def tw15038498832950542583:=0
def tw2672458765846639805:=0
def tw12632042713626508443:=0
def tw16478343600057680942:=0
def tw3336912130619767559:=0
def tw12249716611492598824:=0
def tw1334095066480570163:=0
def tw12227758721293851882:=0
def tw6776987384155833746:=0
def tw15216448544506539461:=0
def tw9512047642959891689:=0
def tw8822402780034783819:=0
def tw3080743561152768583:=0
def tw10075879824469760832:=0
def tw12883327621578088403:=0
def tw4851790711999694301:=0
def tw12688343061357070250:=0
def tw4030055892302607373:=0
def tw6164070675894404059:=0
def tw2960152036502399252:=0
def tw17230599693713867295:=0
def tw16944698098166680542:=0
def tw4577710502846612605:=0
def tw13416452889111479487:=0
def tw16031929934450148142:=0
def tw6564277771739988857:=0
def tw2463377484506177476:=0
def tw12723990755763112417:=0
def tw10471330624719512917:=0
def tw14951680070460428471:=0
def tw7570689923765352452:=0
def tw4530885540020632338:=0
def tw561779939844624069:=0
def tw8845429435411488501:=0
def tw13218993959774503467:=0
def tw3911913030290018288:=0
def tw17758448320073965742:=0
def tw1313662231511130451:=0
def tw17558128455925368478:=0
def tw2247743827273326605:=0
def tw18180007676359262719:=0
def tw17931848129561975145:=0
def tw11616064623608400448:=0
def tw18019077745500151238:=0
def tw9962319723820168590:=0
def tw14144442343038356129:=0
def tw3601017054815944789:=0
def tw1124603716775895359:=0
def tw15815760015044461648:=0
def tw8819311020271319615:=0
def tw16403139616910859241:=0
def tw11486440230568471521:=0
def tw18004545494632404021:=0
def tw10604097078621849478:=0
def tw14806729889797860563:=0
def tw9069790338995073430:=0
def tw14451346609391279747:=0
def tw12360408142233223148:=0
end PySem.W.Fast
section
namespace TS
open PySem PyProof.Rows
def gal:Bool->Keyed->Array Keyed->Nat->Nat->Nat->StateT SortSt Sem (Option Nat):=sortPriv% PySem.Builtin.gallop
def mLo:Array Keyed->Array Keyed->StateT SortSt Sem (Array Keyed):=sortPriv% PySem.Builtin.mergeLo
def mHi:Array Keyed->Array Keyed->StateT SortSt Sem (Array Keyed):=sortPriv% PySem.Builtin.mergeHi
def yw:Nat->StateT SortSt Sem Unit:=sortPriv% PySem.Builtin.setMinGallop
def kf (κ:KeyKind)(p:Keyed):κ.α:=(κ.keyOf p.1).getD κ.dflt
def Lb (κ:KeyKind)(p q:Keyed):Bool:=κ.blt (kf κ p) (kf κ q)
def Le (κ:KeyKind)(p q:Keyed):Prop:=Lb κ q p=false
section ord
variable {κ:KeyKind}{p q r:Keyed}
theorem Le.refl (p:Keyed):Le κ p p:=κ.irrefl _
theorem Le.trans (h:Le κ p q)(h':Le κ q r):Le κ p r:=KeyOrd.kle_trans (O:=κ.toKeyOrd) h h'
theorem Le.of_lt (h:Lb κ p q=true):Le κ p q:=KeyOrd.kle_of_klt (O:=κ.toKeyOrd) h
theorem xJ (h:Le κ p q)(h':Lb κ q r=true):Lb κ p r=true:=KeyOrd.klt_of_kle_of_klt (O:=κ.toKeyOrd) h h'
end ord
structure Cmp (prog:Program)(w:World)(A:Around)(s:Shared)(κ:KeyKind)(kd:SortKind)(a₀:Array Keyed):Prop where
 on:∀x y:Keyed,x∈a₀.toList->y∈a₀.toList->∀(E:Value->Shared->Prop) (Q:Bool->Shared->Prop),Q (Lb κ x y) s->wpAny (model prog w) A (keyLt' kd x.1 y.1) Q E s
structure SB (kd:SortKind)(a₀:Array Keyed)(st:SortSt):Prop where
 perm:(arrOf st).Perm a₀
 kind:kindOf st=kd
 fail:failedOf st=none
theorem vd {κ:KeyKind}{xs:Array Keyed}{i:Nat}{p:Keyed}(h:xs[i]?=some p):KK κ xs i=kf κ p:=by
 unfold KK;rw [h];rfl
section
variable {kd:SortKind}{a₀:Array Keyed}{st:SortSt}{κ:KeyKind}
theorem SB.size (B:SB kd a₀ st):(arrOf st).size=a₀.size:=B.perm.size_eq
theorem SB.at (B:SB kd a₀ st){i:Nat}(h:i<a₀.size):∃ p,(arrOf st)[i]?=some p/\p∈a₀.toList/\KK κ (arrOf st) i=kf κ p:=by
 have h':i<(arrOf st).size:=by rw [B.size];exact h
 have e:(arrOf st)[i]?=some (arrOf st)[i]:=getElem?_pos _ i h'
 exact ⟨_,e,(Array.perm_iff_toList_perm.mp B.perm).mem_iff.mp (by simp),vd e⟩
theorem SB.arr (B:SB kd a₀ st){xs:Array Keyed}(h:xs.Perm (arrOf st)):SB kd a₀ (setArr st xs):=⟨h.trans B.perm,B.kind,B.fail⟩
end
section
variable {prog:Program}{w:World}{A:Around}{E:Value->Shared->Prop}{s:Shared}{κ:KeyKind}{kd:SortKind}{a₀:Array Keyed}{st:SortSt}
theorem aU {arr:Array Keyed}{i:Nat}{p:Keyed}{Q:Keyed->SortSt->Prop}(h:arr[i]?=some p)(q:Q p st):wpS (model prog w) A E s (elem' arr i) Q st:=by
 rw [elem'_eq,h];exact wpS_pure q
theorem qT (C:Cmp prog w A s κ kd a₀){x y:Keyed}{Q:Option Bool->SortSt->Prop}(hx:x∈a₀.toList)(hy:y∈a₀.toList)(hk:kindOf st=kd)(q:Q (some (Lb κ x y)) st) :
  wpS (model prog w) A E s (lt' x y) Q st:=by
 rw [lt'_eq]
 refine wpS_bind (wpS_get ?_)
 rw [hk]
 refine wpS_bind (wpS_lift (wpAny_attempt (C.on x y hx hy _ _ ⟨rfl,?_⟩)))
 exact wpS_pure q
theorem gE (C:Cmp prog w A s κ kd a₀)(B:SB kd a₀ st){i j:Nat}{Q:Option Bool->SortSt->Prop}(hi:i<a₀.size)(hj:j<a₀.size)
  (q:Q (some (κ.blt (KK κ (arrOf st) i) (KK κ (arrOf st) j))) st):wpS (model prog w) A E s (ltAt' i j) Q st:=by
 obtain ⟨x,ex,mx,kx⟩:=B.at (κ:=κ) hi
 obtain ⟨y,ey,my,ky⟩:=B.at (κ:=κ) hj
 rw [ltAt'_eq]
 refine wpS_bind (wpS_get ?_)
 show wpS _ _ _ _ (do let x <-elem' (arrOf st) i;let y <-elem' (arrOf st) j;lt' x y) Q st
 refine wpS_bind (aU ex (wpS_bind (aU ey (qT C mx my B.kind ?_))))
 rw [kx,ky] at q;exact q
def Up (κ:KeyKind)(xs:Array Keyed)(lo n:Nat):Prop:=∀i j,lo<=i->i<=j->j<lo+n->κ.kle (KK κ xs i) (KK κ xs j)
def Dn (κ:KeyKind)(xs:Array Keyed)(lo n:Nat):Prop:=∀i j,lo<=i->i<=j->j<lo+n->κ.kle (KK κ xs j) (KK κ xs i)
def Kp (lo:Nat)(xs ys:Array Keyed):Prop:=∀k,k<lo->xs[k]?=ys[k]?
theorem Kp.trans {lo:Nat}{x y z:Array Keyed}(a:Kp lo x y)(b:Kp lo y z):Kp lo x z:=fun k h=>(a k h).trans (b k h)
theorem Kp.refl {lo:Nat}{x:Array Keyed}:Kp lo x x:=fun _ _=>rfl
theorem du {xs:Array Keyed}{lo i j:Nat}(hj:j<=xs.size)(hl:lo<=i):Kp lo (mirror xs i j ((j-i) / 2)) xs:=fun k h=>by
 rw [getElem?_mirror_all hj,if_neg (by lia)]
theorem pd {xs:Array Keyed}{lo src d:Nat}(hs:src<xs.size)(hd:d<=src)(hl:lo<=src-d):Kp lo (bubble xs src d) xs:=fun k h=>by
 rw [getElem?_bubble hs d hd,if_neg (by lia),if_neg (by lia)]
theorem wn {xs:Array Keyed}{lo:Nat}:Up κ xs lo 1:=fun i j a b c=>by
 have e:i=j:=by lia
 subst e;exact KeyOrd.kle_refl _
theorem Up.snoc {xs:Array Keyed}{lo n:Nat}(h:Up κ xs lo n)(h1:1<=n)(h2:κ.blt (KK κ xs (lo+n)) (KK κ xs (lo+n-1))=false):Up κ xs lo (n+1):=fun i j a b c=>by
 by_cases hj:j<lo+n
 .exact h i j a b hj
 .have e:j=lo+n:=by lia
  subst e
  by_cases hi:i=lo+n
  .subst hi;exact KeyOrd.kle_refl _
  .exact KeyOrd.kle_trans (h i (lo+n-1) a (by lia) (by lia)) h2
theorem Dn.snoc {xs:Array Keyed}{lo n:Nat}(h:Dn κ xs lo n)(h1:1<=n)(h2:κ.kle (KK κ xs (lo+n)) (KK κ xs (lo+n-1))):Dn κ xs lo (n+1):=fun i j a b c=>by
 by_cases hj:j<lo+n
 .exact h i j a b hj
 .have e:j=lo+n:=by lia
  subst e
  by_cases hi:i=lo+n
  .subst hi;exact KeyOrd.kle_refl _
  .exact KeyOrd.kle_trans h2 (h i (lo+n-1) a (by lia) (by lia))
theorem Dn.same {xs ys:Array Keyed}{lo n:Nat}(h:Dn κ xs lo n)(e:∀k,KK κ ys k=KK κ xs k):Dn κ ys lo n:=fun i j a b c=>by rw [e,e];exact h i j a b c
theorem Dn.turn {xs:Array Keyed}{lo n:Nat}(h:Dn κ xs lo n)(hs:lo+n<=xs.size):Up κ (mirror xs lo (lo+n) ((lo+n-lo) / 2)) lo n:=fun i j a b c=>by
 rw [KK_mirror hs,KK_mirror hs,if_pos (by lia),if_pos (by lia)]
 exact h _ _ (by lia) (by lia) (by lia)
def Run (κ:KeyKind)(kd:SortKind)(a₀:Array Keyed)(lo nrem:Nat)(st₀:SortSt)(m:Nat)(st:SortSt):Prop :=
 SB kd a₀ st/\pendingOf st=pendingOf st₀/\Kp lo (arrOf st) (arrOf st₀)/\1<=m/\m<=nrem/\Up κ (arrOf st) lo m
theorem dI {i j:Nat}{Q:Unit->SortSt->Prop}(h:Q () (setArr st (mirror (arrOf st) i j ((j-i) / 2)))):wpS (model prog w) A E s (reverseSlice' i j) Q st:=by
 rw [reverseSlice'_eq];exact wpS_modify h
abbrev C2:=Option (Option Nat)×Nat
abbrev C3:=Option (Option Nat)×Nat×Nat
def clb (lo n nrem:Nat):StateT SortSt Sem C2 :=
 forIn [n:nrem] ((none,n):C2) fun _ c=>ltAt' (lo+c.2) (lo+c.2-1) >>= fun x=>match x with
  | some b=>if b=true then pure (ForInStep.done (none,c.2)) else pure (ForInStep.yield (none,c.2+1))
  | _=>pure (ForInStep.done (some none,c.2))
def trn (lo m nrem:Nat):StateT SortSt Sem (Option Nat) :=
 reverseSlice' lo (lo+m) >>= fun _=>clb lo m nrem >>= fun d=>match d.1 with
  | some r=>pure r
  | none=>pure (some d.2)
def fll (lo n nrem:Nat):StateT SortSt Sem C3 :=
 forIn [n:nrem] ((none,n,0):C3) fun _ c=>ltAt' (lo+c.2.1) (lo+c.2.1-1) >>= fun x=>match x with
  | some b=>if b=true then
     if c.2.2>0 then reverseSlice' (lo+c.2.1-(c.2.2+1)) (lo+c.2.1) >>= fun _=>pure (ForInStep.yield (none,c.2.1+1,0))
     else pure (ForInStep.yield (none,c.2.1+1,0))
    else ltAt' (lo+c.2.1-1) (lo+c.2.1) >>= fun y=>match y with
     | some b'=>if b'=true then pure (ForInStep.done (none,c.2.1,c.2.2)) else pure (ForInStep.yield (none,c.2.1+1,c.2.2+1))
     | _=>pure (ForInStep.done (some none,c.2.1,c.2.2))
  | _=>pure (ForInStep.done (some none,c.2.1,c.2.2))
def fpt (lo n nrem:Nat):StateT SortSt Sem (Option Nat) :=
 liftM (rule "list.sort.descending-run") >>= fun _=>fll lo (n+1) nrem >>= fun c=>match c.1 with
  | some r=>pure r
  | none=>if c.2.2>0 then reverseSlice' (lo+c.2.1-(c.2.2+1)) (lo+c.2.1) >>= fun _=>trn lo c.2.1 nrem else trn lo c.2.1 nrem
theorem vZ (lo nrem:Nat):countRun' lo nrem=clb lo 1 nrem >>= fun c=>match c.1 with
  | some r=>pure r
  | none=>if (c.2 == nrem)=true then pure (some c.2) else
    if c.2>1 then ltAt' lo (lo+c.2-1) >>= fun x=>match x with
     | some b=>if b=true then pure (some c.2) else reverseSlice' lo (lo+c.2) >>= fun _=>fpt lo c.2 nrem
     | _=>pure none
    else fpt lo c.2 nrem:=by
 have leaf:∀n,(liftM (rule "list.sort.descending-run") >>= fun _=>forIn [n+1:nrem] ((none,n+1,0):C3) (fun _ c=>ltAt' (lo+c.2.1) (lo+c.2.1-1) >>= fun x=>match x with
  | some b=>if b=true then
     if c.2.2>0 then reverseSlice' (lo+c.2.1-(c.2.2+1)) (lo+c.2.1) >>= fun _=>pure (ForInStep.yield (none,c.2.1+1,0))
     else pure (ForInStep.yield (none,c.2.1+1,0))
    else ltAt' (lo+c.2.1-1) (lo+c.2.1) >>= fun y=>match y with
     | some b'=>if b'=true then pure (ForInStep.done (none,c.2.1,c.2.2)) else pure (ForInStep.yield (none,c.2.1+1,c.2.2+1))
     | _=>pure (ForInStep.done (some none,c.2.1,c.2.2))
  | _=>pure (ForInStep.done (some none,c.2.1,c.2.2))) >>= fun c=>match c.1 with
  | some r=>pure r
  | none=>if c.2.2>0 then reverseSlice' (lo+c.2.1-(c.2.2+1)) (lo+c.2.1) >>= fun _=>trn lo c.2.1 nrem else trn lo c.2.1 nrem)=fpt lo n nrem:=fun n=>rfl
 rw [countRun'_eq]
 dsimp only
 unfold clb
 congr 1
 funext c
 obtain ⟨r,n⟩:=c
 cases r with
 | some r=>rfl
 | none =>
  dsimp only
  split
  .rfl
  .split
   .congr 1
    funext x
    cases x with
    | none=>rfl
    | some b =>
     dsimp only
     split
     .rfl
     .congr 1
      funext _
      rw [<-leaf n]
      congr 1;funext _;congr 1;funext c;obtain ⟨r,m,q⟩:=c
      cases r with
      | some r=>rfl
      | none =>
       dsimp only
       unfold trn clb
       split
       .congr 1;funext _;congr 1;funext _;congr 1;funext d;obtain ⟨r,m⟩:=d;cases r <;> rfl
       .congr 1;funext _;congr 1;funext d;obtain ⟨r,m⟩:=d;cases r <;> rfl
   .rw [<-leaf n]
    congr 1;funext _;congr 1;funext c;obtain ⟨r,m,q⟩:=c
    cases r with
    | some r=>rfl
    | none =>
     dsimp only
     unfold trn clb
     split
     .congr 1;funext _;congr 1;funext _;congr 1;funext d;obtain ⟨r,m⟩:=d;cases r <;> rfl
     .congr 1;funext _;congr 1;funext d;obtain ⟨r,m⟩:=d;cases r <;> rfl
theorem vL (C:Cmp prog w A s κ kd a₀)(B:SB kd a₀ st){lo n nrem:Nat}{Q:C2->SortSt->Prop}(hn:lo+nrem=a₀.size)(h1:1<=n)(h2:n<=nrem)(u:Up κ (arrOf st) lo n)
  (k:∀m,n<=m->m<=nrem->Up κ (arrOf st) lo m->(m=nrem∨κ.blt (KK κ (arrOf st) (lo+m)) (KK κ (arrOf st) (lo+m-1))=true)->Q (none,m) st) :
  wpS (model prog w) A E s (clb lo n nrem) Q st:=by
 unfold clb
 refine wpS_forRange (I:=fun x c st'=>st'=st/\c=(none,x)/\Up κ (arrOf st) lo x) ?_ ?_ ⟨rfl,rfl,u⟩
 .rintro x c st' ha hb ⟨rfl,rfl,u'⟩
  dsimp only
  refine wpS_bind (gE C B (by lia) (by lia) ?_)
  cases e:κ.blt (KK κ (arrOf st') (lo+x)) (KK κ (arrOf st') (lo+x-1)) with
  | true=>simp only [if_true];exact wpS_pure (k x ha (by lia) u' (.inr e))
  | false=>simp only [Bool.false_eq_true,if_false];exact wpS_pure ⟨rfl,rfl,u'.snoc (by lia) e⟩
 .rintro c st' ⟨rfl,rfl,u'⟩
  rw [show max n nrem=nrem by lia] at u' ⊢
  exact k nrem h2 (Nat.le_refl _) u' (.inl rfl)
theorem vq (C:Cmp prog w A s κ kd a₀)(B:SB kd a₀ st){st0:SortSt}{lo m nrem:Nat}{Q:Option Nat->SortSt->Prop}(hn:lo+nrem=a₀.size)(p:pendingOf st=pendingOf st0)(kp:Kp lo (arrOf st) (arrOf st0))
  (hm1:1<=m) (hm2:m<=nrem) (d2:Dn κ (arrOf st) lo m) (h:∀m st',Run κ kd a₀ lo nrem st0 m st'->Q (some m) st'):wpS (model prog w) A E s (trn lo m nrem) Q st:=by
 unfold trn
 have sz:lo+m<=(arrOf st).size:=by rw [B.size];lia
 refine wpS_bind (dI ?_)
 have B3:SB kd a₀ (setArr st (mirror (arrOf st) lo (lo+m) ((lo+m-lo) / 2))):=B.arr (mirror_perm _ _ _ _)
 refine wpS_bind (vL C B3 hn hm1 hm2 (d2.turn sz) fun x hx1 hx2 ux _=>?_)
 exact wpS_pure (h x _ ⟨B3,p,(du sz (Nat.le_refl _)).trans kp,by lia,hx2,ux⟩)
theorem vR (C:Cmp prog w A s κ kd a₀)(B:SB kd a₀ st){st0:SortSt}{lo n nrem:Nat}{Q:Option Nat->SortSt->Prop}(hn:lo+nrem=a₀.size)(p:pendingOf st=pendingOf st0)(kp:Kp lo (arrOf st) (arrOf st0))
  (hn1:1<=n) (hn2:n+1<=nrem) (d:Dn κ (arrOf st) lo (n+1)) (h:∀m st',Run κ kd a₀ lo nrem st0 m st'->Q (some m) st'):wpS (model prog w) A E s (fpt lo n nrem) Q st:=by
 unfold fpt
 refine wpS_bind (wpS_lift (wpAny_rule ⟨rfl,?_⟩))
 refine wpS_bind ?_
 unfold fll
 refine wpS_mono (wpS_forRange (I:=fun x c st'=>∃ q,c=(none,x,q)/\SB kd a₀ st'/\pendingOf st'=pendingOf st0/\Kp lo (arrOf st') (arrOf st0)/\Dn κ (arrOf st') lo x/\q+1<=x /\
   ∀i,lo+x-(q+1)<=i->i<lo+x->KK κ (arrOf st') i=KK κ (arrOf st') (lo+x-1))
  (Q:=fun c st'=>∃ x q,c=(none,x,q)/\1<=x/\x<=nrem/\SB kd a₀ st'/\pendingOf st'=pendingOf st0/\Kp lo (arrOf st') (arrOf st0)/\Dn κ (arrOf st') lo x/\q+1<=x /\
   ∀i,lo+x-(q+1)<=i->i<lo+x->KK κ (arrOf st') i=KK κ (arrOf st') (lo+x-1)) ?_ ?_ ⟨0,rfl,B,p,kp,d,by lia,fun i a b=>by congr 1;lia⟩) ?_
 .rintro x c st' ha hb ⟨q,rfl,B',p',k',d',hq,he⟩
  dsimp only
  have sz:lo+x<=(arrOf st').size:=by rw [B'.size];lia
  refine wpS_bind (gE C B' (by lia) (by lia) ?_)
  cases e:κ.blt (KK κ (arrOf st') (lo+x)) (KK κ (arrOf st') (lo+x-1)) with
  | true =>
   simp only [if_true]
   have d2:Dn κ (arrOf st') lo (x+1):=d'.snoc (by lia) (KeyOrd.kle_of_klt e)
   by_cases hq0:q>0
   .rw [if_pos hq0]
    refine wpS_bind (dI (wpS_pure ⟨0,rfl,B'.arr (mirror_perm _ _ _ _),p',(du sz (by lia)).trans k',d2.same (KK_mirror_equal sz he),by lia,fun i a b=>by congr 1;lia⟩))
   .rw [if_neg hq0]
    exact wpS_pure ⟨0,rfl,B',p',k',d2,by lia,fun i a b=>by congr 1;lia⟩
  | false =>
   simp only [Bool.false_eq_true,if_false]
   refine wpS_bind (gE C B' (by lia) (by lia) ?_)
   cases e2:κ.blt (KK κ (arrOf st') (lo+x-1)) (KK κ (arrOf st') (lo+x)) with
   | true=>simp only [if_true];exact wpS_pure ⟨x,q,rfl,by lia,by lia,B',p',k',d',hq,he⟩
   | false =>
    simp only [Bool.false_eq_true,if_false]
    have eq1:KK κ (arrOf st') (lo+x)=KK κ (arrOf st') (lo+x-1):=κ.total _ _ e e2
    refine wpS_pure ⟨q+1,rfl,B',p',k',d'.snoc (by lia) (by rw [eq1];exact KeyOrd.kle_refl _),by lia,fun i a b=>?_⟩
    rw [show lo+(x+1)-1=lo+x by lia]
    by_cases hi:i=lo+x
    .rw [hi]
    .rw [eq1];exact he i (by lia) (by lia)
 .rintro c st' ⟨q,rfl,B',p',k',d',hq,he⟩
  rw [show max (n+1) nrem=nrem by lia] at d' hq he ⊢
  exact ⟨nrem,q,rfl,by lia,Nat.le_refl _,B',p',k',d',hq,he⟩
 .rintro c st' ⟨x,q,rfl,hx1,hx2,B',p',k',d',hq,he⟩
  dsimp only
  have sz:lo+x<=(arrOf st').size:=by rw [B'.size];lia
  by_cases hq0:q>0
  .rw [if_pos hq0]
   exact wpS_bind (dI (vq C (B'.arr (mirror_perm _ _ _ _)) hn p' ((du sz (by lia)).trans k') hx1 hx2 (d'.same (KK_mirror_equal sz he)) h))
  .rw [if_neg hq0]
   exact vq C B' hn p' k' hx1 hx2 d' h
theorem tT (C:Cmp prog w A s κ kd a₀)(B:SB kd a₀ st){lo nrem:Nat}{Q:Option Nat->SortSt->Prop}(hn:lo+nrem=a₀.size)(h1:1<=nrem)
  (h:∀m st',Run κ kd a₀ lo nrem st m st'->Q (some m) st'):wpS (model prog w) A E s (countRun' lo nrem) Q st:=by
 rw [vZ]
 refine wpS_bind (vL C B hn (Nat.le_refl _) h1 wn fun n hn1 hn2 u or=>?_)
 dsimp only
 by_cases hnn:n=nrem
 .rw [if_pos (by simpa using hnn)]
  exact wpS_pure (h n st ⟨B,rfl,Kp.refl,hn1,hn2,u⟩)
 .rw [if_neg (by simpa using hnn)]
  have lt:=or.resolve_left hnn
  by_cases hg:n>1
  .rw [if_pos hg]
   refine wpS_bind (gE C B (by lia) (by lia) ?_)
   cases e:κ.blt (KK κ (arrOf st) lo) (KK κ (arrOf st) (lo+n-1)) with
   | true=>simp only [if_true];exact wpS_pure (h n st ⟨B,rfl,Kp.refl,hn1,hn2,u⟩)
   | false =>
    simp only [Bool.false_eq_true,if_false]
    have sz:lo+n<=(arrOf st).size:=by rw [B.size];lia
    have all:∀k,lo<=k->k<lo+n->KK κ (arrOf st) k=KK κ (arrOf st) (lo+n-1):=fun k a b =>
     KeyOrd.kle_antisymm (u k (lo+n-1) a (by lia) (by lia)) (KeyOrd.kle_trans e (u lo k (Nat.le_refl _) a b))
    refine wpS_bind (dI (vR C (B.arr (mirror_perm _ _ _ _)) (st0:=st) hn rfl (du sz (Nat.le_refl _)) hn1 (by lia) ?_ h))
    refine Dn.same (xs:=arrOf st) (Dn.snoc (fun i j a b c=>?_) hn1 (KeyOrd.kle_of_klt lt)) (KK_mirror_equal sz all)
    rw [all i a (by lia),all j (by lia) c];exact KeyOrd.kle_refl _
  .rw [if_neg hg]
   have e1:n=1:=by lia
   subst e1
   refine vR C B hn rfl Kp.refl (Nat.le_refl _) (by lia) (Dn.snoc (fun i j a b c=>?_) (Nat.le_refl _) (KeyOrd.kle_of_klt lt)) h
   have e:i=j:=by lia
   subst e;exact KeyOrd.kle_refl _
end
end TS
end
section
namespace TS
open PySem PyProof.Rows
section
variable {prog:Program}{w:World}{A:Around}{E:Value->Shared->Prop}{s:Shared}{κ:KeyKind}{kd:SortKind}{a₀:Array Keyed}{st:SortSt}
theorem x2 (C:Cmp prog w A s κ kd a₀)(B:SB kd a₀ st){lo n ok:Nat}{Q:Bool->SortSt->Prop}(hn:lo+n<=a₀.size)(hok:ok<=n)(h1:1<=ok)(u:Up κ (arrOf st) lo ok)
  (h:∀st',SB kd a₀ st'->pendingOf st'=pendingOf st->Kp lo (arrOf st') (arrOf st)->Up κ (arrOf st') lo n->Q true st'):wpS (model prog w) A E s (binarySort' lo n ok) Q st:=by
 rw [binarySort'_eq]
 refine wpS_bind (wpS_mono (wpS_forRange (I:=fun k c st'=>c=(none,())/\SB kd a₀ st'/\pendingOf st'=pendingOf st/\Kp lo (arrOf st') (arrOf st)/\Up κ (arrOf st') lo (min k n))
  (Q:=fun c st'=>c=(none,())/\SB kd a₀ st'/\pendingOf st'=pendingOf st/\Kp lo (arrOf st') (arrOf st)/\Up κ (arrOf st') lo n) ?_ ?_ ⟨rfl,B,rfl,Kp.refl,?_⟩) ?_)
 .rintro k c st' ha hb ⟨rfl,B',p',k',u'⟩
  rw [show min k n=k by lia] at u'
  refine wpS_bind (wpS_mono (wpS_forRange (I:=fun x c st2=>st2=st'/\∃ l r,c=(none,l,r)/\l<=r/\r<=k/\r-l<=k-x /\
    (∀i,i<l->κ.kle (KK κ (arrOf st') (lo+i)) (KK κ (arrOf st') (lo+k)))/\∀i,r<=i->i<k->κ.klt (KK κ (arrOf st') (lo+k)) (KK κ (arrOf st') (lo+i)))
   (Q:=fun c st2=>st2=st'/\∃ l r,c=(none,l,r)/\l<=k /\
    (∀i,i<l->κ.kle (KK κ (arrOf st') (lo+i)) (KK κ (arrOf st') (lo+k)))/\∀i,l<=i->i<k->κ.klt (KK κ (arrOf st') (lo+k)) (KK κ (arrOf st') (lo+i))) ?_ ?_
   ⟨rfl,0,k,rfl,by lia,by lia,by lia,fun i hi=>by lia,fun i a b=>by lia⟩) ?_)
  .rintro x c st2 _ hx ⟨rfl,l,r,rfl,h1',h2',h3',a,b⟩
   dsimp only
   by_cases hg:l ≥ r
   .rw [if_pos hg]
    have e:l=r:=by lia
    subst e
    exact wpS_pure ⟨rfl,l,l,rfl,h2',a,b⟩
   .rw [if_neg hg]
    refine wpS_bind (gE C B' (by lia) (by lia) ?_)
    cases e:κ.blt (KK κ (arrOf st2) (lo+k)) (KK κ (arrOf st2) (lo+(l+r) / 2)) with
    | true =>
     simp only [if_true]
     refine wpS_pure ⟨rfl,l,(l+r) / 2,rfl,by lia,by lia,by lia,a,fun i c d=>?_⟩
     exact KeyOrd.klt_of_klt_of_kle e (u' _ _ (by lia) (by lia) (by lia))
    | false =>
     simp only [Bool.false_eq_true,if_false]
     refine wpS_pure ⟨rfl,(l+r) / 2+1,r,rfl,by lia,by lia,by lia,fun i c=>?_,b⟩
     exact KeyOrd.kle_trans (u' (lo+i) (lo+(l+r) / 2) (by lia) (by lia) (by lia)) (show κ.kle _ _ from e)
  .rintro c st2 ⟨rfl,l,r,rfl,h1',h2',h3',a,b⟩
   have e:l=r:=by lia
   subst e
   exact ⟨rfl,l,l,rfl,h2',a,b⟩
  .rintro c st2 ⟨rfl,l,r,rfl,hl,a,b⟩
   show wpS _ _ _ _ (moveDown' (lo+k) (lo+l) >>= fun _=>pure (ForInStep.yield (none,()))) _ _
   rw [moveDown'_eq]
   have sz:lo+k<(arrOf st2).size:=by rw [B'.size];lia
   refine wpS_bind (wpS_modify (wpS_pure ⟨rfl,B'.arr (bubble_perm _ _ _),p',(pd sz (by lia) (by lia)).trans k',?_⟩))
   rw [show min (k+1) n=k+1 by lia]
   intro i j hi hij hj
   show κ.kle (KK κ (bubble (arrOf st2) (lo+k) (lo+k-(lo+l))) i) (KK κ (bubble (arrOf st2) (lo+k) (lo+k-(lo+l))) j)
   rw [KK_bubble sz (by lia),KK_bubble sz (by lia),show lo+k-(lo+k-(lo+l))=lo+l by lia]
   have a':∀i,lo<=i->i<lo+l->κ.kle (KK κ (arrOf st2) i) (KK κ (arrOf st2) (lo+k)):=fun i c d=>by
    have:=a (i-lo) (by lia)
    rwa [show lo+(i-lo)=i by lia] at this
   have b':∀i,lo+l<=i->i<lo+k->κ.kle (KK κ (arrOf st2) (lo+k)) (KK κ (arrOf st2) i):=fun i c d=>by
    have:=KeyOrd.kle_of_klt (b (i-lo) (by lia) (by lia))
    rwa [show lo+(i-lo)=i by lia] at this
   repeat' split
   all_goals first
    | (exfalso;lia)
    | exact KeyOrd.kle_refl _
    | exact a' _ (by lia) (by lia)
    | exact b' _ (by lia) (by lia)
    | exact u' _ _ (by lia) (by lia) (by lia)
 .rintro c st' ⟨hc,B',p',k',u'⟩
  refine ⟨hc,B',p',k',?_⟩
  rwa [show min (max (max ok 1) n) n=n by lia] at u'
 .rw [show min (max ok 1) n=ok by lia];exact u
 .rintro c st' ⟨rfl,B',p',k',u'⟩
  exact wpS_pure (h st' B' p' k' u')
def bey (κ:KeyKind)(left:Bool)(key:Keyed)(p:Keyed):Bool:=if left then Lb κ p key else !Lb κ key p
theorem qz {left:Bool}{key p q:Keyed}(h:bey κ left key q=true)(l:Le κ p q):bey κ left key p=true:=by
 unfold bey at *
 cases left with
 | true=>simp only [if_true] at *;exact xJ l h
 | false =>
  simp only [Bool.false_eq_true,if_false,Bool.not_eq_true',Bool.not_eq_eq_eq_not,Bool.not_true] at *
  exact Le.trans (p:=p) l h
theorem xD (C:Cmp prog w A s κ kd a₀)(hk:kindOf st=kd){left:Bool}{key:Keyed}{arr:Array Keyed}{base n hint:Nat}{Q:Option Nat->SortSt->Prop}(hkey:key∈a₀.toList)
  (f:Nat->Keyed) (hf:∀i,i<n->arr[base+i]?=some (f i)/\f i∈a₀.toList) (up:∀i j,i<=j->j<n->Le κ (f i) (f j)) (hh:hint<n)
  (h:∀k,k<=n->(∀i,i<k->bey κ left key (f i)=true)->(∀i,k<=i->i<n->bey κ left key (f i)=false)->Q (some k) st):wpS (model prog w) A E s (gal left key arr base n hint) Q st:=by
 have one:∀i,i<n->∀R:Option Bool->SortSt->Prop,R (some (bey κ left key (f i))) st->wpS (model prog w) A E s (elem' arr (base+i) >>= fun x=>if left=true then lt' x key else lt' key x >>= fun r=>pure (Option.map (fun b=>!b) r)) R st:=by
  intro i hi R r
  obtain ⟨e,m⟩:=hf i hi
  refine wpS_bind (aU e ?_)
  cases left with
  | true=>simp only [if_true];exact qT C m hkey hk r
  | false=>simp only [Bool.false_eq_true,if_false];exact wpS_bind (qT C hkey m hk (wpS_pure r))
 have dn:∀i j,i<=j->j<n->bey κ left key (f j)=true->bey κ left key (f i)=true:=fun i j a b c=>qz c (up i j a b)
 have no:∀i j,i<=j->j<n->bey κ left key (f i)=false->bey κ left key (f j)=false:=fun i j a b c=>by
  cases e:bey κ left key (f j) with
  | false=>rfl
  | true=>rw [dn i j a b e] at c;cases c
 show wpS (model prog w) A E s (gal left key arr base n hint) Q st
 refine wpS_bind (one hint hh _ ?_)
 dsimp only
 cases e:bey κ left key (f hint) with
 | true =>
  simp only [if_true]
  refine wpS_bind (wpS_mono (wpS_forRange (I:=fun x c st'=>st'=st/\∃ la o,c=(none,la,o)/\la<o/\x<o/\hint+la<n/\bey κ left key (f (hint+la))=true)
   (Q:=fun c st'=>st'=st/\∃ la o,c=(none,la,o)/\la<o/\hint+la<n/\bey κ left key (f (hint+la))=true/\(n-hint<=o∨bey κ left key (f (hint+o))=false)) ?_ ?_ ⟨rfl,0,1,rfl,by lia,by lia,by lia,e⟩) ?_)
  .rintro x c st' _ hx ⟨rfl,la,o,rfl,h1,h2,h3,h4⟩
   dsimp only
   by_cases hg:o ≥ n-hint
   .rw [if_pos hg]
    exact wpS_pure ⟨rfl,la,o,rfl,h1,h3,h4,.inl hg⟩
   .rw [if_neg hg]
    refine wpS_bind (one _ (by lia) _ ?_)
    cases e2:bey κ left key (f (hint+o)) with
    | true =>
     simp only [Bool.not_true,Bool.false_eq_true,if_false]
     exact wpS_pure ⟨rfl,o,2*o+1,rfl,by lia,by lia,by lia,e2⟩
    | false =>
     simp only [Bool.not_false,if_true]
     exact wpS_pure ⟨rfl,la,o,rfl,h1,h3,h4,.inr e2⟩
  .rintro c st' ⟨rfl,la,o,rfl,h1,h2,h3,h4⟩
   exact ⟨rfl,la,o,rfl,h1,h3,h4,.inl (by lia)⟩
  .rintro c st' ⟨rfl,la,o,rfl,h1,h3,h4,h5⟩
   have q1:hint+la+1<=hint+min o (n-hint):=by lia
   have q2:hint+min o (n-hint)<=n:=by lia
   have q3:∀i,i<hint+la+1->bey κ left key (f i)=true:=fun i a=>dn i _ (by lia) h3 h4
   have q4:∀i,hint+min o (n-hint)<=i->i<n->bey κ left key (f i)=false:=fun i a b=>by
    rcases h5 with h5 | h5
    .lia
    .exact no _ i (by lia) b h5
   dsimp only
   refine wpS_bind (wpS_mono (wpS_forRange (I:=fun x c z=>z=st'/\∃ lo hi,c=(none,lo,hi)/\lo<=hi/\hi<=n/\hi-lo<=n-x/\(∀i,i<lo->bey κ left key (f i)=true)/\∀i,hi<=i->i<n->bey κ left key (f i)=false)
    (Q:=fun c z=>z=st'/\∃ k,c=(none,k,k)/\k<=n/\(∀i,i<k->bey κ left key (f i)=true)/\∀i,k<=i->i<n->bey κ left key (f i)=false) ?_ ?_ ⟨rfl,_,_,rfl,q1,q2,by lia,q3,q4⟩) ?_)
   .rintro x c st2 _ hx ⟨rfl,lo,hi,rfl,h1,h2,h3,a,b⟩
    dsimp only
    by_cases hg:lo ≥ hi
    .rw [if_pos hg]
     have e:lo=hi:=by lia
     subst e
     exact wpS_pure ⟨rfl,lo,rfl,h2,a,b⟩
    .rw [if_neg hg]
     refine wpS_bind (one _ (by lia) _ ?_)
     cases e:bey κ left key (f (lo+(hi-lo) / 2)) with
     | true =>
      simp only [if_true]
      exact wpS_pure ⟨rfl,_,_,rfl,by lia,by lia,by lia,fun i c=>dn i _ (by lia) (by lia) e,b⟩
     | false =>
      simp only [Bool.false_eq_true,if_false]
      exact wpS_pure ⟨rfl,_,_,rfl,by lia,by lia,by lia,a,fun i c d=>no _ i c d e⟩
   .rintro c st2 ⟨rfl,lo,hi,rfl,h1,h2,h3,a,b⟩
    have e:lo=hi:=by lia
    subst e
    exact ⟨rfl,lo,rfl,h2,a,b⟩
   .rintro c st2 ⟨rfl,k,rfl,hk,a,b⟩
    exact wpS_pure (h k hk a b)
 | false =>
  simp only [Bool.false_eq_true,if_false]
  refine wpS_bind (wpS_mono (wpS_forRange (I:=fun x c st'=>st'=st/\∃ la o,c=(none,la,o)/\la<o/\x<o/\la<=hint/\bey κ left key (f (hint-la))=false)
   (Q:=fun c st'=>st'=st/\∃ la o,c=(none,la,o)/\la<o/\la<=hint/\bey κ left key (f (hint-la))=false/\(hint+1<=o∨bey κ left key (f (hint-o))=true)) ?_ ?_ ⟨rfl,0,1,rfl,by lia,by lia,by lia,e⟩) ?_)
  .rintro x c st' _ hx ⟨rfl,la,o,rfl,h1,h2,h3,h4⟩
   dsimp only
   by_cases hg:o ≥ hint+1
   .rw [if_pos hg]
    exact wpS_pure ⟨rfl,la,o,rfl,h1,h3,h4,.inl hg⟩
   .rw [if_neg hg]
    refine wpS_bind (one _ (by lia) _ ?_)
    cases e2:bey κ left key (f (hint-o)) with
    | true =>
     simp only [if_true]
     exact wpS_pure ⟨rfl,la,o,rfl,h1,h3,h4,.inr e2⟩
    | false =>
     simp only [Bool.false_eq_true,if_false]
     exact wpS_pure ⟨rfl,o,2*o+1,rfl,by lia,by lia,by lia,e2⟩
  .rintro c st' ⟨rfl,la,o,rfl,h1,h2,h3,h4⟩
   exact ⟨rfl,la,o,rfl,h1,h3,h4,.inl (by lia)⟩
  .rintro c st' ⟨rfl,la,o,rfl,h1,h3,h4,h5⟩
   have q1:hint+1-min o (hint+1)<=hint-la:=by lia
   have q2:hint-la<=n:=by lia
   have q3:∀i,i<hint+1-min o (hint+1)->bey κ left key (f i)=true:=fun i a=>by
    rcases h5 with h5 | h5
    .lia
    .exact dn i _ (by lia) (by lia) h5
   have q4:∀i,hint-la<=i->i<n->bey κ left key (f i)=false:=fun i a b=>no _ i a b h4
   dsimp only
   refine wpS_bind (wpS_mono (wpS_forRange (I:=fun x c z=>z=st'/\∃ lo hi,c=(none,lo,hi)/\lo<=hi/\hi<=n/\hi-lo<=n-x/\(∀i,i<lo->bey κ left key (f i)=true)/\∀i,hi<=i->i<n->bey κ left key (f i)=false)
    (Q:=fun c z=>z=st'/\∃ k,c=(none,k,k)/\k<=n/\(∀i,i<k->bey κ left key (f i)=true)/\∀i,k<=i->i<n->bey κ left key (f i)=false) ?_ ?_ ⟨rfl,_,_,rfl,q1,q2,by lia,q3,q4⟩) ?_)
   .rintro x c st2 _ hx ⟨rfl,lo,hi,rfl,h1,h2,h3,a,b⟩
    dsimp only
    by_cases hg:lo ≥ hi
    .rw [if_pos hg]
     have e:lo=hi:=by lia
     subst e
     exact wpS_pure ⟨rfl,lo,rfl,h2,a,b⟩
    .rw [if_neg hg]
     refine wpS_bind (one _ (by lia) _ ?_)
     cases e:bey κ left key (f (lo+(hi-lo) / 2)) with
     | true =>
      simp only [if_true]
      exact wpS_pure ⟨rfl,_,_,rfl,by lia,by lia,by lia,fun i c=>dn i _ (by lia) (by lia) e,b⟩
     | false =>
      simp only [Bool.false_eq_true,if_false]
      exact wpS_pure ⟨rfl,_,_,rfl,by lia,by lia,by lia,a,fun i c d=>no _ i c d e⟩
   .rintro c st2 ⟨rfl,lo,hi,rfl,h1,h2,h3,a,b⟩
    have e:lo=hi:=by lia
    subst e
    exact ⟨rfl,lo,rfl,h2,a,b⟩
   .rintro c st2 ⟨rfl,k,rfl,hk,a,b⟩
    exact wpS_pure (h k hk a b)
end
end TS
end
section
namespace TS
open PySem PyProof.Rows
structure Wv (κ:KeyKind)(a b out:List Keyed)(ia ib:Nat):Prop where
 perm:out.Perm (a.take ia++b.take ib)
 srt:out.Pairwise (Le κ)
 la:∀x∈out,∀y∈a.drop ia,Le κ x y
 lb:∀x∈out,∀y∈b.drop ib,Le κ x y
def Pst (κ:KeyKind)(a b r:List Keyed):Prop:=r.Perm (a++b)/\r.Pairwise (Le κ)
section
variable {κ:KeyKind}{a b out:List Keyed}{ia ib:Nat}
theorem Wv.swap (h:Wv κ a b out ia ib):Wv κ b a out ib ia:=⟨h.perm.trans List.perm_append_comm,h.srt,h.lb,h.la⟩
theorem Wv.app (h:Wv κ a b out ia ib)(sb:b.Pairwise (Le κ))(k:Nat)(hle:∀x∈(b.drop ib).take k,∀y∈a.drop ia,Le κ x y):Wv κ a b (out++(b.drop ib).take k) ia (ib+k):=by
 have sd:(b.drop ib).Pairwise (Le κ):=sb.sublist (List.drop_sublist _ _)
 have e:b.drop ib=(b.drop ib).take k++b.drop (ib+k):=by rw [<-List.drop_drop,List.take_append_drop]
 have sd2:((b.drop ib).take k++b.drop (ib+k)).Pairwise (Le κ):=e▸sd
 refine ⟨?_,?_,?_,?_⟩
 .have e2:b.take (ib+k)=b.take ib++(b.drop ib).take k:=List.take_add
  rw [e2,<-List.append_assoc]
  exact h.perm.append_right _
 .refine List.pairwise_append.mpr ⟨h.srt,(List.pairwise_append.mp sd2).1,fun x hx y hy=>h.lb x hx y (List.mem_of_mem_take hy)⟩
 .intro x hx y hy
  rcases List.mem_append.mp hx with hx | hx
  .exact h.la x hx y hy
  .exact hle x hx y hy
 .intro x hx y hy
  rcases List.mem_append.mp hx with hx | hx
  .exact h.lb x hx y (by rw [e];exact List.mem_append_right _ hy)
  .exact (List.pairwise_append.mp sd2).2.2 x hx y hy
theorem ol {l:List Keyed}{i:Nat}{p:Keyed}(h:l[i]?=some p):(l.drop i).take 1=[p]:=by
 obtain ⟨hi,e⟩:=List.getElem?_eq_some_iff.mp h
 rw [List.drop_eq_getElem_cons hi,e];rfl
theorem br {l:List Keyed}{i:Nat}{x:Keyed}(h:x∈l.drop i):∃ j,i<=j/\l[j]?=some x:=by
 obtain ⟨j,hj,e⟩:=List.getElem_of_mem h
 refine ⟨i+j,by lia,?_⟩
 rw [List.getElem_drop] at e
 rw [<-e]
 rw [List.length_drop] at hj
 exact List.getElem?_eq_getElem (by lia)
theorem bC (sa:a.Pairwise (Le κ)){i j:Nat}{x y:Keyed}(hx:a[i]?=some x)(hy:a[j]?=some y)(h:i<=j):Le κ x y:=by
 obtain ⟨hi,ex⟩:=List.getElem?_eq_some_iff.mp hx
 obtain ⟨hj,ey⟩:=List.getElem?_eq_some_iff.mp hy
 rcases Nat.lt_or_ge i j with q | q
 .have:=List.pairwise_iff_getElem.mp sa i j hi hj q
  rw [ex,ey] at this;exact this
 .have e:i=j:=by lia
  subst e
  rw [ex] at ey;subst ey;exact Le.refl _
theorem Wv.push (h:Wv κ a b out ia ib)(sb:b.Pairwise (Le κ)){p:Keyed}(hp:b[ib]?=some p)(hle:∀y∈a.drop ia,Le κ p y):Wv κ a b (out++[p]) ia (ib+1):=by
 have:=h.app sb 1 (by rw [ol hp];intro x hx y hy;rw [List.mem_singleton.mp hx];exact hle y hy)
 rwa [ol hp] at this
theorem Wv.cat (h:Wv κ a b out ia ib){rest:List Keyed}(hp:rest.Perm (a.drop ia++b.drop ib))(hs:rest.Pairwise (Le κ)):Pst κ a b (out++rest):=by
 refine ⟨?_,List.pairwise_append.mpr ⟨h.srt,hs,fun x hx y hy=>?_⟩⟩
 .have p1:(out++rest).Perm ((a.take ia++b.take ib)++(a.drop ia++b.drop ib)):=h.perm.append hp
  have p2:((a.take ia++b.take ib)++(a.drop ia++b.drop ib)).Perm ((a.take ia++a.drop ia)++(b.take ib++b.drop ib)):=by
   rw [List.append_assoc,List.append_assoc]
   refine List.Perm.append_left _ ?_
   rw [<-List.append_assoc,<-List.append_assoc]
   exact List.perm_append_comm.append_right _
  rw [List.take_append_drop,List.take_append_drop] at p2
  exact p1.trans p2
 .rcases List.mem_append.mp (hp.mem_iff.mp hy) with q | q
  .exact h.la x hx y q
  .exact h.lb x hx y q
theorem Wv.done (h:Wv κ a b out ia ib)(sa:a.Pairwise (Le κ))(sb:b.Pairwise (Le κ))(hz:a.length<=ia∨b.length<=ib):Pst κ a b (out++a.drop ia++b.drop ib):=by
 rw [List.append_assoc]
 refine h.cat (List.Perm.refl _) ?_
 rcases hz with z | z
 .rw [List.drop_eq_nil_of_le z];exact sb.sublist (List.drop_sublist _ _)
 .rw [List.drop_eq_nil_of_le z,List.append_nil];exact sa.sublist (List.drop_sublist _ _)
theorem Wv.last (h:Wv κ a b out ia ib)(sb:b.Pairwise (Le κ))(hz:ia+1=a.length)(hl:∀y∈b,∀x,a[a.length-1]?=some x->Le κ y x):Pst κ a b (out++b.drop ib++a.drop ia):=by
 rw [List.append_assoc]
 have ⟨x,ex⟩:∃ x,a[ia]?=some x:=⟨a[ia],List.getElem?_eq_getElem (by lia)⟩
 have e:a.drop ia=[x]:=by
  obtain ⟨hi,e⟩:=List.getElem?_eq_some_iff.mp ex
  rw [List.drop_eq_getElem_cons hi,e,List.drop_eq_nil_of_le (by lia)]
 refine h.cat List.perm_append_comm ?_
 rw [e]
 refine List.pairwise_append.mpr ⟨sb.sublist (List.drop_sublist _ _),List.pairwise_singleton _ _,fun y hy z hz=>?_⟩
 rw [List.mem_singleton.mp hz]
 exact hl y (List.mem_of_mem_drop hy) x (by rw [show a.length-1=ia by lia];exact ex)
end
def St0 (st st':SortSt):Prop:=kindOf st'=kindOf st/\arrOf st'=arrOf st/\pendingOf st'=pendingOf st/\failedOf st'=failedOf st
theorem St0.refl (st:SortSt):St0 st st:=⟨rfl,rfl,rfl,rfl⟩
section
variable {prog:Program}{w:World}{A:Around}{E:Value->Shared->Prop}{s:Shared}{κ:KeyKind}{kd:SortKind}{a₀:Array Keyed}{st:SortSt}
theorem jz {g:Nat}{st1:SortSt}{Q:Unit->SortSt->Prop}(hs:St0 st st1)(h:∀st',St0 st st'->Q () st'):wpS (model prog w) A E s (yw g) Q st1:=by
 refine wpS_modify (h _ ?_)
 exact ⟨hs.1,hs.2.1,hs.2.2.1,hs.2.2.2⟩
theorem gS (a:List Keyed)(i k:Nat):(a.toArray.extract i (i+k)).toList=(a.drop i).take k:=by simp
theorem fZ (C:Cmp prog w A s κ kd a₀)(hk:kindOf st=kd){left:Bool}{key:Keyed}{l:List Keyed}{base n hint:Nat}{Q:Option Nat->SortSt->Prop}(hkey:key∈a₀.toList)
  (hm:∀p∈l,p∈a₀.toList) (hs:((l.drop base).take n).Pairwise (Le κ)) (hb:base+n<=l.length) (hh:hint<n)
  (h:∀k,k<=n->(∀x∈(l.drop base).take k,bey κ left key x=true)->(∀x∈((l.drop base).take n).drop k,bey κ left key x=false)->Q (some k) st) :
  wpS (model prog w) A E s (gal left key l.toArray base n hint) Q st:=by
 have at':∀i,i<n->∃ p,l[base+i]?=some p:=fun i hi=>⟨l[base+i],List.getElem?_eq_getElem (by lia)⟩
 have seg:∀i,i<n->((l.drop base).take n)[i]?=l[base+i]?:=fun i hi=>by rw [List.getElem?_take,if_pos hi,List.getElem?_drop]
 have fe:∀i,i<n->l[base+i]?=some ((l[base+i]?).getD key):=fun i hi=>by
  obtain ⟨p,e⟩:=at' i hi;rw [e];rfl
 refine xD C hk hkey (fun i=>(l[base+i]?).getD key) (fun i hi=>⟨?_,?_⟩) (fun i j hij hj=>?_) hh fun k hk1 hk2 hk3=>h k hk1 (fun x hx=>?_) fun x hx=>?_
 .rw [List.getElem?_toArray];exact fe i hi
 .exact hm _ (List.mem_of_getElem? (fe i hi))
 .exact bC hs ((seg i (by lia)).trans (fe i (by lia))) ((seg j hj).trans (fe j hj)) hij
 .obtain ⟨i,hi,e⟩:=List.getElem_of_mem hx
  have hi':i<k:=by rw [List.length_take] at hi;lia
  have e2:l[base+i]?=some x:=by
   rw [List.getElem_take,List.getElem_drop] at e
   rw [<-e];exact List.getElem?_eq_getElem (by lia)
  have:=hk2 i hi'
  rw [e2] at this;exact this
 .obtain ⟨j,hj,e⟩:=br hx
  have hjn:j<n:=by
   have:=(List.getElem?_eq_some_iff.mp e).1
   rw [List.length_take] at this;lia
  rw [seg j hjn] at e
  have:=hk3 j hj hjn
  rw [e] at this;exact this
theorem x3 {a b:List Keyed}{Q:Array Keyed->SortSt->Prop}(C:Cmp prog w A s κ kd a₀)(hk:kindOf st=kd)(ha:∀p∈a,p∈a₀.toList)(hb:∀p∈b,p∈a₀.toList)
  (sa:a.Pairwise (Le κ)) (sb:b.Pairwise (Le κ)) (na:0<a.length) (nb:0<b.length) (h0:∀p,b[0]?=some p->∀x∈a,Le κ p x) (hl:∀y∈b,∀x,a[a.length-1]?=some x->Le κ y x)
  (h:∀r st',St0 st st'->Pst κ a b r.toList->Q r st'):wpS (model prog w) A E s (mLo a.toArray b.toArray) Q st:=by
 have atA:∀i,i<a.length->∃ p,a.toArray[i]?=some p/\a[i]?=some p/\p∈a₀.toList:=fun i hi=>⟨a[i],by simp [hi],by simp [hi],ha _ (List.getElem_mem hi)⟩
 have atB:∀i,i<b.length->∃ p,b.toArray[i]?=some p/\b[i]?=some p/\p∈a₀.toList:=fun i hi=>⟨b[i],by simp [hi],by simp [hi],hb _ (List.getElem_mem hi)⟩
 have fD:∀(out:Array Keyed) ia ib,(out++a.toArray.extract ia++b.toArray.extract ib).toList=out.toList++a.drop ia++b.drop ib:=fun out ia ib=>by simp [List.take_of_length_le]
 have fL:∀(out:Array Keyed) ia ib,(out++b.toArray.extract ib++a.toArray.extract ia).toList=out.toList++b.drop ib++a.drop ia:=fun out ia ib=>by simp [List.take_of_length_le]
 have szA:a.toArray.size=a.length:=by simp
 have szB:b.toArray.size=b.length:=by simp
 obtain ⟨b0,eb,eb',mb⟩:=atB 0 nb
 have w0:Wv κ a b [b0] 0 1:=by
  have e:=ol eb'
  rw [List.drop_zero] at e
  refine ⟨by rw [e];exact List.Perm.refl _,List.pairwise_singleton _ _,fun x hx y hy=>?_,fun x hx y hy=>?_⟩
  .rw [List.mem_singleton.mp hx];exact h0 _ eb' y (by simpa using hy)
  .rw [List.mem_singleton.mp hx]
   obtain ⟨j,hj,ej⟩:=br hy
   exact bC sb eb' ej (by lia)
 refine wpS_bind (m:=liftM (rule _)) (wpS_lift (wpAny_rule ⟨rfl,?_⟩))
 dsimp only
 refine wpS_bind (aU eb ?_)
 by_cases g1:1=b.length
 .rw [if_pos (by rw [szB];simpa using g1)]
  refine wpS_pure (h _ _ (St0.refl _) ?_)
  rw [fD];exact w0.done sa sb (.inr (by lia))
 rw [if_neg (by rw [szB];simpa using g1)]
 by_cases g2:0+1=a.length
 .rw [if_pos (by rw [szA];simpa using g2)]
  refine wpS_pure (h _ _ (St0.refl _) ?_)
  rw [fL];exact w0.last sb g2 hl
 rw [if_neg (by rw [szA];simpa using g2)]
 refine wpS_bind (wpS_get ?_)
 refine wpS_bind (wpS_mono (wpS_forRange (I:=fun x c st'=>∃ out ia ib g,c=(none,out,ia,ib,g)/\Wv κ a b out.toList ia ib/\ia+1<a.length/\ib<b.length/\x<ia+ib/\St0 st st')
  (Q:=fun c st'=>∃ r z,c=(some r,z)/\Pst κ a b r.toList/\St0 st st') ?_ ?_ ⟨_,0,1,_,rfl,w0,by lia,by lia,by lia,St0.refl _⟩) ?_)
 .rintro x c st1 _ hx ⟨out,ia,ib,g,rfl,W,hia,hib,hm,hs⟩
  dsimp only
  refine wpS_bind (wpS_mono (wpS_forRange (I:=fun y c st'=>∃ out' ia' ib' ac bc,c=(none,out',ia',ib',ac,bc)/\Wv κ a b out'.toList ia' ib'/\ia'+1<a.length/\ib'<b.length/\y+ia+ib<=ia'+ib'/\St0 st st')
   (Q:=fun c st'=>St0 st st'/\((∃ r z,c=(some r,z)/\Pst κ a b r.toList)∨∃ out' ia' ib' ac bc,c=(none,out',ia',ib',ac,bc)/\Wv κ a b out'.toList ia' ib'/\ia'+1<a.length/\ib'<b.length/\1+ia+ib<=ia'+ib')) ?_ ?_
   ⟨out,ia,ib,0,0,rfl,W,hia,hib,by lia,hs⟩) ?_)
  .rintro y c st2 _ hy ⟨out',ia',ib',ac,bc,rfl,W',hia',hib',hm',hs'⟩
   dsimp only
   obtain ⟨p,ep,ep',mp⟩:=atB ib' hib'
   obtain ⟨q,eq,eq',mq⟩:=atA ia' (by lia)
   refine wpS_bind (aU ep (wpS_bind (aU eq (wpS_bind (qT C mp mq (hs'.1.trans hk) ?_)))))
   cases e:Lb κ p q with
   | true =>
    simp only [if_true]
    refine wpS_bind (aU ep ?_)
    have W2:Wv κ a b (out'.push p).toList ia' (ib'+1):=by
     rw [Array.toList_push]
     refine W'.push sb ep' fun y hy=>?_
     obtain ⟨j,hj,ej⟩:=br hy
     exact Le.trans (Le.of_lt e) (bC sa eq' ej hj)
    by_cases g3:ib'+1=b.length
    .rw [if_pos (by rw [szB];simpa using g3)]
     refine wpS_pure ⟨hs',.inl ⟨_,_,rfl,?_⟩⟩
     rw [fD];exact W2.done sa sb (.inr (by lia))
    .rw [if_neg (by rw [szB];simpa using g3)]
     split
     .exact wpS_pure ⟨hs',.inr ⟨_,_,_,_,_,rfl,W2,hia',by lia,by lia⟩⟩
     .exact wpS_pure ⟨_,_,_,_,_,rfl,W2,hia',by lia,by lia,hs'⟩
   | false =>
    simp only [Bool.false_eq_true,if_false]
    refine wpS_bind (aU eq ?_)
    have W2:Wv κ a b (out'.push q).toList (ia'+1) ib':=by
     rw [Array.toList_push]
     refine (W'.swap.push sa eq' fun y hy=>?_).swap
     obtain ⟨j,hj,ej⟩:=br hy
     exact Le.trans (show Le κ q p from e) (bC sb ep' ej hj)
    by_cases g3:ia'+1+1=a.length
    .rw [if_pos (by rw [szA];simpa using g3)]
     refine wpS_pure ⟨hs',.inl ⟨_,_,rfl,?_⟩⟩
     rw [fL];exact W2.last sb g3 hl
    .rw [if_neg (by rw [szA];simpa using g3)]
     split
     .exact wpS_pure ⟨hs',.inr ⟨_,_,_,_,_,rfl,W2,by lia,by lia,by lia⟩⟩
     .exact wpS_pure ⟨_,_,_,_,_,rfl,W2,by lia,by lia,by lia,hs'⟩
  .rintro c st2 ⟨out',ia',ib',ac,bc,rfl,W',hia',hib',hm',hs'⟩
   exfalso
   rw [szA,szB] at hm'
   lia
  .rintro c st2 ⟨hs',⟨r,z,rfl,hr⟩ | ⟨out',ia',ib',ac,bc,rfl,W',hia',hib',hm'⟩⟩
   .dsimp only
    exact wpS_pure ⟨_,_,rfl,hr,hs'⟩
   .dsimp only
    refine wpS_bind (m:=liftM (rule _)) (wpS_lift (wpAny_rule ⟨rfl,?_⟩))
    refine wpS_bind (wpS_mono (wpS_forRange (I:=fun y c st'=>∃ o i j g ac bc,c=(none,o,i,j,g,ac,bc)/\Wv κ a b o.toList i j/\i+1<a.length/\j<b.length/\y+ia'+ib'<=i+j/\St0 st st')
     (Q:=fun c st'=>St0 st st'/\((∃ r z,c=(some r,z)/\Pst κ a b r.toList)∨∃ o i j g ac bc,c=(none,o,i,j,g,ac,bc)/\Wv κ a b o.toList i j/\i+1<a.length/\j<b.length/\ia'+ib'<=i+j)) ?_ ?_
     ⟨out',ia',ib',_,ac,bc,rfl,W',hia',hib',by lia,hs'⟩) ?_)
    .rintro y c st3 _ hy ⟨o,i,j,g',ac',bc',rfl,V,hi,hj,hm3,hs3⟩
     dsimp only
     obtain ⟨p,ep,ep',mp⟩:=atB j hj
     by_cases gg:g'>1
     case' pos=>rw [if_pos gg]
     case' neg=>rw [if_neg gg]
     all_goals
      refine wpS_bind (jz hs3 fun st4 hs4=>?_)
      refine wpS_bind (aU ep (wpS_bind (fZ C (hs4.1.trans hk) mp ha (sa.sublist ((List.take_sublist _ _).trans (List.drop_sublist _ _))) (by rw [szA];lia) (by rw [szA];lia) fun k hk1 hk2 hk3=>?_)))
      rw [szA] at hk1 hk3
      rw [List.take_of_length_le (by rw [List.length_drop];lia),List.drop_drop] at hk3
      dsimp only
      have hp:∀y∈a.drop (i+k),Le κ p y:=fun y hy=>by
       have:=hk3 y hy
       unfold bey at this;exact Le.of_lt (by simpa using this)
      by_cases g3:k>0
      .rw [if_pos g3]
       have V1:Wv κ a b (o++a.toArray.extract i (i+k)).toList (i+k) j:=by
        rw [Array.toList_append,gS]
        refine (V.swap.app sa k fun x hx y hy=>?_).swap
        have:=hk2 x hx
        unfold bey at this
        obtain ⟨jj,hjj,ejj⟩:=br hy
        exact Le.trans (show Le κ x p from (show Lb κ p x=false by simpa using this)) (bC sb ep' ejj hjj)
       by_cases g8:i+k+1=a.length
       .rw [if_pos (by rw [szA];simpa using g8)]
        refine wpS_pure ⟨hs4,.inl ⟨_,_,rfl,?_⟩⟩
        rw [fL];exact V1.last sb g8 hl
       rw [if_neg (by rw [szA];simpa using g8)]
       by_cases g9:i+k=a.length
       .rw [if_pos (by rw [szA];simpa using g9)]
        refine wpS_pure ⟨hs4,.inl ⟨_,_,rfl,?_⟩⟩
        rw [fD];exact V1.done sa sb (.inl (by lia))
       rw [if_neg (by rw [szA];simpa using g9)]
       refine wpS_bind (aU ep ?_)
       have V2:Wv κ a b ((o++a.toArray.extract i (i+k)).push p).toList (i+k) (j+1):=by
        rw [Array.toList_push]
        exact V1.push sb ep' hp
       by_cases g4:j+1=b.length
       .rw [if_pos (by rw [szB];simpa using g4)]
        refine wpS_pure ⟨hs4,.inl ⟨_,_,rfl,?_⟩⟩
        rw [fD];exact V2.done sa sb (.inr (by lia))
       rw [if_neg (by rw [szB];simpa using g4)]
       obtain ⟨q,eq,eq',mq⟩:=atA (i+k) (by lia)
       refine wpS_bind (aU eq (wpS_bind (fZ C (hs4.1.trans hk) mq hb (sb.sublist ((List.take_sublist _ _).trans (List.drop_sublist _ _))) (by rw [szB];lia) (by rw [szB];lia) fun k' hk1' hk2' hk3'=>?_)))
       rw [szB] at hk1' hk3'
       rw [List.take_of_length_le (by rw [List.length_drop];lia),List.drop_drop] at hk3'
       dsimp only
       have hq:∀y∈b.drop (j+1+k'),Le κ q y:=fun y hy=>by
        have:=hk3' y hy
        unfold bey at this;exact (show Lb κ y q=false by simpa using this)
       by_cases g6:k'>0
       .rw [if_pos g6]
        have V3:Wv κ a b ((o++a.toArray.extract i (i+k)).push p++b.toArray.extract (j+1) (j+1+k')).toList (i+k) (j+1+k'):=by
         rw [Array.toList_append,gS]
         refine V2.app sb k' fun x hx y hy=>?_
         have:=hk2' x hx
         unfold bey at this
         obtain ⟨jj,hjj,ejj⟩:=br hy
         exact Le.trans (Le.of_lt (by simpa using this)) (bC sa eq' ejj hjj)
        by_cases g7:j+1+k'=b.length
        .rw [if_pos (by rw [szB];simpa using g7)]
         refine wpS_pure ⟨hs4,.inl ⟨_,_,rfl,?_⟩⟩
         rw [fD];exact V3.done sa sb (.inr (by lia))
        .rw [if_neg (by rw [szB];simpa using g7)]
         refine wpS_bind (aU eq ?_)
         have V4:Wv κ a b (((o++a.toArray.extract i (i+k)).push p++b.toArray.extract (j+1) (j+1+k')).push q).toList (i+k+1) (j+1+k'):=by
          rw [Array.toList_push]
          exact (V3.swap.push sa eq' hq).swap
         by_cases g5:i+k+1+1=a.length
         .rw [if_pos (by rw [szA];simpa using g5)]
          refine wpS_pure ⟨hs4,.inl ⟨_,_,rfl,?_⟩⟩
          rw [fL];exact V4.last sb g5 hl
         .rw [if_neg (by rw [szA];simpa using g5)]
          split
          .exact wpS_pure ⟨hs4,.inr ⟨_,_,_,_,_,_,rfl,V4,by lia,by lia,by lia⟩⟩
          .exact wpS_pure ⟨_,_,_,_,_,_,rfl,V4,by lia,by lia,by lia,hs4⟩
       .rw [if_neg g6]
        have e0:k'=0:=by lia
        subst e0
        rw [Nat.add_zero] at hq
        refine wpS_bind (aU eq ?_)
        have V4:Wv κ a b (((o++a.toArray.extract i (i+k)).push p).push q).toList (i+k+1) (j+1):=by
         rw [Array.toList_push]
         exact (V2.swap.push sa eq' hq).swap
        by_cases g5:i+k+1+1=a.length
        .rw [if_pos (by rw [szA];simpa using g5)]
         refine wpS_pure ⟨hs4,.inl ⟨_,_,rfl,?_⟩⟩
         rw [fL];exact V4.last sb g5 hl
        .rw [if_neg (by rw [szA];simpa using g5)]
         split
         .exact wpS_pure ⟨hs4,.inr ⟨_,_,_,_,_,_,rfl,V4,by lia,by lia,by lia⟩⟩
         .exact wpS_pure ⟨_,_,_,_,_,_,rfl,V4,by lia,by lia,by lia,hs4⟩
      .rw [if_neg g3]
       have e0:k=0:=by lia
       subst e0
       rw [Nat.add_zero] at hp
       refine wpS_bind (aU ep ?_)
       have V2:Wv κ a b (o.push p).toList (i) (j+1):=by
        rw [Array.toList_push]
        exact V.push sb ep' hp
       by_cases g4:j+1=b.length
       .rw [if_pos (by rw [szB];simpa using g4)]
        refine wpS_pure ⟨hs4,.inl ⟨_,_,rfl,?_⟩⟩
        rw [fD];exact V2.done sa sb (.inr (by lia))
       rw [if_neg (by rw [szB];simpa using g4)]
       obtain ⟨q,eq,eq',mq⟩:=atA (i) (by lia)
       refine wpS_bind (aU eq (wpS_bind (fZ C (hs4.1.trans hk) mq hb (sb.sublist ((List.take_sublist _ _).trans (List.drop_sublist _ _))) (by rw [szB];lia) (by rw [szB];lia) fun k' hk1' hk2' hk3'=>?_)))
       rw [szB] at hk1' hk3'
       rw [List.take_of_length_le (by rw [List.length_drop];lia),List.drop_drop] at hk3'
       dsimp only
       have hq:∀y∈b.drop (j+1+k'),Le κ q y:=fun y hy=>by
        have:=hk3' y hy
        unfold bey at this;exact (show Lb κ y q=false by simpa using this)
       by_cases g6:k'>0
       .rw [if_pos g6]
        have V3:Wv κ a b (o.push p++b.toArray.extract (j+1) (j+1+k')).toList (i) (j+1+k'):=by
         rw [Array.toList_append,gS]
         refine V2.app sb k' fun x hx y hy=>?_
         have:=hk2' x hx
         unfold bey at this
         obtain ⟨jj,hjj,ejj⟩:=br hy
         exact Le.trans (Le.of_lt (by simpa using this)) (bC sa eq' ejj hjj)
        by_cases g7:j+1+k'=b.length
        .rw [if_pos (by rw [szB];simpa using g7)]
         refine wpS_pure ⟨hs4,.inl ⟨_,_,rfl,?_⟩⟩
         rw [fD];exact V3.done sa sb (.inr (by lia))
        .rw [if_neg (by rw [szB];simpa using g7)]
         refine wpS_bind (aU eq ?_)
         have V4:Wv κ a b ((o.push p++b.toArray.extract (j+1) (j+1+k')).push q).toList (i+1) (j+1+k'):=by
          rw [Array.toList_push]
          exact (V3.swap.push sa eq' hq).swap
         by_cases g5:i+1+1=a.length
         .rw [if_pos (by rw [szA];simpa using g5)]
          refine wpS_pure ⟨hs4,.inl ⟨_,_,rfl,?_⟩⟩
          rw [fL];exact V4.last sb g5 hl
         .rw [if_neg (by rw [szA];simpa using g5)]
          split
          .exact wpS_pure ⟨hs4,.inr ⟨_,_,_,_,_,_,rfl,V4,by lia,by lia,by lia⟩⟩
          .exact wpS_pure ⟨_,_,_,_,_,_,rfl,V4,by lia,by lia,by lia,hs4⟩
       .rw [if_neg g6]
        have e0:k'=0:=by lia
        subst e0
        rw [Nat.add_zero] at hq
        refine wpS_bind (aU eq ?_)
        have V4:Wv κ a b ((o.push p).push q).toList (i+1) (j+1):=by
         rw [Array.toList_push]
         exact (V2.swap.push sa eq' hq).swap
        by_cases g5:i+1+1=a.length
        .rw [if_pos (by rw [szA];simpa using g5)]
         refine wpS_pure ⟨hs4,.inl ⟨_,_,rfl,?_⟩⟩
         rw [fL];exact V4.last sb g5 hl
        .rw [if_neg (by rw [szA];simpa using g5)]
         split
         .exact wpS_pure ⟨hs4,.inr ⟨_,_,_,_,_,_,rfl,V4,by lia,by lia,by lia⟩⟩
         .exact wpS_pure ⟨_,_,_,_,_,_,rfl,V4,by lia,by lia,by lia,hs4⟩
    .rintro c st3 ⟨o,i,j,g',ac',bc',rfl,V,hi,hj,hm3,hs3⟩
     exfalso
     rw [szA,szB] at hm3
     lia
    .rintro c st3 ⟨hs3,⟨r,z,rfl,hr⟩ | ⟨o,i,j,g',ac',bc',rfl,V,hi,hj,hm3⟩⟩
     .dsimp only
      exact wpS_pure ⟨_,_,rfl,hr,hs3⟩
     .dsimp only
      refine wpS_bind (jz hs3 fun st4 hs4=>?_)
      exact wpS_pure ⟨_,_,_,_,rfl,V,hi,hj,by lia,hs4⟩
 .rintro c st1 ⟨out,ia,ib,g,rfl,W,hia,hib,hm,hs⟩
  exfalso
  rw [szA,szB] at hm
  lia
 .rintro c st1 ⟨r,z,rfl,hr,hs⟩
  exact wpS_pure (h r st1 hs hr)
end
end TS
end
section
namespace TS
open PySem PyProof.Rows
structure Vv (κ:KeyKind)(a b out:List Keyed)(na nb:Nat):Prop where
 perm:out.Perm (a.drop na++b.drop nb)
 srt:out.Pairwise (fun x y=>Le κ y x)
 la:∀x∈out,∀y∈a.take na,Le κ y x
 lb:∀x∈out,∀y∈b.take nb,Le κ y x
section
variable {κ:KeyKind}{a b out:List Keyed}{na nb:Nat}
theorem Vv.swap (h:Vv κ a b out na nb):Vv κ b a out nb na:=⟨h.perm.trans List.perm_append_comm,h.srt,h.lb,h.la⟩
theorem qG (l:List Keyed){i j:Nat}(h:i<=j):l.drop i=(l.drop i).take (j-i)++l.drop j:=by
 have e:l.drop j=(l.drop i).drop (j-i):=by rw [List.drop_drop,show i+(j-i)=j by lia]
 rw [e,List.take_append_drop]
theorem rQ (l:List Keyed){i j:Nat}(h:i<=j):l.take j=l.take i++(l.drop i).take (j-i):=by
 have e:=List.take_add (l:=l) (i:=i) (j:=j-i)
 rwa [show i+(j-i)=j by lia] at e
theorem Vv.app (h:Vv κ a b out na nb)(sb:b.Pairwise (Le κ)){k:Nat}(hk:k<=nb)(hle:∀x∈(b.drop k).take (nb-k),∀y∈a.take na,Le κ y x) :
  Vv κ a b (out++((b.drop k).take (nb-k)).reverse) na k:=by
 have e1:=qG b hk
 have e2:=rQ b hk
 have st:(b.take nb).Pairwise (Le κ):=sb.sublist (List.take_sublist _ _)
 rw [e2] at st
 refine ⟨?_,?_,?_,?_⟩
 .refine List.Perm.trans ?_ (List.Perm.of_eq (congrArg (a.drop na++·) e1.symm))
  show List.Perm _ (a.drop na++((b.drop k).take (nb-k)++b.drop nb))
  have p1:(out++((b.drop k).take (nb-k)).reverse).Perm ((a.drop na++b.drop nb)++(b.drop k).take (nb-k)):=h.perm.append (List.reverse_perm _)
  refine p1.trans ?_
  rw [List.append_assoc]
  exact List.Perm.append_left _ List.perm_append_comm
 .refine List.pairwise_append.mpr ⟨h.srt,List.pairwise_reverse.mpr (List.pairwise_append.mp st).2.1,fun x hx y hy=>?_⟩
  exact h.lb x hx y (by rw [e2];exact List.mem_append_right _ (List.mem_reverse.mp hy))
 .intro x hx y hy
  rcases List.mem_append.mp hx with hx | hx
  .exact h.la x hx y hy
  .exact hle x (List.mem_reverse.mp hx) y hy
 .intro x hx y hy
  rcases List.mem_append.mp hx with hx | hx
  .exact h.lb x hx y (by rw [e2];exact List.mem_append_left _ hy)
  .exact (List.pairwise_append.mp st).2.2 y hy x (List.mem_reverse.mp hx)
theorem x6 {l:List Keyed}{i j:Nat}{p:Keyed}(hj:j=i+1)(h:l[i]?=some p):(l.drop i).take (j-i)=[p]:=by
 rw [show j-i=1 by lia];exact ol h
theorem Vv.push (h:Vv κ a b out na nb)(sb:b.Pairwise (Le κ)){p:Keyed}{k:Nat}(hk:nb=k+1)(hp:b[k]?=some p)(hle:∀y∈a.take na,Le κ y p):Vv κ a b (out++[p]) na k:=by
 have:=h.app sb (k:=k) (by lia) (by rw [x6 hk hp];intro x hx y hy;rw [List.mem_singleton.mp hx];exact hle y hy)
 rwa [x6 hk hp,List.reverse_singleton] at this
theorem Vv.cat (h:Vv κ a b out na nb){rest:List Keyed}(hp:rest.Perm (a.take na++b.take nb))(hs:rest.Pairwise (Le κ)):Pst κ a b (rest++out.reverse):=by
 refine ⟨?_,List.pairwise_append.mpr ⟨hs,List.pairwise_reverse.mpr h.srt,fun x hx y hy=>?_⟩⟩
 .have p1:(rest++out.reverse).Perm ((a.take na++b.take nb)++(a.drop na++b.drop nb)):=hp.append ((List.reverse_perm _).trans h.perm)
  have p2:((a.take na++b.take nb)++(a.drop na++b.drop nb)).Perm ((a.take na++a.drop na)++(b.take nb++b.drop nb)):=by
   rw [List.append_assoc,List.append_assoc]
   refine List.Perm.append_left _ ?_
   rw [<-List.append_assoc,<-List.append_assoc]
   exact List.perm_append_comm.append_right _
  rw [List.take_append_drop,List.take_append_drop] at p2
  exact p1.trans p2
 .have hy':=List.mem_reverse.mp hy
  rcases List.mem_append.mp (hp.mem_iff.mp hx) with q | q
  .exact h.la y hy' x q
  .exact h.lb y hy' x q
theorem Vv.done (h:Vv κ a b out na nb)(sa:a.Pairwise (Le κ))(sb:b.Pairwise (Le κ))(hz:na=0∨nb=0):Pst κ a b (a.take na++b.take nb++out.reverse):=by
 refine h.cat (List.Perm.refl _) ?_
 rcases hz with z | z
 .rw [z,List.take_zero,List.nil_append];exact sb.sublist (List.take_sublist _ _)
 .rw [z,List.take_zero,List.append_nil];exact sa.sublist (List.take_sublist _ _)
theorem Vv.first (h:Vv κ a b out na nb)(sa:a.Pairwise (Le κ))(hz:nb=1)(h0:∀p,b[0]?=some p->∀x∈a,Le κ p x):Pst κ a b (b.take nb++a.take na++out.reverse):=by
 refine h.cat List.perm_append_comm ?_
 rw [hz]
 refine List.pairwise_append.mpr ⟨?_,sa.sublist (List.take_sublist _ _),fun x hx y hy=>?_⟩
 .cases b with
  | nil=>exact List.Pairwise.nil
  | cons p r=>exact List.pairwise_singleton _ _
 .cases b with
  | nil=>cases hx
  | cons p r =>
   have e:x=p:=by simpa using hx
   rw [e];exact h0 p rfl y (List.mem_of_mem_take hy)
end
section
variable {prog:Program}{w:World}{A:Around}{E:Value->Shared->Prop}{s:Shared}{κ:KeyKind}{kd:SortKind}{a₀:Array Keyed}{st:SortSt}
theorem bE {l:List Keyed}{n:Nat}{x:Keyed}(h:x∈l.take n):∃ j,j<n/\l[j]?=some x:=by
 obtain ⟨j,hj,e⟩:=List.getElem_of_mem h
 rw [List.length_take] at hj
 rw [List.getElem_take] at e
 exact ⟨j,by lia,by rw [<-e];exact List.getElem?_eq_getElem (by lia)⟩
theorem mf (C:Cmp prog w A s κ kd a₀)(hk:kindOf st=kd){left:Bool}{key:Keyed}{l:List Keyed}{n hint:Nat}{Q:Option Nat->SortSt->Prop}(hkey:key∈a₀.toList)
  (hm:∀p∈l,p∈a₀.toList) (hs:l.Pairwise (Le κ)) (hb:n<=l.length) (hh:hint<n)
  (h:∀k,k<=n->(∀x∈l.take k,bey κ left key x=true)->(∀x∈(l.drop k).take (n-k),bey κ left key x=false)->Q (some k) st) :
  wpS (model prog w) A E s (gal left key l.toArray 0 n hint) Q st:=by
 refine fZ C hk hkey hm (hs.sublist ((List.take_sublist _ _).trans (List.drop_sublist _ _))) (by lia) hh fun k h1 h2 h3=>?_
 rw [List.drop_zero] at h2 h3
 rw [List.drop_take] at h3
 exact h k h1 h2 h3
theorem xu {a b:List Keyed}{Q:Array Keyed->SortSt->Prop}(C:Cmp prog w A s κ kd a₀)(hk:kindOf st=kd)(ha:∀p∈a,p∈a₀.toList)(hb:∀p∈b,p∈a₀.toList)
  (sa:a.Pairwise (Le κ)) (sb:b.Pairwise (Le κ)) (pa:0<a.length) (pb:0<b.length) (h0:∀p,b[0]?=some p->∀x∈a,Le κ p x) (hl:∀y∈b,∀x,a[a.length-1]?=some x->Le κ y x)
  (h:∀r st',St0 st st'->Pst κ a b r.toList->Q r st'):wpS (model prog w) A E s (mHi a.toArray b.toArray) Q st:=by
 have atA:∀i,i<a.length->∃ p,a.toArray[i]?=some p/\a[i]?=some p/\p∈a₀.toList:=fun i hi=>⟨a[i],by simp [hi],by simp [hi],ha _ (List.getElem_mem hi)⟩
 have atB:∀i,i<b.length->∃ p,b.toArray[i]?=some p/\b[i]?=some p/\p∈a₀.toList:=fun i hi=>⟨b[i],by simp [hi],by simp [hi],hb _ (List.getElem_mem hi)⟩
 have fD:∀(out:Array Keyed) na nb,(a.toArray.extract 0 na++b.toArray.extract 0 nb++out.reverse).toList=a.take na++b.take nb++out.toList.reverse:=fun out na nb=>by simp
 have fF:∀(out:Array Keyed) na nb,(b.toArray.extract 0 nb++a.toArray.extract 0 na++out.reverse).toList=b.take nb++a.take na++out.toList.reverse:=fun out na nb=>by simp
 have fR:∀(l:List Keyed) (out:Array Keyed) i j,(out++(l.toArray.extract i j).reverse).toList=out.toList++((l.drop i).take (j-i)).reverse:=fun l out i j=>by simp
 have szA:a.toArray.size=a.length:=by simp
 have szB:b.toArray.size=b.length:=by simp
 obtain ⟨al,ea,ea',ma⟩:=atA (a.length-1) (by lia)
 have w0:Vv κ a b [al] (a.length-1) b.length:=by
  have e:a.drop (a.length-1)=[al]:=by
   obtain ⟨hi,e⟩:=List.getElem?_eq_some_iff.mp ea'
   rw [List.drop_eq_getElem_cons hi,e,List.drop_eq_nil_of_le (by lia)]
  refine ⟨by rw [e,List.drop_eq_nil_of_le (Nat.le_refl _),List.append_nil],List.pairwise_singleton _ _,fun x hx y hy=>?_,fun x hx y hy=>?_⟩
  .rw [List.mem_singleton.mp hx]
   obtain ⟨j,hj,ej⟩:=bE hy
   exact bC sa ej ea' (by lia)
  .rw [List.mem_singleton.mp hx]
   exact hl y (List.mem_of_mem_take hy) _ ea'
 refine wpS_bind (m:=liftM (rule _)) (wpS_lift (wpAny_rule ⟨rfl,?_⟩))
 dsimp only
 rw [<-szA] at ea w0
 rw [<-szB] at w0
 refine wpS_bind (aU ea ?_)
 by_cases g1:a.toArray.size-1=0
 .rw [if_pos (by simpa using g1)]
  refine wpS_pure (h _ _ (St0.refl _) ?_)
  rw [fD];exact w0.done sa sb (.inl g1)
 rw [if_neg (by simpa using g1)]
 by_cases g2:b.toArray.size=1
 .rw [if_pos (by simpa using g2)]
  refine wpS_pure (h _ _ (St0.refl _) ?_)
  rw [fF];exact w0.first sa g2 h0
 rw [if_neg (by simpa using g2)]
 refine wpS_bind (wpS_get ?_)
 refine wpS_bind (wpS_mono (wpS_forRange (I:=fun x c st'=>∃ na nb out g,c=(none,na,nb,out,g)/\Vv κ a b out.toList na nb/\0<na/\na<a.length/\1<nb/\nb<=b.length/\x+na+nb<a.length+b.length/\St0 st st')
  (Q:=fun c st'=>∃ r z,c=(some r,z)/\Pst κ a b r.toList/\St0 st st') ?_ ?_ ⟨_,_,_,_,rfl,w0,by lia,by lia,by lia,by lia,by lia,St0.refl _⟩) ?_)
 .rintro x c st1 _ hx ⟨na,nb,out,g,rfl,W,hia,hia2,hib,hib2,hm,hs⟩
  dsimp only
  refine wpS_bind (wpS_mono (wpS_forRange (I:=fun y c st'=>∃ na' nb' out' ac bc,c=(none,na',nb',out',ac,bc)/\Vv κ a b out'.toList na' nb'/\0<na'/\na'<a.length/\1<nb'/\nb'<=b.length/\y+na'+nb'<=na+nb/\St0 st st')
   (Q:=fun c st'=>St0 st st'/\((∃ r z,c=(some r,z)/\Pst κ a b r.toList)∨∃ na' nb' out' ac bc,c=(none,na',nb',out',ac,bc)/\Vv κ a b out'.toList na' nb'/\0<na'/\na'<a.length/\1<nb'/\nb'<=b.length/\1+na'+nb'<=na+nb)) ?_ ?_
   ⟨na,nb,out,0,0,rfl,W,hia,hia2,hib,hib2,by lia,hs⟩) ?_)
  .rintro y c st2 _ hy ⟨na',nb',out',ac,bc,rfl,W',h1',h2',h3',h4',hm',hs'⟩
   dsimp only
   obtain ⟨p,ep,ep',mp⟩:=atB (nb'-1) (by lia)
   obtain ⟨q,eq,eq',mq⟩:=atA (na'-1) (by lia)
   refine wpS_bind (aU ep (wpS_bind (aU eq (wpS_bind (qT C mp mq (hs'.1.trans hk) ?_)))))
   cases e:Lb κ p q with
   | true =>
    simp only [if_true]
    refine wpS_bind (aU eq ?_)
    have W2:Vv κ a b (out'.push q).toList (na'-1) nb':=by
     rw [Array.toList_push]
     refine (W'.swap.push sa (by lia) eq' fun y hy=>?_).swap
     obtain ⟨j,hj,ej⟩:=bE hy
     exact Le.trans (bC sb ej ep' (by lia)) (Le.of_lt e)
    by_cases g3:na'-1=0
    .rw [if_pos (by simpa using g3)]
     refine wpS_pure ⟨hs',.inl ⟨_,_,rfl,?_⟩⟩
     rw [fD];exact W2.done sa sb (.inl g3)
    .rw [if_neg (by simpa using g3)]
     split
     .exact wpS_pure ⟨hs',.inr ⟨_,_,_,_,_,rfl,W2,by lia,by lia,by lia,by lia,by lia⟩⟩
     .exact wpS_pure ⟨_,_,_,_,_,rfl,W2,by lia,by lia,by lia,by lia,by lia,hs'⟩
   | false =>
    simp only [Bool.false_eq_true,if_false]
    refine wpS_bind (aU ep ?_)
    have W2:Vv κ a b (out'.push p).toList na' (nb'-1):=by
     rw [Array.toList_push]
     refine W'.push sb (by lia) ep' fun y hy=>?_
     obtain ⟨j,hj,ej⟩:=bE hy
     exact Le.trans (bC sa ej eq' (by lia)) (show Le κ q p from e)
    by_cases g3:nb'-1=1
    .rw [if_pos (by simpa using g3)]
     refine wpS_pure ⟨hs',.inl ⟨_,_,rfl,?_⟩⟩
     rw [fF];exact W2.first sa g3 h0
    .rw [if_neg (by simpa using g3)]
     split
     .exact wpS_pure ⟨hs',.inr ⟨_,_,_,_,_,rfl,W2,by lia,by lia,by lia,by lia,by lia⟩⟩
     .exact wpS_pure ⟨_,_,_,_,_,rfl,W2,by lia,by lia,by lia,by lia,by lia,hs'⟩
  .rintro c st2 ⟨na',nb',out',ac,bc,rfl,W',h1',h2',h3',h4',hm',hs'⟩
   exfalso
   rw [szA,szB] at hm'
   lia
  .rintro c st2 ⟨hs',⟨r,z,rfl,hr⟩ | ⟨na',nb',out',ac,bc,rfl,W',h1',h2',h3',h4',hm'⟩⟩
   .dsimp only
    exact wpS_pure ⟨_,_,rfl,hr,hs'⟩
   .dsimp only
    refine wpS_bind (m:=liftM (rule _)) (wpS_lift (wpAny_rule ⟨rfl,?_⟩))
    refine wpS_bind (wpS_mono (wpS_forRange (I:=fun y c st'=>∃ i j o g ac bc,c=(none,i,j,o,g,ac,bc)/\Vv κ a b o.toList i j/\0<i/\i<a.length/\1<j/\j<=b.length/\y+i+j<=na'+nb'/\St0 st st')
     (Q:=fun c st'=>St0 st st'/\((∃ r z,c=(some r,z)/\Pst κ a b r.toList)∨∃ i j o g ac bc,c=(none,i,j,o,g,ac,bc)/\Vv κ a b o.toList i j/\0<i/\i<a.length/\1<j/\j<=b.length/\i+j<=na'+nb')) ?_ ?_
     ⟨na',nb',out',_,ac,bc,rfl,W',h1',h2',h3',h4',by lia,hs'⟩) ?_)
    .rintro y c st3 _ hy ⟨i,j,o,g',ac',bc',rfl,V,hi,hi2,hj,hj2,hm3,hs3⟩
     dsimp only
     obtain ⟨p,ep,ep',mp⟩:=atB (j-1) (by lia)
     by_cases gg:g'>1
     case' pos=>rw [if_pos gg]
     case' neg=>rw [if_neg gg]
     all_goals
      refine wpS_bind (jz hs3 fun st4 hs4=>?_)
      refine wpS_bind (aU ep (wpS_bind (mf C (hs4.1.trans hk) mp ha sa (by lia) (by lia) fun k hk1 hk2 hk3=>?_)))
      dsimp only
      have hp:∀y∈a.take k,Le κ y p:=fun y hy=>by
       have:=hk2 y hy
       unfold bey at this;exact (show Lb κ p y=false by simpa using this)
      by_cases g3:i-k>0
      .rw [if_pos g3]
       have V1:Vv κ a b (o++(a.toArray.extract k i).reverse).toList k j:=by
        rw [fR]
        refine (V.swap.app sa hk1 fun x hx y hy=>?_).swap
        have:=hk3 x hx
        unfold bey at this
        obtain ⟨jj,hjj,ejj⟩:=bE hy
        exact Le.trans (bC sb ejj ep' (by lia)) (Le.of_lt (show Lb κ p x=true by simpa using this))
       by_cases g9:k=0
       .rw [if_pos (by simpa using g9)]
        refine wpS_pure ⟨hs4,.inl ⟨_,_,rfl,?_⟩⟩
        rw [fD];exact V1.done sa sb (.inl g9)
       rw [if_neg (by simpa using g9)]
       refine wpS_bind (aU ep ?_)
       have V2:Vv κ a b ((o++(a.toArray.extract k i).reverse).push p).toList (k) (j-1):=by
        rw [Array.toList_push]
        exact V1.push sb (by lia) ep' hp
       by_cases g4:j-1=1
       .rw [if_pos (by simpa using g4)]
        refine wpS_pure ⟨hs4,.inl ⟨_,_,rfl,?_⟩⟩
        rw [fF];exact V2.first sa g4 h0
       rw [if_neg (by simpa using g4)]
       obtain ⟨q,eq,eq',mq⟩:=atA (k-1) (by lia)
       refine wpS_bind (aU eq (wpS_bind (mf C (hs4.1.trans hk) mq hb sb (by lia) (by lia) fun k' hk1' hk2' hk3'=>?_)))
       dsimp only
       have hq:∀y∈b.take k',Le κ y q:=fun y hy=>by
        have:=hk2' y hy
        unfold bey at this;exact Le.of_lt (by simpa using this)
       by_cases g6:j-1-k'>0
       .rw [if_pos g6]
        have V3:Vv κ a b ((o++(a.toArray.extract k i).reverse).push p++(b.toArray.extract k' (j-1)).reverse).toList (k) k':=by
         rw [fR]
         refine V2.app sb hk1' fun x hx y hy=>?_
         have:=hk3' x hx
         unfold bey at this
         obtain ⟨jj,hjj,ejj⟩:=bE hy
         exact Le.trans (bC sa ejj eq' (by lia)) (show Le κ q x from (show Lb κ x q=false by simpa using this))
        by_cases g7:k'=1
        .rw [if_pos (by simpa using g7)]
         refine wpS_pure ⟨hs4,.inl ⟨_,_,rfl,?_⟩⟩
         rw [fF];exact V3.first sa g7 h0
        rw [if_neg (by simpa using g7)]
        by_cases g8:k'=0
        .rw [if_pos (by simpa using g8)]
         refine wpS_pure ⟨hs4,.inl ⟨_,_,rfl,?_⟩⟩
         rw [fD];exact V3.done sa sb (.inr g8)
        .rw [if_neg (by simpa using g8)]
         refine wpS_bind (aU eq ?_)
         have V4:Vv κ a b (((o++(a.toArray.extract k i).reverse).push p++(b.toArray.extract k' (j-1)).reverse).push q).toList (k-1) (k'):=by
          rw [Array.toList_push]
          exact (V3.swap.push sa (by lia) eq' hq).swap
         by_cases g5:k-1=0
         .rw [if_pos (by simpa using g5)]
          refine wpS_pure ⟨hs4,.inl ⟨_,_,rfl,?_⟩⟩
          rw [fD];exact V4.done sa sb (.inl g5)
         .rw [if_neg (by simpa using g5)]
          split
          .exact wpS_pure ⟨hs4,.inr ⟨_,_,_,_,_,_,rfl,V4,by lia,by lia,by lia,by lia,by lia⟩⟩
          .exact wpS_pure ⟨_,_,_,_,_,_,rfl,V4,by lia,by lia,by lia,by lia,by lia,hs4⟩
       .rw [if_neg g6]
        have e0:k'=j-1:=by lia
        subst e0
        refine wpS_bind (aU eq ?_)
        have V4:Vv κ a b (((o++(a.toArray.extract k i).reverse).push p).push q).toList (k-1) (j-1):=by
         rw [Array.toList_push]
         exact (V2.swap.push sa (by lia) eq' hq).swap
        by_cases g5:k-1=0
        .rw [if_pos (by simpa using g5)]
         refine wpS_pure ⟨hs4,.inl ⟨_,_,rfl,?_⟩⟩
         rw [fD];exact V4.done sa sb (.inl g5)
        .rw [if_neg (by simpa using g5)]
         split
         .exact wpS_pure ⟨hs4,.inr ⟨_,_,_,_,_,_,rfl,V4,by lia,by lia,by lia,by lia,by lia⟩⟩
         .exact wpS_pure ⟨_,_,_,_,_,_,rfl,V4,by lia,by lia,by lia,by lia,by lia,hs4⟩
      .rw [if_neg g3]
       have e0:k=i:=by lia
       subst e0
       refine wpS_bind (aU ep ?_)
       have V2:Vv κ a b (o.push p).toList (k) (j-1):=by
        rw [Array.toList_push]
        exact V.push sb (by lia) ep' hp
       by_cases g4:j-1=1
       .rw [if_pos (by simpa using g4)]
        refine wpS_pure ⟨hs4,.inl ⟨_,_,rfl,?_⟩⟩
        rw [fF];exact V2.first sa g4 h0
       rw [if_neg (by simpa using g4)]
       obtain ⟨q,eq,eq',mq⟩:=atA (k-1) (by lia)
       refine wpS_bind (aU eq (wpS_bind (mf C (hs4.1.trans hk) mq hb sb (by lia) (by lia) fun k' hk1' hk2' hk3'=>?_)))
       dsimp only
       have hq:∀y∈b.take k',Le κ y q:=fun y hy=>by
        have:=hk2' y hy
        unfold bey at this;exact Le.of_lt (by simpa using this)
       by_cases g6:j-1-k'>0
       .rw [if_pos g6]
        have V3:Vv κ a b (o.push p++(b.toArray.extract k' (j-1)).reverse).toList (k) k':=by
         rw [fR]
         refine V2.app sb hk1' fun x hx y hy=>?_
         have:=hk3' x hx
         unfold bey at this
         obtain ⟨jj,hjj,ejj⟩:=bE hy
         exact Le.trans (bC sa ejj eq' (by lia)) (show Le κ q x from (show Lb κ x q=false by simpa using this))
        by_cases g7:k'=1
        .rw [if_pos (by simpa using g7)]
         refine wpS_pure ⟨hs4,.inl ⟨_,_,rfl,?_⟩⟩
         rw [fF];exact V3.first sa g7 h0
        rw [if_neg (by simpa using g7)]
        by_cases g8:k'=0
        .rw [if_pos (by simpa using g8)]
         refine wpS_pure ⟨hs4,.inl ⟨_,_,rfl,?_⟩⟩
         rw [fD];exact V3.done sa sb (.inr g8)
        .rw [if_neg (by simpa using g8)]
         refine wpS_bind (aU eq ?_)
         have V4:Vv κ a b ((o.push p++(b.toArray.extract k' (j-1)).reverse).push q).toList (k-1) (k'):=by
          rw [Array.toList_push]
          exact (V3.swap.push sa (by lia) eq' hq).swap
         by_cases g5:k-1=0
         .rw [if_pos (by simpa using g5)]
          refine wpS_pure ⟨hs4,.inl ⟨_,_,rfl,?_⟩⟩
          rw [fD];exact V4.done sa sb (.inl g5)
         .rw [if_neg (by simpa using g5)]
          split
          .exact wpS_pure ⟨hs4,.inr ⟨_,_,_,_,_,_,rfl,V4,by lia,by lia,by lia,by lia,by lia⟩⟩
          .exact wpS_pure ⟨_,_,_,_,_,_,rfl,V4,by lia,by lia,by lia,by lia,by lia,hs4⟩
       .rw [if_neg g6]
        have e0:k'=j-1:=by lia
        subst e0
        refine wpS_bind (aU eq ?_)
        have V4:Vv κ a b ((o.push p).push q).toList (k-1) (j-1):=by
         rw [Array.toList_push]
         exact (V2.swap.push sa (by lia) eq' hq).swap
        by_cases g5:k-1=0
        .rw [if_pos (by simpa using g5)]
         refine wpS_pure ⟨hs4,.inl ⟨_,_,rfl,?_⟩⟩
         rw [fD];exact V4.done sa sb (.inl g5)
        .rw [if_neg (by simpa using g5)]
         split
         .exact wpS_pure ⟨hs4,.inr ⟨_,_,_,_,_,_,rfl,V4,by lia,by lia,by lia,by lia,by lia⟩⟩
         .exact wpS_pure ⟨_,_,_,_,_,_,rfl,V4,by lia,by lia,by lia,by lia,by lia,hs4⟩
    .rintro c st3 ⟨i,j,o,g',ac',bc',rfl,V,hi,hi2,hj,hj2,hm3,hs3⟩
     exfalso
     rw [szA,szB] at hm3
     lia
    .rintro c st3 ⟨hs3,⟨r,z,rfl,hr⟩ | ⟨i,j,o,g',ac',bc',rfl,V,hi,hi2,hj,hj2,hm3⟩⟩
     .dsimp only
      exact wpS_pure ⟨_,_,rfl,hr,hs3⟩
     .dsimp only
      refine wpS_bind (jz hs3 fun st4 hs4=>?_)
      exact wpS_pure ⟨_,_,_,_,rfl,V,hi,hi2,hj,hj2,by lia,hs4⟩
 .rintro c st1 ⟨na,nb,out,g,rfl,W,hia,hia2,hib,hib2,hm,hs⟩
  exfalso
  rw [szA,szB] at hm
  lia
 .rintro c st1 ⟨r,z,rfl,hr,hs⟩
  exact wpS_pure (h r st1 hs hr)
end
end TS
end
section
namespace TS
open PySem PyProof.Rows
section
variable {κ:KeyKind}
theorem gC {l:List Keyed}{i:Nat}(h:i<l.length):KK κ l.toArray i=kf κ l[i]:=vd (by simp [h])
theorem up_iff {l:List Keyed}{lo n:Nat}(h:lo+n<=l.length):Up κ l.toArray lo n↔((l.drop lo).take n).Pairwise (Le κ):=by
 have len:((l.drop lo).take n).length=n:=by rw [List.length_take,List.length_drop];lia
 constructor
 .intro u
  refine List.pairwise_iff_getElem.mpr fun i j hi hj hij=>?_
  rw [len] at hi hj
  have:=u (lo+i) (lo+j) (by lia) (by lia) (by lia)
  rw [gC (by lia),gC (by lia)] at this
  rw [List.getElem_take,List.getElem_drop,List.getElem_take,List.getElem_drop]
  exact this
 .intro p i j h1 h2 h3
  rw [gC (by lia),gC (by lia)]
  have a1:((l.drop lo).take n)[i-lo]?=some l[i]:=by
   rw [List.getElem?_take,if_pos (by lia),List.getElem?_drop,show lo+(i-lo)=i by lia]
   exact List.getElem?_eq_getElem (by lia)
  have a2:((l.drop lo).take n)[j-lo]?=some l[j]:=by
   rw [List.getElem?_take,if_pos (by lia),List.getElem?_drop,show lo+(j-lo)=j by lia]
   exact List.getElem?_eq_getElem (by lia)
  exact bC p a1 a2 (by lia)
theorem wb (s0:Nat):∀(M:List Keyed) (c:Nat) (xs:Array Keyed) (k:Nat),s0+c+M.length<=xs.size ->
  ((M.zipIdx c).foldl (fun (a:Array Keyed) (x:Keyed×Nat)=>a.setIfInBounds (s0+x.2) x.1) xs)[k]?=if s0+c<=k/\k<s0+c+M.length then M[k-(s0+c)]? else xs[k]?
 | [],c,xs,k,_=>by
  rw [if_neg (by simp)];rfl
 | p::M,c,xs,k,h=>by
  rw [List.zipIdx_cons,List.foldl_cons]
  rw [wb s0 M (c+1) _ k (by rw [Array.size_setIfInBounds];simp at h;lia)]
  simp only [List.length_cons] at h ⊢
  by_cases h1:s0+(c+1)<=k/\k<s0+(c+1)+M.length
  .rw [if_pos h1,if_pos (by lia),show k-(s0+c)=(k-(s0+(c+1)))+1 by lia,List.getElem?_cons_succ]
  .rw [if_neg h1]
   rw [Array.getElem?_setIfInBounds]
   by_cases h2:s0+c=k
   .rw [if_pos h2,if_pos (by lia),if_pos (by lia),show k-(s0+c)=0 by lia,List.getElem?_cons_zero]
   .rw [if_neg h2,if_neg (by lia)]
theorem tL (l M:List Keyed)(P X R:List Keyed)(e:l=P++X++R)(hl:M.length=X.length) :
  ((M.zipIdx).foldl (fun (a:Array Keyed) (x:Keyed×Nat)=>a.setIfInBounds (P.length+x.2) x.1) l.toArray)=(P++M++R).toArray:=by
 subst e
 apply Array.ext_getElem?
 intro k
 rw [wb P.length M 0 _ k (by simp;lia)]
 simp only [Nat.add_zero,List.getElem?_toArray]
 by_cases h:P.length<=k/\k<P.length+M.length
 .rw [if_pos h,List.append_assoc,List.getElem?_append_right h.1,List.getElem?_append_left (by lia)]
 .rw [if_neg h]
  by_cases h2:k<P.length
  .rw [List.append_assoc,List.append_assoc,List.getElem?_append_left h2,List.getElem?_append_left h2]
  .rw [List.append_assoc,List.append_assoc,List.getElem?_append_right (by lia),List.getElem?_append_right (by lia),List.getElem?_append_right (by lia),List.getElem?_append_right (by lia),hl]
end
section
variable {prog:Program}{w:World}{A:Around}{E:Value->Shared->Prop}{s:Shared}{κ:KeyKind}{kd:SortKind}{a₀:Array Keyed}{st:SortSt}
theorem yj {x:SortSt}{Q:PUnit->SortSt->Prop}(h:Q ⟨⟩ x):wpS (model prog w) A E s (set x:StateT SortSt Sem PUnit) Q st:=by
 unfold wpS;rw [StateT.run_set];exact wpAny_pure ⟨rfl,h⟩
theorem rH (l:List Keyed)(i j:Nat):l.toArray.extract i j=((l.drop i).take (j-i)).toArray:=by simp
theorem yi (C:Cmp prog w A s κ kd a₀)(B:SB kd a₀ st){i sa na pw sb nb pw2:Nat}{Q:Bool->SortSt->Prop}(h1:(pendingOf st)[i]?=some (sa,na,pw))(h2:(pendingOf st)[i+1]?=some (sb,nb,pw2))
  (hsb:sb=sa+na) (pa:1<=na) (pb:1<=nb) (hz:sb+nb<=a₀.size) (ua:Up κ (arrOf st) sa na) (ub:Up κ (arrOf st) sb nb)
  (h:∀st',SB kd a₀ st'->pendingOf st'=((pendingOf st).setIfInBounds i (sa,na+nb,pw)).eraseIdxIfInBounds (i+1)->(∀k,k<sa∨sb+nb<=k->(arrOf st')[k]?=(arrOf st)[k]?) ->
   Up κ (arrOf st') sa (na+nb)->Q true st'):wpS (model prog w) A E s (mergeAt' i) Q st:=by
 obtain ⟨l,hl⟩:∃ l:List Keyed,arrOf st=l.toArray:=⟨(arrOf st).toList,by simp⟩
 have hm:∀p∈l,p∈a₀.toList:=fun p hp=>(Array.perm_iff_toList_perm.mp B.perm).mem_iff.mp (by rw [hl];simpa using hp)
 have hlen:l.length=a₀.size:=by have:=B.size;rw [hl] at this;simpa using this
 rw [hl] at ua ub
 have sa':=(up_iff (by lia)).mp ua
 have sb':=(up_iff (by lia)).mp ub
 obtain ⟨P,X0,Y0,R,el,eP,eX,eY⟩:∃ P X0 Y0 R:List Keyed,l=P++X0++Y0++R/\P.length=sa/\X0.length=na/\Y0.length=nb:=by
  refine ⟨l.take sa,(l.drop sa).take na,(l.drop sb).take nb,l.drop (sb+nb),?_,?_,?_,?_⟩
  .rw [hsb,<-List.take_add,<-List.take_add,List.take_append_drop]
  .rw [List.length_take];lia
  .rw [List.length_take,List.length_drop];lia
  .rw [List.length_take,List.length_drop];lia
 have dX:(l.drop sa).take na=X0:=by
  rw [el,List.append_assoc,List.append_assoc,<-eP,List.drop_left,<-eX,List.take_left]
 have dY:(l.drop sb).take nb=Y0:=by
  have e:sb=(P++X0).length:=by rw [List.length_append];lia
  rw [el,List.append_assoc,e,List.drop_left,<-eY,List.take_left]
 rw [dX] at sa'
 rw [dY] at sb'
 unfold mergeAt'
 refine wpS_bind (m:=get) (wpS_get ?_)
 have h1':((sortPriv% PySem.Builtin.SortState.pending) st)[i]?=some (sa,na,pw):=h1
 have h2':((sortPriv% PySem.Builtin.SortState.pending) st)[i+1]?=some (sb,nb,pw2):=h2
 have hl':(sortPriv% PySem.Builtin.SortState.a) st=l.toArray:=hl
 rw [h1',h2']
 dsimp only
 rw [hl']
 refine wpS_bind (yj ?_)
 have K1:kindOf (SortSt.mk' (kindOf st) l.toArray (((pendingOf st).setIfInBounds i (sa,na+nb,pw)).eraseIdxIfInBounds (i+1)) (gallopOf st) (failedOf st))=kd:=B.kind
 have eY0:∃ y0 Y',Y0=y0::Y':=by
  cases Y0 with
  | nil=>simp at eY;lia
  | cons y Y'=>exact ⟨y,Y',rfl⟩
 obtain ⟨y0,Y',eY1⟩:=eY0
 have my:l[sb]?=some y0:=by
  have e:sb=(P++X0).length:=by rw [List.length_append];lia
  rw [el,List.append_assoc,e,List.getElem?_append_right (Nat.le_refl _),Nat.sub_self,eY1];rfl
 have y0le:∀y∈Y0,Le κ y0 y:=fun y hy=>by
  rw [eY1] at hy sb'
  rcases List.mem_cons.mp hy with z | z
  .rw [z];exact Le.refl _
  .exact (List.pairwise_cons.mp sb').1 y z
 have my0:y0∈a₀.toList:=hm _ (List.mem_of_getElem? my)
 refine wpS_bind (aU (by rw [List.getElem?_toArray];exact my) (wpS_bind (fZ (hint:=0) C K1 my0 hm (by rw [dX];exact sa') (by lia) (by lia) fun k hk1 hk2 hk3=>?_)))
 rw [dX] at hk3
 have eXt:(l.drop sa).take k=X0.take k:=by
  rw [<-dX,List.take_take,show min k na=k by lia]
 rw [eXt] at hk2
 dsimp only
 have X1le:∀x∈X0.take k,Le κ x y0:=fun x hx=>by
  have:=hk2 x hx
  unfold bey at this;exact (show Lb κ y0 x=false by simpa using this)
 have X2gt:∀x∈X0.drop k,Lb κ y0 x=true:=fun x hx=>by
  have:=hk3 x hx
  unfold bey at this;simpa using this
 have same:Up κ l.toArray sa (na+nb)↔(X0++Y0).Pairwise (Le κ):=by
  rw [up_iff (by lia)]
  have e:(l.drop sa).take (na+nb)=X0++Y0:=by
   rw [el,List.append_assoc,List.append_assoc,<-eP,List.drop_left,<-List.append_assoc,show na+nb=(X0++Y0).length by rw [List.length_append];lia,List.take_left]
  rw [e]
 have here:∀(B':(X0++Y0).Pairwise (Le κ)),Q true (SortSt.mk' (kindOf st) l.toArray (((pendingOf st).setIfInBounds i (sa,na+nb,pw)).eraseIdxIfInBounds (i+1)) (gallopOf st) (failedOf st)):=fun B' =>
  h _ ⟨by have:=B.perm;rwa [hl] at this,B.kind,B.fail⟩ rfl (fun k _=>by rw [hl]) (same.mpr B')
 by_cases g1:na-k=0
 .rw [if_pos (by simpa using g1)]
  refine wpS_pure (here (List.pairwise_append.mpr ⟨sa',sb',fun x hx y hy=>Le.trans (X1le x ?_) (y0le y hy)⟩))
  rw [List.take_of_length_le (by lia)];exact hx
 rw [if_neg (by simpa using g1)]
 have ⟨xl,exl⟩:∃ xl,X0[na-1]?=some xl:=⟨X0[na-1],List.getElem?_eq_getElem (by lia)⟩
 have mx:l[sa+k+(na-k)-1]?=some xl:=by
  rw [el,List.append_assoc,List.append_assoc,List.getElem?_append_right (by lia),List.getElem?_append_left (by lia),show sa+k+(na-k)-1-P.length=na-1 by lia]
  exact exl
 have lexl:∀x∈X0,Le κ x xl:=fun x hx=>by
  obtain ⟨j,hj,e⟩:=List.getElem_of_mem hx
  exact bC sa' (by rw [<-e];exact List.getElem?_eq_getElem hj) exl (by lia)
 have mxl:xl∈a₀.toList:=hm _ (List.mem_of_getElem? mx)
 refine wpS_bind (aU (by rw [List.getElem?_toArray];exact mx) (wpS_bind (fZ (hint:=nb-1) C K1 mxl hm (by rw [dY];exact sb') (by lia) (by lia) fun n2 hn1 hn2 hn3=>?_)))
 rw [dY] at hn3
 have eYt:(l.drop sb).take n2=Y0.take n2:=by
  rw [<-dY,List.take_take,show min n2 nb=n2 by lia]
 rw [eYt] at hn2
 dsimp only
 have Y1lt:∀y∈Y0.take n2,Lb κ y xl=true:=fun y hy=>by
  have:=hn2 y hy
  unfold bey at this;simpa using this
 have Y2ge:∀y∈Y0.drop n2,Le κ xl y:=fun y hy=>by
  have:=hn3 y hy
  unfold bey at this;exact (show Lb κ y xl=false by simpa using this)
 by_cases g2:n2=0
 .rw [if_pos (by simpa using g2)]
  refine wpS_pure (here (List.pairwise_append.mpr ⟨sa',sb',fun x hx y hy=>Le.trans (lexl x hx) (Y2ge y ?_)⟩))
  rw [g2,List.drop_zero];exact hy
 rw [if_neg (by simpa using g2)]
 rw [rH,rH]
 have eX2:(l.drop (sa+k)).take (sb-(sa+k))=X0.drop k:=by
  have e:l.drop (sa+k)=(l.drop sa).drop k:=by rw [List.drop_drop]
  rw [e,show sb-(sa+k)=na-k by lia,<-List.drop_take,dX]
 have eY2:(l.drop sb).take (sb+n2-sb)=Y0.take n2:=by rw [show sb+n2-sb=n2 by lia,eYt]
 rw [eX2,eY2]
 have sX:(X0.drop k).Pairwise (Le κ):=sa'.sublist (List.drop_sublist _ _)
 have sY:(Y0.take n2).Pairwise (Le κ):=sb'.sublist (List.take_sublist _ _)
 have mX:∀p∈X0.drop k,p∈a₀.toList:=fun p hp=>hm p (by rw [el];have:=List.mem_of_mem_drop hp;simp [this])
 have mY:∀p∈Y0.take n2,p∈a₀.toList:=fun p hp=>hm p (by rw [el];have:=List.mem_of_mem_take hp;simp [this])
 have lX:0<(X0.drop k).length:=by rw [List.length_drop];lia
 have lY:0<(Y0.take n2).length:=by rw [List.length_take];lia
 have c0:∀p,(Y0.take n2)[0]?=some p->∀x∈X0.drop k,Le κ p x:=fun p hp x hx=>by
  rw [List.getElem?_take,if_pos (by lia),eY1] at hp
  have e:y0=p:=by simpa using hp
  rw [<-e];exact Le.of_lt (X2gt x hx)
 have c1:∀y∈Y0.take n2,∀x,(X0.drop k)[(X0.drop k).length-1]?=some x->Le κ y x:=fun y hy x hx=>by
  rw [List.length_drop,List.getElem?_drop,show k+(X0.length-k-1)=na-1 by lia,exl] at hx
  cases hx
  exact Le.of_lt (Y1lt y hy)
 have fin:∀(M:Array Keyed) (st2:SortSt),St0 (SortSt.mk' (kindOf st) l.toArray (((pendingOf st).setIfInBounds i (sa,na+nb,pw)).eraseIdxIfInBounds (i+1)) (gallopOf st) (failedOf st)) st2->Pst κ (X0.drop k) (Y0.take n2) M.toList ->
   Q true (SortSt.mk' (kindOf st2) (M.toList.zipIdx.foldl (fun (a:Array Keyed) (x:Keyed×Nat)=>a.setIfInBounds (sa+k+x.2) x.1) (arrOf st2)) (pendingOf st2) (gallopOf st2) (failedOf st2)):=by
  intro M st2 hs hP
  have eM:M.toList.length=(X0.drop k++Y0.take n2).length:=hP.1.length_eq
  have el2:l=(P++X0.take k)++(X0.drop k++Y0.take n2)++(Y0.drop n2++R):=by
   rw [el]
   conv=>lhs;rw [<-List.take_append_drop k X0,<-List.take_append_drop n2 Y0]
   simp only [List.append_assoc]
  have ePk:(P++X0.take k).length=sa+k:=by rw [List.length_append,List.length_take];lia
  have wbe:=tL l M.toList _ _ _ el2 eM
  rw [ePk] at wbe
  have e2:arrOf st2=l.toArray:=hs.2.1
  rw [e2,wbe]
  have pl:((P++X0.take k)++M.toList++(Y0.drop n2++R)).Perm l:=by
   refine List.Perm.trans ?_ (List.Perm.of_eq el2.symm)
   exact (List.Perm.append_left _ hP.1).append_right _
  refine h _ ⟨?_,hs.1.trans B.kind,hs.2.2.2.trans B.fail⟩ hs.2.2.1 (fun j hj=>?_) ?_
  .have p0:=B.perm
   rw [hl] at p0
   exact (Array.perm_iff_toList_perm.mpr (by simpa using pl)).trans p0
  .show ((P++X0.take k)++M.toList++(Y0.drop n2++R)).toArray[j]?=(arrOf st)[j]?
   rw [hl,el2,List.getElem?_toArray,List.getElem?_toArray]
   have q1:=List.length_append (as:=P) (bs:=X0.take k)
   rcases hj with hj | hj
   .simp only [List.append_assoc]
    rw [List.getElem?_append_left (by lia),List.getElem?_append_left (by lia)]
   .have q2:(X0.drop k++Y0.take n2).length=na-k+n2:=by rw [List.length_append,List.length_drop,List.length_take];lia
    have f:∀Z:List Keyed,Z.length=na-k+n2->((P++X0.take k)++Z++(Y0.drop n2++R))[j]?=(Y0.drop n2++R)[j-(sa+k+(na-k+n2))]?:=fun Z hZ=>by
     rw [List.getElem?_append_right (by rw [List.length_append,ePk];lia),List.length_append,ePk,hZ]
    rw [f _ (eM.trans q2),f _ q2]
  .show Up κ ((P++X0.take k)++M.toList++(Y0.drop n2++R)).toArray sa (na+nb)
   have ll:=pl.length_eq
   rw [up_iff (by lia)]
   have e:((((P++X0.take k)++M.toList++(Y0.drop n2++R))).drop sa).take (na+nb)=X0.take k++(M.toList++Y0.drop n2):=by
    rw [List.append_assoc,List.append_assoc,<-eP,List.drop_left]
    have e3:X0.take k++(M.toList++(Y0.drop n2++R))=(X0.take k++(M.toList++Y0.drop n2))++R:=by simp only [List.append_assoc]
    rw [e3]
    have e4:na+nb=(X0.take k++(M.toList++Y0.drop n2)).length:=by
     rw [List.length_append,List.length_append,eM,List.length_append,List.length_take,List.length_drop,List.length_take,List.length_drop];lia
    rw [e4,List.take_left]
   rw [e]
   have cross:∀x∈X0.take k,∀z∈X0.drop k,Le κ x z:=fun x hx z hz=>by
    have:=sa'
    rw [<-List.take_append_drop k X0] at this
    exact (List.pairwise_append.mp this).2.2 x hx z hz
   have crossY:∀x∈Y0.take n2,∀z∈Y0.drop n2,Le κ x z:=fun x hx z hz=>by
    have:=sb'
    rw [<-List.take_append_drop n2 Y0] at this
    exact (List.pairwise_append.mp this).2.2 x hx z hz
   refine List.pairwise_append.mpr ⟨sa'.sublist (List.take_sublist _ _),List.pairwise_append.mpr ⟨hP.2,sb'.sublist (List.drop_sublist _ _),fun x hx y hy=>?_⟩,fun x hx y hy=>?_⟩
   .rcases List.mem_append.mp (hP.1.mem_iff.mp hx) with z | z
    .exact Le.trans (lexl x (List.mem_of_mem_drop z)) (Y2ge y hy)
    .exact crossY x z y hy
   .rcases List.mem_append.mp hy with z | z
    .rcases List.mem_append.mp (hP.1.mem_iff.mp z) with z | z
     .exact cross x hx y z
     .exact Le.trans (X1le x hx) (y0le y (List.mem_of_mem_take z))
    .exact Le.trans (X1le x hx) (y0le y (List.mem_of_mem_drop z))
 have out:∀(M:Array Keyed) (st2:SortSt),St0 (SortSt.mk' (kindOf st) l.toArray (((pendingOf st).setIfInBounds i (sa,na+nb,pw)).eraseIdxIfInBounds (i+1)) (gallopOf st) (failedOf st)) st2->failedOf st2=none:=fun M st2 hs=>hs.2.2.2.trans B.fail
 by_cases g3:na-k<=n2
 case' pos=>rw [if_pos g3]
 case' neg=>rw [if_neg g3]
 case' pos=>refine wpS_bind (x3 C K1 mX mY sX sY lX lY c0 c1 fun M st2 hs hP=>?_)
 case' neg=>refine wpS_bind (xu C K1 mX mY sX sY lX lY c0 c1 fun M st2 hs hP=>?_)
 all_goals
  refine wpS_bind (wpS_modify (wpS_bind (wpS_get (wpS_pure ?_))))
  have e:=out M st2 hs
  have f:=fin M st2 hs hP
  show Q (failedOf st2).isNone _
  rw [e]
  exact f
end
end TS
end
section
namespace TS
open PySem PyProof.Rows
def Rs (κ:KeyKind)(xs:Array Keyed):Nat->List (Nat×Nat×Nat)->Nat->Prop
 | a,[],b=>a=b
 | a,r::l,b=>r.1=a/\1<=r.2.1/\Up κ xs a r.2.1/\Rs κ xs (a+r.2.1) l b
section
variable {κ:KeyKind}{xs ys:Array Keyed}
theorem Rs.app:∀{p q:List (Nat×Nat×Nat)} {a b:Nat},Rs κ xs a (p++q) b↔∃ m,Rs κ xs a p m/\Rs κ xs m q b
 | [],q,a,b=>⟨fun h=>⟨a,rfl,h⟩,fun ⟨m,e,h⟩=>by cases e;exact h⟩
 | r::p,q,a,b=>⟨fun ⟨h1,h2,h3,h4⟩=>let ⟨m,x,y⟩:=Rs.app.mp h4;⟨m,⟨h1,h2,h3,x⟩,y⟩,fun ⟨m,⟨h1,h2,h3,x⟩,y⟩=>⟨h1,h2,h3,Rs.app.mpr ⟨m,x,y⟩⟩⟩
theorem Rs.len:∀{p:List (Nat×Nat×Nat)} {a b:Nat},Rs κ xs a p b->a+p.length<=b
 | [],a,b,h=>by cases h;simp
 | r::p,a,b,⟨h1,h2,h3,h4⟩=>by
  have:=Rs.len h4
  rw [List.length_cons];lia
theorem jo {lo n:Nat}(h:Up κ xs lo n)(e:∀k,lo<=k->k<lo+n->ys[k]?=xs[k]?):Up κ ys lo n:=fun i j a b c=>by
 rw [KK_congr (e i a (by lia)),KK_congr (e j (by lia) c)];exact h i j a b c
theorem Rs.keep:∀{p:List (Nat×Nat×Nat)} {a b:Nat},Rs κ xs a p b->(∀k,a<=k->k<b->ys[k]?=xs[k]?)->Rs κ ys a p b
 | [],a,b,h,_=>h
 | r::p,a,b,⟨h1,h2,h3,h4⟩,e=>by
  have:=h4.len
  exact ⟨h1,h2,jo h3 fun k c d=>e k c (by lia),Rs.keep h4 fun k c d=>e k (by lia) d⟩
theorem vX {α:Type}{l:List α}{i:Nat}(h:i+1<l.length):∃ p x y q,l=p++x::y::q/\p.length=i:=by
 refine ⟨l.take i,l[i],l[i+1],l.drop (i+2),?_,by rw [List.length_take];lia⟩
 have e1:=List.drop_eq_getElem_cons (l:=l) (i:=i) (by lia)
 have e2:=List.drop_eq_getElem_cons (l:=l) (i:=i+1) h
 rw [<-e2,<-e1,List.take_append_drop]
end
section
variable {prog:Program}{w:World}{A:Around}{E:Value->Shared->Prop}{s:Shared}{κ:KeyKind}{kd:SortKind}{a₀:Array Keyed}{st:SortSt}
theorem kU (C:Cmp prog w A s κ kd a₀)(B:SB kd a₀ st){i hi:Nat}{Q:Bool->SortSt->Prop}(R:Rs κ (arrOf st) 0 (pendingOf st).toList hi)(hh:hi<=a₀.size)(h2:i+1<(pendingOf st).size)
  (h:∀st',SB kd a₀ st'->Rs κ (arrOf st') 0 (pendingOf st').toList hi->(pendingOf st').size+1=(pendingOf st).size->(∀k,hi<=k->(arrOf st')[k]?=(arrOf st)[k]?)->Q true st') :
  wpS (model prog w) A E s (mergeAt' i) Q st:=by
 obtain ⟨l,hl⟩:∃ l,pendingOf st=l.toArray:=⟨(pendingOf st).toList,by simp⟩
 rw [hl] at R h2
 have R0:Rs κ (arrOf st) 0 l hi:=R
 have h2':i+1<l.length:=h2
 obtain ⟨p,⟨sa,na,pw⟩,⟨sb,nb,pw2⟩,q,e,ep⟩:=vX h2'
 rw [e] at R0
 obtain ⟨m,Rp,⟨e1,n1,u1,⟨e2,n2,u2,Rq⟩⟩⟩:=Rs.app.mp R0
 dsimp only at e1 n1 u1 e2 n2 u2 Rq
 have lp:=Rp.len
 have lq:=Rq.len
 have g1:(pendingOf st)[i]?=some (sa,na,pw):=by rw [hl,List.getElem?_toArray,e,<-ep,List.getElem?_append_right (Nat.le_refl _),Nat.sub_self];rfl
 have g2:(pendingOf st)[i+1]?=some (sb,nb,pw2):=by rw [hl,List.getElem?_toArray,e,<-ep,List.getElem?_append_right (by lia),show p.length+1-p.length=1 by lia];rfl
 subst e1
 refine yi C B g1 g2 (by lia) n1 n2 (by lia) u1 (e2▸u2) fun st' B' ep' kp u'=>?_
 have el:(pendingOf st').toList=p++(sa,na+nb,pw)::q:=by
  rw [ep',hl,e]
  have a1:((p++(sa,na,pw)::(sb,nb,pw2)::q).toArray.setIfInBounds i (sa,na+nb,pw))=(p++(sa,na+nb,pw)::(sb,nb,pw2)::q).toArray:=by
   rw [List.setIfInBounds_toArray,List.set_append_right _ _ (by lia),show i-p.length=0 by lia];rfl
  rw [a1]
  have a2:i+1<(p++(sa,na+nb,pw)::(sb,nb,pw2)::q).toArray.size:=by simp;lia
  rw [Array.eraseIdxIfInBounds_eq,dif_pos a2]
  rw [List.eraseIdx_toArray]
  rw [List.eraseIdx_append_of_length_le (by lia),show i+1-p.length=1 by lia]
  rfl
 refine h st' B' ?_ ?_ fun k hk=>kp k (.inr (by lia))
 .rw [el]
  refine Rs.app.mpr ⟨sa,Rp.keep fun k a b=>kp k (.inl b),rfl,by dsimp only;lia,u',?_⟩
  dsimp only
  rw [<-Nat.add_assoc]
  exact Rq.keep fun k a b=>kp k (.inr (by lia))
 .have e3:(pendingOf st').size=(p++(sa,na+nb,pw)::q).length:=by rw [<-el];simp
  rw [e3,hl,e];simp;lia
end
end TS
end
section
namespace TS
open PySem PyProof.Rows
theorem Rs.modify {κ:KeyKind}{xs:Array Keyed}:∀{p:List (Nat×Nat×Nat)} {a b:Nat},Rs κ xs a p b->∀(i:Nat) (f:Nat×Nat×Nat->Nat×Nat×Nat),(∀r,(f r).1=r.1/\(f r).2.1=r.2.1)->Rs κ xs a (p.modify i f) b
 | [],a,b,h,i,f,hf=>by cases i <;> exact h
 | r::p,a,b,⟨h1,h2,h3,h4⟩,0,f,hf=>by
  refine ⟨(hf r).1.trans h1,by rw [(hf r).2];exact h2,by rw [(hf r).2];exact h3,by rw [(hf r).2];exact h4⟩
 | r::p,a,b,⟨h1,h2,h3,h4⟩,i+1,f,hf=>⟨h1,h2,h3,Rs.modify h4 i f hf⟩
section
variable {prog:Program}{w:World}{A:Around}{E:Value->Shared->Prop}{s:Shared}{κ:KeyKind}{kd:SortKind}{a₀:Array Keyed}{st:SortSt}
theorem xF (C:Cmp prog w A s κ kd a₀)(B:SB kd a₀ st)(hp:pendingOf st=#[]){Q:Unit->SortSt->Prop}(h:∀st',SB kd a₀ st'->Up κ (arrOf st') 0 a₀.size->Q () st'):wpS (model prog w) A E s sortRuns' Q st:=by
 rw [sortRuns'_eq]
 refine wpS_bind (wpS_get ?_)
 dsimp only
 simp only [B.size]
 refine wpS_bind (wpS_mono (wpS_forRange (I:=fun x c st'=>∃ lo,c=(none,lo)/\SB kd a₀ st'/\Rs κ (arrOf st') 0 (pendingOf st').toList lo/\lo<=a₀.size/\(x<=lo∨lo=a₀.size))
  (Q:=fun c st'=>c=(none,a₀.size)/\SB kd a₀ st'/\Rs κ (arrOf st') 0 (pendingOf st').toList a₀.size) ?_ ?_ ⟨0,rfl,B,by rw [hp];rfl,by lia,by lia⟩) ?_)
 .rintro x c st1 _ hx ⟨lo,rfl,B1,R1,h1,h2⟩
  dsimp only
  by_cases g1:lo ≥ a₀.size
  .rw [if_pos g1]
   have e:lo=a₀.size:=by lia
   subst e
   exact wpS_pure ⟨rfl,B1,R1⟩
  rw [if_neg g1]
  refine wpS_bind (tT C B1 (by lia) (by lia) fun n st2 ⟨B2,p2,k2,n1,n2,U2⟩=>?_)
  have R2:Rs κ (arrOf st2) 0 (pendingOf st2).toList lo:=by rw [p2];exact R1.keep fun k a b=>k2 k b
  dsimp only
  by_cases g2:n<minRun' a₀.size a₀.size 0
  .rw [if_pos g2]
   refine wpS_bind (wpS_lift (wpAny_rule ⟨rfl,?_⟩))
   refine wpS_bind (x2 C B2 (by lia) (by lia) n1 U2 fun st3 B3 p3 k3 U3=>?_)
   simp only [Bool.not_true,Bool.false_eq_true,if_false]
   have R3:Rs κ (arrOf st3) 0 (pendingOf st3).toList lo:=by rw [p3];exact R2.keep fun k a b=>k3 k b
   have mn:1<=min (a₀.size-lo) (minRun' a₀.size a₀.size 0):=by lia
   refine wpS_bind (wpS_get ?_)
   have fin:∀st4:SortSt,SB kd a₀ st4->Rs κ (arrOf st4) 0 (pendingOf st4).toList lo->Up κ (arrOf st4) lo (min (a₀.size-lo) (minRun' a₀.size a₀.size 0))->
     ∃ lo',(ForInStep.yield ((none:Option Unit),lo+min (a₀.size-lo) (minRun' a₀.size a₀.size 0)))=ForInStep.yield (none,lo')/\SB kd a₀ (setPending st4 ((pendingOf st4).push (lo,min (a₀.size-lo) (minRun' a₀.size a₀.size 0),0)))/\Rs κ (arrOf st4) 0 ((pendingOf st4).push (lo,min (a₀.size-lo) (minRun' a₀.size a₀.size 0),0)).toList lo'/\lo'<=a₀.size/\(x+1<=lo'∨lo'=a₀.size):=fun st4 B4 R4 U4=>by
    refine ⟨lo+min (a₀.size-lo) (minRun' a₀.size a₀.size 0),rfl,⟨B4.perm,B4.kind,B4.fail⟩,?_,by lia,by lia⟩
    rw [Array.toList_push]
    exact Rs.app.mpr ⟨lo,R4,rfl,by dsimp only;lia,U4,rfl⟩
   cases hb:(pendingOf st3).back? with
   | none =>
    dsimp only
    obtain ⟨lo',e1,e2,e3,e4,e5⟩:=fin st3 B3 R3 U3
    exact wpS_bind (wpS_modify (wpS_pure ⟨lo+min (a₀.size-lo) (minRun' a₀.size a₀.size 0),rfl,e2,by cases e1;exact e3,by cases e1;exact e4,by cases e1;exact e5⟩))
   | some bk =>
    obtain ⟨s1,n1,o1⟩:=bk
    dsimp only
    have hpos:0<(pendingOf st3).size:=by
     rcases Nat.eq_zero_or_pos (pendingOf st3).size with z | z
     .rw [Array.eq_empty_of_size_eq_zero z] at hb;cases hb
     .exact z
    refine wpS_bind (wpS_mono (wpS_forRange (I:=fun _ c st'=>c=(none,())/\SB kd a₀ st'/\Rs κ (arrOf st') 0 (pendingOf st').toList lo/\0<(pendingOf st').size/\Up κ (arrOf st') lo (min (a₀.size-lo) (minRun' a₀.size a₀.size 0)))
     (Q:=fun c st'=>c=(none,())/\SB kd a₀ st'/\Rs κ (arrOf st') 0 (pendingOf st').toList lo/\0<(pendingOf st').size/\Up κ (arrOf st') lo (min (a₀.size-lo) (minRun' a₀.size a₀.size 0))) ?_ (fun c st' z=>z) ⟨rfl,B3,R3,hpos,U3⟩) ?_)
    .rintro y c st3 _ _ ⟨rfl,B3,R3,p3,U3⟩
     refine wpS_bind (wpS_get ?_)
     by_cases g2:(pendingOf st3).size>1
     .have g2':(pendingOf st3).size>1:=g2
      rw [if_pos g2']
      have ⟨o,eo⟩:∃ o,(pendingOf st3)[(pendingOf st3).size-2]?=some o:=⟨_,getElem?_pos _ _ (by lia)⟩
      rw [eo]
      obtain ⟨o1,o2,o3⟩:=o
      dsimp only
      split
      .exact wpS_pure ⟨rfl,B3,R3,p3,U3⟩
      .refine wpS_bind (kU C B3 R3 (by lia) (by have:=g2;lia) fun st4 B4 R4 p4 k4=>?_)
       simp only [Bool.not_true,Bool.false_eq_true,if_false]
       exact wpS_pure ⟨rfl,B4,R4,by lia,jo U3 fun k a b=>k4 k a⟩
     .have g2':¬ (pendingOf st3).size>1:=g2
      rw [if_neg g2']
      exact wpS_pure ⟨rfl,B3,R3,p3,U3⟩
    .rintro c st3 ⟨rfl,B3,R3,p3,U3⟩
     dsimp only
     refine wpS_bind (wpS_modify ?_)
     have R4:∀pw,Rs κ (arrOf st3) 0 ((pendingOf st3).modify ((pendingOf st3).size-1) fun x=>match x with | (st,len,_)=>(st,len,pw)).toList lo:=fun pw=>by
      rw [Array.toList_modify]
      exact Rs.modify R3 _ _ fun r=>⟨rfl,rfl⟩
     obtain ⟨lo',e1,e2,e3,e4,e5⟩:=fin (setPending st3 ((pendingOf st3).modify ((pendingOf st3).size-1) fun x=>match x with | (st,len,_)=>(st,len,power' a₀.size (2*s1+n1) (2*s1+n1+n1+min (a₀.size-lo) (minRun' a₀.size a₀.size 0)) a₀.size))) ⟨B3.perm,B3.kind,B3.fail⟩ (R4 _) U3
     refine wpS_bind (wpS_modify (wpS_pure ⟨lo+min (a₀.size-lo) (minRun' a₀.size a₀.size 0),rfl,⟨B3.perm,B3.kind,B3.fail⟩,?_,by cases e1;exact e4,by cases e1;exact e5⟩))
     cases e1
     exact e3
  .rw [if_neg g2]
   refine wpS_bind (wpS_get ?_)
   have fin:∀st4:SortSt,SB kd a₀ st4->Rs κ (arrOf st4) 0 (pendingOf st4).toList lo->Up κ (arrOf st4) lo (n)->
     ∃ lo',(ForInStep.yield ((none:Option Unit),lo+n))=ForInStep.yield (none,lo')/\SB kd a₀ (setPending st4 ((pendingOf st4).push (lo,n,0)))/\Rs κ (arrOf st4) 0 ((pendingOf st4).push (lo,n,0)).toList lo'/\lo'<=a₀.size/\(x+1<=lo'∨lo'=a₀.size):=fun st4 B4 R4 U4=>by
    refine ⟨lo+n,rfl,⟨B4.perm,B4.kind,B4.fail⟩,?_,by lia,by lia⟩
    rw [Array.toList_push]
    exact Rs.app.mpr ⟨lo,R4,rfl,by dsimp only;lia,U4,rfl⟩
   cases hb:(pendingOf st2).back? with
   | none =>
    dsimp only
    obtain ⟨lo',e1,e2,e3,e4,e5⟩:=fin st2 B2 R2 U2
    exact wpS_bind (wpS_modify (wpS_pure ⟨lo+n,rfl,e2,by cases e1;exact e3,by cases e1;exact e4,by cases e1;exact e5⟩))
   | some bk =>
    obtain ⟨s1,n1,o1⟩:=bk
    dsimp only
    have hpos:0<(pendingOf st2).size:=by
     rcases Nat.eq_zero_or_pos (pendingOf st2).size with z | z
     .rw [Array.eq_empty_of_size_eq_zero z] at hb;cases hb
     .exact z
    refine wpS_bind (wpS_mono (wpS_forRange (I:=fun _ c st'=>c=(none,())/\SB kd a₀ st'/\Rs κ (arrOf st') 0 (pendingOf st').toList lo/\0<(pendingOf st').size/\Up κ (arrOf st') lo (n))
     (Q:=fun c st'=>c=(none,())/\SB kd a₀ st'/\Rs κ (arrOf st') 0 (pendingOf st').toList lo/\0<(pendingOf st').size/\Up κ (arrOf st') lo (n)) ?_ (fun c st' z=>z) ⟨rfl,B2,R2,hpos,U2⟩) ?_)
    .rintro y c st3 _ _ ⟨rfl,B3,R3,p3,U3⟩
     refine wpS_bind (wpS_get ?_)
     by_cases g2:(pendingOf st3).size>1
     .have g2':(pendingOf st3).size>1:=g2
      rw [if_pos g2']
      have ⟨o,eo⟩:∃ o,(pendingOf st3)[(pendingOf st3).size-2]?=some o:=⟨_,getElem?_pos _ _ (by lia)⟩
      rw [eo]
      obtain ⟨o1,o2,o3⟩:=o
      dsimp only
      split
      .exact wpS_pure ⟨rfl,B3,R3,p3,U3⟩
      .refine wpS_bind (kU C B3 R3 (by lia) (by have:=g2;lia) fun st4 B4 R4 p4 k4=>?_)
       simp only [Bool.not_true,Bool.false_eq_true,if_false]
       exact wpS_pure ⟨rfl,B4,R4,by lia,jo U3 fun k a b=>k4 k a⟩
     .have g2':¬ (pendingOf st3).size>1:=g2
      rw [if_neg g2']
      exact wpS_pure ⟨rfl,B3,R3,p3,U3⟩
    .rintro c st3 ⟨rfl,B3,R3,p3,U3⟩
     dsimp only
     refine wpS_bind (wpS_modify ?_)
     have R4:∀pw,Rs κ (arrOf st3) 0 ((pendingOf st3).modify ((pendingOf st3).size-1) fun x=>match x with | (st,len,_)=>(st,len,pw)).toList lo:=fun pw=>by
      rw [Array.toList_modify]
      exact Rs.modify R3 _ _ fun r=>⟨rfl,rfl⟩
     obtain ⟨lo',e1,e2,e3,e4,e5⟩:=fin (setPending st3 ((pendingOf st3).modify ((pendingOf st3).size-1) fun x=>match x with | (st,len,_)=>(st,len,power' a₀.size (2*s1+n1) (2*s1+n1+n1+n) a₀.size))) ⟨B3.perm,B3.kind,B3.fail⟩ (R4 _) U3
     refine wpS_bind (wpS_modify (wpS_pure ⟨lo+n,rfl,⟨B3.perm,B3.kind,B3.fail⟩,?_,by cases e1;exact e4,by cases e1;exact e5⟩))
     cases e1
     exact e3
 .rintro c st1 ⟨lo,rfl,B1,R1,h1,h2⟩
  have e:lo=a₀.size:=by lia
  subst e
  exact ⟨rfl,B1,R1⟩
 .rintro c st1 ⟨rfl,B1,R1⟩
  dsimp only
  refine wpS_bind (wpS_mono (wpS_forRange (I:=fun x c st'=>c=(none,())/\SB kd a₀ st'/\Rs κ (arrOf st') 0 (pendingOf st').toList a₀.size/\((pendingOf st').size<=1∨(pendingOf st').size+x<=a₀.size))
   (Q:=fun c st'=>c=(none,())/\SB kd a₀ st'/\Rs κ (arrOf st') 0 (pendingOf st').toList a₀.size/\(pendingOf st').size<=1) ?_ ?_ ⟨rfl,B1,R1,?_⟩) ?_)
  .rintro x c st2 _ hx ⟨rfl,B2,R2,h2⟩
   refine wpS_bind (wpS_get ?_)
   by_cases g1:(pendingOf st2).size<=1
   .rw [if_pos g1]
    exact wpS_pure ⟨rfl,B2,R2,g1⟩
   .rw [if_neg g1]
    refine wpS_bind (kU C B2 R2 (Nat.le_refl _) ?_ fun st3 B3 R3 p3 k3=>?_)
    .have it:∀(c:Prop) [Decidable c] (n:Nat),1<n->(if c then n-2-1 else n-2)+1<n:=fun c _ n h=>by split <;> lia
     exact it _ _ (by lia)
    .simp only [Bool.not_true,Bool.false_eq_true,if_false]
     exact wpS_pure ⟨rfl,B3,R3,by lia⟩
  .rintro c st2 ⟨rfl,B2,R2,h2⟩
   exact ⟨rfl,B2,R2,by lia⟩
  .have:=R1.len
   right
   simp only [Array.length_toList] at this
   lia
  .rintro c st2 ⟨rfl,B2,R2,h2⟩
   refine wpS_pure (h st2 B2 ?_)
   generalize el:(pendingOf st2).toList=l at R2
   have ell:l.length<=1:=by rw [<-el];simpa using h2
   cases l with
   | nil =>
    have e:0=a₀.size:=R2
    intro i j a b c
    lia
   | cons r l =>
    obtain ⟨e1,e2,u,R⟩:=R2
    have e0:l=[]:=by
     cases l with
     | nil=>rfl
     | cons _ _=>simp at ell
    subst e0
    have e3:0+r.2.1=a₀.size:=R
    rw [Nat.zero_add] at e3
    rw [<-e3];exact u
end
end TS
end
section
namespace TS
open PySem PyProof.Rows
section
variable {prog:Program}{w:World}{A:Around}{E:Value->Shared->Prop}{s:Shared}{κ:KeyKind}{kd:SortKind}
theorem qZ {a:Addr}{vs:List Value}{n:Nat}{P:Fin->Shared->Prop}(ho:s.heap.get? a=some (seqObj "list" vs.toArray n))(hn:vs.length<=sizeLine)
  (hkk:∀h':Heap,(∀b o,b≠a->s.heap.get? b=some o->h'.get? b=some o)->2<=vs.length->∀Q:SortKind->Shared->Prop,Q kd { s with heap:=h' }->wpAny (model prog w) A (keyKind' vs.toArray) Q E { s with heap:=h' })
  (hC:∀h':Heap,(∀b o,b≠a->s.heap.get? b=some o->h'.get? b=some o)->2<=vs.length->Cmp prog w A { s with heap:=h' } κ kd (pairsOf vs))
  (h:∀st':SortSt,(arrOf st').Perm (pairsOf vs)->Up κ (arrOf st') 0 (pairsOf vs).size->P (.done (.ret .none)) { s with heap:=sortedHeap s.heap a vs ((arrOf st').map (·.2)) }) :
  wpAny (model prog w) A (Builtin.«list.sort» ⟨[.ref a],[]⟩) P E s:=by
 rw [list_sort_plain]
 have ha:a<s.heap.objs.size:=Heap.lt_size ho
 refine wpAny_bind (listItems_at ho rfl ?_)
 refine wpAny_bind (listUpdate_at ho rfl ?_ (hsz:=by simpa using hn))
 obtain ⟨e1,ho1⟩:∃ e1,(s.heap.update a (Obj.mapSeq fun _=>#[])).get? a=some (seqObj "list" #[] e1):=⟨_,get?_update_seq ho (fun _=>#[])⟩
 refine wpAny_bind (seqEpoch_at ho1 rfl ?_)
 refine wpAny_bind (wpAny_newTuple ?_)
 refine wpAny_bind (wpAny_newList ?_)
 refine wpAny_holding ?_
 have ho6:(((s.heap.update a (Obj.mapSeq fun _=>#[])).push (seqObj "tuple" vs.toArray 0)).push (seqObj "list" #[] 0)).get? a=some (seqObj "list" #[] e1):=by
  rw [Heap.get?_push_ne _ _ _ (by rw [size_push',Heap.size_update];exact Nat.ne_of_lt (Nat.lt_succ_of_lt ha)),Heap.get?_push_ne _ _ _ (by rw [Heap.size_update];exact Nat.ne_of_lt ha)]
  exact ho1
 have keep:∀b o,b≠a->s.heap.get? b=some o->(((s.heap.update a (Obj.mapSeq fun _=>#[])).push (seqObj "tuple" vs.toArray 0)).push (seqObj "list" #[] 0)).get? b=some o:=fun b o hb e=>by
  have hlt:=Heap.lt_size e
  rw [Heap.get?_push_ne _ _ _ (by rw [size_push',Heap.size_update];exact Nat.ne_of_lt (Nat.lt_succ_of_lt hlt)),Heap.get?_push_ne _ _ _ (by rw [Heap.size_update];exact Nat.ne_of_lt hlt),Heap.get?_update_ne _ _ _ _ hb]
  exact e
 show wpAny (model prog w) A _ P E { s with heap:=((s.heap.update a (Obj.mapSeq fun _=>#[])).push (seqObj "tuple" vs.toArray 0)).push (seqObj "list" #[] 0) }
 dsimp only
 have hsz:vs.toArray.size=vs.length:=by simp
 by_cases h2:vs.toArray.size<2
 .rw [if_pos h2,if_pos h2]
  refine wpAny_bind (wpAny_pure ?_)
  rw [StateT.run_pure]
  refine wpAny_bind (wpAny_pure ?_)
  dsimp only
  refine wpAny_bind (seqEpoch_at ho6 rfl ?_)
  refine wpAny_bind (listUpdate_at ho6 rfl ?_ (hsz2:=by rw [Array.size_map];show (pairsOf vs).size<=_;rw [pairsOf_size];lia))
  simp only [bne_self_eq_false,Bool.false_eq_true,if_false]
  refine wpAny_pure (h (SortSt.mk' general' (vs.toArray.zip vs.toArray) #[] 7 none) (Array.Perm.refl _) ?_)
  intro i j _ hij hj
  have:i=j:=by rw [pairsOf_size] at hj;lia
  subst this;exact KeyOrd.kle_refl _
 .rw [if_neg h2,if_neg h2]
  refine wpAny_bind (hkk _ keep (by lia) _ ?_)
  refine wpAny_bind (wpAny_mono (xF (E:=E) (hC _ keep (by lia)) (a₀:=pairsOf vs) (st:=SortSt.mk' kd (vs.toArray.zip vs.toArray) #[] 7 none)
   (Q:=fun _ st'=>SB kd (pairsOf vs) st'/\Up κ (arrOf st') 0 (pairsOf vs).size) ⟨Array.Perm.refl _,rfl,rfl⟩ rfl fun st' a1 a2=>⟨a1,a2⟩) ?_ fun _ _ e=>e)
  rintro ⟨⟨⟩,st'⟩ s' ⟨rfl,B,U⟩
  dsimp only
  refine wpAny_bind (seqEpoch_at ho6 rfl ?_)
  refine wpAny_bind (listUpdate_at ho6 rfl ?_ (hsz2:=by refine Nat.le_trans (Nat.le_of_eq ((Array.size_map ..).trans (B.perm.size_eq.trans (pairsOf_size _)))) ?_;lia))
  rw [B.fail]
  simp only [bne_self_eq_false,Bool.false_eq_true,if_false]
  exact wpAny_pure (h st' B.perm U)
end
end TS
end
section

set_option Elab.async false
namespace L2
open PySem PySem.Spec PyProof.Rows
abbrev Key:=Sum Int Str
def keyIs:Key->Value->Bool
 | .inl k,v=>Value.isInt k v
 | .inr x,v=>Value.isStrOf x v
def yl (w:World):Key->Int
 | .inl k=>hashInt k
 | .inr x=>hashStr w x
theorem keyIs_shape:∀{k:Key} {v:Value},keyIs k v=true->(∃ i t,k=Sum.inl i/\v=Value.int i t)∨(∃ x t,k=Sum.inr x/\v=Value.str x t)
 | .inl i,v,h=>by
  obtain ⟨t,e⟩:=Value.isInt_shape (k:=i) (v:=v) h
  exact .inl ⟨i,t,rfl,e⟩
 | .inr x,v,h=>by
  obtain ⟨t,e⟩:=Value.isStrOf_shape (x:=x) (v:=v) h
  exact .inr ⟨x,t,rfl,e⟩
theorem ph (i:Int)(t:Tok):keyIs (.inl i) (.int i t)=true:=by simp [keyIs,Value.isInt]
theorem oG (x:Str)(t:Tok):keyIs (.inr x) (.str x t)=true:=by simp [keyIs,Value.isStrOf]
theorem wM (a b:Int):decide ((Sum.inl a:Key)=Sum.inl b)=(a == b):=by
 by_cases e:a=b
 .subst e;simp
 .have h:¬ (Sum.inl a:Key)=Sum.inl b:=fun q=>e (Sum.inl.inj q)
  rw [decide_eq_false h]
  exact (beq_eq_false_iff_ne.mpr e).symm
theorem wd (a b:Str):decide ((Sum.inr a:Key)=Sum.inr b)=decide (a=b):=by
 by_cases e:a=b
 .subst e;simp
 .have h:¬ (Sum.inr a:Key)=Sum.inr b:=fun q=>e (Sum.inr.inj q)
  rw [decide_eq_false h,decide_eq_false e]
theorem wL (a:Int)(b:Str):decide ((Sum.inl a:Key)=Sum.inr b)=false:=decide_eq_false (fun q=>nomatch q)
theorem vY (a:Str)(b:Int):decide ((Sum.inr a:Key)=Sum.inl b)=false:=decide_eq_false (fun q=>nomatch q)
def mixKind (prog:Program)(w:World):PySem.KeyKind prog w Key where
 is:=keyIs
 hash:=yl w
 inj:=fun v a b ha hb=>by
  rcases keyIs_shape ha with ⟨i,t,rfl,rfl⟩ | ⟨x,t,rfl,rfl⟩
  .rcases keyIs_shape hb with ⟨j,u,rfl,e⟩ | ⟨y,u,rfl,e⟩
   .injection e with e1 _;rw [e1]
   .exact nomatch e
  .rcases keyIs_shape hb with ⟨j,u,rfl,e⟩ | ⟨y,u,rfl,e⟩
   .exact nomatch e
   .injection e with e1 _;rw [e1]
 byValue:=fun k v h=>by
  rcases keyIs_shape h with ⟨i,t,rfl,rfl⟩ | ⟨x,t,rfl,rfl⟩ <;> rfl
 pyHash:=fun hv h=>by
  rcases keyIs_shape hv with ⟨i,t,rfl,rfl⟩ | ⟨x,t,rfl,rfl⟩
  .exact wpAny_pyHash_int h
  .exact wpAny_pyHash_str h
 eqBool:=fun hu hv h=>by
  rcases keyIs_shape hu with ⟨i,t,rfl,rfl⟩ | ⟨x,t,rfl,rfl⟩
  .rcases keyIs_shape hv with ⟨j,u,rfl,rfl⟩ | ⟨y,u,rfl,rfl⟩
   .rw [wM] at h;exact wpAny_eqBool_int h
   .rw [wL] at h;exact SeqAt.EqAt.int_str i t y u _ _ _ _ h
  .rcases keyIs_shape hv with ⟨j,u,rfl,rfl⟩ | ⟨y,u,rfl,rfl⟩
   .rw [vY] at h;exact SeqAt.EqAt.str_int x t j u _ _ _ _ h
   .rw [wd] at h;exact wpAny_eqBool_str h
 «strs»:=fun k x t v h=>by
  rcases keyIs_shape h with ⟨i,u,rfl,e⟩ | ⟨y,u,rfl,e⟩
  .exact nomatch e
  .injection e with e1 _
   subst e1
   cases v <;> rfl
theorem jV (prog:Program)(w:World)(i:Int)(t:Tok):(mixKind prog w).is (.inl i) (.int i t)=true:=ph i t
theorem jF (prog:Program)(w:World)(x:Str)(t:Tok):(mixKind prog w).is (.inr x) (.str x t)=true:=oG x t
end L2
namespace L2
open PySem PySem.Spec PyProof.Rows
inductive V where
 | non | bl (b:Bool) | int (i:Int) | str (x:Str) | byt (b:Array UInt8) | flt (b:UInt64) | ref (a:Addr) | ty (n:String)
 deriving DecidableEq
def RelV:V->Value->Prop
 | .non,u=>u=Value.none
 | .bl b,u=>u=Value.bool b
 | .int i,u=>∃ t,u=Value.int i t
 | .str x,u=>∃ t,u=Value.str x t
 | .byt b,u=>∃ t,u=Value.bytes b t
 | .flt b,u=>∃ t,u=Value.float b t
 | .ref a,u=>u=Value.ref a
 | .ty n,u=>u=Value.type n
abbrev Vals:List V->List Value->Prop:=Paired RelV
theorem Vals.length {xs:List V}{us:List Value}(r:Vals xs us):xs.length=us.length:=Paired.length r
theorem Vals.get:∀{xs:List V} {us:List Value} {i:Nat} {x:V},Vals xs us->xs[i]?=some x->∃ u,us[i]?=some u/\RelV x u
 | _,_,_,_,.nil,e=>by simp at e
 | _,_,0,_,.cons r _,e=>by simp at e;subst e;exact ⟨_,rfl,r⟩
 | _,_,i+1,x,.cons _ t,e=>by
  obtain ⟨u,h1,h2⟩:=Vals.get (i:=i) (x:=x) t (by simpa using e)
  exact ⟨u,by simpa using h1,h2⟩
theorem Vals.set {x:V}{u:Value}(r:RelV x u):∀{xs:List V} {us:List Value} (i:Nat),Vals xs us->Vals (xs.set i x) (us.set i u)
 | _,_,_,.nil=>.nil
 | _,_,0,.cons _ t=>.cons r t
 | _,_,i+1,.cons q t=>.cons q (Vals.set r i t)
theorem Vals.append:∀{xs ys:List V} {us ws:List Value},Vals xs us->Vals ys ws->Vals (xs++ys) (us++ws)
 | _,_,_,_,.nil,s=>s
 | _,_,_,_,.cons r t,s=>.cons r (Vals.append t s)
theorem Vals.take:∀{xs:List V} {us:List Value} (n:Nat),Vals xs us->Vals (xs.take n) (us.take n)
 | _,_,0,_=>.nil
 | _,_,_+1,.nil=>.nil
 | _,_,n+1,.cons r t=>.cons r (Vals.take n t)
theorem Vals.drop:∀{xs:List V} {us:List Value} (n:Nat),Vals xs us->Vals (xs.drop n) (us.drop n)
 | _,_,0,r=>r
 | _,_,_+1,.nil=>.nil
 | _,_,n+1,.cons _ t=>Vals.drop n t
def RelO:Option V->Option Value->Prop
 | some v,some u=>RelV v u
 | none,none=>True
 | _,_=>False
def KV {κ:Type}:List (κ×V)->List (κ×Value)->Prop:=Paired fun (p:κ×V) (q:κ×Value)=>p.1=q.1/\RelV p.2 q.2
def kV:Key->V
 | .inl i=>.int i
 | .inr x=>.str x
inductive HO where
 /-- a list -/
 | lst (xs:List V)
 /-- a tuple (never changes) -/
 | tup (xs:List V)
 /-- a dict whose keys are ints and texts;one whose keys are tuples of ints and texts (the empty one is both) -/
 | dK (kvs:List (Key×V)) | dT (kvs:List (List Key×V))
 /-- a set of ints: its members,its size -/
 | set (S:Int->Bool) (n:Nat)
 /-- an instance of the class at C,its dict at dx,its attributes -/
 | ins (C dx:Addr) (fs:List (Str×V))
 /-- the dict of the instance at x -/
 | own (x:Addr)
 /-- the dict of an exception -/
 | xd (fs:List (Str×V))
 /-- a bound method,f of x -/
 | met (f x:Addr)
 /-- a range object lo,lo+1,.. below hi -/
 | rng (lo hi:Int)
 /-- a thing that is known to the object (the script;a dict while a loop walks it): read,never written while it is so -/
 | frz (o:Obj) (u:HO)
 /-- a code object's table -/
 | tbl (ps:Array Value)
 /-- any other thing,by what is true of its one object (a def of one's own: SetO a S n:=HO.ext fun h=>..) -/
 | ext (φ:Heap->Prop)
abbrev Hp:=Addr->Option HO
def upd (H:Hp)(a:Addr)(o:HO):Hp:=fun b=>if b=a then some o else H b
theorem ae {H:Hp}{a:Addr}{o:HO}:upd H a o a=some o:=by unfold upd;rw [if_pos rfl]
theorem ak {H:Hp}{a b:Addr}{o:HO}(h:b≠a):upd H a o b=H b:=by unfold upd;rw [if_neg h]
theorem eu {H:Hp}{a:Addr}{o u:HO}:upd (upd H a o) a u=upd H a u:=by
 funext b;unfold upd;split <;> rfl
theorem bx {H:Hp}{a b:Addr}{o u:HO}(h:H a=some o)(h':H b=some u)(d:o≠u):a≠b:=by
 intro e;subst e;rw [h] at h';exact d (Option.some.inj h')
theorem am {H:Hp}{a b:Addr}{o:HO}(h:H a=some o)(h':H b=none):a≠b:=by
 intro e;subst e;rw [h] at h';cases h'
section
variable (P:Program)(w:World)
def ObjOk (H:Hp)(h:Heap)(a:Addr):HO->Prop
 | .lst xs=>xs.length<=sizeLine/\∃ (its:List Value) (n:Nat),Vals xs its/\h.get? a=some { cls:=.type "list",data:=.seq its.toArray n }
 | .tup xs=>xs.length<=sizeLine/\∃ its:List Value,Vals xs its/\IsTup h a its.toArray
 | .dK kvs=>kvs.length<=sizeLine/\(a == sysModules)=false/\∃ vs,KV kvs vs/\h.DictOf (mixKind P w) a vs
 | .dT kvs=>kvs.length<=sizeLine/\(a == sysModules)=false/\∃ xs:List (List Key×Addr×Value),
   Paired (fun (p:List Key×V) (q:List Key×Addr×Value)=>p.1=q.1/\H q.2.1=some (.tup (p.1.map kV))/\RelV p.2 q.2.2) kvs xs /\
   ∃ o es ep,h.get? a=some o/\o.ExactDict/\o.data=.dict es ep/\es.toList=xs.map (entryOfKey (tupleKind (mixKind P w)))/\(xs.map (·.1)).Nodup
 | .set S n=>h.SetOf (intKind P w) a S n
 | .ins C dx fs=>H dx=some (.own a)/\fs.length<=1000/\dx≠a/\h.get? a=some (PySem.W.instObj C dx) /\
   ∃ mA,h.Ns1 dx mA/\(∀f,RelO (fs.lookup f) (mA f))/\PySem.Within mA (fs.map (·.1))
 | .own _=>∃ o,h.get? a=some o
 | .xd fs=>∃ mA,h.Ns1 a mA/\∀f,RelO (fs.lookup f) (mA f)
 | .rng lo hi=>∃ t u v,h.get? a=some { cls:=.type "range",data:=.fields #[.int lo t,.int hi u,.int 1 v] }
 | .frz o u=>h.get? a=some o/\ObjOk H h a u
 | .tbl ps=>h.get? a=some { cls:=.none,data:=.fields ps }
 | .met f x=>h.get? a=some (PySem.W.methodObj (.ref f) (.ref x))
 | .ext φ=>φ h/\(∃ o,h.get? a=some o)/\∀h1 h2:Heap,φ h1->(∀o,h1.get? a=some o->h2.get? a=some o)->φ h2
def HOk (H:Hp)(h:Heap):Prop:=∀a o,H a=some o->ObjOk P w H h a o
end
section
variable {P:Program}{w:World}{H H':Hp}{h h':Heap}{a:Addr}{o:HO}
theorem ObjOk.lt (x:ObjOk P w H h a o):a<h.objs.size:=by
 cases o with
 | lst xs=>obtain ⟨_,_,_,_,e⟩:=x;exact Heap.lt_size e
 | tup xs=>obtain ⟨_,_,_,p⟩:=x;exact p.lt
 | dK kvs=>obtain ⟨_,_,_,_,o,_,_,e,_⟩:=x;exact Heap.lt_size e
 | dT kvs=>obtain ⟨_,_,_,_,o,_,_,e,_⟩:=x;exact Heap.lt_size e
 | set S n=>obtain ⟨o,_,_,_,e,_⟩:=x;exact Heap.lt_size e
 | ins C dx fs=>obtain ⟨_,_,_,e,_⟩:=x;exact Heap.lt_size e
 | own y=>obtain ⟨_,e⟩:=x;exact Heap.lt_size e
 | xd fs=>obtain ⟨_,⟨_,_,_,e,_⟩,_⟩:=x;exact Heap.lt_size e
 | rng lo hi=>obtain ⟨_,_,_,e⟩:=x;exact Heap.lt_size e
 | frz ob u=>obtain ⟨e,_⟩:=x;exact Heap.lt_size e
 | tbl ps=>exact Heap.lt_size (show h.get? a=some _ from x)
 | met f y=>exact Heap.lt_size (show h.get? a=some _ from x)
 | ext φ=>obtain ⟨_,⟨_,e⟩,_⟩:=x;exact Heap.lt_size e
theorem Paired.mapP {α β:Type}{F G:α->β->Prop}:∀{l₁:List α} {l₂:List β},Paired F l₁ l₂->(∀a b,F a b->G a b)->Paired G l₁ l₂
 | _,_,.nil,_=>.nil
 | _,_,.cons r t,f=>.cons (f _ _ r) (Paired.mapP t f)
theorem ObjOk.stay (x:ObjOk P w H h a o)(k:∀b u,(b=a∨H b=some (.own a))->h.get? b=some u->h'.get? b=some u)
  (ho:∀b,H b=some (.own a)->H' b=some (.own a)) (ht:∀b xs,H b=some (.tup xs)->H' b=some (.tup xs)):ObjOk P w H' h' a o:=by
 induction o with
 | lst xs=>obtain ⟨z,its,n,r,e⟩:=x;exact ⟨z,its,n,r,k _ _ (.inl rfl) e⟩
 | tup xs=>obtain ⟨z,its,r,ob,e,c⟩:=x;exact ⟨z,its,r,ob,k _ _ (.inl rfl) e,c⟩
 | dK kvs=>obtain ⟨z,y,vs,r,ob,es,ep,e,c⟩:=x;exact ⟨z,y,vs,r,ob,es,ep,k _ _ (.inl rfl) e,c⟩
 | dT kvs =>
  obtain ⟨z,y,xs,r,ob,es,ep,e,c⟩:=x
  exact ⟨z,y,xs,Paired.mapP r fun p q z=>⟨z.1,ht _ _ z.2.1,z.2.2⟩,ob,es,ep,k _ _ (.inl rfl) e,c⟩
 | set S n=>obtain ⟨ob,es,ep,t,e,c⟩:=x;exact ⟨ob,es,ep,t,k _ _ (.inl rfl) e,c⟩
 | ins C dx fs =>
  obtain ⟨d,z,ne,e,mA,⟨od,es,ep,e2,c⟩,r⟩:=x
  exact ⟨ho _ d,z,ne,k _ _ (.inl rfl) e,mA,⟨od,es,ep,k _ _ (.inr d) e2,c⟩,r⟩
 | own y=>obtain ⟨ob,e⟩:=x;exact ⟨ob,k _ _ (.inl rfl) e⟩
 | xd fs=>obtain ⟨mA,⟨od,es,ep,e,c⟩,r⟩:=x;exact ⟨mA,⟨od,es,ep,k _ _ (.inl rfl) e,c⟩,r⟩
 | rng lo hi=>obtain ⟨t,u,v,e⟩:=x;exact ⟨t,u,v,k _ _ (.inl rfl) e⟩
 | frz ob u ih=>obtain ⟨e,q⟩:=x;exact ⟨k _ _ (.inl rfl) e,ih q⟩
 | tbl ps =>
  have e:h.get? a=some { cls:=.none,data:=.fields ps }:=x
  show h'.get? a=some { cls:=.none,data:=.fields ps }
  exact k a _ (.inl rfl) e
 | met f y =>
  have e:h.get? a=some (PySem.W.methodObj (.ref f) (.ref y)):=x
  show h'.get? a=some (PySem.W.methodObj (.ref f) (.ref y))
  exact k a _ (.inl rfl) e
 | ext φ=>obtain ⟨p,⟨o,e⟩,st⟩:=x;exact ⟨st _ _ p fun o q=>k _ _ (.inl rfl) q,⟨o,k _ _ (.inl rfl) e⟩,st⟩
theorem HOk.lt (x:HOk P w H h)(e:H a=some o):a<h.objs.size:=(x a o e).lt
theorem HOk.fresh (x:HOk P w H h)(e:h.objs.size<=a):H a=none:=by
 cases q:H a with
 | none=>rfl
 | some u=>exact absurd (Nat.lt_of_lt_of_le (x.lt q) e) (Nat.lt_irrefl _)
theorem HOk.kept (x:HOk P w H h)(k:∀b u,h.get? b=some u->h'.get? b=some u):HOk P w H h':=fun a o e =>
 (x a o e).stay (fun b u _ q=>k b u q) (fun _ q=>q) fun _ _ q=>q
theorem HOk.laid (x:HOk P w H h)(k:∀b u,h.get? b=some u->h'.get? b=some u)(hp:h.objs.size<=a)(new:ObjOk P w (upd H a o) h' a o):HOk P w (upd H a o) h':=fun b u e=>by
 have hn:=x.fresh hp
 by_cases hb:b=a
 .subst hb;rw [ae] at e;cases e;exact new
 .rw [ak hb] at e
  exact (x b u e).stay (fun c v _ q=>k c v q) (fun c q=>by rw [ak (am q hn)];exact q) fun c xs q=>by rw [ak (am q hn)];exact q
end
def Rd (H:Hp)(a:Addr)(u:HO):Prop:=H a=some u∨∃ o,H a=some (.frz o u)
theorem Rd.ok {P:Program}{w:World}{H:Hp}{h:Heap}{a:Addr}{u:HO}(r:Rd H a u)(x:HOk P w H h):ObjOk P w H h a u:=by
 rcases r with r | ⟨o,r⟩
 .exact x a u r
 .obtain ⟨_,q⟩:=x a _ r
  exact q
def Mut:Option HO->Prop
 | some (.lst _)=>True
 | some (.dK _)=>True
 | some (.dT _)=>True
 | some (.set _ _)=>True
 | some (.ins _ _ _)=>True
 | some (.ext _)=>True
 | _=>False
section
variable {P:Program}{w:World}{H:Hp}{h h':Heap}{x e:Addr}{o':HO}
theorem HOk.write (ok:HOk P w H h)(mu:Mut (H x))(he:e=x∨H e=some (.own x))(k:∀b u,b≠e->h.get? b=some u->h'.get? b=some u)(heo:∃ u,h'.get? e=some u)
  (new:ObjOk P w (upd H x o') h' x o'):HOk P w (upd H x o') h':=fun b u q=>by
 have nown:∀c y,H c=some (.own y)->c≠x:=fun c y r z=>by subst z;rw [r] at mu;exact mu
 have ntup:∀c xs,H c=some (.tup xs)->c≠x:=fun c xs r z=>by subst z;rw [r] at mu;exact mu
 by_cases hb:b=x
 .subst hb;rw [ae] at q;cases q;exact new
 .rw [ak hb] at q
  by_cases hbe:b=e
  .have q':H b=some (.own x):=by
    rcases he with z | z
    .exact absurd (hbe.trans z) hb
    .rw [hbe];exact z
   rw [q] at q';cases q'
   obtain ⟨v,hv⟩:=heo
   exact ⟨v,by rw [hbe];exact hv⟩
  .refine (ok b u q).stay (fun c v hc r=>k c v ?_ r) (fun c r=>by rw [ak (nown c b r)];exact r) fun c xs r=>by rw [ak (ntup c xs r)];exact r
   rcases hc with rfl | hc
   .exact hbe
   .rintro rfl
    rcases he with z | z
    .exact nown c b hc z
    .rw [hc] at z;cases z;exact hb rfl
end
structure Un (fs ex:List Addr)(H H':Hp)(h h':Heap):Prop where
 keep:∀b o,h.get? b=some o->H b=none->b∉fs->b∉ex->h'.get? b=some o
 slot:∀b o,h.get? b=some o->H b=none->b∈fs->b∉ex->∃ sl,h'.get? b=some { o with slots:=sl }
 free:∀b o,h.get? b=some o->H b=none->b∉ex->H' b=none
 there:∀b o,h.get? b=some o->b∉ex->∃ o',h'.get? b=some o'
 tups:∀b xs,H b=some (.tup xs)->H' b=some (.tup xs)
 frzs:∀b o u,H b=some (.frz o u)->H' b=some (.frz o u)
 tbls:∀b ps,H b=some (.tbl ps)->∃ more,H' b=some (.tbl (ps++more))
section
variable {fs fs' ex ex':List Addr}{H H1 H2:Hp}{h h1 h2 h':Heap}{a x e:Addr}{o:HO}
theorem Un.any (u:Un fs ex H H1 h h1){b:Addr}{ob:Obj}(q:h.get? b=some ob)(n:H b=none)(hx:b∉ex):∃ sl,h1.get? b=some { ob with slots:=sl }:=by
 by_cases hb:b∈fs
 .exact u.slot b ob q n hb hx
 .exact ⟨ob.slots,u.keep b ob q n hb hx⟩
theorem Un.kept (k:∀b u,h.get? b=some u->h'.get? b=some u):Un fs ex H H h h' :=
 ⟨fun b ob q _ _ _=>k b ob q,fun b ob q _ _ _=>⟨ob.slots,k b ob q⟩,fun _ _ _ n _=>n,fun b ob q _=>⟨ob,k b ob q⟩,fun _ _ q=>q,fun _ _ _ q=>q,fun _ ps q=>⟨#[],by rw [q];simp⟩⟩
theorem Un.refl:Un fs ex H H h h:=Un.kept fun _ _ q=>q
theorem Un.laid (k:∀b u,h.get? b=some u->h'.get? b=some u)(hp:h.objs.size<=a)(hn:H a=none):Un fs ex H (upd H a o) h h' where
 keep:=fun b u q _ _ _=>k b u q
 slot:=fun b u q _ _ _=>⟨u.slots,k b u q⟩
 free:=fun b u q n _=>by rw [ak (Nat.ne_of_lt (Nat.lt_of_lt_of_le (Heap.lt_size q) hp))];exact n
 there:=fun b u q _=>⟨u,k b u q⟩
 tups:=fun b xs q=>by rw [ak (am q hn)];exact q
 frzs:=fun b u xs q=>by rw [ak (am q hn)];exact q
 tbls:=fun b ps q=>⟨#[],by rw [ak (am q hn),q];simp⟩
theorem Un.write (mu:Mut (H x))(he:e=x∨H e=some (.own x))(k:∀b u,b≠e->h.get? b=some u->h'.get? b=some u)(heo:∃ u,h'.get? e=some u):Un fs ex H (upd H x o) h h':=by
 have hx:∀b,H b=none->b≠x:=fun b n z=>by subst z;rw [n] at mu;exact mu
 have hb:∀b,H b=none->b≠e:=fun b n z=>by
  subst z
  rcases he with r | r
  .exact hx b n r
  .rw [n] at r;cases r
 have hm:∀b u,H b=some u->¬ Mut (some u)->b≠x:=fun b u q nm z=>by subst z;rw [q] at mu;exact nm mu
 refine ⟨fun b u q n _ _=>k b u (hb b n) q,fun b u q n _ _=>⟨u.slots,k b u (hb b n) q⟩,fun b u q n _=>by rw [ak (hx b n)];exact n,fun b u q _=>?_,
  fun b xs q=>by rw [ak (hm b _ q fun z=>z)];exact q,fun b u xs q=>by rw [ak (hm b _ q fun z=>z)];exact q,fun b ps q=>⟨#[],by rw [ak (hm b _ q fun z=>z),q];simp⟩⟩
 by_cases hbe:b=e
 .subst hbe;exact heo
 .exact ⟨u,k b u hbe q⟩
end
def trk (h:Heap)(H:Hp):List Addr:=(List.range h.objs.size).filter fun a=>(H a).isSome
def jx (h:Heap)(H:Hp):Heap:=PySem.W.hideAll h (trk h H)
theorem pA (h:Heap)(H:Hp):(jx h H).objs.size=h.objs.size:=PySem.W.hideAll_size _ _
theorem qC {h:Heap}{H:Hp}{b:Addr}{o:Obj}(e:h.get? b=some o)(n:H b=none):(jx h H).get? b=some o :=
 PySem.W.hideAll_get _ e fun hm=>by
  have q:(H b).isSome=true:=(List.mem_filter.mp hm).2
  rw [n] at q;simp at q
theorem um {h:Heap}{H:Hp}{b:Addr}{o:Obj}(e:(jx h H).get? b=some o):h.get? b=some o/\H b=none:=by
 have e':h.get? b=some o:=PySem.W.of_hideAll (trk h H) e
 refine ⟨e',?_⟩
 cases q:H b with
 | none=>rfl
 | some x =>
  have hm:b∈trk h H:=List.mem_filter.mpr ⟨List.mem_range.mpr (Heap.lt_size e'),by simp [q]⟩
  have z:(jx h H).get? b=none:=PySem.W.hideAll_none (trk h H) hm
  rw [z] at e;cases e
def uD (g h:Heap)(L:Addr):List (Addr×Obj):=(List.range h.objs.size).filterMap fun a=>if a=L∨(g.get? a).isSome=true then none else (h.get? a).map fun o=>(a,o)
def rest (g h:Heap)(L d:Addr):List (Addr×Obj):=(uD g h L).filter fun p=>decide (p.1≠d)
end L2
namespace L2
open PySem PySem.Spec PyProof.Rows
structure Mod (K:PySem.W.Frag)(mg:Str->Option Value)(base:Heap):Prop where
 kin:K.In base
 glob:base.Ns mainGlobals mg
 blt:∃ mb,base.Ns builtinsNs mb/\∀x:Str,x≠"__name__"->mb x=bootBuiltins x
 nolimit:base.NoLimit
structure Cx where
 prog:Program
 w:World
 K:PySem.W.Frag
 mg:Str->Option Value
 base:Heap
 A:Around
 N:List Str
 s₀:Shared
 H₀:Hp
 env:Env
 outer:List Env
 stack:List Env
 ex:List Addr
 fn:Str->Bool
 calm:Bool
 pn:List (Addr×Obj)
 xe:Value->Shared->Prop
def frs (l:List Env):List Addr:=l.filterMap (·.frame)
abbrev Cx.fs (X:Cx):List Addr:=frs X.outer
def Vis (sc:Scope)(x:Str):Prop:=sc.names.lookup x=some .local∨sc.names.lookup x=some .cell∨sc.names.lookup x=some .free
def Loc (sc:Scope)(x:Str):Prop:=sc.names.lookup x=some .local∨sc.names.lookup x=some .cell
def yu (env:Env)(h:Heap)(m:Str->Option Value)(x:Str)(u:Value):Prop :=
 (env.kindOf x=some .local/\m x=some u)∨((env.kindOf x=some .cell∨env.kindOf x=some .free)/\∃ c,env.cells.lookup x=some c/\h.IsCell c (some u))
structure Cx.Ok (X:Cx):Prop where
 mod:Mod X.K X.mg X.base
 kind:X.env.scope.kind=.function
 glob:X.env.globals=mainGlobals
 blt:X.env.builtins=builtinsNs
 above:X.s₀.heap.objs.size<=X.env.locals
 inj:∀x y c,X.env.cells.lookup x=some c->X.env.cells.lookup y=some c->x=y
 has:∀x,(X.env.kindOf x=some .cell∨X.env.kindOf x=some .free)->∃ c,X.env.cells.lookup x=some c
 cab:∀x c,X.fn x=true->X.env.cells.lookup x=some c->X.s₀.heap.objs.size<=c
 hd:X.calm=true->X.A.handled=none
 frames:X.A.frames=some X.stack
 stk:X.stack=X.outer∨(X.stack=X.env::X.outer/\X.env.frame=some X.env.locals)
 exf:∀b∈X.ex,b≠X.env.locals/\∀x c,X.env.cells.lookup x=some c->c≠b
 bs:∀b o,X.base.get? b=some o->X.s₀.heap.get? b=some o/\X.H₀ b=none
 bsz:X.base.objs.size<=X.s₀.heap.objs.size
 noex:∀b o,X.base.get? b=some o->b∉X.ex
 exfs:∀b∈X.ex,b∉X.fs
 funs:X.s₀.heap.FunFrames X.base X.outer
 frf:∀b∈X.fs,X.H₀ b=none
structure Inv (X:Cx)(pins:List (Addr×Obj))(σ:List (Option V))(H:Hp)(s:Shared):Prop where
 ok:X.Ok
 os:s.os=X.s₀.os
 bare:AllBare s.gens
 base:Un X.fs X.ex X.H₀ H X.s₀.heap s.heap
 loc:∃ m,s.heap.Ns X.env.locals m/\∀(i:Nat) (x:Str) (v:V),X.N[i]?=some x->σ[i]?=some (some v)->Vis X.env.scope x->∃ u,RelV v u/\yu X.env s.heap m x u
 cell:∀x c,X.env.cells.lookup x=some c->∃ v,s.heap.IsCell c v
 free:H X.env.locals=none
 freeC:∀x c,X.env.cells.lookup x=some c->H c=none
 pin:∀p∈X.pn++pins,s.heap.get? p.1=some p.2/\H p.1=none/\p.1≠X.env.locals/\p.1∉X.fs/\∀v,p.2.data≠.cell v
 hok:HOk X.prog X.w H s.heap
 len:σ.length=X.N.length
section
variable {X:Cx}{pins:List (Addr×Obj)}{σ:List (Option V)}{H H':Hp}{s:Shared}{h':Heap}
theorem Cx.Ok.nofr (ok:X.Ok){b:Addr}{o:Obj}(e:X.base.get? b=some o):b∉X.fs:=fun hb=>by
 have:=(ok.funs.mem hb).1
 rw [e] at this;cases this
theorem Inv.bs (I:Inv X pins σ H s):∀b o,X.base.get? b=some o->s.heap.get? b=some o/\H b=none:=fun b o e =>
 ⟨I.base.keep b o (I.ok.bs b o e).1 (I.ok.bs b o e).2 (I.ok.nofr e) (I.ok.noex b o e),I.base.free b o (I.ok.bs b o e).1 (I.ok.bs b o e).2 (I.ok.noex b o e)⟩
theorem Inv.bk (I:Inv X pins σ H s):∀b o,X.base.get? b=some o->s.heap.get? b=some o:=fun b o e=>(I.bs b o e).1
theorem Inv.mod (I:Inv X pins σ H s):Mod X.K X.mg X.base:=I.ok.mod
theorem Inv.kIn (I:Inv X pins σ H s):X.K.In s.heap:=I.ok.mod.kin.keeps I.bk
theorem Inv.lt (I:Inv X pins σ H s):X.env.locals<s.heap.objs.size:=let ⟨_,hn,_⟩:=I.loc;hn.lt
theorem Inv.sz (I:Inv X pins σ H s):X.s₀.heap.objs.size<=s.heap.objs.size:=Nat.le_trans I.ok.above (Nat.le_of_lt I.lt)
theorem Inv.nofs (I:Inv X pins σ H s){a:Addr}(h:s.heap.objs.size<=a):a∉X.fs:=fun hb=>by
 obtain ⟨_,o,ho,_⟩:=I.ok.funs.mem hb
 exact absurd (Nat.lt_of_lt_of_le (Heap.lt_size ho) (Nat.le_trans I.sz h)) (Nat.lt_irrefl _)
theorem Inv.cne (I:Inv X pins σ H s):∀x c,X.env.cells.lookup x=some c->c≠X.env.locals:=fun x c e z=>by
 obtain ⟨v,o,ho,hd⟩:=I.cell x c e
 obtain ⟨m,⟨o',es,ep,ho',hd',_⟩,_⟩:=I.loc
 rw [z,ho'] at ho;cases ho;rw [hd'] at hd;cases hd
theorem Inv.funs (I:Inv X pins σ H s):s.heap.FunFrames X.base X.outer:=by
 have all:∀(l:List Env),(∀b∈frs l,b∈X.fs)->X.s₀.heap.FunFrames X.base l->s.heap.FunFrames X.base l:=by
  intro l
  induction l with
  | nil=>intro _ _;trivial
  | cons env r ih =>
   intro hs hl
   obtain ⟨hk,⟨L,o,hf,hn,ho,hd⟩,hr⟩:=hl
   have hL:L∈X.fs:=hs L (by unfold frs;rw [List.filterMap_cons,hf];exact List.mem_cons_self)
   obtain ⟨sl,e⟩:=I.base.slot L o ho (I.ok.frf L hL) hL fun z=>I.ok.exfs L z hL
   exact ⟨hk,⟨L,_,hf,hn,e,hd⟩,ih (fun b hb=>hs b (by unfold frs;rw [List.filterMap_cons,hf];exact List.mem_cons_of_mem _ hb)) hr⟩
 exact all X.outer (fun _ hb=>hb) I.ok.funs
theorem Inv.stack (I:Inv X pins σ H s):s.heap.FunFrames X.base X.stack:=by
 rcases I.ok.stk with e | ⟨e,hf⟩
 .rw [e];exact I.funs
 .rw [e]
  obtain ⟨m,hn,_⟩:=I.loc
  refine .cons (by rw [I.ok.kind];decide) hf hn ?_ I.funs
  exact Heap.get?_none_of_le (Nat.le_trans I.ok.bsz I.ok.above)
theorem Inv.stkSub (I:Inv X pins σ H s):∀b∈frs X.stack,b∈X.env.locals::X.fs:=fun b hb=>by
 rcases I.ok.stk with e | ⟨e,hf⟩
 .rw [e] at hb;exact List.mem_cons_of_mem _ hb
 .rw [e] at hb
  unfold frs at hb
  rw [List.filterMap_cons,hf] at hb
  exact hb
theorem Inv.stkFree (I:Inv X pins σ H s):∀b∈frs X.stack,H b=none:=fun b hb=>by
 rcases List.mem_cons.mp (I.stkSub b hb) with e | hb
 .rw [e];exact I.free
 .obtain ⟨_,o,ho,_⟩:=I.ok.funs.mem hb
  exact I.base.free b o ho (I.ok.frf b hb) fun z=>I.ok.exfs b z hb
theorem Inv.step {g':Array GenState}{t':Nat}{d':Drawn}{ch:List Addr}(I:Inv X pins σ H s)
  (hch:∀b∈ch,(b∈X.ex∨X.s₀.heap.objs.size<=b)/\b≠X.env.locals/\(∀x c,X.env.cells.lookup x=some c->c≠b)/\∀p∈X.pn++pins,p.1≠b)
  (keep:∀b o,b≠X.env.locals->b∉X.fs->b∉ch->s.heap.get? b=some o->H b=none->h'.get? b=some o)
  (slot:∀b o,b≠X.env.locals->b∈X.fs->b∉ch->s.heap.get? b=some o->H b=none->∃ sl,h'.get? b=some { o with slots:=sl }) (free:∀b o,b∉ch->s.heap.get? b=some o->H b=none->H' b=none)
  (there:∀b o,b∉ch->s.heap.get? b=some o->∃ o',h'.get? b=some o')
  (tups:∀b xs,H b=some (.tup xs)->H' b=some (.tup xs)) (frzs:∀b o u,H b=some (.frz o u)->H' b=some (.frz o u)) (tbls:∀b ps,H b=some (.tbl ps)->∃ more,H' b=some (.tbl (ps++more)))
  (ns:∀m,s.heap.Ns X.env.locals m->h'.Ns X.env.locals m) (hok:HOk X.prog X.w H' h') (hg:AllBare g') :
  Inv X pins σ H' { s with heap:=h',gens:=g',drawn:=d',toks:=t' }:=by
 have neL:∀b o,X.s₀.heap.get? b=some o->b≠X.env.locals:=fun b o e=>Nat.ne_of_lt (Nat.lt_of_lt_of_le (Heap.lt_size e) I.ok.above)
 have neC:∀b o,X.s₀.heap.get? b=some o->b∉X.ex->b∉ch:=fun b o e hx hb=>by
  rcases (hch b hb).1 with z | z
  .exact hx z
  .exact absurd (Nat.lt_of_lt_of_le (Heap.lt_size e) z) (Nat.lt_irrefl _)
 have cellK:∀x c,X.env.cells.lookup x=some c->∀v,s.heap.IsCell c v->h'.IsCell c v:=fun x c e v ⟨o,ho,hd⟩=>by
  have nch:c∉ch:=fun z=>(hch c z).2.2.1 x c e rfl
  by_cases hc:c∈X.fs
  .obtain ⟨sl,q⟩:=slot c o (I.cne x c e) hc nch ho (I.freeC x c e)
   exact ⟨_,q,hd⟩
  .exact ⟨o,keep c o (I.cne x c e) hc nch ho (I.freeC x c e),hd⟩
 refine ⟨I.ok,I.os,hg,⟨fun b o e n hb hx=>?_,fun b o e n hb hx=>?_,fun b o e n hx=>?_,fun b o e hx=>?_,fun b xs e=>tups b xs (I.base.tups b xs e),fun b o xs e=>frzs b o xs (I.base.frzs b o xs e),fun b ps e=>?_⟩,?_,fun x c e=>?_,?_,fun x c e=>?_,fun p hp=>?_,hok,I.len⟩
 .exact keep b o (neL b o e) hb (neC b o e hx) (I.base.keep b o e n hb hx) (I.base.free b o e n hx)
 .obtain ⟨sl,e1⟩:=I.base.slot b o e n hb hx
  obtain ⟨sl',e2⟩:=slot b _ (neL b o e) hb (neC b o e hx) e1 (I.base.free b o e n hx)
  exact ⟨sl',e2⟩
 .obtain ⟨o',e1⟩:=I.base.there b o e hx
  exact free b o' (neC b o e hx) e1 (I.base.free b o e n hx)
 .obtain ⟨o',e1⟩:=I.base.there b o e hx
  exact there b o' (neC b o e hx) e1
 .obtain ⟨m1,e1⟩:=I.base.tbls b ps e
  obtain ⟨m2,e2⟩:=tbls b _ e1
  exact ⟨m1++m2,by rw [e2,Array.append_assoc]⟩
 .obtain ⟨m,hn,hl⟩:=I.loc
  refine ⟨m,ns m hn,fun i x v e1 e2 e3=>?_⟩
  obtain ⟨u,r,l⟩:=hl i x v e1 e2 e3
  refine ⟨u,r,?_⟩
  rcases l with l | ⟨k,c,e,z⟩
  .exact .inl l
  .exact .inr ⟨k,c,e,cellK x c e _ z⟩
 .obtain ⟨v,z⟩:=I.cell x c e
  exact ⟨v,cellK x c e v z⟩
 .obtain ⟨m,⟨o,_,_,ho,_⟩,_⟩:=I.loc
  exact free _ o (fun z=>(hch _ z).2.1 rfl) ho I.free
 .obtain ⟨v,o,ho,hd⟩:=I.cell x c e
  exact free c o (fun z=>(hch c z).2.2.1 x c e rfl) ho (I.freeC x c e)
 .obtain ⟨e,n,ne,nf,d⟩:=I.pin p hp
  have nch:p.1∉ch:=fun z=>(hch p.1 z).2.2.2 p hp rfl
  exact ⟨keep p.1 p.2 ne nf nch e n,free p.1 p.2 nch e n,ne,nf,d⟩
theorem Inv.un {t':Nat}(I:Inv X pins σ H s)(u:Un X.fs [] H H' s.heap h')(hok:HOk X.prog X.w H' h'):Inv X pins σ H' { s with heap:=h',toks:=t' }:=by
 obtain ⟨m,⟨o,es,ep,ho,r⟩,_⟩:=id I.loc
 obtain ⟨sl,hL⟩:=u.any ho I.free (by simp)
 exact I.step (g':=s.gens) (d':=s.drawn) (ch:=[]) (fun _ z=>nomatch z) (fun b o _ hb _ e n=>u.keep b o e n hb (by simp)) (fun b o _ hb _ e n=>u.slot b o e n hb (by simp)) (fun b o _ e n=>u.free b o e n (by simp)) (fun b o _ e=>u.there b o e (by simp)) u.tups u.frzs u.tbls (fun m' hm=>by
  obtain ⟨o',es',ep',ho',r'⟩:=hm
  rw [ho] at ho';cases ho'
  exact ⟨_,es',ep',hL,r'⟩) hok I.bare
theorem Inv.call {g':Array GenState}{t':Nat}{d':Drawn}{ch:List Addr}(I:Inv X pins σ H s)(u:Un (frs X.stack) ch H H' s.heap h')(hok:HOk X.prog X.w H' h')(hg:AllBare g')
  (hch:∀b∈ch,(b∈X.ex∨X.s₀.heap.objs.size<=b)/\b≠X.env.locals/\(∀x c,X.env.cells.lookup x=some c->c≠b)/\∀p∈X.pn++pins,p.1≠b) :
  Inv X pins σ H' { s with heap:=h',gens:=g',drawn:=d',toks:=t' }:=by
 obtain ⟨m,⟨o,es,ep,ho,r⟩,_⟩:=id I.loc
 obtain ⟨sl,hL⟩:=u.any ho I.free fun z=>(hch _ z).2.1 rfl
 exact I.step (ch:=ch) hch (fun b o hL hb hc e n=>u.keep b o e n (fun z=>(List.mem_cons.mp (I.stkSub b z)).elim hL hb) hc) (fun b o _ _ hc e n=>u.any e n hc) (fun b o hc e n=>u.free b o e n hc) (fun b o hc e=>u.there b o e hc) u.tups u.frzs u.tbls (fun m' hm=>by
  obtain ⟨o',es',ep',ho',r'⟩:=hm
  rw [ho] at ho';cases ho'
  exact ⟨_,es',ep',hL,r'⟩) hok hg
theorem Inv.turned {t':Nat}{it:Addr}(I:Inv X pins σ H s)(k:∀b o,b≠it->s.heap.get? b=some o->h'.get? b=some o)(hn:H it=none)(hL:it≠X.env.locals)
  (h1:it∈X.ex∨X.s₀.heap.objs.size<=it) (h2:∀x c,X.env.cells.lookup x=some c->c≠it) (h3:∀p∈X.pn++pins,p.1≠it):Inv X pins σ H { s with heap:=h',toks:=t' }:=by
 have nit:∀b u,H b=some u->b≠it:=fun b u e z=>by rw [z,hn] at e;cases e
 refine I.step (g':=s.gens) (d':=s.drawn) (ch:=[it]) (fun b hb=>?_) (fun b o _ _ hc e _=>k b o (fun z=>hc (by simp [z])) e) (fun b o _ _ hc e _=>⟨o.slots,k b o (fun z=>hc (by simp [z])) e⟩) (fun _ _ _ _ n=>n)
  (fun b o hc e=>⟨o,k b o (fun z=>hc (by simp [z])) e⟩) (fun _ _ e=>e) (fun _ _ _ e=>e) (fun b ps e=>⟨#[],by rw [e];simp⟩) (fun m hm=>?_) (fun b u e=>?_) I.bare
 .have e:b=it:=by simpa using hb
  subst e
  exact ⟨h1,hL,h2,h3⟩
 .obtain ⟨o,es,ep,ho,r⟩:=hm
  exact ⟨o,es,ep,k _ o (Ne.symm hL) ho,r⟩
 .refine (I.hok b u e).stay (fun c v hc q=>k c v ?_ q) (fun _ q=>q) fun _ _ q=>q
  rcases hc with z | z
  .rw [z];exact nit b u e
  .exact nit c _ z
theorem Inv.tok (I:Inv X pins σ H s)(t:Nat):Inv X pins σ H { s with toks:=t }:=I.un (h':=s.heap) (t':=t) Un.refl I.hok
theorem Inv.kept {t':Nat}(I:Inv X pins σ H s)(k:∀b u,s.heap.get? b=some u->h'.get? b=some u):Inv X pins σ H { s with heap:=h',toks:=t' }:=I.un (Un.kept k) (I.hok.kept k)
theorem Inv.laid {a:Addr}{o:HO}{t':Nat}(I:Inv X pins σ H s)(k:∀b u,s.heap.get? b=some u->h'.get? b=some u)(hp:s.heap.objs.size<=a)(new:ObjOk X.prog X.w (upd H a o) h' a o) :
  Inv X pins σ (upd H a o) { s with heap:=h',toks:=t' }:=I.un (Un.laid k hp (I.hok.fresh hp)) (I.hok.laid k hp new)
theorem Inv.write {x e:Addr}{o:HO}{t':Nat}(I:Inv X pins σ H s)(mu:Mut (H x))(he:e=x∨H e=some (.own x))(k:∀b u,b≠e->s.heap.get? b=some u->h'.get? b=some u)(heo:∃ u,h'.get? e=some u)
  (new:ObjOk X.prog X.w (upd H x o) h' x o):Inv X pins σ (upd H x o) { s with heap:=h',toks:=t' }:=I.un (Un.write mu he k heo) (I.hok.write mu he k heo new)
theorem Inv.weak {σ':List (Option V)}(I:Inv X pins σ H s)(hl:σ'.length=σ.length)(w:∀(i:Nat) v,σ'[i]?=some (some v)->σ[i]?=some (some v)):Inv X pins σ' H s :=
 ⟨I.ok,I.os,I.bare,I.base,let ⟨m,hn,hl'⟩:=I.loc;⟨m,hn,fun i x v e1 e2 e3=>hl' i x v e1 (w i v e2) e3⟩,I.cell,I.free,I.freeC,I.pin,I.hok,hl.trans I.len⟩
theorem Inv.pins_of {pins':List (Addr×Obj)}(I:Inv X pins σ H s)(h:∀p∈pins',s.heap.get? p.1=some p.2/\H p.1=none/\p.1≠X.env.locals/\p.1∉X.fs/\∀v,p.2.data≠.cell v):Inv X pins' σ H s :=
 ⟨I.ok,I.os,I.bare,I.base,I.loc,I.cell,I.free,I.freeC,fun p hp=>(List.mem_append.mp hp).elim (fun z=>I.pin p (List.mem_append_left _ z)) (h p),I.hok,I.len⟩
theorem gP {N:List Str}(hN:N.Nodup){i j:Nat}{x:Str}(a:N[i]?=some x)(b:N[j]?=some x):i=j:=by
 obtain ⟨h1,e1⟩:=List.getElem?_eq_some_iff.mp a
 obtain ⟨h2,e2⟩:=List.getElem?_eq_some_iff.mp b
 exact (List.getElem_inj hN).mp (e1.trans e2.symm)
theorem iw {M:Model}{A:Around}{E:Value->Shared->Prop}{i:Nat}{x:Str}{v:V}{u:Value}{Q:Unit->Shared->Prop}(I:Inv X pins σ H s)(hN:X.N.Nodup)(hi:X.N[i]?=some x)(hx:Loc X.env.scope x)(r:RelV v u)
  (h:∀s',Inv X pins (σ.set i (some v)) H s'->(∃ a,Heap.SameBut a s.heap s'.heap/\(a=X.env.locals∨X.env.cells.lookup x=some a))->Q () s') (hf:X.fn x=true∨X.env.scope.names.lookup x=some .local:=by first | exact .inl rfl | exact .inr rfl | assumption):wpAny M A (storeName X.env x u) Q E s:=by
 obtain ⟨m,hn,hl⟩:=id I.loc
 have hcls:(X.env.scope.kind == .class || (X.env.scope.kind == .module&&X.env.locals != X.env.globals))=false:=by rw [I.ok.kind];rfl
 have hiσ:i<σ.length:=by rw [I.len];exact (List.getElem?_eq_some_iff.mp hi).1
 have cne:=I.cne
 have tracked:∀{a:Addr} {h':Heap},(∃ o,s.heap.get? a=some o/\H a=none)->Heap.SameBut a s.heap h'->HOk X.prog X.w H h':=fun {a h'} ha hs b ob e=>by
  obtain ⟨_,_,hfree⟩:=ha
  refine (I.hok b ob e).stay (fun c w' hc q=>(hs.2 c ?_).trans q) (fun _ q=>q) fun _ _ q=>q
  rintro rfl
  rcases hc with rfl | hc
  .rw [hfree] at e;cases e
  .rw [hfree] at hc;cases hc
 rcases hx with hk | hk
 .refine wpAny_storeName_local hk hn (fun h' hn' hs=>?_) hcls
  obtain ⟨oL,_,_,hoL,_⟩:=id hn
  refine h _ ⟨I.ok,I.os,I.bare,⟨fun b o e n hb hx=>?_,fun b o e n hb hx=>?_,I.base.free,fun b o e hx=>?_,I.base.tups,I.base.frzs,I.base.tbls⟩,⟨_,hn',fun j y v' e1 e2 e3=>?_⟩,fun y c e=>?_,I.free,I.freeC,fun p hp=>?_,tracked ⟨oL,hoL,I.free⟩ hs,by simpa using I.len⟩ ⟨_,hs,.inl rfl⟩
  .exact (hs.2 b (Nat.ne_of_lt (Nat.lt_of_lt_of_le (Heap.lt_size e) I.ok.above))).trans (I.base.keep b o e n hb hx)
  .obtain ⟨sl,e1⟩:=I.base.slot b o e n hb hx
   exact ⟨sl,(hs.2 b (Nat.ne_of_lt (Nat.lt_of_lt_of_le (Heap.lt_size e) I.ok.above))).trans e1⟩
  .obtain ⟨o',e1⟩:=I.base.there b o e hx
   exact ⟨o',(hs.2 b (Nat.ne_of_lt (Nat.lt_of_lt_of_le (Heap.lt_size e) I.ok.above))).trans e1⟩
  .by_cases hj:j=i
   .subst hj
    rw [hi] at e1;cases e1
    rw [List.getElem?_set_self hiσ] at e2
    cases e2
    exact ⟨u,r,.inl ⟨hk,by simp⟩⟩
   .rw [List.getElem?_set_ne (Ne.symm hj)] at e2
    obtain ⟨u',r',q⟩:=hl j y v' e1 e2 e3
    refine ⟨u',r',?_⟩
    rcases q with ⟨k,e⟩ | ⟨k,c,e,z⟩
    .refine .inl ⟨k,?_⟩
     have:y≠x:=fun e=>hj (gP hN e1 (e▸hi))
     simp [this,e]
    .exact .inr ⟨k,c,e,z.sameBut hs (cne y c e)⟩
  .obtain ⟨w',z⟩:=I.cell y c e
   exact ⟨w',z.sameBut hs (cne y c e)⟩
  .obtain ⟨e,n,ne,nf,d⟩:=I.pin p hp
   exact ⟨(hs.2 p.1 ne).trans e,n,ne,nf,d⟩
 .have hfn:X.fn x=true:=by
   rcases hf with z | z
   .exact z
   .rw [z] at hk;cases hk
  obtain ⟨c,hc⟩:=I.ok.has x (.inl hk)
  obtain ⟨w',z⟩:=I.cell x c hc
  refine wpAny_storeName_cell I.ok.kind hk hc z (fun h' hc' hs=>?_)
  obtain ⟨oc,hoc,hocd⟩:=id z
  refine h { s with heap:=h' } ⟨I.ok,I.os,I.bare,⟨fun b o e n hb hx=>?_,fun b o e n hb hx=>?_,I.base.free,fun b o e hx=>?_,I.base.tups,I.base.frzs,I.base.tbls⟩,⟨m,hn.sameBut hs (Ne.symm (cne x c hc)),fun j y v' e1 e2 e3=>?_⟩,fun y c' e=>?_,I.free,I.freeC,fun p hp=>?_,tracked ⟨oc,hoc,I.freeC x c hc⟩ hs,by simpa using I.len⟩ ⟨c,hs,.inr hc⟩
  .exact (hs.2 b (Nat.ne_of_lt (Nat.lt_of_lt_of_le (Heap.lt_size e) (I.ok.cab x c hfn hc)))).trans (I.base.keep b o e n hb hx)
  .obtain ⟨sl,e1⟩:=I.base.slot b o e n hb hx
   exact ⟨sl,(hs.2 b (Nat.ne_of_lt (Nat.lt_of_lt_of_le (Heap.lt_size e) (I.ok.cab x c hfn hc)))).trans e1⟩
  .obtain ⟨o',e1⟩:=I.base.there b o e hx
   exact ⟨o',(hs.2 b (Nat.ne_of_lt (Nat.lt_of_lt_of_le (Heap.lt_size e) (I.ok.cab x c hfn hc)))).trans e1⟩
  .by_cases hj:j=i
   .subst hj
    rw [hi] at e1;cases e1
    rw [List.getElem?_set_self hiσ] at e2
    cases e2
    exact ⟨u,r,.inr ⟨.inl hk,c,hc,hc'⟩⟩
   .rw [List.getElem?_set_ne (Ne.symm hj)] at e2
    obtain ⟨u',r',q⟩:=hl j y v' e1 e2 e3
    refine ⟨u',r',?_⟩
    rcases q with q | ⟨k,c',e,z'⟩
    .exact .inl q
    .refine .inr ⟨k,c',e,z'.sameBut hs ?_⟩
     rintro rfl
     exact hj (gP hN e1 (I.ok.inj _ _ _ e hc▸hi))
  .by_cases hcc:c'=c
   .subst hcc;exact ⟨_,hc'⟩
   .obtain ⟨w2,z2⟩:=I.cell y c' e
    exact ⟨w2,z2.sameBut hs hcc⟩
  .obtain ⟨e,n,ne,nf,d⟩:=I.pin p hp
   refine ⟨(hs.2 p.1 ?_).trans e,n,ne,nf,d⟩
   intro q
   rw [q,hoc] at e
   have q':oc=p.2:=Option.some.inj e
   exact d w' (by rw [<-q'];exact hocd)
theorem fx {M:Model}{A:Around}{E:Value->Shared->Prop}{i:Nat}{x:Str}{v:V}{u:Value}{Q:Unit->Shared->Prop}(I:Inv X pins σ H s)(hN:X.N.Nodup)(hi:X.N[i]?=some x)(hx:Loc X.env.scope x)(r:RelV v u)
  (h:∀s',Inv X pins (σ.set i (some v)) H s'->Q () s') (hf:X.fn x=true∨X.env.scope.names.lookup x=some .local:=by first | exact .inl rfl | exact .inr rfl | assumption):wpAny M A (storeName X.env x u) Q E s :=
 iw I hN hi hx r (fun s' I' _=>h s' I') hf
theorem Inv.call' {s':Shared}{ch:List Addr}(I:Inv X pins σ H s)(ho:s'.os=s.os)(u:Un (frs X.stack) ch H H' s.heap s'.heap)(hok:HOk X.prog X.w H' s'.heap)(hg:AllBare s'.gens)
  (hch:∀b∈ch,(b∈X.ex∨X.s₀.heap.objs.size<=b)/\b≠X.env.locals/\(∀x c,X.env.cells.lookup x=some c->c≠b)/\∀p∈X.pn++pins,p.1≠b):Inv X pins σ H' s':=by
 obtain ⟨h',g',d',t',o'⟩:=s'
 have e:o'=s.os:=ho
 subst e
 exact I.call (g':=g') (t':=t') (d':=d') u hok hg hch
end
abbrev XK:=Value->Option Addr->Hp->Prop
abbrev St:=List (Option V)
abbrev VK:=V->Hp->Prop
abbrev TE:=St->Hp->VK->Prop
abbrev TT:=St->Hp->(Bool->Hp->Prop)->Prop
abbrev TA:=St->Hp->(List V->Hp->Prop)->Prop
structure fv where
 nx:St->Hp->Prop
 rt:VK
 bk:St->Hp->Prop:=fun _ _=>False
 ct:St->Hp->Prop:=fun _ _=>False
abbrev TS:=fv->St->Hp->Prop
def EP (X:Cx)(pins:List (Addr×Obj))(σ:St)(Q:VK)(u:Value)(s':Shared):Prop:=∃ v H',Inv X pins σ H' s'/\RelV v u/\Q v H'
def TP (X:Cx)(pins:List (Addr×Obj))(σ:St)(Q:Bool->Hp->Prop)(b:Bool)(s':Shared):Prop:=∃ H',Inv X pins σ H' s'/\Q b H'
def AP (X:Cx)(pins:List (Addr×Obj))(σ:St)(Q:List V->Hp->Prop)(us:List Value)(s':Shared):Prop:=∃ vs H',Inv X pins σ H' s'/\Vals vs us/\Q vs H'
def SP (X:Cx)(pins:List (Addr×Obj))(D:fv)(f:Flow)(s':Shared):Prop :=
 match f with
 | .next=>∃ σ' H',Inv X pins σ' H' s'/\D.nx σ' H'
 | .brk=>∃ σ' H',Inv X pins σ' H' s'/\D.bk σ' H'
 | .cont=>∃ σ' H',Inv X pins σ' H' s'/\D.ct σ' H'
 | .ret u=>∃ v σ' H',Inv X pins σ' H' s'/\RelV v u/\D.rt v H'
def PE (X:Cx)(e:Expr)(t:TE):Prop :=
 ∀(pins:List (Addr×Obj)) (s:Shared) (σ:St) (H:Hp) (Q:VK),Inv X pins σ H s->t σ H Q->wpAny (model X.prog X.w) X.A (eval e X.env) (EP X pins σ Q) X.xe s
def PT (X:Cx)(e:Expr)(t:TT):Prop :=
 ∀(pins:List (Addr×Obj)) (s:Shared) (σ:St) (H:Hp) (Q:Bool->Hp->Prop),Inv X pins σ H s->t σ H Q->wpAny (model X.prog X.w) X.A (isTrue e X.env (eval e X.env)) (TP X pins σ Q) X.xe s
def PW (X:Cx)(e:Expr)(t:TT):Prop :=
 ∀(whole:Sem Value) (pins:List (Addr×Obj)) (s:Shared) (σ:St) (H:Hp) (Q:Bool->Hp->Prop),Inv X pins σ H s->t σ H Q->wpAny (model X.prog X.w) X.A (isTrue e X.env whole) (TP X pins σ Q) X.xe s
theorem PW.pt {X:Cx}{e:Expr}{t:TT}(h:PW X e t):PT X e t:=h _
def PA (X:Cx)(es:List Expr)(t:TA):Prop :=
 ∀(pos:Pos) (pins:List (Addr×Obj)) (s:Shared) (σ:St) (H:Hp) (Q:List V->Hp->Prop),Inv X pins σ H s->t σ H Q->wpAny (model X.prog X.w) X.A (spliced (backTo pos (starEach es X.env))) (AP X pins σ Q) X.xe s
def PS (X:Cx)(st:Stmt)(t:TS):Prop :=
 ∀(pins:List (Addr×Obj)) (s:Shared) (σ:St) (H:Hp) (D:fv),Inv X pins σ H s->t D σ H->wpAny (model X.prog X.w) X.A (exec st X.env) (SP X pins D) X.xe s
def PSs (X:Cx)(st:List Stmt)(t:TS):Prop :=
 ∀(pins:List (Addr×Obj)) (s:Shared) (σ:St) (H:Hp) (D:fv),Inv X pins σ H s->t D σ H->wpAny (model X.prog X.w) X.A (execs st X.env) (SP X pins D) X.xe s
theorem thn {α:Type}{t:Sem α}{Q Q':α->Shared->Prop}{M:Model}{A:Around}{E:Value->Shared->Prop}{s:Shared}(h:wpAny M A t Q E s)(hQ:∀a s,Q a s->Q' a s):wpAny M A t Q' E s:=wpAny_mono h hQ fun _ _ x=>x
end L2
namespace L2
open PySem PySem.Spec PyProof.Rows
section
variable {X:Cx}
def xV (i:Nat):TE:=fun σ H Q=>∃ v,σ[i]?=some (some v)/\Q v H
def tC (v:V):TE:=fun _ H Q=>Q v H
theorem w5 {i:Nat}{x:Str}{pos:Pos}(hN:X.N[i]?=some x)(hv:Vis X.env.scope x)(hd:(x == ("__debug__":Str))=false:=by decide)(hcd:(x == ("__classdict__":Str))=false:=by decide):PE X (.Name x pos) (xV i):=by
 intro pins s σ H Q I h
 obtain ⟨v,e,h⟩:=h
 obtain ⟨m,hn,hl⟩:=I.loc
 obtain ⟨u,r,l⟩:=hl i x v hN e hv
 have fin:EP X pins σ Q u s:=⟨v,H,I,r,h⟩
 rcases l with ⟨hk,hm⟩ | ⟨hk,c,hc,hcell⟩
 .exact wpAny_Name (wpAny_loadName_local I.ok.kind hk hn hm fin) hd
 .rcases hk with hk | hk
  .exact wpAny_Name (wpAny_loadName_cell I.ok.kind hk hc hcell fin) hd
  .exact wpAny_Name (wpAny_loadName_free I.ok.kind hk hc hcell fin hcd) hd
theorem pU {i j pos}:PE X (.Constant (.int i) j pos) (tC (.int i)):=fun _ _ _ H _ I h=>wpAny_Constant_int ⟨.int i,H,I.tok _,⟨_,rfl⟩,h⟩
theorem xP {b j pos}:PE X (.Constant (.bool b) j pos) (tC (.bl b)):=fun _ _ _ H _ I h=>Constant_bool ⟨.bl b,H,I,rfl,h⟩
theorem wf {j pos}:PE X (.Constant .none j pos) (tC .non):=fun _ _ _ H _ I h=>Constant_none ⟨.non,H,I,rfl,h⟩
theorem mB {x j pos}:PE X (.Constant (.str x) j pos) (tC (.str x)):=fun _ _ _ H _ I h=>Calls.Constant_str ⟨.str x,H,I.tok _,⟨_,rfl⟩,h⟩
def Gl (X:Cx)(x:Str):Prop:=X.env.kindOf x=some .globalImplicit
theorem dw {E:Value->Shared->Prop}{pins:List (Addr×Obj)}{s:Shared}{σ:St}{H:Hp}{x:Str}{u:Value}{pos:Pos}{Q:Value->Shared->Prop}(I:Inv X pins σ H s)(hg:Gl X x)(hm:X.mg x=some u)(h:Q u s)
  (hd:(x == ("__debug__":Str))=false:=by decide):wpAny (model X.prog X.w) X.A (eval (.Name x pos) X.env) Q E s :=
 Calls.Name_function_global I.ok.kind hg (Calls.loadGlobal_global (by rw [I.ok.glob];exact I.mod.glob.keeps I.bk) hm h) hd
theorem gK {E:Value->Shared->Prop}{pins:List (Addr×Obj)}{s:Shared}{σ:St}{H:Hp}{x:Str}{u:Value}{pos:Pos}{Q:Value->Shared->Prop}(I:Inv X pins σ H s)(hg:Gl X x)(hm:X.mg x=none)(hv:bootBuiltins x=some u)(h:Q u s)
  (hn:x≠"__name__":=by decide) (hd:(x == ("__debug__":Str))=false:=by decide):wpAny (model X.prog X.w) X.A (eval (.Name x pos) X.env) Q E s:=by
 obtain ⟨mb,h1,h2⟩:=I.mod.blt
 exact Calls.Name_function_global I.ok.kind hg (Calls.loadGlobal_builtin (by rw [I.ok.glob];exact I.mod.glob.keeps I.bk) hm (by rw [I.ok.blt];exact h1.keeps I.bk) ((h2 x hn).trans hv) h) hd
theorem uo {x:Str}{v:V}{u:Value}{pos:Pos}(hg:Gl X x)(hm:X.mg x=some u)(r:RelV v u)(hd:(x == ("__debug__":Str))=false:=by decide):PE X (.Name x pos) (tC v) :=
 fun _ _ _ H _ I h=>dw I hg hm ⟨v,H,I,r,h⟩ hd
theorem uX {x:Str}{v:V}{u:Value}{pos:Pos}(hg:Gl X x)(hm:X.mg x=none)(hv:bootBuiltins x=some u)(r:RelV v u)(hn:x≠"__name__":=by decide)(hd:(x == ("__debug__":Str))=false:=by decide):PE X (.Name x pos) (tC v) :=
 fun _ _ _ H _ I h=>gK I hg hm hv ⟨v,H,I,r,h⟩ hn hd
variable {a b:Expr}{ta tb:TE}{pos:Pos}
def PC (X:Cx)(op:CmpOp)(a b:Expr)(t:TE):Prop :=
 ∀(pins:List (Addr×Obj)) (s:Shared) (σ:St) (H:Hp) (Q:VK),Inv X pins σ H s->t σ H Q ->
  wpAny (model X.prog X.w) X.A (eval a X.env) (fun v s₁=>wpAny (model X.prog X.w) X.A (eval b X.env) (fun u s₂=>wpAny (model X.prog X.w) X.A (compareOp op v u) (EP X pins σ Q) X.xe s₂) X.xe s₁) X.xe s
def tB (t:TE):TT:=fun σ H Q=>t σ H fun x H1=>∃ c,x=.bl c/\Q c H1
theorem wB {op:CmpOp}{t:TE}(h:PC X op a b t)(h1:behindInMarks op b=false:=by first | exact nobehind _ (by decide) (by decide) | rfl):PE X (.Compare a [op] [b] pos) t:=fun pins s σ H Q I hw=>wpAny_Compare1 (h pins s σ H Q I hw) h1
theorem qM {op:CmpOp}{t:TE}(h:PC X op a b t)(h1:behindInMarks op b=false:=by first | exact nobehind _ (by decide) (by decide) | rfl):PT X (.Compare a [op] [b] pos) (tB t):=by
 intro pins s σ H Q I hw
 refine wpAny_isTrue_Compare1 (thn (h pins s σ H _ I hw) fun v s1 h1=>thn h1 fun u s2 h2=>thn h2 fun c s3 ⟨x,H1,I1,r1,q1⟩=>?_) h1
 obtain ⟨d,rfl,q⟩:=q1
 cases r1
 exact wpAny_truthy_bool ⟨H1,I1,q⟩
theorem xg {e:Expr}{t:TE}(h:PE X e t)(he:∀whole,isTrue e X.env whole=(do let v <-whole;standAt e.pos;holding [v] (truthy v)):=by intro _;rfl):PT X e (tB t):=by
 intro pins s σ H Q I hw
 refine isTrue_plain (thn (h pins s σ H _ I hw) fun v s1 ⟨x,H1,I1,r1,q1⟩=>?_) (he _)
 obtain ⟨d,rfl,q⟩:=q1
 cases r1
 exact wpAny_truthy_bool ⟨H1,I1,q⟩
variable {tA tB':TT}{rest:List Expr}
def xq (t u:TT):TT:=fun σ H Q=>t σ H fun c H1=>if c=true then u σ H1 Q else Q false H1
def tOr (t u:TT):TT:=fun σ H Q=>t σ H fun c H1=>if c=true then Q true H1 else u σ H1 Q
def xy (t:TT):TT:=fun σ H Q=>t σ H fun c H1=>Q (!c) H1
theorem pw_and1 (ha:PT X a tA):PW X (.BoolOp .And [a] pos) tA:=by
 intro wh pins s σ H Q I h
 refine isTrue_and (thn (ha pins s σ H Q I h) fun c s1 e=>?_)
 cases c with
 | true=>exact isTrue_and_nil e
 | false=>exact e
theorem pw_or1 (ha:PT X a tA):PW X (.BoolOp .Or [a] pos) tA:=by
 intro wh pins s σ H Q I h
 refine isTrue_or (thn (ha pins s σ H Q I h) fun c s1 e=>?_)
 cases c with
 | false=>exact isTrue_or_nil e
 | true=>exact e
theorem pw_and (ha:PT X a tA)(hb:PW X (.BoolOp .And (b::rest) pos) tB'):PW X (.BoolOp .And (a::b::rest) pos) (xq tA tB'):=by
 intro wh pins s σ H Q I h
 refine isTrue_and (thn (ha pins s σ H _ I h) fun c s1 ⟨H1,I1,q1⟩=>?_)
 cases c with
 | true=>exact hb wh pins s1 σ H1 Q I1 q1
 | false=>exact ⟨H1,I1,q1⟩
theorem pw_or (ha:PT X a tA)(hb:PW X (.BoolOp .Or (b::rest) pos) tB'):PW X (.BoolOp .Or (a::b::rest) pos) (tOr tA tB'):=by
 intro wh pins s σ H Q I h
 refine isTrue_or (thn (ha pins s σ H _ I h) fun c s1 ⟨H1,I1,q1⟩=>?_)
 cases c with
 | true=>exact ⟨H1,I1,q1⟩
 | false=>exact hb wh pins s1 σ H1 Q I1 q1
theorem xj (ha:PT X a tA):PT X (.UnaryOp .Not a pos) (xy tA):=by
 intro pins s σ H Q I h
 exact isTrue_not (ha pins s σ H (fun c H1=>Q (!c) H1) I h)
def vM (ta tb:TE):TE:=fun σ H Q=>ta σ H fun x H1=>∃ c,x=.bl c/\if c=true then tb σ H1 Q else Q (.bl false) H1
theorem v6 {op}{t:TE}(h:PE X a t):PE X (.BoolOp op [a] pos) t:=fun pins s σ H Q I hw=>BoolOp_one (h pins s σ H Q I hw)
theorem wJ (ha:PE X a ta)(hb:PE X (.BoolOp .And (b::rest) pos) tb):PE X (.BoolOp .And (a::b::rest) pos) (vM ta tb):=by
 intro pins s σ H Q I h
 refine BoolOp_and (thn (ha pins s σ H _ I h) fun v s1 ⟨x,H1,I1,r1,q1⟩=>?_)
 obtain ⟨c,rfl,q1⟩:=q1
 cases r1
 refine wpAny_truthy_bool ?_
 cases c with
 | true=>exact hb pins s1 σ H1 Q I1 q1
 | false=>exact ⟨.bl false,H1,I1,rfl,q1⟩
end
end L2
namespace L2
open PySem PySem.Spec PyProof.Rows
def SqL (K:PySem.W.Frag)(H:Hp)(a:Addr)(xs:List V):Prop :=
 Rd H a (.lst xs) ∨
  ∃ (o:Obj) (its:Array Value) (n:Nat),K.lookup a=some o/\o.cls=.type "list"/\o.dict=none/\o.data=.seq its n/\its.size<=sizeLine/\Vals xs its.toList
def SqT (K:PySem.W.Frag)(H:Hp)(a:Addr)(xs:List V):Prop :=
 Rd H a (.tup xs) ∨
  ∃ (o:Obj) (its:Array Value) (n:Nat),K.lookup a=some o/\o.cls=.type "tuple"/\o.data=.seq its n/\its.size<=sizeLine/\Vals xs its.toList
def yy:Value->Option V
 | .none=>some .non
 | .bool b=>some (.bl b)
 | .int i _=>some (.int i)
 | .str x _=>some (.str x)
 | .bytes b _=>some (.byt b)
 | .float b _=>some (.flt b)
 | .ref a=>some (.ref a)
 | .type n=>some (.ty n)
 | _=>none
theorem RelV.abs {x:V}{u:Value}(r:RelV x u):yy u=some x:=by
 cases x with
 | non=>cases r;rfl
 | bl _=>cases r;rfl
 | int _=>obtain ⟨t,rfl⟩:=r;rfl
 | str _=>obtain ⟨t,rfl⟩:=r;rfl
 | byt _=>obtain ⟨t,rfl⟩:=r;rfl
 | flt _=>obtain ⟨t,rfl⟩:=r;rfl
 | ref _=>cases r;rfl
 | ty _=>cases r;rfl
theorem RelV.inj {x y:V}{u:Value}(r:RelV x u)(q:RelV y u):x=y:=Option.some.inj (r.abs.symm.trans q.abs)
theorem Vals.inj:∀{xs ys:List V} {us:List Value},Vals xs us->Vals ys us->xs=ys
 | _,_,_,.nil,.nil=>rfl
 | _,_,_,.cons r t,.cons r' t'=>by rw [r.inj r',Vals.inj t t']
section
variable {X:Cx}{pins:List (Addr×Obj)}{σ:St}{H:Hp}{s:Shared}{a:Addr}{xs ys:List V}
theorem SqL.of {K:PySem.W.Frag}(h:H a=some (.lst xs)):SqL K H a xs:=.inl (.inl h)
theorem SqT.of {K:PySem.W.Frag}(h:H a=some (.tup xs)):SqT K H a xs:=.inl (.inl h)
theorem Inv.list (I:Inv X pins σ H s)(h:SqL X.K H a xs):∃ its:List Value,Vals xs its/\PlainL s.heap a its.toArray/\xs.length<=sizeLine:=by
 rcases h with h | ⟨o,its,n,hk,hc,hd,hs,hz,r⟩
 .obtain ⟨z,its,n,r,e⟩:=h.ok I.hok
  exact ⟨its,r,⟨_,n,e,rfl,rfl,rfl⟩,z⟩
 .refine ⟨its.toList,r,⟨o,n,I.kIn a o hk,hc,hd,by simpa using hs⟩,?_⟩
  have e:=r.length
  simp only [Array.length_toList] at e
  lia
theorem Inv.tuple (I:Inv X pins σ H s)(h:SqT X.K H a xs):∃ its:List Value,Vals xs its/\IsTup s.heap a its.toArray/\xs.length<=sizeLine:=by
 rcases h with h | ⟨o,its,n,hk,hc,hs,hz,r⟩
 .obtain ⟨z,its,r,p⟩:=h.ok I.hok
  exact ⟨its,r,p,z⟩
 .refine ⟨its.toList,r,⟨o,I.kIn a o hk,hc,n,by simpa using hs⟩,?_⟩
  have e:=r.length
  simp only [Array.length_toList] at e
  lia
theorem Inv.list_inj (I:Inv X pins σ H s)(h:SqL X.K H a xs)(h':SqL X.K H a ys):xs=ys:=by
 obtain ⟨its,r,⟨o,n,e,_,_,d⟩,_⟩:=I.list h
 obtain ⟨its',r',⟨o',n',e',_,_,d'⟩,_⟩:=I.list h'
 rw [e] at e';cases e'
 rw [d] at d'
 injection d' with d1 _
 have:its=its':=by simpa using congrArg Array.toList d1
 subst this
 exact r.inj r'
theorem Inv.tuple_inj (I:Inv X pins σ H s)(h:SqT X.K H a xs)(h':SqT X.K H a ys):xs=ys:=by
 obtain ⟨its,r,⟨o,e,_,n,d⟩,_⟩:=I.tuple h
 obtain ⟨its',r',⟨o',e',_,n',d'⟩,_⟩:=I.tuple h'
 rw [e] at e';cases e'
 rw [d] at d'
 injection d' with d1 _
 have:its=its':=by simpa using congrArg Array.toList d1
 subst this
 exact r.inj r'
end
abbrev Cx.wish (X:Cx)(E:Value->Shared->Prop):Cx:={ X with xe:=E }
abbrev Cx.nox (X:Cx):Cx:=X.wish fun _ _=>False
theorem Cx.Ok.wish {X:Cx}(ok:X.Ok)(E:Value->Shared->Prop):(X.wish E).Ok :=
 ⟨ok.mod,ok.kind,ok.glob,ok.blt,ok.above,ok.inj,ok.has,ok.cab,ok.hd,ok.frames,ok.stk,ok.exf,ok.bs,ok.bsz,ok.noex,ok.exfs,ok.funs,ok.frf⟩
theorem Cx.Ok.unwish {X:Cx}{E:Value->Shared->Prop}(ok:(X.wish E).Ok):X.Ok :=
 ⟨ok.mod,ok.kind,ok.glob,ok.blt,ok.above,ok.inj,ok.has,ok.cab,ok.hd,ok.frames,ok.stk,ok.exf,ok.bs,ok.bsz,ok.noex,ok.exfs,ok.funs,ok.frf⟩
section
variable {X:Cx}{pins:List (Addr×Obj)}{σ:St}{H:Hp}{s:Shared}{E:Value->Shared->Prop}
theorem Inv.wish (I:Inv X pins σ H s)(E:Value->Shared->Prop):Inv (X.wish E) pins σ H s:=⟨I.ok.wish E,I.os,I.bare,I.base,I.loc,I.cell,I.free,I.freeC,I.pin,I.hok,I.len⟩
theorem Inv.unwish (I:Inv (X.wish E) pins σ H s):Inv X pins σ H s:=⟨I.ok.unwish,I.os,I.bare,I.base,I.loc,I.cell,I.free,I.freeC,I.pin,I.hok,I.len⟩
theorem SP.unwish {D:fv}{f:Flow}{s':Shared}(h:SP (X.wish E) pins D f s'):SP X pins D f s':=by
 cases f with
 | next=>obtain ⟨σ',H',I,q⟩:=h;exact ⟨σ',H',I.unwish,q⟩
 | brk=>obtain ⟨σ',H',I,q⟩:=h;exact ⟨σ',H',I.unwish,q⟩
 | cont=>obtain ⟨σ',H',I,q⟩:=h;exact ⟨σ',H',I.unwish,q⟩
 | ret u=>obtain ⟨v,σ',H',I,r,q⟩:=h;exact ⟨v,σ',H',I.unwish,r,q⟩
theorem PSs.nox {st:List Stmt}{t:TS}(h:PSs X.nox st t):PSs X st t:=fun pins s σ H D I hw =>
 wpAny_mono (h pins s σ H D (I.wish _) hw) (fun _ _ q=>q.unwish) fun _ _ z=>False.elim z
end
section
variable {X:Cx}{st:Stmt}{rest:List Stmt}{t u:TS}{e:Expr}{te:TE}{pos:Pos}
def vI:TS:=fun D σ H=>D.nx σ H
def x9 (t u:TS):TS:=fun D σ H=>t { D with nx:=u D } σ H
theorem uB:PSs X [] vI:=fun _ _ σ H _ I h=>wpAny_execs_nil ⟨σ,H,I,h⟩
theorem p7 (h1:PS X st t)(h2:PSs X rest u):PSs X (st::rest) (x9 t u):=by
 intro pins s σ H D I h
 refine wpAny_execs_cons (thn (h1 pins s σ H { D with nx:=u D } I h) fun f s1 q=>?_)
 cases f with
 | next =>
  obtain ⟨σ',H',I',q⟩:=q
  exact h2 pins s1 σ' H' D I' q
 | ret v=>exact q
 | brk=>exact q
 | cont=>exact q
theorem sQ (h1:PS X st t):PSs X [st] t:=by
 intro pins s σ H D I h
 refine wpAny_execs_cons (thn (h1 pins s σ H D I h) fun f s1 q=>?_)
 cases f with
 | next=>exact wpAny_execs_nil q
 | ret v=>exact q
 | brk=>exact q
 | cont=>exact q
theorem Inv.quiet {pins:List (Addr×Obj)}{σ:St}{H:Hp}{s:Shared}(I:Inv X pins σ H s):interactive X.env=false:=by simp [interactive,I.ok.kind]
def vP (te:TE):TS:=fun D σ H=>te σ H fun _ H1=>D.nx σ H1
theorem sO (he:PE X e te)(hs:swapsWith e none pos.line X.env=pure false:=by rfl):PS X (.Expr e pos) (vP te):=by
 intro pins s σ H D I h
 exact wpAny_Expr_any (thn (he pins s σ H _ I h) fun v s1 ⟨x,H1,I1,r1,q1⟩=>⟨σ,H1,I1,q1⟩) I.quiet hs
def xL (te:TE):TS:=fun D σ H=>te σ H D.rt
theorem wo (he:PE X e te):PS X (.Return (some e) pos) (xL te):=by
 intro pins s σ H D I h
 exact wpAny_Return_some (thn (he pins s σ H _ I h) fun v s1 ⟨x,H1,I1,r1,q1⟩=>⟨x,σ,H1,I1,r1,q1⟩)
def xR (c:TT)(t u:TS):TS:=fun D σ H=>c σ H fun b H1=>if b=true then t D σ H1 else u D σ H1
theorem vV {c:Expr}{a b:List Stmt}{tc:TT}(hc:PT X c tc)(ha:PSs X a t)(hb:PSs X b u):PS X (.If c a b pos) (xR tc t u):=by
 intro pins s σ H D I h
 refine wpAny_If (thn (hc pins s σ H _ I h) fun d s1 ⟨H1,I1,q1⟩=>?_)
 cases d with
 | true=>exact ha pins s1 σ H1 D I1 q1
 | false=>exact hb pins s1 σ H1 D I1 q1
end
abbrev TG:=V->St->Hp->(St->Hp->Prop)->Prop
abbrev TGs:=List V->St->Hp->(St->Hp->Prop)->Prop
def PG (X:Cx)(target:Expr)(t:TG):Prop :=
 ∀(pins:List (Addr×Obj)) (s:Shared) (σ:St) (H:Hp) (v:V) (u:Value) (Q:St->Hp->Prop),Inv X pins σ H s->RelV v u->t v σ H Q ->
  wpAny (model X.prog X.w) X.A (assign target X.env u) (fun _ s'=>∃ σ' H',Inv X pins σ' H' s'/\Q σ' H') X.xe s
def PGs (X:Cx)(ts:List Expr)(t:TGs):Prop :=
 ∀(pins:List (Addr×Obj)) (s:Shared) (σ:St) (H:Hp) (vs:List V) (us:List Value) (Q:St->Hp->Prop),Inv X pins σ H s->Vals vs us->t vs σ H Q ->
  wpAny (model X.prog X.w) X.A (assignInOrder ((assignEach ts X.env).map (·.2)) us) (fun _ s'=>∃ σ' H',Inv X pins σ' H' s'/\Q σ' H') X.xe s
abbrev uT:=V->V->V->Hp->(Hp->Prop)->Prop
def wY (X:Cx)(t:uT):Prop :=
 ∀(pins:List (Addr×Obj)) (s:Shared) (σ:St) (H:Hp) (o i v:V) (ov iv u:Value) (Q:Hp->Prop),Inv X pins σ H s->RelV o ov->RelV i iv->RelV v u->t o i v H Q ->
  wpAny (model X.prog X.w) X.A (setItem ov iv u) (fun _ s'=>∃ H',Inv X pins σ H' s'/\Q H') X.xe s
section
variable {X:Cx}{pos:Pos}
def gR (i:Nat):TG:=fun v σ H Q=>Q (σ.set i (some v)) H
theorem oj {i:Nat}{x:Str}(hN:X.N.Nodup)(hi:X.N[i]?=some x)(hx:Loc X.env.scope x)(hf:X.fn x=true∨X.env.scope.names.lookup x=some .local:=by first | exact .inl rfl | exact .inr rfl | assumption):PG X (.Name x pos) (gR i):=by
 intro pins s σ H v u Q I r h
 exact wpAny_assign_Name (fx I hN hi hx r (fun s' I'=>⟨_,H,I',h⟩) hf)
def x5:TGs:=fun vs σ H Q=>vs=[]/\Q σ H
def vk (t:TG)(u:TGs):TGs:=fun vs σ H Q=>∃ v r,vs=v::r/\t v σ H fun σ' H'=>u r σ' H' Q
theorem tR:PGs X [] x5:=by
 intro pins s σ H vs us Q I r h
 obtain ⟨e,h⟩:=h
 subst e
 cases r
 exact assignInOrder_nil ⟨σ,H,I,h⟩
theorem pX {e:Expr}{es:List Expr}{t:TG}{u:TGs}(h1:PG X e t)(h2:PGs X es u)
  (hs:(assignEach (e::es) X.env).map (·.2)=assign e X.env::(assignEach es X.env).map (·.2):=by rfl):PGs X (e::es) (vk t u):=by
 intro pins s σ H vs us Q I r h
 obtain ⟨v,vr,e1,h⟩:=h
 subst e1
 cases r with
 | cons r rr =>
  rw [hs]
  refine assignInOrder_cons (thn (h1 pins s σ H _ _ _ I r h) fun _ s1 ⟨σ1,H1,I1,q1⟩=>?_)
  exact h2 pins s1 σ1 H1 _ _ Q I1 rr q1
def xX (K:PySem.W.Frag)(n:Nat)(t:TGs):TG:=fun v σ H Q=>∃ a xs,v=.ref a/\SqT K H a xs/\xs.length=n/\t xs σ H Q
theorem v7 {es:List Expr}{k:Nat}{t:TGs}{n:Nat}(hc:X.calm=true)(h:PGs X es t)
  (hn:(assignEach es X.env).length=n:=by rfl) (hst:(assignEach es X.env).findIdx? (·.1)=none:=by rfl):PG X (.Tuple es k pos) (xX X.K n t):=by
 intro pins s σ H v u Q I r hw
 obtain ⟨a,xs,e1,hq,hl,hw⟩:=hw
 subst e1
 cases r
 obtain ⟨its,rv,ht,hz⟩:=I.tuple hq
 refine assign_Tuple_tuple (I.ok.hd hc) ht (by simp [hn,<-hl,rv.length]) hst fun h' hx=>?_
 have I1:Inv X pins σ H { s with heap:=h' }:=I.kept (t':=s.toks) fun b o e=>hx b o (Nat.ne_of_lt (Heap.lt_size e)) e
 exact h pins _ σ H xs _ Q I1 (by simpa using rv) hw
def yc (to ti:TE)(t:uT):TG:=fun v σ H Q=>to σ H fun o H1=>ti σ H1 fun i H2=>t o i v H2 fun H3=>Q σ H3
theorem wD {o i:Expr}{to ti:TE}{t:uT}(ho:PE X o to)(hi:PE X i ti)(hs:wY X t)
  (ha:∀v,assign (.Subscript o i pos) X.env v=(do
   let ov <-holding [v] (eval o X.env)
   let iv <-holding [v,ov] (eval i X.env)
   standAt pos
   holding [v,ov,iv] (setItem ov iv v)
   release [v,ov,iv] []):=by intro _;rfl):PG X (.Subscript o i pos) (yc to ti t):=by
 intro pins s σ H v u Q I r h
 rw [ha]
 refine wpAny_bind (wpAny_holding (thn (ho pins s σ H _ I h) fun ov s1 ⟨x,H1,I1,r1,q1⟩=>?_))
 refine wpAny_bind (wpAny_holding (thn (hi pins s1 σ H1 _ I1 q1) fun iv s2 ⟨y,H2,I2,r2,q2⟩=>?_))
 refine wpAny_bind (wpAny_standAt (wpAny_bind (wpAny_holding (thn (hs pins s2 σ H2 x y v ov iv u _ I2 r1 r2 r q2) fun _ s3 ⟨H3,I3,q3⟩=>?_))))
 exact wpAny_release ⟨σ,H3,I3,q3⟩
def pE (te:TE)(g:TG):TS:=fun D σ H=>te σ H fun x H1=>g x σ H1 D.nx
theorem wz {tg e:Expr}{te:TE}{g:TG}(he:PE X e te)(hg:PG X tg g)(hs:swapsWithSole [tg] e pos.line X.env=pure false:=by rfl)(hw:swappedStores [tg] e X.env=pure none:=by rfl)
  (h1:(assignEach [tg] X.env).map (·.2)=[assign tg X.env]:=by rfl):PS X (.Assign [tg] e pos) (pE te g):=by
 intro pins s σ H D I h
 refine wpAny_Assign_stores (thn (he pins s σ H _ I h) fun v s1 ⟨x,H1,I1,r1,q1⟩=>?_) hs hw
 rw [h1]
 exact thn (hg pins s1 σ H1 x v _ I1 r1 q1) fun _ s2 q=>q
theorem wu {i:Nat}{x:Str}{e:Expr}{te:TE}{pos':Pos}(hN:X.N.Nodup)(hi:X.N[i]?=some x)(hx:Loc X.env.scope x)(he:PE X e te)(hs:swapsWith e (some (.Name x pos')) pos.line X.env=pure false:=by rfl)(hf:X.fn x=true∨X.env.scope.names.lookup x=some .local:=by first | exact .inl rfl | exact .inr rfl | assumption) :
  PS X (.Assign [.Name x pos'] e pos) (pE te (gR i)):=by
 intro pins s σ H D I h
 refine wpAny_Assign_Name (thn (he pins s σ H _ I h) fun v s1 ⟨y,H1,I1,r1,q1⟩=>?_) hs
 exact fx I1 hN hi hx r1 (fun s2 I2=>⟨_,H1,I2,q1⟩) hf
end
section
variable {X:Cx}{pos:Pos}
def qw (c:TT)(tb:TS):TS:=fun D σ H=>∃ W:Nat->St->Hp->Prop,(∃ m,W m σ H)/\∀m σ H,W m σ H ->
 c σ H fun b H1=>if b=true then ∃ N:St->Hp->Prop,(∀σ' H',N σ' H'->∃ m',m'<m/\W m' σ' H')/\tb { D with nx:=N,ct:=N,bk:=D.nx } σ H1 else D.nx σ H1
theorem qm {c:Expr}{body:List Stmt}{tc:TT}{tb:TS}(hp:PassesOwn (model X.prog X.w) X.A X.env X.xe)(hc:PT X c tc)(hb:PSs X body tb):PS X (.While c body [] pos) (qw tc tb):=by
 intro pins s σ H D I h
 obtain ⟨W,⟨m0,w0⟩,turn⟩:=h
 refine wpAny_While (codeAny_whileLoop (fun n s'=>∃ σ' H',Inv X pins σ' H' s'/\W n σ' H') ?_ m0 ⟨σ,H,I,w0⟩)
 rintro n s1 ⟨σ1,H1,I1,w1⟩
 refine wpAny_passesOwn hp (thn (hc pins s1 σ1 H1 _ I1 (turn n σ1 H1 w1)) fun b s2 ⟨H2,I2,q2⟩=>?_)
 cases b with
 | true =>
  obtain ⟨N,hN,q2⟩:=q2
  rw [if_pos rfl]
  refine wpAny_passesOwn hp (thn (hb pins s2 σ1 H2 _ I2 q2) fun f s3 q3=>?_)
  cases f with
  | next =>
   obtain ⟨σ3,H3,I3,n3⟩:=q3
   obtain ⟨m',hm,w3⟩:=hN σ3 H3 n3
   exact ⟨m',hm,σ3,H3,I3,w3⟩
  | cont =>
   obtain ⟨σ3,H3,I3,n3⟩:=q3
   obtain ⟨m',hm,w3⟩:=hN σ3 H3 n3
   exact ⟨m',hm,σ3,H3,I3,w3⟩
  | brk=>exact q3
  | ret v=>exact q3
 | false =>
  rw [if_neg Bool.false_ne_true]
  exact wpAny_execs_nil ⟨σ1,H2,I2,q2⟩
end
structure It where
 go:Nat->Hp->Prop
 yld:Nat->Hp->V->Hp->Prop
 stop:Nat->Hp->Prop
def ke (X:Cx)(pins:List (Addr×Obj))(H:Hp)(b:Addr):Prop :=
 H b=none/\b≠X.env.locals/\b∉X.fs/\(b∈X.ex∨X.s₀.heap.objs.size<=b)/\(∀x c,X.env.cells.lookup x=some c->c≠b)/\∀p∈X.pn++pins,p.1≠b
theorem Inv.fpOk {X:Cx}{pins:List (Addr×Obj)}{σ:St}{H H':Hp}{s:Shared}{b:Addr}(I:Inv X pins σ H s)(hb:s.heap.objs.size<=b)(hn:H' b=none):ke X pins H' b:=by
 refine ⟨hn,Nat.ne_of_gt (Nat.lt_of_lt_of_le I.lt hb),I.nofs hb,.inr (Nat.le_trans I.sz hb),fun x c e z=>?_,fun p hp z=>?_⟩
 .obtain ⟨v,q⟩:=I.cell x c e
  exact absurd (Nat.lt_of_lt_of_le q.lt (by rw [z];exact hb)) (Nat.lt_irrefl _)
 .exact absurd (Nat.lt_of_lt_of_le (Heap.lt_size (I.pin p hp).1) (by rw [z];exact hb)) (Nat.lt_irrefl _)
structure oU (P:Program)(w:World)(K:PySem.W.Frag)(tg:Expr)(J:It)(fp:List Addr)(it:Addr)(tn:Nat->Heap->Prop):Prop where
 mem:it∈fp
 obj:∀i h,tn i h->∀b∈fp,∃ o,h.get? b=some o/\∀v,o.data≠.cell v
 keep:∀i h h',tn i h->(∀b∈fp,∀o,h.get? b=some o->h'.get? b=some o)->tn i h'
 item:∀(X:Cx),X.prog=P->X.w=w->X.K=K->X.calm=true->∀(i:Nat) (pins:List (Addr×Obj)) (s:Shared) (σ:St) (H:Hp) (E:Value->Shared->Prop),Inv X pins σ H s->(∀b∈fp,ke X pins H b)->tn i s.heap->J.go i H ->
  wpAny (model P w) X.A (pyNext (.ref it)) (fun r s1=>∃ u,r=some u /\
   wpAny (model P w) X.A (letOwnedTupleGo tg (.ref it) u) (fun _ s2=>∃ x H',Inv X pins σ H' s2/\RelV x u/\J.yld i H x H'/\tn (i+1) s2.heap/\∀b∈fp,H' b=none) E s1) E s
 done:∀(X:Cx),X.prog=P->X.w=w->X.K=K->X.calm=true->∀(i:Nat) (pins:List (Addr×Obj)) (s:Shared) (σ:St) (H:Hp) (E:Value->Shared->Prop),Inv X pins σ H s->(∀b∈fp,ke X pins H b)->tn i s.heap->J.stop i H ->
  wpAny (model P w) X.A (pyNext (.ref it)) (fun r s1=>r=none/\Inv X pins σ H s1) E s
 self:∀(A:Around) (i:Nat) (s:Shared) (Q:Value->Shared->Prop) (E:Value->Shared->Prop),tn i s.heap->Q (.ref it) s->wpAny (model P w) A (pyIter (.ref it)) Q E s
abbrev TI:=St->Hp->(It->Hp->Prop)->Prop
def PIE (X:Cx)(pins:List (Addr×Obj))(σ:St)(tg:Expr)(R:It->Hp->Prop)(itv:Value)(s2:Shared):Prop :=
 ∃ (it:Addr) (fp:List Addr) (tn:Nat->Heap->Prop) (J:It) (H':Hp),itv=.ref it/\Inv X pins σ H' s2/\oU X.prog X.w X.K tg J fp it tn/\tn 0 s2.heap/\(∀b∈fp,ke X pins H' b)/\R J H'
def PI (X:Cx)(tg iter:Expr)(wi:TI):Prop :=
 ∀(pins:List (Addr×Obj)) (s:Shared) (σ:St) (H:Hp) (R:It->Hp->Prop),Inv X pins σ H s->wi σ H R ->
  wpAny (model X.prog X.w) X.A (eval iter X.env) (fun v s1=>wpAny (model X.prog X.w) X.A (pyIter v) (PIE X pins σ tg R) X.xe s1) X.xe s
theorem jH {M:Model}{A:Around}{E:Value->Shared->Prop}{s:Shared}{tg:Expr}{it:Addr}{u:Value}{o:Obj}{n:String}{vs:Array Value}{Q:Unit->Shared->Prop}(ho:s.heap.get? it=some o)(hc:o.cls=.type n)(hd:o.data=.fields vs)
    (hn:["enumerate","zip","dict_itemiterator","dict_reverseitemiterator","odict_iterator","itertools.zip_longest","itertools.pairwise"].contains n=false) (hQ:Q () s):wpAny M A (letOwnedTupleGo tg (.ref it) u) Q E s:=by
  unfold letOwnedTupleGo
  cases tg <;> first
    | exact wpAny_pure hQ
    | (cases u <;> first
        | exact wpAny_pure hQ
        | (refine wpAny_bind (wpAny_load ho ?_)
           rw [hc,hd]
           show wpAny M A (if (["enumerate","zip","dict_itemiterator","dict_reverseitemiterator","odict_iterator","itertools.zip_longest","itertools.pairwise"].contains n&&vs[0]? == some (rawInt _))=true then _ else _) Q E s
           rw [if_neg (by intro h;rw [hn,Bool.false_and] at h;cases h)]
           exact wpAny_pure hQ))
def Itl (K:PySem.W.Frag)(a:Addr):It :=
 ⟨fun i H=>∃ xs x,SqL K H a xs/\xs[i]?=some x,fun i H x H'=>H'=H/\∀xs,SqL K H a xs->xs[i]?=some x,fun i H=>∃ xs,SqL K H a xs/\xs.length<=i⟩
def Itt (K:PySem.W.Frag)(a:Addr):It :=
 ⟨fun i H=>∃ xs x,SqT K H a xs/\xs[i]?=some x,fun i H x H'=>H'=H/\∀xs,SqT K H a xs->xs[i]?=some x,fun i H=>∃ xs,SqT K H a xs/\xs.length<=i⟩
def Itr (lo:Int)(n:Nat):It:=⟨fun i _=>i<n,fun i H x H'=>H'=H/\x=.int (lo+i),fun i _=>n<=i⟩
theorem oF {P:Program}{w:World}{K:PySem.W.Frag}{tg:Expr}(a it:Addr):oU P w K tg (Itl K a) [it] it (fun i h=>h.IsListIter it a i) where
 mem:=by simp
 obj:=fun i h st b hb=>by
  have e:b=it:=by simpa using hb
  subst e
  obtain ⟨o,e,c,d⟩:=st
  exact ⟨o,e,fun v z=>by rw [d] at z;cases z⟩
 keep:=fun i h h' st k=>st.at fun o e=>k it (by simp) o e
 item:=by
  intro X hP hw hK hc i pins s σ H E I hf st hg
  subst hP hw hK
  obtain ⟨xs,x,hq,hx⟩:=hg
  obtain ⟨its,rv,p,hz⟩:=I.list hq
  obtain ⟨u,hu,ru⟩:=rv.get hx
  obtain ⟨f0,f1,f2,f3,f4,f5⟩:=hf it (by simp)
  refine wpAny_pyNext_list_item st p.isList (x:=u) (by simpa using hu) fun h' st' sb=>?_
  have I1:Inv X pins σ H { s with heap:=h' }:=I.turned (t':=s.toks) (fun b o hb e=>(sb.2 b hb).trans e) f0 f1 f3 f4 f5
  obtain ⟨o,e,c,d⟩:=id st'
  exact ⟨u,rfl,jH (s:={ s with heap:=h' }) e c d (by decide) ⟨x,H,I1,ru,⟨rfl,fun ys hy=>by rw [I.list_inj hy hq];exact hx⟩,st',fun b hb=>(hf b hb).1⟩⟩
 done:=by
  intro X hP hw hK hc i pins s σ H E I hf st hg
  subst hP hw hK
  obtain ⟨xs,hq,hx⟩:=hg
  obtain ⟨its,rv,p,hz⟩:=I.list hq
  obtain ⟨f0,f1,f2,f3,f4,f5⟩:=hf it (by simp)
  have hl:=rv.length
  exact wpAny_pyNext_list_end (I.ok.hd hc) st p.isList (by simp;lia) fun h' eb=>⟨rfl,I.turned (t':=s.toks) (fun b o hb e=>eb b o hb e) f0 f1 f3 f4 f5⟩
 self:=fun _ _ _ _ _ st h=>wpAny_pyIter_listiter st h
theorem kM {P:Program}{w:World}{K:PySem.W.Frag}{tg:Expr}(a it:Addr):oU P w K tg (Itt K a) [it] it (fun i h=>h.IsTupleIter it a i) where
 mem:=by simp
 obj:=fun i h st b hb=>by
  have e:b=it:=by simpa using hb
  subst e
  obtain ⟨o,e,c,d⟩:=st
  exact ⟨o,e,fun v z=>by rw [d] at z;cases z⟩
 keep:=fun i h h' st k=>st.at fun o e=>k it (by simp) o e
 item:=by
  intro X hP hw hK hc i pins s σ H E I hf st hg
  subst hP hw hK
  obtain ⟨xs,x,hq,hx⟩:=hg
  obtain ⟨its,rv,p,hz⟩:=I.tuple hq
  obtain ⟨u,hu,ru⟩:=rv.get hx
  obtain ⟨f0,f1,f2,f3,f4,f5⟩:=hf it (by simp)
  refine wpAny_pyNext_tuple_item st (show s.heap.IsTuple a its.toArray from p) (x:=u) (by simpa using hu) fun h' st' sb=>?_
  have I1:Inv X pins σ H { s with heap:=h' }:=I.turned (t':=s.toks) (fun b o hb e=>(sb.2 b hb).trans e) f0 f1 f3 f4 f5
  obtain ⟨o,e,c,d⟩:=id st'
  exact ⟨u,rfl,jH (s:={ s with heap:=h' }) e c d (by decide) ⟨x,H,I1,ru,⟨rfl,fun ys hy=>by rw [I.tuple_inj hy hq];exact hx⟩,st',fun b hb=>(hf b hb).1⟩⟩
 done:=by
  intro X hP hw hK hc i pins s σ H E I hf st hg
  subst hP hw hK
  obtain ⟨xs,hq,hx⟩:=hg
  obtain ⟨its,rv,p,hz⟩:=I.tuple hq
  obtain ⟨f0,f1,f2,f3,f4,f5⟩:=hf it (by simp)
  have hl:=rv.length
  exact wpAny_pyNext_tuple_end (I.ok.hd hc) st (show s.heap.IsTuple a its.toArray from p) (by simp;lia) fun h' eb=>⟨rfl,I.turned (t':=s.toks) (fun b o hb e=>eb b o hb e) f0 f1 f3 f4 f5⟩
 self:=fun _ _ _ _ _ st h=>wpAny_pyIter_tupleiter st h
theorem kP {P:Program}{w:World}{K:PySem.W.Frag}{tg:Expr}(it:Addr)(lo:Int)(n:Nat):oU P w K tg (Itr lo n) [it] it (fun i h=>IsRangeIter h it (lo+(i:Nat)*1) ((n:Int)-(i:Nat)) 1) where
 mem:=by simp
 obj:=fun i h st b hb=>by
  have e:b=it:=by simpa using hb
  subst e
  exact ⟨_,st,fun v z=>by
   have z':Data.fields _=Data.cell v:=z
   cases z'⟩
 keep:=fun i h h' st k=>k it (by simp) _ st
 item:=by
  intro X hP hw hK hc i pins s σ H E I hf st hg
  subst hP hw hK
  obtain ⟨f0,f1,f2,f3,f4,f5⟩:=hf it (by simp)
  have W:=Walks.range (prog:=X.prog) (w:=X.w) (I.ok.hd hc) it lo 1 n
  refine W.item i s _ _ hg st fun v h' tk hv st' kk=>?_
  obtain ⟨t,rfl⟩:=hv
  have I1:Inv X pins σ H { s with heap:=h',toks:=tk }:=I.turned (fun b o hb e=>kk b o (by simpa using hb) e) f0 f1 f3 f4 f5
  refine ⟨_,rfl,jH (s:={ s with heap:=h',toks:=tk }) (n:="range_iterator") st' rfl rfl (by decide) ⟨.int (lo+i),H,I1,⟨t,?_⟩,⟨rfl,rfl⟩,st',fun b hb=>(hf b hb).1⟩⟩
  rw [Int.mul_one]
 done:=by
  intro X hP hw hK hc i pins s σ H E I hf st hg
  subst hP hw hK
  obtain ⟨f0,f1,f2,f3,f4,f5⟩:=hf it (by simp)
  exact wpAny_pyNext_range_end (I.ok.hd hc) st (by have:n<=i:=hg;lia) fun h' eb=>⟨rfl,I.turned (t':=s.toks) (fun b o hb e=>eb b o hb e) f0 f1 f3 f4 f5⟩
 self:=fun _ _ _ _ _ st h=>wpAny_pyIter_rangeiter st h
end L2
namespace L2
open PySem PySem.Spec PyProof.Rows
section
variable {X:Cx}{tg:Expr}
def vE (K:PySem.W.Frag)(tl:TE):TI:=fun σ H R=>tl σ H fun x H1=>∃ a,x=.ref a/\(∃ xs,SqL K H1 a xs)/\R (Itl K a) H1
def xK (K:PySem.W.Frag)(tl:TE):TI:=fun σ H R=>tl σ H fun x H1=>∃ a,x=.ref a/\(∃ xs,SqT K H1 a xs)/\R (Itt K a) H1
theorem tI {l:Expr}{tl:TE}(hl:PE X l tl):PI X tg l (vE X.K tl):=by
 intro pins s σ H R I h
 refine thn (hl pins s σ H _ I h) fun v s1 ⟨x,H1,I1,r1,q1⟩=>?_
 obtain ⟨a,e,⟨xs,hq⟩,q⟩:=q1
 subst e
 cases r1
 obtain ⟨its,rv,p,hz⟩:=I1.list hq
 refine wpAny_pyIter_list p.isList ?_
 refine ⟨s1.heap.objs.size,[s1.heap.objs.size],_,_,H1,rfl,I1.kept (t':=s1.toks) fun b o e=>Heap.get?_push_of_some _ e,oF a _,⟨_,Heap.get?_push_size _ rfl,rfl,rfl⟩,fun b hb=>?_,q⟩
 have e:b=s1.heap.objs.size:=by simpa using hb
 subst e
 exact I1.fpOk (Nat.le_refl _) (I1.hok.fresh (Nat.le_refl _))
theorem wH {l:Expr}{tl:TE}(hl:PE X l tl):PI X tg l (xK X.K tl):=by
 intro pins s σ H R I h
 refine thn (hl pins s σ H _ I h) fun v s1 ⟨x,H1,I1,r1,q1⟩=>?_
 obtain ⟨a,e,⟨xs,hq⟩,q⟩:=q1
 subst e
 cases r1
 obtain ⟨its,rv,p,hz⟩:=I1.tuple hq
 refine wpAny_pyIter_tuple (show s1.heap.IsTuple a its.toArray from p) ?_
 refine ⟨s1.heap.objs.size,[s1.heap.objs.size],_,_,H1,rfl,I1.kept (t':=s1.toks) fun b o e=>Heap.get?_push_of_some _ e,kM a _,⟨_,Heap.get?_push_size _ rfl,rfl,rfl⟩,fun b hb=>?_,q⟩
 have e:b=s1.heap.objs.size:=by simpa using hb
 subst e
 exact I1.fpOk (Nat.le_refl _) (I1.hok.fresh (Nat.le_refl _))
theorem re {pins:List (Addr×Obj)}{σ:St}{H:Hp}{s:Shared}{R:It->Hp->Prop}{E:Value->Shared->Prop}{lo hi:Int}{t u v:Tok}{tk:Nat}(I:Inv X pins σ H s)(h1:-(2 ^ 62)<=lo)(h2:lo<2 ^ 62)(h3:-(2 ^ 62)<=hi)(h4:hi<2 ^ 62)
  (q:R (Itr lo (hi-lo).toNat) H):wpAny (model X.prog X.w) X.A (pyIter (.ref s.heap.objs.size)) (PIE X pins σ tg R) E { s with heap:=s.heap.push { cls:=.type "range",data:=.fields #[.int lo t,.int hi u,.int 1 v] },toks:=tk }:=by
 refine wpAny_pyIter_range (IsRange.new ..) (small_one h1 h2 h3 h4) ?_
 have I1:Inv X pins σ H { s with heap:=s.heap.push { cls:=.type "range",data:=.fields #[.int lo t,.int hi u,.int 1 v] },toks:=tk }:=I.kept fun b o e=>Heap.get?_push_of_some _ e
 refine ⟨(s.heap.push { cls:=.type "range",data:=.fields #[.int lo t,.int hi u,.int 1 v] }).objs.size,[(s.heap.push { cls:=.type "range",data:=.fields #[.int lo t,.int hi u,.int 1 v] }).objs.size],_,_,H,rfl,
  I1.kept (t':=tk) fun b o e=>Heap.get?_push_of_some _ e,kP _ lo (hi-lo).toNat,?_,fun b hb=>?_,q⟩
 .have e1:lo+((0:Nat):Int)*1=lo:=by simp
  have e2:(((hi-lo).toNat:Nat):Int)-((0:Nat):Int)=Builtin.Range.rangeSize lo hi 1:=by rw [rangeSize_one];split <;> lia
  show IsRangeIter _ _ (lo+((0:Nat):Int)*1) ((((hi-lo).toNat:Nat):Int)-((0:Nat):Int)) 1
  rw [e1,e2]
  exact Heap.get?_push_size _ rfl
 .have e:b=(s.heap.push { cls:=.type "range",data:=.fields #[.int lo t,.int hi u,.int 1 v] }).objs.size:=by simpa using hb
  subst e
  exact I1.fpOk (Nat.le_refl _) (I1.hok.fresh (Nat.le_refl _))
def vo (ta:TA):TI:=fun σ H R=>ta σ H fun vs H1=>∃ j:Int,vs=[.int j]/\-(2 ^ 62)<=j/\j<2 ^ 62/\R (Itr 0 j.toNat) H1
theorem o6 {a:Expr}{ta:TA}{p pos:Pos}(hg:Gl X "range")(hm:X.mg "range"=none)(ha:PA X [a] ta)(hs:starEach [a] X.env=[(false,eval a X.env)]:=by rfl):PI X tg (.Call (.Name "range" p) [a] [] pos) (vo ta):=by
 intro pins s σ H R I h
 refine Call_ (gK I hg hm boot_range (PyProof.Rows.callWith_type1 (thn (ha pos pins s σ H _ I h) fun us s1 ⟨vs,H1,I1,r1,q1⟩=>?_) hs rfl))
 obtain ⟨j,e,q1,q2,q⟩:=q1
 subst e
 cases r1 with
 | cons r rr =>
  cases rr
  obtain ⟨t,rfl⟩:=r
  exact call_range_1 (re I1 (by lia) (by lia) q1 q2 (by simpa using q))
def xM (wi:TI)(g:TG)(tb:TS):TS:=fun D σ H=>wi σ H fun J H1=>∃ W:Nat->Nat->St->Hp->Prop,(∃ m,W 0 m σ H1)/\∀i m σ H,W i m σ H ->
 (J.stop i H/\D.nx σ H)∨(J.go i H/\∃ N:St->Hp->Prop,(∀σ' H',N σ' H'->∃ m',m'<m/\W (i+1) m' σ' H')/\∀x H',J.yld i H x H'->g x σ H' fun σ2 H2=>tb { D with nx:=N,ct:=N,bk:=D.nx } σ2 H2)
def gH (fp:List Addr)(h:Heap):List (Addr×Obj):=fp.filterMap fun b=>(h.get? b).map fun o=>(b,o)
theorem cO {fp:List Addr}{h:Heap}{b:Addr}{o:Obj}(hb:b∈fp)(e:h.get? b=some o):(b,o)∈gH fp h:=List.mem_filterMap.mpr ⟨b,hb,by rw [e];rfl⟩
theorem o7 {fp:List Addr}{h:Heap}{p:Addr×Obj}(hp:p∈gH fp h):p.1∈fp/\h.get? p.1=some p.2:=by
 obtain ⟨b,hb,e⟩:=List.mem_filterMap.mp hp
 cases q:h.get? b with
 | none=>rw [q] at e;cases e
 | some o =>
  rw [q] at e
  have e':(b,o)=p:=Option.some.inj e
  subst e'
  exact ⟨hb,q⟩
theorem Inv.pinned {pins:List (Addr×Obj)}{σ:St}{H:Hp}{s:Shared}{fp:List Addr}(I:Inv X pins σ H s)(hf:∀b∈fp,ke X pins H b)(ho:∀b∈fp,∃ o,s.heap.get? b=some o/\∀v,o.data≠.cell v):Inv X (pins++gH fp s.heap) σ H s :=
 I.pins_of fun p hp=>(List.mem_append.mp hp).elim (fun z=>I.pin p (List.mem_append_right _ z)) fun z=>by
  obtain ⟨hb,e⟩:=o7 z
  obtain ⟨f0,f1,f2,_⟩:=hf p.1 hb
  obtain ⟨o,e',d⟩:=ho p.1 hb
  rw [e] at e';cases e'
  exact ⟨e,f0,f1,f2,d⟩
theorem Inv.unpinned {pins pl:List (Addr×Obj)}{σ:St}{H:Hp}{s:Shared}(I:Inv X (pins++pl) σ H s):Inv X pins σ H s:=I.pins_of fun p hp=>I.pin p (List.mem_append_right _ (List.mem_append_left _ hp))
theorem xa {iter:Expr}{body:List Stmt}{wi:TI}{g:TG}{tb:TS}{pos:Pos}(hp:PassesOwn (model X.prog X.w) X.A X.env X.xe)(hc:X.calm=true)(hi:PI X tg iter wi)(hg:PG X tg g)(hb:PSs X body tb)
  (hs:∀x,foldedSetIterable iter X.env x=pure x:=by intro _;rfl):PS X (.For tg iter body [] pos) (xM wi g tb):=by
 intro pins s σ H D I h
 refine wpAny_For (thn (hi pins s σ H _ I h) fun v s1 h1=>thn h1 fun itv s2 h2=>?_) hs
 obtain ⟨it,fp,tn,J,H2,e,I2,T,st2,f2,W,⟨m0,w0⟩,turn⟩:=h2
 subst e
 have stat:∀{H':Hp},(∀b∈fp,H' b=none)->∀b∈fp,ke X pins H' b:=fun hn b hb=>⟨hn b hb,(f2 b hb).2⟩
 refine codeAny_forLoop_any (fun n s'=>∃ i σ' H',Inv X pins σ' H' s'/\tn i s'.heap/\(∀b∈fp,H' b=none)/\W i n σ' H') ?_ m0 ⟨0,σ,H2,I2,st2,fun b hb=>(f2 b hb).1,w0⟩
 rintro n s3 ⟨i,σ3,H3,I3,st3,fr3,w3⟩
 rcases turn i n σ3 H3 w3 with ⟨stop,qn⟩ | ⟨go,N,hN,step⟩
 .refine wpAny_passesOwn hp (thn (T.done X rfl rfl rfl hc i pins s3 σ3 H3 X.xe I3 (stat fr3) st3 stop) fun r s4 ⟨hr,I4⟩=>?_)
  subst hr
  exact wpAny_execs_nil ⟨σ3,H3,I4,qn⟩
 .refine wpAny_passesOwn hp (thn (T.item X rfl rfl rfl hc i pins s3 σ3 H3 X.xe I3 (stat fr3) st3 go) fun r s4 ⟨u,hr,h4⟩=>?_)
  subst hr
  refine wpAny_passesOwn hp (thn h4 fun _ s5 ⟨x,H5,I5,r5,y5,st5,fr5⟩=>?_)
  have I5':=I5.pinned (stat fr5) (T.obj _ _ st5)
  refine wpAny_passesOwn hp (thn (hg _ s5 σ3 H5 x u _ I5' r5 (step x H5 y5)) fun _ s6 ⟨σ6,H6,I6,q6⟩=>?_)
  refine wpAny_passesOwn hp (thn (hb _ s6 σ6 H6 _ I6 q6) fun f s7 q7=>?_)
  have again:∀{σ7:St} {H7:Hp},Inv X (pins++gH fp s5.heap) σ7 H7 s7->N σ7 H7->∃ m,m<n/\∃ i σ' H',Inv X pins σ' H' s7/\tn i s7.heap/\(∀b∈fp,H' b=none)/\W i m σ' H':=fun {σ7 H7} I7 n7=>by
   obtain ⟨m',hm,w7⟩:=hN σ7 H7 n7
   refine ⟨m',hm,i+1,σ7,H7,I7.unpinned,T.keep _ _ _ st5 fun b hb o e=>(I7.pin (b,o) (List.mem_append_right _ (List.mem_append_right _ (cO hb e)))).1,fun b hb=>?_,w7⟩
   obtain ⟨o,e,d⟩:=T.obj _ _ st5 b hb
   exact (I7.pin (b,o) (List.mem_append_right _ (List.mem_append_right _ (cO hb e)))).2.1
  cases f with
  | next=>obtain ⟨σ7,H7,I7,n7⟩:=q7;exact again I7 n7
  | cont=>obtain ⟨σ7,H7,I7,n7⟩:=q7;exact again I7 n7
  | brk=>obtain ⟨σ7,H7,I7,q7⟩:=q7;exact ⟨σ7,H7,I7.unpinned,q7⟩
  | ret v=>obtain ⟨x7,σ7,H7,I7,r7,q7⟩:=q7;exact ⟨x7,σ7,H7,I7.unpinned,r7,q7⟩
end
theorem rZ {K:PySem.W.Frag}{a:Addr}{xs:List V}{g:TG}{tb:TS}{D:fv}{σ:St}{H:Hp}(Pv:Nat->St->Hp->Prop)(h0:Pv 0 σ H)(hl:∀i σ H,i<=xs.length->Pv i σ H->SqL K H a xs)
  (hs:∀i x σ H,xs[i]?=some x->Pv i σ H->g x σ H fun σ2 H2=>tb { D with nx:=Pv (i+1),ct:=Pv (i+1),bk:=D.nx } σ2 H2) (hd:∀σ H,Pv xs.length σ H->D.nx σ H) :
  ∃ W:Nat->Nat->St->Hp->Prop,(∃ m,W 0 m σ H)/\∀i m σ H,W i m σ H ->
   ((Itl K a).stop i H/\D.nx σ H)∨((Itl K a).go i H/\∃ N:St->Hp->Prop,(∀σ' H',N σ' H'->∃ m',m'<m/\W (i+1) m' σ' H')/\∀x H',(Itl K a).yld i H x H'->g x σ H' fun σ2 H2=>tb { D with nx:=N,ct:=N,bk:=D.nx } σ2 H2):=by
 refine ⟨fun i m σ H=>m=xs.length-i/\i<=xs.length/\Pv i σ H,⟨xs.length,by simp,Nat.zero_le _,h0⟩,?_⟩
 rintro i m σ H ⟨rfl,hi,p⟩
 have q:=hl i σ H hi p
 by_cases hlt:i<xs.length
 .refine .inr ⟨⟨xs,xs[i],q,by simp [hlt]⟩,Pv (i+1),fun σ' H' p'=>⟨xs.length-(i+1),by lia,rfl,hlt,p'⟩,fun x H' y=>?_⟩
  obtain ⟨e,y⟩:=y
  subst e
  exact hs i x σ _ (y xs q) p
 .have e:i=xs.length:=by lia
  subst e
  exact .inl ⟨⟨xs,q,Nat.le_refl _⟩,hd σ H p⟩
theorem jd {K:PySem.W.Frag}{a:Addr}{xs:List V}{g:TG}{tb:TS}{D:fv}{σ:St}{H:Hp}(Pv:Nat->St->Hp->Prop)(h0:Pv 0 σ H)(hl:∀i σ H,i<=xs.length->Pv i σ H->SqT K H a xs)
  (hs:∀i x σ H,xs[i]?=some x->Pv i σ H->g x σ H fun σ2 H2=>tb { D with nx:=Pv (i+1),ct:=Pv (i+1),bk:=D.nx } σ2 H2) (hd:∀σ H,Pv xs.length σ H->D.nx σ H) :
  ∃ W:Nat->Nat->St->Hp->Prop,(∃ m,W 0 m σ H)/\∀i m σ H,W i m σ H ->
   ((Itt K a).stop i H/\D.nx σ H)∨((Itt K a).go i H/\∃ N:St->Hp->Prop,(∀σ' H',N σ' H'->∃ m',m'<m/\W (i+1) m' σ' H')/\∀x H',(Itt K a).yld i H x H'->g x σ H' fun σ2 H2=>tb { D with nx:=N,ct:=N,bk:=D.nx } σ2 H2):=by
 refine ⟨fun i m σ H=>m=xs.length-i/\i<=xs.length/\Pv i σ H,⟨xs.length,by simp,Nat.zero_le _,h0⟩,?_⟩
 rintro i m σ H ⟨rfl,hi,p⟩
 have q:=hl i σ H hi p
 by_cases hlt:i<xs.length
 .refine .inr ⟨⟨xs,xs[i],q,by simp [hlt]⟩,Pv (i+1),fun σ' H' p'=>⟨xs.length-(i+1),by lia,rfl,hlt,p'⟩,fun x H' y=>?_⟩
  obtain ⟨e,y⟩:=y
  subst e
  exact hs i x σ _ (y xs q) p
 .have e:i=xs.length:=by lia
  subst e
  exact .inl ⟨⟨xs,q,Nat.le_refl _⟩,hd σ H p⟩
theorem iP {lo:Int}{n:Nat}{g:TG}{tb:TS}{D:fv}{σ:St}{H:Hp}(Pv:Nat->St->Hp->Prop)(h0:Pv 0 σ H)
  (hs:∀i σ H,i<n->Pv i σ H->g (.int (lo+i)) σ H fun σ2 H2=>tb { D with nx:=Pv (i+1),ct:=Pv (i+1),bk:=D.nx } σ2 H2) (hd:∀σ H,Pv n σ H->D.nx σ H) :
  ∃ W:Nat->Nat->St->Hp->Prop,(∃ m,W 0 m σ H)/\∀i m σ H,W i m σ H ->
   ((Itr lo n).stop i H/\D.nx σ H)∨((Itr lo n).go i H/\∃ N:St->Hp->Prop,(∀σ' H',N σ' H'->∃ m',m'<m/\W (i+1) m' σ' H')/\∀x H',(Itr lo n).yld i H x H'->g x σ H' fun σ2 H2=>tb { D with nx:=N,ct:=N,bk:=D.nx } σ2 H2):=by
 refine ⟨fun i m σ H=>m=n-i/\i<=n/\Pv i σ H,⟨n,by simp,Nat.zero_le _,h0⟩,?_⟩
 rintro i m σ H ⟨rfl,hi,p⟩
 by_cases hlt:i<n
 .refine .inr ⟨hlt,Pv (i+1),fun σ' H' p'=>⟨n-(i+1),by lia,rfl,hlt,p'⟩,fun x H' y=>?_⟩
  obtain ⟨e,y⟩:=y
  subst e y
  exact hs i σ _ hlt p
 .have e:i=n:=by lia
  subst e
  exact .inl ⟨Nat.le_refl _,hd σ H p⟩
end L2
namespace L2
open PySem PySem.Spec PyProof.Rows
abbrev R2:=V->V->Hp->VK->Prop
def OpR (X:Cx)(f:Value->Value->Sem Value)(r:R2):Prop :=
 ∀(pins:List (Addr×Obj)) (s:Shared) (σ:St) (H:Hp) (x y:V) (v u:Value) (Q:VK),Inv X pins σ H s->RelV x v->RelV y u->r x y H Q ->
  wpAny (model X.prog X.w) X.A (f v u) (EP X pins σ Q) X.xe s
def UnR (X:Cx)(f:Value->Sem Value)(r:V->Hp->VK->Prop):Prop :=
 ∀(pins:List (Addr×Obj)) (s:Shared) (σ:St) (H:Hp) (x:V) (v:Value) (Q:VK),Inv X pins σ H s->RelV x v->r x H Q ->
  wpAny (model X.prog X.w) X.A (f v) (EP X pins σ Q) X.xe s
def bH (X:Cx)(f:Value)(r:List V->Hp->VK->Prop):Prop :=
 ∀(pins:List (Addr×Obj)) (s:Shared) (σ:St) (H:Hp) (xs:List V) (us:List Value) (Q:VK),Inv X pins σ H s->Vals xs us->r xs H Q ->
  wpAny (model X.prog X.w) X.A (call f us) (EP X pins σ Q) X.xe s
def tOp (r:R2)(ta tb:TE):TE:=fun σ H Q=>ta σ H fun x H1=>tb σ H1 fun y H2=>r x y H2 Q
def tUn (r:V->Hp->VK->Prop)(ta:TE):TE:=fun σ H Q=>ta σ H fun x H1=>r x H1 Q
def rI (C:Int->Int->Prop)(g:Int->Int->V):R2:=fun x y H Q=>∃ i j,x=.int i/\y=.int j/\C i j/\Q (g i j) H
def rI0 (g:Int->Int->V):R2:=fun x y H Q=>∃ i j,x=.int i/\y=.int j/\Q (g i j) H
def rU (g:Int->V):V->Hp->VK->Prop:=fun x H Q=>∃ i,x=.int i/\Q (g i) H
section
variable {X:Cx}{a b c:Expr}{ta tb tc:TE}{pos:Pos}
theorem wc (ha:PE X a ta)(hb:PE X b tb){pins:List (Addr×Obj)}{s:Shared}{σ:St}{H:Hp}{R:V->V->Hp->Prop}(I:Inv X pins σ H s)
  (h:ta σ H fun x H1=>tb σ H1 fun y H2=>R x y H2) {Q:Value->Shared->Prop} {f:Value->Value->Sem Value}
  (hf:∀v u s2 x y H2,Inv X pins σ H2 s2->RelV x v->RelV y u->R x y H2->wpAny (model X.prog X.w) X.A (f v u) Q X.xe s2) :
  wpAny (model X.prog X.w) X.A (eval a X.env) (fun v s₁=>wpAny (model X.prog X.w) X.A (eval b X.env) (fun u s₂=>wpAny (model X.prog X.w) X.A (f v u) Q X.xe s₂) X.xe s₁) X.xe s:=by
 refine thn (ha pins s σ H _ I h) fun v s1 ⟨x,H1,I1,r1,q1⟩=>?_
 refine thn (hb pins s1 σ H1 _ I1 q1) fun u s2 ⟨y,H2,I2,r2,q2⟩=>?_
 exact hf v u s2 x y H2 I2 r1 r2 q2
theorem x4 {op:Operator}{r:R2}(ho:OpR X (binaryOp op) r)(ha:PE X a ta)(hb:PE X b tb):PE X (.BinOp a op b pos) (tOp r ta tb):=by
 intro pins s σ H Q I h
 exact wpAny_BinOp (wc ha hb I h fun v u s2 x y H2 I2 rx ry q=>ho pins s2 σ H2 x y v u Q I2 rx ry q)
theorem xI {op:UnaryOp}{r:V->Hp->VK->Prop}(ho:UnR X (unaryOp op) r)(ha:PE X a ta):PE X (.UnaryOp op a pos) (tUn r ta):=by
 intro pins s σ H Q I h
 exact UnaryOp_ (thn (ha pins s σ H _ I h) fun v s1 ⟨x,H1,I1,r1,q1⟩=>ho pins s1 σ H1 x v Q I1 r1 q1)
theorem opI {f:Value->Value->Sem Value}{C:Int->Int->Prop}{g:Int->Int->Int}
  (rule:∀(i j:Int) (t u:Tok) (s:Shared) (Q:Value->Shared->Prop) (E:Value->Shared->Prop),C i j->Q (.int (g i j) s.toks) { s with toks:=s.toks+1 }->wpAny (model X.prog X.w) X.A (f (.int i t) (.int j u)) Q E s) :
  OpR X f (rI C fun i j=>.int (g i j)):=by
 intro pins s σ H x y v u Q I rx ry h
 obtain ⟨i,j,rfl,rfl,hc,q⟩:=h
 obtain ⟨t,rfl⟩:=rx
 obtain ⟨t',rfl⟩:=ry
 exact rule i j t t' s _ _ hc ⟨.int (g i j),H,I.tok _,⟨_,rfl⟩,q⟩
theorem yb {f:Value->Value->Sem Value}{g:Int->Int->Int}
  (rule:∀(i j:Int) (t u:Tok) (s:Shared) (Q:Value->Shared->Prop) (E:Value->Shared->Prop),Q (.int (g i j) s.toks) { s with toks:=s.toks+1 }->wpAny (model X.prog X.w) X.A (f (.int i t) (.int j u)) Q E s) :
  OpR X f (rI0 fun i j=>.int (g i j)):=by
 intro pins s σ H x y v u Q I rx ry h
 obtain ⟨i,j,rfl,rfl,q⟩:=h
 obtain ⟨t,rfl⟩:=rx
 obtain ⟨t',rfl⟩:=ry
 exact rule i j t t' s _ _ ⟨.int (g i j),H,I.tok _,⟨_,rfl⟩,q⟩
theorem tj {f:Value->Value->Sem Value}{g:Int->Int->Bool}
  (rule:∀(i j:Int) (t u:Tok) (s:Shared) (Q:Value->Shared->Prop) (E:Value->Shared->Prop),Q (.bool (g i j)) s->wpAny (model X.prog X.w) X.A (f (.int i t) (.int j u)) Q E s) :
  OpR X f (rI0 fun i j=>.bl (g i j)):=by
 intro pins s σ H x y v u Q I rx ry h
 obtain ⟨i,j,rfl,rfl,q⟩:=h
 obtain ⟨t,rfl⟩:=rx
 obtain ⟨t',rfl⟩:=ry
 exact rule i j t t' s _ _ ⟨.bl (g i j),H,I,rfl,q⟩
def yz (i j:Int):Prop:=0<=j/\j<=1000000/\i.natAbs<2 ^ 64
def CMul (i j:Int):Prop:=(-(2 ^ 64)<i/\i<2 ^ 64)∨(-(2 ^ 64)<j/\j<2 ^ 64)
theorem CMul.ok {i j:Int}(h:CMul i j):IntMulOk i j:=by
 rcases h with ⟨h1,h2⟩ | ⟨h1,h2⟩
 .exact .of_left (intBits_le_64 h1 h2)
 .exact .of_right (intBits_le_64 h1 h2)
theorem aM:OpR X (binaryOp .Add) (rI0 fun i j=>.int (i+j)):=yb fun _ _ _ _ _ _ _ q=>add_int q
theorem bM:OpR X (binaryOp .Sub) (rI0 fun i j=>.int (i-j)):=yb fun _ _ _ _ _ _ _ q=>sub_int q
theorem dg:OpR X (binaryOp .Mult) (rI CMul fun i j=>.int (i*j)):=opI fun _ _ _ _ _ _ _ hc q=>mul_int q hc.ok
theorem bU:OpR X (binaryOp .Mod) (rI (fun _ j=>0<j) fun i j=>.int (i % j)):=opI fun i j _ _ _ _ _ hc q=>by
 have h1:(0:Int)<j:=hc
 exact mod_int' (by lia) (by rw [Int.fmod_eq_emod_of_nonneg i (by lia)];exact q)
theorem i8:OpR X (binaryOp .Pow) (rI yz fun i j=>.int (i ^ j.toNat)):=opI fun _ _ _ _ _ _ _ hc q=>pow_int_small hc.1 hc.2.1 hc.2.2 q
theorem unI {f:Value->Sem Value}{g:Int->Int}
  (rule:∀(i:Int) (t:Tok) (s:Shared) (Q:Value->Shared->Prop) (E:Value->Shared->Prop),Q (.int (g i) s.toks) { s with toks:=s.toks+1 }->wpAny (model X.prog X.w) X.A (f (.int i t)) Q E s) :
  UnR X f (rU fun i=>.int (g i)):=by
 intro pins s σ H x v Q I rx h
 obtain ⟨i,rfl,q⟩:=h
 obtain ⟨t,rfl⟩:=rx
 exact rule i t s _ _ ⟨.int (g i),H,I.tok _,⟨_,rfl⟩,q⟩
theorem i9:UnR X (unaryOp .USub) (rU fun i=>.int (-i)):=unI fun _ _ _ _ _ q=>neg_int q
end
def xY:V->V->Bool
 | .non,.non=>true | .non,.int _=>true | .int _,.non=>true | .non,.bl _=>true | .bl _,.non=>true | .non,.str _=>true | .str _,.non=>true
 | .int _,.int _=>true | .bl _,.bl _=>true | .str _,.str _=>true | .byt _,.byt _=>true
 | .int _,.str _=>true | .str _,.int _=>true | .bl _,.str _=>true | .str _,.bl _=>true
 | _,_=>false
def rEq:R2:=fun x y H Q=>xY x y=true/\Q (.bl (decide (x=y))) H
def rNe:R2:=fun x y H Q=>xY x y=true/\Q (.bl (!decide (x=y))) H
theorem nh {i j:Int}:decide (V.int i=V.int j)=(i == j):=by
 rw [Bool.eq_iff_iff]
 simp
theorem rS {i j:Bool}:decide (V.bl i=V.bl j)=(i == j):=by
 rw [Bool.eq_iff_iff]
 simp
theorem mM {i j:Str}:decide (V.str i=V.str j)=(i == j):=by
 rw [Bool.eq_iff_iff]
 simp
theorem nk {i j:Array UInt8}:decide (V.byt i=V.byt j)=(i.toList == j.toList):=by
 rw [Bool.eq_iff_iff]
 cases i
 cases j
 simp
section
variable {X:Cx}{a b c:Expr}{ta tb tc:TE}{pos:Pos}
theorem aV {pins:List (Addr×Obj)}{σ:St}{H:Hp}{s:Shared}{Q:VK}{k k':Bool}(I:Inv X pins σ H s)(q:Q (.bl k) H)(e:k=k'):EP X pins σ Q (.bool k') s:=by
 subst e
 exact ⟨.bl k,H,I,rfl,q⟩
theorem bV:OpR X (compareOp .Eq) rEq:=by
 intro pins s σ H x y v u Q I rx ry h
 obtain ⟨hs,q⟩:=h
 cases x with
 | non =>
  cases rx
  cases y with
  | non=>cases ry;exact PySem.EqNone.eq_none_none (aV I q (by simp))
  | bl j=>cases ry;exact PySem.EqNone.eq_none_bool (aV I q (by simp))
  | int j=>obtain ⟨t',rfl⟩:=ry;exact PySem.EqNone.eq_none_int (aV I q (by simp))
  | str j=>obtain ⟨t',rfl⟩:=ry;exact PySem.EqNone.eq_none_str (aV I q (by simp))
  | _=>exact absurd (show false=true from hs) Bool.false_ne_true
 | bl i =>
  cases rx
  cases y with
  | non=>cases ry;exact PySem.EqNone.eq_bool_none (aV I q (by simp))
  | bl j=>cases ry;exact eq_bool (aV I q rS)
  | str j=>obtain ⟨t',rfl⟩:=ry;exact PySem.EqMixed.eq_bool_str (aV I q (by simp))
  | _=>exact absurd (show false=true from hs) Bool.false_ne_true
 | int i =>
  obtain ⟨t,rfl⟩:=rx
  cases y with
  | non=>cases ry;exact PySem.EqNone.eq_int_none (aV I q (by simp))
  | int j=>obtain ⟨t',rfl⟩:=ry;exact eq_int (aV I q nh)
  | str j=>obtain ⟨t',rfl⟩:=ry;exact PySem.EqMixed.eq_int_str (aV I q (by simp))
  | _=>exact absurd (show false=true from hs) Bool.false_ne_true
 | str i =>
  obtain ⟨t,rfl⟩:=rx
  cases y with
  | non=>cases ry;exact PySem.EqNone.eq_str_none (aV I q (by simp))
  | bl j=>cases ry;exact PySem.EqMixed.eq_str_bool (aV I q (by simp))
  | int j=>obtain ⟨t',rfl⟩:=ry;exact PySem.EqMixed.eq_str_int (aV I q (by simp))
  | str j=>obtain ⟨t',rfl⟩:=ry;exact eq_str (aV I q mM)
  | _=>exact absurd (show false=true from hs) Bool.false_ne_true
 | byt i =>
  obtain ⟨t,rfl⟩:=rx
  cases y with
  | byt j=>obtain ⟨t',rfl⟩:=ry;exact PySem.W.eq_bytes (aV I q nk)
  | _=>exact absurd (show false=true from hs) Bool.false_ne_true
 | _=>cases y <;> exact absurd (show false=true from hs) Bool.false_ne_true
theorem vb:OpR X (compareOp .NotEq) rNe:=by
 intro pins s σ H x y v u Q I rx ry h
 obtain ⟨hs,q⟩:=h
 cases x with
 | non =>
  cases rx
  cases y with
  | non=>cases ry;exact PySem.EqNone.ne_none_none (aV I q (by simp))
  | bl j=>cases ry;exact PySem.EqNone.ne_none_bool (aV I q (by simp))
  | int j=>obtain ⟨t',rfl⟩:=ry;exact PySem.EqNone.ne_none_int (aV I q (by simp))
  | str j=>obtain ⟨t',rfl⟩:=ry;exact PySem.EqNone.ne_none_str (aV I q (by simp))
  | _=>exact absurd (show false=true from hs) Bool.false_ne_true
 | bl i =>
  cases rx
  cases y with
  | non=>cases ry;exact PySem.EqNone.ne_bool_none (aV I q (by simp))
  | bl j=>cases ry;exact ne_bool (aV I q (congrArg not rS))
  | str j=>obtain ⟨t',rfl⟩:=ry;exact PySem.EqMixed.ne_bool_str (aV I q (by simp))
  | _=>exact absurd (show false=true from hs) Bool.false_ne_true
 | int i =>
  obtain ⟨t,rfl⟩:=rx
  cases y with
  | non=>cases ry;exact PySem.EqNone.ne_int_none (aV I q (by simp))
  | int j=>obtain ⟨t',rfl⟩:=ry;exact ne_int (aV I q (congrArg not nh))
  | str j=>obtain ⟨t',rfl⟩:=ry;exact PySem.EqMixed.ne_int_str (aV I q (by simp))
  | _=>exact absurd (show false=true from hs) Bool.false_ne_true
 | str i =>
  obtain ⟨t,rfl⟩:=rx
  cases y with
  | non=>cases ry;exact PySem.EqNone.ne_str_none (aV I q (by simp))
  | bl j=>cases ry;exact PySem.EqMixed.ne_str_bool (aV I q (by simp))
  | int j=>obtain ⟨t',rfl⟩:=ry;exact PySem.EqMixed.ne_str_int (aV I q (by simp))
  | str j=>obtain ⟨t',rfl⟩:=ry;exact ne_str (aV I q (congrArg not mM))
  | _=>exact absurd (show false=true from hs) Bool.false_ne_true
 | byt i =>
  obtain ⟨t,rfl⟩:=rx
  cases y with
  | byt j=>obtain ⟨t',rfl⟩:=ry;exact PySem.W.ne_bytes (aV I q (congrArg not nk))
  | _=>exact absurd (show false=true from hs) Bool.false_ne_true
 | _=>cases y <;> exact absurd (show false=true from hs) Bool.false_ne_true
theorem gl:OpR X (compareOp .Lt) (rI0 fun i j=>.bl (decide (i<j))):=tj fun _ _ _ _ _ _ _ q=>lt_int q
theorem xW:OpR X (compareOp .LtE) (rI0 fun i j=>.bl (decide (i<=j))):=tj fun _ _ _ _ _ _ _ q=>le_int q
theorem gp:OpR X (compareOp .Gt) (rI0 fun i j=>.bl (decide (j<i))):=tj fun _ _ _ _ _ _ _ q=>gt_int q
theorem xT:OpR X (compareOp .GtE) (rI0 fun i j=>.bl (decide (j<=i))):=tj fun _ _ _ _ _ _ _ q=>ge_int q
theorem uM:OpR X (compareOp .IsNot) (fun x y H Q=>y=.non/\Q (.bl (!decide (x=.non))) H):=by
 intro pins s σ H x y v u Q I rx ry h
 obtain ⟨rfl,q⟩:=h
 cases ry
 refine isnot_none_gen (aV I q ?_)
 cases x <;> first
  | (cases rx;rfl)
  | (obtain ⟨t,rfl⟩:=rx;rfl)
theorem aH (b:Expr){op:CmpOp}(h:op≠.In:=by decide)(h2:op≠.NotIn:=by decide):behindInMarks op b=false:=by
 have e1:(op == CmpOp.In)=false:=by cases op <;> first | rfl | exact absurd rfl h
 have e2:(op == CmpOp.NotIn)=false:=by cases op <;> first | rfl | exact absurd rfl h2
 cases b <;> simp [behindInMarks,e1,e2]
theorem t9 {op:CmpOp}{r:R2}(ho:OpR X (compareOp op) r)(ha:PE X a ta)(hb:PE X b tb)(hm:behindInMarks op b=false):PE X (.Compare a [op] [b] pos) (tOp r ta tb):=by
 intro pins s σ H Q I h
 exact wpAny_Compare1 (wc ha hb I h fun v u s2 x y H2 I2 rx ry q=>ho pins s2 σ H2 x y v u Q I2 rx ry q) hm
def vG (t:TE):TT:=fun σ H Q=>t σ H fun x H'=>∃ k,x=.bl k/\Q k H'
theorem ui {op:CmpOp}{r:R2}(ho:OpR X (compareOp op) r)(ha:PE X a ta)(hb:PE X b tb)(hm:behindInMarks op b=false):PT X (.Compare a [op] [b] pos) (vG (tOp r ta tb)):=by
 intro pins s σ H Q I h
 refine wpAny_isTrue_Compare1 (thn (ha pins s σ H _ I h) fun v s1 ⟨x,H1,I1,r1,q1⟩=>thn (hb pins s1 σ H1 _ I1 q1) fun u s2 ⟨y,H2,I2,r2,q2⟩ =>
  thn (ho pins s2 σ H2 x y v u _ I2 r1 r2 q2) fun c s3 ⟨z,H3,I3,r3,k,e,q3⟩=>?_) hm
 subst e
 cases r3
 exact wpAny_truthy_bool ⟨H3,I3,q3⟩
theorem fN:(sizeLine:Nat)<2 ^ 63:=by rw [sizeLine_eq];decide
theorem cz:OpR X (binaryOp .Add) (fun x y H Q=>∃ i j,x=.str i/\y=.str j/\i.length+j.length<=sizeLine/\Q (.str (i++j)) H):=by
 intro pins s σ H x y v u Q I rx ry h
 obtain ⟨i,j,rfl,rfl,hz,q⟩:=h
 obtain ⟨t,rfl⟩:=rx
 obtain ⟨t',rfl⟩:=ry
 exact add_str (fun t' tk=>⟨.str (i++j),H,I.tok _,⟨_,rfl⟩,q⟩) hz
theorem cY {x:V}{us:List Value}(r:Vals [x] us):∃ u,us=[u]/\RelV x u:=by
 cases r with
 | cons r1 r2=>cases r2;exact ⟨_,rfl,r1⟩
theorem rP {x y:V}{us:List Value}(r:Vals [x,y] us):∃ u w',us=[u,w']/\RelV x u/\RelV y w':=by
 cases r with
 | cons r1 r2 =>
  cases r2 with
  | cons r3 r4=>cases r4;exact ⟨_,_,rfl,r1,r3⟩
theorem gD:bH X (.builtin "abs") (fun xs H Q=>∃ i,xs=[.int i]/\Q (.int (if i<0 then -i else i)) H):=by
 intro pins s σ H xs us Q I r h
 obtain ⟨i,rfl,q⟩:=h
 obtain ⟨u,rfl,t,rfl⟩:=cY r
 exact call_abs_int fun u tk=>⟨.int (if i<0 then -i else i),H,I.tok _,⟨_,rfl⟩,q⟩
theorem cj:bH X (.type "int") (fun xs H Q=>(∃ i,xs=[.int i]/\Q (.int i) H)∨∃ k,xs=[.bl k]/\Q (.int (if k then 1 else 0)) H):=by
 intro pins s σ H xs us Q I r h
 rcases h with ⟨i,rfl,q⟩ | ⟨k,rfl,q⟩
 .obtain ⟨u,rfl,t,rfl⟩:=cY r
  exact call_int_int ⟨.int i,H,I,⟨_,rfl⟩,q⟩
 .obtain ⟨u,rfl,r1⟩:=cY r
  cases r1
  exact call_int_bool ⟨.int (if k then 1 else 0),H,I.tok _,⟨_,rfl⟩,q⟩
end
end L2
namespace L2
open PySem PySem.Spec PyProof.Rows
structure ObjM (h:Heap)(x dx C:Addr)(mA:Str->Option Value):Prop where
 obj:h.get? x=some (PySem.W.instObj C dx)
 ns:h.Ns1 dx mA
 ne:dx≠x
theorem oZ {h:Heap}{dx:Addr}{mA:Str->Option Value}(n:h.Ns1 dx mA):∃ od,h.get? dx=some od/\∀name,PySem.W.lookIn name od=some (mA name):=by
 obtain ⟨o,es,ep,ho,hd,hk,_,hm⟩:=n
 refine ⟨o,ho,fun name=>?_⟩
 have e:=hm name
 unfold nsFind findBy at e
 rw [<-Array.find?_toList] at e
 unfold PySem.W.lookIn
 rw [hd]
 dsimp only
 split
 .rename_i y q
  rw [q] at e
  exact congrArg some e
 .rename_i q
  rw [q] at e
  have a:es.toList.any (·.refKey)=false:=by
   rw [List.any_eq_false]
   intro y hy
   obtain ⟨z,t,hkey⟩:=hk y (Array.mem_toList_iff.mp hy)
   simp [DictEntry.refKey,hkey]
  have a':¬ es.toList.any (·.refKey)=true:=by rw [a];exact Bool.false_ne_true
  rw [if_neg a']
  exact congrArg some e
theorem ObjM.look {h:Heap}{x dx C:Addr}{mA:Str->Option Value}(I:ObjM h x dx C mA):∃ od,PySem.W.InstAt h x (PySem.W.instObj C dx) C (some od)/\∀name,PySem.W.lookIn name od=some (mA name) :=
 let ⟨od,ho,hl⟩:=oZ I.ns
 ⟨od,⟨I.obj,rfl,rfl,ho⟩,hl⟩
section
variable {prog:Program}{w:World}{A:Around}{E:Value->Shared->Prop}{s:Shared}{K:PySem.W.Frag}{x dx C f:Addr}{mA:Str->Option Value}{name:Str}{v:Value}
theorem uS {expr:Bool}{Q:Value->Shared->Prop}(X:K.In s.heap)(I:ObjM s.heap x dx C mA)(hg:PySem.W.plainGet K C name=true)(hh:PySem.W.hasDictIn K C=true)
  (ha:PySem.W.findIn K (.ref C) name=some none) (hv:mA name=some v) (hv':PySem.W.handedIn v=true) (h:Q v { s with toks:=s.toks+1 }) :
  wpAny (model prog w) A (getAttr (.ref x) name expr) Q E s:=by
 obtain ⟨od,J,hl⟩:=I.look
 exact PySem.W.get_value X J (PySem.W.plainGet_of hg).1 (PySem.W.findObj_own hh ha rfl (by rw [hl,hv])) hv' h
theorem rC {pl:Sem Bool}{Q:Value×List Value->Shared->Prop}(X:K.In s.heap)(I:ObjM s.heap x dx C mA)(hg:PySem.W.plainGet K C name=true)
  (hf:PySem.W.findIn K (.ref C) name=some (some (.ref f))) (ht:PySem.W.isFn K (.ref f)=true) (hv:mA name=none) (h:Q (.ref f,[.ref x]) s) :
  wpAny (model prog w) A (getMethod (.ref x) name pl) Q E s:=by
 obtain ⟨od,J,hl⟩:=I.look
 exact PySem.W.method_fn X J (PySem.W.plainGet_of hg).1 (PySem.W.plainGet_of hg).2 hf (beq_iff_eq.mp ht) (by show (PySem.W.lookIn name od).map (·.isSome)=some false;rw [hl,hv];rfl) h
theorem ue {ns:List Str}{Q:Unit->Shared->Prop}(X:K.In s.heap)(I:ObjM s.heap x dx C mA)
  (hs:PySem.W.findIn K (.ref C) "__setattr__"=some (some (.builtin "object.__setattr__"))) (hp:PySem.W.plainOver K C=true) (ht:PySem.W.takerIn K C name=some none) (hh:PySem.W.hasDictIn K C=true)
  (hw:PySem.Within mA ns) (hsz:ns.length<=sizeLine)
  (h:∀h',ObjM h' x dx C (fun y=>if y=name then some v else mA y)->Heap.SameBut dx s.heap h'->Q () { s with heap:=h',toks:=s.toks+2 }) :
  wpAny (model prog w) A (setAttr (.ref x) name v) Q E s:=by
 obtain ⟨od,J,hl⟩:=I.look
 refine PySem.W.set_plain X J hs (PySem.W.osa_open (s:={ s with toks:=s.toks+1 }) (r:=none) X J hp ht fun b=>?_)
 obtain ⟨cd,hc,hd'⟩:=PySem.W.any_some hh
 have hx:s.heap.get? x=some ⟨.ref C,some dx,.plain,#[]⟩:=I.obj
 refine wpAny_bind (wpAny_pure (wpAny_bind (wpAny_bind (wpAny_loadPart hx (wpAny_bind (PySem.W.Looks.here (s:={ s with toks:=s.toks+1 }) (PySem.W.looks_clsIn X hc) ?_))))))
 rw [hd']
 refine wpAny_pure (a:=some dx) (wpAny_bind (wpAny_pure (wpAny_bind ?_)))
 refine wpAny_nsSet1 (s:={ s with toks:=s.toks+1 }) I.ns fun h' hn2 hs2=>?_
 obtain ⟨oD,esD,epD,hoD,hdD,hcD⟩:=hn2.count (PySem.Within.cons name v hw)
 refine wpAny_bind (wpAny_lookBehind hoD (by rw [hdD];exact pastItsLine_dict (Nat.le_trans hcD (by rw [List.length_cons];lia))) ?_)
 exact wpAny_pure (h _ ⟨(hs2.2 _ (Ne.symm I.ne)).trans I.obj,hn2,I.ne⟩ hs2)
theorem rX {R:Result->Shared->Prop}{vs:List Value}{kw:List (Str×Value)}(X:K.In s.heap)(hm:PySem.W.makesIn K C=true)
  (hi:PySem.W.findIn K (.ref C) "__init__"=some (some (.ref f))) (hf:PySem.W.typeIn K (.ref f)=some (.type "function"))
  (h:codeAny (model prog w) (A.under (.builtin "type.__call__" ⟨.ref C::vs,kw⟩)) (.call (.ref f) ⟨.ref (s.heap.objs.size+1)::vs,kw⟩) (PySem.W.InitBack (s.heap.objs.size+1) R)
   { s with heap:=(s.heap.push PySem.W.emptyDict).push (PySem.W.instObj C s.heap.objs.size) }) :
  codeAny (model prog w) A (.call (.ref C) ⟨vs,kw⟩) R s:=by
 obtain ⟨hh,g,d,t,os⟩:=s
 exact PySem.W.make_core (PySem.W.makes_of X hm) (PySem.W.looks_findIn X hi) (fun self=>PySem.W.bind_fn X self hf) (.inl rfl) h
end
def bu (f:Str)(v:V):List (Str×V)->List (Str×V)
 | []=>[(f,v)]
 | (g,x)::r=>if g=f then (g,v)::r else (g,x)::bu f v r
theorem cX (f g:Str)(v:V):∀fs:List (Str×V),(bu f v fs).lookup g=if g=f then some v else fs.lookup g
 | []=>by
  show List.lookup g [(f,v)]=_
  by_cases h:g=f
  .have hb:(g == f)=true:=beq_iff_eq.mpr h
   simp only [List.lookup,hb,if_pos h]
  .have hb:(g == f)=false:=beq_eq_false_iff_ne.mpr h
   simp only [List.lookup,hb,if_neg h]
 | (k,x)::r=>by
  have ih:=cX f g v r
  rw [show bu f v ((k,x)::r)=(if k=f then (k,v)::r else (k,x)::bu f v r) from rfl]
  by_cases hk:k=f
  .rw [if_pos hk]
   by_cases h:g=k
   .have hb:(g == k)=true:=beq_iff_eq.mpr h
    simp only [List.lookup,hb,if_pos (h.trans hk)]
   .have hb:(g == k)=false:=beq_eq_false_iff_ne.mpr h
    simp only [List.lookup,hb,if_neg (fun e:g=f=>h (e.trans hk.symm))]
  .rw [if_neg hk]
   by_cases h:g=k
   .have hb:(g == k)=true:=beq_iff_eq.mpr h
    simp only [List.lookup,hb,if_neg (fun e:g=f=>hk (h.symm.trans e))]
   .have hb:(g == k)=false:=beq_eq_false_iff_ne.mpr h
    simp only [List.lookup,hb]
    exact ih
theorem fO (f:Str)(v:V):∀fs:List (Str×V),f∈(bu f v fs).map (·.1)/\∀g,g∈fs.map (·.1)->g∈(bu f v fs).map (·.1)
 | []=>⟨by simp [bu],fun g h=>by simp at h⟩
 | (k,x)::r=>by
  obtain ⟨i1,i2⟩:=fO f v r
  rw [show bu f v ((k,x)::r)=(if k=f then (k,v)::r else (k,x)::bu f v r) from rfl]
  by_cases hk:k=f
  .rw [if_pos hk]
   subst hk
   exact ⟨by simp,fun g h=>by simpa using h⟩
  .rw [if_neg hk]
   refine ⟨?_,fun g h=>?_⟩
   .rw [List.map_cons]
    exact List.mem_cons_of_mem _ i1
   .rw [List.map_cons] at h ⊢
    rcases List.mem_cons.mp h with e | e
    .exact List.mem_cons.mpr (.inl e)
    .exact List.mem_cons_of_mem _ (i2 g e)
theorem gt (f:Str)(v:V):∀fs:List (Str×V),(bu f v fs).length<=fs.length+1
 | []=>by simp [bu]
 | (k,x)::r=>by
  have ih:=gt f v r
  rw [show bu f v ((k,x)::r)=(if k=f then (k,v)::r else (k,x)::bu f v r) from rfl]
  by_cases hk:k=f
  .rw [if_pos hk,List.length_cons,List.length_cons];lia
  .rw [if_neg hk,List.length_cons,List.length_cons];lia
theorem RelO.some_of {v:V}{o:Option Value}(r:RelO (some v) o):∃ u,o=some u/\RelV v u:=by
 cases o with
 | none=>exact (show False from r).elim
 | some u=>exact ⟨u,rfl,r⟩
theorem RelO.none_of {o:Option Value}(r:RelO none o):o=none:=by
 cases o with
 | none=>rfl
 | some u=>exact (show False from r).elim
theorem oO {v:V}{u:Value}(r:RelV v u):PySem.W.handedIn u=true:=by
 cases v with
 | non=>cases (show u=Value.none from r);rfl
 | bl b=>cases (show u=Value.bool b from r);rfl
 | int i=>obtain ⟨t,e⟩:=(show ∃ t,u=Value.int i t from r);cases e;rfl
 | str x=>obtain ⟨t,e⟩:=(show ∃ t,u=Value.str x t from r);cases e;rfl
 | byt b=>obtain ⟨t,e⟩:=(show ∃ t,u=Value.bytes b t from r);cases e;rfl
 | flt b=>obtain ⟨t,e⟩:=(show ∃ t,u=Value.float b t from r);cases e;rfl
 | ref a=>cases (show u=Value.ref a from r);rfl
 | ty n=>cases (show u=Value.type n from r);rfl
section
variable {P:Program}{w:World}{H H':Hp}{h h':Heap}{a C dx:Addr}{fs fs':List (Str×V)}
theorem jr (hok:HOk P w H h)(e:H a=some (.ins C dx fs)):∃ mA,ObjM h a dx C mA/\(∀f,RelO (fs.lookup f) (mA f))/\PySem.Within mA (fs.map (·.1))/\fs.length<=1000/\H dx=some (.own a):=by
 obtain ⟨d,z,ne,ob,mA,n,r,q⟩:=(show ObjOk P w H h a (.ins C dx fs) from hok a _ e)
 exact ⟨mA,⟨ob,n,ne⟩,r,q,z,d⟩
end
structure Cls (K:PySem.W.Frag)(C:Addr):Prop where
 pg:PySem.W.plainGet K C Str.empty=true
 hd:PySem.W.hasDictIn K C=true
 po:PySem.W.plainOver K C=true
 sa:PySem.W.findIn K (.ref C) "__setattr__"=some (some (.builtin "object.__setattr__"))
theorem Cls.get {K:PySem.W.Frag}{C:Addr}(c:Cls K C)(f:Str):PySem.W.plainGet K C f=true:=c.pg
def NoAttr (K:PySem.W.Frag)(C:Addr)(f:Str):Prop:=PySem.W.findIn K (.ref C) f=some none
theorem NoAttr.taker {K:PySem.W.Frag}{C:Addr}{f:Str}(n:NoAttr K C f):PySem.W.takerIn K C f=some none:=by
 unfold PySem.W.takerIn
 rw [show PySem.W.findIn K (.ref C) f=some none from n]
 rfl
structure aZ (K:PySem.W.Frag)(C:Addr)(m:Str)(f:Addr):Prop where
 at_:PySem.W.findIn K (.ref C) m=some (some (.ref f))
 fn:PySem.W.isFn K (.ref f)=true
 kp:PySem.W.keepIn K (.ref f)=true
section
variable {X:Cx}{pins:List (Addr×Obj)}{σ:St}{H:Hp}{s:Shared}{a C dx:Addr}{fs:List (Str×V)}{f:Str}{v:V}{A:Around}{E:Value->Shared->Prop}
theorem l5 {b:Bool}{Q:Value->Shared->Prop}(I:Inv X pins σ H s)(e:H a=some (.ins C dx fs))(c:Cls X.K C)(n:NoAttr X.K C f)(l:fs.lookup f=some v)
  (h:∀u s',Inv X pins σ H s'->RelV v u->Q u s'):wpAny (model X.prog X.w) A (getAttr (.ref a) f b) Q E s:=by
 obtain ⟨mA,O,r,_,_,_⟩:=jr I.hok e
 obtain ⟨u,hu,ru⟩:=RelO.some_of (v:=v) (o:=mA f) (by rw [<-l];exact r f)
 exact uS I.kIn O (c.get f) c.hd n hu (oO ru) (h u _ (I.tok _) ru)
theorem gI {m:Str}{g:Addr}{pl:Sem Bool}{Q:Value×List Value->Shared->Prop}(I:Inv X pins σ H s)(e:H a=some (.ins C dx fs))(c:Cls X.K C)(k:aZ X.K C m g)(l:fs.lookup m=none)
  (h:Q (.ref g,[.ref a]) s):wpAny (model X.prog X.w) A (getMethod (.ref a) m pl) Q E s:=by
 obtain ⟨mA,O,r,_,_,_⟩:=jr I.hok e
 have hn:mA m=none:=RelO.none_of (by rw [<-l];exact r m)
 exact rC I.kIn O (c.get m) k.at_ k.fn hn h
theorem lP {y:V}{u:Value}{Q:Unit->Shared->Prop}(I:Inv X pins σ H s)(e:H a=some (.ins C dx fs))(c:Cls X.K C)(n:NoAttr X.K C f)(hl:fs.length<1000)(ry:RelV y u)
  (h:∀s',Inv X pins σ (upd H a (.ins C dx (bu f y fs))) s'->Q () s'):wpAny (model X.prog X.w) A (setAttr (.ref a) f u) Q E s:=by
 obtain ⟨mA,O,r,wi,_,ho⟩:=jr I.hok e
 have hz:(fs.map (·.1)).length<=sizeLine:=by rw [List.length_map,sizeLine_eq];lia
 refine ue I.kIn O c.sa c.po n.taker c.hd wi hz fun h' O' sb=>h _ ?_
 have hd:∃ o,h'.get? dx=some o:=let ⟨o,_,_,e',_⟩:=O'.ns;⟨o,e'⟩
 refine I.write (x:=a) (e:=dx) (by rw [e];exact True.intro) (.inr ho) (fun b q hb z=>(sb.2 b hb).trans z) hd ?_
 refine ⟨by rw [ak O.ne];exact ho,?_,O.ne,O'.obj,_,O'.ns,fun g=>?_,fun g hg=>?_⟩
 .have:=gt f y fs;lia
 .show RelO ((bu f y fs).lookup g) (if g=f then some u else mA g)
  rw [cX]
  by_cases q:g=f
  .rw [if_pos q,if_pos q];exact ry
  .rw [if_neg q,if_neg q];exact r g
 .by_cases q:g=f
  .rw [q];exact (fO f y fs).1
  .refine (fO f y fs).2 g (wi g fun z=>hg ?_)
   show (if g=f then some u else mA g)=none
   rw [if_neg q];exact z
theorem Inv.made (I:Inv X pins σ H s):Inv X pins σ (upd (upd H s.heap.objs.size (.own (s.heap.objs.size+1))) (s.heap.objs.size+1) (.ins C s.heap.objs.size []))
  { s with heap:=(s.heap.push PySem.W.emptyDict).push (PySem.W.instObj C s.heap.objs.size) }:=by
 have e1:(s.heap.push PySem.W.emptyDict).get? s.heap.objs.size=some PySem.W.emptyDict:=Heap.get?_push_size s.heap rfl
 have e2:((s.heap.push PySem.W.emptyDict).push (PySem.W.instObj C s.heap.objs.size)).get? (s.heap.objs.size+1)=some (PySem.W.instObj C s.heap.objs.size):=by
  have:=Heap.get?_push_size (s.heap.push PySem.W.emptyDict) (o:=PySem.W.instObj C s.heap.objs.size) rfl
  rwa [Heap.size_push] at this
 have e3:(s.heap.push PySem.W.emptyDict).Ns s.heap.objs.size (fun _=>none):=⟨PySem.W.emptyDict,#[],_,e1,rfl,(fun e he=>absurd he (by simp)),fun _=>rfl⟩
 have I1:=I.laid (a:=s.heap.objs.size) (o:=.own (s.heap.objs.size+1)) (h':=s.heap.push PySem.W.emptyDict) (t':=s.toks) (fun b u q=>Heap.get?_push_of_some _ q) (Nat.le_refl _) ⟨_,e1⟩
 refine I1.laid (a:=s.heap.objs.size+1) (o:=.ins C s.heap.objs.size []) (t':=s.toks) (fun b u q=>Heap.get?_push_of_some _ q) (Nat.le_of_eq (Heap.size_push _ _)) ?_
 have ne:s.heap.objs.size≠s.heap.objs.size+1:=Nat.ne_of_lt (Nat.lt_succ_self _)
 refine ⟨by rw [ak ne,ae],Nat.zero_le _,ne,e2,fun _=>none,(Heap.Ns1.of_empty e3).at fun o q=>Heap.get?_push_of_some _ q,fun _=>True.intro,fun y hy=>absurd rfl hy⟩
theorem tX {prog:Program}{w:World}{env:Env}{e:Expr}{f:Str}{pos:Pos}{s:Shared}{Q:Value->Shared->Prop}(hb:attributeBase e f env (eval e env)=eval e env)
  (h:wpAny (model prog w) A (eval e env) (fun o s₁=>wpAny (model prog w) A (getAttr o f true) Q E s₁) E s):wpAny (model prog w) A (eval (.Attribute e f pos) env) Q E s :=
 Attribute_any_ h (by rw [arm_eval_Attribute,hb])
end
def wZ (K:PySem.W.Frag)(ta:TE)(f:Str):TE:=fun σ H Q=>ta σ H fun x H1=>∃ a C dx fs v,x=.ref a/\H1 a=some (.ins C dx fs)/\Cls K C/\NoAttr K C f/\fs.lookup f=some v/\Q v H1
def yf (K:PySem.W.Frag)(ta tv:TE)(f:Str):TS:=fun D σ H=>tv σ H fun y H1=>ta σ H1 fun x H2=>∃ a C dx fs,x=.ref a/\H2 a=some (.ins C dx fs)/\Cls K C/\NoAttr K C f/\fs.length<1000 /\
 D.nx σ (upd H2 a (.ins C dx (bu f y fs)))
section
variable {X:Cx}{o e value:Expr}{f:Str}{pos pos' tpos:Pos}{ta tv:TE}
theorem v4 (he:PE X e ta)(hb:attributeBase e f X.env (eval e X.env)=eval e X.env):PE X (.Attribute e f pos) (wZ X.K ta f):=by
 intro pins s σ H Q I h
 refine tX hb (thn (he pins s σ H _ I h) fun u s1 ⟨x,H1,I1,rx,a,C,dx,fs,v,ex,ea,c,n,l,q⟩=>?_)
 subst ex
 obtain rfl:u=Value.ref a:=rx
 exact l5 I1 ea c n l fun u' s2 I2 ru=>⟨v,H1,I2,ru,q⟩
theorem xf (ha:PE X o ta)(hv:PE X value tv)(hs:swapsWith value (some (.Attribute o f pos')) pos.line X.env=pure false):PS X (.Assign [.Attribute o f pos'] value pos) (yf X.K ta tv f):=by
 intro pins s σ H D I h
 refine plainObj_wpAny_Assign_Attribute (thn (hv pins s σ H _ I h) fun u s1 ⟨y,H1,I1,ry,q⟩=>thn (ha pins s1 σ H1 _ I1 q) fun ov s2 ⟨x,H2,I2,rx,a,C,dx,fs,ex,ea,c,n,l,q2⟩=>?_) hs
 subst ex
 obtain rfl:ov=Value.ref a:=rx
 exact lP I2 ea c n l ry fun s3 I3=>⟨σ,_,I3,q2⟩
end
section
variable {X:Cx}{pins:List (Addr×Obj)}{σ:St}{H:Hp}{s:Shared}{A:Around}{E:Value->Shared->Prop}{Q:Value->Shared->Prop}{c:Value}{b:Bool}
end
end L2
namespace L2
open PySem PySem.Spec PyProof.Rows
structure Room (k:Nat)(A:Around):Prop where
 hd:A.handled=none
 dp:A.depth+3*k+5<recursionLimit
 un:A.units+16*k+200<cLine
theorem Room.mono {j k:Nat}{A:Around}(r:Room k A)(h:j<=k):Room j A:=⟨r.hd,by have:=r.dp;lia,by have:=r.un;lia⟩
theorem Room.deeper {k:Nat}{A:Around}(r:Room (k+1) A)(env:Env):Room k (A.deeper env) :=
 ⟨r.hd,by have:=r.dp;show A.depth+1+3*k+5<_;lia,by have:=r.un;show A.units+3+16*k+200<_;lia⟩
theorem mj {A:Around}{C:Addr}{us:List Value}{kw:List (Str×Value)}:(A.under (.builtin "type.__call__" ⟨.ref C::us,kw⟩)).depth=A.depth+1:=by
 first | rfl | simp [Around.under,Code.weight,Code.isCreation,Code.isGuard,Code.isCaller,Code.frames,Code.isFrame,guardIds]
theorem lS {A:Around}{C:Addr}{us:List Value}{kw:List (Str×Value)}:(A.under (.builtin "type.__call__" ⟨.ref C::us,kw⟩)).units=A.units+1:=by
 first | rfl | simp [Around.under,Code.cUnits,Code.frames,Code.isFrame]
theorem Room.make {k:Nat}{A:Around}(r:Room (k+1) A)(C:Addr)(us:List Value)(kw:List (Str×Value)):Room k (A.under (.builtin "type.__call__" ⟨.ref C::us,kw⟩)) :=
 ⟨r.hd,by have:=r.dp;rw [mj];lia,by have:=r.un;rw [lS];lia⟩
theorem Room.depth {k:Nat}{A:Around}(r:Room k A):A.depth<recursionLimit:=by have:=r.dp;lia
theorem Room.units {k:Nat}{A:Around}(r:Room k A):A.units+64<cLine:=by have:=r.un;lia
theorem Room.units0 {k:Nat}{A:Around}(r:Room k A):A.units<cLine:=by have:=r.un;lia
def mo:TA:=fun _ H Q=>Q [] H
def u9 (ta:TE)(tr:TA):TA:=fun σ H Q=>ta σ H fun x H1=>tr σ H1 fun xs H2=>Q (x::xs) H2
section
variable {X:Cx}{e:Expr}{es:List Expr}{te:TE}{t:TA}{pos:Pos}
theorem rB:PA X [] mo:=fun _ _ _ _ H Q I h=>Calls.spliced_nil ⟨[],H,I,.nil,h⟩
theorem ng (ha:PE X e te)(hr:PA X es t)(hs:starEach (e::es) X.env=(false,eval e X.env)::starEach es X.env:=by rfl):PA X (e::es) (u9 te t):=by
 intro pos pins s σ H Q I h
 rw [hs]
 show wpAny _ _ (spliced ((false,eval e X.env)::backTo pos (starEach es X.env))) _ _ s
 refine Calls.spliced_cons (thn (ha pins s σ H _ I h) fun u s1 ⟨x,H1,I1,r1,q1⟩=>?_)
 exact thn (hr pos pins s1 σ H1 _ I1 q1) fun us s2 ⟨xs,H2,I2,r2,q2⟩=>⟨x::xs,H2,I2,.cons r1 r2,q2⟩
def x8 (t:TA):TE:=fun σ H Q=>t σ H fun xs H1=>xs.length<=sizeLine/\∀p,H1 p=none->Q (.ref p) (upd H1 p (.tup xs))
def xE (t:TA):TE:=fun σ H Q=>t σ H fun xs H1=>xs.length<=sizeLine/\∀p,H1 p=none->Q (.ref p) (upd H1 p (.lst xs))
theorem xc {x1}(h:PA X es t):PE X (.Tuple es x1 pos) (x8 t):=by
 intro pins s σ H Q I hq
 refine wpAny_Tuple_spliced (thn (h pos pins s σ H _ I hq) fun us s1 ⟨xs,H1,I1,r,z,q⟩=>⟨by rw [<-r.length];exact z,?_⟩)
 have hf:H1 s1.heap.objs.size=none:=I1.hok.fresh (Nat.le_refl _)
 refine ⟨.ref s1.heap.objs.size,upd H1 s1.heap.objs.size (.tup xs),I1.laid (t':=s1.toks) (fun b u e=>Heap.get?_push_of_some _ e) (Nat.le_refl _) ?_,rfl,q _ hf⟩
 exact ⟨z,us,r,⟨_,Heap.get?_push_size _ rfl,rfl,_,rfl⟩⟩
theorem wS (h:PA X es t):PE X (.List es pos) (xE t):=by
 intro pins s σ H Q I hq
 refine wpAny_List_spliced (thn (h pos pins s σ H _ I hq) fun us s1 ⟨xs,H1,I1,r,z,q⟩=>⟨by rw [<-r.length];exact z,?_⟩)
 have hf:H1 s1.heap.objs.size=none:=I1.hok.fresh (Nat.le_refl _)
 refine ⟨.ref s1.heap.objs.size,upd H1 s1.heap.objs.size (.lst xs),I1.laid (t':=s1.toks) (fun b u e=>Heap.get?_push_of_some _ e) (Nat.le_refl _) ?_,rfl,q _ hf⟩
 exact ⟨z,us,0,r,Heap.get?_push_size _ rfl⟩
end
abbrev Sp:=List V->Hp->VK->XK->Prop
abbrev CXT:=List Env->Hp->Shared->XK->Value->Shared->Prop
structure Env0 (P:Program)(w:World)(K:PySem.W.Frag)(mg:Str->Option Value)(base:Heap)(A:Around)(outer:List Env)(s:Shared)(H:Hp):Prop where
 frames:A.frames=some outer
 mod:Mod K mg base
 bs:∀b o,base.get? b=some o->s.heap.get? b=some o/\H b=none
 bsz:base.objs.size<=s.heap.objs.size
 funs:s.heap.FunFrames base outer
 frf:∀b∈frs outer,H b=none
 hok:HOk P w H s.heap
 bare:AllBare s.gens
def CE (outer:List Env)(P:Program)(w:World)(H:Hp)(s:Shared)(Q:VK)(u:Value)(s':Shared):Prop :=
 ∃ v H',s'.os=s.os/\AllBare s'.gens/\Un (frs outer) [] H H' s.heap s'.heap/\HOk P w H' s'.heap/\RelV v u/\Q v H'
def CR (CX:CXT)(outer:List Env)(P:Program)(w:World)(H:Hp)(s:Shared)(Q:VK)(E:XK)(r:Result)(s':Shared):Prop :=
 match r with
 | .ok (.ret u)=>CE outer P w H s Q u s'
 | .ok _=>False
 | .error e=>CX outer H s E e s'
structure aw (P:Program)(w:World)(K:PySem.W.Frag)(mg:Str->Option Value)(base:Heap)(CX:CXT)(k:Nat)(f:Addr)(fd:FuncData)(ps:List Str)(sp:Sp):Prop where
 len:∀vs H Q E,sp vs H Q E->vs.length=ps.length
 run:∀(A:Around) (outer:List Env) (s:Shared) (H:Hp) (args:Args) (us:List Value) (vs:List V) (Q:VK) (E:XK),Room k A->Env0 P w K mg base A outer s H->BindsTo s fd args (ps.zip us)->Vals vs us->sp vs H Q E ->
  codeAny (model P w) A (.call (.ref f) args) (CR CX outer P w H s Q E) s
theorem Env0.make {P:Program}{w:World}{K:PySem.W.Frag}{mg:Str->Option Value}{base:Heap}{A:Around}{outer:List Env}{s:Shared}{H:Hp}(e:Env0 P w K mg base A outer s H)(C:Addr)(us:List Value)(kw:List (Str×Value)) :
  Env0 P w K mg base (A.under (.builtin "type.__call__" ⟨.ref C::us,kw⟩)) outer s H:=⟨by first | exact e.frames | (simpa [Around.under,Code.envs,Code.isFrame,pushEnvs] using e.frames),e.mod,e.bs,e.bsz,e.funs,e.frf,e.hok,e.bare⟩
section
variable {X:Cx}{pins:List (Addr×Obj)}{σ:St}{H:Hp}{s s':Shared}
theorem Inv.env0 (I:Inv X pins σ H s):Env0 X.prog X.w X.K X.mg X.base X.A X.stack s H :=
 ⟨I.ok.frames,I.ok.mod,I.bs,Nat.le_trans I.ok.bsz I.sz,I.stack,I.stkFree,I.hok,I.bare⟩
theorem Inv.after {Q:VK}{u:Value}(I:Inv X pins σ H s)(h:CE X.stack X.prog X.w H s Q u s'):EP X pins σ Q u s':=by
 obtain ⟨v,H',os,bare,un,hok,r,q⟩:=h
 obtain ⟨hh,g,d,t,os'⟩:=s'
 obtain rfl:os'=s.os:=os
 exact ⟨v,H',I.call (h':=hh) (g':=g) (d':=d) (t':=t) (ch:=[]) un hok bare (fun b z=>absurd z (by simp)),r,q⟩
end
def nT (sp:Sp)(dvs:List V)(E:XK)(t:TA):TE:=fun σ H Q=>t σ H fun vs H1=>sp (vs++dvs) H1 Q E
def nH (C:Addr)(m:Str)(sp:Sp)(dvs:List V)(E:XK)(ta:TE)(t:TA):TE:=fun σ H Q=>ta σ H fun x H1=>∃ a dx fs,x=.ref a/\H1 a=some (.ins C dx fs)/\fs.lookup m=none /\
 t σ H1 fun vs H2=>sp (x::(vs++dvs)) H2 Q E
def vK (C:Addr)(sp:Sp)(dvs:List V)(E:XK)(t:TA):TE:=fun σ H Q=>t σ H fun vs H1=>∀x dx,H1 x=none->H1 dx=none->dx≠x ->
 sp (.ref x::(vs++dvs)) (upd (upd H1 dx (.own x)) x (.ins C dx [])) (fun v H2=>v=.non/\Q (.ref x) H2) E
def Binds (K:PySem.W.Frag)(fd:FuncData)(ps:List Str)(ds:List Value):Prop :=
 ∀(s:Shared) (us:List Value),K.In s.heap->(us++ds).length=ps.length->BindsTo s fd ⟨us,[]⟩ (ps.zip (us++ds))
theorem Binds.all {K:PySem.W.Frag}{fd:FuncData}{ps:List Str}(h:∀us:List Value,us.length=ps.length->bindArgs fd ⟨us,[]⟩=pure (ps.zip us)):Binds K fd ps []:=fun s us _ hl=>by
 rw [List.append_nil] at hl ⊢
 exact .of_eq (h us hl)
def bB (CX:CXT)(X:Cx)(E:XK):Prop:=∀(pins:List (Addr×Obj)) (σ:St) (H:Hp) (s:Shared) (e:Value) (s':Shared),Inv X pins σ H s->CX X.stack H s E e s'->X.xe e s'
section
variable {X:Cx}{CX:CXT}{k:Nat}{f C:Addr}{fd:FuncData}{ps:List Str}{sp:Sp}{dvs:List V}{ds:List Value}{E:XK}{x m:Str}{p pos apos:Pos}{e o:Expr}{es:List Expr}{ta:TE}{t:TA}
theorem jm {pins:List (Addr×Obj)}{σ:St}{H:Hp}{s:Shared}{Q:VK}{us:List Value}{vs:List V}(F:aw X.prog X.w X.K X.mg X.base CX k f fd ps sp)(hr:Room k X.A)(hb:Binds X.K fd ps ds)(hd:Vals dvs ds)(hx:bB CX X E)
  (I:Inv X pins σ H s) (r:Vals vs us) (h:sp (vs++dvs) H Q E):wpAny (model X.prog X.w) X.A (call (.ref f) us) (EP X pins σ Q) X.xe s:=by
 have r2:Vals (vs++dvs) (us++ds):=r.append hd
 have hl:(us++ds).length=ps.length:=by rw [<-r2.length];exact F.len _ _ _ _ h
 refine wpAny_call (codeAny_mono (F.run X.A X.stack s H ⟨us,[]⟩ (us++ds) (vs++dvs) Q E hr I.env0 (hb s us I.kIn hl) r2 h) fun r s' hq=>?_)
 cases r with
 | error e=>exact hx pins σ H s e s' I hq
 | ok fl =>
  cases fl with
  | ret u=>exact I.after hq
  | next=>exact False.elim hq
  | brk=>exact False.elim hq
  | cont=>exact False.elim hq
theorem ud (F:aw X.prog X.w X.K X.mg X.base CX k f fd ps sp)(hr:Room k X.A)(hg:Gl X x)(hm:X.mg x=some (.ref f))(hk:PySem.W.keepIn X.K (.ref f)=true)(hb:Binds X.K fd ps ds)(hd:Vals dvs ds)(hx:bB CX X E)
  (ha:PA X (e::es) t) (hdb:(x == ("__debug__":Str))=false:=by decide) (he:starEach (e::es) X.env=(false,eval e X.env)::starEach es X.env:=by rfl) (hpl:(backTo pos (starEach es X.env)).any (·.1)=false:=by rfl) :
  PE X (.Call (.Name x p) (e::es) [] pos) (nT sp dvs E t):=by
 intro pins s σ H Q I h
 refine wpAny_Call_Name_kw (dw I hg hm ?_ hdb)
 refine PySem.W.callWith_K (h₀:=X.base) I.ok.mod.kin hk (thn (ha pos pins s σ H _ I h) fun us s1 ⟨vs,H1,I1,r,q⟩=>⟨I1.kIn,?_⟩) he hpl
 exact jm F hr hb hd hx I1 r q
theorem uy {pl:Sem Bool}(he:PE X o ta)(c:Cls X.K C)(hm:aZ X.K C m f)(F:aw X.prog X.w X.K X.mg X.base CX k f fd ps sp)(hr:Room k X.A)(hb:Binds X.K fd ps ds)(hd:Vals dvs ds)(hx:bB CX X E)(ha:PA X (e::es) t)
  (hst:starEach (e::es) X.env=(false,eval e X.env)::starEach es X.env:=by rfl) (hpl:(backTo pos (starEach es X.env)).any (·.1)=false:=by rfl)
  (ht:eval (.Call (.Attribute o m apos) (e::es) [] pos) X.env=(do
   let ov <-eval o X.env
   standAt apos.atName
   let (f,first) <-holding [ov] (getMethod ov m pl)
   callWith pos f first (backTo pos (starEach (e::es) X.env)) (backToKw pos (keywordEach [] X.env))):=by rfl) :
  PE X (.Call (.Attribute o m apos) (e::es) [] pos) (nH C m sp dvs E ta t):=by
 intro pins s σ H Q I h
 refine PySem.W.methodCall_KW (pl:=pl) (thn (he pins s σ H _ I h) fun u s1 ⟨x,H1,I1,rx,a,dx,fs,ex,ea,l,q⟩=>?_) ht
 subst ex
 obtain rfl:u=Value.ref a:=rx
 refine gI I1 ea c hm l ?_
 refine PySem.W.callWith_K (first:=[.ref a]) (h₀:=X.base) I.ok.mod.kin hm.kp (thn (ha pos pins s1 σ H1 _ I1 q) fun us s2 ⟨vs,H2,I2,r,q2⟩=>⟨I2.kIn,?_⟩) hst hpl
 exact jm (us:=.ref a::us) (vs:=.ref a::vs) F hr hb hd hx I2 (.cons rfl r) q2
theorem qB {pl:Sem Bool}(he:PE X o ta)(c:Cls X.K C)(hm:aZ X.K C m f)(F:aw X.prog X.w X.K X.mg X.base CX k f fd ps sp)(hr:Room k X.A)(hb:Binds X.K fd ps ds)(hd:Vals dvs ds)(hx:bB CX X E)
  (ht:eval (.Call (.Attribute o m apos) [] [] pos) X.env=(do
   let ov <-eval o X.env
   standAt apos.atName
   let (f,first) <-holding [ov] (getMethod ov m pl)
   callWith pos f first (backTo pos (starEach [] X.env)) (backToKw pos (keywordEach [] X.env))):=by rfl) :
  PE X (.Call (.Attribute o m apos) [] [] pos) (nH C m sp dvs E ta mo):=by
 intro pins s σ H Q I h
 refine PySem.W.methodCall_KW (pl:=pl) (thn (he pins s σ H _ I h) fun u s1 ⟨x,H1,I1,rx,a,dx,fs,ex,ea,l,q⟩=>?_) ht
 subst ex
 obtain rfl:u=Value.ref a:=rx
 refine gI I1 ea c hm l ?_
 exact PySem.W.callWith_K0 (first:=[.ref a]) I1.kIn hm.kp (jm (us:=[.ref a]) (vs:=[.ref a]) F hr hb hd hx I1 (.cons rfl .nil) q)
structure Mk (K:PySem.W.Frag)(C f:Addr):Prop where
 makes:PySem.W.makesIn K C=true
 init:PySem.W.findIn K (.ref C) "__init__"=some (some (.ref f))
 fn:PySem.W.isFn K (.ref f)=true
 kp:PySem.W.keepIn K (.ref C)=true
theorem rF {pins:List (Addr×Obj)}{σ:St}{H:Hp}{s:Shared}{Q:VK}{us:List Value}{vs:List V}(M:Mk X.K C f)(F:aw X.prog X.w X.K X.mg X.base CX k f fd ps sp)(hr:Room (k+1) X.A)(hb:Binds X.K fd ps ds)(hd:Vals dvs ds)
  (hx:bB CX X E) (I:Inv X pins σ H s) (r:Vals vs us)
  (h:∀x dx,H x=none->H dx=none->dx≠x->sp (.ref x::(vs++dvs)) (upd (upd H dx (.own x)) x (.ins C dx [])) (fun v H2=>v=.non/\Q (.ref x) H2) E) :
  wpAny (model X.prog X.w) X.A (call (.ref C) us) (EP X pins σ Q) X.xe s:=by
 have hq:=h (s.heap.objs.size+1) s.heap.objs.size (I.hok.fresh (Nat.le_succ _)) (I.hok.fresh (Nat.le_refl _)) (Nat.ne_of_lt (Nat.lt_succ_self _))
 have I2:=Inv.made (C:=C) I
 have r2:Vals (V.ref (s.heap.objs.size+1)::(vs++dvs)) (Value.ref (s.heap.objs.size+1)::(us++ds)):=.cons rfl (r.append hd)
 have hl:(Value.ref (s.heap.objs.size+1)::us++ds).length=ps.length:=by
  have e:=r2.length
  rw [F.len _ _ _ _ hq] at e
  exact e.symm
 refine wpAny_call (rX (f:=f) I.kIn M.makes M.init (beq_iff_eq.mp M.fn) (codeAny_mono (F.run _ X.stack _ _ ⟨Value.ref (s.heap.objs.size+1)::us,[]⟩ (Value.ref (s.heap.objs.size+1)::(us++ds)) _ _ E (hr.make C us [])
  (I2.env0.make C us []) (hb _ (Value.ref (s.heap.objs.size+1)::us) I2.kIn hl) r2 hq) fun r s' hq'=>?_))
 cases r with
 | error e=>exact hx pins σ _ _ e s' I2 hq'
 | ok fl =>
  cases fl with
  | ret u =>
   obtain ⟨v,H',I3,rv,ev,q3⟩:=I2.after hq'
   subst ev
   exact ⟨rv,⟨V.ref (s.heap.objs.size+1),H',I3,rfl,q3⟩⟩
  | next=>exact False.elim hq'
  | brk=>exact False.elim hq'
  | cont=>exact False.elim hq'
theorem uN (M:Mk X.K C f)(F:aw X.prog X.w X.K X.mg X.base CX k f fd ps sp)(hr:Room (k+1) X.A)(hg:Gl X x)(hm:X.mg x=some (.ref C))(hb:Binds X.K fd ps ds)(hd:Vals dvs ds)(hx:bB CX X E)
  (ha:PA X (e::es) t) (hdb:(x == ("__debug__":Str))=false:=by decide) (he:starEach (e::es) X.env=(false,eval e X.env)::starEach es X.env:=by rfl) (hpl:(backTo pos (starEach es X.env)).any (·.1)=false:=by rfl) :
  PE X (.Call (.Name x p) (e::es) [] pos) (vK C sp dvs E t):=by
 intro pins s σ H Q I h
 refine wpAny_Call_Name_kw (dw I hg hm ?_ hdb)
 refine PySem.W.callWith_K (h₀:=X.base) I.ok.mod.kin M.kp (thn (ha pos pins s σ H _ I h) fun us s1 ⟨vs,H1,I1,r,q⟩=>⟨I1.kIn,?_⟩) he hpl
 exact rF M F hr hb hd hx I1 r q
end
section
variable {X:Cx}{CX:CXT}{k:Nat}{f C:Addr}{fd:FuncData}{ps ks:List Str}{sp:Sp}{E:XK}{x m:Str}{p pos apos kpos:Pos}{e o:Expr}{es:List Expr}{kws:List Keyword}{te ta:TE}{t tk:TA}{nm:Option Str}
variable {g:List Value->List Value->List Value}{gV:List V->List V->List V}
end
structure FnScope (N P:List Str)(sc:Scope):Prop where
 kind:sc.kind=.function
 co:sc.isCoroutine=false
 gen:sc.isGenerator=false
 nd:N.Nodup
 pre:N.take P.length=P
 par:∀x∈P,sc.names.lookup x=some .local∨sc.names.lookup x=some .cell
 nofree:∀y∈sc.names,y.2≠.free
theorem iA {kindOf:Str->Option NameKind}{x:Str}:∀{binds:List (Str×Value)} {m:Str->Option Value},(∀v,(x,v)∉binds)->bindL kindOf binds m x=m x
 | [],_,_=>rfl
 | (n,v)::r,m,h=>by
  unfold bindL
  rw [iA fun w hw=>h w (List.mem_cons_of_mem _ hw)]
  split
  .have:x≠n:=by rintro rfl;exact h v List.mem_cons_self
   simp [this]
  .rfl
theorem ie {kindOf:Str->Option NameKind}{x:Str}:∀{binds:List (Str×Value)} {m:Str->Option Value},(∀v,(x,v)∉binds)->bindC kindOf binds m x=m x
 | [],_,_=>rfl
 | (n,v)::r,m,h=>by
  unfold bindC
  rw [ie fun w hw=>h w (List.mem_cons_of_mem _ hw)]
  split
  .rfl
  .have:x≠n:=by rintro rfl;exact h v List.mem_cons_self
   simp [this]
theorem iY {kindOf:Str->Option NameKind}{x:Str}{v:Value}:∀{P:List Str} {vs:List Value} {i:Nat} {m:Str->Option Value},P.Nodup->P[i]?=some x->vs[i]?=some v->kindOf x=some .local ->
  bindL kindOf (P.zip vs) m x=some v
 | [],_,_,_,_,h,_,_=>by simp at h
 | _::_,[],_,_,_,_,h,_=>by simp at h
 | p::P,w::vs,0,m,nd,h1,h2,hk=>by
  simp at h1 h2;subst h1;subst h2
  show bindL kindOf ((p,w)::P.zip vs) m p=_
  unfold bindL
  rw [iA fun v hv=>(List.nodup_cons.mp nd).1 (List.of_mem_zip hv).1,if_pos hk]
  simp
 | p::P,w::vs,i+1,m,nd,h1,h2,hk=>by
  show bindL kindOf ((p,w)::P.zip vs) m x=_
  unfold bindL
  exact iY (i:=i) (List.nodup_cons.mp nd).2 (by simpa using h1) (by simpa using h2) hk
theorem i6 {kindOf:Str->Option NameKind}{x:Str}{v:Value}:∀{P:List Str} {vs:List Value} {i:Nat} {m:Str->Option Value},P.Nodup->P[i]?=some x->vs[i]?=some v->kindOf x≠some .local ->
  bindC kindOf (P.zip vs) m x=some v
 | [],_,_,_,_,h,_,_=>by simp at h
 | _::_,[],_,_,_,_,h,_=>by simp at h
 | p::P,w::vs,0,m,nd,h1,h2,hk=>by
  simp at h1 h2;subst h1;subst h2
  show bindC kindOf ((p,w)::P.zip vs) m p=_
  unfold bindC
  rw [ie fun v hv=>(List.nodup_cons.mp nd).1 (List.of_mem_zip hv).1,if_neg hk]
  simp
 | p::P,w::vs,i+1,m,nd,h1,h2,hk=>by
  show bindC kindOf ((p,w)::P.zip vs) m x=_
  unfold bindC
  exact i6 (i:=i) (List.nodup_cons.mp nd).2 (by simpa using h1) (by simpa using h2) hk
def start (N:List Str)(vs:List V):St:=vs.map some++List.replicate (N.length-vs.length) none
def bh (CX:CXT)(P:Program)(w:World)(K:PySem.W.Frag)(mg:Str->Option Value)(base:Heap)(N:List Str)(qual:Str)(scope:Scope)(f:Addr)(cd:Value)(A:Around)(outer:List Env)(s:Shared)(H:Hp)(E:XK):Cx where
 prog:=P
 w:=w
 K:=K
 mg:=mg
 base:=base
 A:=A.deeper (envOfC qual scope s.heap.objs.size f cd)
 N:=N
 s₀:=s
 H₀:=H
 env:=envOfC qual scope s.heap.objs.size f cd
 outer:=outer
 stack:=envOfC qual scope s.heap.objs.size f cd::outer
 ex:=[]
 calm:=true
 fn:=fun _=>true
 pn:=[]
 xe:=fun e s'=>wpAny (model P w) (A.deeper (envOfC qual scope s.heap.objs.size f cd)) (leaving (envOfC qual scope s.heap.objs.size f cd) e) (fun _ s''=>CX outer H s E e s'') (fun e' s''=>CX outer H s E e' s'') s'
theorem bv {sc:Scope}{n:Nat}{x:Str}(h:sc.names.lookup x=some .cell):∃ c,(cellsFrom n sc.names []).lookup x=some c:=by
 have q:=PySem.W.cellsFrom_some sc.names n [] (.inl h)
 exact Option.isSome_iff_exists.mp q
theorem oX {CX:CXT}{P:Program}{w:World}{K:PySem.W.Frag}{mg:Str->Option Value}{base:Heap}{N ps:List Str}{qual:Str}{scope:Scope}{f:Addr}{cd:Value}{A:Around}{outer:List Env}{s s1:Shared}{H:Hp}{E:XK}{us:List Value}{vs:List V}
  (S:FnScope N ps scope) (hd:A.handled=none) (e0:Env0 P w K mg base A outer s H) (hl:vs.length=ps.length) (r:Vals vs us)
  (x:InCallC s s.heap.objs.size (bindL (envOfC qual scope s.heap.objs.size f cd).kindOf (ps.zip us) fun _=>none) (cellsFrom (s.heap.objs.size+1) scope.names []) (bindC (envOfC qual scope s.heap.objs.size f cd).kindOf (ps.zip us) fun _=>none) s1) :
  Inv (bh CX P w K mg base N qual scope f cd A outer s H E) [] (start N vs) H s1:=by
 have hpl:ps.length<=N.length:=by have:=congrArg List.length S.pre;rw [List.length_take] at this;lia
 obtain ⟨h1,tk,rfl,hk⟩:=x.done
 have noA:∀b:Addr,b∉(bh CX P w K mg base N qual scope f cd A outer s H E).ex:=fun b z=>absurd (show b∈([]:List Addr) from z) (by simp)
 refine ⟨⟨e0.mod,S.kind,rfl,rfl,Nat.le_refl _,fun y z c h1 h2=>?_,fun y hy=>?_,fun y c _ h=>?_,fun _=>hd,Around.frames_deeper e0.frames,.inr ⟨rfl,rfl⟩,fun b z=>absurd z (noA b),e0.bs,e0.bsz,fun b _ _=>noA b,fun b z=>absurd z (noA b),e0.funs,e0.frf⟩,
  rfl,e0.bare,Un.kept hk,⟨_,x.toInCall.ns,fun i y v h1 h2 h3=>?_⟩,fun y c h=>⟨_,x.cell y c h⟩,e0.hok.fresh (Nat.le_refl _),fun y c h=>?_,fun p hp=>absurd (show p∈([]:List (Addr×Obj)) from hp) (by simp),e0.hok.kept hk,?_⟩
 .exact name_of_addr x.apart (PySem.mem_of_lookup h1) (PySem.mem_of_lookup h2)
 .have hy:scope.names.lookup y=some .cell∨scope.names.lookup y=some .free:=hy
  rcases hy with hy | hy
  .exact bv hy
  .exact absurd rfl (S.nofree _ (PySem.mem_of_lookup hy))
 .exact Nat.le_of_lt (x.above y c (PySem.mem_of_lookup h))
 .have hi:i<vs.length:=by
   unfold start at h2
   by_cases hi:i<vs.length
   .exact hi
   .rw [List.getElem?_append_right (by simpa using hi)] at h2
    rw [List.getElem?_replicate] at h2
    split at h2 <;> cases h2
  have ha:vs[i]?=some v:=by
   unfold start at h2
   rw [List.getElem?_append_left (by simpa using hi),List.getElem?_map] at h2
   cases e:vs[i]? with
   | none=>rw [e] at h2;cases h2
   | some a=>rw [e] at h2;cases h2;rfl
  obtain ⟨u,hu,rv⟩:=r.get ha
  have hp:ps[i]?=some y:=by
   rw [<-S.pre,List.getElem?_take_of_lt (by lia)];exact h1
  have ndP:ps.Nodup:=by rw [<-S.pre];exact S.nd.sublist (List.take_sublist _ _)
  refine ⟨u,rv,?_⟩
  rcases S.par y (List.mem_of_getElem? hp) with k | k
  .exact .inl ⟨k,iY ndP hp hu k⟩
  .obtain ⟨c,e⟩:=bv (n:=s.heap.objs.size+1) k
   refine .inr ⟨.inl k,c,e,?_⟩
   have q:=x.cell y c e
   rw [i6 ndP hp hu (by show scope.names.lookup y≠_;rw [k];decide)] at q
   exact q
 .exact e0.hok.fresh (Nat.le_of_lt (x.above y c (PySem.mem_of_lookup h)))
 .unfold start
  show _=N.length
  rw [List.length_append,List.length_map,List.length_replicate]
  lia
theorem vQ {CX:CXT}{P:Program}{w:World}{K:PySem.W.Frag}{mg:Str->Option Value}{base:Heap}{k:Nat}{f:Addr}{name qual:Str}{params:Arguments}{body:List Stmt}{scope:Scope}{dV kV doc pm cdv ct oc:Value}{an od:Option Addr}
  {osl:Array (Option Value)} {N ps:List Str} {sp:Sp} (lk:K.lookup f=some ⟨oc,od,.func (PySem.W.fnOf name qual params body scope dV kV doc pm an cdv ct),osl⟩) (hcd:PySem.W.codeIn K cdv qual=true) (S:FnScope N ps scope)
  (len:∀vs H Q E,sp vs H Q E->vs.length=ps.length)
  (hbody:∀(A:Around) (outer:List Env) (s:Shared) (H:Hp) (vs:List V) (Q:VK) (E:XK),Room k (A.deeper (envOfC qual scope s.heap.objs.size f cdv))->sp vs H Q E ->
   ∃ t,PSs (bh CX P w K mg base N qual scope f cdv A outer s H E) body t/\t { nx:=fun _ H'=>Q .non H',rt:=Q } (start N vs) H) :
  aw P w K mg base CX (k+1) f (PySem.W.fnOf name qual params body scope dV kV doc pm an cdv ct) ps sp:=by
 refine ⟨len,fun A outer s H args us vs Q E hr e0 hb r hsp=>?_⟩
 have hl:=len _ _ _ _ hsp
 have KX:K.In s.heap:=e0.mod.kin.keeps fun b o e=>(e0.bs b o e).1
 have lim:s.heap.NoLimit:=e0.mod.nolimit.keeps fun b o e=>(e0.bs b o e).1
 have hkind:∀y∈ps.zip us,scope.names.lookup y.1=some .local∨(scope.names.lookup y.1=some .cell/\((cellsFrom (s.heap.objs.size+1) scope.names []).lookup y.1).isSome=true):=fun ⟨n,v⟩ hy=>by
  rcases S.par n (List.of_mem_zip hy).1 with q | q
  .exact .inl q
  .exact .inr ⟨q,PySem.W.cellsFrom_some _ _ _ (.inl q)⟩
 refine codeAny_call_function hr.depth (KX _ _ lk) rfl S.co S.gen rfl (PySem.W.codeRec_of KX hcd) (hb _ _ _ _ ?_)
 refine wpAny_newFunctionEnv_cells S.kind hkind fun env he s1 x=>?_
 subst he
 refine ⟨lim.keeps x.toInCall.keep,codeAny_func ?_⟩
 obtain ⟨t,ht,hq⟩:=hbody A outer s H vs Q E (hr.deeper _) hsp
 have I:Inv (bh CX P w K mg base N qual scope f cdv A outer s H E) [] (start N vs) H s1:=oX S hr.hd e0 hl r x
 refine wpAny_mono (ht [] s1 (start N vs) H _ I hq) (fun fl s' hs=>?_) fun e s' hs=>hs
 have fin:∀{σ':St} {H':Hp} {v:V} {u:Value},Inv (bh CX P w K mg base N qual scope f cdv A outer s H E) [] σ' H' s'->RelV v u->Q v H'->CE outer P w H s Q u s' :=
  fun {σ' H' v u} J rv q=>⟨v,H',J.os,J.bare,J.base,J.hok,rv,q⟩
 cases fl with
 | ret u =>
  obtain ⟨v,σ',H',J,rv,q⟩:=hs
  exact fin J rv q
 | next =>
  obtain ⟨σ',H',J,q⟩:=hs
  exact fin (v:=V.non) (u:=Value.none) J rfl q
 | brk =>
  obtain ⟨_,_,_,q⟩:=hs
  exact False.elim q
 | cont =>
  obtain ⟨_,_,_,q⟩:=hs
  exact False.elim q
end L2
namespace L2
open PySem PySem.Spec PyProof.Rows
section
variable {X:Cx}{x:Str}{p pos:Pos}{e:Expr}{es:List Expr}{t:TA}{id T:String}{r:List V->Hp->VK->Prop}
def tCB (r:List V->Hp->VK->Prop)(t:TA):TE:=fun σ H Q=>t σ H fun vs H1=>r vs H1 Q
theorem qk (hc:bH X (.builtin id) r)(hg:Gl X x)(hm:X.mg x=none)(hv:bootBuiltins x=some (.builtin id))(ha:PA X (e::es) t)(hn:x≠"__name__":=by decide)(hdb:(x == ("__debug__":Str))=false:=by decide)
  (he:starEach (e::es) X.env=(false,eval e X.env)::starEach es X.env:=by rfl) (hpl:(backTo pos (starEach es X.env)).any (·.1)=false:=by rfl):PE X (.Call (.Name x p) (e::es) [] pos) (tCB r t):=by
 intro pins s σ H Q I h
 refine wpAny_Call_Name_kw (gK I hg hm hv ?_ hn hdb)
 exact PyProof.Rows.callWith_builtin1 (thn (ha pos pins s σ H _ I h) fun us s1 ⟨vs,H1,I1,r1,q1⟩=>hc pins s1 σ H1 vs us Q I1 r1 q1) he hpl
theorem oI (hc:bH X (.type T) r)(hg:Gl X x)(hm:X.mg x=none)(hv:bootBuiltins x=some (.type T))(ha:PA X (e::es) t)(hn:x≠"__name__":=by decide)(hdb:(x == ("__debug__":Str))=false:=by decide)
  (he:starEach (e::es) X.env=(false,eval e X.env)::starEach es X.env:=by rfl) (hpl:(backTo pos (starEach es X.env)).any (·.1)=false:=by rfl):PE X (.Call (.Name x p) (e::es) [] pos) (tCB r t):=by
 intro pins s σ H Q I h
 refine wpAny_Call_Name_kw (gK I hg hm hv ?_ hn hdb)
 exact PyProof.Rows.callWith_type1 (thn (ha pos pins s σ H _ I h) fun us s1 ⟨vs,H1,I1,r1,q1⟩=>hc pins s1 σ H1 vs us Q I1 r1 q1) he hpl
end
end L2
namespace HT
open PySem PyProof.Rows
section
open PySem.SeqAt
open PySem.AutoSeq1 (wpAny_loadPart')
open PySem.MeetsSeq PySem.MeetsSeq2 PySem.MeetsSeq3
end
section
variable {prog:Program}{w:World}{A:Around}{E:Value->Shared->Prop}{s:Shared}
theorem cat_tup {t b:Addr}{vs ws:List Value}{Q:Value->Shared->Prop}(ht:IsTup s.heap t vs.toArray)(hb:IsTup s.heap b ws.toArray)(hv:vs≠[])
  (h1:ws=[]->Q (.ref t) s) (h2:ws≠[]->Q (.ref s.heap.objs.size) { s with heap:=s.heap.push { cls:=.type "tuple",data:=.seq (vs++ws).toArray } })
  (hsz:vs.length+ws.length<=sizeLine):wpAny (model prog w) A (binaryOp .Add (.ref t) (.ref b)) Q E s:=by
 obtain ⟨⟨cls,dd,data,sl⟩,ho,hc,n,hd⟩:=id ht
 obtain ⟨⟨cls2,dd2,data2,sl2⟩,ho2,hc2,n2,hd2⟩:=id hb
 simp only at hc hd hc2 hd2
 subst hc hd hc2 hd2
 have e:vs.toArray++ws.toArray=(vs++ws).toArray:=by simp
 by_cases hw:ws=[]
 .exact concat_meets ⟨_,ho,rfl⟩ ⟨_,ho2,rfl⟩ noFill_tuple_add seq_tuple_add PySem.F.slot_tuple_add PySem.F.entry_tuple_add (PySem.F.args_tuple_add_2 _ _)
   (tuple_addW1 t b vs.toArray ws.toArray n n2 dd dd2 sl sl2 (by simpa using hv) (by simp [hw])) ⟨ho,ho2,h1 hw⟩
 .refine concat_meets ⟨_,ho,rfl⟩ ⟨_,ho2,rfl⟩ noFill_tuple_add seq_tuple_add PySem.F.slot_tuple_add PySem.F.entry_tuple_add (PySem.F.args_tuple_add_2 _ _)
   (tuple_addW2 t b vs.toArray ws.toArray n n2 dd dd2 sl sl2 (by simpa using hv) (by simpa using hw) (by rw [List.size_toArray,List.size_toArray];exact hsz)) ⟨ho,ho2,?_⟩
  rw [e]
  exact h2 hw
def sIx (n d:Nat):Option Int->Nat
 | none=>d
 | some v=>if v<0 then (v+(n:Int)).toNat else min v.toNat n
end
end HT
namespace L2
open PySem PySem.Spec PyProof.Rows
abbrev TO:=St->Hp->(Option Int->Hp->Prop)->Prop
def PO (X:Cx)(e:Option Expr)(t:TO):Prop :=
 ∀(pins:List (Addr×Obj)) (s:Shared) (σ:St) (H:Hp) (Q:Option Int->Hp->Prop),Inv X pins σ H s->t σ H Q ->
  wpAny (model X.prog X.w) X.A (evalPart e X.env) (fun u s'=>∃ o H',Inv X pins σ H' s'/\IsPart u o/\Q o H') X.xe s
def n9:TO:=fun _ H Q=>Q none H
def vf (t:TE):TO:=fun σ H Q=>t σ H fun x H1=>∃ i,x=.int i/\Q (some i) H1
section
variable {X:Cx}{e:Expr}{te:TE}{lo hi:Option Expr}{tl th:TO}{pos p2:Pos}
theorem tD:PO X none n9:=by
 intro pins s σ H Q I h
 rw [evalPart_none]
 exact wpAny_pure ⟨none,H,I,.none,h⟩
theorem tu (h:PE X e te):PO X (some e) (vf te):=by
 intro pins s σ H Q I hw
 rw [evalPart_some]
 refine thn (h pins s σ H _ I hw) fun u s1 ⟨x,H1,I1,r1,q1⟩=>?_
 obtain ⟨i,rfl,q⟩:=q1
 obtain ⟨t,rfl⟩:=r1
 exact ⟨some i,H1,I1,.int i t,q⟩
def SlR (X:Cx)(r:V->Option Int->Option Int->Hp->VK->Prop):Prop :=
 ∀(pins:List (Addr×Obj)) (s:Shared) (σ:St) (H:Hp) (x:V) (v vl vu:Value) (lo hi:Option Int) (sl:Addr) (Q:VK),Inv X pins σ H s->RelV x v->s.heap.IsSliceOf sl vl vu .none->IsPart vl lo->IsPart vu hi->r x lo hi H Q ->
  ∃ T id,typeLookup (.type T) "__getitem__"=pure (some (.builtin id))/\s.TypeIs v T/\wpAny (model X.prog X.w) X.A (getItem v (.ref sl)) (EP X pins σ Q) X.xe s
def tSl (r:V->Option Int->Option Int->Hp->VK->Prop)(te:TE)(tl th:TO):TE:=fun σ H Q=>te σ H fun x H1=>tl σ H1 fun l H2=>th σ H2 fun u H3=>r x l u H3 Q
theorem rM {r:V->Option Int->Option Int->Hp->VK->Prop}(hr:SlR X r)(he:PE X e te)(hl:PO X lo tl)(hu:PO X hi th):PE X (.Subscript e (.Slice lo hi none p2) pos) (tSl r te tl th):=by
 intro pins s σ H Q I h
 refine Subscript_ (thn (he pins s σ H _ I h) fun v s1 ⟨x,H1,I1,r1,q1⟩=>?_)
 refine wpAny_Slice (thn (hl pins s1 σ H1 _ I1 q1) fun vl s2 ⟨l,H2,I2,pl,q2⟩=>thn (hu pins s2 σ H2 _ I2 q2) fun vu s3 ⟨u,H3,I3,pu,q3⟩=>?_)
 rw [evalPart_none]
 refine wpAny_pure ?_
 have I4:Inv X pins σ H3 { s3 with heap:=s3.heap.push { cls:=.type "slice",data:=.fields #[vl,vu,.none] } }:=I3.kept (t':=s3.toks) fun b ob q=>Heap.get?_push_of_some _ q
 obtain ⟨T,id,hT,ht,hg⟩:=hr pins { s3 with heap:=s3.heap.push { cls:=.type "slice",data:=.fields #[vl,vu,.none] } } σ H3 x v vl vu l u s3.heap.objs.size Q I4 r1 (Heap.IsSliceOf.new ..) pl pu q3
 show wpAny (model X.prog X.w) X.A (subscriptTail e (.Slice lo hi none p2) v (.ref s3.heap.objs.size)) (EP X pins σ Q) X.xe { s3 with heap:=s3.heap.push { cls:=.type "slice",data:=.fields #[vl,vu,.none] } }
 exact tail_any (ops:=[.ref s3.heap.objs.size,v]) ht hT hg (by with_unfolding_all rfl)
def jv (xs:List V)(lo hi:Option Int):List V:=(xs.drop (HT.sIx xs.length 0 lo)).take (HT.sIx xs.length xs.length hi-HT.sIx xs.length 0 lo)
theorem cR (xs:List V)(lo hi:Option Int):(jv xs lo hi).length<=xs.length:=by
 unfold jv
 rw [List.length_take,List.length_drop]
 lia
def xm (K:PySem.W.Frag):R2:=fun x y H Q=>∃ a b xs ys,x=.ref a/\y=.ref b/\SqT K H a xs/\SqT K H b ys/\xs≠[]/\xs.length+ys.length<=sizeLine /\
 (ys=[]->Q (.ref a) H)/\(ys≠[]->∀p,H p=none->Q (.ref p) (upd H p (.tup (xs++ys))))
theorem Vals.nil_iff {xs:List V}{us:List Value}(r:Vals xs us):us=[]↔xs=[]:=by
 cases r with
 | nil=>simp
 | cons _ _=>simp
theorem u3:OpR X (binaryOp .Add) (xm X.K):=by
 intro pins s σ H x y v u Q I rx ry h
 obtain ⟨a,b,xs,ys,rfl,rfl,ha,hb,hx,hz,q1,q2⟩:=h
 cases rx
 cases ry
 obtain ⟨its,r1,p1,_⟩:=I.tuple ha
 obtain ⟨its2,r2,p2,_⟩:=I.tuple hb
 refine HT.cat_tup p1 p2 (fun z=>hx (r1.nil_iff.mp z)) (fun z=>⟨.ref a,H,I,rfl,q1 (r2.nil_iff.mp z)⟩) (fun z=>?_) (by rw [<-r1.length,<-r2.length];exact hz)
 refine ⟨.ref s.heap.objs.size,_,I.laid (t':=s.toks) (o:=.tup (xs++ys)) (fun b ob q=>Heap.get?_push_of_some _ q) (Nat.le_refl _) ?_,rfl,q2 (fun w=>z (r2.nil_iff.mpr w)) _ (I.hok.fresh (Nat.le_refl _))⟩
 exact ⟨by rw [List.length_append];exact hz,_,r1.append r2,IsTup.new _ _⟩
end
end L2
namespace L2
open PySem PySem.Spec PyProof.Rows
def ixN (n:Nat)(i:Int):Option Nat:=if 0<=i then (if i<n then some i.toNat else none) else if -(n:Int)<=i then some (i+n).toNat else none
def atI {α:Type}(xs:List α)(i:Int):Option α:=(ixN xs.length i).bind fun j=>xs[j]?
theorem nI {n:Nat}{i:Int}{j:Nat}(h:ixN n i=some j):seqIndex? i n=some j/\j<n/\-(n:Int)<=i/\i<n:=by
 unfold ixN at h
 by_cases h0:0<=i
 .rw [if_pos h0] at h
  by_cases h1:i<n
  .rw [if_pos h1] at h
   have e:i.toNat=j:=Option.some.inj h
   exact ⟨by rw [seqIndex_of h0 h1,e],by lia,by lia,h1⟩
  .rw [if_neg h1] at h;cases h
 .rw [if_neg h0] at h
  by_cases h1:-(n:Int)<=i
  .rw [if_pos h1] at h
   have e:(i+n).toNat=j:=Option.some.inj h
   exact ⟨by rw [seqIndex_neg (by lia) h1,e],by lia,h1,by lia⟩
  .rw [if_neg h1] at h;cases h
theorem jg {α:Type}{xs:List α}{i:Int}{v:α}(h:atI xs i=some v):∃ j,seqIndex? i xs.length=some j/\xs[j]?=some v/\j<xs.length/\-(xs.length:Int)<=i/\i<xs.length:=by
 unfold atI at h
 cases e:ixN xs.length i with
 | none=>rw [e] at h;cases h
 | some j =>
  rw [e] at h
  obtain ⟨h1,h2,h3,h4⟩:=nI e
  exact ⟨j,h1,h,h2,h3,h4⟩
theorem cH {α:Type}{xs:List α}{j:Nat}{v:α}(h:xs[j]?=some v):atI xs (j:Int)=some v:=by
 have hj:j<xs.length:=(List.getElem?_eq_some_iff.mp h).1
 have e:ixN xs.length (j:Int)=some j:=by
  unfold ixN
  rw [if_pos (by lia),if_pos (by lia)];simp
 unfold atI;rw [e];exact h
def mR (b:Expr):Prop:=∀o i,subscripted b false o i=operate [o,i] (getItem o i)
def IxR (X:Cx)(r:R2):Prop :=
 ∀(value slice:Expr) (pins:List (Addr×Obj)) (s:Shared) (σ:St) (H:Hp) (x y:V) (v u:Value) (Q:VK),Inv X pins σ H s->RelV x v->RelV y u->r x y H Q ->
  subscripted slice false v u=operate [v,u] (getItem v u)->wpAny (model X.prog X.w) X.A (subscriptTail value slice v u) (EP X pins σ Q) X.xe s
def MtR (X:Cx)(id:String)(r:V->List V->Hp->VK->Prop):Prop :=
 ∀(pins:List (Addr×Obj)) (s:Shared) (σ:St) (H:Hp) (x:V) (xs:List V) (v:Value) (us:List Value) (Q:VK),Inv X pins σ H s->RelV x v->Vals xs us->r x xs H Q ->
  wpAny (model X.prog X.w) X.A (call (.builtin id) (v::us)) (EP X pins σ Q) X.xe s
section
variable {X:Cx}{a b:Expr}{ta tb:TE}{pos:Pos}
theorem yd {r:R2}(hr:IxR X r)(ha:PE X a ta)(hb:PE X b tb)(hs:mR b):PE X (.Subscript a b pos) (tOp r ta tb):=by
 intro pins s σ H Q I h
 exact Subscript_ (wc ha hb I h fun v u s2 x y H2 I2 rx ry q=>hr a b pins s2 σ H2 x y v u Q I2 rx ry q (hs _ _))
def yA (K:PySem.W.Frag):R2:=fun x y H Q=>∃ p xs i v,x=.ref p/\y=.int i/\SqL K H p xs/\atI xs i=some v/\Q v H
def xH (K:PySem.W.Frag):R2:=fun x y H Q=>∃ p xs i v,x=.ref p/\y=.int i/\SqT K H p xs/\atI xs i=some v/\Q v H
def yk:R2:=fun x y H Q=>∃ z i c,x=.str z/\y=.int i/\z.length<=sizeLine/\atI z.cps.toList i=some c/\Q (.str ⟨#[c]⟩) H
theorem aE:IxR X (yA X.K):=by
 intro value slice pins s σ H x y v u Q I rx ry h hs
 obtain ⟨p,xs,i,z,rfl,rfl,hq,he,q⟩:=h
 cases rx
 obtain ⟨t,rfl⟩:=ry
 obtain ⟨its,r,pl,hz⟩:=I.list hq
 obtain ⟨j,h1,h2,h3,h4,h5⟩:=jg he
 obtain ⟨w,ew,rw'⟩:=r.get h2
 have hl:=r.length
 have hn:=fN
 have fin:EP X pins σ Q w s:=⟨z,H,I,rw',q⟩
 by_cases h0:0<=i
 .have hj:i.toNat=j:=by
   rw [seqIndex_of h0 h5] at h1
   exact Option.some.inj h1
  exact item_listR pl.isList h0 (by lia) (by rw [hj];simpa using ew) fin hs
 .have hj:(i+(its.toArray.size:Int)).toNat=j:=by
   rw [seqIndex_neg (by lia) h4] at h1
   rw [List.size_toArray,<-hl]
   exact Option.some.inj h1
  exact subscriptTail_builtinR (x:=w) pl.isList.typeIs slot_list_getitem.lookup
   (wpAny_getItem_list_neg (Q:=fun r s'=>r=w/\EP X pins σ Q r s') pl.isList (by lia) (by rw [List.size_toArray] <;> lia) (by lia) (by rw [hj];simpa using ew) ⟨rfl,fin⟩) hs
theorem aQ:IxR X (xH X.K):=by
 intro value slice pins s σ H x y v u Q I rx ry h hs
 obtain ⟨p,xs,i,z,rfl,rfl,hq,he,q⟩:=h
 cases rx
 obtain ⟨t,rfl⟩:=ry
 obtain ⟨its,r,pl,hz⟩:=I.tuple hq
 obtain ⟨j,h1,h2,h3,h4,h5⟩:=jg he
 obtain ⟨w,ew,rw'⟩:=r.get h2
 have hl:=r.length
 have hn:=fN
 have fin:EP X pins σ Q w s:=⟨z,H,I,rw',q⟩
 exact subscriptTail_builtinR (x:=w) pl.typeIs slot_tuple_getitem.lookup
  (getItem_tuple (j:=j) (Q:=fun r s'=>r=w/\EP X pins σ Q r s') pl (by lia) (by lia) (by rw [List.size_toArray,<-hl];exact h1) (by simpa using ew) ⟨rfl,fin⟩) hs
theorem rD:IxR X yk:=by
 intro value slice pins s σ H x y v u Q I rx ry h hs
 obtain ⟨z,i,c,rfl,rfl,hz,he,q⟩:=h
 obtain ⟨t,rfl⟩:=rx
 obtain ⟨t',rfl⟩:=ry
 obtain ⟨j,h1,h2,h3,h4,h5⟩:=jg he
 have hl:z.cps.toList.length=z.length:=by simp [Str.length]
 rw [hl] at h1 h4 h5
 have hn:=fN
 exact tail_any (typeIs_str s z t) slot_str_getitem.lookup (getItem_str (c:=c) (by
  have e1:decide (i < -(2 ^ 63:Int))=false:=decide_eq_false (by lia)
  have e2:decide (i ≥ 2 ^ 63)=false:=decide_eq_false (by lia)
  rw [e1,e2,Bool.or_false]) (by rw [h1];simpa using h2) ⟨.str ⟨#[c]⟩,H,I.tok _,⟨_,rfl⟩,q⟩) hs
theorem lK (its:List Value)(n j:Nat)(u:Value):Obj.mapSeq (·.setIfInBounds j u) { cls:=.type "list",data:=.seq its.toArray n }={ cls:=.type "list",data:=.seq (its.set j u).toArray n }:=by
 simp [Obj.mapSeq]
theorem Inv.lst {pins:List (Addr×Obj)}{σ:St}{H:Hp}{s:Shared}{p:Addr}{xs:List V}(I:Inv X pins σ H s)(h:H p=some (.lst xs)) :
  ∃ (its:List Value) (n:Nat),Vals xs its/\s.heap.get? p=some { cls:=.type "list",data:=.seq its.toArray n }/\xs.length<=sizeLine:=by
 obtain ⟨z,its,n,r,e⟩:=I.hok p _ h
 exact ⟨its,n,r,e,z⟩
theorem Inv.lstUpd {pins:List (Addr×Obj)}{σ:St}{H:Hp}{s:Shared}{p:Addr}{xs ys:List V}{its its':List Value}{n n':Nat}{f:Obj->Obj}(I:Inv X pins σ H s)(h:H p=some (.lst xs))
  (ho:s.heap.get? p=some { cls:=.type "list",data:=.seq its.toArray n }) (hf:f { cls:=.type "list",data:=.seq its.toArray n }={ cls:=.type "list",data:=.seq its'.toArray n' }) (r:Vals ys its') (hz:ys.length<=sizeLine) (t:Nat) :
  Inv X pins σ (upd H p (.lst ys)) { s with heap:=s.heap.update p f,toks:=t }:=by
 have e:(s.heap.update p f).get? p=some { cls:=.type "list",data:=.seq its'.toArray n' }:=by
  rw [Heap.get?_update_self f ho (by rw [hf] <;> rfl),hf]
 refine I.write (x:=p) (e:=p) (by rw [h];trivial) (.inl rfl) (fun b u hb q=>(Heap.get?_update_other _ _ (Ne.symm hb)).trans q) ⟨_,e⟩ ?_
 exact ⟨hz,its',n',r,e⟩
def yg:V->V->V->Hp->(Hp->Prop)->Prop:=fun o i v H Q=>∃ p xs k j,o=.ref p/\i=.int k/\H p=some (.lst xs)/\ixN xs.length k=some j/\Q (upd H p (.lst (xs.set j v)))
theorem bg:wY X yg:=by
 intro pins s σ H o i v ov iv u Q I ro ri rv h
 obtain ⟨p,xs,k,j,rfl,rfl,hp,hj,q⟩:=h
 cases ro
 obtain ⟨t,rfl⟩:=ri
 obtain ⟨its,n,r,ho,hz⟩:=I.lst hp
 obtain ⟨h1,h2,h3,h4⟩:=nI hj
 have hl:=r.length
 have hn:=fN
 have I':Inv X pins σ (upd H p (.lst (xs.set j v))) { s with heap:=s.heap.update p (Obj.mapSeq (·.setIfInBounds j u)) } :=
  I.lstUpd hp ho (lK its n j u) (r.set rv j) (by rw [List.length_set];exact hz) s.toks
 by_cases h0:0<=k
 .have hk:k.toNat=j:=by
   rw [seqIndex_of h0 h4] at h1
   exact Option.some.inj h1
  exact PySem.W.ki_setAt ho h0 (by lia) (by rw [List.size_toArray,<-hl];exact h4) (by rw [hk];exact ⟨_,I',q⟩)
 .have hk:(k+(its.toArray.size:Int)).toNat=j:=by
   rw [seqIndex_neg (by lia) h3] at h1
   rw [List.size_toArray,<-hl]
   exact Option.some.inj h1
  exact PySem.W.ki_setBack ho (by lia) (by rw [List.size_toArray,<-hl];exact h3) (by lia) (by rw [hk];exact ⟨_,I',q⟩)
theorem jc (lo hi:Option Int)(n:Nat):(sliceBounds lo hi none n).1=((HT.sIx n 0 lo:Nat):Int)/\(sliceBounds lo hi none n).2.1=((HT.sIx n n hi:Nat):Int)/\(sliceBounds lo hi none n).2.2=1:=by
 refine ⟨?_,?_,rfl⟩
 .cases lo with
  | none=>simp [sliceBounds,HT.sIx]
  | some i =>
   simp only [sliceBounds,HT.sIx,Option.getD_none,show (1:Int)>0 by decide,if_true]
   by_cases h:i<0
   .simp only [h,if_true] <;> lia
   .simp only [h,if_false] <;> lia
 .cases hi with
  | none=>simp [sliceBounds,HT.sIx]
  | some i =>
   simp only [sliceBounds,HT.sIx,Option.getD_none,show (1:Int)>0 by decide,if_true]
   by_cases h:i<0
   .simp only [h,if_true] <;> lia
   .simp only [h,if_false] <;> lia
theorem hV (its:List Value)(lo hi:Option Int):slicePick its.toArray lo hi none=((its.drop (HT.sIx its.length 0 lo)).take (HT.sIx its.length its.length hi-HT.sIx its.length 0 lo)).toArray:=by
 obtain ⟨h1,h2,h3⟩:=jc lo hi its.toArray.size
 unfold slicePick
 rw [h1,h2,h3]
 simp only [sliceRange_one,pick_run,List.size_toArray] <;> rfl
def ym (K:PySem.W.Frag):V->Option Int->Option Int->Hp->VK->Prop:=fun x lo hi H Q=>∃ a xs,x=.ref a/\SqL K H a xs/\∀p,H p=none->Q (.ref p) (upd H p (.lst (jv xs lo hi)))
theorem nX:SlR X (ym X.K):=by
 intro pins s σ H x v vl vu lo hi sl Q I rx hs pl pu h
 obtain ⟨a,xs,rfl,hx,q⟩:=h
 cases rx
 obtain ⟨its,r,ht,hz⟩:=I.list hx
 have hlen:=r.length
 refine ⟨"list",_,slot_list_getitem.lookup,ht.isList.typeIs,?_⟩
 refine wpAny_getItem_list_slice ht.isList hs pl pu .none (by simp) ?_ (by rw [List.size_toArray] <;> lia)
 rw [hV,<-hlen]
 refine ⟨.ref s.heap.objs.size,_,I.laid (t':=s.toks) (o:=.lst (jv xs lo hi)) (fun b ob q=>Heap.get?_push_of_some _ q) (Nat.le_refl _) ?_,rfl,q _ (I.hok.fresh (Nat.le_refl _))⟩
 exact ⟨Nat.le_trans (cR xs lo hi) hz,_,0,(r.drop (HT.sIx xs.length 0 lo)).take (HT.sIx xs.length xs.length hi-HT.sIx xs.length 0 lo),Heap.get?_push_size _ rfl⟩
theorem aL:bH X (.builtin "len") (fun xs H Q=>∃ p ys,xs=[.ref p]/\(SqL X.K H p ys∨SqT X.K H p ys)/\Q (.int ys.length) H):=by
 intro pins s σ H xs us Q I r h
 obtain ⟨p,ys,rfl,hq,q⟩:=h
 obtain ⟨u,rfl,rx⟩:=cY r
 cases rx
 have hn:=fN
 rcases hq with hq | hq
 .obtain ⟨its,r',pl,hz⟩:=I.list hq
  have hlen:=r'.length
  exact Calls.call_len_list pl.isList (by simp only [List.size_toArray] <;> lia) ⟨.int ys.length,H,I.tok _,⟨s.toks+1,by rw [List.size_toArray,hlen]⟩,q⟩
 .obtain ⟨its,r',pl,hz⟩:=I.tuple hq
  have hlen:=r'.length
  exact len_tuple pl (by simp only [List.size_toArray] <;> lia) ⟨.int ys.length,H,I.tok _,⟨s.toks+1,by rw [List.size_toArray,hlen]⟩,q⟩
theorem jf:bH X (.builtin "len") (fun xs H Q=>∃ z,xs=[.str z]/\z.length<=sizeLine/\Q (.int z.length) H):=by
 intro pins s σ H xs us Q I r h
 obtain ⟨z,rfl,hz,q⟩:=h
 obtain ⟨u,rfl,t,rfl⟩:=cY r
 have hn:=fN
 exact len_str (by lia) ⟨.int z.length,H,I.tok _,⟨_,rfl⟩,q⟩
theorem jt:bH X (.type "list") (fun xs H Q=>∃ p ys,xs=[.ref p]/\(SqL X.K H p ys∨SqT X.K H p ys)/\∀l,H l=none->Q (.ref l) (upd H l (.lst ys))):=by
 intro pins s σ H xs us Q I r h
 obtain ⟨p,ys,rfl,hq,q⟩:=h
 obtain ⟨u,rfl,rx⟩:=cY r
 cases rx
 have fin:∀(its:List Value),Vals ys its->ys.length<=sizeLine->∀(h':Heap) (c':Nat),(∀b o',s.heap.get? b=some o'->h'.get? b=some o') ->
   h'.get? s.heap.objs.size=some { cls:=.type "list",dict:=none,data:=.seq its.toArray c',slots:=#[] }->EP X pins σ Q (.ref s.heap.objs.size) { s with heap:=h' }:=fun its r' hz h' c' kp e =>
  ⟨.ref s.heap.objs.size,_,I.laid (t':=s.toks) kp (Nat.le_refl _) (show ObjOk X.prog X.w _ h' _ (.lst ys) from ⟨hz,its,c',r',e⟩),rfl,q _ (I.hok.fresh (Nat.le_refl _))⟩
 rcases hq with hq | hq
 .obtain ⟨its,r',pl,hz⟩:=I.list hq
  have hlen:=r'.length
  obtain ⟨o,ho,hc,n,hd⟩:=pl.isList
  exact call_list_seq p (.inl rfl) ho hc hd (fun h' c' kp e=>fin its r' hz h' c' kp e) (by simp only [List.size_toArray] <;> lia)
 .obtain ⟨its,r',pl,hz⟩:=I.tuple hq
  have hlen:=r'.length
  obtain ⟨o,ho,hc,n,hd⟩:=pl
  exact call_list_seq p (.inr rfl) ho hc hd (fun h' c' kp e=>fin its r' hz h' c' kp e) (by simp only [List.size_toArray] <;> lia)
theorem dO:bH X (.type "tuple") (fun xs H Q=>∃ p ys,xs=[.ref p]/\((SqL X.K H p ys/\∀l,H l=none->Q (.ref l) (upd H l (.tup ys)))∨(SqT X.K H p ys/\Q (.ref p) H))):=by
 intro pins s σ H xs us Q I r h
 obtain ⟨p,ys,rfl,h⟩:=h
 obtain ⟨u,rfl,rx⟩:=cY r
 cases rx
 rcases h with ⟨hq,q⟩ | ⟨hq,q⟩
 .obtain ⟨its,r',pl,hz⟩:=I.list hq
  have hlen:=r'.length
  refine call_tuple_list pl.isList (fun h' kp=>?_) (by simp only [List.size_toArray] <;> lia)
  have I1:Inv X pins σ H { s with heap:=h' }:=I.kept (t':=s.toks) kp
  have I2:Inv X pins σ (upd H h'.objs.size (.tup ys)) { s with heap:=h'.push { cls:=.type "tuple",data:=.seq its.toArray } } :=
   I1.laid (t':=s.toks) (fun b o e=>Heap.get?_push_of_some _ e) (Nat.le_refl _) (show ObjOk X.prog X.w _ _ _ (.tup ys) from ⟨hz,its,r',IsTup.new _ _⟩)
  exact ⟨.ref h'.objs.size,_,I2,rfl,q _ (I1.hok.fresh (Nat.le_refl _))⟩
 .obtain ⟨its,r',pl,hz⟩:=I.tuple hq
  exact call_tuple_same pl ⟨.ref p,H,I,rfl,q⟩
def tyV (K:PySem.W.Frag)(T:String)(x:V)(H:Hp):Prop:=match x with
 | .str _=>T="str"
 | .int _=>T="int"
 | .ref p=>(T="list"/\∃ xs,SqL K H p xs)∨(T="tuple"/\∃ o,K.lookup p=some o/\o.cls=.type "tuple"/\o.dict=none) ∨
   (T="dict"/\((∃ kvs,H p=some (.dK kvs))∨∃ kvs,H p=some (.dT kvs)))∨(T="set"/\∃ S n,H p=some (.set S n))
 | _=>False
theorem qo {pins:List (Addr×Obj)}{σ:St}{H:Hp}{s:Shared}{T:String}{x:V}{v:Value}(I:Inv X pins σ H s)(r:RelV x v)(ty:tyV X.K T x H) :
  s.TypeIs v T/\∀a,v=.ref a->∃ ob,s.heap.get? a=some ob/\ob.dict=none:=by
 cases x with
 | str z =>
  obtain ⟨t,rfl⟩:=r
  cases (show T="str" from ty)
  exact ⟨typeIs_str s z t,fun _ e=>nomatch e⟩
 | int i =>
  obtain ⟨t,rfl⟩:=r
  cases (show T="int" from ty)
  exact ⟨typeIs_int s i t,fun _ e=>nomatch e⟩
 | ref p =>
  cases r
  rcases ty with ⟨rfl,xs,hq⟩ | ⟨rfl,o,hk,hc,hd⟩ | ⟨rfl,hk⟩ | ⟨rfl,S,n,hk⟩
  .obtain ⟨its,_,pl,_⟩:=I.list hq
   refine ⟨pl.isList.typeIs,fun a e=>?_⟩
   cases e
   obtain ⟨o,n,e,c,hd,_⟩:=pl
   exact ⟨o,e,hd⟩
  .refine ⟨⟨o,I.kIn p o hk,hc⟩,fun a e=>?_⟩
   cases e
   exact ⟨o,I.kIn _ o hk,hd⟩
  .have z:∃ o,s.heap.get? p=some o/\o.ExactDict:=by
    rcases hk with ⟨kvs,hk⟩ | ⟨kvs,hk⟩
    .obtain ⟨_,_,_,_,o,_,_,e,ex,_⟩:=I.hok p _ hk
     exact ⟨o,e,ex⟩
    .obtain ⟨_,_,_,_,o,_,_,e,ex,_⟩:=I.hok p _ hk
     exact ⟨o,e,ex⟩
   obtain ⟨o,e,ex⟩:=z
   refine ⟨⟨o,e,ex.1⟩,fun a e2=>?_⟩
   cases e2
   exact ⟨o,e,ex.2.1⟩
  .obtain ⟨o,_,_,_,e,ex,_⟩:=I.hok p _ hk
   refine ⟨⟨o,e,ex.1⟩,fun a e2=>?_⟩
   cases e2
   exact ⟨o,e,ex.2.1⟩
 | _=>exact False.elim ty
def xQ (K:PySem.W.Frag)(T:String)(r:V->List V->Hp->VK->Prop)(to:TE):TE:=fun σ H Q=>to σ H fun x H1=>tyV K T x H1/\r x [] H1 Q
def tBM (K:PySem.W.Frag)(T:String)(r:V->List V->Hp->VK->Prop)(to:TE)(t:TA):TE:=fun σ H Q=>to σ H fun x H1=>tyV K T x H1/\t σ H1 fun xs H2=>r x xs H2 Q
variable {o e:Expr}{es:List Expr}{to:TE}{t:TA}{name:Str}{apos cpos:Pos}{T id:String}{r:V->List V->Hp->VK->Prop}
theorem wm (pa:PlainAttrs T)(slot:Slot T name id)(hty:typeOf (.builtin id)=pure (.type "method_descriptor"))(hm:MtR X id r)(ho:PE X o to)
  (hbase:attributeBase o name X.env (eval o X.env)=eval o X.env:=by rfl) (hline:(apos.endLine == cpos.line)=true:=by rfl):PE X (.Call (.Attribute o name apos) [] [] cpos) (xQ X.K T r to):=by
 intro pins s σ H Q I h
 refine wpAny_Call_method0_late hbase hline (thn (ho pins s σ H _ I h) fun v s1 ⟨x,H1,I1,r1,ty,q1⟩=>?_)
 obtain ⟨h1,h2⟩:=qo I1 r1 ty
 exact ⟨T,id,pa,slot,hty,h1,h2,Calls.callWith_builtin rfl (PySem.evalArgs_none (hm pins s1 σ H1 x [] v [] Q I1 r1 .nil q1))⟩
theorem vt (pa:PlainAttrs T)(slot:Slot T name id)(hty:typeOf (.builtin id)=pure (.type "method_descriptor"))(hm:MtR X id r)(ho:PE X o to)(ha:PA X (e::es) t)
  (hbase:attributeBase o name X.env (eval o X.env)=eval o X.env:=by rfl)
  (hfew:((backTo cpos (starEach (e::es) X.env)).all (fun x=>!x.1)&&(backToKw cpos (keywordEach [] X.env)).all (fun x=>x.1.isSome)
   && decide ((e::es).length+([]:List Keyword).length+(if ([]:List Keyword).isEmpty then 0 else 1)<30))=true:=by rfl)
  (hline:(apos.endLine == cpos.line)=true:=by rfl) (hs:starEach (e::es) X.env=(false,eval e X.env)::starEach es X.env:=by rfl) (hplain:(backTo cpos (starEach es X.env)).any (·.1)=false:=by rfl) :
  PE X (.Call (.Attribute o name apos) (e::es) [] cpos) (tBM X.K T r to t):=by
 intro pins s σ H Q I h
 refine wpAny_Call_method_late hbase hfew hline rfl (thn (ho pins s σ H _ I h) fun v s1 ⟨x,H1,I1,r1,ty,q1⟩=>?_)
 obtain ⟨h1,h2⟩:=qo I1 r1 ty
 refine ⟨T,id,pa,slot,hty,h1,h2,?_⟩
 have hA:=ha cpos pins s1 σ H1 _ I1 q1
 rw [hs] at hA ⊢
 refine Calls.callWith_builtin (by show (false || (backTo cpos (starEach es X.env)).any (·.1))=false;rw [hplain] <;> rfl) (Calls.evalArgs_plain ?_)
 exact thn hA fun us s2 ⟨vs,H2,I2,r2,q2⟩=>hm pins s2 σ H2 x vs v us Q I2 r1 r2 q2
end
end L2
namespace L2
open PySem PySem.Spec PyProof.Rows
def MtM (X:Cx)(id:String)(r:V->List V->Hp->VK->Prop):Prop :=
 ∀(pins:List (Addr×Obj)) (s:Shared) (σ:St) (H:Hp) (x:V) (xs:List V) (v:Value) (us:List Value) (Q:VK),Inv X pins σ H s->RelV x v->Vals xs us->r x xs H Q ->
  wpAny (model X.prog X.w) X.A (call (.builtin id) (v::us)) (EP X pins σ Q) X.xe s
theorem Vals.one:∀{x:V} {us:List Value},Vals [x] us->∃ u,us=[u]/\RelV x u
 | _,_,.cons r .nil=>⟨_,rfl,r⟩
theorem Vals.zero:∀{us:List Value},Vals [] us->us=[]
 | _,.nil=>rfl
theorem Vals.dropLast {xs:List V}{us:List Value}(h:Vals xs us):Vals xs.dropLast us.dropLast:=by
 induction h with
 | nil=>exact .nil
 | cons r t ih =>
  cases t with
  | nil=>exact .nil
  | cons q t'=>exact .cons r ih
theorem Vals.eraseIdx:∀{xs:List V} {us:List Value} (i:Nat),Vals xs us->Vals (xs.eraseIdx i) (us.eraseIdx i)
 | _,_,_,.nil=>.nil
 | _,_,0,.cons _ t=>t
 | _,_,i+1,.cons r t=>.cons r (Vals.eraseIdx i t)
theorem kK {α:Type}(l:List α):l.eraseIdx (l.length-1)=l.dropLast:=by
 induction l with
 | nil=>rfl
 | cons a r ih =>
  cases r with
  | nil=>rfl
  | cons b r =>
   have e:(a::b::r).length-1=((b::r).length-1)+1:=by
    have h1:(a::b::r).length=r.length+2:=rfl
    have h2:(b::r).length=r.length+1:=rfl
    lia
   rw [e,List.eraseIdx_cons_succ,ih]
   all_goals rfl
theorem ir {α:Type}:∀(l:List α) (i:Nat),(l.eraseIdx i).length<=l.length
 | [],_=>Nat.le_refl _
 | _::_,0=>Nat.le_succ _
 | _::r,i+1=>Nat.succ_le_succ (ir r i)
section
variable {X:Cx}{pins:List (Addr×Obj)}{σ:St}{H:Hp}{s:Shared}{l b:Addr}{xs ys zs:List V}
theorem Inv.lset {its its':List Value}{n:Nat}{f:Array Value->Array Value}{t':Nat}(I:Inv X pins σ H s)(hH:H l=some (.lst xs))
  (e:s.heap.get? l=some { cls:=.type "list",data:=.seq its.toArray n }) (hf:f its.toArray=its'.toArray) (hv:Vals ys its') (hz:ys.length<=sizeLine) :
  Inv X pins σ (upd H l (.lst ys)) { s with heap:=s.heap.update l (Obj.mapSeq f),toks:=t' }:=by
 have q:=PySem.IsL.update e f
 rw [hf] at q
 refine I.write (x:=l) (e:=l) (by rw [hH];exact trivial) (.inl rfl) (fun b' u hb hu=>(Heap.get?_update_other s.heap (Obj.mapSeq f) (Ne.symm hb)).trans hu) ⟨_,q⟩ ?_
 exact ⟨hz,its',_,hv,q⟩
theorem Inv.lnew {its:List Value}{t':Nat}(I:Inv X pins σ H s)(hv:Vals ys its)(hz:ys.length<=sizeLine) :
  Inv X pins σ (upd H s.heap.objs.size (.lst ys)) { s with heap:=s.heap.push { cls:=.type "list",data:=.seq its.toArray },toks:=t' } :=
 I.laid (fun _ _ q=>Heap.get?_push_of_some _ q) (Nat.le_refl _) ⟨hz,its,0,hv,Heap.get?_push_size _ rfl⟩
theorem Inv.fresh (I:Inv X pins σ H s):H s.heap.objs.size=none:=I.hok.fresh (Nat.le_refl _)
theorem Inv.lstM (I:Inv X pins σ H s)(hH:H l=some (.lst xs)):xs.length<=sizeLine/\∃ (its:List Value) (n:Nat),Vals xs its/\xs.length=its.length/\s.heap.get? l=some { cls:=.type "list",data:=.seq its.toArray n }:=by
 obtain ⟨z,its,n,r,e⟩:=I.hok l _ hH
 exact ⟨z,its,n,r,r.length,e⟩
end
section
variable {X:Cx}
def tU:V->List V->Hp->VK->Prop:=fun x vs H Q=>∃ l xs y,x=.ref l/\vs=[y]/\H l=some (.lst xs)/\xs.length<sizeLine/\Q .non (upd H l (.lst (xs++[y])))
theorem bQ:MtM X "list.append" tU:=by
 intro pins s σ H x vs v us Q I rx rv h
 obtain ⟨l,xs,y,rfl,rfl,hH,hz,q⟩:=h
 cases rx
 obtain ⟨u,rfl,ru⟩:=rv.one
 obtain ⟨z,its,n,r,hl,e⟩:=I.lstM hH
 refine call_meets F.slot_list_append ⟨_,e,rfl⟩ F.entry_list_append (F.args_list_append_2 _ _) (PySem.list_append l its.toArray n u (by rw [List.size_toArray];lia)) ⟨e,?_⟩
 refine ⟨.non,_,I.lset (its':=its++[u]) hH e (by simp) (r.append (.cons ru .nil)) ?_,rfl,q⟩
 rw [List.length_append,List.length_singleton]
 lia
def yx:V->List V->Hp->VK->Prop:=fun x vs H Q=>∃ l xs y,x=.ref l/\vs=[]/\H l=some (.lst xs)/\xs[xs.length-1]?=some y/\Q y (upd H l (.lst xs.dropLast))
theorem pL:MtM X "list.pop" yx:=by
 intro pins s σ H x vs v us Q I rx rv h
 obtain ⟨l,xs,y,rfl,rfl,hH,hy,q⟩:=h
 cases rx
 have hus:=rv.zero
 subst hus
 obtain ⟨z,its,n,r,hl,e⟩:=I.lstM hH
 obtain ⟨u,hu,ru⟩:=r.get hy
 have hy':its.toArray[its.toArray.size-1]?=some u:=by
  show its.toArray[its.length-1]?=some u
  rw [<-Array.getElem?_toList,<-hl]
  exact hu
 refine call_meets F.slot_list_pop ⟨_,e,rfl⟩ F.entry_list_pop (F.args_list_pop_1 _) (MeetsSeq.list_pop_last l its.toArray n u hy' (by rw [List.size_toArray];lia)) ⟨e,?_⟩
 refine ⟨y,_,I.lset (its':=its.dropLast) hH e ?_ r.dropLast ?_,ru,q⟩
 .show its.toArray.eraseIdxIfInBounds (its.toArray.size-1)=its.dropLast.toArray
  rw [List.size_toArray,List.eraseIdxIfInBounds_toArray,kK]
 .rw [List.length_dropLast]
  lia
def xb:V->List V->Hp->VK->Prop:=fun x vs H Q=>∃ l xs i k y,x=.ref l/\vs=[.int i]/\H l=some (.lst xs)/\-(2 ^ 63)<=i/\i<2 ^ 63/\seqIndex? i xs.length=some k/\xs[k]?=some y/\Q y (upd H l (.lst (xs.eraseIdx k)))
theorem qi:MtM X "list.pop" xb:=by
 intro pins s σ H x vs v us Q I rx rv h
 obtain ⟨l,xs,i,k,y,rfl,rfl,hH,h1,h2,hk,hy,q⟩:=h
 cases rx
 obtain ⟨u,rfl,ru⟩:=rv.one
 obtain ⟨t,rfl⟩:=ru
 obtain ⟨z,its,n,r,hl,e⟩:=I.lstM hH
 obtain ⟨w,hw,rw'⟩:=r.get hy
 refine call_meets F.slot_list_pop ⟨_,e,rfl⟩ F.entry_list_pop (F.args_list_pop_2 _ _)
  (MeetsSeq.list_pop_at l its.toArray n i t k w (fitsIndex_both h1 h2) (by rw [List.size_toArray,<-hl];exact hk) (by rw [<-Array.getElem?_toList];exact hw) (by rw [List.size_toArray];lia)) ⟨e,?_⟩
 refine ⟨y,_,I.lset (its':=its.eraseIdx k) hH e ?_ (r.eraseIdx k) ?_,rw',q⟩
 .show its.toArray.eraseIdxIfInBounds k=(its.eraseIdx k).toArray
  rw [List.eraseIdxIfInBounds_toArray]
 .have:=ir xs k
  lia
end
section
variable {prog:Program}{w:World}{A:Around}{E:Value->Shared->Prop}{s:Shared}
end
section
variable {X:Cx}
end
end L2
namespace Att
open PySem PySem.W PySem.Calls PyProof.Rows
theorem gw {P:Params}{h:Heap}:∀(ns:List Int) (vs:List Value),WellAll P h vs (ns.map WData.int)->IntsAre vs ns:=by
 intro ns
 induction ns with
 | nil =>
  intro vs w
  rw [List.map_nil] at w
  cases w
  exact .nil
 | cons n ns ih =>
  intro vs w
  rw [List.map_cons] at w
  cases w with
  | cons a b =>
   cases a
   exact .cons _ _ (ih _ b)
theorem ox {l:OpenLaw}{n:Nat}(hn:l.most=some n){P:Params}{h:Heap}{args:List WData}{vals:List Value}
  (hpre:l.row.toRowW.claim.pre args=true) (hwl:WellAll P h vals args) :
  ∃ a vs ns,vals=[Value.ref a]/\args=[WData.list (ns.map WData.int)]/\h.get? a=some { cls:=.type "list",data:=.seq vs.toArray }/\IntsAre vs ns/\ns.length<=n:=by
 have hsh:WShape.hasAll [] args [.list .int]=true:=(pre_splitW hpre).1
 have hc:l.pre.holds [] { args:=args }=true:=(pre_splitW hpre).2
 obtain ⟨d,r,rfl,h1,h2⟩:=hasAllW_cons hsh
 obtain rfl:=hasAllW_nil h2
 obtain ⟨xs,rfl,h3⟩:=hasW_list h1
 obtain ⟨ns,rfl⟩:=items_int h3
 have hlen:ns.length<=n:=by
  unfold OpenLaw.pre at hc
  have h4:(WTm.not (.lt (.lit (.int (n:Int))) (.len (.arg 0)))).holds [] { args:=[.list (ns.map .int)] }=true:=by
   have h4:=(holds_andW hc).1
   rw [hn] at h4
   exact h4
  have h5:=condW_of h4 (w_not (w_lt w_lit (w_len_list (w_arg rfl))))
  rw [List.length_map] at h5
  refine Nat.le_of_not_lt fun q=>?_
  have q':(n:Int)<((ns.length:Nat):Int):=by lia
  first
   | (rw [decide_eq_true q'] at h5;exact absurd h5 (by decide))
   | (simp at h5;lia)
 cases hwl with
 | cons w1 w2 =>
  cases w2
  cases w1 with
  | list ho hall=>exact ⟨_,_,ns,rfl,rfl,ho,gw ns _ hall,hlen⟩
theorem pi (l:OpenLaw)(args:List WData):l.row.toRowW.claim.post args (.bool true) args=true :=
 postW_of (r:=l.row.toRowW) (X:=(true == true))
  (show WShape.has [] (.bool true) .bool=true by first | rfl | decide | simp [WShape.has,WShape.arms,WShape.armsAll])
  (show (WTm.eq .res (.lit (.bool true))).value [] { args:=args,res:=some (.bool true),after:=args }=some (.bool (true == true)) from w_eq_bool (w_res rfl) w_lit) rfl
theorem attach_call {l:OpenLaw}{n:Nat}{q:Program}{loose:List Str}{XP:(Str->Option Value)->Heap->Prop}{YP:World->Heap->Prop}{d:DefRec}
  (hn:l.most=some n) (hdf:d.params.defaults=[])
  (call:∀(w:World) (s₀ s₁:Shared) (mg mb:Str->Option Value) (fa:Addr) (o:Obj) (pm cd doc:Value) (a:Addr) (vs:List Value) (ns:List Int),
   Ground q loose [] XP w s₀ mg mb s₁.heap->YP w s₁.heap ->
   s₁.heap.get? fa=some o->o.data=.func (docDef d.name d.params d.body d.scope pm cd doc)->s₁.heap.CodeRec cd d.name->mg d.name=some (.ref fa) ->
   s₁.heap.get? a=some { cls:=.type "list",data:=.seq vs.toArray }->IntsAre vs ns->ns.length<=n->s₁.gens=#[] ->
   codeAny (model l.prog w) callerA (.call (.ref fa) ⟨[.ref a],[]⟩) (fun r s'=>r=.ok (.ret (.bool true))/\OldK s₁.heap s'.heap/\s'.os=s₁.os/\AllBare s'.gens) s₁) :
  WalkO q loose XP YP l.row.toRowW d [] (fun f vs=>PySem.call f vs):=by
 intro w s₀ s₁ mg mb G Y fa o pm cd doc dV kV ho hd hcd hD hmg hg args vals as hpre hlay hrd hwl hlo
 obtain rfl:dV=.none:=Dflts.none hD hdf
 obtain rfl:kV=.none:=Dflts.noKw hD
 obtain ⟨a,vs,ns,rfl,rfl,hobj,hints,hlen⟩:=ox hn hpre hwl
 refine enter_call (codeAny_mono (call w s₀ s₁ mg mb fa o pm cd doc a vs ns G Y ho (fd_plain hd) hcd hmg hobj hints hlen hg) fun r s' hq=>?_)
 obtain ⟨rfl,h2,h3,h4⟩:=hq
 exact ⟨.inl ⟨.bool true,.bool true,[],rfl,fun _=>rfl,.bool true,pi l _,fun _=>⟨List.Pairwise.nil,fun _ hm=>(nomatch hm)⟩⟩,h2,h3,h4⟩
section
variable {prog:Program}{w:World}{A:Around}{E:Value->Shared->Prop}{s:Shared}{K:Frag}
end
end Att
namespace L2
open PySem PySem.Spec PyProof.Rows
theorem iu:∀{vs:List Value} {ns:List Int},IntsAre vs ns->Vals (ns.map V.int) vs
 | _,_,.nil=>.nil
 | _,_,.cons n t h=>.cons ⟨t,rfl⟩ (iu h)
def wQ (H:Hp):Prop:=∀b,H b=none∨∃ o xs,H b=some (.frz o (.lst xs))
theorem qb {P:Program}{w:World}{K:PySem.W.Frag}{mg mb:Str->Option Value}{CX:CXT}{k:Nat}{fa a:Addr}{fd:FuncData}{x:Str}{sp:Sp}{s₁:Shared}{vs:List Value}{ns:List Int}
  (KX:K.In s₁.heap) (hns:s₁.heap.Ns mainGlobals mg) (hb:s₁.heap.Ns builtinsNs mb) (hbb:∀x:Str,x≠"__name__"->mb x=bootBuiltins x) (hlim:s₁.heap.NoLimit) (hg:s₁.gens=#[])
  (ha:s₁.heap.get? a=some { cls:=.type "list",data:=.seq vs.toArray }) (hi:IntsAre vs ns) (hl:ns.length<=sizeLine) (hr:Room k callerA)
  (F:∀base:Heap,K.In base->base.Ns mainGlobals mg->aw P w K mg base CX k fa fd [x] sp) (hbind:∀(s:Shared) (u:Value),BindsTo s fd ⟨[u],[]⟩ [(x,u)])
  (hsp:∀H:Hp,wQ H->SqL K H a (ns.map V.int)->sp [.ref a] H (fun v _=>v=.bl true) fun _ _ _=>False)
  (hCX:∀H e s',CX [] H s₁ (fun _ _ _=>False) e s'->False) :
  codeAny (model P w) callerA (.call (.ref fa) ⟨[.ref a],[]⟩) (fun r s'=>r=.ok (.ret (.bool true))/\OldK s₁.heap s'.heap/\s'.os=s₁.os/\AllBare s'.gens) s₁:=by
 have rv:=iu hi
 have lenV:=hi.length
 have core:∀H:Hp,wQ H->SqL K H a (ns.map V.int)->HOk P w H s₁.heap->(∀b,H b≠none->b=a)->(H a≠none->K.lookup a=none) ->
   codeAny (model P w) callerA (.call (.ref fa) ⟨[.ref a],[]⟩) (fun r s'=>r=.ok (.ret (.bool true))/\OldK s₁.heap s'.heap/\s'.os=s₁.os/\AllBare s'.gens) s₁:=by
  intro H hO hS hok hA hK
  have base_of:∀{b:Addr} {o:Obj},s₁.heap.get? b=some o->H b=none->(jx s₁.heap H).get? b=some o:=fun e n=>qC e n
  have noA:∀{b:Addr} {o:Obj} {es:Array DictEntry} {ep:Nat},s₁.heap.get? b=some o->o.data=.dict es ep->H b=none:=fun {b o es ep} e d=>by
   cases q:H b with
   | none=>rfl
   | some u =>
    have e':b=a:=hA b (by rw [q];simp)
    subst e'
    rw [ha] at e;cases e
    have d':Data.seq vs.toArray _=Data.dict es ep:=d
    cases d'
  have nsK:∀{b:Addr} {m:Str->Option Value},s₁.heap.Ns b m->(jx s₁.heap H).Ns b m:=fun {b m} ⟨o,es,ep,e,d,r⟩=>⟨o,es,ep,base_of e (noA e d),d,r⟩
  have hKb:K.In (jx s₁.heap H):=fun b o e=>base_of (KX b o e) (by
   cases q:H b with
   | none=>rfl
   | some u =>
    have e':b=a:=hA b (by rw [q];simp)
    subst e'
    rw [hK (by rw [q];simp)] at e;cases e)
  have hM:Mod K mg (jx s₁.heap H):=⟨hKb,nsK hns,⟨mb,nsK hb,hbb⟩,let ⟨mc,h1,h2⟩:=hlim;⟨mc,nsK h1,h2⟩⟩
  have e0:Env0 P w K mg (jx s₁.heap H) callerA [] s₁ H:=⟨rfl,hM,fun b o e=>um e,Nat.le_of_eq (pA _ _),trivial,fun b hb=>absurd (show b∈([]:List Addr) from hb) (by simp),hok,.of_eq hg⟩
  refine codeAny_mono ((F _ hKb (nsK hns)).run callerA [] s₁ H ⟨[.ref a],[]⟩ [.ref a] [.ref a] _ _ hr e0 (hbind s₁ (.ref a)) (.cons rfl .nil) (hsp H hO hS)) fun r s' h=>?_
  cases r with
  | error e=>exact (hCX H e s' h).elim
  | ok fl =>
   cases fl with
   | next=>exact False.elim h
   | brk=>exact False.elim h
   | cont=>exact False.elim h
   | ret u =>
    obtain ⟨v,H',os,bare,un,hok',r',q⟩:=h
    have q':v=.bl true:=q
    subst q'
    obtain rfl:u=Value.bool true:=r'
    refine ⟨rfl,OldK.of_keep fun b o e=>?_,os,bare⟩
    cases q:H b with
    | none=>exact un.keep b o e q (by intro z;exact absurd (show b∈([]:List Addr) from z) (by simp)) (by simp)
    | some u =>
     rcases hO b with z | ⟨ob,xs,z⟩
     .rw [q] at z;cases z
     .have z2:=un.frzs b ob _ z
      obtain ⟨e1,_⟩:=hok b _ z
      obtain ⟨e2,_⟩:=hok' b _ z2
      rw [e] at e1;cases e1
      exact e2
 cases hk:K.lookup a with
 | some o =>
  have e:=KX a o hk
  rw [ha] at e
  cases e
  refine core (fun _=>none) (fun _=>.inl rfl) (.inr ⟨_,vs.toArray,_,hk,rfl,rfl,rfl,by rw [List.size_toArray,lenV];exact hl,by simpa using rv⟩) (fun b u z=>by have z':(none:Option HO)=some u:=z;cases z') (fun b z=>absurd rfl z) fun z=>absurd rfl z
 | none =>
  refine core (fun b=>if b=a then some (.frz { cls:=.type "list",data:=.seq vs.toArray } (.lst (ns.map V.int))) else none) (fun b=>?_) (.inl (.inr ⟨{ cls:=.type "list",data:=.seq vs.toArray },if_pos rfl⟩)) (fun b u z=>?_) (fun b z=>?_) fun _=>hk
  .by_cases hb:b=a
   .exact .inr ⟨_,_,if_pos hb⟩
   .exact .inl (if_neg hb)
  .by_cases hb:b=a
   .have z':=(if_pos hb).symm.trans z
    cases z'
    subst hb
    exact ⟨ha,by rw [List.length_map];exact hl,vs,_,rv,ha⟩
   .have z':=(if_neg hb).symm.trans z
    cases z'
  .by_cases hb:b=a
   .exact hb
   .exact absurd (if_neg hb) z
end L2
namespace L2
open PySem PySem.Spec PyProof.Rows
theorem walk_of {l:PySem.W.OpenLaw}{n k:Nat}{q:Program}{loose:List Str}{XP:(Str->Option Value)->Heap->Prop}{YP:World->Heap->Prop}{d:DefRec}{K:Params->PySem.W.Frag}{CX:World->CXT}{sp:World->Sp}{x:Str}
  (hn:l.most=some n) (hn2:n<=sizeLine) (hdf:d.params.defaults=[]) (hr:Room k callerA)
  (hY:∀(w:World) (h:Heap),YP w h->(K w.params).In h)
  (F:∀(w:World) (mg:Str->Option Value) (fa:Addr) (h:Heap),(K w.params).In h->h.Ns mainGlobals mg->mg d.name=some (.ref fa) ->
   ∃ fd:FuncData,(∀(s:Shared) (u:Value),BindsTo s fd ⟨[u],[]⟩ [(x,u)]) /\
    ∀base:Heap,(K w.params).In base->base.Ns mainGlobals mg->aw l.prog w (K w.params) mg base (CX w) k fa fd [x] (sp w))
  (hsp:∀(w:World) (H:Hp) (a:Addr) (ns:List Int),ns.length<=n->wQ H->SqL (K w.params) H a (ns.map V.int)->sp w [.ref a] H (fun v _=>v=.bl true) fun _ _ _=>False)
  (hCX:∀(w:World) (H:Hp) (s:Shared) (e:Value) (s':Shared),CX w [] H s (fun _ _ _=>False) e s'->False) :
  PySem.W.WalkO q loose XP YP l.row.toRowW d [] (fun f vs=>PySem.call f vs):=by
 refine Att.attach_call hn hdf fun w s₀ s₁ mg mb fa o pm cd doc a vs ns G Y ho hd hcd hmg hobj hints hlen hg=>?_
 have KX:=hY w _ Y
 obtain ⟨fd,hb,hF⟩:=F w mg fa _ KX G.T.g hmg
 exact qb KX G.T.g G.T.b G.T.builtins G.T.nolimit hg hobj hints (Nat.le_trans hlen hn2) hr hF hb (fun H hO hS=>hsp w H a ns hlen hO hS) fun H e s'=>hCX w H s₁ e s'
end L2
namespace L2
open PySem PySem.Spec PyProof.Rows
def a8 (s:Stmt)(j:Nat):Stmt:=match s with
 | .ClassDef _ _ _ body _ _ _ _ _ _ _=>body.getD j (.Pass ⟨0,0,0,0⟩)
 | _=>.Pass ⟨0,0,0,0⟩
def aA (s:Stmt):Arguments:=match s with
 | .FunctionDef _ a _ _ _ _ _ _ _ _=>a
 | _=>{ posonlyargs:=[],args:=[],vararg:=none,kwonlyargs:=[],kw_defaults:=[],kwarg:=none,defaults:=[] }
def av (s:Stmt):List Stmt:=match s with
 | .FunctionDef _ _ b _ _ _ _ _ _ _=>b
 | _=>[]
def ai (s:Stmt):Scope:=match s with
 | .FunctionDef _ _ _ _ _ _ sc _ _ _=>sc
 | _=>{ kind:=.function,names:=[],isGenerator:=false,isCoroutine:=false }
abbrev CX0:CXT:=fun _ _ _ _ _ _=>False
abbrev E0:XK:=fun _ _ _=>False
theorem aB {X:Cx}:bB CX0 X E0:=fun _ _ _ _ _ _ _ h=>h.elim
structure Fun (K:PySem.W.Frag)(x qual:Str)(st:Stmt)(f:Addr)(fd:FuncData):Prop where
 ex:∃ (oc:Value) (od:Option Addr) (kV doc pm:Value) (an:Option Addr) (cdv ct:Value) (osl:Array (Option Value)),
  fd=PySem.W.fnOf x qual (aA st) (av st) (ai st) .none kV doc pm an cdv ct/\K.lookup f=some ⟨oc,od,.func fd,osl⟩/\PySem.W.codeIn K cdv qual=true
 kp:PySem.W.keepIn K (.ref f)=true
section
variable {P:Program}{w:World}{K:PySem.W.Frag}{mg:Str->Option Value}{base:Heap}
theorem Fun.ok {x qual:Str}{st:Stmt}{f:Addr}{fd:FuncData}{N ps:List Str}{k:Nat}{sp:Sp}(F:Fun K x qual st f fd)(S:FnScope N ps (ai st))(len:∀vs H Q E,sp vs H Q E->vs.length=ps.length)
  (hbody:∀(cdv:Value) (A:Around) (outer:List Env) (s:Shared) (H:Hp) (vs:List V) (Q:VK) (E:XK),Room k (A.deeper (envOfC qual (ai st) s.heap.objs.size f cdv))->sp vs H Q E ->
   ∃ t,PSs (bh CX0 P w K mg base N qual (ai st) f cdv A outer s H E).nox (av st) t/\t { nx:=fun _ H'=>Q .non H',rt:=Q } (start N vs) H):aw P w K mg base CX0 (k+1) f fd ps sp:=by
 obtain ⟨oc,od,kV,doc,pm,an,cdv,ct,osl,rfl,lk,hcd⟩:=F.ex
 refine vQ lk hcd S len fun A outer s H vs Q E hr hsp=>?_
 obtain ⟨t,h,q⟩:=hbody cdv A outer s H vs Q E hr hsp
 exact ⟨t,h.nox,q⟩
theorem Fun.binds {x qual:Str}{st:Stmt}{f:Addr}{fd:FuncData}{ps:List Str}(F:Fun K x qual st f fd)
  (h:∀(kV doc pm:Value) (an:Option Addr) (cdv ct:Value) (us:List Value),us.length=ps.length->bindArgs (PySem.W.fnOf x qual (aA st) (av st) (ai st) .none kV doc pm an cdv ct) ⟨us,[]⟩=pure (ps.zip us)):Binds K fd ps []:=by
 obtain ⟨oc,od,kV,doc,pm,an,cdv,ct,osl,rfl,lk,hcd⟩:=F.ex
 exact .all (h kV doc pm an cdv ct)
theorem aJ {x qual:Str}{st:Stmt}{f:Addr}{oc:Value}{od an:Option Addr}{osl:Array (Option Value)}{kV doc pm cdv ct:Value}(l:K.lookup f=some ⟨oc,od,.func (PySem.W.fnOf x qual (aA st) (av st) (ai st) .none kV doc pm an cdv ct),osl⟩)
  (c:PySem.W.codeIn K cdv qual=true) (k:PySem.W.keepIn K (.ref f)=true):Fun K x qual st f (PySem.W.fnOf x qual (aA st) (av st) (ai st) .none kV doc pm an cdv ct):=⟨⟨oc,od,kV,doc,pm,an,cdv,ct,osl,rfl,l,c⟩,k⟩
end
theorem aT {A:Around}{k:Nat}(hr:Room k A):A.units+1<cLine:=Nat.lt_of_le_of_lt (Nat.add_le_add_left (by decide:1<=64) _) hr.units
theorem aS {n:Nat}(h:n<=1000):n<sizeLine:=Nat.lt_of_le_of_lt h (by decide)
section
variable {X:Cx}
end
theorem eZ {A B:Prop}(h:B):if false=true then A else B:=by
 rw [if_neg Bool.false_ne_true]
 exact h
theorem pH {A B:Prop}(h:A):if true=true then A else B:=by
 rw [if_pos rfl]
 exact h
theorem aI {c A B:Prop}[Decidable c](h1:c->A)(h2:¬ c->B):if c then A else B:=by
 by_cases h:c
 .rw [if_pos h]
  exact h1 h
 .rw [if_neg h]
  exact h2 h
def Same (H H':Hp):Prop:=∀b o,H b=some o->H' b=some o
theorem Same.trans {H H1 H2:Hp}(a:Same H H1)(b:Same H1 H2):Same H H2:=fun c o h=>b c o (a c o h)
end L2
end
section
namespace L2
open PySem PySem.Spec PyProof.Rows
def ltV:V->V->Bool
 | .int a,.int b=>decide (a<b)
 | .str a,.str b=>decide (a.cps.toList<b.cps.toList)
 | _,_=>false
def sU:V->V->Prop
 | .int _,.int _=>True
 | .str _,.str _=>True
 | _,_=>False
def bT:List V->List V->Bool
 | [],[]=>false
 | [],_::_=>true
 | _::_,[]=>false
 | x::xs,y::ys=>if x=y then bT xs ys else ltV x y
theorem aY (x y:V)(xs ys:List V):bT (x::xs) (y::ys)=if x=y then bT xs ys else ltV x y:=rfl
def lZ:List V->List V->Prop
 | x::xs,y::ys=>sU x y/\lZ xs ys
 | _,_=>True
theorem gu (a c:Str):((a == c)=true)↔a=c:=by simp
theorem bI {a c:V}{v u:Value}(A:Around)(s:Shared)(h:sU a c)(ra:RelV a v)(rc:RelV c u):∃ e,SeqAt.EqAt A s v u e/\(e=true↔a=c):=by
 cases a with
 | int i =>
  cases c with
  | int j =>
   obtain ⟨t,rfl⟩:=ra
   obtain ⟨t',rfl⟩:=rc
   exact ⟨_,SeqAt.EqAt.int_int i t j t',by simp⟩
  | _=>exact h.elim
 | str i =>
  cases c with
  | str j =>
   obtain ⟨t,rfl⟩:=ra
   obtain ⟨t',rfl⟩:=rc
   exact ⟨_,SeqAt.EqAt.str_str i t j t',by simp⟩
  | _=>exact h.elim
 | _=>exact h.elim
theorem j7 {a c:V}{v u:Value}(A:Around)(s:Shared)(h:sU a c)(ra:RelV a v)(rc:RelV c u)(prog:Program)(w:World){E:Value->Shared->Prop}{Q:Value->Shared->Prop}(q:Q (.bool (ltV a c)) s) :
  wpAny (model prog w) A (richCompare .Lt v u) Q E s:=by
 cases a with
 | int i =>
  cases c with
  | int j =>
   obtain ⟨t,rfl⟩:=ra
   obtain ⟨t',rfl⟩:=rc
   exact (PyProof.Rows.lt_int q:wpAny (model prog w) A (compareOp .Lt (.int i t) (.int j t')) Q E s)
  | _=>exact h.elim
 | str i =>
  cases c with
  | str j =>
   obtain ⟨t,rfl⟩:=ra
   obtain ⟨t',rfl⟩:=rc
   exact (PySem.P.lt_str q:wpAny (model prog w) A (compareOp .Lt (.str i t) (.str j t')) Q E s)
  | _=>exact h.elim
 | _=>exact h.elim
section
open PySem.SeqAt
open PySem.AutoSeq1 (wpAny_loadPart')
open PySem.MeetsSeq PySem.MeetsSeq2 PySem.MeetsSeq3
theorem lj (l b:Addr)(items items2:Array Value)(n n2:Nat)(dd dd2:Option Addr)(sl sl2:Array (Option Value))(xs ys:List V)(hi:Vals xs items.toList)(hj:Vals ys items2.toList)(hf:lZ xs ys) :
  Meets (Builtin.«tuple.__lt__» ⟨[.ref l,.ref b],[]⟩)
   (fun _ R s=>s.heap.get? l=some { cls:=.type "tuple",dict:=dd,data:=.seq items n,slots:=sl }/\s.heap.get? b=some { cls:=.type "tuple",dict:=dd2,data:=.seq items2 n2,slots:=sl2 } /\
    R (.ok (.ret (.bool (bT xs ys)))) s) :=
 .of_wp fun prog w A R s h=>by
  obtain ⟨hp,g,d,tk,os⟩:=s;obtain ⟨hl,hb,h⟩:=h
  have f2:=AutoSeq1.sub_tuple_tuple
  have z1:items.size=xs.length:=by rw [hi.length];simp
  have z2:items2.size=ys.length:=by rw [hj.length];simp
  wp_walk using wpAny_loadPart' hl,wpAny_loadPart' hb,wpAny_forIn_list _ (fun rest b s'=>b.1=none/\s'=⟨hp,g,d,tk,os⟩/\∃ (vs ws:List Value) (xs' ys':List V),rest=vs.zip ws /\
   Vals xs' vs/\Vals ys' ws/\lZ xs' ys'/\xs'.length+items2.size=ys'.length+items.size/\R (.ok (.ret (.bool (bT xs' ys')))) ⟨hp,g,d,tk,os⟩) _
  case turn =>
   rintro ⟨y,x⟩ rest b s' ⟨hb',rfl,vs,ws,xs',ys',hz,hvi,hwi,hft,hlen,hR⟩
   cases hvi with
   | nil=>rw [List.zip_nil_left] at hz;cases hz
   | @cons a v as vs' ra hvi' =>
    cases hwi with
    | nil=>rw [List.zip_nil_right] at hz;cases hz
    | @cons c u cs ws' rc hwi' =>
     rw [List.zip_cons_cons] at hz
     injection hz with hyx hrest
     injection hyx with hy hx
     subst hy hx
     simp only [List.length_cons] at hlen
     obtain ⟨fac,fit'⟩:sU a c/\lZ as cs:=hft
     obtain ⟨e,he,hiff⟩:=bI A.in1 ⟨hp,g,d,tk,os⟩ fac ra rc
     refine wpAny_bind (he prog w _ _ ?_)
     cases e with
     | true =>
      have hac:=hiff.mp rfl
      have hR2:R (.ok (.ret (.bool (bT as cs)))) ⟨hp,g,d,tk,os⟩:=by
       subst hac
       rw [aY,if_pos rfl] at hR;exact hR
      wp_walk
      exact ⟨rfl,rfl,_,_,_,_,hrest,hvi',hwi',fit',by lia,hR2⟩
     | false =>
      have hac:¬ a=c:=fun q=>absurd (hiff.mpr q) Bool.false_ne_true
      have hR2:R (.ok (.ret (.bool (ltV a c)))) ⟨hp,g,d,tk,os⟩:=by
       rw [aY,if_neg (by intro q;exact hac q)] at hR;exact hR
      have hri:=fun E Q h=>j7 (E:=E) (Q:=Q) A.in1 ⟨hp,g,d,tk,os⟩ fac ra rc prog w h
      wp_walk using hri
      exact ⟨_,rfl,by simpa using hR2⟩
  case fin =>
   rintro ⟨b1,b2⟩ s' ⟨hb',rfl,vs,ws,xs',ys',hz,hvi,hwi,hft,hlen,hR⟩
   simp only at hb'
   subst hb'
   have hv:bT xs' ys'=decide (items.size<items2.size):=by
    cases hvi with
    | nil =>
     cases hwi with
     | nil =>
      simp only [List.length_nil] at hlen
      rw [show bT [] []=false from rfl]
      exact (decide_eq_false (by lia)).symm
     | cons ru hw =>
      simp only [List.length_nil,List.length_cons] at hlen
      exact (decide_eq_true (by lia)).symm
    | cons ra hv =>
     cases hwi with
     | nil =>
      simp only [List.length_nil,List.length_cons] at hlen
      exact (decide_eq_false (by lia)).symm
     | cons ru hw =>
      rw [List.zip_cons_cons] at hz
      cases hz
   rw [hv] at hR
   wp_walk
   exact ⟨_,rfl,by simpa [Builtin.Tuple.tupleCompareSizes] using hR⟩
  case h =>
   exact ⟨rfl,rfl,items.toList,items2.toList,xs,ys,rfl,hi,hj,hf,by lia,h⟩
end
def yr (K:PySem.W.Frag):R2:=fun x y H Q=>∃ a b xs ys,x=.ref a/\y=.ref b/\SqT K H a xs/\SqT K H b ys/\lZ xs ys/\Q (.bl (bT xs ys)) H
theorem fG {X:Cx}(hu:X.A.units<cLine):OpR X (compareOp .Lt) (yr X.K):=by
 intro pins s σ H x y v u Q I rx ry h
 obtain ⟨a,b,xs,ys,rfl,rfl,ha,hb,hf,q⟩:=h
 cases rx
 cases ry
 obtain ⟨its,r1,p1,_⟩:=I.tuple ha
 obtain ⟨its2,r2,p2,_⟩:=I.tuple hb
 obtain ⟨⟨cls,dd,data,sl⟩,ho,hc,n,hd⟩:=id p1
 obtain ⟨⟨cls2,dd2,data2,sl2⟩,ho2,hc2,n2,hd2⟩:=id p2
 simp only at hc hd hc2 hd2
 subst hc hd hc2 hd2
 exact richCompare_meets_room (op:=.Lt) ⟨_,ho,rfl⟩ ⟨_,ho2,rfl⟩ PySem.F.slot_tuple_lt PySem.F.entry_tuple_lt (PySem.F.args_tuple_lt_2 _ _) (lj a b _ _ n n2 dd dd2 sl sl2 xs ys r1 r2 hf)
  ⟨ho,ho2,show Value.bool (bT xs ys)≠Value.notImplemented/\EP X pins σ Q (.bool (bT xs ys)) s from ⟨(fun x=>nomatch x),.bl _,H,I,rfl,q⟩⟩ hu
end L2
end
section
namespace L2
open PySem PySem.Spec PyProof.Rows
def lW (A B:KeyOrd):KeyOrd where
 α:=A.α×B.α
 blt p q:=A.blt p.1 q.1 || (!A.blt q.1 p.1&&B.blt p.2 q.2)
 irrefl a:=by rw [A.irrefl,B.irrefl];rfl
 trans a b c h1 h2:=by
  rw [Bool.or_eq_true,Bool.and_eq_true,Bool.not_eq_true'] at *
  rcases h1 with h1 | ⟨h1,k1⟩
  .rcases h2 with h2 | ⟨h2,k2⟩
   .exact .inl (A.trans _ _ _ h1 h2)
   .exact .inl (KeyOrd.klt_of_klt_of_kle (O:=A) h1 h2)
  .rcases h2 with h2 | ⟨h2,k2⟩
   .exact .inl (KeyOrd.klt_of_kle_of_klt (O:=A) h1 h2)
   .exact .inr ⟨KeyOrd.kle_trans (O:=A) h1 h2,B.trans _ _ _ k1 k2⟩
 negTrans a b c h:=by
  rw [Bool.or_eq_true,Bool.and_eq_true,Bool.not_eq_true'] at *
  rw [Bool.or_eq_true,Bool.and_eq_true,Bool.not_eq_true']
  rcases h with h | ⟨h,k⟩
  .cases e:A.blt a.1 b.1 with
   | true=>exact .inl (.inl rfl)
   | false =>
    cases e2:A.blt b.1 c.1 with
    | true=>exact .inr (.inl rfl)
    | false =>
     rcases A.negTrans _ b.1 _ h with z | z
     .rw [z] at e;cases e
     .rw [z] at e2;cases e2
  .cases e:A.blt a.1 b.1 with
   | true=>exact .inl (.inl rfl)
   | false =>
    cases e2:A.blt b.1 c.1 with
    | true=>exact .inr (.inl rfl)
    | false =>
     have e3:A.blt b.1 a.1=false:=KeyOrd.kle_trans (O:=A) h e2
     have e4:A.blt c.1 b.1=false:=KeyOrd.kle_trans (O:=A) e h
     rcases B.negTrans _ b.2 _ k with z | z
     .exact .inl (.inr ⟨e3,z⟩)
     .exact .inr (.inr ⟨e4,z⟩)
 total a b h1 h2:=by
  rw [Bool.or_eq_false_iff] at h1 h2
  obtain ⟨a1,b1⟩:=h1
  obtain ⟨a2,b2⟩:=h2
  rw [a2] at b1
  rw [a1] at b2
  exact Prod.ext (A.total _ _ a1 a2) (B.total _ _ (by simpa using b1) (by simpa using b2))
def mw:KeyOrd where
 α:=Int
 blt a b:=decide (a<b)
 irrefl a:=by simp
 trans a b c h1 h2:=by simp only [decide_eq_true_eq] at *;lia
 negTrans a b c h:=by simp only [decide_eq_true_eq] at *;lia
 total a b h1 h2:=by simp only [decide_eq_false_iff_not] at *;lia
def enOrd:KeyOrd:=lW mw (lW strKind.toKeyOrd mw)
def vx:List V->enOrd.α
 | [.int i,.str x,.int j]=>(i,x.cps.toList,j)
 | _=>((0:Int),([]:List Nat),(0:Int))
def eJ (l:List V):Prop:=∃ i x j,l=[.int i,.str x,.int j]
theorem mG {a b:Str}(h:a.cps.toList=b.cps.toList):a=b:=by
 cases a with | mk c=>cases b with | mk d=>congr 1;exact Array.toList_inj.mp h
theorem oM {a b:List V}(ha:eJ a)(hb:eJ b):enOrd.blt (vx a) (vx b)=bT a b:=by
 obtain ⟨i,x,j,rfl⟩:=ha
 obtain ⟨i',x',j',rfl⟩:=hb
 show (decide (i<i') || (!decide (i'<i)&&(decide (x.cps.toList<x'.cps.toList) || (!decide (x'.cps.toList<x.cps.toList)&&decide (j<j')))))=_
 rw [aY]
 by_cases h1:i=i'
 .subst h1
  rw [if_pos rfl,aY]
  simp only [Int.lt_irrefl,decide_false,Bool.false_or,Bool.not_false,Bool.true_and]
  by_cases h2:x=x'
  .subst h2
   rw [if_pos rfl,aY]
   have e:decide (x.cps.toList<x.cps.toList)=false:=by simpa using List.lt_irrefl x.cps.toList
   rw [e]
   simp only [Bool.false_or,Bool.not_false,Bool.true_and]
   by_cases h3:j=j'
   .subst h3
    rw [if_pos rfl]
    simp [bT]
   .rw [if_neg (by intro z;cases z;exact h3 rfl)]
    rfl
  .rw [if_neg (by intro z;cases z;exact h2 rfl)]
   show _=decide (x.cps.toList<x'.cps.toList)
   cases e:decide (x.cps.toList<x'.cps.toList) with
   | true=>rfl
   | false =>
    have n1:¬ x.cps.toList<x'.cps.toList:=of_decide_eq_false e
    have l1:x'.cps.toList<x.cps.toList:=by
     rcases Classical.em (x'.cps.toList<x.cps.toList) with z | z
     .exact z
     .exact absurd (mG (List.le_antisymm (List.not_lt.mp z) (List.not_lt.mp n1))) h2
    rw [decide_eq_true l1];rfl
 .rw [if_neg (by intro z;cases z;exact h1 rfl)]
  show _=decide (i<i')
  by_cases h2:i<i'
  .rw [decide_eq_true h2];rfl
  .have h3:i'<i:=by lia
   rw [decide_eq_false h2,decide_eq_true h3];rfl
def ff:Value->V
 | .ref a=>.ref a
 | _=>.non
theorem w9 {a b:List V}(ha:eJ a)(hb:eJ b):lZ a b:=by
 obtain ⟨i,x,j,rfl⟩:=ha
 obtain ⟨i',x',j',rfl⟩:=hb
 exact ⟨trivial,trivial,trivial,trivial⟩
section
variable {X:Cx}
theorem rL {x y z:V}{us:List Value}(r:Vals [x,y,z] us):∃ u v w,us=[u,v,w]/\RelV x u/\RelV y v/\RelV z w:=by
 cases r with
 | cons r1 r2 =>
  cases r2 with
  | cons r3 r4 =>
   cases r4 with
   | cons r5 r6=>cases r6;exact ⟨_,_,_,rfl,r1,r3,r5⟩
end
end L2
end
section
namespace L2
open PySem PySem.Spec PyProof.Rows
def Cx.blk (X:Cx)(scope:Scope)(cl:List (Str×Addr))(C:Addr)(NB:List Str)(fp:List Addr)(s₀:Shared)(H₀:Hp):Cx :=
 { X with N:=NB,s₀:=s₀,H₀:=H₀,env:=compEnvC scope cl C X.env,outer:=X.stack,ex:=X.ex++fp,fn:=fun _=>false,pn:=[],xe:=fun _ _=>False }
structure Blk (X:Cx)(scope:Scope)(cl:List (Str×Addr))(x:Str)(NB:List Str)(cap:List Nat):Prop where
 clos:closureFor scope X.env=pure cl
 nocell:∀y∈scope.names,y.2≠.cell
 kind:scope.kind=.function
 names:∀y∈scope.names,y.2=.local->scope.names.lookup y.1=some .local
 cells:∀y c,cl.lookup y=some c->X.env.cells.lookup y=some c
 has:∀y,((relabel scope X.env).names.lookup y=some .cell∨(relabel scope X.env).names.lookup y=some .free)->∃ c,cl.lookup y=some c
 len:cap.length=NB.length
 /-- the slot j+1 of the block is the slot i of X,by a cell -/
 cap:∀(j i:Nat),cap[j]?=some i->∃ y,NB[j]?=some y/\X.N[i]?=some y/\Vis X.env.scope y/\(X.env.kindOf y=some .cell∨X.env.kindOf y=some .free)/\((relabel scope X.env).names.lookup y=some .cell∨(relabel scope X.env).names.lookup y=some .free)
 own:scope.names.lookup x=some .local
 nd:(x::NB).Nodup
def bi (cap:List Nat)(σ:St):St:=cap.map fun i=>σ[i]?.join
def jM (wi:TI)(tt:TT)(te:TE)(cap:List Nat):TE:=fun σ H Q=>wi σ H fun J H1=>∀D,H1 D=none ->
 ∃ W:Nat->Nat->List V->Hp->Prop,(∃ m,W 0 m [] (upd H1 D (.lst [])))/\∀i m ys H,W i m ys H->H D=some (.lst ys) /\
  ((J.stop i H/\Q (.ref D) H)∨(J.go i H/\∀x H',J.yld i H x H'->tt (some x::bi cap σ) H' fun b H3 =>
   if b=true then te (some x::bi cap σ) H3 fun v H4=>H4 D=some (.lst ys)/\ys.length<sizeLine/\∃ m',m'<m/\W (i+1) m' (ys++[v]) (upd H4 D (.lst (ys++[v])))
   else ∃ m',m'<m/\W (i+1) m' ys H3))
def PTs (X:Cx)(ifs:List Expr)(t:TT):Prop :=
 ∀(pins:List (Addr×Obj)) (s:Shared) (σ:St) (H:Hp) (Q:Bool->Hp->Prop),Inv X pins σ H s->t σ H Q ->
  wpAny (model X.prog X.w) X.A (forIn ifs true fun c r=>if r=true then do let ok <-isTrue c X.env (eval c X.env);pure (ForInStep.yield ok) else pure (ForInStep.yield r)) (TP X pins σ Q) X.xe s
def lT:TT:=fun _ H Q=>Q true H
theorem sS {X:Cx}:PTs X [] lT:=fun pins s σ H Q I h=>wpAny_tests_nil ⟨H,I,h⟩
theorem ul {X:Cx}{c:Expr}{t:TT}(h:PT X c t):PTs X [c] t:=fun pins s σ H Q I hq=>wpAny_tests_one (h pins s σ H Q I hq)
theorem ja {prog:Program}{w:World}{A:Around}{R:Result->Shared->Prop}{s:Shared}{elt target iter:Expr}{ifs:List Expr}{scope:Scope}{pos:Pos}{it acc:Value}{env:Env}(I:Nat->Shared->Prop)
  (turn:∀n s,I n s->wpAny (model prog w) A (pyNext it) (fun r s₁=>match r with
   | none=>R (.ok .next) s₁
   | some v=>wpAny (model prog w) A (letOwnedTupleGo target it v) (fun _ s₁'=>wpAny (model prog w) A (assign target env v) (fun _ s₂ =>
     wpAny (model prog w) A (forIn ifs true fun c r=>if r=true then do let ok <-isTrue c env (eval c env);pure (ForInStep.yield ok) else pure (ForInStep.yield r)) (fun ok s₃ =>
      if ok=true then wpAny (model prog w) A (eval elt env) (fun x s₄ =>
       wpAny (model prog w) A (call (.builtin "list.append") [acc,x]) (fun _ s₅=>∃ m,m<n/\I m s₅) (fun _ _=>False) s₄) (fun _ _=>False) s₃
      else ∃ m,m<n/\I m s₃) (fun _ _=>False) s₂) (fun _ _=>False) s₁') (fun _ _=>False) s₁) (fun _ _=>False) s)
  (n:Nat) (h:I n s):codeAny (model prog w) A (.compLoop (.ListComp elt [⟨target,iter,ifs,0⟩] scope pos) 0 it acc env) R s:=by
 refine codeAny_loop rfl I (fun n s hI=>?_) n h
 show wpAny _ A ((compTurn (.ListComp elt [⟨target,iter,ifs,0⟩] scope pos) 0 it acc env).onRaise (fun x=>do noteFrame x env;theTreesLotGoes x)) _ _ s
 refine wpAny_noted ?_
 rw [compTurn_list]
 refine wpAny_bind (wpAny_standAt (wpAny_bind (wpAny_mono (turn n s hI) (fun r s₁ h₁=>?_) fun _ _ z=>z.elim)))
 cases r with
 | none=>exact wpAny_pure h₁
 | some v =>
  refine wpAny_bind (wpAny_mono h₁ (fun _ s₁' h₁'=>?_) fun _ _ z=>z.elim)
  refine wpAny_bind (wpAny_mono h₁' (fun _ s₂ h₂=>wpAny_bind (wpAny_mono h₂ (fun ok s₃ h₃=>?_) fun _ _ z=>z.elim)) fun _ _ z=>z.elim)
  cases ok with
  | false=>exact wpAny_pure ⟨rfl,h₃⟩
  | true =>
   exact wpAny_bind (wpAny_bind (wpAny_mono h₃ (fun x s₄ h₄=>wpAny_bind (wpAny_mono h₄ (fun _ s₅ h₅=>wpAny_pure (wpAny_pure ⟨rfl,h₅⟩)) fun _ _ z=>z.elim)) fun _ _ z=>z.elim))
structure yv (X:Cx)(pins:List (Addr×Obj))(H:Hp)(C:Addr)(s:Shared):Prop where
 ns:∃ m,s.heap.Ns C m
 fp:ke X pins H C
theorem iT {X:Cx}{elt iter:Expr}{x:Str}{px pos pos':Pos}{ifs:List Expr}{scope:Scope}{cl:List (Str×Addr)}{NB:List Str}{cap:List Nat}{wi:TI}{tt:TT}{te:TE}
  {pins:List (Addr×Obj)} {s:Shared} {σ:St} {H:Hp} {Q:VK} {use:Option (Value->Sem Unit)} {R:Value->Shared->Prop}
  (B:Blk X scope cl x NB cap) (hc:X.calm=true) (hex:X.ex=[]) (hi:PI X (.Name x px) iter wi)
  (ht:∀C fp s₀ H₀,PTs (X.blk scope cl C (x::NB) fp s₀ H₀) ifs tt) (he:∀C fp s₀ H₀,PE (X.blk scope cl C (x::NB) fp s₀ H₀) elt te)
  (hs:∀v,foldedSetIterable iter X.env v=pure v) (I:Inv X pins σ H s) (h:jM wi tt te cap σ H Q)
  (fin:∀(D C:Addr) (H':Hp) (s':Shared),Inv X pins σ H' s'->yv X pins H' C s'->Q (.ref D) H'->compPost (model X.prog X.w) X.A X.xe use R (.ref D) C (.ok .next) s') :
  wpAny (model X.prog X.w) X.A (comprehension (.ListComp elt [⟨.Name x px,iter,ifs,0⟩] scope pos) scope X.env pos' (newList []) false (eval iter X.env) use) R X.xe s:=by
 refine wpAny_comprehension_free (use:=use) rfl hs B.clos B.kind B.names (thn (hi pins s σ H _ I h) fun v s1 h1=>thn h1 fun itv s2 h2=>?_)
 obtain ⟨it,fp,tn,J,H2,e,I2,T,st2,f2,h2⟩:=h2
 subst e
 refine wpAny_newObj_type (wpAny_newFunctionEnv B.nocell (by intro y hy;simp at hy) (fun h₁ hns₁ hsb₁=>?_) B.kind)
 dsimp only at hns₁ hsb₁ ⊢
 have I3:=I2.lnew (ys:=[]) (its:=[]) (t':=s2.toks) .nil (Nat.zero_le _)
 have hD:=I2.fresh
 obtain ⟨W,⟨m0,w0⟩,turn⟩:=h2 _ hD
 generalize eD:s2.heap.objs.size=D at hD I3 W w0 turn ⊢
 generalize eH2:s2.heap.push { cls:=.type "list",dict:=none,data:=.seq ([]:List Value).toArray }=G3 at hns₁ hsb₁ I3 ⊢
 generalize eH3:upd H2 D (.lst [])=H3 at I3 w0
 have hC:G3.objs.size=D+1:=by rw [<-eH2,Heap.size_push,eD]
 generalize eC:G3.objs.size=C at hns₁ hsb₁ hC ⊢
 have old:∀b o,G3.get? b=some o->h₁.get? b=some o:=fun b o e =>
  hsb₁.extBut b o (by rw [<-eC];exact Nat.ne_of_lt (Heap.lt_size e)) (Heap.get?_push_of_some _ e)
 have old2:∀b o,s2.heap.get? b=some o->G3.get? b=some o:=fun b o e=>by rw [<-eH2];exact Heap.get?_push_of_some _ e
 have fpo:∀b∈fp,b<D:=fun b hb=>by
  obtain ⟨o,e,_⟩:=T.obj 0 _ st2 b hb
  rw [<-eD];exact Heap.lt_size e
 have fpx:∀b∈fp,b∉frs X.stack:=fun b hb z=>by
  obtain ⟨f0,f1,f2',_⟩:=f2 b hb
  rcases List.mem_cons.mp (I2.stkSub b z) with q | q
  .exact f1 q
  .exact f2' q
 let Y:Cx:=X.blk scope cl C (x::NB) fp { s2 with heap:=G3,toks:=s2.toks } H3
 have okY:Y.Ok:=by
  refine ⟨I3.ok.mod,B.kind,I3.ok.glob,I3.ok.blt,?_,?_,B.has,?_,I3.ok.hd,I3.ok.frames,.inl rfl,?_,I3.bs,?_,?_,?_,I3.stack,I3.stkFree⟩
  .show G3.objs.size<=C
   lia
  .intro y z c e1 e2
   exact I3.ok.inj y z c (B.cells y c e1) (B.cells z c e2)
  .intro y c z
   cases z
  .intro b hb
   have hb':b∈fp:=by
    have:b∈X.ex++fp:=hb
    rw [hex] at this;simpa using this
   refine ⟨?_,fun y c e=>(f2 b hb').2.2.2.2.1 y c (B.cells y c e)⟩
   show b≠C
   exact Nat.ne_of_lt (Nat.lt_of_lt_of_le (fpo b hb') (by rw [hC];exact Nat.le_succ _))
  .show X.base.objs.size<=G3.objs.size
   exact Nat.le_trans I3.ok.bsz I3.sz
  .intro b o e hb
   have hb':b∈fp:=by
    have:b∈X.ex++fp:=hb
    rw [hex] at this;simpa using this
   rcases (f2 b hb').2.2.2.1 with z | z
   .rw [hex] at z;cases z
   .exact absurd (Nat.lt_of_lt_of_le (Nat.lt_of_lt_of_le (Heap.lt_size e) I3.ok.bsz) z) (Nat.lt_irrefl _)
  .intro b hb
   have hb':b∈fp:=by
    have:b∈X.ex++fp:=hb
    rw [hex] at this;simpa using this
   exact fpx b hb'
 have IY:Inv Y [] (none::bi cap σ) H3 { s2 with heap:=h₁,toks:=s2.toks }:=by
  refine ⟨okY,rfl,I3.bare,Un.kept old,⟨_,hns₁,?_⟩,?_,?_,?_,?_,I3.hok.kept old,?_⟩
  .intro j y v e1 e2 hv
   cases j with
   | zero=>cases e2
   | succ j =>
    have e1':NB[j]?=some y:=e1
    have e2':(bi cap σ)[j]?=some (some v):=e2
    unfold bi at e2'
    rw [List.getElem?_map] at e2'
    cases ec:cap[j]? with
    | none=>rw [ec] at e2';cases e2'
    | some i =>
     rw [ec] at e2'
     have e3:σ[i]?.join=some v:=Option.some.inj e2'
     have e4:σ[i]?=some (some v):=by
      cases q:σ[i]? with
      | none=>rw [q] at e3;cases e3
      | some z=>rw [q] at e3;exact congrArg some e3
     obtain ⟨y',n1,n2,n3,n4,n5⟩:=B.cap j i ec
     rw [e1'] at n1
     cases n1
     obtain ⟨m,hn,hl⟩:=I3.loc
     obtain ⟨u,r,lk⟩:=hl i y v n2 e4 n3
     refine ⟨u,r,.inr ⟨n5,?_⟩⟩
     obtain ⟨c,hcl⟩:=B.has y n5
     refine ⟨c,hcl,?_⟩
     rcases lk with ⟨k1,_⟩ | ⟨_,c',ec',cell⟩
     .rcases n4 with n4 | n4 <;> (rw [n4] at k1;cases k1)
     .rw [B.cells y c hcl] at ec'
      cases ec'
      obtain ⟨o,ho,hd⟩:=cell
      exact ⟨o,old c o ho,hd⟩
  .intro y c e
   obtain ⟨v,o,ho,hd⟩:=I3.cell y c (B.cells y c e)
   exact ⟨v,o,old c o ho,hd⟩
  .exact I3.hok.fresh (show G3.objs.size<=C by lia)
  .intro y c e
   exact I3.freeC y c (B.cells y c e)
  .intro p hp
   cases hp
  .show (none::bi cap σ).length=(x::NB).length
   rw [List.length_cons,List.length_cons,<-B.len]
   unfold bi
   rw [List.length_map]
 have fpY:∀{H':Hp},(∀b∈fp,H' b=none)->∀b∈fp,ke Y [] H' b:=fun {H'} hn b hb=>by
  refine ⟨hn b hb,?_,fpx b hb,.inl ?_,fun y c e=>(f2 b hb).2.2.2.2.1 y c (B.cells y c e),fun p hp=>by cases hp⟩
  .show b≠C
   exact Nat.ne_of_lt (Nat.lt_of_lt_of_le (fpo b hb) (by rw [hC];exact Nat.le_succ _))
  .show b∈X.ex++fp
   exact List.mem_append_right _ hb
 have st4:tn 0 h₁:=T.keep _ _ _ st2 fun b hb o e=>old b o (old2 b o e)
 have fr4:∀b∈fp,H3 b=none:=fun b hb=>by
  rw [<-eH3,ak (Nat.ne_of_lt (fpo b hb))];exact (f2 b hb).1
 have leave:∀(H':Hp) (s':Shared),Inv Y [] (none::bi cap σ) H' s'->Q (.ref D) H'->compPost (model X.prog X.w) X.A X.xe use R (.ref D) C (.ok .next) s':=by
  intro H' s' I' q
  obtain ⟨m,hn,_⟩:=id I'.loc
  have u:=I'.base
  have I5:Inv X pins σ H' s':=by
   refine I3.call' (s':=s') (ch:=X.ex++fp) I'.os u I'.hok I'.bare fun b hb=>?_
   have hb':b∈fp:=by rw [hex] at hb;simpa using hb
   obtain ⟨f0,f1,f2',f3,f4,f5⟩:=f2 b hb'
   exact ⟨f3,f1,f4,f5⟩
  exact fin D C H' s' I5 ⟨⟨m,hn⟩,I3.fpOk (show G3.objs.size<=C by rw [eC];exact Nat.le_refl _) I'.free⟩ q
 have loop:∀s₄:Shared,s₄={ s2 with heap:=h₁,toks:=s2.toks } ->
   codeAny (model X.prog X.w) X.A (.compLoop (.ListComp elt [⟨.Name x px,iter,ifs,0⟩] scope pos) 0 (.ref it) (.ref D) (compEnvC scope cl C X.env)) (compPost (model X.prog X.w) X.A X.xe use R (.ref D) C) s₄:=by
  rintro s₄ rfl
  refine ja (fun n s'=>∃ i ys H',Inv Y [] (none::bi cap σ) H' s'/\tn i s'.heap/\(∀b∈fp,H' b=none)/\W i n ys H') ?_ m0 ⟨0,[],H3,IY,st4,fr4,w0⟩
  rintro n s3 ⟨i,ys,H',I',st',fr',w'⟩
  obtain ⟨hDl,tr⟩:=turn i n ys H' w'
  rcases tr with ⟨stop,q⟩ | ⟨go,step⟩
  .refine thn (T.done Y rfl rfl rfl hc i [] s3 _ H' (fun _ _=>False) I' (fpY fr') st' stop) fun r s4 ⟨hr,I4⟩=>?_
   subst hr
   exact leave H' s4 I4 q
  .refine thn (T.item Y rfl rfl rfl hc i [] s3 _ H' (fun _ _=>False) I' (fpY fr') st' go) fun r s4 ⟨u,hr,h4⟩=>?_
   subst hr
   refine thn h4 fun _ s5 ⟨v,H5,I5,r5,y5,st5,fr5⟩=>?_
   have I5':=I5.pinned (fpY fr5) (T.obj _ _ st5)
   have back:∀{σ7:St} {H7:Hp} {s7:Shared},Inv Y ([]++gH fp s5.heap) (some v::bi cap σ) H7 s7->Inv Y [] (none::bi cap σ) H7 s7/\tn (i+1) s7.heap/\∀b∈fp,H7 b=none:=fun {σ7 H7 s7} I7=>by
    refine ⟨I7.unpinned.weak (by simp) fun j z e=>?_,T.keep _ _ _ st5 fun b hb o e=>(I7.pin (b,o) (List.mem_append_right _ (List.mem_append_right _ (cO hb e)))).1,fun b hb=>?_⟩
    .cases j with
     | zero=>cases e
     | succ j=>exact e
    .obtain ⟨o,e,d⟩:=T.obj _ _ st5 b hb
     exact (I7.pin (b,o) (List.mem_append_right _ (List.mem_append_right _ (cO hb e)))).2.1
   have hgN:PG Y (.Name x px) (gR 0):=oj (i:=0) B.nd rfl (.inl (lookup_relabel_local B.own)) (.inr (lookup_relabel_local B.own))
   refine thn (hgN _ s5 _ H5 v u (fun σ6 H6=>σ6=some v::bi cap σ/\H6=H5) I5' r5 ⟨rfl,rfl⟩) fun _ s6 ⟨σ6,H6,I6,e6,e6'⟩=>?_
   subst e6 e6'
   refine thn (ht C fp _ _ _ s6 _ H6 _ I6 (step v H6 y5)) fun ok s7 ⟨H7,I7,q7⟩=>?_
   cases ok with
   | false =>
    simp only [Bool.false_eq_true,if_false] at q7 ⊢
    obtain ⟨m',hm,w7⟩:=q7
    obtain ⟨a,b,c⟩:=back (σ7:=[]) I7
    exact ⟨m',hm,i+1,ys,H7,a,b,c,w7⟩
   | true =>
    simp only [if_true] at q7 ⊢
    refine thn (he C fp _ _ _ s7 _ H7 _ I7 q7) fun u8 s8 ⟨v8,H8,I8,r8,q8⟩=>?_
    obtain ⟨d8,l8,m',hm,w8⟩:=q8
    refine thn (bQ (X:=Y) _ s8 _ H8 (.ref D) [v8] (.ref D) [u8] (fun _ H9=>H9=upd H8 D (.lst (ys++[v8]))) I8 rfl (.cons r8 .nil) ⟨D,ys,v8,rfl,rfl,d8,l8,rfl⟩) fun _ s9 ⟨_,H9,I9,_,e9⟩=>?_
    subst e9
    obtain ⟨a,b,c⟩:=back (σ7:=[]) I9
    exact ⟨m',hm,i+1,ys++[v8],_,a,b,c,w8⟩
 refine codeAny_compStart_list (loop _ ?_) (T.self _ 0 _ _ _ ?_ (loop _ ?_))
 .rfl
 .exact st4
 .rfl
theorem uE {X:Cx}{elt iter:Expr}{x:Str}{px pos:Pos}{ifs:List Expr}{scope:Scope}{cl:List (Str×Addr)}{NB:List Str}{cap:List Nat}{wi:TI}{tt:TT}{te:TE}
  (B:Blk X scope cl x NB cap) (hc:X.calm=true) (hex:X.ex=[]) (hi:PI X (.Name x px) iter wi)
  (ht:∀C fp s₀ H₀,PTs (X.blk scope cl C (x::NB) fp s₀ H₀) ifs tt) (he:∀C fp s₀ H₀,PE (X.blk scope cl C (x::NB) fp s₀ H₀) elt te)
  (hs:∀v,foldedSetIterable iter X.env v=pure v:=by intro _;rfl):PE X (.ListComp elt [⟨.Name x px,iter,ifs,0⟩] scope pos) (jM wi tt te cap):=by
 intro pins s σ H Q I h
 rw [eval_ListComp]
 refine iT (use:=none) (R:=EP X pins σ Q) B hc hex hi ht he hs I h fun D C H' s' I' G q=>?_
 obtain ⟨m,hn⟩:=G.ns
 obtain ⟨f0,f1,f2,f3,f4,f5⟩:=G.fp
 refine ⟨m,hn,fun h' hs'=>⟨.ref D,H',?_,rfl,q⟩⟩
 exact I'.turned (t':=s'.toks) (fun b o hb e=>(hs'.2 b hb).trans e) f0 f1 f3 f4 f5
theorem lO {X:Cx}{elt iter:Expr}{x y:Str}{px py pos spos:Pos}{ifs:List Expr}{scope:Scope}{cl:List (Str×Addr)}{NB:List Str}{cap:List Nat}{wi:TI}{tt:TT}{te:TE}{i:Nat}
  (hN:X.N.Nodup) (hi':X.N[i]?=some y) (hx:Loc X.env.scope y)
  (B:Blk X scope cl x NB cap) (hc:X.calm=true) (hex:X.ex=[]) (hi:PI X (.Name x px) iter wi)
  (ht:∀C fp s₀ H₀,PTs (X.blk scope cl C (x::NB) fp s₀ H₀) ifs tt) (he:∀C fp s₀ H₀,PE (X.blk scope cl C (x::NB) fp s₀ H₀) elt te)
  (hsw:swapsWith (.ListComp elt [⟨.Name x px,iter,ifs,0⟩] scope pos) (some (.Name y py)) spos.line X.env=pure true:=by rfl)
  (hs:∀v,foldedSetIterable iter X.env v=pure v:=by intro _;rfl) (hf:X.fn y=true∨X.env.scope.names.lookup y=some .local:=by first | exact .inl rfl | exact .inr rfl | assumption) :
  PS X (.Assign [.Name y py] (.ListComp elt [⟨.Name x px,iter,ifs,0⟩] scope pos) spos) (pE (jM wi tt te cap) (gR i)):=by
 intro pins s σ H D I h
 rw [exec_Assign_Name_used _ _ _ _ hsw]
 refine wpAny_bind (wpAny_standAt (wpAny_bind ?_))
 show wpAny _ X.A (do let _ <-comprehension (.ListComp elt [⟨.Name x px,iter,ifs,0⟩] scope pos) scope X.env _ (newList []) false (eval iter X.env) (some (assign (.Name y py) X.env))) _ _ s
 refine wpAny_bind (wpAny_mono (iT (use:=some (assign (.Name y py) X.env)) (R:=fun _ s'=>SP X pins D .next s') B hc hex hi ht he hs I h fun L C H' s' I' G q=>?_) (fun _ s' hq=>wpAny_pure (wpAny_pure hq)) fun _ _ e=>e)
 obtain ⟨m,hn⟩:=G.ns
 obtain ⟨f0,f1,f2,f3,f4,f5⟩:=G.fp
 refine wpAny_assign_Name (iw (v:=.ref L) I' hN hi' hx rfl (fun s'' I'' ⟨a,sb,ha⟩=>?_) hf)
 have hC:C≠a:=by
  rcases ha with z | z
  .rw [z];exact f1
  .exact fun e=>f4 y a z e.symm
 refine ⟨m,hn.sameBut sb hC,fun h' hs'=>⟨_,H',?_,q⟩⟩
 exact I''.turned (t':=s''.toks) (fun b o hb e=>(hs'.2 b hb).trans e) f0 f1 f3 f4 f5
end L2
end
section
namespace L2
open PySem PySem.Spec PyProof.Rows
section
variable {X:Cx}
theorem gT (hu:X.A.units<cLine):OpR X (compareOp .Eq) (fun x y H Q=>∃ a b xs,x=.ref a/\y=.ref b/\SqL X.K H a xs/\SqL X.K H b []/\Q (.bl (decide (xs=[]))) H):=by
 intro pins s σ H x y v u Q I rx ry h
 obtain ⟨a,b,xs,rfl,rfl,ha,hb,q⟩:=h
 cases rx
 cases ry
 obtain ⟨its,r1,p1,_⟩:=I.list ha
 obtain ⟨its2,r2,p2,_⟩:=I.list hb
 cases r2
 cases xs with
 | nil =>
  cases r1
  exact SeqAt.eq_listAt (e:=fun _=>true) p1.isList p2.isList rfl hu (fun j h1 _=>absurd h1 (by simp)) ⟨.bl true,H,I,rfl,by simpa using q⟩
 | cons z zs =>
  cases r1 with
  | cons _ _=>exact SeqAt.eq_list_lengthsAt p1.isList p2.isList (by simp) hu ⟨.bl false,H,I,rfl,by simpa using q⟩
theorem jP (hu:X.A.units<cLine):OpR X (compareOp .NotEq) (fun x y H Q=>∃ a b xs,x=.ref a/\y=.ref b/\SqL X.K H a xs/\SqL X.K H b []/\Q (.bl (!decide (xs=[]))) H):=by
 intro pins s σ H x y v u Q I rx ry h
 obtain ⟨a,b,xs,rfl,rfl,ha,hb,q⟩:=h
 cases rx
 cases ry
 obtain ⟨its,r1,p1,_⟩:=I.list ha
 obtain ⟨its2,r2,p2,_⟩:=I.list hb
 cases r2
 cases xs with
 | nil =>
  cases r1
  exact SeqAt.RcNeAt.lists (e:=fun _=>true) p1.isList p2.isList rfl hu (fun j h1 _=>absurd h1 (by simp)) _ _ _ _ ⟨.bl false,H,I,rfl,by simpa using q⟩
 | cons z zs =>
  cases r1 with
  | cons _ _=>exact SeqAt.RcNeAt.lists_lengths p1.isList p2.isList (by simp) hu _ _ _ _ ⟨.bl true,H,I,rfl,by simpa using q⟩
end
end L2
end
section
namespace L2
open PySem PySem.Spec PyProof.Rows
def xA (_ j:Int):Prop:=0<j/\j<2 ^ 200
theorem bJ {X:Cx}:OpR X (binaryOp .FloorDiv) (rI xA fun i j=>.int (i / j)):=opI fun i j _ _ _ _ _ hc q=>by
 have h1:(0:Int)<j:=hc.1
 have h2:j<2 ^ 200:=hc.2
 rw [<-Int.fdiv_eq_ediv_of_nonneg i (by lia)] at q
 refine floordiv_int (by lia) q (.inl (PyProof.noPylong_of_log2 ?_))
 have h3:j.natAbs<2 ^ 200:=by lia
 have h4:j.natAbs.log2<200:=(Nat.log2_lt (by lia)).mpr h3
 lia
structure Bl (mg:Str->Option Value):Prop where
 z_len:mg "len"=none
 z_sum:mg "sum"=none
 z_abs:mg "abs"=none
 z_range:mg "range"=none
 z_list:mg "list"=none
 z_tuple:mg "tuple"=none
 z_int:mg "int"=none
 z_bool:mg "bool"=none
 z_sorted:mg "sorted"=none
 z_isinstance:mg "isinstance"=none
structure Nm (K:PySem.W.Frag)(mg:Str->Option Value)(x:Str)(a:Addr)(fd:FuncData)(ps:List Str):Prop where
 m:mg x=some (.ref a)
 k:PySem.W.keepIn K (.ref a)=true
 b:Binds K fd ps []
theorem wE {cs:List Int}{i:Int}(h0:0<=i)(h1:i<cs.length):atI (cs.map V.int) i=some (.int (cs.getD i.toNat 0)):=by
 have h2:i.toNat<cs.length:=by lia
 have e:(cs.map V.int)[i.toNat]?=some (.int (cs.getD i.toNat 0)):=by
  rw [List.getElem?_map,List.getElem?_eq_getElem h2]
  simp [List.getD,List.getElem?_eq_getElem h2]
 have:=cH e
 rwa [Int.toNat_of_nonneg h0] at this
theorem b7 {n:Nat}{i:Int}(h0:0<=i)(h1:i<n):ixN n i=some i.toNat:=by
 unfold ixN
 rw [if_pos h0,if_pos h1]
theorem db {a b:Int}(h:0<b):0<=a % b:=Int.emod_nonneg _ (by lia)
theorem cV {a b:Int}(h:0<b):a % b<b:=Int.emod_lt_of_pos _ h
end L2
end
section
namespace L2
open PySem PySem.Spec PyProof.Rows
def bj (names:List (Str×NameKind)):List Str:=(names.filter fun y=>y.2 == .free).map (·.1)
def wF (scope:Scope)(env:Env):List (Str×Addr):=(bj scope.names).reverse.map fun n=>(n,(env.cells.lookup n).getD 0)
theorem gW {g:Str->Addr}{y:Str}{c:Addr}:∀{l:List Str},(l.map fun n=>(n,g n)).lookup y=some c->y∈l/\c=g y
 | [],h=>by cases h
 | a::l,h=>by
  rw [List.map_cons,List.lookup_cons] at h
  cases e:y == a with
  | true =>
   rw [e] at h
   have e':y=a:=by simpa using e
   subst e'
   exact ⟨List.mem_cons_self,(Option.some.inj h).symm⟩
  | false =>
   rw [e] at h
   obtain ⟨m,q⟩:=gW h
   exact ⟨List.mem_cons_of_mem _ m,q⟩
theorem di {g:Str->Addr}{y:Str}:∀{l:List Str},y∈l->(l.map fun n=>(n,g n)).lookup y=some (g y)
 | [],h=>by cases h
 | a::l,h=>by
  rw [List.map_cons,List.lookup_cons]
  cases e:y == a with
  | true =>
   have e':y=a:=by simpa using e
   subst e'
   rfl
  | false =>
   rcases List.mem_cons.mp h with z | z
   .subst z;simp at e
   .exact di z
theorem d0 (env:Env):∀(names:List (Str×NameKind)) (acc:List (Str×Addr)),(∀n∈bj names,∃ c,env.cells.lookup n=some c) ->
  (forIn names acc fun y cs=>if (y.2 == NameKind.free)=true then (do let c <-cellOf env y.1;pure (ForInStep.yield ((y.1,c)::cs))) else pure (ForInStep.yield cs):Sem (List (Str×Addr))) =
   pure ((bj names).reverse.map (fun n=>(n,(env.cells.lookup n).getD 0))++acc)
 | [],acc,_=>by rw [List.forIn_nil];rfl
 | (n,k)::r,acc,h=>by
  rw [List.forIn_cons]
  cases e:k == NameKind.free with
  | true =>
   have hn:bj ((n,k)::r)=n::bj r:=by unfold bj;rw [List.filter_cons_of_pos (by simpa using e)];rfl
   rw [hn] at h ⊢
   obtain ⟨c,hc⟩:=h n List.mem_cons_self
   simp only [e,if_true]
   have h2:cellOf env n=pure c:=by unfold cellOf;rw [hc]
   rw [h2]
   have ih:=d0 env r ((n,c)::acc) fun m hm=>h m (List.mem_cons_of_mem _ hm)
   show (forIn r ((n,c)::acc) _:Sem (List (Str×Addr)))=_
   rw [ih,List.reverse_cons,List.map_append,List.append_assoc]
   rw [List.map_cons,List.map_nil,hc]
   rfl
  | false =>
   have hn:bj ((n,k)::r)=bj r:=by unfold bj;rw [List.filter_cons_of_neg (by simpa using e)]
   rw [hn] at h ⊢
   simp only [e,Bool.false_eq_true,if_false]
   exact d0 env r acc h
theorem mh (scope:Scope)(env:Env)(h:∀n∈bj scope.names,∃ c,env.cells.lookup n=some c):closureFor scope env=pure (wF scope env):=by
 have:=d0 env scope.names [] h
 rw [List.append_nil] at this
 simp only [closureFor]
 rw [this]
 rfl
theorem o0 {names:List (Str×NameKind)}{y:Str}(h:(y,NameKind.free)∈names):y∈bj names:=by
 unfold bj
 exact List.mem_map.mpr ⟨(y,.free),List.mem_filter.mpr ⟨h,by rfl⟩,rfl⟩
theorem pS {names:List (Str×NameKind)}{y:Str}(h:y∈bj names):(y,NameKind.free)∈names:=by
 unfold bj at h
 obtain ⟨⟨a,k⟩,hm,e⟩:=List.mem_map.mp h
 obtain ⟨h1,h2⟩:=List.mem_filter.mp hm
 cases e
 have:k=.free:=by simpa using h2
 rw [<-this];exact h1
theorem bN {env:Env}:∀{names:List (Str×NameKind)} {y:Str} {k:NameKind},
  (names.map fun (n,k)=>if (k == NameKind.free&&env.scope.kind == .function&&env.kindOf n == some .cell) then (n,NameKind.cell) else (n,k)).lookup y=some k->(k=.cell∨k=.free)->(∀z∈names,z.2≠.cell)->(y,NameKind.free)∈names
 | [],y,k,h,_,_=>by cases h
 | (n,k0)::r,y,k,h,hk,hn=>by
  rw [List.map_cons] at h
  dsimp only at h
  by_cases hc:(k0 == NameKind.free&&env.scope.kind == .function&&env.kindOf n == some .cell)=true
  .rw [if_pos hc,List.lookup_cons] at h
   have hf:k0=.free:=by
    rw [Bool.and_eq_true,Bool.and_eq_true] at hc
    simpa using hc.1.1
   cases e:y == n with
   | true =>
    have e':y=n:=by simpa using e
    subst e';subst hf
    exact List.mem_cons_self
   | false =>
    rw [e] at h
    exact List.mem_cons_of_mem _ (bN h hk fun z hz=>hn z (List.mem_cons_of_mem _ hz))
  .rw [if_neg hc,List.lookup_cons] at h
   cases e:y == n with
   | true =>
    have e':y=n:=by simpa using e
    subst e'
    rw [e] at h
    have e2:k0=k:=Option.some.inj h
    have:=hn (y,k0) List.mem_cons_self
    rcases hk with z | z
    .rw [z] at e2;exact absurd e2 this
    .rw [z] at e2;rw [e2];exact List.mem_cons_self
   | false =>
    rw [e] at h
    exact List.mem_cons_of_mem _ (bN h hk fun z hz=>hn z (List.mem_cons_of_mem _ hz))
theorem cw {env:Env}:∀{names:List (Str×NameKind)} {y:Str},names.lookup y=some .free ->
  (names.map fun (n,k)=>if (k == NameKind.free&&env.scope.kind == .function&&env.kindOf n == some .cell) then (n,NameKind.cell) else (n,k)).lookup y=some .cell ∨
  (names.map fun (n,k)=>if (k == NameKind.free&&env.scope.kind == .function&&env.kindOf n == some .cell) then (n,NameKind.cell) else (n,k)).lookup y=some .free
 | [],y,h=>by cases h
 | (n,k0)::r,y,h=>by
  rw [List.lookup_cons] at h
  rw [List.map_cons]
  dsimp only
  by_cases hc:(k0 == NameKind.free&&env.scope.kind == .function&&env.kindOf n == some .cell)=true
  .rw [if_pos hc,List.lookup_cons]
   cases e:y == n with
   | true=>exact .inl rfl
   | false=>rw [e] at h;exact cw h
  .rw [if_neg hc,List.lookup_cons]
   cases e:y == n with
   | true=>rw [e] at h;exact .inr h
   | false=>rw [e] at h;exact cw h
theorem Blk.of {X:Cx}{scope esc:Scope}{x:Str}{N NB:List Str}{cap:List Nat}(eN:X.N=N)(eS:X.env.scope=esc)(hX:∀y,esc.names.lookup y=some .cell->∃ c,X.env.cells.lookup y=some c)
  (hk:scope.kind=.function) (h1:∀y∈scope.names,y.2≠.cell) (h2:∀y∈scope.names,y.2=.local->scope.names.lookup y.1=some .local) (h3:∀y∈scope.names,y.2=.free->esc.names.lookup y.1=some .cell)
  (hl:cap.length=NB.length) (h4:∀p∈NB.zip cap,N[p.2]?=some p.1/\esc.names.lookup p.1=some .cell/\scope.names.lookup p.1=some .free) (h5:scope.names.lookup x=some .local) (nd:(x::NB).Nodup) :
  Blk X scope (wF scope X.env) x NB cap:=by
 have hfr:∀n∈bj scope.names,∃ c,X.env.cells.lookup n=some c:=fun n hn=>hX n (h3 _ (pS hn) rfl)
 refine ⟨mh scope X.env hfr,h1,hk,h2,fun y c e=>?_,fun y e=>?_,hl,fun j i e=>?_,h5,nd⟩
 .unfold wF at e
  obtain ⟨m,q⟩:=gW e
  obtain ⟨c',hc⟩:=hfr y (List.mem_reverse.mp m)
  rw [hc] at q
  rw [hc,q];rfl
 .have hm:(y,NameKind.free)∈scope.names:=by
   rcases e with e | e
   .exact bN e (.inl rfl) h1
   .exact bN e (.inr rfl) h1
  exact ⟨_,di (List.mem_reverse.mpr (o0 hm))⟩
 .have hj:j<cap.length:=(List.getElem?_eq_some_iff.mp e).1
  have hj2:j<NB.length:=by lia
  have ey:NB[j]?=some NB[j]:=List.getElem?_eq_getElem hj2
  have ez:(NB.zip cap)[j]?=some (NB[j],i):=by rw [List.getElem?_zip_eq_some];exact ⟨ey,e⟩
  obtain ⟨a1,a2,a3⟩:=h4 _ (List.mem_of_getElem? ez)
  refine ⟨NB[j],ey,by rw [eN];exact a1,.inr (.inl (by rw [eS];exact a2)),.inl (by show X.env.scope.names.lookup _=_;rw [eS];exact a2),?_⟩
  exact cw a3
end L2
end
section
namespace L2
open PySem PySem.Spec PyProof.Rows
theorem gd {α:Type}{l:List α}{i:Int}(h0:0<=i)(h1:i<l.length):∃ v,atI l i=some v/\v∈l:=by
 have h2:i.toNat<l.length:=by lia
 have e:l[i.toNat]?=some l[i.toNat]:=List.getElem?_eq_getElem h2
 have:=cH e
 rw [Int.toNat_of_nonneg h0] at this
 exact ⟨_,this,List.getElem_mem h2⟩
theorem kZ {lo:Int}{n:Nat}{tt:TT}{te:TE}{cap:List Nat}{σ:St}{H:Hp}{D:Addr}{Q:VK}(Pv:Nat->List V->Hp->Prop)(h0:Pv 0 [] (upd H D (.lst [])))(hD:∀i ys H,Pv i ys H->H D=some (.lst ys))
  (hs:∀i ys H,i<n->Pv i ys H->tt (some (.int (lo+i))::bi cap σ) H fun b H3 =>
   if b=true then te (some (.int (lo+i))::bi cap σ) H3 fun v H4=>H4 D=some (.lst ys)/\ys.length<sizeLine/\∃ m',m'<n-i/\m'=n-(i+1)/\i+1<=n/\Pv (i+1) (ys++[v]) (upd H4 D (.lst (ys++[v])))
   else ∃ m',m'<n-i/\m'=n-(i+1)/\i+1<=n/\Pv (i+1) ys H3)
  (hd:∀ys H,Pv n ys H->Q (.ref D) H) :
  ∃ W:Nat->Nat->List V->Hp->Prop,(∃ m,W 0 m [] (upd H D (.lst [])))/\∀i m ys H,W i m ys H->H D=some (.lst ys) /\
  (((Itr lo n).stop i H/\Q (.ref D) H)∨((Itr lo n).go i H/\∀x H',(Itr lo n).yld i H x H'->tt (some x::bi cap σ) H' fun b H3 =>
   if b=true then te (some x::bi cap σ) H3 fun v H4=>H4 D=some (.lst ys)/\ys.length<sizeLine/\∃ m',m'<m/\W (i+1) m' (ys++[v]) (upd H4 D (.lst (ys++[v])))
   else ∃ m',m'<m/\W (i+1) m' ys H3)):=by
 refine ⟨fun i m ys H=>m=n-i/\i<=n/\Pv i ys H,⟨n,by simp,Nat.zero_le _,h0⟩,?_⟩
 rintro i m ys H ⟨rfl,hi,p⟩
 refine ⟨hD i ys H p,?_⟩
 by_cases hlt:i<n
 .refine .inr ⟨hlt,fun x H' y=>?_⟩
  obtain ⟨e,y⟩:=y
  subst e y
  exact hs i ys _ hlt p
 .have e:i=n:=by lia
  subst e
  exact .inl ⟨Nat.le_refl _,hd ys H p⟩
end L2
namespace L2
open PySem PySem.Spec PyProof.Rows
end L2
namespace L2
open PySem PySem.Spec PyProof.Rows
def lF:Expr->Option V
 | .Constant (.int i) _ _=>some (.int i)
 | .Constant (.str x) _ _=>some (.str x)
 | _=>none
def eG:List Expr->Option (List V)
 | []=>some []
 | e::es=>match lF e,eG es with
  | some v,some vs=>some (v::vs)
  | _,_=>none
theorem iK {X:Cx}:∀{es:List Expr} {vs:List V},eG es=some vs->PA X es (fun _ H Q=>Q vs H)
 | [],vs,h=>by
  cases h
  exact rB
 | e::es,vs,h=>by
  unfold eG at h
  cases e1:lF e with
  | none=>rw [e1] at h;cases h
  | some v =>
   cases e2:eG es with
   | none=>rw [e1,e2] at h;cases h
   | some ws =>
    rw [e1,e2] at h
    cases h
    have ih:=iK (X:=X) e2
    have he:PE X e (tC v)/\starEach (e::es) X.env=(false,eval e X.env)::starEach es X.env:=by
     unfold lF at e1
     split at e1
     .cases e1;exact ⟨pU,rfl⟩
     .cases e1;exact ⟨mB,rfl⟩
     .cases e1
    exact ng he.1 ih he.2
end L2
namespace L2
open PySem
theorem ap {H:Hp}{p:Addr}{o:HO}(h:H p=none):Same H (upd H p o):=fun b u e=>by rw [ak (am e h)];exact e
theorem gO {H H':Hp}{p:Addr}{o:HO}(s:Same H H')(h:H p=none):Same H (upd H' p o):=fun b u e=>by rw [ak (am e h)];exact s b u e
end L2
end
section
namespace L2
open PySem PySem.Spec PyProof.Rows
@[irreducible] def QE (X:Cx) (e:Expr) (t:TE):Prop:=PE X e t
@[irreducible] def QT (X:Cx) (e:Expr) (t:TT):Prop:=PT X e t
@[irreducible] def QW (X:Cx) (e:Expr) (t:TT):Prop:=PW X e t
@[irreducible] def QA (X:Cx) (es:List Expr) (t:TA):Prop:=PA X es t
@[irreducible] def QS (X:Cx) (st:Stmt) (t:TS):Prop:=PS X st t
@[irreducible] def QSs (X:Cx) (st:List Stmt) (t:TS):Prop:=PSs X st t
@[irreducible] def QG (X:Cx) (e:Expr) (t:TG):Prop:=PG X e t
@[irreducible] def QGs (X:Cx) (e:List Expr) (t:TGs):Prop:=PGs X e t
@[irreducible] def QI (X:Cx) (tg iter:Expr) (wi:TI):Prop:=PI X tg iter wi
@[irreducible] def QTs (X:Cx) (ifs:List Expr) (t:TT):Prop:=PTs X ifs t
@[irreducible] def QO (X:Cx) (e:Option Expr) (t:TO):Prop:=PO X e t
section
variable {X:Cx}{e a b c:Expr}{es:List Expr}{t te ta tb tc:TE}{tt:TT}{pos:Pos}
theorem QE.mk {t:TE}(h:PE X e t):QE X e t:=by unfold QE;exact h
theorem QE.to {t:TE}(h:QE X e t):PE X e t:=by unfold QE at h;exact h
theorem QT.mk {t:TT}(h:PT X e t):QT X e t:=by unfold QT;exact h
theorem QT.to {t:TT}(h:QT X e t):PT X e t:=by unfold QT at h;exact h
theorem QW.mk {t:TT}(h:PW X e t):QW X e t:=by unfold QW;exact h
theorem QW.to {t:TT}(h:QW X e t):PW X e t:=by unfold QW at h;exact h
theorem QA.mk {t:TA}(h:PA X es t):QA X es t:=by unfold QA;exact h
theorem QA.to {t:TA}(h:QA X es t):PA X es t:=by unfold QA at h;exact h
theorem QS.mk {st:Stmt}{t:TS}(h:PS X st t):QS X st t:=by unfold QS;exact h
theorem QS.to {st:Stmt}{t:TS}(h:QS X st t):PS X st t:=by unfold QS at h;exact h
theorem QSs.mk {st:List Stmt}{t:TS}(h:PSs X st t):QSs X st t:=by unfold QSs;exact h
theorem QSs.to {st:List Stmt}{t:TS}(h:QSs X st t):PSs X st t:=by unfold QSs at h;exact h
theorem QG.mk {t:TG}(h:PG X e t):QG X e t:=by unfold QG;exact h
theorem QG.to {t:TG}(h:QG X e t):PG X e t:=by unfold QG at h;exact h
theorem QGs.mk {t:TGs}(h:PGs X es t):QGs X es t:=by unfold QGs;exact h
theorem QGs.to {t:TGs}(h:QGs X es t):PGs X es t:=by unfold QGs at h;exact h
theorem QI.mk {tg:Expr}{wi:TI}(h:PI X tg e wi):QI X tg e wi:=by unfold QI;exact h
theorem QI.to {tg:Expr}{wi:TI}(h:QI X tg e wi):PI X tg e wi:=by unfold QI at h;exact h
theorem QTs.mk {t:TT}(h:PTs X es t):QTs X es t:=by unfold QTs;exact h
theorem QTs.to {t:TT}(h:QTs X es t):PTs X es t:=by unfold QTs at h;exact h
theorem QO.mk {o:Option Expr}{t:TO}(h:PO X o t):QO X o t:=by unfold QO;exact h
theorem QO.to {o:Option Expr}{t:TO}(h:QO X o t):PO X o t:=by unfold QO at h;exact h
theorem qv (i:Nat){x:Str}(hN:X.N[i]?=some x:=by rfl)(hv:Vis X.env.scope x:=by first | exact Or.inl rfl | exact Or.inr (Or.inl rfl) | exact Or.inr (Or.inr rfl))(hd:(x == ("__debug__":Str))=false:=by decide)
  (hcd:(x == ("__classdict__":Str))=false:=by decide):QE X (.Name x pos) (xV i):=.mk (w5 hN hv hd hcd)
theorem ag {i j}:QE X (.Constant (.int i) j pos) (tC (.int i)):=.mk pU
theorem mF {b j}:QE X (.Constant (.bool b) j pos) (tC (.bl b)):=.mk xP
theorem qH {j}:QE X (.Constant .none j pos) (tC .non):=.mk wf
theorem ar {x j}:QE X (.Constant (.str x) j pos) (tC (.str x)):=.mk mB
theorem uz {x:Str}{v:V}{u:Value}(hg:Gl X x)(hm:X.mg x=none)(hv:bootBuiltins x=some u)(r:RelV v u)(hn:x≠"__name__":=by decide)(hd:(x == ("__debug__":Str))=false:=by decide):QE X (.Name x pos) (tC v):=.mk (uX hg hm hv r hn hd)
theorem ay {op:Operator}{r:R2}(ho:OpR X (binaryOp op) r)(ha:QE X a ta)(hb:QE X b tb):QE X (.BinOp a op b pos) (tOp r ta tb):=.mk (x4 ho ha.to hb.to)
theorem ny {op:UnaryOp}{r:V->Hp->VK->Prop}(ho:UnR X (unaryOp op) r)(ha:QE X a ta):QE X (.UnaryOp op a pos) (tUn r ta):=.mk (xI ho ha.to)
theorem bY {op:CmpOp}{r:R2}(ho:OpR X (compareOp op) r)(ha:QE X a ta)(hb:QE X b tb)(hm:behindInMarks op b=false):QE X (.Compare a [op] [b] pos) (tOp r ta tb):=.mk (t9 ho ha.to hb.to hm)
theorem az {r:R2}(hr:IxR X r)(ha:QE X a ta)(hb:QE X b tb)(hs:mR b):QE X (.Subscript a b pos) (tOp r ta tb):=.mk (yd hr ha.to hb.to hs)
theorem eO {r:V->Option Int->Option Int->Hp->VK->Prop}{lo hi:Option Expr}{tl th:TO}{p2:Pos}(hr:SlR X r)(he:QE X e te)(hl:QO X lo tl)(hu:QO X hi th):QE X (.Subscript e (.Slice lo hi none p2) pos) (tSl r te tl th):=.mk (rM hr he.to hl.to hu.to)
theorem jB:QO X none n9:=.mk tD
theorem eE (h:QE X e te):QO X (some e) (vf te):=.mk (tu h.to)
theorem bd {t:TA}(h:QA X es t):QE X (.List es pos) (xE t):=.mk (wS h.to)
theorem a9 {t:TA}{x1}(h:QA X es t):QE X (.Tuple es x1 pos) (x8 t):=.mk (xc h.to)
theorem aj:QA X [] mo:=.mk rB
theorem ad {t:TA}(ha:QE X e te)(hr:QA X es t)(hs:starEach (e::es) X.env=(false,eval e X.env)::starEach es X.env:=by rfl):QA X (e::es) (u9 te t):=.mk (ng ha.to hr.to hs)
theorem dL {vs:List V}(h:eG es=some vs):QA X es (fun _ H Q=>Q vs H):=.mk (iK h)
theorem aG {id:String}{x:Str}{r:List V->Hp->VK->Prop}{p:Pos}{t:TA}(hc:bH X (.builtin id) r)(hg:Gl X x)(hm:X.mg x=none)(hv:bootBuiltins x=some (.builtin id))(ha:QA X (e::es) t)(hn:x≠"__name__":=by decide)(hdb:(x == ("__debug__":Str))=false:=by decide)
  (he:starEach (e::es) X.env=(false,eval e X.env)::starEach es X.env:=by rfl) (hpl:(backTo pos (starEach es X.env)).any (·.1)=false:=by rfl):QE X (.Call (.Name x p) (e::es) [] pos) (tCB r t):=.mk (qk hc hg hm hv ha.to hn hdb he hpl)
theorem bD {T:String}{x:Str}{r:List V->Hp->VK->Prop}{p:Pos}{t:TA}(hc:bH X (.type T) r)(hg:Gl X x)(hm:X.mg x=none)(hv:bootBuiltins x=some (.type T))(ha:QA X (e::es) t)(hn:x≠"__name__":=by decide)(hdb:(x == ("__debug__":Str))=false:=by decide)
  (he:starEach (e::es) X.env=(false,eval e X.env)::starEach es X.env:=by rfl) (hpl:(backTo pos (starEach es X.env)).any (·.1)=false:=by rfl):QE X (.Call (.Name x p) (e::es) [] pos) (tCB r t):=.mk (oI hc hg hm hv ha.to hn hdb he hpl)
theorem au {CX:CXT}{k:Nat}{f:Addr}{fd:FuncData}{ps:List Str}{sp:Sp}{dvs:List V}{ds:List Value}{E:XK}{x:Str}{p:Pos}{t:TA}(F:aw X.prog X.w X.K X.mg X.base CX k f fd ps sp)(hr:Room k X.A)(hg:Gl X x)(hm:X.mg x=some (.ref f))(hk:PySem.W.keepIn X.K (.ref f)=true)(hb:Binds X.K fd ps ds)(hd:Vals dvs ds)(hx:bB CX X E)
  (ha:QA X (e::es) t) (hdb:(x == ("__debug__":Str))=false:=by decide) (he:starEach (e::es) X.env=(false,eval e X.env)::starEach es X.env:=by rfl) (hpl:(backTo pos (starEach es X.env)).any (·.1)=false:=by rfl) :
  QE X (.Call (.Name x p) (e::es) [] pos) (nT sp dvs E t):=.mk (ud F hr hg hm hk hb hd hx ha.to hdb he hpl)
theorem iL {o:Expr}{to:TE}{t:TA}{name:Str}{apos cpos:Pos}{T id:String}{r:V->List V->Hp->VK->Prop}(pa:PlainAttrs T)(slot:Slot T name id)(hty:typeOf (.builtin id)=pure (.type "method_descriptor"))(hm:MtR X id r)(ho:QE X o to)(ha:QA X (e::es) t)
  (hbase:attributeBase o name X.env (eval o X.env)=eval o X.env:=by rfl)
  (hfew:((backTo cpos (starEach (e::es) X.env)).all (fun x=>!x.1)&&(backToKw cpos (keywordEach [] X.env)).all (fun x=>x.1.isSome)
   && decide ((e::es).length+([]:List Keyword).length+(if ([]:List Keyword).isEmpty then 0 else 1)<30))=true:=by rfl)
  (hline:(apos.endLine == cpos.line)=true:=by rfl) (hs:starEach (e::es) X.env=(false,eval e X.env)::starEach es X.env:=by rfl) (hplain:(backTo cpos (starEach es X.env)).any (·.1)=false:=by rfl) :
  QE X (.Call (.Attribute o name apos) (e::es) [] cpos) (tBM X.K T r to t):=.mk (vt pa slot hty hm ho.to ha.to hbase hfew hline hs hplain)
theorem cy {elt iter:Expr}{x:Str}{px:Pos}{ifs:List Expr}{scope:Scope}{cl:List (Str×Addr)}{NB:List Str}{cap:List Nat}{wi:TI}
  (B:Blk X scope cl x NB cap) (hc:X.calm=true) (hex:X.ex=[]) (hi:QI X (.Name x px) iter wi)
  (ht:∀C fp s₀ H₀,QTs (X.blk scope cl C (x::NB) fp s₀ H₀) ifs tt) (he:∀C fp s₀ H₀,QE (X.blk scope cl C (x::NB) fp s₀ H₀) elt te)
  (hs:∀v,foldedSetIterable iter X.env v=pure v:=by intro _;rfl):QE X (.ListComp elt [⟨.Name x px,iter,ifs,0⟩] scope pos) (jM wi tt te cap) :=
 .mk (uE B hc hex hi.to (fun C fp s₀ H₀=>(ht C fp s₀ H₀).to) (fun C fp s₀ H₀=>(he C fp s₀ H₀).to) hs)
theorem aD {op:CmpOp}{r:R2}(ho:OpR X (compareOp op) r)(ha:QE X a ta)(hb:QE X b tb)(hm:behindInMarks op b=false):QT X (.Compare a [op] [b] pos) (vG (tOp r ta tb)):=.mk (ui ho ha.to hb.to hm)
theorem cM {tA:TT}(ha:QT X a tA):QT X (.UnaryOp .Not a pos) (xy tA):=.mk (xj ha.to)
theorem cW {t:TE}(h:QE X e t)(he:∀whole,isTrue e X.env whole=(do let v <-whole;standAt e.pos;holding [v] (truthy v)):=by intro _;rfl):QT X e (tB t):=.mk (xg h.to he)
theorem QW.pt {t:TT}(h:QW X e t):QT X e t:=.mk h.to.pt
theorem cP {tA:TT}(ha:QT X a tA):QW X (.BoolOp .And [a] pos) tA:=.mk (pw_and1 ha.to)
theorem rg {tA:TT}(ha:QT X a tA):QW X (.BoolOp .Or [a] pos) tA:=.mk (pw_or1 ha.to)
theorem dR {tA tB':TT}{rest:List Expr}(ha:QT X a tA)(hb:QW X (.BoolOp .And (b::rest) pos) tB'):QW X (.BoolOp .And (a::b::rest) pos) (xq tA tB'):=.mk (pw_and ha.to hb.to)
theorem vj {tA tB':TT}{rest:List Expr}(ha:QT X a tA)(hb:QW X (.BoolOp .Or (b::rest) pos) tB'):QW X (.BoolOp .Or (a::b::rest) pos) (tOr tA tB'):=.mk (pw_or ha.to hb.to)
theorem eI:QTs X [] lT:=.mk sS
theorem gz {t:TT}(h:QT X c t):QTs X [c] t:=.mk (ul h.to)
theorem dr {tg:Expr}{ta:TA}{p:Pos}(hg:Gl X "range")(hm:X.mg "range"=none)(ha:QA X [a] ta)(hs:starEach [a] X.env=[(false,eval a X.env)]:=by rfl):QI X tg (.Call (.Name "range" p) [a] [] pos) (vo ta):=.mk (o6 hg hm ha.to hs)
theorem fj {tg:Expr}(h:QE X e te):QI X tg e (vE X.K te):=.mk (tI h.to)
theorem jy {tg:Expr}(h:QE X e te):QI X tg e (xK X.K te):=.mk (wH h.to)
theorem bf {i:Nat}{x:Str}(hN:X.N.Nodup)(hi:X.N[i]?=some x)(hx:Loc X.env.scope x)(hf:X.fn x=true∨X.env.scope.names.lookup x=some .local:=by first | exact .inl rfl | exact .inr rfl | assumption):QG X (.Name x pos) (gR i):=.mk (oj hN hi hx hf)
theorem bF {o i:Expr}{to ti:TE}{t:uT}(ho:QE X o to)(hi:QE X i ti)(hs:wY X t)
  (ha:∀v,assign (.Subscript o i pos) X.env v=(do
   let ov <-holding [v] (eval o X.env)
   let iv <-holding [v,ov] (eval i X.env)
   standAt pos
   holding [v,ov,iv] (setItem ov iv v)
   release [v,ov,iv] []):=by intro _;rfl):QG X (.Subscript o i pos) (yc to ti t):=.mk (wD ho.to hi.to hs ha)
theorem eW:QGs X [] x5:=.mk tR
theorem be {t:TG}{u:TGs}(h1:QG X e t)(h2:QGs X es u)(hs:(assignEach (e::es) X.env).map (·.2)=assign e X.env::(assignEach es X.env).map (·.2):=by rfl):QGs X (e::es) (vk t u):=.mk (pX h1.to h2.to hs)
theorem qO {k:Nat}{t:TGs}{n:Nat}(hc:X.calm=true)(h:QGs X es t)(hn:(assignEach es X.env).length=n:=by rfl)(hst:(assignEach es X.env).findIdx? (·.1)=none:=by rfl):QG X (.Tuple es k pos) (xX X.K n t):=.mk (v7 hc h.to hn hst)
section
variable {st:Stmt}{rest body:List Stmt}{s u:TS}
theorem aK:QSs X [] vI:=.mk uB
theorem af (h1:QS X st s)(h2:QSs X rest u):QSs X (st::rest) (x9 s u):=.mk (p7 h1.to h2.to)
theorem ao (h1:QS X st s):QSs X [st] s:=.mk (sQ h1.to)
theorem aO (he:QE X e te)(hs:swapsWith e none pos.line X.env=pure false:=by rfl):QS X (.Expr e pos) (vP te):=.mk (sO he.to hs)
theorem aF (he:QE X e te):QS X (.Return (some e) pos) (xL te):=.mk (wo he.to)
theorem aX {a' b':List Stmt}(hc:QT X c tt)(ha:QSs X a' s)(hb:QSs X b' u):QS X (.If c a' b' pos) (xR tt s u):=.mk (vV hc.to ha.to hb.to)
theorem aq {i:Nat}{x:Str}{pos':Pos}(hN:X.N.Nodup)(hi:X.N[i]?=some x)(hx:Loc X.env.scope x)(he:QE X e te)(hs:swapsWith e (some (.Name x pos')) pos.line X.env=pure false:=by rfl)(hf:X.fn x=true∨X.env.scope.names.lookup x=some .local:=by first | exact .inl rfl | exact .inr rfl | assumption) :
  QS X (.Assign [.Name x pos'] e pos) (pE te (gR i)):=.mk (wu hN hi hx he.to hs hf)
theorem gF {elt iter:Expr}{x y:Str}{px py spos:Pos}{ifs:List Expr}{scope:Scope}{cl:List (Str×Addr)}{NB:List Str}{cap:List Nat}{wi:TI}{i:Nat}
  (hN:X.N.Nodup) (hi':X.N[i]?=some y) (hx:Loc X.env.scope y)
  (B:Blk X scope cl x NB cap) (hc:X.calm=true) (hex:X.ex=[]) (hi:QI X (.Name x px) iter wi)
  (ht:∀C fp s₀ H₀,QTs (X.blk scope cl C (x::NB) fp s₀ H₀) ifs tt) (he:∀C fp s₀ H₀,QE (X.blk scope cl C (x::NB) fp s₀ H₀) elt te)
  (hsw:swapsWith (.ListComp elt [⟨.Name x px,iter,ifs,0⟩] scope pos) (some (.Name y py)) spos.line X.env=pure true:=by rfl)
  (hs:∀v,foldedSetIterable iter X.env v=pure v:=by intro _;rfl) (hf:X.fn y=true∨X.env.scope.names.lookup y=some .local:=by first | exact .inl rfl | exact .inr rfl | assumption) :
  QS X (.Assign [.Name y py] (.ListComp elt [⟨.Name x px,iter,ifs,0⟩] scope pos) spos) (pE (jM wi tt te cap) (gR i)) :=
 .mk (lO hN hi' hx B hc hex hi.to (fun C fp s₀ H₀=>(ht C fp s₀ H₀).to) (fun C fp s₀ H₀=>(he C fp s₀ H₀).to) hsw hs hf)
theorem bA {tg:Expr}{g:TG}(he:QE X e te)(hg:QG X tg g)(hs:swapsWithSole [tg] e pos.line X.env=pure false:=by rfl)(hw:swappedStores [tg] e X.env=pure none:=by rfl)
  (h1:(assignEach [tg] X.env).map (·.2)=[assign tg X.env]:=by rfl):QS X (.Assign [tg] e pos) (pE te g):=.mk (wz he.to hg.to hs hw h1)
theorem dQ {tg iter:Expr}{wi:TI}{g:TG}(hp:PassesOwn (model X.prog X.w) X.A X.env X.xe)(hc:X.calm=true)(hi:QI X tg iter wi)(hg:QG X tg g)(hb:QSs X body s)
  (hs:∀x,foldedSetIterable iter X.env x=pure x:=by intro _;rfl):QS X (.For tg iter body [] pos) (xM wi g s):=.mk (xa hp hc hi.to hg.to hb.to hs)
theorem cu (hp:PassesOwn (model X.prog X.w) X.A X.env X.xe)(hc:QT X c tt)(hb:QSs X body s):QS X (.While c body [] pos) (qw tt s):=.mk (qm hp hc.to hb.to)
end
end
end L2
end
section
namespace L2
open PySem PySem.Spec PyProof.Rows
open PySem.SeqAt (EqAt RcAt RcNeAt)
def okV:V->Bool
 | .byt _=>false
 | .flt _=>false
 | _=>true
inductive Al (K:PySem.W.Frag)(H:Hp):Nat->V->V->Prop
 | same {n:Nat} {x:V}:okV x=true->Al K H n x x
 | tup {n:Nat} {a b:Addr} {xs ys:List V}:SqT K H a xs->SqT K H b ys->xs.length=ys.length->(∀(i:Nat) (x y:V),xs[i]?=some x->ys[i]?=some y->Al K H n x y)->Al K H (n+1) (.ref a) (.ref b)
 | lst {n:Nat} {a b:Addr} {xs ys:List V}:SqL K H a xs->SqL K H b ys->xs.length=ys.length->(∀(i:Nat) (x y:V),xs[i]?=some x->ys[i]?=some y->Al K H n x y)->Al K H (n+1) (.ref a) (.ref b)
theorem Vals.at {xs:List V}{us:List Value}(r:Vals xs us){j:Nat}(h:j<us.length):∃ x,xs[j]?=some x/\RelV x us[j]:=by
 have h1:j<xs.length:=by rw [r.length];exact h
 have e:xs[j]?=some xs[j]:=List.getElem?_eq_getElem h1
 obtain ⟨u,hu,ru⟩:=r.get e
 rw [List.getElem?_eq_getElem h] at hu
 cases hu
 exact ⟨_,e,ru⟩
section
variable {X:Cx}
theorem Al.eqAt {pins:List (Addr×Obj)}{σ:St}{H:Hp}{s:Shared}(I:Inv X pins σ H s){n:Nat}{x y:V}(h:Al X.K H n x y):∀{v u:Value} (A:Around),RelV x v->RelV y u->A.units+n<cLine->EqAt A s v u true:=by
 induction h with
 | @same n x hk =>
  intro v u A rx ry hu
  cases x with
  | non=>cases rx;cases ry;exact EqAt.same _
  | bl b=>cases rx;cases ry;exact EqAt.same _
  | int i =>
   obtain ⟨t,rfl⟩:=rx
   obtain ⟨t',rfl⟩:=ry
   have:=EqAt.int_int (A:=A) (s:=s) i t i t'
   rwa [beq_self_eq_true] at this
  | str i =>
   obtain ⟨t,rfl⟩:=rx
   obtain ⟨t',rfl⟩:=ry
   have:=EqAt.str_str (A:=A) (s:=s) i t i t'
   rwa [beq_self_eq_true] at this
  | byt b=>cases hk
  | flt b=>cases hk
  | ref a=>cases rx;cases ry;exact EqAt.same _
  | ty a=>cases rx;cases ry;exact EqAt.same _
 | @tup n a b xs ys ha hb hl hs ih =>
  intro v u A rx ry hu
  cases rx
  cases ry
  by_cases hab:a=b
  .subst hab;exact EqAt.same _
  obtain ⟨its,r,ht,_⟩:=I.tuple ha
  obtain ⟨its2,r2,ht2,_⟩:=I.tuple hb
  have e1:=r.length
  have e2:=r2.length
  have q:=RcAt.tuples (e:=fun _=>true) ht ht2 (A:=A) (Nat.lt_of_le_of_lt (Nat.le_add_right _ _) hu) (fun j h1 h2=>by
   obtain ⟨x,ex,rx⟩:=r.at (j:=j) (by simpa using h1)
   obtain ⟨y,ey,ry⟩:=r2.at (j:=j) (by simpa using h2)
   have:=ih j x y ex ey A.in1 rx ry (by show A.units+1+n<cLine;lia)
   simpa using this)
  have z:((List.range (min its.toArray.size its2.toArray.size)).all (fun _=>true)&&its.toArray.size == its2.toArray.size)=true:=by
   simp;lia
  rw [z] at q
  exact EqAt.of_refs hab q
 | @lst n a b xs ys ha hb hl hs ih =>
  intro v u A rx ry hu
  cases rx
  cases ry
  by_cases hab:a=b
  .subst hab;exact EqAt.same _
  obtain ⟨its,r,ht,_⟩:=I.list ha
  obtain ⟨its2,r2,ht2,_⟩:=I.list hb
  have e1:=r.length
  have e2:=r2.length
  have q:=RcAt.lists (e:=fun _=>true) ht.isList ht2.isList (A:=A) (by simp;lia) (Nat.lt_of_le_of_lt (Nat.le_add_right _ _) hu) (fun j h1 h2=>by
   obtain ⟨x,ex,rx⟩:=r.at (j:=j) (by simpa using h1)
   obtain ⟨y,ey,ry⟩:=r2.at (j:=j) (by simpa using h2)
   have:=ih j x y ex ey A.in1 rx ry (by show A.units+1+n<cLine;lia)
   simpa using this)
  have z:((List.range its.toArray.size).all (fun _=>true))=true:=by simp
  rw [z] at q
  exact EqAt.of_refs hab q
def AlL (K:PySem.W.Frag)(H:Hp)(n:Nat)(xs ys:List V):Prop:=xs.length=ys.length/\∀(i:Nat) (x y:V),xs[i]?=some x->ys[i]?=some y->Al K H n x y
def yp (K:PySem.W.Frag)(b:Bool):R2:=fun x y H Q=>∃ p q xs ys,x=.ref p/\y=.ref q/\SqL K H p xs/\SqL K H q ys/\AlL K H 8 xs ys/\Q (.bl b) H
theorem mK (hu:X.A.units+100<cLine):OpR X (compareOp .Eq) (yp X.K true):=by
 intro pins s σ H x y v u Q I rx ry h
 obtain ⟨a,b,xs,ys,rfl,rfl,ha,hb,⟨hl,al⟩,q⟩:=h
 cases rx
 cases ry
 obtain ⟨its,r,ht,_⟩:=I.list ha
 obtain ⟨its2,r2,ht2,_⟩:=I.list hb
 have e1:=r.length
 have e2:=r2.length
 refine SeqAt.eq_listAt (e:=fun _=>true) ht.isList ht2.isList (by simp;lia) (by lia) (fun j h1 h2=>?_) ⟨.bl true,H,I,?_,q⟩
 .obtain ⟨x,ex,rx⟩:=r.at (j:=j) (by simpa using h1)
  obtain ⟨y,ey,ry⟩:=r2.at (j:=j) (by simpa using h2)
  have:=(al j x y ex ey).eqAt I X.A.in1 rx ry (by show X.A.units+1+8<cLine;lia)
  simpa using this
 .show Value.bool _=Value.bool true
  simp
end
theorem Room.u100 {k:Nat}{A:Around}(r:Room k A):A.units+100<cLine:=by have:=r.un;lia
end L2
end
section
namespace Hm
open PySem L2
abbrev g (xs:List V)(i:Nat):V:=xs.getD i .non
def sw (xs:List V)(i j:Nat):List V:=(xs.set i (g xs j)).set j (g xs i)
structure Od (lt:V->V->Bool):Prop where
 as:∀a b,lt a b=true->lt b a=false
 nt:∀a b c,lt a b=false->lt b c=false->lt a c=false
theorem aW {xs:List V}{i j:Nat}:(sw xs i j).length=xs.length:=by simp [sw]
theorem g_get {xs:List V}{i:Nat}(h:i<xs.length):g xs i=xs[i]:=by simp [g,List.getD_eq_getElem?_getD,h]
theorem dv {xs:List V}{i j:Nat}(hi:i<xs.length)(hj:j<xs.length):(sw xs i j).Perm xs:=by
 unfold sw
 rw [g_get hi,g_get hj]
 exact List.set_set_perm hi hj
def les (lt:V->V->Bool)(xs:List V)(p:Nat):Nat:=if 2*p+2<xs.length/\lt (g xs (2*p+2)) (g xs (2*p+1))=true then 2*p+2 else 2*p+1
def kids (n p:Nat):Nat:=if 2*p+2<n then 2 else if 2*p+1<n then 1 else 0
def dn (lt:V->V->Bool):Nat->List V->Nat->Nat->List V×Nat
 | 0,xs,_,lk=>(xs,lk)
 | f+1,xs,p,lk=>if 2*p+1<xs.length then
   if lt (g xs (les lt xs p)) (g xs p)=true then dn lt f (sw xs p (les lt xs p)) (les lt xs p) (lk+kids xs.length p) else (xs,lk+kids xs.length p)
  else (xs,lk)
def up (lt:V->V->Bool):Nat->List V->Nat->Nat->List V×Nat
 | 0,xs,_,lk=>(xs,lk)
 | f+1,xs,p,lk=>if 0<p then
   if lt (g xs p) (g xs ((p-1) / 2))=true then up lt f (sw xs p ((p-1) / 2)) ((p-1) / 2) (lk+1) else (xs,lk+1)
  else (xs,lk)
theorem dP {lt:V->V->Bool}{xs:List V}{p:Nat}:2*p+1<=les lt xs p:=by unfold les;split <;> lia
theorem cJ {lt:V->V->Bool}{xs:List V}{p:Nat}(h:2*p+1<xs.length):les lt xs p<xs.length:=by unfold les;split <;> lia
theorem dn_len {lt:V->V->Bool}:∀{f:Nat} {xs:List V} {p lk:Nat},(dn lt f xs p lk).1.length=xs.length
 | 0,xs,p,lk=>rfl
 | f+1,xs,p,lk=>by
  unfold dn
  split
  .split
   .rw [dn_len,aW]
   .rfl
  .rfl
theorem dn_perm {lt:V->V->Bool}:∀{f:Nat} {xs:List V} {p lk:Nat},(dn lt f xs p lk).1.Perm xs
 | 0,xs,p,lk=>.refl _
 | f+1,xs,p,lk=>by
  unfold dn
  split
  .rename_i h
   split
   .exact dn_perm.trans (dv (by lia) (cJ h))
   .exact .refl _
  .exact .refl _
theorem dk {lt:V->V->Bool}:∀{f:Nat} {xs:List V} {p lk:Nat},p<xs.length->(up lt f xs p lk).1.Perm xs
 | 0,xs,p,lk,_=>.refl _
 | f+1,xs,p,lk,hp=>by
  unfold up
  split
  .split
   .exact (dk (by rw [aW];lia)).trans (dv (by lia) (by lia))
   .exact .refl _
  .exact .refl _
def HF (lt:V->V->Bool)(q:Nat)(xs:List V):Prop:=∀k,0<k->k<xs.length->q<=(k-1) / 2->lt (g xs k) (g xs ((k-1) / 2))=false
def IsH (lt:V->V->Bool)(xs:List V):Prop:=∀k,0<k->k<xs.length->lt (g xs k) (g xs ((k-1) / 2))=false
def mk (lt:V->V->Bool):Nat->List V->Nat->List V×Nat
 | 0,xs,lk=>(xs,lk)
 | k+1,xs,lk=>mk lt k (dn lt xs.length xs k 0).1 (lk+(dn lt xs.length xs k 0).2)
theorem mk_perm {lt:V->V->Bool}:∀{k:Nat} {xs:List V} {lk:Nat},(mk lt k xs lk).1.Perm xs
 | 0,_,_=>.refl _
 | k+1,xs,lk=>by unfold mk;exact mk_perm.trans dn_perm
end Hm
end
section
namespace L2
open PySem
def tW:Option HO->List V
 | some (.tup [.int i,.str n,.int j])=>[.int i,.str n,.int j]
 | _=>[.int 0,.str "",.int 0]
theorem tZ (o:Option HO):eJ (tW o):=by
 unfold tW
 split
 .exact ⟨_,_,_,rfl⟩
 .exact ⟨_,_,_,rfl⟩
def bz (H:Hp):V->List V
 | .ref a=>tW (H a)
 | _=>[.int 0,.str "",.int 0]
theorem dm (H:Hp)(x:V):eJ (bz H x):=by
 unfold bz
 split
 .exact tZ _
 .exact ⟨_,_,_,rfl⟩
theorem uj {H:Hp}{a:Addr}{l:List V}(h:H a=some (.tup l))(e:eJ l):bz H (.ref a)=l:=by
 obtain ⟨i,n,j,rfl⟩:=e
 show tW (H a)=_
 rw [h]
 rfl
def ltT (t:V->List V)(a b:V):Bool:=bT (t a) (t b)
structure EnR (t:V->List V)(H:Hp)(xs:List V):Prop where
 tot:∀x,eJ (t x)
 mem:∀x∈xs,∃ a,x=.ref a/\H a=some (.tup (t x))
section
variable {t:V->List V}{H H':Hp}{xs ys:List V}
theorem EnR.sub (e:EnR t H xs)(s:∀y∈ys,y∈xs):EnR t H ys:=⟨e.tot,fun x hx=>e.mem x (s x hx)⟩
theorem EnR.move (e:EnR t H xs)(s:∀b l,H b=some (.tup l)->H' b=some (.tup l)):EnR t H' xs:=⟨e.tot,fun x hx=>by
 obtain ⟨a,rfl,h⟩:=e.mem x hx
 exact ⟨a,rfl,s _ _ h⟩⟩
theorem EnR.put (e:EnR t H xs){p:Addr}{o:HO}{zs:List V}(h:H p=some (.lst zs)):EnR t (upd H p o) xs:=e.move fun b l q=>by rw [ak (bx q h (by intro z;cases z))];exact q
theorem EnR.bar (e:EnR t H xs){r:Addr}{zs:List V}(h:H r=some (.lst zs))(s:∀b o,H b=some o->b≠r->H' b=some o):EnR t H' xs:=e.move fun b l q =>
 s b _ q (bx q h (by intro z;cases z))
theorem EnR.fit (e:EnR t H xs)(x y:V):lZ (t x) (t y):=w9 (e.tot _) (e.tot _)
theorem EnR.gat (e:EnR t H xs){i:Nat}(h:i<xs.length):∃ a,Hm.g xs i=.ref a/\H a=some (.tup (t (Hm.g xs i)))/\Hm.g xs i∈xs/\atI xs (i:Int)=some (Hm.g xs i):=by
 have hm:Hm.g xs i∈xs:=by rw [Hm.g_get h];exact List.getElem_mem h
 obtain ⟨a,e1,h1⟩:=e.mem _ hm
 refine ⟨a,e1,h1,hm,cH ?_⟩
 rw [Hm.g_get h]
 exact List.getElem?_eq_getElem h
end
theorem wR {xs:List V}{i:Nat}(h:i<xs.length):atI xs (i:Int)=some (Hm.g xs i):=cH (by rw [Hm.g_get h];exact List.getElem?_eq_getElem h)
end L2
namespace Hm
open PySem L2
variable {lt:V->V->Bool}{xs:List V}{f p lk:Nat}
theorem om (h:¬ 2*p+1<xs.length):dn lt f xs p lk=(xs,lk):=by
 cases f with
 | zero=>rfl
 | succ f=>unfold dn;rw [if_neg h]
theorem eU (h:2*p+1<xs.length)(q:lt (g xs (les lt xs p)) (g xs p)=false):dn lt (f+1) xs p lk=(xs,lk+kids xs.length p):=by
 unfold dn;rw [if_pos h,if_neg (by rw [q];exact Bool.false_ne_true)]
theorem jU (h:2*p+1<xs.length)(q:lt (g xs (les lt xs p)) (g xs p)=true):dn lt (f+1) xs p lk=dn lt f (sw xs p (les lt xs p)) (les lt xs p) (lk+kids xs.length p):=by
 conv=>lhs;unfold dn
 rw [if_pos h,if_pos q]
theorem nO (h:¬ 0<p):up lt f xs p lk=(xs,lk):=by
 cases f with
 | zero=>rfl
 | succ f=>unfold up;rw [if_neg h]
theorem mT (h:0<p)(q:lt (g xs p) (g xs ((p-1) / 2))=false):up lt (f+1) xs p lk=(xs,lk+1):=by
 unfold up;rw [if_pos h,if_neg (by rw [q];exact Bool.false_ne_true)]
theorem vi (h:0<p)(q:lt (g xs p) (g xs ((p-1) / 2))=true):up lt (f+1) xs p lk=up lt f (sw xs p ((p-1) / 2)) ((p-1) / 2) (lk+1):=by
 conv=>lhs;unfold up
 rw [if_pos h,if_pos q]
theorem nu (h:2*p+2<xs.length):(les lt xs p:Int)=2*(p:Int)+1+(if lt (g xs (2*p+2)) (g xs (2*p+1))=true then 1 else 0):=by
 unfold les
 by_cases q:lt (g xs (2*p+2)) (g xs (2*p+1))=true
 .rw [if_pos ⟨h,q⟩,if_pos q];lia
 .rw [if_neg (fun z=>q z.2),if_neg q];lia
theorem mJ (h:¬ 2*p+2<xs.length):les lt xs p=2*p+1:=by
 unfold les
 rw [if_neg (fun z=>h z.1)]
theorem dZ {i j:Nat}(hi:i<xs.length)(hj:j<xs.length):∀y∈sw xs i j,y∈xs:=fun y hy=>(dv hi hj).mem_iff.mp hy
end Hm
end
section
namespace L2
open PySem
theorem oY {K:PySem.W.Frag}{a:Addr}{xs:List V}{tt:TT}{te:TE}{cap:List Nat}{σ:St}{H:Hp}{D:Addr}{Q:VK}(Pv:Nat->List V->Hp->Prop)(h0:Pv 0 [] (upd H D (.lst [])))(hD:∀i ys H,Pv i ys H->H D=some (.lst ys)/\SqL K H a xs)
  (hs:∀i x ys H,xs[i]?=some x->Pv i ys H->tt (some x::bi cap σ) H fun b H3 =>
   if b=true then te (some x::bi cap σ) H3 fun v H4=>H4 D=some (.lst ys)/\ys.length<sizeLine/\∃ m',m'<xs.length-i/\m'=xs.length-(i+1)/\i+1<=xs.length/\Pv (i+1) (ys++[v]) (upd H4 D (.lst (ys++[v])))
   else ∃ m',m'<xs.length-i/\m'=xs.length-(i+1)/\i+1<=xs.length/\Pv (i+1) ys H3)
  (hd:∀ys H,Pv xs.length ys H->Q (.ref D) H) :
  ∃ W:Nat->Nat->List V->Hp->Prop,(∃ m,W 0 m [] (upd H D (.lst [])))/\∀i m ys H,W i m ys H->H D=some (.lst ys) /\
  (((Itl K a).stop i H/\Q (.ref D) H)∨((Itl K a).go i H/\∀x H',(Itl K a).yld i H x H'->tt (some x::bi cap σ) H' fun b H3 =>
   if b=true then te (some x::bi cap σ) H3 fun v H4=>H4 D=some (.lst ys)/\ys.length<sizeLine/\∃ m',m'<m/\W (i+1) m' (ys++[v]) (upd H4 D (.lst (ys++[v])))
   else ∃ m',m'<m/\W (i+1) m' ys H3)):=by
 refine ⟨fun i m ys H=>m=xs.length-i/\i<=xs.length/\Pv i ys H,⟨xs.length,by simp,Nat.zero_le _,h0⟩,?_⟩
 rintro i m ys H ⟨rfl,hi,p⟩
 obtain ⟨q1,q⟩:=hD i ys H p
 refine ⟨q1,?_⟩
 by_cases hlt:i<xs.length
 .refine .inr ⟨⟨xs,xs[i],q,by simp [hlt]⟩,fun x H' y=>?_⟩
  obtain ⟨e,y⟩:=y
  subst e
  exact hs i x ys _ (y xs q) p
 .have e:i=xs.length:=by lia
  subst e
  exact .inl ⟨⟨xs,q,Nat.le_refl _⟩,hd ys H p⟩
end L2
namespace Hm
open PySem L2
def wy:Nat->Nat->List Nat
 | 0,_=>[]
 | f+1,p=>if 0<p then (p-1) / 2::wy f ((p-1) / 2) else []
end Hm
end
section
namespace L2
open PySem PySem.Spec PyProof.Rows
def Itd (lo:Int)(n:Nat):It:=⟨fun i _=>i<n,fun i H x H'=>H'=H/\x=.int (lo-i),fun i _=>n<=i⟩
theorem ss (a b:Int):Builtin.Range.rangeSize a b (-1)=((a-b).toNat:Int):=by
 unfold Builtin.Range.rangeSize
 rw [if_neg (by decide)]
 split
 .rw [show -(-1:Int)=1 by decide,Int.ediv_one];lia
 .lia
theorem qX {a b:Int}(ha:-(2 ^ 62)<=a)(ha':a<2 ^ 62)(hb:-(2 ^ 62)<=b)(hb':b<2 ^ 62):Builtin.Range.small a b (-1)=true:=by
 unfold Builtin.Range.small
 rw [ss]
 simp only [Builtin.Range.rangeFitsLong,Bool.and_eq_true,Bool.or_eq_true,decide_eq_true_eq,beq_iff_eq,show ¬ ((-1:Int)>0) by decide,if_false]
 lia
theorem jY {P:Program}{w:World}{K:PySem.W.Frag}{tg:Expr}(it:Addr)(lo:Int)(n:Nat):oU P w K tg (Itd lo n) [it] it (fun i h=>IsRangeIter h it (lo+(i:Nat)*(-1)) ((n:Int)-(i:Nat)) (-1)) where
 mem:=by simp
 obj:=fun i h st b hb=>by
  have e:b=it:=by simpa using hb
  subst e
  exact ⟨_,st,fun v z=>by
   have z':Data.fields _=Data.cell v:=z
   cases z'⟩
 keep:=fun i h h' st k=>k it (by simp) _ st
 item:=by
  intro X hP hw hK hc i pins s σ H E I hf st hg
  subst hP hw hK
  obtain ⟨f0,f1,f2,f3,f4,f5⟩:=hf it (by simp)
  have W:=Walks.range (prog:=X.prog) (w:=X.w) (I.ok.hd hc) it lo (-1) n
  refine W.item i s _ _ hg st fun v h' tk hv st' kk=>?_
  obtain ⟨t,rfl⟩:=hv
  have I1:Inv X pins σ H { s with heap:=h',toks:=tk }:=I.turned (fun b o hb e=>kk b o (by simpa using hb) e) f0 f1 f3 f4 f5
  refine ⟨_,rfl,jH (s:={ s with heap:=h',toks:=tk }) (n:="range_iterator") st' rfl rfl (by decide) ⟨.int (lo-i),H,I1,⟨t,?_⟩,⟨rfl,rfl⟩,st',fun b hb=>(hf b hb).1⟩⟩
  rw [show lo+(i:Int)*(-1)=lo-i by lia]
 done:=by
  intro X hP hw hK hc i pins s σ H E I hf st hg
  subst hP hw hK
  obtain ⟨f0,f1,f2,f3,f4,f5⟩:=hf it (by simp)
  exact wpAny_pyNext_range_end (I.ok.hd hc) st (by have:n<=i:=hg;lia) fun h' eb=>⟨rfl,I.turned (t':=s.toks) (fun b o hb e=>eb b o hb e) f0 f1 f3 f4 f5⟩
 self:=fun _ _ _ _ _ st h=>wpAny_pyIter_rangeiter st h
section
variable {X:Cx}{tg:Expr}
theorem pD {pins:List (Addr×Obj)}{σ:St}{H:Hp}{s:Shared}{R:It->Hp->Prop}{E:Value->Shared->Prop}{lo hi:Int}{t u v:Tok}{tk:Nat}(I:Inv X pins σ H s)(h1:-(2 ^ 62)<=lo)(h2:lo<2 ^ 62)(h3:-(2 ^ 62)<=hi)(h4:hi<2 ^ 62)
  (q:R (Itd lo (lo-hi).toNat) H):wpAny (model X.prog X.w) X.A (pyIter (.ref s.heap.objs.size)) (PIE X pins σ tg R) E { s with heap:=s.heap.push { cls:=.type "range",data:=.fields #[.int lo t,.int hi u,.int (-1) v] },toks:=tk }:=by
 refine wpAny_pyIter_range (IsRange.new ..) (qX h1 h2 h3 h4) ?_
 have I1:Inv X pins σ H { s with heap:=s.heap.push { cls:=.type "range",data:=.fields #[.int lo t,.int hi u,.int (-1) v] },toks:=tk }:=I.kept fun b o e=>Heap.get?_push_of_some _ e
 refine ⟨(s.heap.push { cls:=.type "range",data:=.fields #[.int lo t,.int hi u,.int (-1) v] }).objs.size,[(s.heap.push { cls:=.type "range",data:=.fields #[.int lo t,.int hi u,.int (-1) v] }).objs.size],_,_,H,rfl,
  I1.kept (t':=tk) fun b o e=>Heap.get?_push_of_some _ e,jY _ lo (lo-hi).toNat,?_,fun b hb=>?_,q⟩
 .have e1:lo+((0:Nat):Int)*(-1)=lo:=by simp
  have e2:(((lo-hi).toNat:Nat):Int)-((0:Nat):Int)=Builtin.Range.rangeSize lo hi (-1):=by rw [ss];lia
  show IsRangeIter _ _ (lo+((0:Nat):Int)*(-1)) ((((lo-hi).toNat:Nat):Int)-((0:Nat):Int)) (-1)
  rw [e1,e2]
  exact Heap.get?_push_size _ rfl
 .have e:b=(s.heap.push { cls:=.type "range",data:=.fields #[.int lo t,.int hi u,.int (-1) v] }).objs.size:=by simpa using hb
  subst e
  exact I1.fpOk (Nat.le_refl _) (I1.hok.fresh (Nat.le_refl _))
def vn (ta:TA):TI:=fun σ H R=>ta σ H fun vs H1=>∃ i j:Int,vs=[.int i,.int j,.int (-1)]/\(-(2 ^ 62)<=i/\i<2 ^ 62/\-(2 ^ 62)<=j/\j<2 ^ 62)/\R (Itd i (i-j).toNat) H1
theorem pc {a b c:Expr}{ta:TA}{p pos:Pos}(hg:Gl X "range")(hm:X.mg "range"=none)(ha:PA X [a,b,c] ta)(hs:starEach [a,b,c] X.env=[(false,eval a X.env),(false,eval b X.env),(false,eval c X.env)]:=by rfl)(hs2:starEach [b,c] X.env=[(false,eval b X.env),(false,eval c X.env)]:=by rfl) :
  PI X tg (.Call (.Name "range" p) [a,b,c] [] pos) (vn ta):=by
 intro pins s σ H R I h
 refine Call_ (gK I hg hm boot_range (PyProof.Rows.callWith_type1 (thn (ha pos pins s σ H _ I h) fun us s1 ⟨vs,H1,I1,r1,q1⟩=>?_) (by rw [hs,hs2]) (by rw [hs2];rfl)))
 obtain ⟨i,j,e,⟨q1,q2,q3,q4⟩,q⟩:=q1
 subst e
 cases r1 with
 | cons r rr =>
  cases rr with
  | cons r' rr =>
   cases rr with
   | cons r'' rr =>
    cases rr
    obtain ⟨t,rfl⟩:=r
    obtain ⟨t',rfl⟩:=r'
    obtain ⟨t'',rfl⟩:=r''
    exact call_range_3 (by decide) (pD I1 q1 q2 q3 q4 q) (.inl (PyProof.noPylong_small (by decide)))
theorem iO {a b c:Expr}{ta:TA}{p pos:Pos}(hg:Gl X "range")(hm:X.mg "range"=none)(ha:QA X [a,b,c] ta)(hs:starEach [a,b,c] X.env=[(false,eval a X.env),(false,eval b X.env),(false,eval c X.env)]:=by rfl)(hs2:starEach [b,c] X.env=[(false,eval b X.env),(false,eval c X.env)]:=by rfl) :
  QI X tg (.Call (.Name "range" p) [a,b,c] [] pos) (vn ta):=.mk (pc hg hm ha.to hs hs2)
theorem gJ {lo:Int}{n:Nat}{g:TG}{tb:TS}{D:fv}{σ:St}{H:Hp}(Pv:Nat->St->Hp->Prop)(h0:Pv 0 σ H)
  (hs:∀i σ H,i<n->Pv i σ H->g (.int (lo-i)) σ H fun σ2 H2=>tb { D with nx:=Pv (i+1),ct:=Pv (i+1),bk:=D.nx } σ2 H2) (hd:∀σ H,Pv n σ H->D.nx σ H) :
  ∃ W:Nat->Nat->St->Hp->Prop,(∃ m,W 0 m σ H)/\∀i m σ H,W i m σ H ->
   ((Itd lo n).stop i H/\D.nx σ H)∨((Itd lo n).go i H/\∃ N:St->Hp->Prop,(∀σ' H',N σ' H'->∃ m',m'<m/\W (i+1) m' σ' H')/\∀x H',(Itd lo n).yld i H x H'->g x σ H' fun σ2 H2=>tb { D with nx:=N,ct:=N,bk:=D.nx } σ2 H2):=by
 refine ⟨fun i m σ H=>m=n-i/\i<=n/\Pv i σ H,⟨n,by simp,Nat.zero_le _,h0⟩,?_⟩
 rintro i m σ H ⟨rfl,hi,p⟩
 by_cases hlt:i<n
 .refine .inr ⟨hlt,Pv (i+1),fun σ' H' p'=>⟨n-(i+1),by lia,rfl,hlt,p'⟩,fun x H' y=>?_⟩
  obtain ⟨e,y⟩:=y
  subst e y
  exact hs i σ _ hlt p
 .have e:i=n:=by lia
  subst e
  exact .inl ⟨Nat.le_refl _,hd σ H p⟩
end
end L2
namespace L2
open PySem
theorem cK {K:PySem.W.Frag}{a:Addr}{xs:List V}{tt:TT}{te:TE}{cap:List Nat}{σ:St}{H:Hp}{D:Addr}{R:Hp->Prop}(Pv:Nat->List V->Hp->Prop)(h0:Pv 0 [] (upd H D (.lst [])))(hD:∀i ys H,Pv i ys H->H D=some (.lst ys)/\SqL K H a xs)
  (hs:∀i x ys H,xs[i]?=some x->Pv i ys H->tt (some x::bi cap σ) H fun b H3 =>
   if b=true then te (some x::bi cap σ) H3 fun v H4=>H4 D=some (.lst ys)/\ys.length<sizeLine/\∃ m',m'<xs.length-i/\m'=xs.length-(i+1)/\i+1<=xs.length/\Pv (i+1) (ys++[v]) (upd H4 D (.lst (ys++[v])))
   else ∃ m',m'<xs.length-i/\m'=xs.length-(i+1)/\i+1<=xs.length/\Pv (i+1) ys H3)
  (hd:∀ys H,Pv xs.length ys H->R H) :
  ∃ W:Nat->Nat->List V->Hp->Prop,(∃ m,W 0 m [] (upd H D (.lst [])))/\∀i m ys H,W i m ys H->H D=some (.lst ys) /\
  (((Itl K a).stop i H/\R H)∨((Itl K a).go i H/\∀x H',(Itl K a).yld i H x H'->tt (some x::bi cap σ) H' fun b H3 =>
   if b=true then te (some x::bi cap σ) H3 fun v H4=>H4 D=some (.lst ys)/\ys.length<sizeLine/\∃ m',m'<m/\W (i+1) m' (ys++[v]) (upd H4 D (.lst (ys++[v])))
   else ∃ m',m'<m/\W (i+1) m' ys H3)) :=
 oY (Q:=fun _ H=>R H) Pv h0 hD hs hd
end L2
end
section
namespace TS
open PySem PyProof.Rows
section
variable {prog:Program}{w:World}{A:Around}{E:Value->Shared->Prop}{s:Shared}{κ:KeyKind}{kd:SortKind}
theorem jZ {t:Addr}{us:List Value}{Q:List Value->Shared->Prop}(ht:∃ o n,s.heap.get? t=some o/\o.cls=.type "tuple"/\o.data=.seq us.toArray n)(hz:us.length<=sizeLine)
  (q:Q us { s with heap:=(s.heap.push (seqObj "list" #[] 0)).update s.heap.objs.size (Obj.mapSeq (·++us.toArray)) }):wpAny (model prog w) A (collect (.ref t)) Q E s:=by
 obtain ⟨o,n,ho,hc,hd⟩:=ht
 have ho':(s.heap.push (seqObj "list" #[] 0)).get? t=some o:=Heap.get?_push_of_some _ ho
 have hn:(s.heap.push (seqObj "list" #[] 0)).get? s.heap.objs.size=some (seqObj "list" #[] 0):=Heap.get?_push_size _ rfl
 have hs:((#[]:Array Value)++us.toArray).size<=sizeLine+1:=by rw [Array.size_append,List.size_toArray];show 0+us.length<=_;lia
 have hx:((#[]:Array Value)++us.toArray).toList=us:=by simp
 unfold collect
 refine wpAny_bind (wpAny_runValue (codeAny_builtin entry_proto_collect' (wpAny_bind (wpAny_newList (wpAny_pure ⟨Code.quiet_builtin _ (by decide +kernel),codeAny_builtin entry_list_iadd' ?_⟩)))))
 show wpAny _ _ (Builtin.List.listExtendWith (.ref s.heap.objs.size) (.ref t) _) _ _ { s with heap:=s.heap.push (seqObj "list" #[] 0) }
 unfold Builtin.List.listExtendWith
 refine wpAny_bind (wpAny_typeOf (T:="tuple") ⟨o,ho',hc⟩ ?_)
 rw [if_pos (by have e:(Value.type "tuple" == Value.type "tuple")=true:=rfl;rw [e,Bool.or_true])]
 refine wpAny_bind (listItems_at ho' hd (wpAny_bind (listItems_at (xs:=#[]) (n:=0) hn rfl ?_)))
 rw [if_neg (by simp)]
 refine wpAny_bind (listUpdate_at (xs:=#[]) (n:=0) hn rfl (wpAny_pure ?_) (Nat.zero_le _) hs)
 refine wpAny_bind (wpAny_load (get?_update_seq hn _) ?_)
 show wpAny _ _ (pure ((#[]:Array Value)++us.toArray).toList) Q E _
 rw [hx]
 exact wpAny_pure q
theorem sorted_anyT {l:Addr}{vs:List Value}{Q:Value->Shared->Prop}(hl:∃ o n,s.heap.get? l=some o/\o.cls=.type "tuple"/\o.data=.seq vs.toArray n)(hn:vs.length<=sizeLine)
  (hkk:∀h':Heap,(∀b o,s.heap.get? b=some o->h'.get? b=some o)->2<=vs.length->∀(E:Value->Shared->Prop) (A:Around) (Q:SortKind->Shared->Prop),Q kd { s with heap:=h' }->wpAny (model prog w) A (keyKind' vs.toArray) Q E { s with heap:=h' })
  (hC:∀h':Heap,(∀b o,s.heap.get? b=some o->h'.get? b=some o)->2<=vs.length->∀A:Around,Cmp prog w A { s with heap:=h' } κ kd (pairsOf vs))
  (h:∀st':SortSt,(arrOf st').Perm (pairsOf vs)->Up κ (arrOf st') 0 (pairsOf vs).size->Q (.ref (s.heap.objs.size+1)) { s with heap:=sortedAll s.heap vs ((arrOf st').map (·.2)) }) :
  wpAny (model prog w) A (call (.builtin "sorted") [.ref l]) Q E s:=by
 refine Calls.call_function_entry kind_sorted plain_sorted entry_sorted (args_sorted1 _) ?_
 unfold Builtin.«sorted»
 refine wpAny_bind (m:=checkCount "sorted" 1 1 _) (wpAny_pure ?_)
 refine wpAny_bind (jZ hl hn ?_)
 refine wpAny_bind (wpAny_newList ?_)
 have hsz:((s.heap.push (seqObj "list" #[] 0)).update s.heap.objs.size (Obj.mapSeq (·++vs.toArray))).objs.size=s.heap.objs.size+1:=by
  rw [Heap.size_update,size_push']
 have hoL:(((s.heap.push (seqObj "list" #[] 0)).update s.heap.objs.size (Obj.mapSeq (·++vs.toArray))).push (seqObj "list" vs.toArray 0)).get? (s.heap.objs.size+1)=some (seqObj "list" vs.toArray 0):=by
  rw [<-hsz];exact Heap.get?_push_size _ rfl
 have keep:∀b o,s.heap.get? b=some o->(((s.heap.push (seqObj "list" #[] 0)).update s.heap.objs.size (Obj.mapSeq (·++vs.toArray))).push (seqObj "list" vs.toArray 0)).get? b=some o:=fun b o e=>by
  have hlt:=Heap.lt_size e
  rw [Heap.get?_push_ne _ _ _ (by rw [hsz];exact Nat.ne_of_lt (Nat.lt_succ_of_lt hlt)),Heap.get?_update_ne _ _ _ _ (Nat.ne_of_lt hlt),Heap.get?_push_ne _ _ _ (Nat.ne_of_lt hlt)]
  exact e
 have nb:∀b o,s.heap.get? b=some o->b≠s.heap.objs.size+1:=fun b o e=>Nat.ne_of_lt (Nat.lt_succ_of_lt (Heap.lt_size e))
 show wpAny _ _ _ _ _ { s with heap:=((s.heap.push (seqObj "list" #[] 0)).update s.heap.objs.size (Obj.mapSeq (·++vs.toArray))).push (seqObj "list" vs.toArray 0) }
 rw [hsz]
 refine wpAny_bind (wpAny_holding (wpAny_call_entry slot_list_sort ⟨_,hoL,rfl⟩ entry_list_sort (qZ hoL hn (fun h' k g Q q=>hkk h' (fun b o e=>k b o (nb b o e) (keep b o e)) g _ _ Q q) (fun h' k g=>hC h' (fun b o e=>k b o (nb b o e) (keep b o e)) g _) fun st' a1 a2=>⟨_,rfl,?_⟩) (args_list_sort _)))
 exact wpAny_pure ⟨_,rfl,h st' a1 a2⟩
end
end TS
namespace L2
open PySem PySem.Spec PyProof.Rows
section
variable {X:Cx}
end
end L2
end
section
namespace Hm
open PySem L2
def lgs (n:Nat):Nat->Nat
 | 0=>0
 | k+1=>lgs n k+(n / (k+1)).log2
def cutf (lt:V->V->Bool)(xs:List V):List V×Nat :=
 if xs.dropLast=[] then ([],0) else dn lt xs.dropLast.length (xs.dropLast.set 0 (g xs (xs.length-1))) 0 0
theorem cv {xs:List V}(h:2<=xs.length):∃ mid,xs=g xs 0::mid++[g xs (xs.length-1)]/\xs.dropLast=g xs 0::mid:=by
 cases xs with
 | nil=>simp at h
 | cons a l =>
  have hl:l≠[]:=by intro e;rw [e] at h;simp at h
  refine ⟨l.dropLast,?_,?_⟩
  .show a::l=a::l.dropLast++[g (a::l) l.length]
   have:g (a::l) l.length=l.getLast hl:=by
    rw [g_get (by simp)]
    rw [List.getLast_eq_getElem]
    rw [List.getElem_cons]
    have:l.length≠0:=by intro e;exact hl (List.length_eq_zero_iff.mp e)
    simp [this]
   rw [this,List.cons_append,List.dropLast_concat_getLast]
  .show (a::l).dropLast=a::l.dropLast
   exact List.dropLast_cons_of_ne_nil hl
theorem cr {lt:V->V->Bool}{xs:List V}(h:xs.length=1):cutf lt xs=([],0):=by
 unfold cutf
 rw [if_pos]
 rw [<-List.length_eq_zero_iff,List.length_dropLast,h]
theorem eh {lt:V->V->Bool}{xs mid:List V}(e:xs.dropLast=g xs 0::mid):cutf lt xs=dn lt (mid.length+1) (g xs (xs.length-1)::mid) 0 0:=by
 unfold cutf
 rw [if_neg (by rw [e];simp),e]
 rfl
theorem cq {lt:V->V->Bool}{xs:List V}(h:0<xs.length):(g xs 0::(cutf lt xs).1).Perm xs:=by
 by_cases h2:2<=xs.length
 .obtain ⟨mid,e,e2⟩:=cv h2
  rw [eh e2]
  refine (List.Perm.cons _ dn_perm).trans ?_
  conv=>rhs;rw [e]
  rw [List.cons_append]
  refine List.Perm.cons _ ?_
  exact (List.perm_append_comm (l₁:=[g xs (xs.length-1)]) (l₂:=mid))
 .rw [cr (by lia)]
  cases xs with
  | nil=>simp at h
  | cons a l =>
   have:l=[]:=List.length_eq_zero_iff.mp (by rw [List.length_cons] at h2;lia)
   subst this
   exact .refl _
end Hm
namespace L2
open PySem PySem.Spec PyProof.Rows
open PySem.SeqAt (EqAt RcAt RcNeAt)
theorem qd {X:Cx}{o:Expr}{to:TE}{name:Str}{apos cpos:Pos}{T id:String}{r:V->List V->Hp->VK->Prop}(pa:PlainAttrs T)(slot:Slot T name id)(hty:typeOf (.builtin id)=pure (.type "method_descriptor"))(hm:MtR X id r)(ho:QE X o to)
  (hbase:attributeBase o name X.env (eval o X.env)=eval o X.env:=by rfl) (hline:(apos.endLine == cpos.line)=true:=by rfl):QE X (.Call (.Attribute o name apos) [] [] cpos) (xQ X.K T r to):=.mk (wm pa slot hty hm ho.to hbase hline)
end L2
end
section
namespace L2
open PySem PySem.Spec PyProof.Rows
structure Ground (P:Program)(w:World)(fs:List Addr)(H H':Hp)(h B:Heap):Prop where
 ok:HOk P w H' B
 old:∀b o,h.get? b=some o->H b=none->b∉fs->B.get? b=some o
 there:∀b o,h.get? b=some o->b∉fs->∃ o',B.get? b=some o'
def CXe (P:Program)(w:World):CXT:=fun outer H s E v s'=>∃ (e C:Addr) (H':Hp) (B:Heap) (a0:Value),v=.ref e/\s'.os=s.os/\AllBare s'.gens/\Un (frs outer) [] H H' s.heap s'.heap /\
 Ground P w (frs outer) H H' s.heap B/\Heap.FlyingW B outer e (.ref C) a0 s'.heap/\E (.ref C) none H'
theorem HOk.get {P:Program}{w:World}{H:Hp}{h:Heap}{a:Addr}{o:HO}(x:HOk P w H h)(e:H a=some o):∃ ob,h.get? a=some ob:=by
 have q:=x a o e
 cases o with
 | lst xs=>obtain ⟨_,_,_,_,e⟩:=q;exact ⟨_,e⟩
 | tup xs=>obtain ⟨_,_,_,ob,e,_⟩:=q;exact ⟨_,e⟩
 | dK kvs=>obtain ⟨_,_,_,_,o,_,_,e,_⟩:=q;exact ⟨_,e⟩
 | dT kvs=>obtain ⟨_,_,_,_,o,_,_,e,_⟩:=q;exact ⟨_,e⟩
 | set S n=>obtain ⟨o,_,_,_,e,_⟩:=q;exact ⟨_,e⟩
 | ins C dx fs=>obtain ⟨_,_,_,e,_⟩:=q;exact ⟨_,e⟩
 | own y=>obtain ⟨_,e⟩:=q;exact ⟨_,e⟩
 | xd fs=>obtain ⟨_,⟨_,_,_,e,_⟩,_⟩:=q;exact ⟨_,e⟩
 | rng lo hi=>obtain ⟨_,_,_,e⟩:=q;exact ⟨_,e⟩
 | frz ob u=>obtain ⟨e,_⟩:=q;exact ⟨_,e⟩
 | tbl ps=>exact ⟨_,show h.get? a=some _ from q⟩
 | met f y=>exact ⟨_,show h.get? a=some _ from q⟩
 | ext φ=>obtain ⟨_,e,_⟩:=q;exact e
section
variable {X:Cx}{pins:List (Addr×Obj)}{σ:St}{H H':Hp}{s s':Shared}{B:Heap}
def Kp (X:Cx)(pins:List (Addr×Obj))(σ:St)(H':Hp)(s':Shared)(B:Heap):Prop:=∀h' t',B.StaysIn h'->s'.heap.UpToSlots h'->Inv X pins σ H' { s' with heap:=h',toks:=t' }
theorem Inv.kp (I:Inv X pins σ H s)(os:s'.os=s.os)(bare:AllBare s'.gens)(U:Un (frs X.stack) [] H H' s.heap s'.heap)(G:Ground X.prog X.w (frs X.stack) H H' s.heap B):Kp X pins σ H' s' B:=fun h' t' st up=>by
 have nof:∀b∈frs X.stack,∀o,s.heap.get? b=some o->∃ sl,h'.get? b=some { o with slots:=sl }:=fun b hb o e=>by
  obtain ⟨_,o',ho',hd⟩:=I.stack.mem hb
  rw [e] at ho'
  cases ho'
  obtain ⟨sl,e1⟩:=U.slot b o e (I.stkFree b hb) hb (by simp)
  exact up b { o with slots:=sl } e1 hd
 have U2:Un (frs X.stack) [] H H' s.heap h':=⟨fun b o e n hb _=>st b o (G.old b o e n hb),fun b o e n hb _=>nof b hb o e,U.free,fun b o e _=>by
  by_cases hb:b∈frs X.stack
  .obtain ⟨sl,q⟩:=nof b hb o e
   exact ⟨_,q⟩
  .obtain ⟨o',q⟩:=G.there b o e hb
   exact ⟨o',st b o' q⟩,U.tups,U.frzs,U.tbls⟩
 obtain ⟨hh,g,d,t,o'⟩:=s'
 obtain rfl:o'=s.os:=os
 have:=I.call (h':=h') (g':=g) (d':=d) (t':=t') (ch:=[]) U2 (G.ok.kept st) bare (fun b z=>absurd z (by simp))
 exact this
def Kt (X:Cx)(pins:List (Addr×Obj))(σ:St)(H':Hp)(s':Shared)(B:Heap):Prop:=∀h' t' e o,B.StaysIn h'->s'.heap.UpToSlots h'->B.get? e=none->e∉frs X.stack->ObjOk X.prog X.w (upd H' e o) h' e o->Inv X pins σ (upd H' e o) { s' with heap:=h',toks:=t' }
theorem Inv.kt (I:Inv X pins σ H s)(os:s'.os=s.os)(bare:AllBare s'.gens)(U:Un (frs X.stack) [] H H' s.heap s'.heap)(G:Ground X.prog X.w (frs X.stack) H H' s.heap B):Kt X pins σ H' s' B:=fun h' t' e o st up hn hf new=>by
 have nof:∀b∈frs X.stack,∀o,s.heap.get? b=some o->∃ sl,h'.get? b=some { o with slots:=sl }:=fun b hb o e=>by
  obtain ⟨_,o',ho',hd⟩:=I.stack.mem hb
  rw [e] at ho'
  cases ho'
  obtain ⟨sl,e1⟩:=U.slot b o e (I.stkFree b hb) hb (by simp)
  exact up b { o with slots:=sl } e1 hd
 have tr:∀b u,H' b=some u->b≠e:=fun b u q z=>by
  obtain ⟨ob,q2⟩:=G.ok.get q
  rw [z,hn] at q2;cases q2
 have U2:Un (frs X.stack) [] H (upd H' e o) s.heap h':=⟨fun b o e n hb _=>st b o (G.old b o e n hb),fun b o e n hb _=>nof b hb o e,fun b o1 e1 n hx=>by
  have hb:b≠e:=fun z=>by
   subst z
   have:=G.old b o1 e1 n hf
   rw [hn] at this;cases this
  rw [ak hb]
  exact U.free b o1 e1 n hx,fun b o e _=>by
  by_cases hb:b∈frs X.stack
  .obtain ⟨sl,q⟩:=nof b hb o e
   exact ⟨_,q⟩
  .obtain ⟨o',q⟩:=G.there b o e hb
   exact ⟨o',st b o' q⟩,fun b xs q=>by rw [ak (tr b _ (U.tups b xs q))];exact U.tups b xs q,fun b ob u q=>by rw [ak (tr b _ (U.frzs b ob u q))];exact U.frzs b ob u q,fun b ps q=>by
   obtain ⟨m,q2⟩:=U.tbls b ps q
   exact ⟨m,by rw [ak (tr b _ q2)];exact q2⟩⟩
 have hk:HOk X.prog X.w (upd H' e o) h':=fun b u q=>by
  by_cases hb:b=e
  .subst hb
   rw [ae] at q
   cases q
   exact new
  .rw [ak hb] at q
   exact (G.ok b u q).stay (fun c v _ z=>st c v z) (fun c z=>by rw [ak (tr c _ z)];exact z) fun c xs z=>by rw [ak (tr c _ z)];exact z
 obtain ⟨hh,g,d,t,o'⟩:=s'
 obtain rfl:o'=s.os:=os
 have:=I.call (h':=h') (g':=g) (d':=d) (t':=t') (ch:=[]) U2 hk bare (fun b z=>absurd z (by simp))
 exact this
def XP (X:Cx)(pins:List (Addr×Obj))(σ:St)(E:XK)(v:Value)(s':Shared):Prop:=∃ (e C:Addr) (H':Hp) (B:Heap) (a0:Value),v=.ref e/\Heap.FlyingW B X.stack e (.ref C) a0 s'.heap /\
 Kp X pins σ H' s' B/\Kt X pins σ H' s' B/\HOk X.prog X.w H' B/\(∀b o,X.s₀.heap.get? b=some o->X.H₀ b=none->b∉X.ex->b∉frs X.stack->B.get? b=some o)/\(∀b o,X.s₀.heap.get? b=some o->b∉X.ex->b∉frs X.stack->∃ o',B.get? b=some o')/\E (.ref C) none H'
theorem Inv.xp {E:XK}{v:Value}(I:Inv X pins σ H s)(h:CXe X.prog X.w X.stack H s E v s'):XP X pins σ E v s':=by
 have hst:∀b∈X.fs,b∈frs X.stack:=fun b hb=>by
  rcases I.ok.stk with e | ⟨e,_⟩
  .rw [e];exact hb
  .rw [e]
   obtain ⟨env,he,hf⟩:=List.mem_filterMap.mp hb
   exact List.mem_filterMap.mpr ⟨env,List.mem_cons_of_mem _ he,hf⟩
 obtain ⟨e,C,H',B,a0,rfl,os,bare,U,G,fl,q⟩:=h
 refine ⟨e,C,H',B,a0,rfl,fl,I.kp os bare U G,I.kt os bare U G,G.ok,fun b o e n hx hb=>?_,fun b o e hx hb=>?_,q⟩
 .exact G.old b o (I.base.keep b o e n (fun z=>hb (hst b z)) hx) (I.base.free b o e n hx) hb
 .obtain ⟨o',e1⟩:=I.base.there b o e hx
  exact G.there b o' e1 hb
end
section
variable {P:Program}{w:World}{K:PySem.W.Frag}{mg:Str->Option Value}{base:Heap}{N:List Str}{qual:Str}{scope:Scope}{f:Addr}{cd:Value}{A:Around}{outer:List Env}{s₀:Shared}{H₀:Hp}{E:XK}
theorem j5 {pins:List (Addr×Obj)}{σ:St}{H:Hp}{s:Shared}{h':Heap}{e C:Addr}{args:List Value}(I:Inv (bh (CXe P w) P w K mg base N qual scope f cd A outer s₀ H₀ E) pins σ H s)(hx:Heap.MadeExcOf s.heap h' e (.ref C) args)(q:E (.ref C) none H):(bh (CXe P w) P w K mg base N qual scope f cd A outer s₀ H₀ E).xe (.ref e) { s with heap:=h' }:=by
 have hin:∀env∈(bh (CXe P w) P w K mg base N qual scope f cd A outer s₀ H₀ E).stack,∀b,env.frame=some b->b∈frs (bh (CXe P w) P w K mg base N qual scope f cd A outer s₀ H₀ E).stack:=fun env he b hb=>List.mem_filterMap.mpr ⟨env,he,hb⟩
 have hsub:∀b,b∈frs (bh (CXe P w) P w K mg base N qual scope f cd A outer s₀ H₀ E).stack->b=s₀.heap.objs.size∨b∈frs outer:=fun b hb=>by
  obtain ⟨env,he,hf⟩:=List.mem_filterMap.mp hb
  rcases List.mem_cons.mp he with rfl | he
  .exact .inl (Option.some.inj hf).symm
  .exact .inr (List.mem_filterMap.mpr ⟨env,he,hf⟩)
 refine wpAny_leaves_madeW (base:=PySem.W.hideAll s.heap (frs (bh (CXe P w) P w K mg base N qual scope f cd A outer s₀ H₀ E).stack)) (s:={ s with heap:=h' }) I.ok.frames rfl (fun b o q=>PySem.W.of_hideAll _ q) (PySem.W.funFrames_hide I.stack hin) hx fun h2 t fl _ _ up=>?_
 have up2:s.heap.UpToSlots h2:=(Heap.UpToSlots.of_keeps hx.keeps).trans up
 have st:=fl.1
 have old:∀b o,s.heap.get? b=some o->b∉frs (bh (CXe P w) P w K mg base N qual scope f cd A outer s₀ H₀ E).stack->(PySem.W.hideAll s.heap (frs (bh (CXe P w) P w K mg base N qual scope f cd A outer s₀ H₀ E).stack)).get? b=some o:=fun b o e nb=>PySem.W.hideAll_get _ e nb
 have nL:∀b o,s₀.heap.get? b=some o->b∉frs outer->b∉frs (bh (CXe P w) P w K mg base N qual scope f cd A outer s₀ H₀ E).stack:=fun b o e nb hb=>by
  rcases hsub b hb with rfl | z
  .exact absurd (Heap.lt_size e) (Nat.lt_irrefl _)
  .exact nb z
 have fr2:∀b∈frs outer,∀o,s.heap.get? b=some o->∃ sl,h2.get? b=some { o with slots:=sl }:=fun b hb o e=>by
  have hb':b∈frs (bh (CXe P w) P w K mg base N qual scope f cd A outer s₀ H₀ E).stack:=by
   obtain ⟨env,he,hf⟩:=List.mem_filterMap.mp hb
   exact List.mem_filterMap.mpr ⟨env,List.mem_cons_of_mem _ he,hf⟩
  obtain ⟨_,o',ho',hd⟩:=I.stack.mem hb'
  rw [e] at ho'
  cases ho'
  exact up2 b o e hd
 have hokB:HOk P w H (PySem.W.hideAll s.heap (frs (bh (CXe P w) P w K mg base N qual scope f cd A outer s₀ H₀ E).stack)):=fun a o ea=>(I.hok a o ea).stay (fun b u hb q=>old b u q fun z=>by
  have:=I.stkFree b z
  rcases hb with rfl | hb
  .rw [ea] at this;cases this
  .rw [hb] at this;cases this) (fun _ q=>q) fun _ _ q=>q
 refine ⟨e,C,H,PySem.W.hideAll s.heap (frs (bh (CXe P w) P w K mg base N qual scope f cd A outer s₀ H₀ E).stack),.ref t,rfl,I.os,I.bare,⟨fun b o e n hb _=>?_,fun b o e n hb _=>?_,I.base.free,fun b o e _=>?_,I.base.tups,I.base.frzs,I.base.tbls⟩,⟨hokB,fun b o e n hb=>old b o (I.base.keep b o e n hb (List.not_mem_nil)) (nL b o e hb),fun b o e hb=>?_⟩,fl,q⟩
 .exact st b o (old b o (I.base.keep b o e n hb List.not_mem_nil) (nL b o e hb))
 .obtain ⟨sl,e1⟩:=I.base.slot b o e n hb List.not_mem_nil
  obtain ⟨sl2,e2⟩:=fr2 b hb _ e1
  exact ⟨sl2,e2⟩
 .obtain ⟨o',e1⟩:=I.base.there b o e List.not_mem_nil
  by_cases hb:b∈frs outer
  .obtain ⟨sl,e2⟩:=fr2 b hb o' e1
   exact ⟨_,e2⟩
  .exact ⟨o',st b o' (old b o' e1 (nL b o e hb))⟩
 .obtain ⟨o',e1⟩:=I.base.there b o e List.not_mem_nil
  exact ⟨o',old b o' e1 (nL b o e hb)⟩
end
def dh (K:PySem.W.Frag)(C:Addr)(v:Value):Bool:=match K.lookup C with
 | some ⟨_,_,.cls cd,_⟩=>cd.mro.contains v
 | _=>false
theorem lH {K:PySem.W.Frag}{h:Heap}{C:Addr}{bmB:List Value}{newId:String}(ki:K.In h)(z:PySem.W.excIn K C bmB newId=true) :
  ∃ tl N1 nm q bs b1 b2 b3 b4 b5 b6 k0 k1 k2 k3 k5 mN,h.get? C=some (excClassObj nm q C N1 bs tl b1 b2 b3 b4 b5 b6 k0 k1 k2 k3 k5 newId)/\h.Ns N1 mN/\mN "__init__"=none/\OwnTail h bmB tl/\∀v,dh K C v=(Value.ref C::tl).contains v:=by
 unfold PySem.W.excIn at z
 split at z
 case h_2=>cases z
 rename_i dc cl so hlk
 split at z
 case h_2=>cases z
 rename_i C1 tl a0 a1 a2 a3 nw a5 hmr hso
 simp only [Bool.and_eq_true,beq_iff_eq,Bool.not_eq_true'] at z
 obtain ⟨⟨⟨⟨⟨e1,e2⟩,e3⟩,e4⟩,e5⟩,e6⟩:=z
 subst e1 e2
 cases cl with
 | mk c1 c2 c3 c4 c5 c6 c7 c8 c9 cA cB =>
  dsimp only at hmr e3 e5 e6
  subst hmr e3
  cases so with
  | mk l =>
   have hl:l=[a0,a1,a2,a3,some (.builtin nw),a5]:=hso
   subst hl
   refine ⟨tl,_,_,_,_,_,_,_,_,_,_,_,_,_,_,_,_,ki _ _ hlk,.of_isNs (PySem.W.isNs_of_in ki e5),PySem.W.nsMap_none_of_in ki e5 e6,PySem.W.tail_of_in ki e4,fun v=>?_⟩
   unfold dh
   rw [hlk]
section
variable {P:Program}{w:World}{K:PySem.W.Frag}{mg:Str->Option Value}{base:Heap}{N:List Str}{qual:Str}{scope:Scope}{f:Addr}{cd:Value}{A:Around}{outer:List Env}{s₀:Shared}{H₀:Hp}{E:XK}
def rY (E:XK)(C:Addr)(ta:TA):TS:=fun _ σ H=>ta σ H fun vs H1=>vs.length<=1000/\E (.ref C) none H1
theorem o4 {C:Addr}{x:Str}{e:Expr}{es:List Expr}{ta:TA}{np cpos pos:Pos}{B newId initId:String}{bm:List Value}(FB:ExcBaseFacts B newId initId bm)(hB:bm.contains (.type B)=true)(hg:Gl (bh (CXe P w) P w K mg base N qual scope f cd A outer s₀ H₀ E) x)(hm:mg x=some (.ref C))(hC:PySem.W.excIn K C bm newId=true)(hh:A.handled=none)
  (ha:PA (bh (CXe P w) P w K mg base N qual scope f cd A outer s₀ H₀ E) (e::es) ta) (he:starEach (e::es) (bh (CXe P w) P w K mg base N qual scope f cd A outer s₀ H₀ E).env=(false,eval e (bh (CXe P w) P w K mg base N qual scope f cd A outer s₀ H₀ E).env)::starEach es (bh (CXe P w) P w K mg base N qual scope f cd A outer s₀ H₀ E).env:=by rfl) (hpl:(backTo cpos (starEach es (bh (CXe P w) P w K mg base N qual scope f cd A outer s₀ H₀ E).env)).any (·.1)=false:=by rfl) (hd:(x == ("__debug__":Str))=false:=by decide) :
  PS (bh (CXe P w) P w K mg base N qual scope f cd A outer s₀ H₀ E) (.Raise (some (.Call (.Name x np) (e::es) [] cpos)) none pos) (rY E C ta):=by
 intro pins s σ H D I h
 obtain ⟨tl,N1,nm,q,bs,b1,b2,b3,b4,b5,b6,k0,k1,k2,k3,k5,mN,oC,oN,oi,oT,_⟩:=lH I.ok.mod.kin hC
 have h1:=ha cpos pins s σ H _ I h
 refine wpAny_Raise_call_subU (C:=C) (nm:=nm) (q:=q) (N:=N1) (bs:=bs) (bm:=tl) (hdct:=b1) (sn:=b2) (sub:=b3) (ab:=b4) (col:=b5) (dd:=b6) (k0:=k0) (k1:=k1) (k2:=k2) (k3:=k3) (k5:=k5) FB hB FB (mN:=mN) (oT.hasType FB.hasBase) hh ?_ oi (dw I hg hm ⟨rfl,?_⟩ hd)
 .rw [he]
  show (false || (backTo cpos (starEach es (bh (CXe P w) P w K mg base N qual scope f cd A outer s₀ H₀ E).env)).any (·.1))=false
  rw [hpl];rfl
 rw [he] at h1 ⊢
 refine Calls.evalArgs_plain (thn h1 fun us s1 ⟨vs,H1,I1,r,hz,q1⟩=>?_)
 have hl:us.length<=sizeLine:=by rw [<-r.length];exact Nat.le_trans hz (by decide)
 exact ⟨rfl,hl,I1.bk _ _ oC,oN.keeps I1.bk,oT.keeps I1.bk,fun h' e' hx=>j5 I1 hx q1⟩
end
end L2
end
section
namespace L2
open PySem PySem.Spec PyProof.Rows
abbrev TEX:=St->Hp->VK->XK->Prop
abbrev XS:=Value->St->Hp->Prop
abbrev TSX:=fv->XS->St->Hp->Prop
def PEX (X:Cx)(e:Expr)(t:TEX):Prop :=
 ∀(pins:List (Addr×Obj)) (s:Shared) (σ:St) (H:Hp) (Q:VK) (E:XK),Inv X pins σ H s->t σ H Q E->wpAny (model X.prog X.w) X.A (eval e X.env) (EP X pins σ Q) (XP X pins σ E) s
def XSP (X:Cx)(pins:List (Addr×Obj))(E:XS)(v:Value)(s':Shared):Prop:=∃ σ',XP X pins σ' (fun c _ H'=>E c σ' H') v s'
def PSX (X:Cx)(st:Stmt)(t:TSX):Prop :=
 ∀(pins:List (Addr×Obj)) (s:Shared) (σ:St) (H:Hp) (D:fv) (E:XS),Inv X pins σ H s->t D E σ H->wpAny (model X.prog X.w) X.A (exec st X.env) (SP X pins D) (XSP X pins E) s
def xz (X:Cx)(st:List Stmt)(t:TSX):Prop :=
 ∀(pins:List (Addr×Obj)) (s:Shared) (σ:St) (H:Hp) (D:fv) (E:XS),Inv X pins σ H s->t D E σ H->wpAny (model X.prog X.w) X.A (execs st X.env) (SP X pins D) (XSP X pins E) s
section
variable {X:Cx}{k:Nat}{f:Addr}{fd:FuncData}{ps:List Str}{sp:Sp}{dvs:List V}{ds:List Value}{x:Str}{p pos:Pos}{e:Expr}{es:List Expr}{t:TA}{te:TEX}
theorem tG {pins:List (Addr×Obj)}{σ:St}{H:Hp}{s:Shared}{Q:VK}{E:XK}{us:List Value}{vs:List V}(F:aw X.prog X.w X.K X.mg X.base (CXe X.prog X.w) k f fd ps sp)(hr:Room k X.A)(hb:Binds X.K fd ps ds)(hd:Vals dvs ds)
  (I:Inv X pins σ H s) (r:Vals vs us) (h:sp (vs++dvs) H Q E):wpAny (model X.prog X.w) X.A (call (.ref f) us) (EP X pins σ Q) (XP X pins σ E) s:=by
 have r2:Vals (vs++dvs) (us++ds):=r.append hd
 have hl:(us++ds).length=ps.length:=by rw [<-r2.length];exact F.len _ _ _ _ h
 refine wpAny_call (codeAny_mono (F.run X.A X.stack s H ⟨us,[]⟩ (us++ds) (vs++dvs) Q E hr I.env0 (hb s us I.kIn hl) r2 h) fun r s' hq=>?_)
 cases r with
 | error e=>exact I.xp hq
 | ok fl =>
  cases fl with
  | ret u=>exact I.after hq
  | next=>exact False.elim hq
  | brk=>exact False.elim hq
  | cont=>exact False.elim hq
def wp (sp:Sp)(dvs:List V)(t:TA):TEX:=fun σ H Q E=>t σ H fun vs H1=>sp (vs++dvs) H1 Q E
theorem rj (F:aw X.prog X.w X.K X.mg X.base (CXe X.prog X.w) k f fd ps sp)(hr:Room k X.A)(hg:Gl X x)(hm:X.mg x=some (.ref f))(hk:PySem.W.keepIn X.K (.ref f)=true)(hb:Binds X.K fd ps ds)(hd:Vals dvs ds)
  (ha:PA X.nox (e::es) t) (hdb:(x == ("__debug__":Str))=false:=by decide) (he:starEach (e::es) X.env=(false,eval e X.env)::starEach es X.env:=by rfl) (hpl:(backTo pos (starEach es X.env)).any (·.1)=false:=by rfl) :
  PEX X (.Call (.Name x p) (e::es) [] pos) (wp sp dvs t):=by
 intro pins s σ H Q E I h
 refine wpAny_Call_Name_kw (dw I hg hm ?_ hdb)
 refine PySem.W.callWith_K (h₀:=X.base) I.ok.mod.kin hk (wpAny_mono (ha pos pins s σ H _ (I.wish _) h) (fun us s1 ⟨vs,H1,I1,r,q⟩=>⟨I1.kIn,?_⟩) fun _ _ z=>False.elim z) he hpl
 exact tG F hr hb hd I1.unwish r q
def w4 (te:TEX):TSX:=fun D E σ H=>te σ H (fun _ H'=>D.nx σ H') fun c _ H'=>E c σ H'
theorem rK (he:PEX X e te)(hs:swapsWith e none pos.line X.env=pure false:=by rfl):PSX X (.Expr e pos) (w4 te):=by
 intro pins s σ H D E I h
 exact wpAny_Expr_any (wpAny_mono (he pins s σ H _ _ I h) (fun v s1 ⟨x,H1,I1,r1,q1⟩=>⟨σ,H1,I1,q1⟩) fun v s1 q=>⟨σ,q⟩) I.quiet hs
theorem rA {st:Stmt}{t:TSX}(h1:PSX X st t):xz X [st] t:=by
 intro pins s σ H D E I h
 refine wpAny_execs_cons (thn (h1 pins s σ H D E I h) fun f s1 q=>?_)
 cases f with
 | next=>exact wpAny_execs_nil q
 | ret v=>exact q
 | brk=>exact q
 | cont=>exact q
abbrev Cx.inX (X:Cx)(e:Addr):Cx:={ X with A:=X.A.mark (some (.ref e)),calm:=false }
theorem Cx.Ok.inX (ok:X.Ok)(e:Addr):(X.inX e).Ok :=
 ⟨ok.mod,ok.kind,ok.glob,ok.blt,ok.above,ok.inj,ok.has,ok.cab,(fun z=>by cases z),ok.frames,ok.stk,ok.exf,ok.bs,ok.bsz,ok.noex,ok.exfs,ok.funs,ok.frf⟩
theorem Cx.Ok.outX {e:Addr}(ok:(X.inX e).Ok)(hd:X.calm=true->X.A.handled=none):X.Ok :=
 ⟨ok.mod,ok.kind,ok.glob,ok.blt,ok.above,ok.inj,ok.has,ok.cab,hd,ok.frames,ok.stk,ok.exf,ok.bs,ok.bsz,ok.noex,ok.exfs,ok.funs,ok.frf⟩
theorem Inv.inX {pins:List (Addr×Obj)}{σ:St}{H:Hp}{s:Shared}(I:Inv X pins σ H s)(e:Addr):Inv (X.inX e) pins σ H s:=⟨I.ok.inX e,I.os,I.bare,I.base,I.loc,I.cell,I.free,I.freeC,I.pin,I.hok,I.len⟩
theorem Inv.outX {pins:List (Addr×Obj)}{σ:St}{H:Hp}{s:Shared}{e:Addr}(I:Inv (X.inX e) pins σ H s)(hd:X.calm=true->X.A.handled=none):Inv X pins σ H s:=⟨I.ok.outX hd,I.os,I.bare,I.base,I.loc,I.cell,I.free,I.freeC,I.pin,I.hok,I.len⟩
theorem Inv.unset {pins:List (Addr×Obj)}{σ:St}{H:Hp}{s:Shared}{i:Nat}{n:Str}{m:Str->Option Value}{u:Option Value}{h':Heap}(I:Inv X pins σ H s)(hN:X.N.Nodup)(hi:X.N[i]?=some n)(hn:s.heap.Ns X.env.locals m)(hn':h'.Ns X.env.locals fun x=>if x=n then u else m x)
  (hs:Heap.SameBut X.env.locals s.heap h'):Inv X pins (σ.set i none) H { s with heap:=h' }:=by
 obtain ⟨m0,hn0,hl⟩:=id I.loc
 have em:m0=m:=by
  obtain ⟨o1,es1,ep1,g1,d1,_,f1⟩:=id hn0
  obtain ⟨o2,es2,ep2,g2,d2,_,f2⟩:=id hn
  rw [g1] at g2
  cases g2
  rw [d1] at d2
  cases d2
  funext y
  rw [<-f1,<-f2]
 subst em
 obtain ⟨oL,_,_,hoL,_⟩:=id hn
 have hiσ:i<σ.length:=by rw [I.len];exact (List.getElem?_eq_some_iff.mp hi).1
 have old:∀b o,X.s₀.heap.get? b=some o->b≠X.env.locals:=fun b o e=>Nat.ne_of_lt (Nat.lt_of_lt_of_le (Heap.lt_size e) I.ok.above)
 refine ⟨I.ok,I.os,I.bare,⟨fun b o e n hb hx=>(hs.2 b (old b o e)).trans (I.base.keep b o e n hb hx),fun b o e n hb hx=>?_,I.base.free,fun b o e hx=>?_,I.base.tups,I.base.frzs,I.base.tbls⟩,⟨_,hn',fun j y v e1 e2 e3=>?_⟩,fun y c e=>?_,I.free,I.freeC,fun p hp=>?_,fun b ob e=>?_,by simpa using I.len⟩
 .obtain ⟨sl,e1⟩:=I.base.slot b o e n hb hx
  exact ⟨sl,(hs.2 b (old b o e)).trans e1⟩
 .obtain ⟨o',e1⟩:=I.base.there b o e hx
  exact ⟨o',(hs.2 b (old b o e)).trans e1⟩
 .have hj:j≠i:=fun z=>by
   subst z
   rw [List.getElem?_set_self hiσ] at e2
   cases e2
  rw [List.getElem?_set_ne (Ne.symm hj)] at e2
  obtain ⟨v',r',q⟩:=hl j y v e1 e2 e3
  refine ⟨v',r',?_⟩
  rcases q with ⟨k,e⟩ | ⟨k,c,e,z⟩
  .have hy:y≠n:=fun e=>hj (gP hN e1 (e▸hi))
   exact .inl ⟨k,by simp [hy,e]⟩
  .exact .inr ⟨k,c,e,z.sameBut hs (I.cne y c e)⟩
 .obtain ⟨w',z⟩:=I.cell y c e
  exact ⟨w',z.sameBut hs (I.cne y c e)⟩
 .obtain ⟨e,n,ne,nf,d⟩:=I.pin p hp
  exact ⟨(hs.2 p.1 ne).trans e,n,ne,nf,d⟩
 .refine (I.hok b ob e).stay (fun c w' hc q=>(hs.2 c fun z=>?_).trans q) (fun _ q=>q) fun _ _ q=>q
  have fr:=I.free
  subst z
  rcases hc with rfl | hc
  .rw [fr] at e;cases e
  .rw [fr] at hc;cases hc
def xcO (e C:Addr):HO:=.ext fun h=>∃ o vs,h.get? e=some o/\o.cls=.ref C/\o.data=.fields vs
theorem qj {M:Model}{A:Around}{E:Value->Shared->Prop}{h:Heap}{g:Array GenState}{d:Drawn}{t:Nat}{os:OsState}{e C C2:Addr}{oe:Obj}{Q:Bool->Shared->Prop}
  {nm q:Str} {N1:Addr} {bs tl:List Value} {b1:Bool} {b2:List Str} {b3:List Value} {b4:Bool} {b5:Option Bool} {b6:Option Addr} {k0 k1 k2 k3 k5:Option Value} {newId:String}
  {nm' q':Str} {N1':Addr} {bs' tl':List Value} {b1':Bool} {b2':List Str} {b3':List Value} {b4':Bool} {b5':Option Bool} {b6':Option Addr} {k0' k1' k2' k3' k5':Option Value} {newId':String}
  (hC:h.get? C=some (excClassObj nm q C N1 bs tl b1 b2 b3 b4 b5 b6 k0 k1 k2 k3 k5 newId)) (hC2:h.get? C2=some (excClassObj nm' q' C2 N1' bs' tl' b1' b2' b3' b4' b5' b6' k0' k1' k2' k3' k5' newId'))
  (he:h.get? e=some oe) (hcls:oe.cls=.ref C) (hbase:tl'.contains (.type "BaseException")=true) (hsub:(Value.ref C::tl).contains (.ref C2)=true)
  (hq:Q true ⟨h,g,d,t,os⟩):wpAny M A (excMatches (.ref e) (.ref C2)) Q E ⟨h,g,d,t,os⟩:=by
 have z1:(Value.ref C2::tl').contains (.type "BaseException")=true:=by rw [List.contains_cons,hbase,Bool.or_true]
 have z2:=tc_notTuple
 unfold excMatches
 repeat (first | (with_reducible refine wpAny_loadPart_at he ?_;rw [hcls]) | with_reducible refine wpAny_loadPart_at hC2 ?_ | (with_reducible refine wpAny_isSubtype_exc hC2 ?_;rw [z1]) | (with_reducible refine wpAny_isSubtype_exc hC ?_;rw [hsub]) | wp_step)
 exact hq
def yt (i:Nat)(D:fv):fv:={ nx:=fun σ2 H2=>D.nx (σ2.set i none) H2,rt:=D.rt,bk:=fun σ2 H2=>D.bk (σ2.set i none) H2,ct:=fun σ2 H2=>D.ct (σ2.set i none) H2 }
def yo (tb:TSX)(K:PySem.W.Frag)(C2:Addr)(i:Nat)(ts:TS):TS:=fun D σ H=>tb D (fun c σ' H'=>∃ (C:Addr) (bm:List Value) (nid:String),c=.ref C/\PySem.W.excIn K C bm nid=true/\dh K C (.ref C2)=true /\
 ∀e,H' e=none->ts (yt i D) (σ'.set i (some (.ref e))) (upd H' e (xcO e C))) σ H
theorem w6 {body:List Stmt}{tb:TSX}{n:Str}{C2:Addr}{i:Nat}{b₀:Stmt}{suite:List Stmt}{ts:TS}{np hpos:Pos}{B2 nid2 ini2 nid3:String}{bm2:List Value}(hb:xz X body tb)(hS:X.stack=X.env::X.outer)(hF:X.env.frame=some X.env.locals)
  (hg:Gl X x) (hm:X.mg x=some (.ref C2)) (FB:ExcBaseFacts B2 nid2 ini2 bm2) (hC2:PySem.W.excIn X.K C2 bm2 nid3=true) (hN:X.N.Nodup) (hi:X.N[i]?=some n) (hl:X.env.scope.names.lookup n=some .local) (hs:∀e,PSs (X.inX e).nox (b₀::suite) ts) (hd:(x == ("__debug__":Str))=false:=by decide) :
  PS X (.Try body [.ExceptHandler (some (.Name x np)) (some n) (b₀::suite) hpos] [] [] pos) (yo tb X.K C2 i ts):=by
 intro pins s σ H D I h
 refine wpAny_Try_except (wpAny_mono (hb pins s σ H D _ I h) (fun f s1 hf=>?_) fun v s1 hx=>?_)
 .cases f with
  | next=>exact wpAny_execs_nil hf
  | ret v=>exact hf
  | brk=>exact hf
  | cont=>exact hf
 obtain ⟨σ',e,C,H',B,a0,rfl,fl,kp,kt,hokB,_,_,⟨C',bm,nid,eC,hCx,sub,q⟩⟩:=hx
 cases eC
 rw [hS] at fl
 have hfr:X.A.frames=some (X.env::X.outer):=by rw [I.ok.frames,hS]
 refine wpAny_looks_onW hfr hF fl fun h4 held up4=>?_
 refine wpAny_landsW held fun h5 fl5 up5=>?_
 have I5:=kp h5 s1.toks fl5.1 (up4.trans up5)
 obtain ⟨tl,c1,c2,c3,c4,c5,c6,c7,c8,c9,cA,cB,cC,cD,cE,cF,cG,oC,_,_,_,mr⟩:=lH I.ok.mod.kin hCx
 obtain ⟨tl2,d1,d2,d3,d4,d5,d6,d7,d8,d9,dA,dB,dC,dD,dE,dF,dG,oC2,_,_,oT2,_⟩:=lH I.ok.mod.kin hC2
 obtain ⟨ob,hob,hobc⟩:=fl5.there
 have sub':(Value.ref C::tl).contains (.ref C2)=true:=by rw [<-mr];exact sub
 refine wpAny_handleBy_cons (codeAny_handlers_test (dw (I5.inX e) hg hm ?_ hd)) (by intro q;cases q)
 refine qj (I5.bk _ _ oC) (I5.bk _ _ oC2) hob hobc (oT2.hasType FB.hasBase) sub' (codeAny_handlers_suite_as ?_)
 refine lands_againW fl5 fun h6 fl6 up6=>?_
 obtain ⟨oe,ws,T1,oT1,ts1,he6,⟨hc6,_⟩,hd6,_⟩:=fl6.2.2.2
 have hBe:B.get? e=none:=fl6.2.1
 have nf:e∉frs X.stack:=fun z=>by
  rw [hS] at z
  obtain ⟨_,o,ho,hnf⟩:=fl6.2.2.1.mem z
  rw [he6] at ho
  cases ho
  exact hnf ws hd6
 have I6:=kt h6 s1.toks e (xcO e C) fl6.1 ((up4.trans up5).trans up6) hBe nf ⟨⟨oe,ws,he6,hc6,hd6⟩,⟨oe,he6⟩,fun h1 h2 ⟨o,vs,a,b,c⟩ k=>⟨o,vs,k o a,b,c⟩⟩
 have hfree:H' e=none:=by
  cases z:H' e with
  | none=>rfl
  | some u =>
   obtain ⟨ob,q2⟩:=hokB.get z
   rw [hBe] at q2;cases q2
 refine fx I6 hN hi (.inl hl) (v:=.ref e) rfl (fun s7 I7=>?_) (.inr hl)
 refine wpAny_mono (hs e pins s7 _ _ _ ((I7.inX e).wish _) (q e hfree)) (fun f s8 hf=>?_) fun _ _ z=>False.elim z
 have fin:∀{σ8:St} {H8:Hp} {R:Shared->Prop},Inv X pins σ8 H8 s8->(∀s9,Inv X pins (σ8.set i none) H8 s9->R s9) ->
   wpAny (model X.prog X.w) X.A (do bindName X.env n .none;unbindBehindTheSuite X.env n hpos) (fun _ s3=>R s3) X.xe s8:=fun {σ8 H8 R} I8 k=>by
  refine wpAny_bind (wpAny_bindName (fx I8 hN hi (.inl hl) (v:=.non) rfl (fun s9 I9=>?_) (.inr hl)))
  obtain ⟨m,hn,hlk⟩:=id I9.loc
  have hiσ:i<σ8.length:=by rw [I8.len];exact (List.getElem?_eq_some_iff.mp hi).1
  obtain ⟨u,ru,lk⟩:=hlk i n .non hi (List.getElem?_set_self hiσ) (.inl hl)
  cases ru
  have hv:m n=some .none:=by
   rcases lk with ⟨_,z⟩ | ⟨z,_⟩
   .exact z
   .exact absurd z (by show ¬ (X.env.scope.names.lookup n=_∨X.env.scope.names.lookup n=_);rw [hl];intro w;rcases w with w | w <;> cases w)
  unfold unbindBehindTheSuite
  refine wpAny_onRaise (wpAny_unbindName_local hl hn hv (by rw [I9.ok.kind];rfl) fun h' u hns hsame=>k _ ?_)
  have z:=I9.unset hN hi hn hns hsame
  rwa [List.set_set] at z
 have hd0:=I.ok.hd
 cases f with
 | next =>
  obtain ⟨σ8,H8,I8,q8⟩:=hf
  exact fin (I8.unwish.outX hd0) fun s9 I9=>⟨_,_,I9,q8⟩
 | ret u =>
  obtain ⟨v,σ8,H8,I8,r8,q8⟩:=hf
  exact fin (I8.unwish.outX hd0) fun s9 I9=>⟨v,_,_,I9,r8,q8⟩
 | brk =>
  obtain ⟨σ8,H8,I8,q8⟩:=hf
  exact fin (I8.unwish.outX hd0) fun s9 I9=>⟨_,_,I9,q8⟩
 | cont =>
  obtain ⟨σ8,H8,I8,q8⟩:=hf
  exact fin (I8.unwish.outX hd0) fun s9 I9=>⟨_,_,I9,q8⟩
end
end L2
end
section
namespace L2
open PySem PySem.W PySem.Spec PySem.Calls PyProof.Rows PySem.Builtin PySem.Builtin.ObjectAttr PySem.Builtin.Getset_descriptor
def XcAt (x C:Addr)(h:Heap):Prop:=∃ o vs,h.get? x=some o/\o.cls=.ref C/\o.data=.fields vs
theorem XcAt.ty {x C:Addr}{h:Heap}{M:Model}(I:XcAt x C h):Looks M h (typeOf (.ref x)) (.ref C):=by
 obtain ⟨o,vs,h1,h2,_⟩:=I
 exact h2▸(Looks.ld h1).andThen .now
section
variable {prog:Program}{w:World}{A:Around}{E:Value->Shared->Prop}{s:Shared}{K:Frag}{x C:Addr}
theorem p6 {M:Model}{h:Heap}{nm:Str}{a g:Value}(X:K.In h)(ha:findIn K (.ref C) nm=some (some a))(hg:specialIn K a "__get__"=some (some g))(hd:takesIn K a=some true):Looks M h (find (.ref x) (.ref C) nm) (.bind g a) :=
 (looks_findIn X ha).andThen ((show Looks M h (getOf (some a)) (some g) from looks_specialIn X hg).andThen ((show Looks M h (dataDescriptor? (some a) (some g)) (some (g,a)) from (looks_takesIn X hd).andThen .now).andThen (Looks.tag .now)))
theorem qJ {Q:Option Value->Shared->Prop}(hp:findIn K (.ref C) "__getattribute__"=some (some (.builtin "BaseException.__getattribute__")))(hp2:findIn K (.ref C) "__getattr__"=some none)(ha:findIn K (.ref C) "__class__"=some (some (.builtin "object.__class__")))
  (hn:specialIn K (.builtin "object.__class__") "__get__"=some (some (.builtin "getset_descriptor.__get__"))) (htk:takesIn K (.builtin "object.__class__")=some true) (hm:mroIn K C (.type "object")=some true) (hm2:mroIn K C (.type "BaseException")=some true)
  (X:K.In s.heap) (I:XcAt x C s.heap) (q:Q (some (.ref C)) { s with toks:=s.toks+1 }):wpAny (model prog w) A (getAttr? (.ref x) "__class__") Q E s:=by
 obtain ⟨hh,gg,dd,tt,oo⟩:=s
 have T:=I.ty (M:=model prog w)
 have G1:=looks_findIn (M:=model prog w) X hp
 have G2:=looks_findIn (M:=model prog w) X hp2
 have G3:=p6 (x:=x) (M:=model prog w) X ha hn htk
 have G4:=looks_mroIn (M:=model prog w) X hm
 have G5:=looks_mroIn (M:=model prog w) X hm2
 have z1:builtinKind "BaseException.__getattribute__"=some .slot:=by decide +kernel
 have z2:splitId "BaseException.__getattribute__"=some ("BaseException","__getattribute__"):=by decide +kernel
 have z3:=F.args_bexc_ga (.ref x) (.str "__class__" tt)
 unfold getAttr? getAttrBy? getAttrBy
 refine wpAny_bind (wpAny_mkText (wpAny_bind (wpAny_attempt (wpAny_holding (wpAny_bind (T.at (wpAny_bind (G1.at ?_))))))))
 show wpAny _ _ (getAttrByItsOwn _ _ _ _ _ _) _ _ _
 unfold getAttrByItsOwn
 refine wpAny_bind ((show Looks (model prog w) hh (hookBefore (.ref C)) none from G2).at ?_)
 refine wpAny_bind (wpAny_attempt (wpAny_holding ?_))
 show wpAny _ _ (boundAndCalled _ _ _) _ _ _
 unfold boundAndCalled
 refine wpAny_bind (wpAny_of_eq (F.excAttr_ValueError.ga.bind _) ?_)
 show wpAny _ _ (call (.builtin "BaseException.__getattribute__") [.ref x,.str "__class__" tt]) _ _ _
 refine wpAny_call (codeAny_call_builtin F.excAttr_ValueError.ga.plain F.entry_bexc_ga ?_)
 simp only [checkBuiltinCall,z1,z2]
 refine wpAny_bind ?_
 refine (show Looks (model prog w) hh (isInstance (.ref x) (.type "BaseException")) true from T.andThen G5).at ?_
 repeat wp_step
 obtain ⟨ob,vs,h1,h2,_⟩:=id I
 refine wpAny_loadPart_at h1 (wpAny_pure ?_)
 rw [h2]
 refine wpAny_bind (G3.at ?_)
 show wpAny _ _ (do ret (<-holding [Value.builtin "object.__class__"] (call (.builtin "getset_descriptor.__get__") [.builtin "object.__class__",.ref x,.ref C]))) _ _ _
 refine wpAny_bind (wpAny_holding (wpAny_call ?_))
 refine codeAny_call_builtin KF.slot_gs.plain KF.entry_gs (KF.slot_gs.check _ _ _ _ _ _ _ _ KF.type_class (KF.args_gs _ _ _) ?_)
 (unfold Builtin.«getset_descriptor.__get__» descrGet;rw [dga_obj];refine wpAny_bind (wpAny_pure ?_))
 (unfold descrGetter descrCheckInstance descrNameAndClass isInstance;simp only [KF.owner_class];(repeat lk))
 refine ⟨Code.quiet_builtin _ (by decide +kernel),codeAny_builtin KF.entry_class ?_⟩
 (unfold Builtin.«object.__class__» shownTypeOf;(repeat lk))
 exact q
structure XcK (K:Frag)(C:Addr):Prop where
 hp:findIn K (.ref C) "__getattribute__"=some (some (.builtin "BaseException.__getattribute__"))
 hp2:findIn K (.ref C) "__getattr__"=some none
 ha:findIn K (.ref C) "__class__"=some (some (.builtin "object.__class__"))
 hn:specialIn K (.builtin "object.__class__") "__get__"=some (some (.builtin "getset_descriptor.__get__"))
 htk:takesIn K (.builtin "object.__class__")=some true
 hm:mroIn K C (.type "object")=some true
 hm2:mroIn K C (.type "BaseException")=some true
theorem XcK.lk {K:Frag}{C:Addr}(z:XcK K C):∃ c d cd sl,K.lookup C=some ⟨c,d,.cls cd,sl⟩:=by
 obtain ⟨cd,h1,_⟩:=Option.bind_eq_some_iff.mp z.hm
 unfold clsIn at h1
 split at h1
 .rename_i c d cd' sl ho
  exact ⟨c,d,cd',sl,ho⟩
 .cases h1
theorem nM {K:Frag}{e C:Addr}(z:XcK K C):KitX K (.ref e) (.ref C) (XcAt e C) where
 ty:=fun _ _ _ I=>I.ty
 it:=fun _ _ X _=>by
  obtain ⟨c,d,cd,sl,ho⟩:=z.lk
  intro A' Q' E' s' k q
  unfold isType loadHead
  exact wpAny_bind (wpAny_loadPart (k _ _ (X _ _ ho)) (wpAny_pure q))
 ne:=fun h tp dd its n sl X htp=>by
  obtain ⟨c,d,cd,sl',ho⟩:=z.lk
  refine Bool.eq_false_iff.mpr fun q=>?_
  have e1:C=tp:=Value.ref.inj (beq_iff_eq.mp q)
  rw [e1] at ho
  rw [X _ _ ho] at htp
  cases htp
 ca:=fun X I k=>qJ z.hp z.hp2 z.ha z.hn z.htk z.hm z.hm2 X I k
end
section
variable {X:Cx}
theorem ix:bH X (.builtin "isinstance") (fun zs H Q=>∃ (e C:Addr) (x:V) (c:Value) (b:Bool),zs=[.ref e,x]/\H e=some (xcO e C)/\XcK X.K C/\(∀u,RelV x u->u=c)/\kitOne X.K (.ref C) c=some b/\Q (.bl b) H):=by
 intro pins s σ H zs us Q I r h
 obtain ⟨e,C,x,c,b,rfl,he,hC,hx,k1,q⟩:=h
 obtain ⟨u,w',rfl,ru,rw'⟩:=rP r
 cases ru
 have:=hx _ rw'
 subst this
 obtain ⟨p,_,_⟩:=I.hok e _ he
 exact kia_one (nM hC) I.kIn p k1 (fun z=>nomatch z) fun tk=>⟨.bl b,H,I.tok _,rfl,q⟩
theorem lJ:bH X (.builtin "isinstance") (fun zs H Q=>∃ (e C t C1 C2:Addr) (b:Bool),zs=[.ref e,.ref t]/\H e=some (xcO e C)/\XcK X.K C/\H t=some (.tup [.ref C1,.ref C2])/\kitAny X.K (.ref C) [.ref C1,.ref C2]=some b/\Q (.bl b) H):=by
 intro pins s σ H zs us Q I r h
 obtain ⟨e,C,t,C1,C2,b,rfl,he,hC,ht,k1,q⟩:=h
 obtain ⟨u,w',rfl,ru,rw'⟩:=rP r
 cases ru
 cases rw'
 obtain ⟨p,_,_⟩:=I.hok e _ he
 obtain ⟨its,rv,⟨o,h1,h2,n,h3⟩,_⟩:=I.tuple (SqT.of ht)
 obtain ⟨u1,u2,rfl,r1,r2⟩:=rP rv
 cases r1
 cases r2
 obtain ⟨oc,od,oda,os⟩:=o
 dsimp only at h2 h3
 subst h2 h3
 exact kia_tup (nM hC) I.kIn p h1 k1 (fun z=>nomatch z) fun tk=>⟨.bl b,H,I.tok _,rfl,q⟩
theorem gy {x:Str}{v:V}{u:Value}{pos:Pos}(hg:Gl X x)(hm:X.mg x=some u)(r:RelV v u)(hd:(x == ("__debug__":Str))=false:=by decide):QE X (.Name x pos) (tC v):=.mk (uo hg hm r hd)
end
section
variable {P:Program}{w:World}{K:Frag}{mg:Str->Option Value}{base:Heap}
theorem Fun.okE {x qual:Str}{st:Stmt}{f:Addr}{fd:FuncData}{N ps:List Str}{k:Nat}{sp:Sp}(F:Fun K x qual st f fd)(S:FnScope N ps (ai st))(len:∀vs H Q E,sp vs H Q E->vs.length=ps.length)
  (hbody:∀(cdv:Value) (A:Around) (outer:List Env) (s:Shared) (H:Hp) (vs:List V) (Q:VK) (E:XK),Room k (A.deeper (envOfC qual (ai st) s.heap.objs.size f cdv))->sp vs H Q E ->
   ∃ t,PSs (bh (CXe P w) P w K mg base N qual (ai st) f cdv A outer s H E) (av st) t/\t { nx:=fun _ H'=>Q .non H',rt:=Q } (start N vs) H):aw P w K mg base (CXe P w) (k+1) f fd ps sp:=by
 obtain ⟨oc,od,kV,doc,pm,an,cdv,ct,osl,rfl,lk,hcd⟩:=F.ex
 exact vQ lk hcd S len fun A outer s H vs Q E hr hsp=>hbody cdv A outer s H vs Q E hr hsp
end
section
variable {P:Program}{w:World}{K:Frag}{mg:Str->Option Value}{base:Heap}{N:List Str}{qual:Str}{scope:Scope}{f:Addr}{cd:Value}{A:Around}{outer:List Env}{s₀:Shared}{H₀:Hp}{E:XK}
theorem fV {C:Addr}{x:Str}{e:Expr}{es:List Expr}{ta:TA}{np cpos pos:Pos}{B newId initId:String}{bm:List Value}(FB:ExcBaseFacts B newId initId bm)(hB:bm.contains (.type B)=true)(hg:Gl (bh (CXe P w) P w K mg base N qual scope f cd A outer s₀ H₀ E) x)(hm:mg x=some (.ref C))(hC:excIn K C bm newId=true)(hh:A.handled=none)
  (ha:QA (bh (CXe P w) P w K mg base N qual scope f cd A outer s₀ H₀ E) (e::es) ta) (he:starEach (e::es) (bh (CXe P w) P w K mg base N qual scope f cd A outer s₀ H₀ E).env=(false,eval e (bh (CXe P w) P w K mg base N qual scope f cd A outer s₀ H₀ E).env)::starEach es (bh (CXe P w) P w K mg base N qual scope f cd A outer s₀ H₀ E).env:=by rfl) (hpl:(backTo cpos (starEach es (bh (CXe P w) P w K mg base N qual scope f cd A outer s₀ H₀ E).env)).any (·.1)=false:=by rfl) (hd:(x == ("__debug__":Str))=false:=by decide) :
  QS (bh (CXe P w) P w K mg base N qual scope f cd A outer s₀ H₀ E) (.Raise (some (.Call (.Name x np) (e::es) [] cpos)) none pos) (rY E C ta):=.mk (o4 FB hB hg hm hC hh ha.to he hpl hd)
end
end L2
end
section
namespace Hm
open PySem L2
variable {lt:V->V->Bool}
end Hm
namespace L2
open PySem PySem.W
theorem lr {K:Frag}{C:Addr}{v:Value}{b:Bool}(e:mroIn K C v=some b):dh K C v=b:=by
 obtain ⟨cd,h1,h2⟩:=Option.bind_eq_some_iff.mp e
 unfold clsIn at h1
 split at h1
 .rename_i ho
  cases h1
  split at h2
  .cases h2
  .cases h2
   unfold dh
   rw [ho]
 .cases h1
theorem kz {K:Frag}{t:Value}:kitOne K t t=some true:=by
 unfold kitOne
 rw [if_pos (beq_self_eq_true _)]
theorem qg {K:Frag}{C:Addr}{T:String}{b:Bool}(m:kitMeta T=true)(e:subIn K (.ref C) (.type T)=some b):kitOne K (.ref C) (.type T)=some b:=by
 unfold kitOne
 rw [if_neg (by intro z;cases beq_iff_eq.mp z)]
 show (if kitMeta T=true then subIn K (.ref C) (.type T) else none)=_
 rw [if_pos m];exact e
theorem fk {K:Frag}{C D:Addr}{cd:ClassData}{b:Bool}(n:(C == D)=false)(c:clsIn K D=some cd)(t:typeIn K (.ref D)=some (.type "type"))(e:subIn K (.ref C) (.ref D)=some b):kitOne K (.ref C) (.ref D)=some b:=by
 unfold kitOne
 rw [if_neg (by intro z;have:=Value.ref.inj (beq_iff_eq.mp z);rw [this] at n;simp at n)]
 show (if ((clsIn K D).isSome&&typeIn K (.ref D) == some (.type "type"))=true then subIn K (.ref C) (.ref D) else none)=_
 rw [c,t,if_pos (by rfl)];exact e
theorem rR {K:Frag}{t a b:Value}(h1:kitOne K t a=some false)(h2:kitOne K t b=some false):kitAny K t [a,b]=some false:=by
 unfold kitAny
 rw [h1]
 show kitAny K t [b]=_
 unfold kitAny
 rw [h2]
 rfl
end L2
end
section
namespace L2
open PySem PySem.Spec PyProof.Rows
section
variable {κ:Type}[DecidableEq κ]
def bn (kvs:List (κ×V))(k:κ):Option V:=(kvs.find? fun kv=>decide (kv.1=k)).map (·.2)
def a7 (kvs:List (κ×V))(k:κ)(v:V):List (κ×V) :=
 if (kvs.any fun kv=>decide (kv.1=k))=true then kvs.map (fun kv=>if kv.1=k then (kv.1,v) else kv) else kvs++[(k,v)]
def bw (kvs:List (κ×V))(k:κ):List (κ×V):=kvs.filter fun kv=>decide (kv.1≠k)
theorem cQ {p:κ×V}{r:List (κ×V)}{k:κ}(e:p.1=k):bn (p::r) k=some p.2:=by simp [bn,List.find?_cons,e]
theorem cZ {p:κ×V}{r:List (κ×V)}{k:κ}(e:¬ p.1=k):bn (p::r) k=bn r k:=by simp [bn,List.find?_cons,e]
theorem jJ (k:κ):∀kvs:List (κ×V),(kvs.any fun kv=>decide (kv.1=k))=(bn kvs k).isSome
 | []=>rfl
 | p::r=>by
  rw [List.any_cons]
  by_cases e:p.1=k
  .simp only [cQ e,decide_eq_true e,Bool.true_or,Option.isSome_some]
  .rw [cZ e,decide_eq_false e,Bool.false_or];exact jJ k r
theorem cT (kvs:List (κ×V))(k:κ)(v:V):(a7 kvs k v).length<=kvs.length+1:=by
 unfold a7
 split
 .rw [List.length_map];lia
 .rw [List.length_append,List.length_cons,List.length_nil];lia
theorem RelO.isSome_eq {o:Option V}{u:Option Value}(r:RelO o u):o.isSome=u.isSome:=by
 cases o with
 | none=>cases u with
  | none=>rfl
  | some _=>exact (show False from r).elim
 | some _=>cases u with
  | none=>exact (show False from r).elim
  | some _=>rfl
theorem RelO.getD {o:Option V}{u:Option Value}{d:V}{d':Value}(r:RelO o u)(rd:RelV d d'):RelV (o.getD d) (u.getD d'):=by
 cases o with
 | none=>cases u with
  | none=>exact rd
  | some _=>exact (show False from r).elim
 | some _=>cases u with
  | none=>exact (show False from r).elim
  | some _=>exact r
theorem KV.val {kvs:List (κ×V)}{vs:List (κ×Value)}(r:KV kvs vs)(k:κ):RelO (bn kvs k) (valueAt vs k):=by
 unfold KV at r
 induction r with
 | nil=>exact True.intro
 | @cons p q ps qs h t ih =>
  obtain ⟨h1,h2⟩:=h
  by_cases e:p.1=k
  .have e':q.1=k:=h1.symm.trans e
   have b:valueAt (q::qs) k=some q.2:=by simp [valueAt,List.find?_cons,e']
   rw [cQ e,b];exact h2
  .have e':¬ q.1=k:=fun z=>e (h1.trans z)
   have b:valueAt (q::qs) k=valueAt qs k:=by simp [valueAt,List.find?_cons,e']
   rw [cZ e,b];exact ih
theorem KV.any {kvs:List (κ×V)}{vs:List (κ×Value)}(r:KV kvs vs)(k:κ):(kvs.any fun kv=>decide (kv.1=k))=vs.any fun kv=>decide (kv.1=k):=by
 unfold KV at r
 induction r with
 | nil=>rfl
 | cons h t ih=>rw [List.any_cons,List.any_cons,ih,h.1]
theorem KV.repl {kvs:List (κ×V)}{vs:List (κ×Value)}(r:KV kvs vs)(k:κ){y:V}{u:Value}(ry:RelV y u) :
  KV (kvs.map fun kv=>if kv.1=k then (kv.1,y) else kv) (vs.map fun kv=>if kv.1=k then (kv.1,u) else kv):=by
 unfold KV at r ⊢
 induction r with
 | nil=>exact .nil
 | @cons p q ps qs h t ih =>
  rw [List.map_cons,List.map_cons]
  refine .cons ?_ ih
  obtain ⟨h1,h2⟩:=h
  by_cases e:p.1=k
  .rw [if_pos e,if_pos (h1.symm.trans e)];exact ⟨h1,ry⟩
  .rw [if_neg e,if_neg (fun z=>e (h1.trans z))];exact ⟨h1,h2⟩
theorem KV.put {kvs:List (κ×V)}{vs:List (κ×Value)}(r:KV kvs vs)(k:κ){y:V}{u:Value}(ry:RelV y u):KV (a7 kvs k y) (stored vs k u):=by
 unfold a7 stored
 rw [r.any k]
 by_cases e:(vs.any fun kv=>decide (kv.1=k))=true
 .rw [if_pos e,if_pos e];exact r.repl k ry
 .rw [if_neg e,if_neg e];exact Paired.snoc r ⟨rfl,ry⟩
theorem KV.drop {kvs:List (κ×V)}{vs:List (κ×Value)}(r:KV kvs vs)(k:κ):KV (bw kvs k) (without vs k):=by
 unfold KV at r ⊢
 unfold bw without
 induction r with
 | nil=>exact .nil
 | @cons p q ps qs h t ih =>
  obtain ⟨h1,h2⟩:=h
  rw [List.filter_cons,List.filter_cons]
  by_cases e:p.1=k
  .have a:¬ decide (p.1≠k)=true:=by simp [e]
   have b:¬ decide (q.1≠k)=true:=by simp [h1.symm.trans e]
   rw [if_neg a,if_neg b];exact ih
  .have e':¬ q.1=k:=fun z=>e (h1.trans z)
   have a:decide (p.1≠k)=true:=by simp [e]
   have b:decide (q.1≠k)=true:=by simp [e']
   rw [if_pos a,if_pos b];exact .cons ⟨h1,h2⟩ ih
theorem KV.keys {kvs:List (κ×V)}{vs:List (κ×Value)}(r:KV kvs vs):kvs.map (·.1)=vs.map (·.1):=by
 unfold KV at r
 induction r with
 | nil=>rfl
 | cons h t ih=>rw [List.map_cons,List.map_cons,ih,h.1]
theorem KV.length {kvs:List (κ×V)}{vs:List (κ×Value)}(r:KV kvs vs):kvs.length=vs.length:=Paired.length r
theorem qh (kvs:List (κ×V))(k:κ):(bw kvs k).length<=kvs.length:=List.length_filter_le _ _
end
theorem gv {P:Program}{w:World}{k:Key}{u:Value}(r:RelV (kV k) u):(mixKind P w).is k u=true:=by
 cases k with
 | inl i=>obtain ⟨t,e⟩:=(show ∃ t,u=Value.int i t from r);subst e;exact jV P w i t
 | inr x=>obtain ⟨t,e⟩:=(show ∃ t,u=Value.str x t from r);subst e;exact jF P w x t
theorem iV {P:Program}{w:World}:∀{ks:List Key} {us:List Value},Vals (ks.map kV) us->ItemsAre (mixKind P w) ks us
 | [],_,r=>by rw [List.map_nil] at r;cases r;exact .nil
 | k::ks,_,r=>by
  rw [List.map_cons] at r
  cases r with
  | cons h t=>exact .cons (gv h) (iV t)
abbrev KT (H:Hp):List (List Key×V)->List (List Key×Addr×Value)->Prop:=Paired fun p q=>p.1=q.1/\H q.2.1=some (.tup (p.1.map kV))/\RelV p.2 q.2.2
theorem KT.val {H:Hp}{kvs:List (List Key×V)}{xs:List (List Key×Addr×Value)}(r:KT H kvs xs)(k:List Key):RelO (bn kvs k) ((atKey xs k).map (·.2)):=by
 induction r with
 | nil=>exact True.intro
 | @cons p q ps qs h t ih =>
  obtain ⟨h1,_,h2⟩:=h
  by_cases e:p.1=k
  .have e':q.1=k:=h1.symm.trans e
   have b:atKey (q::qs) k=some q.2:=by simp [atKey,List.find?_cons,e']
   rw [cQ e,b];exact h2
  .have e':¬ q.1=k:=fun z=>e (h1.trans z)
   have b:atKey (q::qs) k=atKey qs k:=by simp [atKey,List.find?_cons,e']
   rw [cZ e,b];exact ih
theorem KT.repl {H:Hp}{kvs:List (List Key×V)}{xs:List (List Key×Addr×Value)}(r:KT H kvs xs)(k:List Key){y:V}{u:Value}(ry:RelV y u) :
  KT H (kvs.map fun kv=>if kv.1=k then (kv.1,y) else kv) (xs.map (putAt k u)):=by
 induction r with
 | nil=>exact .nil
 | @cons p q ps qs h t ih =>
  rw [List.map_cons,List.map_cons]
  refine .cons ?_ ih
  obtain ⟨h1,h2,h3⟩:=h
  unfold putAt
  by_cases e:p.1=k
  .rw [if_pos e,if_pos (h1.symm.trans e)];exact ⟨h1,h2,ry⟩
  .rw [if_neg e,if_neg (fun z=>e (h1.trans z))];exact ⟨h1,h2,h3⟩
theorem KT.put {H:Hp}{kvs:List (List Key×V)}{xs:List (List Key×Addr×Value)}(r:KT H kvs xs)(k:List Key){b:Addr}{y:V}{u:Value}(hb:H b=some (.tup (k.map kV)))(ry:RelV y u) :
  KT H (a7 kvs k y) (storedH xs k b u):=by
 have e:(kvs.any fun kv=>decide (kv.1=k))=(atKey xs k).isSome:=by
  rw [jJ,(r.val k).isSome_eq,Option.isSome_map]
 unfold a7 storedH
 rw [e]
 by_cases q:(atKey xs k).isSome=true
 .rw [if_pos q,if_pos q];exact r.repl k ry
 .rw [if_neg q,if_neg q];exact Paired.snoc r ⟨rfl,hb,ry⟩
theorem KT.keeps {H H':Hp}{kvs:List (List Key×V)}{xs:List (List Key×Addr×Value)}(r:KT H kvs xs)(ht:∀b ys,H b=some (.tup ys)->H' b=some (.tup ys)):KT H' kvs xs :=
 Paired.mapP r fun _ _ z=>⟨z.1,ht _ _ z.2.1,z.2.2⟩
section
variable {P:Program}{w:World}{H:Hp}{h:Heap}{a:Addr}
theorem va {u:HO}(ok:HOk P w H h)(e:Rd H a u):ObjOk P w H h a u:=e.ok ok
theorem gr {kvs:List (Key×V)}(ok:HOk P w H h)(e:Rd H a (.dK kvs)):kvs.length<=sizeLine/\(a == sysModules)=false/\∃ vs,KV kvs vs/\h.DictOf (mixKind P w) a vs :=
 show ObjOk P w H h a (.dK kvs) from va ok e
theorem gq {kvs:List (Key×V)}(ok:HOk P w H h)(e:H a=some (.dK kvs)):kvs.length<=sizeLine/\(a == sysModules)=false/\∃ vs,KV kvs vs/\h.DictOf (mixKind P w) a vs:=gr ok (.inl e)
theorem fW {ks:List Key}(ok:HOk P w H h)(e:H a=some (.tup (ks.map kV))):(tupleKind (mixKind P w)).is h ks a:=by
 obtain ⟨_,its,r,o,h1,h2,n,h3⟩:=(show ObjOk P w H h a (.tup (ks.map kV)) from ok a _ e)
 exact ⟨o,its.toArray,n,h1,h2,h3,by simpa using iV r⟩
theorem gY {kvs:List (List Key×V)}(ok:HOk P w H h)(e:Rd H a (.dT kvs)):kvs.length<=sizeLine/\(a == sysModules)=false /\
  ∃ xs,KT H kvs xs/\h.DictOfH (tupleKind (mixKind P w)) a xs:=by
 obtain ⟨z,y,xs,r,o,es,ep,h1,h2,h3,h4,h5⟩:=(show ObjOk P w H h a (.dT kvs) from va ok e)
 refine ⟨z,y,xs,r,o,es,ep,h1,h2,h3,h4,fun x hx=>?_,h5⟩
 have all:∀{l:List (List Key×V)} {m:List (List Key×Addr×Value)},KT H l m->∀x∈m,(tupleKind (mixKind P w)).is h x.1 x.2.1:=by
  intro l m q
  induction q with
  | nil=>intro x hx;exact nomatch hx
  | @cons p q ps qs hq t ih =>
   intro x hx
   rcases List.mem_cons.mp hx with e | hx
   .subst e
    exact fW ok (by rw [<-hq.1];exact hq.2.1)
   .exact ih x hx
 exact all r x hx
theorem xG {kvs:List (List Key×V)}(ok:HOk P w H h)(e:H a=some (.dT kvs)):kvs.length<=sizeLine/\(a == sysModules)=false /\
  ∃ xs,KT H kvs xs/\h.DictOfH (tupleKind (mixKind P w)) a xs:=gY ok (.inl e)
end
def DGet (H:Hp)(a:Addr)(y:V)(r:Option V):Prop :=
 (∃ kvs k,Rd H a (.dK kvs)/\y=kV k/\r=bn kvs k)∨∃ kvs k b,Rd H a (.dT kvs)/\y=.ref b/\H b=some (.tup (k.map kV))/\r=bn kvs k
def DPut (H:Hp)(a:Addr)(y v:V)(H':Hp):Prop :=
 (∃ kvs k,H a=some (.dK kvs)/\y=kV k/\kvs.length<sizeLine/\H'=upd H a (.dK (a7 kvs k v))) ∨
 ∃ kvs k b,H a=some (.dT kvs)/\y=.ref b/\H b=some (.tup (k.map kV))/\kvs.length<sizeLine/\H'=upd H a (.dT (a7 kvs k v))
theorem DGet.k {H:Hp}{a:Addr}{kvs:List (Key×V)}{k:Key}(e:H a=some (.dK kvs)):DGet H a (kV k) (bn kvs k):=.inl ⟨kvs,k,.inl e,rfl,rfl⟩
theorem DPut.k {H:Hp}{a:Addr}{kvs:List (Key×V)}{k:Key}{v:V}(e:H a=some (.dK kvs))(hl:kvs.length<sizeLine):DPut H a (kV k) v (upd H a (.dK (a7 kvs k v))):=.inl ⟨kvs,k,e,rfl,hl,rfl⟩
section
variable {X:Cx}{pins:List (Addr×Obj)}{σ:St}{H:Hp}{s:Shared}{a:Addr}{y v:V}{u r:Value}{o:Option V}{A:Around}{E:Value->Shared->Prop}
theorem Inv.big (I:Inv X pins σ H s):sysModules<s.heap.objs.size:=by
 have h:mainGlobals<s.heap.objs.size:=(I.mod.glob.keeps I.bk).lt
 exact Nat.lt_trans (by decide) h
theorem oK {Q:Value->Shared->Prop}(hu:A.units+1<cLine)(I:Inv X pins σ H s)(g:DGet H a y (some v))(ry:RelV y u)(h:∀w' s',Inv X pins σ H s'->RelV v w'->Q w' s') :
  wpAny (model X.prog X.w) A (getItem (.ref a) u) Q E s:=by
 rcases g with ⟨kvs,k,e,ey,l⟩ | ⟨kvs,k,b,e,ey,eb,l⟩
 .subst ey
  obtain ⟨z,hd,vs,rel,dd⟩:=gr I.hok e
  obtain ⟨w',hw,rw'⟩:=RelO.some_of (v:=v) (o:=valueAt vs k) (by rw [l];exact rel.val k)
  exact wpAny_getItem_of (gv ry) dd.mapOf hw (h w' _ (I.tok _) rw')
 .subst ey
  cases (show u=Value.ref b from ry)
  obtain ⟨z,hd,xs,rel,dd⟩:=gY I.hok e
  obtain ⟨w',hw,rw'⟩:=RelO.some_of (v:=v) (o:=(atKey xs k).map (·.2)) (by rw [l];exact rel.val k)
  obtain ⟨p,hp,hp2⟩:=Option.map_eq_some_iff.mp hw
  refine wpAny_getItem_heap (tupleKind_room_in1 hu) (fW I.hok eb) dd hp ?_
  rw [hp2]
  exact h w' _ (I.tok _) rw'
theorem yq {Q:Value->Shared->Prop}(hu:A.units+1<cLine)(I:Inv X pins σ H s)(g:DGet H a y o)(ry:RelV y u)(h:∀s',Inv X pins σ H s'->Q (.bool o.isSome) s') :
  wpAny (model X.prog X.w) A (compareOp .In u (.ref a)) Q E s:=by
 rcases g with ⟨kvs,k,e,ey,l⟩ | ⟨kvs,k,b,e,ey,eb,l⟩
 .subst ey
  obtain ⟨z,hd,vs,rel,dd⟩:=gr I.hok e
  refine wpAny_in_of (gv ry) hd dd.mapOf ?_
  rw [<-(rel.val k).isSome_eq,<-l]
  exact h _ (I.tok _)
 .subst ey
  cases (show u=Value.ref b from ry)
  obtain ⟨z,hd,xs,rel,dd⟩:=gY I.hok e
  refine wpAny_in_heap (tupleKind_room_in1 hu) (fW I.hok eb) hd dd ?_
  have q:=(rel.val k).isSome_eq
  rw [Option.isSome_map] at q
  rw [<-q,<-l]
  exact h _ (I.tok _)
theorem uG {Q:Value->Shared->Prop}(hu:A.units+1<cLine)(I:Inv X pins σ H s)(g:DGet H a y o)(ry:RelV y u)(h:∀s',Inv X pins σ H s'->Q (.bool (!o.isSome)) s') :
  wpAny (model X.prog X.w) A (compareOp .NotIn u (.ref a)) Q E s:=by
 rcases g with ⟨kvs,k,e,ey,l⟩ | ⟨kvs,k,b,e,ey,eb,l⟩
 .subst ey
  obtain ⟨z,hd,vs,rel,dd⟩:=gr I.hok e
  refine wpAny_notIn_of (gv ry) hd dd.mapOf ?_
  rw [<-(rel.val k).isSome_eq,<-l]
  exact h _ (I.tok _)
 .subst ey
  cases (show u=Value.ref b from ry)
  obtain ⟨z,hd,xs,rel,dd⟩:=gY I.hok e
  refine wpAny_notIn_heap (tupleKind_room_in1 hu) (fW I.hok eb) hd dd ?_
  have q:=(rel.val k).isSome_eq
  rw [Option.isSome_map] at q
  rw [<-q,<-l]
  exact h _ (I.tok _)
theorem gB {h':Heap}{t':Nat}{ob:HO}(I:Inv X pins σ H s)(mu:Mut (H a))(hs:Heap.SameBut a s.heap h')(he:∃ q,h'.get? a=some q)(new:ObjOk X.prog X.w (upd H a ob) h' a ob) :
  Inv X pins σ (upd H a ob) { s with heap:=h',toks:=t' } :=
 I.write (x:=a) (e:=a) mu (.inl rfl) (fun b q hb z=>(hs.2 b hb).trans z) he new
theorem mt {P:Program}{w:World}{H':Hp}{h':Heap}{kvs:List (Key×V)}{vs:List (Key×Value)}(z:kvs.length<=sizeLine)(hd:(a == sysModules)=false)(rel:KV kvs vs)(dd:h'.DictOf (mixKind P w) a vs) :
  ObjOk P w H' h' a (.dK kvs):=⟨z,hd,vs,rel,dd⟩
theorem ot {H':Hp}{Q:Unit->Shared->Prop}(hu:A.units+1<cLine)(I:Inv X pins σ H s)(g:DPut H a y v H')(ry:RelV y u)(rv:RelV v r)(h:∀s',Inv X pins σ H' s'->Q () s') :
  wpAny (model X.prog X.w) A (setItem (.ref a) u r) Q E s:=by
 rcases g with ⟨kvs,k,e,ey,l,eH⟩ | ⟨kvs,k,b,e,ey,eb,l,eH⟩
 .subst ey eH
  obtain ⟨z,hd,vs,rel,dd⟩:=gq I.hok e
  have hz:vs.length<=sizeLine:=by rw [<-rel.length];exact z
  have hl:(a7 kvs k v).length<=sizeLine:=by have:=cT kvs k v;lia
  refine wpAny_setItem_pairs (hsz:=hz) (gv ry) dd fun h' dd' hs=>h _ ?_
  have he:∃ q,h'.get? a=some q:=let ⟨q,_,_,hq,_⟩:=dd';⟨q,hq⟩
  exact gB I (by rw [e];exact True.intro) hs he (mt hl hd (rel.put k rv) dd')
 .subst ey eH
  cases (show u=Value.ref b from ry)
  obtain ⟨z,hd,xs,rel,dd⟩:=xG I.hok e
  have hz:xs.length<=sizeLine:=by rw [<-Paired.length rel];exact z
  have hl:(a7 kvs k v).length<=sizeLine:=by have:=cT kvs k v;lia
  refine wpAny_setItem_heap (hsz:=hz) (tupleKind_room_in1 hu) (fW I.hok eb) dd fun h' dd' hs=>h _ ?_
  obtain ⟨q,es,ep,hq,h2,h3,h4,_,h5⟩:=dd'
  refine gB I (by rw [e];exact True.intro) hs ⟨q,hq⟩ ⟨hl,hd,_,(rel.put k eb rv).keeps fun c ys ec=>?_,q,es,ep,hq,h2,h3,h4,h5⟩
  rw [ak (bx ec e (fun z=>nomatch z))]
  exact ec
end
section
variable {X:Cx}{pins:List (Addr×Obj)}{σ:St}{H:Hp}{s:Shared}{a:Addr}{kvs:List (Key×V)}{k:Key}{u:Value}{A:Around}{E:Value->Shared->Prop}
theorem yh {v:V}{more:List Value}{Q:Value->Shared->Prop}(I:Inv X pins σ H s)(e:H a=some (.dK kvs))(ry:RelV (kV k) u)(l:bn kvs k=some v)(hm:more=[]∨∃ x,more=[x])
  (h:∀w' s',Inv X pins σ (upd H a (.dK (bw kvs k))) s'->RelV v w'->Q w' s'):wpAny (model X.prog X.w) A (call (.builtin "dict.pop") (.ref a::u::more)) Q E s:=by
 obtain ⟨z,hd,vs,rel,dd⟩:=gq I.hok e
 obtain ⟨w',hw,rw'⟩:=RelO.some_of (v:=v) (o:=valueAt vs k) (by rw [<-l];exact rel.val k)
 have hp:(keyPart u).isSome=true:=by
  cases k with
  | inl i=>obtain ⟨t,q⟩:=(show ∃ t,u=Value.int i t from ry);subst q;rfl
  | inr x=>obtain ⟨t,q⟩:=(show ∃ t,u=Value.str x t from ry);subst q;rfl
 have ha:argsOk "dict.pop" ⟨.ref a::u::more,[]⟩:=by
  rcases hm with q | ⟨x,q⟩
  .subst q;exact PySem.F.args_dict_pop_2 _ _
  .subst q;exact PySem.F.args_dict_pop_3 _ _ _
 refine call_meetsIn PySem.F.slot_dict_pop dd.typeIs PySem.F.entry_dict_pop ha (meets_dict_pop_there (mixKind X.prog X.w) a (gv ry) more hm hp)
  ⟨vs,w',dd,by rw [<-rel.length];exact z,hw,fun h' dd' hs=>h w' _ ?_ rw'⟩
 have he:∃ q,h'.get? a=some q:=let ⟨q,_,_,hq,_⟩:=dd';⟨q,hq⟩
 exact gB I (by rw [e];exact True.intro) hs he (mt (Nat.le_trans (qh kvs k) z) hd (rel.drop k) dd')
theorem xB {Q:Value->Shared->Prop}(I:Inv X pins σ H s)(e:Rd H a (.dK kvs))(h:∀t s',Inv X pins σ H s'->Q (.int kvs.length t) s'):wpAny (model X.prog X.w) A (call (.builtin "len") [.ref a]) Q E s:=by
 obtain ⟨z,hd,vs,rel,dd⟩:=gr I.hok e
 refine call_len_dict hd dd (by rw [<-rel.length];rw [sizeLine_eq] at z;lia) ?_
 rw [<-rel.length]
 exact h _ _ (I.tok _)
end
def v9 (i:Expr):Prop:=∀ov iv,subscripted i false ov iv=operate [ov,iv] (getItem ov iv)
theorem sR {prog:Program}{w:World}{A:Around}{E:Value->Shared->Prop}{s:Shared}{env:Env}{value slice:Expr}{pos:Pos}{T id:String}{Q:Value->Shared->Prop}
  (hl:typeLookup (.type T) "__getitem__"=pure (some (.builtin id))) (hs:v9 slice)
  (h:wpAny (model prog w) A (eval value env) (fun o s₁=>wpAny (model prog w) A (eval slice env) (fun i s₂=>s₂.TypeIs o T/\wpAny (model prog w) A (getItem o i) Q E s₂) E s₁) E s) :
  wpAny (model prog w) A (eval (.Subscript value slice pos) env) Q E s:=by
 refine Subscript_ (wpAny_mono h (fun o s₁ h₁=>wpAny_mono h₁ (fun i s₂ h₂=>?_) fun _ _ x=>x) fun _ _ x=>x)
 obtain ⟨hT,h₂⟩:=h₂
 unfold subscriptTail
 refine wpAny_bind ?_
 rw [getitemInPython_of_ne hT.not_modules]
 refine wpAny_bind (wpAny_specialOf hT hl ?_)
 have fin:wpAny (model prog w) A (subscripted slice false o i) (fun r s₃=>wpAny (model prog w) A (letTemporaryGo value o r >>= fun _=>pure r) Q E s₃) E s₂:=by
  rw [hs o i]
  exact wpAny_operating (wpAny_mono h₂ (fun r s₃ h₃=>wpAny_bind (wpAny_letTemporaryGo (wpAny_pure h₃))) fun _ _ x=>x)
 first
  | exact wpAny_pure (wpAny_bind fin)
  | exact wpAny_bind (wpAny_pure (wpAny_bind fin))
  | exact wpAny_bind fin
theorem jE {X:Cx}{pins:List (Addr×Obj)}{σ:St}{H:Hp}{s:Shared}{a:Addr}{y:V}{o:Option V}(I:Inv X pins σ H s)(g:DGet H a y o):s.TypeIs (.ref a) "dict":=by
 rcases g with ⟨kvs,k,e,_,_⟩ | ⟨kvs,k,b,e,_,_,_⟩
 .obtain ⟨_,_,vs,_,dd⟩:=gr I.hok e
  exact dd.typeIs
 .obtain ⟨_,_,xs,_,dd⟩:=gY I.hok e
  exact dd.typeIs
def vA (td ty:TE):TE:=fun σ H Q=>td σ H fun x H1=>ty σ H1 fun y H2=>∃ a v,x=.ref a/\DGet H2 a y (some v)/\Q v H2
def wV (ty td:TE):TE:=fun σ H Q=>ty σ H fun y H1=>td σ H1 fun x H2=>∃ a o,x=.ref a/\DGet H2 a y o/\Q (.bl o.isSome) H2
def nF (ty td:TE):TE:=fun σ H Q=>ty σ H fun y H1=>td σ H1 fun x H2=>∃ a o,x=.ref a/\DGet H2 a y o/\Q (.bl (!o.isSome)) H2
def u7 (td ty tv:TE):TS:=fun D σ H=>tv σ H fun v H1=>td σ H1 fun x H2=>ty σ H2 fun y H3=>∃ a H4,x=.ref a/\DPut H3 a y v H4/\D.nx σ H4
section
variable {X:Cx}{o i e value:Expr}{pos pos' tpos:Pos}{td ty tv:TE}
theorem uL (hu:X.A.units+1<cLine)(ho:PE X o td)(hi:PE X i ty)(hs:v9 i):PE X (.Subscript o i pos) (vA td ty):=by
 intro pins s σ H Q I h
 refine sR PySem.F.slot_dict_getitem.lookup hs (thn (ho pins s σ H _ I h) fun u s1 ⟨x,H1,I1,rx,q1⟩=>thn (hi pins s1 σ H1 _ I1 q1) fun iv s2 ⟨y,H2,I2,ry,a,v,ex,g,q2⟩=>?_)
 subst ex
 obtain rfl:u=Value.ref a:=rx
 exact ⟨jE I2 g,oK hu I2 g ry fun w' s3 I3 rw'=>⟨v,H2,I3,rw',q2⟩⟩
theorem qL (hu:X.A.units+1<cLine)(hi:PE X i ty)(ho:PE X o td):PC X .In i o (wV ty td):=by
 intro pins s σ H Q I h
 refine thn (hi pins s σ H _ I h) fun iv s1 ⟨y,H1,I1,ry,q1⟩=>thn (ho pins s1 σ H1 _ I1 q1) fun u s2 ⟨x,H2,I2,rx,a,ov,ex,g,q2⟩=>?_
 subst ex
 obtain rfl:u=Value.ref a:=rx
 exact yq hu I2 g ry fun s3 I3=>⟨.bl ov.isSome,H2,I3,rfl,q2⟩
theorem pI (hu:X.A.units+1<cLine)(hi:PE X i ty)(ho:PE X o td):PC X .NotIn i o (nF ty td):=by
 intro pins s σ H Q I h
 refine thn (hi pins s σ H _ I h) fun iv s1 ⟨y,H1,I1,ry,q1⟩=>thn (ho pins s1 σ H1 _ I1 q1) fun u s2 ⟨x,H2,I2,rx,a,ov,ex,g,q2⟩=>?_
 subst ex
 obtain rfl:u=Value.ref a:=rx
 exact uG hu I2 g ry fun s3 I3=>⟨.bl (!ov.isSome),H2,I3,rfl,q2⟩
theorem sP (hu:X.A.units+1<cLine)(ho:PE X o td)(hi:PE X i ty)(hv:PE X value tv)(hs:swapsWith value (some (.Subscript o i pos')) pos.line X.env=pure false) :
  PS X (.Assign [.Subscript o i pos'] value pos) (u7 td ty tv):=by
 intro pins s σ H D I h
 refine wpAny_Assign_Subscript (thn (hv pins s σ H _ I h) fun r s1 ⟨v,H1,I1,rv,q1⟩=>thn (ho pins s1 σ H1 _ I1 q1) fun u s2 ⟨x,H2,I2,rx,q2⟩=>thn (hi pins s2 σ H2 _ I2 q2) fun iv s3 ⟨y,H3,I3,ry,a,H4,ex,g,q3⟩=>?_) hs
 subst ex
 obtain rfl:u=Value.ref a:=rx
 exact ot hu I3 g ry rv fun s4 I4=>⟨σ,H4,I4,q3⟩
end
theorem jT {P:Program}{w:World}{H:Hp}(h:Heap)(hb:sysModules<h.objs.size):ObjOk P w H (h.push { cls:=.type "dict",data:=.dict #[] }) h.objs.size (.dK []) :=
 ⟨Nat.zero_le _,beq_eq_false_iff_ne.mpr (Ne.symm (Nat.ne_of_lt hb)),[],.nil,Heap.DictOf.new h⟩
def sF:TE:=fun _ H Q=>∀p,H p=none->Q (.ref p) (upd H p (.dK []))
section
variable {X:Cx}{pos:Pos}
theorem qp:PE X (.Dict [] [] pos) sF:=fun pins s σ H Q I h =>
 wpAny_Dict_empty ⟨.ref s.heap.objs.size,_,I.laid (a:=s.heap.objs.size) (o:=.dK []) (t':=s.toks) (fun _ _ q=>Heap.get?_push_of_some _ q) (Nat.le_refl _) (jT s.heap I.big),rfl,h _ (I.hok.fresh (Nat.le_refl _))⟩
end
def lR:List (TE×TE)->St->Hp->(List (V×V)->Hp->Prop)->Prop
 | [],_,H,Q=>Q [] H
 | (tk,tv)::r,σ,H,Q=>tk σ H fun x H1=>tv σ H1 fun y H2=>lR r σ H2 fun ps H3=>Q ((x,y)::ps) H3
abbrev VV:List (V×V)->List (Value×Value)->Prop:=Paired fun p q=>RelV p.1 q.1/\RelV p.2 q.2
def PPs (X:Cx)(pos:Pos)(keys:List (Option Expr))(values:List Expr)(trs:List (TE×TE)):Prop :=
 ∀(pins:List (Addr×Obj)) (s:Shared) (σ:St) (H:Hp) (Q:List (V×V)->Hp->Prop),Inv X pins σ H s->lR trs σ H Q ->
  wpAny (model X.prog X.w) X.A (evalPairs (pairTrees keys values X.env pos)) (fun vs s'=>∃ ps H',Inv X pins σ H' s'/\VV ps vs/\Q ps H') X.xe s
theorem uI {X:Cx}{pos:Pos}:PPs X pos [] [] []:=fun pins s σ H Q I h=>pairTrees_nil_walk ⟨[],H,I,.nil,h⟩
theorem cU {X:Cx}{pos:Pos}{k v:Expr}{ks:List (Option Expr)}{vs:List Expr}{tk tv:TE}{trs:List (TE×TE)}(hk:PE X k tk)(hv:PE X v tv)(hr:PPs X pos ks vs trs) :
  PPs X pos (some k::ks) (v::vs) ((tk,tv)::trs):=fun pins s σ H Q I h =>
 pairTrees_cons_walk (thn (hk pins s σ H _ I h) fun u s1 ⟨x,H1,I1,rx,q1⟩=>thn (hv pins s1 σ H1 _ I1 q1) fun w2 s2 ⟨y,H2,I2,ry,q2⟩ =>
  thn (hr pins s2 σ H2 _ I2 q2) fun ws s3 ⟨ps,H3,I3,rel,q3⟩=>⟨(x,y)::ps,H3,I3,.cons ⟨rx,ry⟩ rel,q3⟩)
def fy (kvs more:List (Key×V)):List (Key×V):=more.foldl (fun acc kv=>a7 acc kv.1 kv.2) kvs
theorem KV.merge:∀{more:List (Key×V)} {rs:List (Key×Value)} {kvs:List (Key×V)} {vs:List (Key×Value)},KV more rs->KV kvs vs->KV (fy kvs more) (merged vs rs):=by
 intro more rs kvs vs r
 unfold KV at r
 induction r generalizing kvs vs with
 | nil=>intro q;exact q
 | @cons p q ps qs h t ih =>
  intro r0
  have e:KV (a7 kvs p.1 p.2) (stored vs q.1 q.2):=by
   have:=r0.put p.1 h.2
   rw [<-h.1];exact this
  exact ih e
theorem dM:∀(more kvs:List (Key×V)),(fy kvs more).length<=kvs.length+more.length
 | [],kvs=>by show kvs.length<=kvs.length+0;lia
 | p::r,kvs=>by
  have h1:=dM r (a7 kvs p.1 p.2)
  have h2:=cT kvs p.1 p.2
  show (fy (a7 kvs p.1 p.2) r).length<=_
  rw [List.length_cons];lia
theorem gX {P:Program}{w:World}:∀{kvs:List (Key×V)} {ws:List (Value×Value)},VV (kvs.map fun kv=>(kV kv.1,kv.2)) ws->∃ rs,Carries (mixKind P w) ws rs/\KV kvs rs
 | [],_,r=>by rw [List.map_nil] at r;cases r;exact ⟨[],True.intro,.nil⟩
 | p::kvs,_,r=>by
  rw [List.map_cons] at r
  cases r with
  | @cons a b as bs h t =>
   obtain ⟨rs,c,q⟩:=gX (P:=P) (w:=w) t
   obtain ⟨b1,b2⟩:=b
   exact ⟨(p.1,b2)::rs,⟨gv h.1,rfl,c⟩,.cons ⟨rfl,h.2⟩ q⟩
def vv (trs:List (TE×TE)):TE:=fun σ H Q=>∀p,H p=none->lR trs σ (upd H p (.dK [])) fun ps H2=>H2 p=some (.dK [])/\∃ kvs:List (Key×V),ps=kvs.map (fun kv=>(kV kv.1,kv.2))/\kvs.length<=15/\Q (.ref p) (upd H2 p (.dK (fy [] kvs)))
theorem ug {X:Cx}{pos:Pos}{keys:List (Option Expr)}{values:List Expr}{trs:List (TE×TE)}(h:PPs X pos keys values trs)(hall:keys.all (·.isSome)=true)(hl:keys.length=values.length)(h0:keys≠[])
  (h15:keys.length<=15):PE X (.Dict keys values pos) (vv trs):=by
 intro pins s σ H Q I q
 have hn:=I.hok.fresh (Nat.le_refl s.heap.objs.size)
 have I1:=I.laid (a:=s.heap.objs.size) (o:=.dK []) (h':=s.heap.push { cls:=.type "dict",data:=.dict #[] }) (t':=s.toks) (fun _ _ q=>Heap.get?_push_of_some _ q) (Nat.le_refl _) (jT s.heap I.big)
 refine wpAny_Dict_walk (knd:=mixKind X.prog X.w) hall hl h0 h15 (thn (h pins _ σ _ _ I1 (q _ hn)) fun ws s2 ⟨ps,H2,I2,rel,e,kvs,ep,lk,q2⟩=>?_)
 subst ep
 obtain ⟨rs,c,rk⟩:=gX (P:=X.prog) (w:=X.w) rel
 obtain ⟨z,hd,vs0,r0,dd⟩:=gq I2.hok e
 cases r0
 refine ⟨rs,c,dd,fun h' dd' hs=>⟨.ref s.heap.objs.size,_,?_,rfl,q2⟩⟩
 have hz:(fy [] kvs).length<=sizeLine:=by
  have h1:=dM kvs []
  rw [List.length_nil] at h1
  rw [sizeLine_eq];lia
 have he:∃ q,h'.get? s.heap.objs.size=some q:=let ⟨q,_,_,hq,_⟩:=dd';⟨q,hq⟩
 exact gB I2 (by rw [e];exact True.intro) hs he (mt hz hd (rk.merge .nil) dd')
structure M1 (X:Cx)(o:Expr)(m:Str)(apos:Pos)(e:Expr)(cpos:Pos):Prop where
 base:attributeBase o m X.env (eval o X.env)=eval o X.env
 few:((backTo cpos (starEach [e] X.env)).all (fun x=>!x.1)&&(backToKw cpos (keywordEach [] X.env)).all (fun x=>x.1.isSome)
  && decide (([e]:List Expr).length+([]:List Keyword).length+(if ([]:List Keyword).isEmpty then 0 else 1)<30))=true
 line:(apos.endLine == cpos.line)=true
 trees:backTo cpos (starEach [e] X.env)=[(false,eval e X.env)]
def IsD (H:Hp)(a:Addr):Prop:=(∃ kvs,Rd H a (.dK kvs))∨∃ kvs,Rd H a (.dT kvs)
theorem pV {X:Cx}{pins:List (Addr×Obj)}{σ:St}{H:Hp}{s:Shared}{a:Addr}(I:Inv X pins σ H s)(d:IsD H a) :
  s.TypeIs (.ref a) "dict"/\(∀b,Value.ref a=.ref b->∃ ob,s.heap.get? b=some ob/\ob.dict=none)/\(a == sysModules)=false:=by
 rcases d with ⟨kvs,e⟩ | ⟨kvs,e⟩
 .obtain ⟨_,hd,vs,_,dd⟩:=gr I.hok e
  refine ⟨dd.typeIs,fun b q=>?_,hd⟩
  cases q
  obtain ⟨ob,_,_,h1,h2,_⟩:=dd
  exact ⟨ob,h1,h2.2.1⟩
 .obtain ⟨_,hd,xs,_,dd⟩:=gY I.hok e
  refine ⟨dd.typeIs,fun b q=>?_,hd⟩
  cases q
  obtain ⟨ob,_,_,h1,h2,_⟩:=dd
  exact ⟨ob,h1,h2.2.1⟩
section
variable {X:Cx}{pins:List (Addr×Obj)}{σ:St}{H:Hp}{s:Shared}{a:Addr}{y d:V}{u r:Value}{o:Option V}{A:Around}{E:Value->Shared->Prop}
theorem wg {Q:Value->Shared->Prop}(hu:A.units+1<cLine)(I:Inv X pins σ H s)(g:DGet H a y o)(ry:RelV y u)(h:∀w' s',Inv X pins σ H s'->RelV (o.getD .non) w'->Q w' s') :
  wpAny (model X.prog X.w) A (call (.builtin "dict.get") [.ref a,u]) Q E s:=by
 rcases g with ⟨kvs,k,e,ey,l⟩ | ⟨kvs,k,b,e,ey,eb,l⟩
 .subst ey
  obtain ⟨z,hd,vs,rel,dd⟩:=gr I.hok e
  refine call_meetsIn PySem.F.slot_dict_get dd.typeIs PySem.F.entry_dict_get (PySem.F.args_dict_get_2 _ _) (meets_dict_get (mixKind X.prog X.w) a (gv ry) hd) ⟨_,dd.mapOf,h _ _ (I.tok _) ?_⟩
  rw [l]
  exact (rel.val k).getD rfl
 .subst ey
  cases (show u=Value.ref b from ry)
  obtain ⟨z,hd,xs,rel,dd⟩:=gY I.hok e
  refine call_meetsIn PySem.F.slot_dict_get dd.typeIs PySem.F.entry_dict_get (PySem.F.args_dict_get_2 _ _) (meetsH_dict_get (tupleKind (mixKind X.prog X.w)) a b hd) ⟨tupleKind_room_in1 hu,k,xs,fW I.hok eb,dd,h _ _ (I.tok _) ?_⟩
  rw [l]
  exact (rel.val k).getD rfl
end
def pT (td ty:TE):TE:=fun σ H Q=>td σ H fun x H1=>∃ a,x=.ref a/\IsD H1 a/\ty σ H1 fun y H2=>∃ o,DGet H2 a y o/\Q (o.getD .non) H2
def pM (td ty:TE):TE:=fun σ H Q=>td σ H fun x H1=>∃ a,x=.ref a/\IsD H1 a/\ty σ H1 fun y H2=>∃ kvs k v,H2 a=some (.dK kvs)/\y=kV k/\bn kvs k=some v/\Q v (upd H2 a (.dK (bw kvs k)))
section
variable {X:Cx}{o e f:Expr}{apos cpos:Pos}{td ty tx:TE}
theorem qy (hu:X.A.units+1<cLine)(ho:PE X o td)(he:PE X e ty)(m:M1 X o "get" apos e cpos):PE X (.Call (.Attribute o "get" apos) [e] [] cpos) (pT td ty):=by
 intro pins s σ H Q I h
 refine wpAny_Call_method m.base m.few m.line PySem.F.plainAttrs_dict PySem.F.slot_dict_get PySem.F.type_dict_get (thn (ho pins s σ H _ I h) fun u s1 ⟨x,H1,I1,rx,a,ex,d,q1⟩=>?_)
 subst ex
 obtain rfl:u=Value.ref a:=rx
 obtain ⟨t1,t2,_⟩:=pV I1 d
 refine ⟨t1,t2,?_⟩
 rw [m.trees]
 refine Calls.callWith_builtin rfl (Calls.evalArgs_plain (Calls.spliced_cons (thn (he pins s1 σ H1 _ I1 q1) fun iv s2 ⟨y,H2,I2,ry,ov,g,q2⟩=>Calls.spliced_nil ?_)))
 exact wg hu I2 g ry fun w' s3 I3 rw'=>⟨_,H2,I3,rw',q2⟩
theorem su (ho:PE X o td)(he:PE X e ty)(m:M1 X o "pop" apos e cpos):PE X (.Call (.Attribute o "pop" apos) [e] [] cpos) (pM td ty):=by
 intro pins s σ H Q I h
 refine wpAny_Call_method m.base m.few m.line PySem.F.plainAttrs_dict PySem.F.slot_dict_pop PySem.F.type_dict_pop (thn (ho pins s σ H _ I h) fun u s1 ⟨x,H1,I1,rx,a,ex,d,q1⟩=>?_)
 subst ex
 obtain rfl:u=Value.ref a:=rx
 obtain ⟨t1,t2,_⟩:=pV I1 d
 refine ⟨t1,t2,?_⟩
 rw [m.trees]
 refine Calls.callWith_builtin rfl (Calls.evalArgs_plain (Calls.spliced_cons (thn (he pins s1 σ H1 _ I1 q1) fun iv s2 ⟨y,H2,I2,ry,kvs,k,v,ea,ey,l,q2⟩=>Calls.spliced_nil ?_)))
 subst ey
 exact yh I2 ea ry l (.inl rfl) fun w' s3 I3 rw'=>⟨v,_,I3,rw',q2⟩
end
section
variable {X:Cx}{pins:List (Addr×Obj)}{σ:St}{H:Hp}{s:Shared}{a:Addr}{kvs:List (Key×V)}{A:Around}{E:Value->Shared->Prop}
end
section
variable {X:Cx}{pins:List (Addr×Obj)}{σ:St}{H:Hp}{s:Shared}{a:Addr}{y:V}{u:Value}{A:Around}{E:Value->Shared->Prop}
end
end L2
namespace L2
open PySem PySem.Spec PyProof.Rows
section
variable {X:Cx}
theorem bR:bH X (.builtin "len") (fun xs H Q=>∃ a kvs,xs=[V.ref a]/\H a=some (.dK kvs)/\Q (.int kvs.length) H):=by
 intro pins s σ H xs us Q I r h
 obtain ⟨a,kvs,rfl,ha,q⟩:=h
 obtain ⟨u,rfl,ru⟩:=cY r
 cases ru
 exact xB I (.inl ha) fun t s' I'=>⟨.int kvs.length,H,I',⟨t,rfl⟩,q⟩
end
section
variable {κ:Type}[DecidableEq κ]
end
end L2
end
section
namespace L2
open PySem PySem.W PySem.Spec PySem.Calls PyProof.Rows
section
variable {P:Program}{w:World}{K:Frag}{mg:Str->Option Value}{base:Heap}{N:List Str}{qual:Str}{scope:Scope}{f:Addr}{cd:Value}{A:Around}{outer:List Env}{s₀:Shared}{H₀:Hp}{E:XK}
theorem bO {E':XK}(hE:∀c H',E' c none H'->E c none H'):bB (CXe P w) (bh (CXe P w) P w K mg base N qual scope f cd A outer s₀ H₀ E) E':=by
 intro pins σ H s v s' I h
 obtain ⟨e,C,H',B,a0,rfl,fl,kp,kt,hokB,o1,o2,q⟩:=I.xp h
 have hsub:∀b,b∈frs (envOfC qual scope s₀.heap.objs.size f cd::outer)->b=s₀.heap.objs.size∨b∈frs outer:=fun b hb=>by
  obtain ⟨env,he,hf⟩:=List.mem_filterMap.mp hb
  rcases List.mem_cons.mp he with rfl | he
  .exact .inl (Option.some.inj hf).symm
  .exact .inr (List.mem_filterMap.mpr ⟨env,he,hf⟩)
 have nL:∀b o,s₀.heap.get? b=some o->b∉frs outer->b∉frs (envOfC qual scope s₀.heap.objs.size f cd::outer):=fun b o e nb hb=>by
  rcases hsub b hb with rfl | z
  .exact absurd (Heap.lt_size e) (Nat.lt_irrefl _)
  .exact nb z
 refine wpAny_leaves_onW I.ok.frames rfl fl fun h' fl' up=>?_
 have I2:=kp h' s'.toks fl'.1 up
 exact ⟨e,C,H',B,a0,rfl,I2.os,I2.bare,I2.base,⟨hokB,fun b o e n hb=>o1 b o e n List.not_mem_nil (nL b o e hb),fun b o e hb=>o2 b o e List.not_mem_nil (nL b o e hb)⟩,fl',hE _ _ q⟩
end
section
variable {X:Cx}
section
variable {C f:Addr}{m:Str}{k:Nat}{fd:FuncData}{ps:List Str}{sp:Sp}{dvs:List V}{ds:List Value}{o e:Expr}{es:List Expr}{ta:TE}{t:TA}{apos pos:Pos}{pl:Sem Bool}
end
def vz (t:TE):TE:=fun σ H Q=>t σ H fun x H1=>∃ n:Str,x=.str n/\n.length<=1000/\∀r,Q (.str r) H1
theorem gQ {a b:Str}(ha:a.length<=1000)(hb:b.length<=1000):(a++b).length<=sizeLine:=by
 rw [strLen_append]
 exact Nat.le_trans (Nat.add_le_add ha hb) (by decide)
theorem qD {v:Expr}{c:Str}{j:Nat}{pos fpos cpos:Pos}{t:TE}(h:PE X v t)(hc:c.length<=1000):PE X (.JoinedStr [.FormattedValue v (-1) none fpos,.Constant (.str c) j cpos] pos) (vz t):=by
 intro pins s σ H Q I hq
 refine JoinedStr_many (joinParts_cons (FormattedValue_plain (thn (h pins s σ H _ I hq) fun u s1 ⟨x,H1,I1,r1,n,ex,hn,q⟩=>?_)))
 subst ex
 obtain ⟨t0,rfl⟩:=r1
 have e0:(Str.empty++n).length<=1000:=by rw [strLen_append];show 0+n.length<=1000;lia
 refine formatField_str (fun t' tk=>⟨Nat.le_trans e0 (by decide),?_⟩) (Nat.le_trans hn (by decide))
 refine joinParts_cons (thn (mB (X:=X) (x:=c) (j:=j) (pos:=cpos) pins { s1 with toks:=tk } σ H1 (fun v H'=>v=.str c/\H'=H1) (I1.tok _) ⟨rfl,rfl⟩) fun u s2 ⟨y,H2,I2,r2,ey,eH⟩=>?_)
 subst ey eH
 obtain ⟨t2,rfl⟩:=r2
 exact ⟨gQ e0 hc,joinParts_nil ⟨.str _,H2,I2.tok _,⟨_,rfl⟩,q _⟩ (gQ e0 hc)⟩
end
end L2
end
section
namespace L2
open PySem PySem.Spec PyProof.Rows
open PySem.SeqAt (EqAt RcAt RcNeAt)
section
variable {X:Cx}
theorem v3 {H:Hp}{s:Shared}{A:Around}{i i' j j':Int}{n n':Str}{us vs:List Value}(r:Vals [.int i,.str n,.int j] us)(r':Vals [.int i',.str n',.int j'] vs) :
  ∃ e:Nat->Bool,(∀k (h1:k<us.toArray.size) (h2:k<vs.toArray.size),EqAt A s us.toArray[k] vs.toArray[k] (e k))/\us.length=3/\vs.length=3/\(((List.range 3).all e)=decide ([V.int i,.str n,.int j]=[.int i',.str n',.int j'])):=by
 obtain ⟨u0,u1,u2,rfl,a0,a1,a2⟩:=rL r
 obtain ⟨v0,v1,v2,rfl,b0,b1,b2⟩:=rL r'
 obtain ⟨e0,q0,z0⟩:=bI (a:=.int i) (c:=.int i') A s trivial a0 b0
 obtain ⟨e1,q1,z1⟩:=bI (a:=.str n) (c:=.str n') A s trivial a1 b1
 obtain ⟨e2,q2,z2⟩:=bI (a:=.int j) (c:=.int j') A s trivial a2 b2
 refine ⟨fun k=>if k=0 then e0 else if k=1 then e1 else e2,fun k h1 h2=>?_,rfl,rfl,?_⟩
 .match k,h1,h2 with
  | 0,_,_=>exact q0
  | 1,_,_=>exact q1
  | 2,_,_=>exact q2
  | k+3,h1,_=>exact absurd h1 (by simp)
 .rw [Bool.eq_iff_iff,decide_eq_true_eq]
  have el:(List.range 3).all (fun k=>if k=0 then e0 else if k=1 then e1 else e2)=(e0&&(e1&&e2)):=by
   show (e0&&(e1&&(e2&&true)))=_
   rw [Bool.and_true]
  rw [el,Bool.and_eq_true,Bool.and_eq_true,z0,z1,z2]
  constructor
  .rintro ⟨h0,h1,h2⟩
   rw [h0,h1,h2]
  .intro h
   injection h with h0 h
   injection h with h1 h
   injection h with h2 _
   exact ⟨h0,h1,h2⟩
theorem uU (hu:X.A.units<cLine):OpR X (compareOp .Eq) (fun x y H Q=>∃ a b xs ys,x=.ref a/\y=.ref b/\SqT X.K H a xs/\SqT X.K H b ys/\eJ xs/\eJ ys/\Q (.bl (decide (xs=ys))) H):=by
 intro pins s σ H x y v u Q I rx ry h
 obtain ⟨a,b,xs,ys,rfl,rfl,ha,hb,⟨i,n,j,rfl⟩,⟨i',n',j',rfl⟩,q⟩:=h
 cases rx
 cases ry
 obtain ⟨its,r,ht,_⟩:=I.tuple ha
 obtain ⟨its2,r2,ht2,_⟩:=I.tuple hb
 obtain ⟨e,he,l1,l2,ee⟩:=v3 (H:=H) (s:=s) (A:=X.A.in1) r r2
 refine SeqAt.eq_tupleAt (e:=e) ht ht2 hu he ⟨.bl _,H,I,?_,q⟩
 show Value.bool _=Value.bool _
 rw [List.size_toArray,List.size_toArray,l1,l2,<-ee]
 show Value.bool ((List.range 3).all e&&true)=_
 rw [Bool.and_true]
end
end L2
end
section
namespace L2
open PySem PySem.W PySem.Spec PySem.Calls PyProof.Rows
section
variable {X:Cx}{pins:List (Addr×Obj)}{σ:St}{H:Hp}{s:Shared}{d:Addr}{kvs:List (Key×V)}
theorem jO {P:Program}{w:World}{H:Hp}{h:Heap}{d:Addr}{o u:HO}(hok:HOk P w H h)(e:H d=some o)(no:∀y,o≠.own y)(nt:∀xs,o≠.tup xs)(new:ObjOk P w (upd H d u) h d u):HOk P w (upd H d u) h:=fun b v q=>by
 by_cases hb:b=d
 .subst hb;rw [ae] at q;cases q;exact new
 .rw [ak hb] at q
  refine (hok b v q).stay (fun _ _ _ z=>z) (fun c z=>?_) fun c xs z=>?_
  .rw [ak (fun y=>by subst y;rw [e] at z;cases z;exact no _ rfl)];exact z
  .rw [ak (fun y=>by subst y;rw [e] at z;cases z;exact nt _ rfl)];exact z
theorem nK {P:Program}{w:World}{H H':Hp}{h:Heap}{d:Addr}{kvs:List (Key×V)}(x:ObjOk P w H h d (.dK kvs)):ObjOk P w H' h d (.dK kvs):=x
theorem Inv.freeze (I:Inv X pins σ H s)(e:H d=some (.dK kvs)):∃ o,s.heap.get? d=some o/\Inv X pins σ (upd H d (.frz o (.dK kvs))) s:=by
 obtain ⟨o,ho⟩:=I.hok.get e
 have ne:∀b u,H b=some u->(∀k,u≠.dK k)->b≠d:=fun b u q n z=>by subst z;rw [e] at q;cases q;exact n _ rfl
 refine ⟨o,ho,I.step (h':=s.heap) (g':=s.gens) (d':=s.drawn) (t':=s.toks) (ch:=[]) (fun _ z=>nomatch z) (fun b o _ _ _ e _=>e) (fun b o _ _ _ e _=>⟨o.slots,e⟩) (fun b o _ _ n=>?_) (fun b o _ e=>⟨o,e⟩) (fun b xs q=>?_) (fun b o u q=>?_) (fun b ps q=>⟨#[],?_⟩) (fun m hm=>hm) ?_ I.bare⟩
 .rw [ak (fun z=>by subst z;rw [e] at n;cases n)];exact n
 .rw [ak (ne b _ q (fun _ z=>nomatch z))];exact q
 .rw [ak (ne b _ q (fun _ z=>nomatch z))];exact q
 .rw [ak (ne b _ q (fun _ z=>nomatch z)),q];simp
 .exact jO I.hok e (fun _ z=>nomatch z) (fun _ z=>nomatch z) ⟨ho,nK (I.hok d _ e)⟩
theorem Inv.thaw {o:Obj}(I:Inv X pins σ H s)(e:H d=some (.frz o (.dK kvs)))(n:∀o u,X.H₀ d≠some (.frz o u)):Inv X pins σ (upd H d (.dK kvs)) s:=by
 have nn:∀b,H b=none->(upd H d (.dK kvs)) b=none:=fun b q=>by rw [ak (fun z=>by subst z;rw [e] at q;cases q)];exact q
 refine ⟨I.ok,I.os,I.bare,⟨I.base.keep,I.base.slot,fun b ob e1 n1 hx=>nn b (I.base.free b ob e1 n1 hx),I.base.there,fun b xs q=>?_,fun b ob u q=>?_,fun b ps q=>?_⟩,I.loc,I.cell,nn _ I.free,fun x c q=>nn _ (I.freeC x c q),fun p hp=>?_,?_,I.len⟩
 .have q2:=I.base.tups b xs q
  rw [ak (fun z=>by subst z;rw [e] at q2;cases q2)];exact q2
 .have q2:=I.base.frzs b ob u q
  rw [ak (fun z=>by subst z;exact n _ _ q)];exact q2
 .obtain ⟨m,q2⟩:=I.base.tbls b ps q
  exact ⟨m,by rw [ak (fun z=>by subst z;rw [e] at q2;cases q2)];exact q2⟩
 .obtain ⟨a1,a2,a3⟩:=I.pin p hp
  exact ⟨a1,nn _ a2,a3⟩
 .exact jO I.hok e (fun _ z=>nomatch z) (fun _ z=>nomatch z) (nK (I.hok d _ e).2)
end
def vH (H0:Hp)(t:TE):TE:=fun σ H Q=>t σ H fun v H1=>∃ d o kvs,H1 d=some (.frz o (.dK kvs))/\(∀o u,H0 d≠some (.frz o u))/\Q v (upd H1 d (.dK kvs))
theorem uk {X:Cx}{e:Expr}{t:TE}(h:PE X e t):PE X e (vH X.H₀ t):=fun pins s σ H Q I q =>
 thn (h pins s σ H _ I q) fun u s1 ⟨v,H1,I1,r,d,o,kvs,e1,n,q1⟩=>⟨v,_,I1.thaw e1 n,r,q1⟩
theorem oz {k:Key}{v:Value}(h:keyIs k v=true):RelV (kV k) v:=by
 rcases keyIs_shape h with ⟨i,t,rfl,rfl⟩ | ⟨x,t,rfl,rfl⟩
 .exact ⟨t,rfl⟩
 .exact ⟨t,rfl⟩
def Itk (d:Addr)(o:Obj)(kvs:List (Key×V)):It :=
 ⟨fun i H=>i<kvs.length/\H d=some (.frz o (.dK kvs)),fun i H x H'=>H'=H/\(kvs.map fun kv=>kV kv.1)[i]?=some x,fun i H=>kvs.length<=i/\H d=some (.frz o (.dK kvs))⟩
theorem KV.at {κ:Type}{kvs:List (κ×V)}{vs:List (κ×Value)}(r:KV kvs vs){i:Nat}{p:κ×V}(h:kvs[i]?=some p):∃ v,vs[i]?=some (p.1,v):=by
 induction r generalizing i with
 | nil=>cases h
 | @cons a b l l' h1 _ ih =>
  cases i with
  | zero =>
   cases h
   exact ⟨b.2,by show some b=_;rw [h1.1]⟩
  | succ i=>exact ih h
theorem oV {P:Program}{w:World}{K:Frag}{tg:Expr}{d it:Addr}{o:Obj}{kvs:List (Key×V)}{es:Array DictEntry}{ep:Nat}(hdo:o.data=.dict es ep):oU P w K tg (Itk d o kvs) [it] it (fun i h=>h.IsKeyIter it d i kvs.length ep) where
 mem:=List.mem_singleton.mpr rfl
 obj:=fun i h st b hb=>by
  obtain rfl:=List.mem_singleton.mp hb
  obtain ⟨o,e,c,d⟩:=st
  exact ⟨o,e,fun v z=>by rw [d] at z;cases z⟩
 keep:=fun i h h' st k=>st.at fun o e=>k it (List.mem_singleton.mpr rfl) o e
 item:=by
  intro X hP hw hK hc i pins s σ H E I hf st hg
  subst hP hw hK
  obtain ⟨hi,hd⟩:=hg
  obtain ⟨ho,_,nsm,vs,rel,o2,es2,ep2,ho2,hx2,hdo2,rest⟩:=(show _/\ObjOk X.prog X.w H s.heap d (.dK kvs) from I.hok d _ hd)
  rw [ho] at ho2
  cases ho2
  rw [hdo] at hdo2
  cases hdo2
  obtain ⟨f0,f1,f2,f3,f4,f5⟩:=hf it (List.mem_singleton.mpr rfl)
  obtain ⟨v,hv⟩:=rel.at (List.getElem?_eq_getElem hi)
  have st1:=st
  rw [rel.length] at st1
  refine wpAny_pyNext_dict_item st1 ⟨o,es,ho,hx2,hdo,rest⟩ hv fun key h' hk st' sb=>?_
  rw [<-rel.length] at st'
  have I1:Inv X pins σ H { s with heap:=h' }:=I.turned (t':=s.toks) (fun b o hb e=>(sb.2 b hb).trans e) f0 f1 f3 f4 f5
  obtain ⟨oi,e,c,dd⟩:=id st'
  refine ⟨key,rfl,jH (s:={ s with heap:=h' }) e c dd (by decide) ⟨_,H,I1,oz hk,⟨rfl,?_⟩,st',fun b hb=>(hf b hb).1⟩⟩
  rw [List.getElem?_map,List.getElem?_eq_getElem hi]
  rfl
 done:=by
  intro X hP hw hK hc i pins s σ H E I hf st hg
  subst hP hw hK
  obtain ⟨hi,hd⟩:=hg
  obtain ⟨ho,_,nsm,vs,rel,o2,es2,ep2,ho2,hx2,hdo2,rest⟩:=(show _/\ObjOk X.prog X.w H s.heap d (.dK kvs) from I.hok d _ hd)
  rw [ho] at ho2
  cases ho2
  rw [hdo] at hdo2
  cases hdo2
  obtain ⟨f0,f1,f2,f3,f4,f5⟩:=hf it (List.mem_singleton.mpr rfl)
  have st1:=st
  rw [rel.length] at st1
  exact wpAny_pyNext_dict_end (I.ok.hd hc) st1 ⟨o,es,ho,hx2,hdo,rest⟩ (List.getElem?_eq_none (by rw [<-rel.length];exact hi)) fun h' eb=>⟨rfl,I.turned (t':=s.toks) (fun b o hb e=>eb b o hb e) f0 f1 f3 f4 f5⟩
 self:=fun _ _ _ _ _ st h=>wpAny_pyIter_keyiter st h
def vy (td:TE):TI:=fun σ H R=>td σ H fun x H1=>∃ d kvs,x=.ref d/\H1 d=some (.dK kvs)/\∀o,R (Itk d o kvs) (upd H1 d (.frz o (.dK kvs)))
section
variable {X:Cx}{tg:Expr}
theorem tO {l:Expr}{tl:TE}(hl:PE X l tl):PI X tg l (vy tl):=by
 intro pins s σ H R I h
 refine thn (hl pins s σ H _ I h) fun v s1 ⟨x,H1,I1,r1,d,kvs,e,hd,q⟩=>?_
 subst e
 cases r1
 obtain ⟨o,ho,I2⟩:=I1.freeze hd
 obtain ⟨_,nsm,vs,rel,o2,es,ep,ho2,hx,hdo,rest⟩:=(show ObjOk X.prog X.w H1 s1.heap d (.dK kvs) from I1.hok d _ hd)
 rw [ho] at ho2
 cases ho2
 refine wpAny_pyIter_dict nsm ⟨o,es,ho,hx,hdo,rest⟩ ?_
 refine ⟨s1.heap.objs.size,[s1.heap.objs.size],_,_,_,rfl,I2.kept (t':=s1.toks) fun b o e=>Heap.get?_push_of_some _ e,oV hdo,⟨_,Heap.get?_push_size _ rfl,rfl,?_⟩,fun b hb=>?_,q o⟩
 .show Data.fields _=_
  rw [rel.length]
  rfl
 .obtain rfl:=List.mem_singleton.mp hb
  exact I2.fpOk (Nat.le_refl _) (I2.hok.fresh (Nat.le_refl _))
end
theorem oQ {d:Addr}{o:Obj}{kvs:List (Key×V)}{tt:TT}{te:TE}{cap:List Nat}{σ:St}{H:Hp}{D:Addr}{Q:VK}(Pv:Nat->List V->Hp->Prop)(h0:Pv 0 [] (upd H D (.lst [])))(hD:∀i ys H,Pv i ys H->H D=some (.lst ys)/\H d=some (.frz o (.dK kvs)))
  (hs:∀i k v ys H,kvs[i]?=some (k,v)->Pv i ys H->tt (some (kV k)::bi cap σ) H fun b H3 =>
   if b=true then te (some (kV k)::bi cap σ) H3 fun v H4=>H4 D=some (.lst ys)/\ys.length<sizeLine/\∃ m',m'<kvs.length-i/\m'=kvs.length-(i+1)/\i+1<=kvs.length/\Pv (i+1) (ys++[v]) (upd H4 D (.lst (ys++[v])))
   else ∃ m',m'<kvs.length-i/\m'=kvs.length-(i+1)/\i+1<=kvs.length/\Pv (i+1) ys H3)
  (hd:∀ys H,Pv kvs.length ys H->Q (.ref D) H) :
  ∃ W:Nat->Nat->List V->Hp->Prop,(∃ m,W 0 m [] (upd H D (.lst [])))/\∀i m ys H,W i m ys H->H D=some (.lst ys) /\
   (((Itk d o kvs).stop i H/\Q (.ref D) H)∨((Itk d o kvs).go i H/\∀x H',(Itk d o kvs).yld i H x H'->tt (some x::bi cap σ) H' fun b H3 =>
    if b=true then te (some x::bi cap σ) H3 fun v H4=>H4 D=some (.lst ys)/\ys.length<sizeLine/\∃ m',m'<m/\W (i+1) m' (ys++[v]) (upd H4 D (.lst (ys++[v])))
    else ∃ m',m'<m/\W (i+1) m' ys H3)):=by
 refine ⟨fun i m ys H=>m=kvs.length-i/\i<=kvs.length/\Pv i ys H,⟨kvs.length,rfl,Nat.zero_le _,h0⟩,?_⟩
 rintro i m ys H ⟨rfl,hi,p⟩
 obtain ⟨q1,q2⟩:=hD i ys H p
 refine ⟨q1,?_⟩
 by_cases hlt:i<kvs.length
 .refine .inr ⟨⟨hlt,q2⟩,fun x H' y=>?_⟩
  obtain ⟨e,y⟩:=y
  subst e
  obtain ⟨k,v⟩:∃ kv:Key×V,kvs[i]?=some kv:=⟨_,List.getElem?_eq_getElem hlt⟩
  obtain ⟨k,z⟩:=k
  rw [List.getElem?_map,v] at y
  cases y
  exact hs i k z ys _ v p
 .have e:i=kvs.length:=by lia
  subst e
  exact .inl ⟨⟨Nat.le_refl _,q2⟩,hd ys H p⟩
structure uR (K:Frag)(C:Addr)(mc:Value)(m:Str)(f:Addr):Prop where
 ga:specialIn K (.ref C) "__getattribute__"=some (some (.builtin "type.__getattribute__"))
 rd:readsIn K C mc=true
 fc:findCls K (.ref C) mc m=some (.val (.ref f))
 kp:keepIn K (.ref f)=true
section
variable {X:Cx}{CX:CXT}{k:Nat}{f C:Addr}{mc:Value}{fd:FuncData}{ps:List Str}{sp:Sp}{dvs:List V}{ds:List Value}{E:XK}{m:Str}{pos apos:Pos}{e o:Expr}{es:List Expr}{t:TA}{pl:Sem Bool}
theorem tP (ho:PE X o (tC (.ref C)))(M:uR X.K C mc m f)(F:aw X.prog X.w X.K X.mg X.base CX k f fd ps sp)(hr:Room k X.A)(hb:Binds X.K fd ps ds)(hd:Vals dvs ds)(hx:bB CX X E)(ha:PA X (e::es) t)
  (hst:starEach (e::es) X.env=(false,eval e X.env)::starEach es X.env:=by rfl) (hpl:(backTo pos (starEach es X.env)).any (·.1)=false:=by rfl)
  (ht:eval (.Call (.Attribute o m apos) (e::es) [] pos) X.env=(do
   let ov <-eval o X.env
   standAt apos.atName
   let (f,first) <-holding [ov] (getMethod ov m pl)
   callWith pos f first (backTo pos (starEach (e::es) X.env)) (backToKw pos (keywordEach [] X.env))):=by rfl) :
  PE X (.Call (.Attribute o m apos) (e::es) [] pos) (nT sp dvs E t):=by
 intro pins s σ H Q I h
 refine methodCall_KW (pl:=pl) (thn (ho pins s σ H (fun v H'=>v=.ref C/\H'=H) I ⟨rfl,rfl⟩) fun u s1 ⟨x,H1,I1,rx,ex,eH⟩=>?_) ht
 subst ex eH
 obtain rfl:u=Value.ref C:=rx
 refine method_cls I1.kIn M.ga (cls_value I1.kIn M.rd M.fc rfl ?_)
 have I2:=I1.tok (s1.toks+1)
 refine callWith_K (h₀:=X.base) I.ok.mod.kin M.kp (thn (ha pos pins _ σ H1 _ I2 h) fun us s2 ⟨vs,H2,I3,r,q2⟩=>⟨I3.kIn,?_⟩) hst hpl
 exact jm F hr hb hd hx I3 r q2
end
end L2
end
section
namespace L2
open PySem PySem.W PySem.Spec PySem.Calls PyProof.Rows
open PySem.SeqAt (EqAt RcAt RcNeAt)
section
variable {X:Cx}
theorem mL (hu:X.A.units<cLine):OpR X (compareOp .Eq) (fun x y H Q=>∃ a b kvs,x=.ref a/\y=.ref b/\H a=some (.dK kvs)/\H b=some (.dK [])/\Q (.bl (decide (kvs=[]))) H):=by
 intro pins s σ H x y v u Q I rx ry h
 obtain ⟨a,b,kvs,rfl,rfl,ha,hb,q⟩:=h
 cases rx
 cases ry
 obtain ⟨_,n1,vs,r1,d1⟩:=gq I.hok ha
 obtain ⟨_,n2,vs2,r2,d2⟩:=gq I.hok hb
 cases r2
 refine keq_eq (r:=true) n1 n2 d1 d2 hu (fun hl=>?_) ⟨.bl _,H,I,?_,q⟩
 .obtain rfl:=List.length_eq_zero_iff.mp hl
  exact .nil
 .show Value.bool _=Value.bool _
  congr 1
  rw [Bool.eq_iff_iff,decide_eq_true_eq,Bool.and_true,beq_iff_eq]
  show vs.length=0↔_
  rw [<-r1.length]
  exact List.length_eq_zero_iff
theorem tV (hu:X.A.units<cLine):OpR X (compareOp .Eq) (fun x y H Q=>∃ b ys,y=.ref b/\SqT X.K H b ys/\eJ ys/\((x=.non/\Q (.bl false) H)∨∃ a xs,x=.ref a/\SqT X.K H a xs/\eJ xs/\Q (.bl (decide (xs=ys))) H)):=by
 intro pins s σ H x y v u Q I rx ry h
 obtain ⟨b,ys,rfl,hb,en,⟨rfl,q⟩ | ⟨a,xs,rfl,ha,en',q⟩⟩:=h
 .cases rx
  cases ry
  obtain ⟨its,r,ht,_⟩:=I.tuple hb
  exact RcAt.none_tuple ht hu X.prog X.w _ _ ⟨.bl false,H,I,rfl,q⟩
 .exact uU hu pins s σ H _ _ v u Q I rx ry ⟨a,b,xs,ys,rfl,rfl,ha,hb,en',en,q⟩
end
end L2
namespace TS
open PySem PyProof.Rows PySem.W
section
variable {prog:Program}{w:World}{A:Around}{E:Value->Shared->Prop}{s:Shared}
theorem pW {vs:List Value}{s:Shared}(hS:∀v∈vs,∃ x t,v=Value.str x t):Cmp prog w A s PyProof.Rows.strKind oneType' (pairsOf vs):=by
 have hm:∀p∈(pairsOf vs).toList,∃ x t,p.1=Value.str x t:=fun p hp=>by
  rw [pairsOf_toList] at hp
  exact hS _ (mem_zip_self hp).2
 refine ⟨fun x y hx hy E Q q=>?_⟩
 obtain ⟨a,ta,ea⟩:=hm x hx
 obtain ⟨b,tb,eb⟩:=hm y hy
 have eL:Lb PyProof.Rows.strKind x y=decide (a.cps.toList<b.cps.toList):=by unfold Lb kf;rw [ea,eb];rfl
 rw [eL] at q
 rw [ea,eb,keyLt'_oneType]
 exact oneLt_str q
theorem je {vs:List Value}(hS:∀v∈vs,∃ x t,v=Value.str x t)(h2:2<=vs.length):keyKind' vs.toArray=pure oneType':=by
 match vs,h2 with
 | v1::v2::r,_=>exact keyKind_strs (strsAre_map _ hS)
theorem sorted_dict {d:Addr}{kvs:List (L2.Key×Value)}{ep:Nat}{Q:Value->Shared->Prop}(hh:A.handled=none)(nsm:(d == sysModules)=false)(hm:s.heap.DictAt (L2.mixKind prog w) d kvs ep)(hn:kvs.length<=sizeLine)(hS:∀kv∈kvs,∃ x,kv.1=Sum.inr x)
  (h:∀(h1 h3:Heap) (tk:Nat) (vs:List Value) (st':SortSt),vs.length=kvs.length->(∀(i:Nat) v,vs[i]?=some v->∃ k x,kvs[i]?=some (k,x)/\L2.keyIs k v=true)->(arrOf st').Perm (pairsOf vs)->Up PyProof.Rows.strKind (arrOf st') 0 (pairsOf vs).size ->
   (∀b o,s.heap.get? b=some o->h1.get? b=some o)->(∀b o,h1.get? b=some o->h3.get? b=some o)->(∃ n,h3.get? h1.objs.size=some (seqObj "list" ((arrOf st').map (·.2)) n))->Q (.ref h1.objs.size) { s with heap:=h3,toks:=tk }) :
  wpAny (model prog w) A (call (.builtin "sorted") [.ref d]) Q E s:=by
 refine Calls.call_function_entry kind_sorted plain_sorted entry_sorted (args_sorted1 _) ?_
 unfold Builtin.«sorted»
 refine wpAny_bind (m:=checkCount "sorted" 1 1 _) (wpAny_pure ?_)
 refine wpAny_bind (kdu_collect (kdl_dict (kvs:=kvs) (ep:=ep) nsm) hh hm hn fun h1 tk acc hk hacc=>?_)
 have hlen:acc.toList.length=kvs.length:=by rw [Array.length_toList];exact hacc.1
 have hat:∀(i:Nat) v,acc.toList[i]?=some v->∃ k x,kvs[i]?=some (k,x)/\L2.keyIs k v=true:=fun i v e=>hacc.2 i v (by rw [<-Array.getElem?_toList];exact e)
 have hst:∀v∈acc.toList,∃ x t,v=Value.str x t:=fun v hv=>by
  obtain ⟨i,hi⟩:=List.getElem?_of_mem hv
  obtain ⟨k,x,ek,ik⟩:=hat i v hi
  obtain ⟨y,ey⟩:=hS _ (List.mem_of_getElem? ek)
  dsimp only at ey
  subst ey
  rcases L2.keyIs_shape ik with ⟨_,_,z,_⟩ | ⟨_,t,_,z⟩
  .cases z
  .exact ⟨_,t,z⟩
 refine wpAny_bind (wpAny_newList ?_)
 have hoL:(h1.push (seqObj "list" acc.toList.toArray 0)).get? h1.objs.size=some (seqObj "list" acc.toList.toArray 0):=Heap.get?_push_size _ rfl
 refine wpAny_bind (wpAny_holding (wpAny_call_entry slot_list_sort ⟨_,hoL,rfl⟩ entry_list_sort (qZ (s:={ s with heap:=h1.push (seqObj "list" acc.toList.toArray 0),toks:=tk }) (κ:=PyProof.Rows.strKind) (kd:=oneType') hoL (by lia) (fun h' k g Q q=>?_) (fun h' k g=>pW hst) fun st' a1 a2=>⟨_,rfl,?_⟩) (args_list_sort _)))
 .rw [je hst g]
  exact wpAny_pure q
 .refine wpAny_pure ⟨_,rfl,h h1 _ _ acc.toList st' hlen hat a1 a2 hk (fun b o e1=>?_) (sortedHeap_at hoL)⟩
  rw [sortedHeap_old (Nat.ne_of_lt (Heap.lt_size e1)) (by rw [size_push'];exact Nat.lt_succ_of_lt (Heap.lt_size e1))]
  exact Heap.get?_push_of_some _ e1
end
end TS
namespace L2
open PySem PySem.W PySem.Spec PySem.Calls PyProof.Rows
def slt (a b:Str):Bool:=decide (a.cps.toList<b.cps.toList)
def bZ:Value->Str
 | .str x _=>x
 | _=>default
section
variable {X:Cx}
theorem eT (hc:X.calm=true):bH X (.builtin "sorted") (fun zs H Q=>∃ (d:Addr) (kvs:List (Key×V)) (ks:List Str),zs=[.ref d]/\H d=some (.dK kvs)/\kvs.map (·.1)=ks.map Sum.inr /\
  ∀(l:Addr) (ys:List Str),H l=none->ys.Perm ks->ys.Pairwise (fun x y=>slt y x=false)->Q (.ref l) (upd H l (.lst (ys.map V.str)))):=by
 intro pins s σ H zs us Q I r h
 obtain ⟨d,kvs,ks,rfl,hd,hks,q⟩:=h
 obtain ⟨u,rfl,ru⟩:=cY r
 cases ru
 obtain ⟨hz,nsm,vs,rel,dd⟩:=gq I.hok hd
 obtain ⟨ep,da⟩:=dd.dictAt
 have ek:vs.map (·.1)=ks.map Sum.inr:=by rw [<-rel.keys];exact hks
 refine TS.sorted_dict (I.ok.hd hc) nsm da (by rw [<-rel.length];exact hz) (fun kv hkv=>?_) fun h1 h3 tk us st' hl hat pm up k1 k3 ⟨n,hn⟩=>?_
 .have:kv.1∈ks.map Sum.inr:=by rw [<-ek];exact List.mem_map.mpr ⟨kv,hkv,rfl⟩
  obtain ⟨x,_,e⟩:=List.mem_map.mp this
  exact ⟨x,e.symm⟩
 .have eus:us.map bZ=ks/\∀u∈us,∃ x t,u=Value.str x t:=by
   have lks:us.length=ks.length:=by have:=congrArg List.length ek;rw [List.length_map,List.length_map] at this;lia
   have at':∀(i:Nat) u,us[i]?=some u->∃ x t,u=Value.str x t/\ks[i]?=some x:=fun i u e=>by
    obtain ⟨k,x,e1,e2⟩:=hat i u e
    have e3:(vs.map (·.1))[i]?=some k:=by rw [List.getElem?_map,e1];rfl
    rw [ek,List.getElem?_map] at e3
    cases e4:ks[i]? with
    | none=>rw [e4] at e3;cases e3
    | some y =>
     rw [e4] at e3
     cases e3
     rcases keyIs_shape e2 with ⟨_,_,z,_⟩ | ⟨y',t,z,e5⟩
     .cases z
     .cases z
      exact ⟨_,t,e5,rfl⟩
   refine ⟨List.ext_getElem? fun i=>?_,fun u hu=>?_⟩
   .rw [List.getElem?_map]
    cases e:us[i]? with
    | none=>rw [Option.map_none,eq_comm,List.getElem?_eq_none_iff,<-lks];exact List.getElem?_eq_none_iff.mp e
    | some u =>
     obtain ⟨x,t,rfl,ex⟩:=at' i u e
     rw [ex];rfl
   .obtain ⟨i,hi⟩:=List.getElem?_of_mem hu
    obtain ⟨x,t,e,_⟩:=at' i u hi
    exact ⟨x,t,e⟩
  obtain ⟨eks,hst⟩:=eus
  have pm':(arrOf st').toList.Perm (us.zip us):=by rw [<-pairsOf_toList];exact Array.perm_iff_toList_perm.mp pm
  have mem:∀k∈(arrOf st').toList,k.1=k.2/\∃ x t,k.2=Value.str x t:=fun k hk=>by
   obtain ⟨e1,m⟩:=mem_zip_self (pm'.mem_iff.mp hk)
   exact ⟨e1,e1▸hst _ m⟩
  have vs':∀l:List Keyed,(∀k∈l,∃ x t,k.2=Value.str x t)->Vals ((l.map fun k=>bZ k.2).map V.str) (l.map (·.2)):=by
   intro l
   induction l with
   | nil=>intro _;exact .nil
   | cons k l ih =>
    intro f
    obtain ⟨x,t,ex⟩:=f k List.mem_cons_self
    refine .cons ⟨t,?_⟩ (ih fun k' hk'=>f k' (List.mem_cons_of_mem _ hk'))
    show k.2=Value.str (bZ k.2) t
    rw [ex];rfl
  have hsz:(arrOf st').toList.length=us.length:=by rw [pm'.length_eq,List.length_zip];lia
  have I1:Inv X pins σ H { s with heap:=h1,toks:=tk }:=I.kept k1
  have pk:((arrOf st').toList.map fun k=>bZ k.2).Perm ks:=by
   have e3:(us.zip us).map (fun k:Keyed=>bZ k.2)=ks:=by
    rw [<-eks]
    have aux:∀l:List Value,(l.zip l).map (fun k:Keyed=>bZ k.2)=l.map bZ:=by
     intro l
     induction l with
     | nil=>rfl
     | cons a l ih=>rw [List.zip_cons_cons,List.map_cons,List.map_cons,ih]
    exact aux us
   rw [<-e3]
   exact pm'.map _
  refine ⟨.ref h1.objs.size,upd H h1.objs.size (.lst (((arrOf st').toList.map fun k=>bZ k.2).map V.str)),I1.laid (t':=tk) k3 (Nat.le_refl _) ?_,rfl,q _ _ (I1.hok.fresh (Nat.le_refl _)) pk ?_⟩
  .refine ⟨by rw [List.length_map,List.length_map,hsz,hl,<-rel.length];exact hz,(arrOf st').toList.map (·.2),n,vs' _ fun k hk=>(mem k hk).2,?_⟩
   rw [hn,<-Array.toList_map]
  .have el:(arrOf st')=(arrOf st').toList.toArray:=by simp
   rw [el] at up
   have hs2:(pairsOf us).size=(arrOf st').toList.length:=by rw [pairsOf_size,hsz]
   have up2:=(TS.up_iff (by lia)).mp up
   rw [List.drop_zero,hs2,List.take_length] at up2
   refine List.pairwise_map.mpr (List.Pairwise.imp_of_mem (fun {k k'} hk hk' hle=>?_) up2)
   obtain ⟨e1,x,t,ex⟩:=mem k hk
   obtain ⟨e1',x',t',ex'⟩:=mem k' hk'
   have hle':TS.Lb PyProof.Rows.strKind k' k=false:=hle
   unfold TS.Lb TS.kf at hle'
   rw [e1,e1',ex,ex'] at hle'
   show slt (bZ k'.2) (bZ k.2)=false
   rw [ex,ex']
   exact hle'
end
end L2
namespace TS
open PySem PyProof.Rows PySem.W
section
variable {prog:Program}{w:World}{A:Around}{R:Result->Shared->Prop}{I:Addr}{fp wr:List Addr}{n:Nat}{P:Nat->Value->Prop}{St:Nat->Heap->Prop}{Gd:Heap->Prop}{bt:Nat->Nat->Bool}{S:Addr}
end
end TS
namespace L2
open PySem PySem.W PySem.Spec PySem.Calls PyProof.Rows
section
variable {X:Cx}
end
section
variable {X:Cx}{e o i a b:Expr}{te to ti ta tb:TE}{pos pos':Pos}{f:Str}
theorem a6 (he:QE X e te)(hb:attributeBase e f X.env (eval e X.env)=eval e X.env):QE X (.Attribute e f pos) (wZ X.K te f):=.mk (v4 he.to hb)
theorem b8 {value:Expr}{tv:TE}(ha:QE X o to)(hv:QE X value tv)(hs:swapsWith value (some (.Attribute o f pos')) pos.line X.env=pure false):QS X (.Assign [.Attribute o f pos'] value pos) (yf X.K to tv f):=.mk (xf ha.to hv.to hs)
theorem cS:QE X (.Dict [] [] pos) sF:=.mk qp
theorem aP (hu:X.A.units+1<cLine)(ho:QE X o to)(hi:QE X i ti)(hs:v9 i):QE X (.Subscript o i pos) (vA to ti):=.mk (uL hu ho.to hi.to hs)
theorem sv (hu:X.A.units+1<cLine)(hi:QE X i ti)(ho:QE X o to)(h1:behindInMarks .In o=false:=by rfl):QE X (.Compare i [.In] [o] pos) (wV ti to):=.mk (wB (qL hu hi.to ho.to) h1)
theorem qc (hu:X.A.units+1<cLine)(hi:QE X i ti)(ho:QE X o to)(h1:behindInMarks .In o=false:=by rfl):QT X (.Compare i [.In] [o] pos) (tB (wV ti to)):=.mk (qM (qL hu hi.to ho.to) h1)
theorem i4 (hu:X.A.units+1<cLine)(hi:QE X i ti)(ho:QE X o to)(h1:behindInMarks .NotIn o=false:=by rfl):QT X (.Compare i [.NotIn] [o] pos) (tB (nF ti to)):=.mk (qM (pI hu hi.to ho.to) h1)
theorem eK {value:Expr}{tv:TE}(hu:X.A.units+1<cLine)(ho:QE X o to)(hi:QE X i ti)(hv:QE X value tv)(hs:swapsWith value (some (.Subscript o i pos')) pos.line X.env=pure false):QS X (.Assign [.Subscript o i pos'] value pos) (u7 to ti tv):=.mk (sP hu ho.to hi.to hv.to hs)
theorem jK {apos cpos:Pos}(hu:X.A.units+1<cLine)(ho:QE X o to)(he:QE X e te)(m:M1 X o "get" apos e cpos):QE X (.Call (.Attribute o "get" apos) [e] [] cpos) (pT to te):=.mk (qy hu ho.to he.to m)
theorem eV {apos cpos:Pos}(ho:QE X o to)(he:QE X e te)(m:M1 X o "pop" apos e cpos):QE X (.Call (.Attribute o "pop" apos) [e] [] cpos) (pM to te):=.mk (su ho.to he.to m)
theorem j8 {c:Str}{j:Nat}{fpos cpos:Pos}(h:QE X e te)(hc:c.length<=1000):QE X (.JoinedStr [.FormattedValue e (-1) none fpos,.Constant (.str c) j cpos] pos) (vz te):=.mk (qD h.to hc)
theorem uZ (h:QE X e te):QE X e (vH X.H₀ te):=.mk (uk h.to)
theorem tH {tg:Expr}(h:QE X e te):QI X tg e (vy te):=.mk (tO h.to)
theorem rh {rest:List Expr}(ha:QE X a ta)(hb:QE X (.BoolOp .And (b::rest) pos) tb):QE X (.BoolOp .And (a::b::rest) pos) (vM ta tb):=.mk (wJ ha.to hb.to)
theorem qQ {op}(h:QE X a ta):QE X (.BoolOp op [a] pos) ta:=.mk (v6 h.to)
section
variable {CX:CXT}{k:Nat}{g C:Addr}{mc:Value}{fd:FuncData}{ps:List Str}{sp:Sp}{dvs:List V}{ds:List Value}{E:XK}{m x:Str}{p apos:Pos}{es:List Expr}{t:TA}{pl:Sem Bool}
theorem bo (ho:QE X o to)(c:Cls X.K C)(hm:aZ X.K C m g)(F:aw X.prog X.w X.K X.mg X.base CX k g fd ps sp)(hr:Room k X.A)(hb:Binds X.K fd ps ds)(hd:Vals dvs ds)(hx:bB CX X E)(ha:QA X (e::es) t)
  (hst:starEach (e::es) X.env=(false,eval e X.env)::starEach es X.env:=by rfl) (hpl:(backTo pos (starEach es X.env)).any (·.1)=false:=by rfl)
  (ht:eval (.Call (.Attribute o m apos) (e::es) [] pos) X.env=(do
   let ov <-eval o X.env
   standAt apos.atName
   let (f,first) <-holding [ov] (getMethod ov m pl)
   callWith pos f first (backTo pos (starEach (e::es) X.env)) (backToKw pos (keywordEach [] X.env))):=by rfl) :
  QE X (.Call (.Attribute o m apos) (e::es) [] pos) (nH C m sp dvs E to t):=.mk (uy ho.to c hm F hr hb hd hx ha.to hst hpl ht)
theorem aR (ho:QE X o to)(c:Cls X.K C)(hm:aZ X.K C m g)(F:aw X.prog X.w X.K X.mg X.base CX k g fd ps sp)(hr:Room k X.A)(hb:Binds X.K fd ps ds)(hd:Vals dvs ds)(hx:bB CX X E)
  (ht:eval (.Call (.Attribute o m apos) [] [] pos) X.env=(do
   let ov <-eval o X.env
   standAt apos.atName
   let (f,first) <-holding [ov] (getMethod ov m pl)
   callWith pos f first (backTo pos (starEach [] X.env)) (backToKw pos (keywordEach [] X.env))):=by rfl) :
  QE X (.Call (.Attribute o m apos) [] [] pos) (nH C m sp dvs E to mo):=.mk (qB ho.to c hm F hr hb hd hx ht)
theorem nA (M:Mk X.K C g)(F:aw X.prog X.w X.K X.mg X.base CX k g fd ps sp)(hr:Room (k+1) X.A)(hg:Gl X x)(hm:X.mg x=some (.ref C))(hb:Binds X.K fd ps ds)(hd:Vals dvs ds)(hx:bB CX X E)
  (ha:QA X (e::es) t) (hdb:(x == ("__debug__":Str))=false:=by decide) (he:starEach (e::es) X.env=(false,eval e X.env)::starEach es X.env:=by rfl) (hpl:(backTo pos (starEach es X.env)).any (·.1)=false:=by rfl) :
  QE X (.Call (.Name x p) (e::es) [] pos) (vK C sp dvs E t):=.mk (uN M F hr hg hm hb hd hx ha.to hdb he hpl)
theorem tS (ho:QE X o (tC (.ref C)))(M:uR X.K C mc m g)(F:aw X.prog X.w X.K X.mg X.base CX k g fd ps sp)(hr:Room k X.A)(hb:Binds X.K fd ps ds)(hd:Vals dvs ds)(hx:bB CX X E)(ha:QA X (e::es) t)
  (hst:starEach (e::es) X.env=(false,eval e X.env)::starEach es X.env:=by rfl) (hpl:(backTo pos (starEach es X.env)).any (·.1)=false:=by rfl)
  (ht:eval (.Call (.Attribute o m apos) (e::es) [] pos) X.env=(do
   let ov <-eval o X.env
   standAt apos.atName
   let (f,first) <-holding [ov] (getMethod ov m pl)
   callWith pos f first (backTo pos (starEach (e::es) X.env)) (backToKw pos (keywordEach [] X.env))):=by rfl) :
  QE X (.Call (.Attribute o m apos) (e::es) [] pos) (nT sp dvs E t):=.mk (tP ho.to M F hr hb hd hx ha.to hst hpl ht)
end
end
end L2
namespace L2
open PySem PySem.W PySem.Spec PySem.Calls PyProof.Rows
theorem ur {X:Cx}{K:Frag}{e:Expr}{te:TE}{pos:Pos}{f:Str}(h:X.K=K)(he:QE X e te)(hb:attributeBase e f X.env (eval e X.env)=eval e X.env):QE X (.Attribute e f pos) (wZ K te f):=by subst h;exact a6 he hb
theorem tK {X:Cx}{K:Frag}(h:X.K=K):IxR X (xH K):=by subst h;exact aQ
end L2
end
section
namespace Hg
section
variable {α:Type}[Inhabited α]
abbrev g (xs:List α)(i:Nat):α:=xs.getD i default
def sw (xs:List α)(i j:Nat):List α:=(xs.set i (g xs j)).set j (g xs i)
structure Od (lt:α->α->Bool):Prop where
 as:∀a b,lt a b=true->lt b a=false
 nt:∀a b c,lt a b=false->lt b c=false->lt a c=false
theorem Od.irr {lt:α->α->Bool}(o:Od lt)(a:α):lt a a=false:=by
 cases e:lt a a with
 | false=>rfl
 | true=>have:=o.as a a e;rw [e] at this;exact this
theorem vp {xs:List α}{i k:Nat}{v:α}:g (xs.set i v) k=if i=k/\k<xs.length then v else g xs k:=by
 simp only [g,List.getD_eq_getElem?_getD,List.getElem?_set]
 by_cases h:i=k
 .subst h
  by_cases h2:i<xs.length
  .simp [h2]
  .simp [h2,List.getElem?_eq_none (Nat.le_of_not_lt h2)]
 .simp [h]
theorem aW {xs:List α}{i j:Nat}:(sw xs i j).length=xs.length:=by simp [sw]
theorem kj {xs:List α}{i j k:Nat}(hi:i<xs.length)(hj:j<xs.length):g (sw xs i j) k=if k=j then g xs i else if k=i then g xs j else g xs k:=by
 unfold sw
 rw [vp,vp,List.length_set]
 by_cases h1:k=j
 .subst h1;simp [hj]
 .rw [if_neg (by intro z;exact h1 z.1.symm),if_neg h1]
  by_cases h2:k=i
  .subst h2;simp [hi]
  .rw [if_neg (by intro z;exact h2 z.1.symm),if_neg h2]
theorem g_get {xs:List α}{i:Nat}(h:i<xs.length):g xs i=xs[i]:=by simp [g,List.getD_eq_getElem?_getD,h]
theorem dv {xs:List α}{i j:Nat}(hi:i<xs.length)(hj:j<xs.length):(sw xs i j).Perm xs:=by
 unfold sw
 rw [g_get hi,g_get hj]
 exact List.set_set_perm hi hj
def les (lt:α->α->Bool)(xs:List α)(p:Nat):Nat:=if 2*p+2<xs.length/\lt (g xs (2*p+2)) (g xs (2*p+1))=true then 2*p+2 else 2*p+1
def kids (n p:Nat):Nat:=if 2*p+2<n then 2 else if 2*p+1<n then 1 else 0
def dn (lt:α->α->Bool):Nat->List α->Nat->Nat->List α×Nat
 | 0,xs,_,lk=>(xs,lk)
 | f+1,xs,p,lk=>if 2*p+1<xs.length then
   if lt (g xs (les lt xs p)) (g xs p)=true then dn lt f (sw xs p (les lt xs p)) (les lt xs p) (lk+kids xs.length p) else (xs,lk+kids xs.length p)
  else (xs,lk)
def up (lt:α->α->Bool):Nat->List α->Nat->Nat->List α×Nat
 | 0,xs,_,lk=>(xs,lk)
 | f+1,xs,p,lk=>if 0<p then
   if lt (g xs p) (g xs ((p-1) / 2))=true then up lt f (sw xs p ((p-1) / 2)) ((p-1) / 2) (lk+1) else (xs,lk+1)
  else (xs,lk)
theorem dP {lt:α->α->Bool}{xs:List α}{p:Nat}:2*p+1<=les lt xs p:=by unfold les;split <;> lia
theorem we {lt:α->α->Bool}{xs:List α}{p:Nat}:les lt xs p<=2*p+2:=by unfold les;split <;> lia
theorem cJ {lt:α->α->Bool}{xs:List α}{p:Nat}(h:2*p+1<xs.length):les lt xs p<xs.length:=by unfold les;split <;> lia
theorem tQ {lt:α->α->Bool}(o:Od lt){xs:List α}{p k:Nat}(hk:k<xs.length)(hp:k=2*p+1∨k=2*p+2):lt (g xs k) (g xs (les lt xs p))=false:=by
 unfold les
 split
 .rename_i h
  rcases hp with rfl | rfl
  .exact o.as _ _ h.2
  .exact o.irr _
 .rename_i h
  rcases hp with rfl | rfl
  .exact o.irr _
  .cases e:lt (g xs (2*p+2)) (g xs (2*p+1)) with
   | false=>rfl
   | true=>exact absurd ⟨hk,e⟩ h
theorem dn_len {lt:α->α->Bool}:∀{f:Nat} {xs:List α} {p lk:Nat},(dn lt f xs p lk).1.length=xs.length
 | 0,xs,p,lk=>rfl
 | f+1,xs,p,lk=>by
  unfold dn
  split
  .split
   .rw [dn_len,aW]
   .rfl
  .rfl
theorem dn_perm {lt:α->α->Bool}:∀{f:Nat} {xs:List α} {p lk:Nat},(dn lt f xs p lk).1.Perm xs
 | 0,xs,p,lk=>.refl _
 | f+1,xs,p,lk=>by
  unfold dn
  split
  .rename_i h
   split
   .exact dn_perm.trans (dv (by lia) (cJ h))
   .exact .refl _
  .exact .refl _
theorem dk {lt:α->α->Bool}:∀{f:Nat} {xs:List α} {p lk:Nat},p<xs.length->(up lt f xs p lk).1.Perm xs
 | 0,xs,p,lk,_=>.refl _
 | f+1,xs,p,lk,hp=>by
  unfold up
  split
  .split
   .exact (dk (by rw [aW];lia)).trans (dv (by lia) (by lia))
   .exact .refl _
  .exact .refl _
def HF (lt:α->α->Bool)(q:Nat)(xs:List α):Prop:=∀k,0<k->k<xs.length->q<=(k-1) / 2->lt (g xs k) (g xs ((k-1) / 2))=false
def IsH (lt:α->α->Bool)(xs:List α):Prop:=∀k,0<k->k<xs.length->lt (g xs k) (g xs ((k-1) / 2))=false
theorem HF.zero {lt:α->α->Bool}{xs:List α}(h:HF lt 0 xs):IsH lt xs:=fun k a b=>h k a b (Nat.zero_le _)
theorem jD {lt:α->α->Bool}(o:Od lt){q:Nat}:∀{f:Nat} {xs:List α} {p lk:Nat},xs.length<=p+f->q<=p ->
  (∀k,0<k->k<xs.length->q<=(k-1) / 2->(k-1) / 2≠p->lt (g xs k) (g xs ((k-1) / 2))=false) ->
  (p=q∨(0<p/\q<=(p-1) / 2/\∀k,0<k->k<xs.length->(k-1) / 2=p->lt (g xs k) (g xs ((p-1) / 2))=false))->HF lt q (dn lt f xs p lk).1
 | 0,xs,p,lk,hf,hq,h1,h2=>by
  intro k k0 k1 k2
  exact h1 k k0 k1 k2 (by have:k<xs.length:=k1;lia)
 | f+1,xs,p,lk,hf,hq,h1,h2=>by
  unfold dn
  split
  .rename_i hc
   have b1:=dP (lt:=lt) (xs:=xs) (p:=p)
   have b2:=we (lt:=lt) (xs:=xs) (p:=p)
   have b3:=cJ (lt:=lt) hc
   have bm:=fun k hk hp=>tQ o (xs:=xs) (p:=p) (k:=k) hk hp
   split
   .rename_i hl
    generalize les lt xs p=b at *
    have hpl:p<xs.length:=by lia
    refine jD o (by rw [aW];lia) (by lia) (fun k k0 k1 k2 k3=>?_) (.inr ⟨by lia,by lia,fun k k0 k1 k2=>?_⟩)
    .rw [aW] at k1
     rw [kj hpl b3,kj hpl b3]
     by_cases e1:k=b
     .subst e1
      have e2:(k-1) / 2=p:=by lia
      rw [if_pos rfl,e2,if_neg (by lia),if_pos rfl]
      exact o.as _ _ hl
     .rw [if_neg e1,if_neg (by lia:¬ (k-1) / 2=b)]
      by_cases e2:(k-1) / 2=p
      .rw [if_neg (by lia),if_pos e2]
       exact bm k k1 (by lia)
      .rw [if_neg e2]
       by_cases e3:k=p
       .subst e3
        rw [if_pos rfl]
        rcases h2 with h2 | ⟨_,_,h2⟩
        .lia
        .exact h2 b (by lia) b3 (by lia)
       .rw [if_neg e3]
        exact h1 k k0 k1 k2 e2
    .rw [aW] at k1
     have e1:(b-1) / 2=p:=by lia
     rw [e1,kj hpl b3,kj hpl b3,if_neg (by lia),if_neg (by lia),if_neg (by lia),if_pos rfl]
     have:=h1 k k0 k1 (by lia) (by lia)
     rwa [k2] at this
   .rename_i hl
    intro k k0 k1 k2
    by_cases e2:(k-1) / 2=p
    .rw [e2]
     have hl':lt (g xs (les lt xs p)) (g xs p)=false:=by simpa using hl
     exact o.nt _ _ _ (bm k k1 (by lia)) hl'
    .exact h1 k k0 k1 k2 e2
  .intro k k0 k1 k2
   exact h1 k k0 k1 k2 (by have:k<xs.length:=k1;lia)
theorem nU {lt:α->α->Bool}(o:Od lt):∀{f:Nat} {xs:List α} {p lk:Nat},p<=f->p<xs.length ->
  (∀k,0<k->k<xs.length->k≠p->lt (g xs k) (g xs ((k-1) / 2))=false) ->
  (∀k,0<k->k<xs.length->(k-1) / 2=p->0<p->lt (g xs k) (g xs ((p-1) / 2))=false)->IsH lt (up lt f xs p lk).1
 | 0,xs,p,lk,hf,hp,h1,h2=>fun k k0 k1=>h1 k k0 k1 (by lia)
 | f+1,xs,p,lk,hf,hp,h1,h2=>by
  unfold up
  split
  .rename_i hc
   split
   .rename_i hl
    generalize ha:(p-1) / 2=a at *
    have hal:a<xs.length:=by lia
    refine nU o (by lia) (by rw [aW];lia) (fun k k0 k1 k2=>?_) (fun k k0 k1 k2 k3=>?_)
    .rw [aW] at k1
     rw [kj hp hal,kj hp hal,if_neg k2]
     by_cases e1:k=p
     .subst e1
      rw [if_pos rfl,ha,if_pos rfl]
      exact o.as _ _ hl
     .rw [if_neg e1]
      by_cases e2:(k-1) / 2=a
      .rw [if_pos e2]
       have q1:=h1 k k0 k1 e1
       rw [e2] at q1
       exact o.nt _ _ _ q1 (o.as _ _ hl)
      .rw [if_neg e2]
       by_cases e3:(k-1) / 2=p
       .rw [if_pos e3]
        exact h2 k k0 k1 e3 hc
       .rw [if_neg e3]
        exact h1 k k0 k1 e1
    .rw [aW] at k1
     rw [kj hp hal,kj hp hal,if_neg (by lia),if_neg (by lia:¬ (a-1) / 2=a),if_neg (by lia:¬ (a-1) / 2=p)]
     have qa:=h1 a (by lia) hal (by lia)
     by_cases e1:k=p
     .rw [if_pos e1];exact qa
     .rw [if_neg e1]
      have q1:=h1 k k0 k1 e1
      rw [k2] at q1
      exact o.nt _ _ _ q1 qa
   .rename_i hl
    intro k k0 k1
    by_cases e1:k=p
    .subst e1;simpa using hl
    .exact h1 k k0 k1 e1
  .intro k k0 k1
   exact h1 k k0 k1 (by lia)
def mk (lt:α->α->Bool):Nat->List α->Nat->List α×Nat
 | 0,xs,lk=>(xs,lk)
 | k+1,xs,lk=>mk lt k (dn lt xs.length xs k 0).1 (lk+(dn lt xs.length xs k 0).2)
theorem mk_perm {lt:α->α->Bool}:∀{k:Nat} {xs:List α} {lk:Nat},(mk lt k xs lk).1.Perm xs
 | 0,_,_=>.refl _
 | k+1,xs,lk=>by unfold mk;exact mk_perm.trans dn_perm
theorem oa {lt:α->α->Bool}(o:Od lt):∀{k:Nat} {xs:List α} {lk:Nat},HF lt k xs->IsH lt (mk lt k xs lk).1
 | 0,_,_,h=>h.zero
 | k+1,xs,lk,h=>by
  unfold mk
  refine oa o (jD o (by lia) (Nat.le_refl _) (fun j j0 j1 j2 j3=>h j j0 j1 (by lia)) (.inl rfl))
theorem u5 {lt:α->α->Bool}{xs:List α}:HF lt (xs.length / 2) xs:=fun k k0 k1 k2=>by lia
variable {lt:α->α->Bool}{xs:List α}{f p lk:Nat}
def lgs (n:Nat):Nat->Nat
 | 0=>0
 | k+1=>lgs n k+(n / (k+1)).log2
def cutf (lt:α->α->Bool)(xs:List α):List α×Nat :=
 if xs.dropLast=[] then ([],0) else dn lt xs.dropLast.length (xs.dropLast.set 0 (g xs (xs.length-1))) 0 0
theorem cv {xs:List α}(h:2<=xs.length):∃ mid,xs=g xs 0::mid++[g xs (xs.length-1)]/\xs.dropLast=g xs 0::mid:=by
 cases xs with
 | nil=>simp at h
 | cons a l =>
  have hl:l≠[]:=by intro e;rw [e] at h;simp at h
  refine ⟨l.dropLast,?_,?_⟩
  .show a::l=a::l.dropLast++[g (a::l) l.length]
   have:g (a::l) l.length=l.getLast hl:=by
    rw [g_get (by simp)]
    rw [List.getLast_eq_getElem]
    rw [List.getElem_cons]
    have:l.length≠0:=by intro e;exact hl (List.length_eq_zero_iff.mp e)
    simp [this]
   rw [this,List.cons_append,List.dropLast_concat_getLast]
  .show (a::l).dropLast=a::l.dropLast
   exact List.dropLast_cons_of_ne_nil hl
theorem cr {lt:α->α->Bool}{xs:List α}(h:xs.length=1):cutf lt xs=([],0):=by
 unfold cutf
 rw [if_pos]
 rw [<-List.length_eq_zero_iff,List.length_dropLast,h]
theorem eh {lt:α->α->Bool}{xs mid:List α}(e:xs.dropLast=g xs 0::mid):cutf lt xs=dn lt (mid.length+1) (g xs (xs.length-1)::mid) 0 0:=by
 unfold cutf
 rw [if_neg (by rw [e];simp),e]
 rfl
theorem cutf_len {lt:α->α->Bool}{xs:List α}:(cutf lt xs).1.length=xs.length-1:=by
 unfold cutf
 split
 .rename_i h
  have:=congrArg List.length h
  rw [List.length_dropLast] at this
  exact this.symm
 .rw [dn_len,List.length_set,List.length_dropLast]
theorem cq {lt:α->α->Bool}{xs:List α}(h:0<xs.length):(g xs 0::(cutf lt xs).1).Perm xs:=by
 by_cases h2:2<=xs.length
 .obtain ⟨mid,e,e2⟩:=cv h2
  rw [eh e2]
  refine (List.Perm.cons _ dn_perm).trans ?_
  conv=>rhs;rw [e]
  rw [List.cons_append]
  refine List.Perm.cons _ ?_
  exact (List.perm_append_comm (l₁:=[g xs (xs.length-1)]) (l₂:=mid))
 .rw [cr (by lia)]
  cases xs with
  | nil=>simp at h
  | cons a l =>
   have:l=[]:=List.length_eq_zero_iff.mp (by rw [List.length_cons] at h2;lia)
   subst this
   exact .refl _
theorem iJ {lt:α->α->Bool}(o:Od lt){xs:List α}(h:IsH lt xs)(hl:0<xs.length):IsH lt (cutf lt xs).1:=by
 by_cases h2:2<=xs.length
 .obtain ⟨mid,e,e2⟩:=cv h2
  rw [eh e2]
  have len:xs.length=mid.length+2:=by
   have:=congrArg List.length e2
   rw [List.length_dropLast,List.length_cons] at this
   lia
  have gm:∀k,k<mid.length->g (g xs (xs.length-1)::mid) (k+1)=g xs (k+1):=fun k hk=>by
   have e3:(g xs 0::mid++[g xs (xs.length-1)])[k+1]?=some mid[k]:=by
    rw [List.cons_append,List.getElem?_cons_succ,List.getElem?_append_left hk,List.getElem?_eq_getElem hk]
   rw [<-e] at e3
   show (g xs (xs.length-1)::mid).getD (k+1) default=xs.getD (k+1) default
   rw [List.getD_eq_getElem?_getD,List.getD_eq_getElem?_getD,e3,List.getElem?_cons_succ,List.getElem?_eq_getElem hk]
  refine HF.zero (jD o (by rw [List.length_cons];lia) (Nat.le_refl _) (fun k k0 k1 _ k3=>?_) (.inl rfl))
  rw [List.length_cons] at k1
  obtain ⟨k',rfl⟩:∃ k',k=k'+1:=⟨k-1,by lia⟩
  obtain ⟨j,hj⟩:∃ j,(k'+1-1) / 2=j+1:=⟨(k'+1-1) / 2-1,by lia⟩
  rw [hj,gm k' (by lia),gm j (by lia)]
  have:=h (k'+1) (by lia) (by lia)
  rwa [hj] at this
 .rw [cr (by lia)]
  intro k k0 k1
  exact absurd k1 (by simp)
end
end Hg
end
section
namespace Gm
open Hg
structure En (N:Type) where
 w:Int
 n:N
 s:Int
 deriving DecidableEq
instance {N:Type} [Inhabited N]:Inhabited (En N):=⟨⟨0,default,0⟩⟩
structure Slo {N:Type}(sl:N->N->Bool):Prop where
 irr:∀a,sl a a=false
 tr:∀a b c,sl a b=true->sl b c=true->sl a c=true
 tot:∀a b,a≠b->sl a b=true∨sl b a=true
section
variable {N:Type}[DecidableEq N][Inhabited N](sl:N->N->Bool)
def ltE (a b:En N):Bool:=if a.w=b.w then if a.n=b.n then decide (a.s<b.s) else sl a.n b.n else decide (a.w<b.w)
variable {sl}
theorem Slo.as (o:Slo sl){a b:N}(h:sl a b=true):sl b a=false:=by
 cases e:sl b a with
 | false=>rfl
 | true=>have:=o.tr a b a h e;rw [o.irr] at this;cases this
theorem Slo.nt (o:Slo sl){a b c:N}(h:sl a b=false)(h':sl b c=false):sl a c=false:=by
 cases e:sl a c with
 | false=>rfl
 | true =>
  by_cases hab:a=b
  .subst hab;rw [h'] at e;cases e
  .by_cases hbc:b=c
   .subst hbc;rw [h] at e;cases e
   .have h1:=(o.tot a b hab).resolve_left (by rw [h];exact Bool.false_ne_true)
    have h2:=(o.tot b c hbc).resolve_left (by rw [h'];exact Bool.false_ne_true)
    have:=o.tr c b a h2 h1
    have:=o.as this
    rw [this] at e;cases e
theorem mI {a b:En N}:ltE sl a b=true↔a.w<b.w∨(a.w=b.w/\((a.n≠b.n/\sl a.n b.n=true)∨(a.n=b.n/\a.s<b.s))):=by
 unfold ltE
 by_cases h:a.w=b.w
 .rw [if_pos h]
  by_cases h2:a.n=b.n
  .rw [if_pos h2,decide_eq_true_eq]
   constructor
   .intro z;exact .inr ⟨h,.inr ⟨h2,z⟩⟩
   .rintro (z | ⟨_,⟨z,_⟩ | ⟨_,z⟩⟩)
    .lia
    .exact absurd h2 z
    .exact z
  .rw [if_neg h2]
   constructor
   .intro z;exact .inr ⟨h,.inl ⟨h2,z⟩⟩
   .rintro (z | ⟨_,⟨_,z⟩ | ⟨z,_⟩⟩)
    .lia
    .exact z
    .exact absurd z h2
 .rw [if_neg h,decide_eq_true_eq]
  constructor
  .intro z;exact .inl z
  .rintro (z | ⟨z,_⟩)
   .exact z
   .exact absurd z h
theorem jq (o:Slo sl):Od (ltE sl) where
 as:=fun a b h=>by
  cases e:ltE sl b a with
  | false=>rfl
  | true =>
   rw [mI] at h e
   rcases h with h | ⟨h1,⟨h2,h3⟩ | ⟨h2,h3⟩⟩ <;> rcases e with e | ⟨e1,⟨e2,e3⟩ | ⟨e2,e3⟩⟩ <;> try omega
   .rw [o.as h3] at e3;cases e3
   .exact absurd e2.symm h2
   .exact absurd h2.symm e2
 nt:=fun a b c h h'=>by
  cases e:ltE sl a c with
  | false=>rfl
  | true =>
   have h1:¬ ltE sl a b=true:=by rw [h];exact Bool.false_ne_true
   have h2:¬ ltE sl b c=true:=by rw [h'];exact Bool.false_ne_true
   rw [mI] at h1 h2 e
   exfalso
   have w1:b.w<=a.w:=by
    rcases Int.lt_or_le a.w b.w with z | z
    .exact absurd (.inl z) h1
    .exact z
   have w2:c.w<=b.w:=by
    rcases Int.lt_or_le b.w c.w with z | z
    .exact absurd (.inl z) h2
    .exact z
   rcases e with e | ⟨e1,e2⟩
   .lia
   .have wab:a.w=b.w:=by lia
    have wbc:b.w=c.w:=by lia
    have n1:sl a.n b.n=false:=by
     cases z:sl a.n b.n with
     | false=>rfl
     | true =>
      by_cases q:a.n=b.n
      .rw [q,o.irr] at z;cases z
      .exact absurd (.inr ⟨wab,.inl ⟨q,z⟩⟩) h1
    have n2:sl b.n c.n=false:=by
     cases z:sl b.n c.n with
     | false=>rfl
     | true =>
      by_cases q:b.n=c.n
      .rw [q,o.irr] at z;cases z
      .exact absurd (.inr ⟨wbc,.inl ⟨q,z⟩⟩) h2
    have n3:=o.nt n1 n2
    rcases e2 with ⟨_,z⟩ | ⟨z1,z2⟩
    .rw [n3] at z;cases z
    .have:a.n=b.n:=by
      by_cases q:a.n=b.n
      .exact q
      .have q1:=(o.tot _ _ q).resolve_left (by rw [n1];exact Bool.false_ne_true)
       rw [<-z1] at n2
       rw [n2] at q1;cases q1
     have e4:b.n=c.n:=this.symm.trans z1
     have s1:¬ a.s<b.s:=fun z=>h1 (.inr ⟨wab,.inr ⟨this,z⟩⟩)
     have s2:¬ b.s<c.s:=fun z=>h2 (.inr ⟨wbc,.inr ⟨e4,z⟩⟩)
     lia
end
section
variable {N β γ:Type}[DecidableEq N]
def dget (L:List (N×β))(n:N):Option β:=(L.find? fun p=>decide (p.1=n)).map (·.2)
def dput (L:List (N×β))(n:N)(b:β):List (N×β):=if L.any (fun p=>decide (p.1=n)) then L.map (fun p=>if p.1=n then (p.1,b) else p) else L++[(n,b)]
def ddel (L:List (N×β))(n:N):List (N×β):=L.filter fun p=>decide (p.1≠n)
theorem dget_some {L:List (N×β)}{n:N}{b:β}(h:dget L n=some b):(n,b)∈L:=by
 unfold dget at h
 obtain ⟨p,hp,rfl⟩:=Option.map_eq_some_iff.mp h
 have h1:=List.mem_of_find?_eq_some hp
 have h2:=List.find?_some hp
 simp at h2
 subst h2
 exact h1
theorem dget_of {L:List (N×β)}(nd:(L.map (·.1)).Nodup){n:N}{b:β}(h:(n,b)∈L):dget L n=some b:=by
 induction L with
 | nil=>cases h
 | cons p r ih =>
  rw [List.map_cons,List.nodup_cons] at nd
  unfold dget
  rw [List.find?_cons]
  by_cases e:p.1=n
  .rw [decide_eq_true e]
   rcases List.mem_cons.mp h with rfl | h
   .rfl
   .exact absurd (List.mem_map.mpr ⟨_,h,e.symm⟩) nd.1
  .rw [decide_eq_false e]
   rcases List.mem_cons.mp h with rfl | h
   .exact absurd rfl e
   .exact ih nd.2 h
theorem dget_none {L:List (N×β)}{n:N}:dget L n=none↔n∉L.map (·.1):=by
 unfold dget
 rw [Option.map_eq_none_iff,List.find?_eq_none]
 constructor
 .intro h z
  obtain ⟨p,hp,e⟩:=List.mem_map.mp z
  have:=h p hp
  simp [e] at this
 .intro h p hp
  simp
  intro e
  exact h (List.mem_map.mpr ⟨p,hp,e⟩)
theorem dput_keys {L:List (N×β)}{n:N}{b:β}:(dput L n b).map (·.1)=if n∈L.map (·.1) then L.map (·.1) else L.map (·.1)++[n]:=by
 unfold dput
 by_cases h:L.any (fun p=>decide (p.1=n))=true
 .rw [if_pos h]
  have:n∈L.map (·.1):=by
   obtain ⟨p,hp,e⟩:=List.any_eq_true.mp h
   exact List.mem_map.mpr ⟨p,hp,of_decide_eq_true e⟩
  rw [if_pos this,List.map_map]
  apply List.map_congr_left
  intro p _
  show (if p.1=n then (p.1,b) else p).1=p.1
  split <;> rfl
 .rw [if_neg h]
  have:¬ n∈L.map (·.1):=fun z=>h (by
   obtain ⟨p,hp,e⟩:=List.mem_map.mp z
   exact List.any_eq_true.mpr ⟨p,hp,decide_eq_true e⟩)
  rw [if_neg this,List.map_append]
  rfl
theorem cL {L:List (N×β)}{n:N}{b:β}(nd:(L.map (·.1)).Nodup):((dput L n b).map (·.1)).Nodup:=by
 rw [dput_keys]
 split
 .exact nd
 .rename_i h
  rw [List.nodup_append]
  refine ⟨nd,List.nodup_cons.mpr ⟨List.not_mem_nil,List.nodup_nil⟩,?_⟩
  intro a ha c hc
  rw [List.mem_singleton] at hc
  subst hc
  intro z;subst z;exact h ha
theorem dput_mem {L:List (N×β)}{n m:N}{b c:β}(h:(m,c)∈dput L n b):(m=n/\c=b)∨(m≠n/\(m,c)∈L):=by
 unfold dput at h
 split at h
 .obtain ⟨p,hp,e⟩:=List.mem_map.mp h
  split at e
  .rename_i q
   cases e
   exact .inl ⟨q,rfl⟩
  .rename_i q
   subst e
   exact .inr ⟨q,hp⟩
 .rename_i hn
  rcases List.mem_append.mp h with h | h
  .refine .inr ⟨fun z=>hn (List.any_eq_true.mpr ⟨_,h,decide_eq_true z⟩),h⟩
  .rw [List.mem_singleton] at h
   cases h
   exact .inl ⟨rfl,rfl⟩
theorem n6 {L:List (N×β)}{n m:N}{b c:β}(h:(m,c)∈L)(hm:m≠n):(m,c)∈dput L n b:=by
 unfold dput
 split
 .exact List.mem_map.mpr ⟨_,h,by rw [if_neg hm]⟩
 .exact List.mem_append.mpr (.inl h)
theorem iD {L:List (N×β)}{n:N}{b:β}:(n,b)∈dput L n b:=by
 unfold dput
 split
 .rename_i h
  obtain ⟨p,hp,e⟩:=List.any_eq_true.mp h
  have e:=of_decide_eq_true e
  exact List.mem_map.mpr ⟨p,hp,by rw [if_pos e,e]⟩
 .exact List.mem_append.mpr (.inr (List.mem_singleton.mpr rfl))
theorem ddel_mem {L:List (N×β)}{n m:N}{c:β}:(m,c)∈ddel L n↔m≠n/\(m,c)∈L:=by
 unfold ddel
 rw [List.mem_filter]
 simp
 exact And.comm
theorem ddel_nd {L:List (N×β)}{n:N}(nd:(L.map (·.1)).Nodup):((ddel L n).map (·.1)).Nodup :=
 (List.Sublist.map _ List.filter_sublist).nodup nd
theorem dput_map {L:List (N×β)}{n:N}{b:β}{f:β->γ}:(dput L n b).map (fun p=>(p.1,f p.2))=dput (L.map fun p=>(p.1,f p.2)) n (f b):=by
 unfold dput
 have e:(L.map fun p=>(p.1,f p.2)).any (fun p=>decide (p.1=n))=L.any (fun p=>decide (p.1=n)):=by
  rw [List.any_map];rfl
 rw [e]
 split
 .rw [List.map_map,List.map_map]
  apply List.map_congr_left
  intro p _
  show ((if p.1=n then (p.1,b) else p).1,f (if p.1=n then (p.1,b) else p).2)=if p.1=n then (p.1,f b) else (p.1,f p.2)
  split <;> rfl
 .rw [List.map_append];rfl
theorem ddel_map {L:List (N×β)}{n:N}{f:β->γ}:(ddel L n).map (fun p=>(p.1,f p.2))=ddel (L.map fun p=>(p.1,f p.2)) n:=by
 unfold ddel
 rw [List.filter_map]
 rfl
theorem sH {L:List (N×β)}{n:N}{b:β}:(dput L n b).length<=L.length+1:=by
 unfold dput
 split
 .rw [List.length_map];lia
 .rw [List.length_append];exact Nat.le_refl _
theorem jG {L:List (N×β)}{n:N}:(ddel L n).length<=L.length:=List.length_filter_le _ _
end
structure LS (N:Type) where
 slack:Int
 there:List (N×En N)
 stamp:Nat
 row:List (En N)
 looks:Nat
section
variable {N:Type}[DecidableEq N][Inhabited N](sl:N->N->Bool)
def holds (T:List (N×En N))(e:En N):Bool:=decide (dget T e.n=some e)
def enter (s:LS N)(n:N)(w:Int):LS N :=
 { s with there:=dput s.there n ⟨w,n,(s.stamp:Int)⟩,stamp:=s.stamp+1,row:=(up (ltE sl) s.row.length (s.row++[⟨w,n,(s.stamp:Int)⟩]) s.row.length 0).1,looks:=s.looks+(up (ltE sl) s.row.length (s.row++[⟨w,n,(s.stamp:Int)⟩]) s.row.length 0).2 }
def cut (s:LS N):LS N:={ s with row:=(cutf (ltE sl) s.row).1,looks:=s.looks+(cutf (ltE sl) s.row).2 }
def clean:Nat->LS N->LS N
 | 0,s=>s
 | f+1,s=>if holds s.there (g s.row 0) then s else clean f (cut sl s)
def due (s:LS N):Bool:=decide ((s.row.length:Int)-s.there.length>s.there.length)&&decide ((s.row.length:Int)-s.there.length>s.slack)
def swept (s:LS N):LS N:={ s with row:=(mk (ltE sl) ((s.row.filter (holds s.there)).length / 2) (s.row.filter (holds s.there)) 0).1,looks:=s.looks+(mk (ltE sl) ((s.row.filter (holds s.there)).length / 2) (s.row.filter (holds s.there)) 0).2 }
def sweep (s:LS N):LS N:=if due s=true then swept sl s else s
def putL (s:LS N)(n:N)(w:Int):LS N:=sweep sl (enter sl s n w)
def dropT (s:LS N)(n:N):LS N:={ s with there:=ddel s.there n }
def dropL (s:LS N)(n:N):LS N:=sweep sl (dropT s n)
def leastL (s:LS N):LS N:=clean sl s.row.length s
def takeL (s:LS N):LS N:=sweep sl (dropT (cut sl (leastL sl s)) (g (leastL sl s).row 0).n)
def newL (slack:Int):LS N:=⟨slack,[],0,[],0⟩
structure LInv (s:LS N):Prop where
 nd:(s.there.map (·.1)).Nodup
 inr:∀n e,(n,e)∈s.there->e.n=n/\e∈s.row
 st:(s.row.map (·.s)).Nodup
 lts:∀e∈s.row,e.s<(s.stamp:Int)
 hp:IsH (ltE sl) s.row
 len:s.row.length<=s.stamp
 tl:s.there.length<=s.stamp
variable {sl}
theorem new_inv {z:Int}:LInv sl (newL (N:=N) z):=⟨List.nodup_nil,(fun _ _ h=>nomatch h),List.nodup_nil,(fun _ h=>nomatch h),(fun _ _ h=>absurd h (Nat.not_lt_zero _)),Nat.le_refl _,Nat.le_refl _⟩
theorem LInv.held {s:LS N}(I:LInv sl s){n:N}{e:En N}(h:(n,e)∈s.there):holds s.there e=true:=by
 unfold holds
 rw [decide_eq_true_eq,(I.inr n e h).1]
 exact dget_of I.nd h
theorem holds_in {T:List (N×En N)}{e:En N}(h:holds T e=true):(e.n,e)∈T:=dget_some (of_decide_eq_true h)
theorem vT {α:Type}[Inhabited α]{xs:List α}{e:α}{k:Nat}(h:k<xs.length):g (xs++[e]) k=g xs k:=by
 simp only [g,List.getD_eq_getElem?_getD,List.getElem?_append_left h]
theorem pY {α:Type}[Inhabited α]{lt:α->α->Bool}(o:Od lt){xs:List α}(h:IsH lt xs){e:α}:IsH lt (up lt xs.length (xs++[e]) xs.length 0).1:=by
 have l1:(xs++[e]).length=xs.length+1:=by rw [List.length_append];rfl
 refine nU o (Nat.le_refl _) (by lia) (fun k k0 k1 k2=>?_) (fun k k0 k1 k2 k3=>by lia)
 rw [vT (by lia),vT (by lia)]
 exact h k k0 (by lia)
theorem enter_row_perm {s:LS N}{n:N}{w:Int}:(enter sl s n w).row.Perm (s.row++[⟨w,n,(s.stamp:Int)⟩]):=dk (by rw [List.length_append];exact Nat.lt_succ_self _)
theorem enter_inv (o:Slo sl){s:LS N}(I:LInv sl s){n:N}{w:Int}:LInv sl (enter sl s n w) where
 nd:=cL I.nd
 inr:=fun m e h=>by
  have p:=enter_row_perm (sl:=sl) (s:=s) (n:=n) (w:=w)
  rcases dput_mem h with ⟨rfl,rfl⟩ | ⟨_,h⟩
  .exact ⟨rfl,p.mem_iff.mpr (List.mem_append.mpr (.inr (List.mem_singleton.mpr rfl)))⟩
  .obtain ⟨h1,h2⟩:=I.inr m e h
   exact ⟨h1,p.mem_iff.mpr (List.mem_append.mpr (.inl h2))⟩
 st:=by
  have p:=(enter_row_perm (sl:=sl) (s:=s) (n:=n) (w:=w)).map (·.s)
  refine p.nodup_iff.mpr ?_
  rw [List.map_append,List.nodup_append]
  refine ⟨I.st,List.nodup_cons.mpr ⟨List.not_mem_nil,List.nodup_nil⟩,?_⟩
  intro a ha c hc
  obtain ⟨e,he,rfl⟩:=List.mem_map.mp ha
  rw [List.map_cons,List.map_nil,List.mem_singleton] at hc
  have:=I.lts e he
  subst hc
  exact Int.ne_of_lt this
 lts:=fun e h=>by
  have p:=enter_row_perm (sl:=sl) (s:=s) (n:=n) (w:=w)
  rcases List.mem_append.mp (p.mem_iff.mp h) with h | h
  .have:=I.lts e h
   show e.s<((s.stamp+1:Nat):Int)
   lia
  .rw [List.mem_singleton] at h
   subst h
   show (s.stamp:Int)<((s.stamp+1:Nat):Int)
   lia
 hp:=pY (jq o) I.hp
 len:=by
  have:=(enter_row_perm (sl:=sl) (s:=s) (n:=n) (w:=w)).length_eq
  rw [List.length_append] at this
  have l:=I.len
  show _<=s.stamp+1
  rw [this]
  exact Nat.succ_le_succ l
 tl:=Nat.le_trans sH (Nat.succ_le_succ I.tl)
theorem cut_inv (o:Slo sl){s:LS N}(I:LInv sl s)(h0:0<s.row.length)(hh:¬ holds s.there (g s.row 0)=true):LInv sl (cut sl s):=by
 have p:=cq (lt:=ltE sl) h0
 have sub:∀e∈(cutf (ltE sl) s.row).1,e∈s.row:=fun e he=>p.mem_iff.mp (List.mem_cons_of_mem _ he)
 refine ⟨I.nd,fun n e h=>?_,?_,fun e he=>I.lts e (sub e he),iJ (jq o) I.hp h0,?_,I.tl⟩
 .obtain ⟨h1,h2⟩:=I.inr n e h
  refine ⟨h1,?_⟩
  rcases List.mem_cons.mp (p.mem_iff.mpr h2) with z | z
  .exact absurd (z▸I.held h) hh
  .exact z
 .have:=(p.map (·.s)).nodup_iff.mpr I.st
  rw [List.map_cons,List.nodup_cons] at this
  exact this.2
 .show (cutf (ltE sl) s.row).1.length<=s.stamp
  rw [cutf_len]
  have:=I.len
  lia
theorem cut_take_inv (o:Slo sl){s:LS N}(I:LInv sl s)(h0:0<s.row.length):LInv sl (dropT (cut sl s) (g s.row 0).n):=by
 have p:=cq (lt:=ltE sl) h0
 have sub:∀e∈(cutf (ltE sl) s.row).1,e∈s.row:=fun e he=>p.mem_iff.mp (List.mem_cons_of_mem _ he)
 refine ⟨ddel_nd I.nd,fun n e h=>?_,?_,fun e he=>I.lts e (sub e he),iJ (jq o) I.hp h0,?_,Nat.le_trans jG I.tl⟩
 .obtain ⟨hn,h⟩:=ddel_mem.mp h
  obtain ⟨h1,h2⟩:=I.inr n e h
  refine ⟨h1,?_⟩
  rcases List.mem_cons.mp (p.mem_iff.mpr h2) with z | z
  .exact absurd (h1.symm.trans (congrArg (·.n) z)) hn
  .exact z
 .have:=(p.map (·.s)).nodup_iff.mpr I.st
  rw [List.map_cons,List.nodup_cons] at this
  exact this.2
 .show (cutf (ltE sl) s.row).1.length<=s.stamp
  rw [cutf_len]
  have:=I.len
  lia
theorem drop_inv {s:LS N}(I:LInv sl s){n:N}:LInv sl (dropT s n):=⟨ddel_nd I.nd,fun m e h=>I.inr m e (ddel_mem.mp h).2,I.st,I.lts,I.hp,I.len,Nat.le_trans jG I.tl⟩
theorem l9 {s:LS N}:(swept sl s).row.Perm (s.row.filter (holds s.there)):=mk_perm
theorem ow (o:Slo sl){s:LS N}(I:LInv sl s):LInv sl (swept sl s):=by
 have p:=l9 (sl:=sl) (s:=s)
 have sub:∀e∈(swept sl s).row,e∈s.row:=fun e he=>(List.mem_filter.mp (p.mem_iff.mp he)).1
 refine ⟨I.nd,fun n e h=>?_,?_,fun e he=>I.lts e (sub e he),oa (jq o) u5,?_,I.tl⟩
 .obtain ⟨h1,h2⟩:=I.inr n e h
  exact ⟨h1,p.mem_iff.mpr (List.mem_filter.mpr ⟨h2,I.held h⟩)⟩
 .refine (p.map (·.s)).nodup_iff.mpr ?_
  exact (List.Sublist.map _ List.filter_sublist).nodup I.st
 .rw [p.length_eq]
  exact Nat.le_trans (List.length_filter_le _ _) I.len
theorem sweep_inv (o:Slo sl){s:LS N}(I:LInv sl s):LInv sl (sweep sl s):=by
 unfold sweep
 split
 .exact ow o I
 .exact I
theorem sweep_there {s:LS N}:(sweep sl s).there=s.there:=by unfold sweep;split <;> rfl
theorem sweep_stamp {s:LS N}:(sweep sl s).stamp=s.stamp:=by unfold sweep;split <;> rfl
structure nr (s s':LS N):Prop where
 inv:LInv sl s'
 there:s'.there=s.there
 stamp:s'.stamp=s.stamp
 slack:s'.slack=s.slack
 pos:0<s'.row.length
 hold:holds s'.there (g s'.row 0)=true
theorem row_pos {s:LS N}(I:LInv sl s)(h:s.there≠[]):0<s.row.length:=by
 cases e:s.there with
 | nil=>exact absurd e h
 | cons p r=>exact List.length_pos_of_mem (I.inr p.1 p.2 (by rw [e];exact List.mem_cons_self)).2
theorem ko (o:Slo sl):∀{f:Nat} {s:LS N},LInv sl s->s.there≠[]->s.row.length<=f->nr (sl:=sl) s (clean sl f s)
 | 0,s,I,h,hf=>absurd (row_pos I h) (by lia)
 | f+1,s,I,h,hf=>by
  unfold clean
  have h0:=row_pos I h
  split
  .rename_i hh
   exact ⟨I,rfl,rfl,rfl,h0,hh⟩
  .rename_i hh
   have c:=ko o (f:=f) (cut_inv o I h0 hh) h (by show (cutf (ltE sl) s.row).1.length<=f;rw [cutf_len];lia)
   exact ⟨c.inv,c.there,c.stamp,c.slack,c.pos,c.hold⟩
theorem least_ok (o:Slo sl){s:LS N}(I:LInv sl s)(h:s.there≠[]):nr (sl:=sl) s (leastL sl s):=ko o I h (Nat.le_refl _)
theorem i7:∀{f:Nat} {s:LS N},(clean sl f s).row.length<=s.row.length
 | 0,s=>Nat.le_refl _
 | f+1,s=>by
  unfold clean
  split
  .exact Nat.le_refl _
  .refine Nat.le_trans i7 ?_
   show (cutf (ltE sl) s.row).1.length<=_
   rw [cutf_len]
   lia
theorem least_len {s:LS N}:(leastL sl s).row.length<=s.row.length:=i7
theorem put_inv (o:Slo sl){s:LS N}(I:LInv sl s){n:N}{w:Int}:LInv sl (putL sl s n w):=sweep_inv o (enter_inv o I)
theorem dropL_inv (o:Slo sl){s:LS N}(I:LInv sl s){n:N}:LInv sl (dropL sl s n):=sweep_inv o (drop_inv I)
theorem take_inv (o:Slo sl){s:LS N}(I:LInv sl s)(h:s.there≠[]):LInv sl (takeL sl s):=sweep_inv o (cut_take_inv o (least_ok o I h).inv (least_ok o I h).pos)
theorem take_there {s:LS N}:(takeL sl s).there=ddel (leastL sl s).there (g (leastL sl s).row 0).n:=sweep_there
end
end Gm
end
section
namespace L2
open PySem
instance:Inhabited Str:=⟨""⟩
abbrev En:=Gm.En Str
abbrev LS:=Gm.LS Str
def enV (e:En):List V:=[.int e.w,.str e.n,.int e.s]
theorem lh (e:En):eJ (enV e):=⟨_,_,_,rfl⟩
def uH:List V->En
 | [.int w,.str n,.int s]=>⟨w,n,s⟩
 | _=>⟨0,"",0⟩
theorem v5 (e:En):uH (enV e)=e:=rfl
theorem lI {l:List V}(h:eJ l):enV (uH l)=l:=by
 obtain ⟨i,n,j,rfl⟩:=h
 rfl
theorem uc {a b:En}(h:enV a=enV b):a=b:=by
 have:=congrArg uH h
 exact this
abbrev lE:En->En->Bool:=Gm.ltE slt
theorem slt_slo:Gm.Slo slt where
 irr:=fun a=>decide_eq_false (List.lt_irrefl _)
 tr:=fun a b c h1 h2=>decide_eq_true (List.lt_trans (of_decide_eq_true h1) (of_decide_eq_true h2))
 tot:=fun a b h=>by
  by_cases h1:a.cps.toList<b.cps.toList
  .exact .inl (decide_eq_true h1)
  .by_cases h2:b.cps.toList<a.cps.toList
   .exact .inr (decide_eq_true h2)
   .exact absurd (mG (List.le_antisymm (List.not_lt.mp h2) (List.not_lt.mp h1))) h
theorem u6 (a b:En):bT (enV a) (enV b)=lE a b:=by
 unfold enV
 rw [aY,aY,aY]
 show _=Gm.ltE slt a b
 unfold Gm.ltE
 by_cases h:a.w=b.w
 .rw [if_pos (by rw [h]),if_pos h]
  by_cases h2:a.n=b.n
  .rw [if_pos (by rw [h2]),if_pos h2]
   by_cases h3:a.s=b.s
   .rw [if_pos (by rw [h3])]
    show false=_
    rw [h3]
    exact (decide_eq_false (Int.lt_irrefl _)).symm
   .rw [if_neg (fun z=>h3 (V.int.inj z))]
    rfl
  .rw [if_neg (fun z=>h2 (V.str.inj z)),if_neg h2]
   rfl
 .rw [if_neg (fun z=>h (V.int.inj z)),if_neg h]
  rfl
def tE (H:Hp)(x:V):En:=uH (bz H x)
theorem wA (H:Hp):tE H .non=default:=rfl
theorem mi (H:Hp)(x y:V):ltT (bz H) x y=lE (tE H x) (tE H y):=by
 rw [<-u6]
 unfold tE ltT
 rw [lI (dm H x),lI (dm H y)]
theorem sq {H:Hp}{a:Addr}{e:En}(h:H a=some (.tup (enV e))):tE H (.ref a)=e:=by
 unfold tE
 rw [uj h (lh e),v5]
structure RR (H:Hp)(xs:List V)(es:List En):Prop where
 mem:∀x∈xs,∃ a,x=.ref a/\H a=some (.tup (enV (tE H x)))
 eq:xs.map (tE H)=es
section
variable {H H':Hp}{xs ys:List V}{es fs:List En}
theorem RR.en (r:RR H xs es):EnR (bz H) H xs:=⟨dm H,fun x hx=>by
 obtain ⟨a,rfl,h⟩:=r.mem x hx
 exact ⟨a,rfl,by rw [<-lI (dm H (.ref a))];exact h⟩⟩
theorem RR.len (r:RR H xs es):xs.length=es.length:=by rw [<-r.eq,List.length_map]
theorem RR.stay (r:RR H xs es)(k:∀b l,H b=some (.tup l)->H' b=some (.tup l)):RR H' xs es:=by
 have e:∀x∈xs,tE H' x=tE H x:=fun x hx=>by
  obtain ⟨a,rfl,h⟩:=r.mem x hx
  exact sq (k _ _ h)
 refine ⟨fun x hx=>?_,?_⟩
 .obtain ⟨a,rfl,h⟩:=r.mem x hx
  exact ⟨a,rfl,by rw [e _ hx];exact k _ _ h⟩
 .rw [<-r.eq];exact List.map_congr_left e
theorem RR.nil:RR H [] []:=⟨(fun _ h=>nomatch h),rfl⟩
theorem RR.sub (r:RR H xs es)(s:∀y∈ys,y∈xs):RR H ys (ys.map (tE H)):=⟨fun x hx=>r.mem x (s x hx),rfl⟩
theorem RR.snoc (r:RR H xs es){a:Addr}{e:En}(h:H a=some (.tup (enV e))):RR H (xs++[.ref a]) (es++[e]):=by
 refine ⟨fun x hx=>?_,?_⟩
 .rcases List.mem_append.mp hx with z | z
  .exact r.mem x z
  .rw [List.mem_singleton.mp z]
   exact ⟨a,rfl,by rw [sq h];exact h⟩
 .rw [List.map_append,r.eq]
  show es++[tE H (.ref a)]=_
  rw [sq h]
theorem RR.at (r:RR H xs es){i:Nat}(hi:i<es.length):∃ a,Hm.g xs i=.ref a/\H a=some (.tup (enV (Hg.g es i)))/\atI xs (i:Int)=some (.ref a):=by
 have hx:i<xs.length:=by rw [r.len];exact hi
 have m:Hm.g xs i∈xs:=by rw [Hm.g_get hx];exact List.getElem_mem hx
 obtain ⟨a,ea,h⟩:=r.mem _ m
 have eg:Hg.g es i=tE H (Hm.g xs i):=by
  rw [Hg.g_get hi,Hm.g_get hx]
  have:=r.eq
  subst this
  rw [List.getElem_map]
 refine ⟨a,ea,by rw [eg];exact h,?_⟩
 rw [<-ea];exact wR hx
end
section
variable {H:Hp}{xs:List V}
theorem eR (i:Nat):Hg.g (xs.map (tE H)) i=tE H (Hm.g xs i):=by
 unfold Hg.g Hm.g
 rw [List.getD_eq_getElem?_getD,List.getD_eq_getElem?_getD,List.getElem?_map]
 cases xs[i]? with
 | none=>exact (wA H).symm
 | some x=>rfl
theorem sy (i j:Nat):Hg.sw (xs.map (tE H)) i j=(Hm.sw xs i j).map (tE H):=by
 unfold Hg.sw Hm.sw
 rw [eR,eR,List.map_set,List.map_set]
theorem uJ (p:Nat):Hg.les lE (xs.map (tE H)) p=Hm.les (ltT (bz H)) xs p:=by
 unfold Hg.les Hm.les
 rw [eR,eR,List.length_map,mi]
theorem lG:∀{f:Nat} {xs:List V} {p lk:Nat},Hg.dn lE f (xs.map (tE H)) p lk=((Hm.dn (ltT (bz H)) f xs p lk).1.map (tE H),(Hm.dn (ltT (bz H)) f xs p lk).2)
 | 0,xs,p,lk=>rfl
 | f+1,xs,p,lk=>by
  unfold Hg.dn Hm.dn
  rw [uJ,List.length_map,eR,eR,mi,sy]
  have kd:Hg.kids xs.length p=Hm.kids xs.length p:=rfl
  rw [kd]
  split
  .split
   .exact lG
   .rfl
  .rfl
theorem kO:∀{f:Nat} {xs:List V} {p lk:Nat},Hg.up lE f (xs.map (tE H)) p lk=((Hm.up (ltT (bz H)) f xs p lk).1.map (tE H),(Hm.up (ltT (bz H)) f xs p lk).2)
 | 0,xs,p,lk=>rfl
 | f+1,xs,p,lk=>by
  unfold Hg.up Hm.up
  rw [eR,eR,mi,sy]
  split
  .split
   .exact kO
   .rfl
  .rfl
theorem lN:∀{k:Nat} {xs:List V} {lk:Nat},Hg.mk lE k (xs.map (tE H)) lk=((Hm.mk (ltT (bz H)) k xs lk).1.map (tE H),(Hm.mk (ltT (bz H)) k xs lk).2)
 | 0,xs,lk=>rfl
 | k+1,xs,lk=>by
  unfold Hg.mk Hm.mk
  rw [List.length_map,lG]
  exact lN
theorem mS {xs:List V}:Hg.cutf lE (xs.map (tE H))=((Hm.cutf (ltT (bz H)) xs).1.map (tE H),(Hm.cutf (ltT (bz H)) xs).2):=by
 unfold Hg.cutf Hm.cutf
 rw [eR,List.length_map,<-List.map_dropLast,<-List.map_set,List.length_map,lG]
 by_cases h:xs.dropLast=[]
 .rw [if_pos h,if_pos (by rw [h];rfl)]
  rfl
 .rw [if_neg h,if_neg (fun z=>h (List.map_eq_nil_iff.mp z))]
end
def Kept (F:List Addr)(H H':Hp):Prop:=∀b o,H b=some o->b∉F->H' b=some o
section
variable {F G:List Addr}{H H1 H2:Hp}
theorem Kept.refl:Kept F H H:=fun _ _ h _=>h
theorem Kept.trans (a:Kept F H H1)(b:Kept F H1 H2):Kept F H H2:=fun x o h n=>b x o (a x o h n) n
theorem Kept.mono (a:Kept F H H1)(s:∀b∈F,b∈G):Kept G H H1:=fun x o h n=>a x o h fun z=>n (s x z)
theorem Kept.of_same (s:Same H H1):Kept F H H1:=fun b o h _=>s b o h
theorem Kept.new {p:Addr}{o:HO}(k:Kept F H H1)(h:H1 p=none):Kept F H (upd H1 p o):=fun b u e n=>by
 have:=k b u e n
 rw [ak (am this h)];exact this
theorem Kept.newer {p:Addr}{o:HO}(k:Kept F H H1)(h:H p=none):Kept F H (upd H1 p o):=fun b u e n=>by
 rw [ak (am e h)];exact k b u e n
theorem Kept.put {p:Addr}{o:HO}(k:Kept F H H1)(h:p∈F):Kept F H (upd H1 p o):=fun b u e n=>by
 rw [ak (fun z=>by subst z;exact n h)];exact k b u e n
theorem Kept.none (k:Kept F H H1){b:Addr}(h:H1 b=none)(hb:b∉F):H b=none:=by
 cases q:H b with
 | none=>rfl
 | some o=>have:=k b o q hb;rw [h] at this;cases this
theorem Kept.tups (k:Kept F H H1)(hF:∀b∈F,∀xs,H b≠some (.tup xs)):∀b l,H b=some (.tup l)->H1 b=some (.tup l):=fun b l h=>k b _ h fun z=>hF b z l h
end
def KR (H:Hp)(ks:List (Key×V))(T:List (Str×En)):Prop:=Paired (fun (kv:Key×V) (ne:Str×En)=>kv.1=Sum.inr ne.1/\∃ a,kv.2=.ref a/\H a=some (.tup (enV ne.2))) ks T
section
variable {H H':Hp}{ks:List (Key×V)}{T:List (Str×En)}
theorem KR.nil:KR H [] []:=Paired.nil
theorem KR.len (r:KR H ks T):ks.length=T.length:=Paired.length r
theorem KR.stay (r:KR H ks T)(k:∀b l,H b=some (.tup l)->H' b=some (.tup l)):KR H' ks T:=Paired.mapP r fun p q ⟨a,b,c,d⟩=>⟨a,b,c,k _ _ d⟩
theorem KR.keys (r:KR H ks T):ks.map (·.1)=(T.map (·.1)).map Sum.inr:=by
 induction r with
 | nil=>rfl
 | cons h _ ih=>rw [List.map_cons,List.map_cons,List.map_cons,ih,h.1]
theorem dj {a b:Str}(h:¬ a=b):¬ (Sum.inr a:Key)=Sum.inr b:=fun z=>h (Sum.inr.inj z)
theorem KR.get (r:KR H ks T)(n:Str):(bn ks (Sum.inr n)=none/\Gm.dget T n=none)∨∃ a e,bn ks (Sum.inr n)=some (.ref a)/\Gm.dget T n=some e/\H a=some (.tup (enV e)):=by
 induction r with
 | nil=>exact .inl ⟨rfl,rfl⟩
 | @cons p q l l' h _ ih =>
  obtain ⟨h1,a,h2,h3⟩:=h
  by_cases e:q.1=n
  .refine .inr ⟨a,q.2,?_,?_,h3⟩
   .rw [cQ (by rw [h1,e]),h2]
   .unfold Gm.dget
    rw [List.find?_cons,decide_eq_true e]
    rfl
  .have e1:bn (p::l) (Sum.inr n)=bn l (Sum.inr n):=cZ (by rw [h1];exact dj e)
   have e2:Gm.dget (q::l') n=Gm.dget l' n:=by unfold Gm.dget;rw [List.find?_cons,decide_eq_false e]
   rw [e1,e2]
   exact ih
theorem KR.put (r:KR H ks T){n:Str}{a:Addr}{e:En}(h:H a=some (.tup (enV e))):KR H (a7 ks (Sum.inr n) (.ref a)) (Gm.dput T n e):=by
 have ha:(ks.any fun kv=>decide (kv.1=Sum.inr n))=T.any fun p=>decide (p.1=n):=by
  induction r with
  | nil=>rfl
  | @cons p q l l' hh _ ih =>
   rw [List.any_cons,List.any_cons,ih,hh.1]
   congr 1
   by_cases z:q.1=n
   .rw [decide_eq_true z,decide_eq_true (by rw [z])]
   .rw [decide_eq_false z,decide_eq_false (dj z)]
 have hm:KR H (ks.map fun kv=>if kv.1=Sum.inr n then (kv.1,V.ref a) else kv) (T.map fun p=>if p.1=n then (p.1,e) else p):=by
  clear ha
  induction r with
  | nil=>exact .nil
  | @cons p q l l' hh _ ih =>
   rw [List.map_cons,List.map_cons]
   refine .cons ?_ ih
   obtain ⟨h1,b,h2,h3⟩:=hh
   by_cases z:q.1=n
   .rw [if_pos z,if_pos (by rw [h1,z])]
    exact ⟨h1,a,rfl,h⟩
   .rw [if_neg z,if_neg (by rw [h1];exact dj z)]
    exact ⟨h1,b,h2,h3⟩
 have hs:KR H (ks++[(Sum.inr n,V.ref a)]) (T++[(n,e)]):=by
  clear ha hm
  induction r with
  | nil=>exact .cons ⟨rfl,a,rfl,h⟩ .nil
  | cons hh _ ih=>exact .cons hh ih
 unfold a7 Gm.dput
 rw [ha]
 split
 .exact hm
 .exact hs
theorem KR.drop (r:KR H ks T)(n:Str):KR H (bw ks (Sum.inr n)) (Gm.ddel T n):=by
 unfold Gm.ddel bw
 induction r with
 | nil=>exact .nil
 | @cons p q l l' hh _ ih =>
  rw [List.filter_cons,List.filter_cons]
  by_cases z:q.1=n
  .rw [if_neg (by rw [hh.1,z];simp),if_neg (by simp [z])]
   exact ih
  .rw [if_pos (by rw [hh.1];exact decide_eq_true (dj z)),if_pos (by simp [z])]
   exact .cons hh ih
end
end L2
end
section
namespace L2
open PySem
inductive Deed where
 | put (n:Str) (w:Int) | drop (n:Str) | change (n:Str) (w:Int) | take | least
inductive Ans where
 | non | clash | nothing | pair (w:Int) (n:Str)
def Deed.v:Deed->List V
 | .put n w=>[.str "put",.str n,.int w]
 | .drop n=>[.str "drop",.str n]
 | .change n w=>[.str "change",.str n,.int w]
 | .take=>[.str "take"]
 | .least=>[.str "least"]
def Deed.ok:Deed->Prop
 | .put n _=>n.length<=10
 | .drop n=>n.length<=10
 | .change n _=>n.length<=10
 | _=>True
def hd (s:LS):En:=Hg.g (Gm.leastL slt s).row 0
def bq (s:LS):Deed->LS×Ans
 | .put n w=>if (Gm.dget s.there n).isSome=true then (s,.clash) else (Gm.putL slt s n w,.non)
 | .drop n=>if (Gm.dget s.there n).isSome=true then (Gm.dropL slt s n,.non) else (s,.nothing)
 | .change n w=>if (Gm.dget s.there n).isSome=true then (Gm.putL slt s n w,.non) else (s,.nothing)
 | .take=>if s.there=[] then (s,.nothing) else (Gm.takeL slt s,.pair (hd s).w (hd s).n)
 | .least=>if s.there=[] then (s,.nothing) else (Gm.leastL slt s,.pair (hd s).w (hd s).n)
theorem qP {s:LS}(I:Gm.LInv slt s)(d:Deed):Gm.LInv slt (bq s d).1:=by
 cases d with
 | put n w=>unfold bq;dsimp only;split;exact I;exact Gm.put_inv slt_slo I
 | drop n=>unfold bq;dsimp only;split;exact Gm.dropL_inv slt_slo I;exact I
 | change n w=>unfold bq;dsimp only;split;exact Gm.put_inv slt_slo I;exact I
 | take=>unfold bq;dsimp only;split;exact I;rename_i h;exact Gm.take_inv slt_slo I h
 | least=>unfold bq;dsimp only;split;exact I;rename_i h;exact (Gm.least_ok slt_slo I h).inv
theorem kL {s:LS}(I:Gm.LInv slt s)(d:Deed):(bq s d).1.stamp<=s.stamp+1:=by
 cases d with
 | put n w =>
  unfold bq;dsimp only;split
  .exact Nat.le_succ _
  .show (Gm.sweep slt _).stamp<=_
   rw [Gm.sweep_stamp];exact Nat.le_refl _
 | drop n =>
  unfold bq;dsimp only;split
  .show (Gm.sweep slt _).stamp<=_
   rw [Gm.sweep_stamp];exact Nat.le_succ _
  .exact Nat.le_succ _
 | change n w =>
  unfold bq;dsimp only;split
  .show (Gm.sweep slt _).stamp<=_
   rw [Gm.sweep_stamp];exact Nat.le_refl _
  .exact Nat.le_succ _
 | take =>
  unfold bq;dsimp only;split
  .exact Nat.le_succ _
  .rename_i h
   show (Gm.sweep slt _).stamp<=_
   rw [Gm.sweep_stamp]
   show (Gm.leastL slt s).stamp<=_
   rw [(Gm.least_ok slt_slo I h).stamp];exact Nat.le_succ _
 | least =>
  unfold bq;dsimp only;split
  .exact Nat.le_succ _
  .rename_i h
   rw [(Gm.least_ok slt_slo I h).stamp];exact Nat.le_succ _
abbrev Tb:=List (Str×Int)
def thW (T:List (Str×En)):Tb:=T.map fun p=>(p.1,p.2.w)
theorem nQ {T:List (Str×En)}{n:Str}{e:En}:thW (Gm.dput T n e)=Gm.dput (thW T) n e.w:=Gm.dput_map
theorem nG {T:List (Str×En)}{n:Str}:thW (Gm.ddel T n)=Gm.ddel (thW T) n:=Gm.ddel_map
def rJ (t:Tb):Deed->Ans->Tb
 | .put n w,.non=>Gm.dput t n w
 | .drop n,.non=>Gm.ddel t n
 | .change n w,.non=>Gm.dput t n w
 | .take,.pair _ n=>Gm.ddel t n
 | _,_=>t
theorem mD {s:LS}(I:Gm.LInv slt s)(d:Deed):thW (bq s d).1.there=rJ (thW s.there) d (bq s d).2:=by
 cases d with
 | put n w =>
  unfold bq;dsimp only;split
  .rfl
  .show thW (Gm.sweep slt _).there=_
   rw [Gm.sweep_there];exact nQ
 | drop n =>
  unfold bq;dsimp only;split
  .show thW (Gm.sweep slt _).there=_
   rw [Gm.sweep_there];exact nG
  .rfl
 | change n w =>
  unfold bq;dsimp only;split
  .show thW (Gm.sweep slt _).there=_
   rw [Gm.sweep_there];exact nQ
  .rfl
 | take =>
  unfold bq;dsimp only;split
  .rfl
  .rename_i h
   rw [Gm.take_there,(Gm.least_ok slt_slo I h).there];exact nG
 | least =>
  unfold bq;dsimp only;split
  .rfl
  .rename_i h
   rw [(Gm.least_ok slt_slo I h).there];rfl
theorem kJ {a b ks:List Str}(pa:a.Perm ks)(pb:b.Perm ks)(sa:a.Pairwise fun x y=>slt y x=false)(sb:b.Pairwise fun x y=>slt y x=false):a=b:=by
 refine List.Perm.eq_of_pairwise (le:=fun x y=>slt y x=false) (fun x y _ _ h1 h2=>?_) sa sb (pa.trans pb.symm)
 by_cases z:x=y
 .exact z
 .rcases slt_slo.tot _ _ z with q | q
  .rw [h2] at q;cases q
  .rw [h1] at q;cases q
end L2
end
section
namespace L2
open PySem PySem.Spec PyProof.Rows
end L2
namespace L2
open PySem PySem.Spec PyProof.Rows
section
variable {P:Program}{w:World}{K:PySem.W.Frag}{mg:Str->Option Value}{base:Heap}
theorem Fun.okQ {x qual:Str}{st:Stmt}{f:Addr}{fd:FuncData}{N ps:List Str}{k:Nat}{sp:Sp}(F:Fun K x qual st f fd)(S:FnScope N ps (ai st))(len:∀vs H Q E,sp vs H Q E->vs.length=ps.length)
  (hbody:∀(cdv:Value) (A:Around) (outer:List Env) (s:Shared) (H:Hp) (vs:List V) (Q:VK) (E:XK),Room k (A.deeper (envOfC qual (ai st) s.heap.objs.size f cdv))->sp vs H Q E ->
   ∃ t,QSs (bh CX0 P w K mg base N qual (ai st) f cdv A outer s H E).nox (av st) t/\t { nx:=fun _ H'=>Q .non H',rt:=Q } (start N vs) H):aw P w K mg base CX0 (k+1) f fd ps sp :=
 F.ok S len fun cdv A outer s H vs Q E hr h=>let ⟨t,a,b⟩:=hbody cdv A outer s H vs Q E hr h;⟨t,a.to,b⟩
end
end L2
namespace L2
open PySem PySem.Spec PyProof.Rows
theorem lV {d:Addr}{o:Obj}{kvs:List (Key×V)}{tt:TT}{te:TE}{cap:List Nat}{σ:St}{H:Hp}{D:Addr}{R:Hp->Prop}(Pv:Nat->List V->Hp->Prop)(h0:Pv 0 [] (upd H D (.lst [])))(hD:∀i ys H,Pv i ys H->H D=some (.lst ys)/\H d=some (.frz o (.dK kvs)))
  (hs:∀i k v ys H,kvs[i]?=some (k,v)->Pv i ys H->tt (some (kV k)::bi cap σ) H fun b H3 =>
   if b=true then te (some (kV k)::bi cap σ) H3 fun v H4=>H4 D=some (.lst ys)/\ys.length<sizeLine/\∃ m',m'<kvs.length-i/\m'=kvs.length-(i+1)/\i+1<=kvs.length/\Pv (i+1) (ys++[v]) (upd H4 D (.lst (ys++[v])))
   else ∃ m',m'<kvs.length-i/\m'=kvs.length-(i+1)/\i+1<=kvs.length/\Pv (i+1) ys H3)
  (hd:∀ys H,Pv kvs.length ys H->R H) :
  ∃ W:Nat->Nat->List V->Hp->Prop,(∃ m,W 0 m [] (upd H D (.lst [])))/\∀i m ys H,W i m ys H->H D=some (.lst ys) /\
   (((Itk d o kvs).stop i H/\R H)∨((Itk d o kvs).go i H/\∀x H',(Itk d o kvs).yld i H x H'->tt (some x::bi cap σ) H' fun b H3 =>
    if b=true then te (some x::bi cap σ) H3 fun v H4=>H4 D=some (.lst ys)/\ys.length<sizeLine/\∃ m',m'<m/\W (i+1) m' (ys++[v]) (upd H4 D (.lst (ys++[v])))
    else ∃ m',m'<m/\W (i+1) m' ys H3)):=oQ (Q:=fun _ H=>R H) Pv h0 hD hs hd
end L2
namespace L2
open PySem PySem.Spec PyProof.Rows
end L2
namespace L2
open PySem PySem.Spec PyProof.Rows
end L2
namespace L2
open PySem PySem.Spec PyProof.Rows
section
variable {X:Cx}
def xS (c:TT)(t u:TS):TS:=fun D σ H=>∃ J:St->Hp->Prop,(c σ H fun b H1=>if b=true then t { D with nx:=J } σ H1 else u { D with nx:=J } σ H1)/\∀σ' H',J σ' H'->D.nx σ' H'
theorem wv {c:Expr}{a b:List Stmt}{tc:TT}{t u:TS}{pos:Pos}(hc:PT X c tc)(ha:PSs X a t)(hb:PSs X b u):PS X (.If c a b pos) (xS tc t u):=by
 intro pins s σ H D I ⟨J,h,j⟩
 refine thn (vV hc ha hb pins s σ H { D with nx:=J } I h) fun f s' q=>?_
 cases f with
 | next=>obtain ⟨σ',H',I',z⟩:=q;exact ⟨σ',H',I',j _ _ z⟩
 | ret v=>exact q
 | brk=>exact q
 | cont=>exact q
theorem jh {c:Expr}{a b:List Stmt}{tc:TT}{t u:TS}{pos:Pos}(hc:QT X c tc)(ha:QSs X a t)(hb:QSs X b u):QS X (.If c a b pos) (xS tc t u):=.mk (wv hc.to ha.to hb.to)
def xo (t:TT):TT:=fun σ H Q=>∃ J:Bool->Hp->Prop,t σ H J/\∀b H',J b H'->Q b H'
theorem uP {e:Expr}{t:TT}(h:QT X e t):QT X e (xo t):=.mk fun pins s σ H Q I ⟨J,h1,j⟩=>thn (h.to pins s σ H J I h1) fun b s' ⟨H',I',z⟩=>⟨H',I',j b H' z⟩
end
end L2
end
section
namespace TS
open PySem PyProof.Rows
theorem jR {h h':Heap}{a b:Addr}{items:Array Value}(x:h.IsList a items)(hs:Heap.ExtBut b h h')(hab:a≠b):h'.IsList a items:=let ⟨o,ho,r⟩:=x;⟨o,hs a o hab ho,r⟩
theorem ii {h:Heap}{a:Addr}{items:Array Value}(x:h.IsList a items)(o:Obj):(h.push o).IsList a items:=let ⟨o',ho,r⟩:=x;⟨o',Heap.get?_push_of_some o ho,r⟩
section
variable {prog:Program}{w:World}{A:Around}{E:Value->Shared->Prop}
theorem pB {it l:Addr}{items:Array Value}(hne:l≠it):∀(n i:Nat) (s:Shared) (Q:List Value->Shared->Prop),s.heap.IsListIter it l i->s.heap.IsList l items->i+n<=items.size ->
  (∀h',h'.IsListIter it l (i+n)->Heap.SameBut it s.heap h'->Q ((items.toList.drop i).take n) { s with heap:=h' })->wpAny (model prog w) A (draw (.ref it) n) Q E s:=by
 intro n
 induction n with
 | zero =>
  intro i s Q hit hl hi hQ
  show wpAny _ _ (pure []) Q E s
  exact wpAny_pure (by simpa using hQ s.heap hit (Heap.SameBut.refl ..))
 | succ n ih =>
  intro i s Q hit hl hi hQ
  have hlt:i<items.size:=by lia
  show wpAny _ _ (pyNext (.ref it) >>= _) Q E s
  refine wpAny_bind (wpAny_pyNext_list_item hit hl (x:=items[i]) (by simp [hlt]) fun h₁ hit₁ hs₁=>?_)
  refine wpAny_bind (wpAny_holding (ih (i+1) _ _ hit₁ (jR hl hs₁.extBut hne) (by lia) fun h₂ hit₂ hs₂=>wpAny_pure ?_))
  have hd:items.toList.drop i=items[i]::items.toList.drop (i+1):=by simp [List.drop_eq_getElem_cons,hlt]
  have:=hQ h₂ (by rw [show i+(n+1)=i+1+n by lia];exact hit₂) (hs₁.trans hs₂)
  rw [hd,List.take_succ_cons] at this
  exact this
variable {s:Shared}
theorem fJ {l:Addr}{items:Array Value}{Q:List Value->Shared->Prop}(hh:A.handled=none)(hl:s.heap.IsList l items)
  (hQ:∀h',Heap.ExtBut s.heap.objs.size s.heap h'->Q items.toList { s with heap:=h' }):wpAny (model prog w) A (unpackItems (.ref l) items.size none) Q E s:=by
 have hlt:l≠s.heap.objs.size:=by obtain ⟨o,ho,_⟩:=hl;exact Nat.ne_of_lt (Heap.lt_size ho)
 have hT:s.TypeIs (.ref l) "list":=by obtain ⟨o,ho,hc,_⟩:=hl;exact ⟨o,ho,hc⟩
 unfold unpackItems
 refine wpAny_bind ?_
 unfold notIterableAtAll
 refine wpAny_bind (wpAny_specialOf hT slot_list_iter.lookup ?_)
 refine wpAny_pure ?_
 simp only [Bool.false_eq_true,if_false]
 refine wpAny_bind (wpAny_holding (wpAny_pyIter_list hl ?_))
 refine wpAny_bind (wpAny_holding (pB hlt items.size 0 _ _ ⟨_,Heap.get?_push_size _ rfl,rfl,rfl⟩ (ii hl _) (by lia) fun h₁ hit₁ hs₁=>?_))
 have hall:List.take items.size (List.drop 0 items.toList)=items.toList:=by
  rw [List.drop_zero];exact List.take_of_length_le (by simp)
 rw [hall]
 rw [if_neg (by simp)]
 have ht₁:h₁.IsList l items:=jR (ii hl _) hs₁.extBut hlt
 refine wpAny_bind (wpAny_holding (wpAny_pyNext_list_end hh hit₁ ht₁ (by simp) fun h₂ he₂=>?_))
 simp only [Option.isSome_none,Bool.false_eq_true,if_false]
 exact wpAny_pure (hQ h₂ fun b o hb e=>he₂ b o hb (hs₁.extBut b o hb (Heap.get?_push_of_some _ e)))
theorem assign_Tuple_list {env:Env}{elts:List Expr}{x1}{pos:Pos}{l:Addr}{items:Array Value}{Q:Unit->Shared->Prop}(hh:A.handled=none)(hl:s.heap.IsList l items)
  (hn:(assignEach elts env).length=items.size) (hstar:(assignEach elts env).findIdx? (·.1)=none)
  (h:∀h',Heap.ExtBut s.heap.objs.size s.heap h'->wpAny (model prog w) A (assignInOrder ((assignEach elts env).map (·.2)) items.toList) Q E { s with heap:=h' }) :
  wpAny (model prog w) A (assign (.Tuple elts x1 pos) env (.ref l)) Q E s:=by
 rw [assign_Tuple]
 refine wpAny_bind (wpAny_standAt ?_)
 unfold unpack
 rw [hn,hstar]
 exact wpAny_bind (wpAny_holding (fJ hh hl h))
end
end TS
namespace L2
open PySem PyProof.Rows
section
variable {X:Cx}{pos:Pos}
def xZ (K:PySem.W.Frag)(n:Nat)(t:TGs):TG:=fun v σ H Q=>∃ a xs,v=.ref a/\SqL K H a xs/\xs.length=n/\t xs σ H Q
theorem wj {es:List Expr}{k:Nat}{t:TGs}{n:Nat}(hc:X.calm=true)(h:PGs X es t)
  (hn:(assignEach es X.env).length=n:=by rfl) (hst:(assignEach es X.env).findIdx? (·.1)=none:=by rfl):PG X (.Tuple es k pos) (xZ X.K n t):=by
 intro pins s σ H v u Q I r hw
 obtain ⟨a,xs,e1,hq,hl,hw⟩:=hw
 subst e1
 cases r
 obtain ⟨its,rv,ht,hz⟩:=I.list hq
 refine TS.assign_Tuple_list (I.ok.hd hc) ht.isList (by simp [hn,<-hl,rv.length]) hst fun h' hx=>?_
 have I1:Inv X pins σ H { s with heap:=h' }:=I.kept (t':=s.toks) fun b o e=>hx b o (Nat.ne_of_lt (Heap.lt_size e)) e
 exact h pins _ σ H xs _ Q I1 (by simpa using rv) hw
theorem lL {es:List Expr}{k:Nat}{t:TGs}{n:Nat}(hc:X.calm=true)(h:QGs X es t)
  (hn:(assignEach es X.env).length=n:=by rfl) (hst:(assignEach es X.env).findIdx? (·.1)=none:=by rfl):QG X (.Tuple es k pos) (xZ X.K n t):=.mk (wj hc h.to hn hst)
end
end L2
end
section
namespace L2
open PySem PySem.Spec PyProof.Rows
section
variable {prog:Program}{w:World}{A:Around}{E:Value->Shared->Prop}{s:Shared}
end
end L2
namespace L2
open PySem PySem.W PyProof.Rows
section
variable {X:Cx}{o:Expr}{to:TE}{pos p2:Pos}
end
end L2
end
section
namespace L2
open PySem PySem.W PySem.Spec PyProof.Rows
theorem bX {P:Program}{w:World}{X:Cx}:bB (CXe P w) X E0:=fun _ _ _ _ _ _ _ h=>by
 obtain ⟨_,_,_,_,_,_,_,_,_,_,_,z⟩:=h
 exact z.elim
section
variable {X:Cx}
end
end L2
end
section
namespace TS
open PySem PyProof.Rows PySem.W
section
variable {prog:Program}{w:World}{A:Around}{E:Value->Shared->Prop}{s:Shared}
end
end TS
namespace L2
open PySem PySem.W PySem.Spec PySem.Calls PyProof.Rows
section
variable {X:Cx}
end
theorem iG {K:PySem.W.Frag}{a:Addr}{xs:List V}{tt:TT}{te:TE}{cap:List Nat}{σ:St}{H:Hp}{D:Addr}{R:Hp->Prop}(Pv:Nat->List V->Hp->Prop)(h0:Pv 0 [] (upd H D (.lst [])))(hD:∀i ys H,Pv i ys H->H D=some (.lst ys)/\SqT K H a xs)
  (hs:∀i x ys H,xs[i]?=some x->Pv i ys H->tt (some x::bi cap σ) H fun b H3 =>
   if b=true then te (some x::bi cap σ) H3 fun v H4=>H4 D=some (.lst ys)/\ys.length<sizeLine/\∃ m',m'<xs.length-i/\m'=xs.length-(i+1)/\i+1<=xs.length/\Pv (i+1) (ys++[v]) (upd H4 D (.lst (ys++[v])))
   else ∃ m',m'<xs.length-i/\m'=xs.length-(i+1)/\i+1<=xs.length/\Pv (i+1) ys H3)
  (hd:∀ys H,Pv xs.length ys H->R H) :
  ∃ W:Nat->Nat->List V->Hp->Prop,(∃ m,W 0 m [] (upd H D (.lst [])))/\∀i m ys H,W i m ys H->H D=some (.lst ys) /\
  (((Itt K a).stop i H/\R H)∨((Itt K a).go i H/\∀x H',(Itt K a).yld i H x H'->tt (some x::bi cap σ) H' fun b H3 =>
   if b=true then te (some x::bi cap σ) H3 fun v H4=>H4 D=some (.lst ys)/\ys.length<sizeLine/\∃ m',m'<m/\W (i+1) m' (ys++[v]) (upd H4 D (.lst (ys++[v])))
   else ∃ m',m'<m/\W (i+1) m' ys H3)):=by
 refine ⟨fun i m ys H=>m=xs.length-i/\i<=xs.length/\Pv i ys H,⟨xs.length,by simp,Nat.zero_le _,h0⟩,?_⟩
 rintro i m ys H ⟨rfl,hi,p⟩
 obtain ⟨q1,q⟩:=hD i ys H p
 refine ⟨q1,?_⟩
 by_cases hlt:i<xs.length
 .refine .inr ⟨⟨xs,xs[i],q,by simp [hlt]⟩,fun x H' y=>?_⟩
  obtain ⟨e,y⟩:=y
  subst e
  exact hs i x ys _ (y xs q) p
 .have e:i=xs.length:=by lia
  subst e
  exact .inl ⟨⟨xs,q,Nat.le_refl _⟩,hd ys H p⟩
end L2
namespace L2
open PySem PySem.Spec PyProof.Rows
section
variable {X:Cx}{tg:Expr}
end
end L2
namespace L2
open PySem PySem.Spec PyProof.Rows
section
variable {X:Cx}{K:PySem.W.Frag}
end
end L2
namespace L2
open PySem PySem.Spec PyProof.Rows
theorem gn {lo:Int}{n:Nat}{tt:TT}{te:TE}{cap:List Nat}{σ:St}{H:Hp}{D:Addr}{R:Hp->Prop}(Pv:Nat->List V->Hp->Prop)(h0:Pv 0 [] (upd H D (.lst [])))(hD:∀i ys H,Pv i ys H->H D=some (.lst ys))
  (hs:∀i ys H,i<n->Pv i ys H->tt (some (.int (lo+i))::bi cap σ) H fun b H3 =>
   if b=true then te (some (.int (lo+i))::bi cap σ) H3 fun v H4=>H4 D=some (.lst ys)/\ys.length<sizeLine/\∃ m',m'<n-i/\m'=n-(i+1)/\i+1<=n/\Pv (i+1) (ys++[v]) (upd H4 D (.lst (ys++[v])))
   else ∃ m',m'<n-i/\m'=n-(i+1)/\i+1<=n/\Pv (i+1) ys H3)
  (hd:∀ys H,Pv n ys H->R H) :
  ∃ W:Nat->Nat->List V->Hp->Prop,(∃ m,W 0 m [] (upd H D (.lst [])))/\∀i m ys H,W i m ys H->H D=some (.lst ys) /\
  (((Itr lo n).stop i H/\R H)∨((Itr lo n).go i H/\∀x H',(Itr lo n).yld i H x H'->tt (some x::bi cap σ) H' fun b H3 =>
   if b=true then te (some x::bi cap σ) H3 fun v H4=>H4 D=some (.lst ys)/\ys.length<sizeLine/\∃ m',m'<m/\W (i+1) m' (ys++[v]) (upd H4 D (.lst (ys++[v])))
   else ∃ m',m'<m/\W (i+1) m' ys H3)):=kZ (Q:=fun _ H=>R H) Pv h0 hD hs hd
end L2
end
section
namespace L2
open PySem PySem.Spec PyProof.Rows
end L2
namespace L2
open PySem
end L2
end
section
namespace Gm
open Hg
section
variable {N:Type}[DecidableEq N][Inhabited N]{sl:N->N->Bool}
end
end Gm
end
section
namespace Gm
open Hg
section
variable {N:Type}[DecidableEq N][Inhabited N]{sl:N->N->Bool}
theorem nodup_len {α:Type}[DecidableEq α]:∀{G R:List α},G.Nodup->(∀e∈G,e∈R)->G.length<=R.length
 | [],R,_,_=>Nat.zero_le _
 | a::l,R,nd,h=>by
  rw [List.nodup_cons] at nd
  have ih:=nodup_len (R:=R.erase a) nd.2 fun e he=>(List.mem_erase_of_ne (fun (z:e=a)=>nd.1 (z▸he))).mpr (h e (List.mem_cons_of_mem _ he))
  have m:=h a List.mem_cons_self
  rw [List.length_erase_of_mem m] at ih
  have:=List.length_pos_of_mem m
  rw [List.length_cons]
  lia
end
section
variable {N:Type}[DecidableEq N]{β:Type}
structure Tw (t t':List (N×β)):Prop where
 n1:(t.map (·.1)).Nodup
 n2:(t'.map (·.1)).Nodup
 mem:∀p,p∈t↔p∈t'
theorem Tw.refl {t:List (N×β)}(n:(t.map (·.1)).Nodup):Tw t t:=⟨n,n,fun _=>Iff.rfl⟩
theorem Tw.get {t t':List (N×β)}(h:Tw t t')(n:N):dget t n=dget t' n:=by
 cases e:dget t n with
 | some b=>exact (dget_of h.n2 ((h.mem _).mp (dget_some e))).symm
 | none =>
  cases e':dget t' n with
  | none=>rfl
  | some b =>
   rw [dget_of h.n1 ((h.mem _).mpr (dget_some e'))] at e
   cases e
theorem gU {t:List (N×β)}(h:(t.map (·.1)).Nodup):t.Nodup:=List.Pairwise.of_map _ (fun _ _ h z=>h (congrArg _ z)) h
theorem Tw.perm {t t':List (N×β)}(h:Tw t t'):t.Perm t':=(List.perm_ext_iff_of_nodup (gU h.n1) (gU h.n2)).mpr h.mem
theorem Tw.len {t t':List (N×β)}(h:Tw t t'):t.length=t'.length:=h.perm.length_eq
theorem Tw.nil {t t':List (N×β)}(h:Tw t t'):t=[]↔t'=[]:=by rw [<-List.length_eq_zero_iff,<-List.length_eq_zero_iff,h.len]
theorem fu {t:List (N×β)}{n m:N}{b c:β}:(m,c)∈dput t n b↔(m=n/\c=b)∨(m≠n/\(m,c)∈t):=⟨dput_mem,fun h=>by
 rcases h with ⟨rfl,rfl⟩ | ⟨h1,h2⟩
 .exact iD
 .exact n6 h2 h1⟩
theorem Tw.put {t t':List (N×β)}(h:Tw t t')(n:N)(b:β):Tw (dput t n b) (dput t' n b):=⟨cL h.n1,cL h.n2,fun ⟨m,c⟩=>by rw [fu,fu,h.mem]⟩
theorem Tw.del {t t':List (N×β)}(h:Tw t t')(n:N):Tw (ddel t n) (ddel t' n):=⟨ddel_nd h.n1,ddel_nd h.n2,fun ⟨m,c⟩=>by rw [ddel_mem,ddel_mem,h.mem]⟩
theorem Tw.chg {t t':List (N×β)}(h:Tw t t')(n:N)(b:β):Tw (dput (ddel t n) n b) (dput t' n b):=⟨cL (ddel_nd h.n1),cL h.n2,fun ⟨m,c⟩=>by
 rw [fu,fu,ddel_mem,h.mem]
 constructor
 .rintro (z | ⟨z,_,y⟩)
  .exact .inl z
  .exact .inr ⟨z,y⟩
 .rintro (z | ⟨z,y⟩)
  .exact .inl z
  .exact .inr ⟨z,z,y⟩⟩
end
end Gm
namespace L2
open PySem
end L2
namespace L2
open PySem
end L2
end
section
namespace L2
open PySem
def ltr (i:Nat):Str:=⟨#[97+i]⟩
theorem pZ {i:Nat}(h:i<26):atI ("abcdefghijklmnopqrstuvwxyz":Str).cps.toList (i:Int)=some (97+i):=by
 have:∀i:Nat,i<26->atI ("abcdefghijklmnopqrstuvwxyz":Str).cps.toList (i:Int)=some (97+i):=by decide +kernel
 exact this i h
section
variable {t:Tb}{ns:List Int}{lo hi:Nat}
end
end L2
end
section
namespace L2
open PySem
def psV (e:En):List V:=[.int e.w,.int e.s]
def KP (H:Hp)(ks:List (Key×V))(T:List (Str×En)):Prop:=Paired (fun (kv:Key×V) (ne:Str×En)=>kv.1=Sum.inr ne.1/\∃ a,kv.2=.ref a/\H a=some (.tup (psV ne.2))) ks T
section
variable {H H':Hp}{ks:List (Key×V)}{T:List (Str×En)}
theorem KP.nil:KP H [] []:=Paired.nil
theorem KP.len (r:KP H ks T):ks.length=T.length:=Paired.length r
theorem KP.stay (r:KP H ks T)(k:∀b l,H b=some (.tup l)->H' b=some (.tup l)):KP H' ks T:=Paired.mapP r fun p q ⟨a,b,c,d⟩=>⟨a,b,c,k _ _ d⟩
theorem KP.keys (r:KP H ks T):ks.map (·.1)=(T.map (·.1)).map Sum.inr:=by
 induction r with
 | nil=>rfl
 | cons h _ ih=>rw [List.map_cons,List.map_cons,List.map_cons,ih,h.1]
theorem KP.get (r:KP H ks T)(n:Str):(bn ks (Sum.inr n)=none/\Gm.dget T n=none)∨∃ a e,bn ks (Sum.inr n)=some (.ref a)/\Gm.dget T n=some e/\H a=some (.tup (psV e)):=by
 induction r with
 | nil=>exact .inl ⟨rfl,rfl⟩
 | @cons p q l l' h _ ih =>
  obtain ⟨h1,a,h2,h3⟩:=h
  by_cases e:q.1=n
  .refine .inr ⟨a,q.2,?_,?_,h3⟩
   .rw [cQ (by rw [h1,e]),h2]
   .unfold Gm.dget
    rw [List.find?_cons,decide_eq_true e]
    rfl
  .have e1:bn (p::l) (Sum.inr n)=bn l (Sum.inr n):=cZ (by rw [h1];exact dj e)
   have e2:Gm.dget (q::l') n=Gm.dget l' n:=by unfold Gm.dget;rw [List.find?_cons,decide_eq_false e]
   rw [e1,e2]
   exact ih
theorem KP.put (r:KP H ks T){n:Str}{a:Addr}{e:En}(h:H a=some (.tup (psV e))):KP H (a7 ks (Sum.inr n) (.ref a)) (Gm.dput T n e):=by
 have ha:(ks.any fun kv=>decide (kv.1=Sum.inr n))=T.any fun p=>decide (p.1=n):=by
  induction r with
  | nil=>rfl
  | @cons p q l l' hh _ ih =>
   rw [List.any_cons,List.any_cons,ih,hh.1]
   congr 1
   by_cases z:q.1=n
   .rw [decide_eq_true z,decide_eq_true (by rw [z])]
   .rw [decide_eq_false z,decide_eq_false (dj z)]
 have hm:KP H (ks.map fun kv=>if kv.1=Sum.inr n then (kv.1,V.ref a) else kv) (T.map fun p=>if p.1=n then (p.1,e) else p):=by
  clear ha
  induction r with
  | nil=>exact .nil
  | @cons p q l l' hh _ ih =>
   rw [List.map_cons,List.map_cons]
   refine .cons ?_ ih
   obtain ⟨h1,b,h2,h3⟩:=hh
   by_cases z:q.1=n
   .rw [if_pos z,if_pos (by rw [h1,z])]
    exact ⟨h1,a,rfl,h⟩
   .rw [if_neg z,if_neg (by rw [h1];exact dj z)]
    exact ⟨h1,b,h2,h3⟩
 have hs:KP H (ks++[(Sum.inr n,V.ref a)]) (T++[(n,e)]):=by
  clear ha hm
  induction r with
  | nil=>exact .cons ⟨rfl,a,rfl,h⟩ .nil
  | cons hh _ ih=>exact .cons hh ih
 unfold a7 Gm.dput
 rw [ha]
 split
 .exact hm
 .exact hs
theorem KP.drop (r:KP H ks T)(n:Str):KP H (bw ks (Sum.inr n)) (Gm.ddel T n):=by
 unfold Gm.ddel bw
 induction r with
 | nil=>exact .nil
 | @cons p q l l' hh _ ih =>
  rw [List.filter_cons,List.filter_cons]
  by_cases z:q.1=n
  .rw [if_neg (by rw [hh.1,z];simp),if_neg (by simp [z])]
   exact ih
  .rw [if_pos (by rw [hh.1];exact decide_eq_true (dj z)),if_pos (by simp [z])]
   exact .cons hh ih
theorem KP.at (r:KP H ks T){i:Nat}{k:Key}{v:V}(h:ks[i]?=some (k,v)):∃ n e,T[i]?=some (n,e)/\k=Sum.inr n:=by
 induction r generalizing i with
 | nil=>cases h
 | @cons p q l l' hh _ ih =>
  cases i with
  | zero =>
   have e:p=(k,v):=Option.some.inj h
   subst e
   exact ⟨q.1,q.2,rfl,hh.1⟩
  | succ i=>exact ih h
end
end L2
namespace L2
open PySem PySem.W PySem.Spec PySem.Calls PyProof.Rows
theorem hU {X:Cx}{K:Frag}(h:X.K=K):bH X (.builtin "len") (fun xs H Q=>∃ p ys,xs=[.ref p]/\(SqL K H p ys∨SqT K H p ys)/\Q (.int ys.length) H):=by subst h;exact aL
theorem wP {X:Cx}{K:Frag}{e:Expr}{es:List Expr}{o:Expr}{to:TE}{t:TA}{name:Str}{apos cpos:Pos}{T id:String}{r:V->List V->Hp->VK->Prop}(hK:X.K=K)(pa:PlainAttrs T)(slot:Slot T name id)(hty:typeOf (.builtin id)=pure (.type "method_descriptor"))(hm:MtR X id r)(ho:QE X o to)(ha:QA X (e::es) t)
  (hbase:attributeBase o name X.env (eval o X.env)=eval o X.env:=by rfl)
  (hfew:((backTo cpos (starEach (e::es) X.env)).all (fun x=>!x.1)&&(backToKw cpos (keywordEach [] X.env)).all (fun x=>x.1.isSome)
   && decide ((e::es).length+([]:List Keyword).length+(if ([]:List Keyword).isEmpty then 0 else 1)<30))=true:=by rfl)
  (hline:(apos.endLine == cpos.line)=true:=by rfl) (hs:starEach (e::es) X.env=(false,eval e X.env)::starEach es X.env:=by rfl) (hplain:(backTo cpos (starEach es X.env)).any (·.1)=false:=by rfl) :
  QE X (.Call (.Attribute o name apos) (e::es) [] cpos) (tBM K T r to t):=by subst hK;exact .mk (vt pa slot hty hm ho.to ha.to hbase hfew hline hs hplain)
end L2
namespace Gm
open Hg
section
variable {N:Type}[DecidableEq N][Inhabited N]{sl:N->N->Bool}
end
end Gm
end
section
namespace PySem
namespace F
end F
section
variable {prog:Program}{w:World}{A:Around}{E:Value->Shared->Prop}{s:Shared}
end
end PySem
namespace PySem
section
variable {prog:Program}{w:World}{K:Type}[DecidableEq K]{knd:KeyKind prog w K}{A:Around}{R:Result->Shared->Prop}{I ax d:Addr}{items:Array Value}{kvs:List (K×Value)}
end
end PySem
namespace PySem
section
variable {prog:Program}{w:World}{K:Type}[DecidableEq K]{knd:KeyKind prog w K}{A:Around}{E:Value->Shared->Prop}{s:Shared}
end
end PySem
namespace L2
open PySem PySem.W PySem.Spec PySem.Calls PyProof.Rows
section
variable {X:Cx}{pins:List (Addr×Obj)}{σ:St}{H:Hp}{s:Shared}{d:Addr}
end
end L2
end
section
namespace L2
open PySem PySem.Spec PyProof.Rows
end L2
namespace L2
open PySem
end L2
end
section
namespace L2
open PySem PySem.W PySem.Spec PySem.Calls PyProof.Rows
open PySem.SeqAt (EqAt RcAt RcNeAt)
section
variable {X:Cx}
end
section
variable {X:Cx}{a b c:Expr}{ta tb tc:TE}{pos:Pos}
end
end L2
end
section
namespace Gm
open Hg
section
variable {N:Type}[DecidableEq N][Inhabited N]{sl:N->N->Bool}
theorem dget_put {L:List (N×En N)}{n m:N}{b:En N}(nd:(L.map (·.1)).Nodup):dget (dput L n b) m=if m=n then some b else dget L m:=by
 by_cases h:m=n
 .subst h
  rw [if_pos rfl]
  exact dget_of (cL nd) iD
 .rw [if_neg h]
  cases e:dget L m with
  | none =>
   rw [dget_none] at e ⊢
   intro z
   obtain ⟨⟨m',c⟩,h1,h2⟩:=List.mem_map.mp z
   cases h2
   rcases dput_mem h1 with ⟨q,_⟩ | ⟨_,q⟩
   .exact h q
   .exact e (List.mem_map.mpr ⟨_,q,rfl⟩)
  | some c=>exact dget_of (cL nd) (n6 (dget_some e) h)
end
end Gm
namespace L2
open PySem
theorem bP {α β:Type}{F:α->β->Prop}{l:List α}{l':List β}(r:Paired F l l'):∀{i:Nat} {a:α},l[i]?=some a->∃ b,l'[i]?=some b/\F a b:=by
 induction r with
 | nil=>intro i a h;cases h
 | @cons x y l l' h _ ih =>
  intro i a e
  cases i with
  | zero=>cases e;exact ⟨y,rfl,h⟩
  | succ i=>exact ih e
end L2
end
section
namespace L2
open PySem
theorem oP {T:List (Str×En)}(nd:(T.map (·.1)).Nodup){n:Str}{e:En}(h:(n,e)∈T):((n,e)::Gm.ddel T n).Perm T:=by
 induction T with
 | nil=>cases h
 | cons p T ih =>
  rw [List.map_cons,List.nodup_cons] at nd
  rcases List.mem_cons.mp h with q | q
  .subst q
   have e1:Gm.ddel ((n,e)::T) n=T:=by
    unfold Gm.ddel
    rw [List.filter_cons,if_neg (by simp)]
    rw [List.filter_eq_self]
    intro p hp
    exact decide_eq_true fun z=>nd.1 (List.mem_map.mpr ⟨p,hp,z⟩)
   rw [e1]
  .have ne:p.1≠n:=fun z=>nd.1 (List.mem_map.mpr ⟨_,q,z.symm⟩)
   have e1:Gm.ddel (p::T) n=p::Gm.ddel T n:=by
    unfold Gm.ddel
    rw [List.filter_cons,if_pos (decide_eq_true ne)]
   rw [e1]
   exact (List.Perm.swap _ _ _).trans ((ih nd.2 q).cons p)
end L2
namespace L2
open PySem PySem.W PySem.Spec PySem.Calls PyProof.Rows
end L2
end
section
namespace L2
open PySem
section
variable {K:PySem.W.Frag}{H H':Hp}{sc b:Addr}{xs:List V}
def KSq (K:PySem.W.Frag)(a:Addr)(xs:List V):Prop:=∃ (o:Obj) (its:Array Value) (n:Nat),K.lookup a=some o/\o.cls=.type "list"/\o.dict=none/\o.data=.seq its n/\its.size<=sizeLine/\Vals xs its.toList
def Off (K:PySem.W.Frag)(sc:Addr)(xs:List V)(b:Addr):Prop:=b≠sc∨KSq K sc xs
theorem SqL.fresh (h:SqL K H sc xs)(e:H b=none):Off K sc xs b:=by
 rcases h with h | h
 .refine .inl fun z=>?_
  rw [z] at e
  rcases h with h | ⟨o,h⟩ <;> (rw [h] at e;cases e)
 .exact .inr h
theorem SqL.unlike (h:SqL K H sc xs){u:HO}(e:H b=some u)(n:∀ys,u=.lst ys->ys≠xs)(n2:∀o v,u≠.frz o v):Off K sc xs b:=by
 rcases h with h | h
 .refine .inl fun z=>?_
  rw [z] at e
  rcases h with h | ⟨o,h⟩
  .rw [h] at e;cases e;exact n _ rfl rfl
  .rw [h] at e;cases e;exact n2 _ _ rfl
 .exact .inr h
theorem SqL.kept {F:List Addr}(h:SqL K H sc xs)(hF:∀b∈F,Off K sc xs b)(k:Kept F H H'):SqL K H' sc xs:=by
 rcases h with h | h
 .by_cases z:sc∈F
  .rcases hF sc z with q | q
   .exact absurd rfl q
   .exact .inr q
  .refine .inl ?_
   rcases h with h | ⟨o,h⟩
   .exact .inl (k _ _ h z)
   .exact .inr ⟨o,k _ _ h z⟩
 .exact .inr h
theorem SqL.same' (h:SqL K H sc xs)(k:Same H H'):SqL K H' sc xs:=h.kept (F:=[]) (fun _ z=>nomatch z) fun b o e _=>k b o e
end
structure Pile (K:PySem.W.Frag)(H:Hp)(pl sc:Addr)(ns:List Int):Prop where
 to:∃ a b c e:Int,H pl=some (.lst [.ref sc,.int a,.int b,.int c,.int e])/\0<=a/\0<=c/\c<2147483629
 hs:SqL K H sc (ns.map V.int)
 ln:ns.length<=63
section
variable {K:PySem.W.Frag}{H H':Hp}{pl sc b:Addr}{ns:List Int}
theorem tN {x:V}{l:List V}{ns:List Int}(hx:∀i,x≠.int i):(x::l)≠ns.map V.int:=fun z=>by
 cases ns with
 | nil=>cases z
 | cons n ns =>
  rw [List.map_cons] at z
  injection z with z _
  exact hx n z
theorem Pile.offP (P:Pile K H pl sc ns):Off K sc (ns.map V.int) pl:=by
 obtain ⟨a,b,c,e,h,_⟩:=P.to
 exact P.hs.unlike h (fun ys z=>by cases z;exact tN fun i=>by intro z;cases z) (fun _ _ z=>nomatch z)
theorem Pile.kept {F:List Addr}(P:Pile K H pl sc ns)(hF:∀b∈F,b≠pl/\Off K sc (ns.map V.int) b)(k:Kept F H H'):Pile K H' pl sc ns:=by
 obtain ⟨a,b,c,e,h,r⟩:=P.to
 exact ⟨⟨a,b,c,e,k _ _ h (fun z=>(hF _ z).1 rfl),r⟩,P.hs.kept (fun b hb=>(hF b hb).2) k,P.ln⟩
theorem Pile.same (P:Pile K H pl sc ns)(k:Same H H'):Pile K H' pl sc ns:=P.kept (F:=[]) (fun _ z=>nomatch z) fun b o e _=>k b o e
theorem Pile.there (P:Pile K H pl sc ns):∃ u,H pl=some u:=let ⟨_,_,_,_,h,_⟩:=P.to;⟨_,h⟩
theorem Pile.new (P:Pile K H pl sc ns)(e:H b=none):b≠pl/\Off K sc (ns.map V.int) b:=by
 obtain ⟨u,h⟩:=P.there
 exact ⟨(am h e).symm,P.hs.fresh e⟩
theorem Pile.unlike (P:Pile K H pl sc ns){u:HO}(e:H b=some u)(n:∀ys,u≠.lst ys)(n2:∀o v,u≠.frz o v):b≠pl/\Off K sc (ns.map V.int) b:=by
 obtain ⟨a1,b1,c1,e1,h,_⟩:=P.to
 exact ⟨fun z=>by rw [z,h] at e;cases e;exact n _ rfl,P.hs.unlike e (fun ys z=>absurd z (n ys)) n2⟩
theorem Pile.put {a b' c e:Int}(P:Pile K H pl sc ns)(h0:0<=a)(h1:0<=c)(h2:c<2147483629):Pile K (upd H pl (.lst [.ref sc,.int a,.int b',.int c,.int e])) pl sc ns :=
 ⟨⟨a,b',c,e,ae,h0,h1,h2⟩,P.hs.kept (F:=[pl]) (fun b hb=>by rw [List.mem_singleton.mp hb];exact P.offP) (Kept.refl.put (by simp)),P.ln⟩
end
def gk (K:PySem.W.Frag):Sp:=fun vs H Q _=>∃ (pl sc:Addr) (ns:List Int) (most:Int),vs=[.ref pl,.int most]/\Pile K H pl sc ns/\0<most/\most<2 ^ 120 /\
 ∀x H',0<=x->x<most->Pile K H' pl sc ns->Kept [pl] H H'->(∀b,H b=none->H' b=none)->Q (.int x) H'
end L2
end
section
namespace L2
open PySem PySem.W PySem.Spec PySem.Calls PyProof.Rows
section
variable {X:Cx}
theorem qe:SlR X (fun x lo hi H Q=>∃ z,x=.str z/\z.length<=sizeLine/\Q (.str (Txt.slice z lo hi)) H):=by
 intro pins s σ H x v vl vu lo hi sl Q I rx hs pl pu h
 obtain ⟨z,rfl,hz,q⟩:=h
 obtain ⟨t,rfl⟩:=rx
 have fin:∀(l u:Option Int),lo=l->hi=u->∀t' k,EP X pins σ Q (.str (Txt.slice z l u) t') { s with toks:=k }:=fun l u e1 e2 t' k=>by
  subst e1 e2
  exact ⟨.str _,H,I.tok _,⟨t',rfl⟩,q⟩
 cases pl with
 | none =>
  cases pu with
  | none=>exact ⟨"str",_,PySem.F.slot_str_getitem.lookup,typeIs_str _ _ _,wpAny_getItem_str_slice (l:=none) (u:=none) (st:=none) hs rfl (post_val_or_str ⟨Nat.le_trans (Txt.slice_le z _ _) hz,fin none none rfl rfl⟩)⟩
  | int j u=>exact ⟨"str",_,PySem.F.slot_str_getitem.lookup,typeIs_str _ _ _,wpAny_getItem_str_slice (l:=none) (u:=some (j,u)) (st:=none) hs rfl (post_val_or_str ⟨Nat.le_trans (Txt.slice_le z _ _) hz,fin none (some j) rfl rfl⟩)⟩
 | int i u0 =>
  cases pu with
  | none=>exact ⟨"str",_,PySem.F.slot_str_getitem.lookup,typeIs_str _ _ _,wpAny_getItem_str_slice (l:=some (i,u0)) (u:=none) (st:=none) hs rfl (post_val_or_str ⟨Nat.le_trans (Txt.slice_le z _ _) hz,fin (some i) none rfl rfl⟩)⟩
  | int j u=>exact ⟨"str",_,PySem.F.slot_str_getitem.lookup,typeIs_str _ _ _,wpAny_getItem_str_slice (l:=some (i,u0)) (u:=some (j,u)) (st:=none) hs rfl (post_val_or_str ⟨Nat.le_trans (Txt.slice_le z _ _) hz,fin (some i) (some j) rfl rfl⟩)⟩
theorem kG:∀{zs:List Str} {its:List Value},Vals (zs.map V.str) its->∃ l:List (Str×Tok),its=strValues l/\l.map (·.1)=zs
 | [],_,.nil=>⟨[],rfl,rfl⟩
 | z::zs,_,.cons r rs=>by
  obtain ⟨t,rfl⟩:=(show ∃ t,_=Value.str z t from r)
  obtain ⟨l,e1,e2⟩:=kG rs
  exact ⟨(z,t)::l,by rw [e1];rfl,by rw [<-e2];rfl⟩
theorem uh:MtR X "str.join" (fun x xs H Q=>∃ (sep:Str) (p:Addr) (zs:List Str),x=.str sep/\xs=[.ref p]/\SqL X.K H p (zs.map V.str)/\sep.length<=100/\zs.length<=1000/\(∀y∈zs,y.length<=100)/\Q (.str (Txt.join sep zs)) H):=by
 intro pins s σ H x xs v us Q I rx rv h
 obtain ⟨sep,p,zs,rfl,rfl,hp,h1,h2,h3,q⟩:=h
 obtain ⟨t,rfl⟩:=rx
 obtain ⟨u,rfl,ru⟩:=cY rv
 cases ru
 obtain ⟨its,r,pl,hz⟩:=I.list hp
 obtain ⟨l,e1,e2⟩:=kG r
 subst e1
 refine SC.join (l:=l) (texts:=zs) pl.isList e2 ?_ fun t' k=>⟨.str _,H,I.tok _,⟨t',rfl⟩,q⟩
 have m1:zs.length*100<=1000*100:=Nat.mul_le_mul_right _ h2
 have m2:zs.length*sep.length<=1000*100:=Nat.mul_le_mul h2 h1
 have:=StrLaws.joinFits (sep:=sep) (texts:=zs) (B:=100) h3 (by lia)
 unfold JoinOk
 rw [Bool.not_eq_true']
 exact this
theorem pN {zs:List Str}(h:∀y∈zs,y.length<=1):(Txt.join "" zs).length<=zs.length:=by
 have e:Txt.join "" zs=Str.join "" zs:=StrLaws.glued_eq_join "" zs
 rw [e]
 have a:=StrLaws.join_length_le "" zs
 have b:(zs.map (·.length)).sum<=zs.length:=by
  clear a e
  induction zs with
  | nil=>exact Nat.le_refl _
  | cons z zs ih =>
   have h1:=h z List.mem_cons_self
   have h2:=ih fun y hy=>h y (List.mem_cons_of_mem _ hy)
   rw [List.map_cons,List.sum_cons,List.length_cons]
   lia
 have c:(("":Str)).length=0:=rfl
 rw [c] at a
 lia
end
end L2
end
section
namespace L2
open PySem PyProof.Rows
section
variable {X:Cx}
theorem gL {x y:V}{us:List Value}(r:Vals [x,y] us):∃ u v,us=[u,v]/\RelV x u/\RelV y v:=by
 cases r with
 | cons r1 r2 =>
  cases r2 with
  | cons r3 r4=>cases r4;exact ⟨_,_,rfl,r1,r3⟩
end
end L2
end
section
namespace L2
open PySem PyProof.Rows
def nwV (k:Str×Int):List V:=[.str k.1,.int k.2]
def ltN (a b:Str×Int):Bool:=bT (nwV a) (nwV b)
def nwOrd:KeyOrd:=lW strKind.toKeyOrd mw
def mO (p:Str×Int):nwOrd.α:=(p.1.cps.toList,p.2)
theorem ig {a b:Str×Int}:nwOrd.blt (mO a) (mO b)=ltN a b:=by
 have h:=oM (a:=[.int 0,.str a.1,.int a.2]) (b:=[.int 0,.str b.1,.int b.2]) ⟨_,_,_,rfl⟩ ⟨_,_,_,rfl⟩
 rw [aY,if_pos rfl] at h
 show (decide (a.1.cps.toList<b.1.cps.toList) || (!decide (b.1.cps.toList<a.1.cps.toList)&&decide (a.2<b.2)))=bT [.str a.1,.int a.2] [.str b.1,.int b.2]
 rw [<-h]
 show _=(decide ((0:Int)<0) || (!decide ((0:Int)<0)&&(decide (a.1.cps.toList<b.1.cps.toList) || (!decide (b.1.cps.toList<a.1.cps.toList)&&decide (a.2<b.2)))))
 rw [show decide ((0:Int)<0)=false from by decide,Bool.not_false,Bool.true_and,Bool.false_or]
def ju (key:V->Str×Int):KeyKind:={ nwOrd with keyOf:=fun v=>some (mO (key (ff v))),dflt:=mO ("",0) }
section
variable {X:Cx}
def NwL (K:PySem.W.Frag)(H:Hp)(key:V->Str×Int)(xs:List V):Prop:=∀x∈xs,∃ a,x=.ref a/\SqT K H a (nwV (key x))
theorem o5 {pins:List (Addr×Obj)}{σ:St}{H:Hp}{s:Shared}(I:Inv X pins σ H s){key:V->Str×Int}{xs:List V}{vs:List Value}(r:Vals xs vs)(he:NwL X.K H key xs)
  (h':Heap) (kp:∀b o,s.heap.get? b=some o->h'.get? b=some o) (A:Around):TS.Cmp X.prog X.w A { s with heap:=h' } (ju key) (tuples' true) (pairsOf vs):=by
 refine ⟨fun x y hx hy E Q q=>?_⟩
 have at':∀p:Keyed,p∈(pairsOf vs).toList->∃ a its,p.1=.ref a/\Vals (nwV (key (.ref a))) its/\IsTup h' a its.toArray:=fun p hp=>by
  rw [pairsOf_toList] at hp
  obtain ⟨e1,m⟩:=mem_zip_self hp
  obtain ⟨j,hj,ej⟩:=List.getElem_of_mem m
  have hxj:∃ x,xs[j]?=some x:=⟨xs[j]'(by rw [r.length];exact hj),List.getElem?_eq_getElem _⟩
  obtain ⟨x,hxj⟩:=hxj
  obtain ⟨u,hu,ru⟩:=r.get hxj
  rw [List.getElem?_eq_getElem hj,ej] at hu
  cases hu
  obtain ⟨a,ea,hq⟩:=he x (List.mem_of_getElem? hxj)
  subst ea
  obtain ⟨its,rv,it,_⟩:=I.tuple hq
  refine ⟨a,its,ru,rv,?_⟩
  obtain ⟨o,ho,rest⟩:=it
  exact ⟨o,kp a o ho,rest⟩
 obtain ⟨a,its,ea,ra,ta⟩:=at' x hx
 obtain ⟨b,its',eb,rb,tb⟩:=at' y hy
 have eL:TS.Lb (ju key) x y=ltN (key (.ref a)) (key (.ref b)):=by
  unfold TS.Lb TS.kf
  rw [ea,eb]
  exact ig
 rw [eL] at q
 rw [ea,eb]
 generalize key (.ref a)=ka at ra q
 generalize key (.ref b)=kb at rb q
 obtain ⟨n,i⟩:=ka
 obtain ⟨n',i'⟩:=kb
 unfold ltN at q
 unfold nwV at ra rb q
 obtain ⟨u1,u2,rfl,r1,r2⟩:=gL ra
 obtain ⟨w1,w2,rfl,q1,q2⟩:=gL rb
 obtain ⟨o,ho,hc,nn,hd⟩:=ta
 obtain ⟨o',ho',hc',nn',hd'⟩:=tb
 refine PySem.W.kat_lt (s:={ s with heap:=h' }) ho hd ho' hd' ?_
 show PySem.W.KatLex _ _ _ _ _ Q [(u1,w1),(u2,w2)] 0 _
 refine PySem.W.kat_cons ?_
 obtain ⟨e,heq,hiff⟩:=bI A { s with heap:=h' } (a:=.str n) (c:=.str n') trivial r1 q1
 refine heq _ _ _ _ (PySem.W.kat_go (fun e1=>PySem.W.kat_yes ?_) (fun e1=>PySem.W.kat_no ?_))
 .rw [aY,if_pos (hiff.mp e1)] at q
  refine PySem.W.kat_cons ?_
  obtain ⟨e',heq',hiff'⟩:=bI A { s with heap:=h' } (a:=.int i) (c:=.int i') trivial r2 q2
  refine heq' _ _ _ _ (PySem.W.kat_go (fun e1=>PySem.W.kat_yes ?_) (fun e1=>PySem.W.kat_no ?_))
  .rw [aY,if_pos (hiff'.mp e1)] at q
   exact PySem.W.kat_nil (by simpa [bT] using q)
  .rw [aY,if_neg (fun z=>by rw [hiff'.mpr z] at e1;cases e1)] at q
   exact PySem.W.kat_one _ _ (show wpAny _ _ (richCompare .Lt u2 w2) _ _ _ from j7 A _ (a:=.int i) (c:=.int i') trivial r2 q2 _ _ q)
 .rw [aY,if_neg (fun z=>by rw [hiff.mpr z] at e1;cases e1)] at q
  obtain ⟨t,rfl⟩:=r1
  obtain ⟨t',rfl⟩:=q1
  exact oneLt_str q
theorem ni {pins:List (Addr×Obj)}{σ:St}{H:Hp}{s:Shared}(I:Inv X pins σ H s){key:V->Str×Int}(h':Heap)(kp:∀b o,s.heap.get? b=some o->h'.get? b=some o):∀{xs:List V} {vs:List Value},Vals xs vs->NwL X.K H key xs ->
  ∃ fs,PySem.W.KatTups h' vs fs/\fs.length=vs.length/\∀v∈fs,∃ i t,v=Value.str i t
 | _,_,.nil,_=>⟨[],PySem.W.KatTups.nil,rfl,fun v hv=>by cases hv⟩
 | x::xs,v::vs,.cons r t,he=>by
  obtain ⟨fs,k,l,f⟩:=ni I h' kp t fun y hy=>he y (List.mem_cons_of_mem _ hy)
  obtain ⟨a,rfl,hq⟩:=he x List.mem_cons_self
  cases r
  obtain ⟨its,rv,it,_⟩:=I.tuple hq
  obtain ⟨u1,u2,rfl,⟨tt,rfl⟩,r2⟩:=gL rv
  obtain ⟨o,ho,hc,nn,hd⟩:=it
  refine ⟨.str (key (.ref a)).1 tt::fs,PySem.W.KatTups.cons (kp a o ho) hc hd rfl k,by simp [l],fun v hv=>?_⟩
  rcases List.mem_cons.mp hv with z | z
  .exact ⟨_,tt,z⟩
  .exact f v z
theorem hJ:bH X (.builtin "sorted") (fun zs H Q=>∃ p xs key,zs=[.ref p]/\SqT X.K H p xs/\NwL X.K H key xs /\
  ∀l ys,H l=none->ys.Perm xs->ys.Pairwise (fun x y=>ltN (key y) (key x)=false)->Q (.ref l) (upd H l (.lst ys))):=by
 intro pins s σ H zs us Q I r h
 obtain ⟨p,xs,key,rfl,hq,he,q⟩:=h
 obtain ⟨u,rfl,ru⟩:=cY r
 cases ru
 obtain ⟨its,rv,pl,hz⟩:=I.tuple hq
 have hlen:=rv.length
 refine TS.sorted_anyT (kd:=tuples' true) (κ:=ju key) (by obtain ⟨o,h1,h2,n,h3⟩:=pl;exact ⟨o,n,h1,h2,h3⟩) (by lia) (fun h' kp h2 E A Q q=>?_) (fun h' kp h2 A=>o5 I rv he h' kp A) fun st' pm up=>?_
 .obtain ⟨fs,k,l,f⟩:=ni I h' kp rv he
  refine PySem.W.kat_kind (s:={ s with heap:=h' }) (T:=.type "str") k (by lia) (fun v hv=>?_) (by decide) q
  obtain ⟨i,t,rfl⟩:=f v hv
  exact PySem.W.Looks.of_pure rfl
 .obtain ⟨e,he2⟩:=sortedAll_at s.heap its ((arrOf st').map (·.2))
  have pm':(arrOf st').toList.Perm (its.zip its):=by rw [<-pairsOf_toList];exact Array.perm_iff_toList_perm.mp pm
  have mem:∀k∈(arrOf st').toList,k.1=k.2/\∃ x∈xs,RelV x k.2/\∃ a,k.2=.ref a/\x=.ref a:=fun k hk=>by
   obtain ⟨e1,m⟩:=mem_zip_self (pm'.mem_iff.mp hk)
   refine ⟨e1,?_⟩
   obtain ⟨j,hj,ej⟩:=List.getElem_of_mem m
   have hxj:xs[j]?=some (xs[j]'(by lia)):=List.getElem?_eq_getElem _
   obtain ⟨u,hu,ru⟩:=rv.get hxj
   rw [List.getElem?_eq_getElem hj,ej] at hu
   cases hu
   obtain ⟨a,ea,_⟩:=he _ (List.mem_of_getElem? hxj)
   refine ⟨_,List.mem_of_getElem? hxj,by rw [<-e1];exact ru,a,?_,ea⟩
   rw [ea] at ru
   rw [<-e1];exact ru
  have hsz:(arrOf st').toList.length=xs.length:=by rw [pm'.length_eq,List.length_zip];lia
  have vs':∀l:List Keyed,(∀k∈l,∃ a,k.2=.ref a)->Vals (l.map fun k=>ff k.2) (l.map (·.2)):=by
   intro l
   induction l with
   | nil=>intro _;exact .nil
   | cons k l ih =>
    intro f
    obtain ⟨a,ea⟩:=f k List.mem_cons_self
    refine .cons ?_ (ih fun k' hk'=>f k' (List.mem_cons_of_mem _ hk'))
    show RelV (ff k.2) k.2
    rw [ea];rfl
  have xsb:xs=its.map ff:=by
   have aux:∀{xs:List V} {us:List Value},Vals xs us->(∀x∈xs,∃ a,x=.ref a)->xs=us.map ff:=by
    intro xs us r
    induction r with
    | nil=>intro _;rfl
    | @cons x u xs us r t ih =>
     intro f
     obtain ⟨a,rfl⟩:=f x List.mem_cons_self
     cases r
     rw [List.map_cons,<-ih fun y hy=>f y (List.mem_cons_of_mem _ hy)]
     rfl
   exact aux rv fun x hx=>by obtain ⟨a,e,_⟩:=he x hx;exact ⟨a,e⟩
  refine ⟨.ref (s.heap.objs.size+1),upd H (s.heap.objs.size+1) (.lst ((arrOf st').toList.map fun k=>ff k.2)),I.laid (t':=s.toks) (fun b o e=>sortedAll_old e) (Nat.le_succ _) ?_,rfl,q _ _ (I.hok.fresh (Nat.le_succ _)) ?_ ?_⟩
  .refine ⟨by rw [List.length_map,hsz];exact hz,(arrOf st').toList.map (·.2),e,vs' _ fun k hk=>?_,?_⟩
   .obtain ⟨_,x,_,_,a,ea,_⟩:=mem k hk
    exact ⟨a,ea⟩
   .rw [he2,<-Array.toList_map]
  .have e3:(its.zip its).map (fun k:Keyed=>ff k.2)=xs:=by
    rw [xsb]
    have aux:∀l:List Value,(l.zip l).map (fun k:Keyed=>ff k.2)=l.map ff:=by
     intro l
     induction l with
     | nil=>rfl
     | cons a l ih=>rw [List.zip_cons_cons,List.map_cons,List.map_cons,ih]
    exact aux its
   rw [<-e3]
   exact pm'.map _
  .have el:(arrOf st')=(arrOf st').toList.toArray:=by simp
   rw [el] at up
   have hs2:(pairsOf its).size=(arrOf st').toList.length:=by rw [pairsOf_size,hsz];lia
   have up2:=(TS.up_iff (by lia)).mp up
   rw [List.drop_zero,hs2,List.take_length] at up2
   refine List.pairwise_map.mpr (List.Pairwise.imp_of_mem (fun {k k'} hk hk' hle=>?_) up2)
   obtain ⟨e1,x,hx,rx,a,ea,exa⟩:=mem k hk
   obtain ⟨e1',x',hx',rx',a',ea',exa'⟩:=mem k' hk'
   have hle':TS.Lb (ju key) k' k=false:=hle
   unfold TS.Lb TS.kf at hle'
   rw [e1,e1',ea,ea'] at hle'
   have:=ig (a:=key (.ref a')) (b:=key (.ref a))
   rw [ea,ea']
   show ltN (key (.ref a')) (key (.ref a))=false
   rw [<-this];exact hle'
end
end L2
end
section
namespace L2
open PySem
def wG (T:List (Str×En))(n:Str):Int:=((Gm.dget T n).getD default).w
structure Jn (s t:LS)(ys:List Str)(i:Nat)(a b:LS):Prop where
 ia:Gm.LInv slt a
 ib:Gm.LInv slt b
 ga:∀n,(Gm.dget a.there n).map (·.w)=if n∈ys.take i then some (wG t.there n) else (Gm.dget s.there n).map (·.w)
 gb:∀n,Gm.dget b.there n=if n∈ys.drop i then Gm.dget t.there n else none
 la:a.there.length=s.there.length+i
 lb:b.there.length+i=t.there.length
 st:a.stamp=s.stamp+i
 sb:b.stamp=t.stamp
theorem get_mem {T:List (Str×En)}{n:Str}:(Gm.dget T n).isSome=true↔n∈T.map (·.1):=by
 cases e:Gm.dget T n with
 | none=>exact ⟨(fun z=>nomatch z),fun z=>absurd z (Gm.dget_none.mp e)⟩
 | some x=>exact ⟨fun _=>List.mem_map.mpr ⟨_,Gm.dget_some e,rfl⟩,fun _=>rfl⟩
theorem Jn.start {s t:LS}{ys:List Str}(I:Gm.LInv slt s)(J:Gm.LInv slt t)(pm:ys.Perm (t.there.map (·.1))):Jn s t ys 0 s t:=by
 refine ⟨I,J,fun n=>by rw [List.take_zero,if_neg List.not_mem_nil],fun n=>?_,rfl,rfl,rfl,rfl⟩
 rw [List.drop_zero]
 by_cases h:n∈ys
 .rw [if_pos h]
 .rw [if_neg h]
  exact Gm.dget_none.mpr fun z=>h (pm.mem_iff.mpr z)
theorem tq {T:List (Str×En)}{n m:Str}(nd:(T.map (·.1)).Nodup):Gm.dget (Gm.ddel T n) m=if m=n then none else Gm.dget T m:=by
 by_cases h:m=n
 .rw [if_pos h]
  refine Gm.dget_none.mpr fun z=>?_
  obtain ⟨⟨m',e⟩,h1,h2⟩:=List.mem_map.mp z
  cases h2
  exact (Gm.ddel_mem.mp h1).1 h
 .rw [if_neg h]
  cases e:Gm.dget T m with
  | none =>
   refine Gm.dget_none.mpr fun z=>?_
   obtain ⟨⟨m',e'⟩,h1,h2⟩:=List.mem_map.mp z
   cases h2
   exact Gm.dget_none.mp e (List.mem_map.mpr ⟨_,(Gm.ddel_mem.mp h1).2,rfl⟩)
  | some x=>exact Gm.dget_of (Gm.ddel_nd nd) (Gm.ddel_mem.mpr ⟨h,Gm.dget_some e⟩)
theorem Jn.next {s t a b:LS}{ys:List Str}{i:Nat}(J:Jn s t ys i a b)(hi:i<ys.length)(nd:ys.Nodup)(pm:ys.Perm (t.there.map (·.1)))(dis:∀n∈ys,Gm.dget s.there n=none) :
  (Gm.dget b.there ys[i]).isSome=true/\(Gm.dget a.there ys[i]).isSome=false/\Jn s t ys (i+1) (Gm.putL slt a ys[i] (wG t.there ys[i])) (Gm.dropL slt b ys[i]):=by
 have hd:ys.drop i=ys[i]::ys.drop (i+1):=List.drop_eq_getElem_cons hi
 have ht:ys.take (i+1)=ys.take i++[ys[i]]:=(List.take_append_getElem hi).symm
 have nt:ys[i]∉ys.take i:=fun z=>by
  have h:=nd
  rw [<-List.take_append_drop i ys,List.nodup_append] at h
  exact h.2.2 _ z _ (by rw [hd];exact List.mem_cons_self) rfl
 have nd2:ys[i]∉ys.drop (i+1):=fun z=>by
  have h:=nd
  rw [<-List.take_append_drop i ys,List.nodup_append,hd,List.nodup_cons] at h
  exact h.2.1.1 z
 have m1:ys[i]∈ys:=List.getElem_mem hi
 have b1:(Gm.dget b.there ys[i]).isSome=true:=by
  rw [J.gb,if_pos (by rw [hd];exact List.mem_cons_self)]
  exact get_mem.mpr (pm.mem_iff.mp m1)
 have a1:Gm.dget a.there ys[i]=none:=by
  have:=J.ga ys[i]
  rw [if_neg nt,dis _ m1] at this
  cases e:Gm.dget a.there ys[i] with
  | none=>rfl
  | some x=>rw [e] at this;cases this
 have bm:=get_mem.mp b1
 refine ⟨b1,by rw [a1];rfl,Gm.put_inv slt_slo J.ia,Gm.dropL_inv slt_slo J.ib,fun n=>?_,fun n=>?_,?_,?_,?_,?_⟩
 .show (Gm.dget (Gm.putL slt a ys[i] (wG t.there ys[i])).there n).map (·.w)=_
  have e1:(Gm.putL slt a ys[i] (wG t.there ys[i])).there=Gm.dput a.there ys[i] ⟨wG t.there ys[i],ys[i],(a.stamp:Int)⟩:=Gm.sweep_there
  rw [e1,Gm.dget_put J.ia.nd]
  by_cases h:n=ys[i]
  .rw [if_pos h,if_pos (by rw [ht,h];exact List.mem_append_right _ List.mem_cons_self),h]
   rfl
  .rw [if_neg h,J.ga]
   by_cases h2:n∈ys.take i
   .rw [if_pos h2,if_pos (by rw [ht];exact List.mem_append_left _ h2)]
   .rw [if_neg h2,if_neg (by
     rw [ht]
     intro z
     rcases List.mem_append.mp z with q | q
     .exact h2 q
     .exact h (List.mem_singleton.mp q))]
 .have e1:(Gm.dropL slt b ys[i]).there=Gm.ddel b.there ys[i]:=Gm.sweep_there
  rw [e1,tq J.ib.nd]
  by_cases h:n=ys[i]
  .rw [if_pos h,if_neg (by rw [h];exact nd2)]
  .rw [if_neg h,J.gb]
   by_cases h2:n∈ys.drop (i+1)
   .rw [if_pos h2,if_pos (by rw [hd];exact List.mem_cons_of_mem _ h2)]
   .rw [if_neg h2,if_neg (by
     rw [hd]
     intro z
     rcases List.mem_cons.mp z with q | q
     .exact h q
     .exact h2 q)]
 .have e1:(Gm.putL slt a ys[i] (wG t.there ys[i])).there=Gm.dput a.there ys[i] ⟨wG t.there ys[i],ys[i],(a.stamp:Int)⟩:=Gm.sweep_there
  have e2:(Gm.dput a.there ys[i] ⟨wG t.there ys[i],ys[i],(a.stamp:Int)⟩).length=a.there.length+1:=by
   have:=congrArg List.length (Gm.dput_keys (L:=a.there) (n:=ys[i]) (b:=(⟨wG t.there ys[i],ys[i],(a.stamp:Int)⟩:En)))
   rw [if_neg (Gm.dget_none.mp a1),List.length_append,List.length_map,List.length_map] at this
   exact this
  rw [e1,e2,J.la]
  lia
 .have e1:(Gm.dropL slt b ys[i]).there=Gm.ddel b.there ys[i]:=Gm.sweep_there
  obtain ⟨⟨m',e⟩,h1,h2⟩:=List.mem_map.mp bm
  have e2:=(oP J.ib.nd (n:=ys[i]) (e:=e) (by rw [<-h2];exact h1)).length_eq
  rw [List.length_cons] at e2
  have:=J.lb
  rw [e1]
  lia
 .have e1:(Gm.putL slt a ys[i] (wG t.there ys[i])).stamp=a.stamp+1:=Gm.sweep_stamp
  rw [e1,J.st]
  lia
 .have e1:(Gm.dropL slt b ys[i]).stamp=b.stamp:=Gm.sweep_stamp
  rw [e1,J.sb]
structure jb (s t a b:LS):Prop where
 ia:Gm.LInv slt a
 ib:Gm.LInv slt b
 pm:(thW a.there).Perm (thW s.there++thW t.there)
 nb:b.there=[]
 st:a.stamp=s.stamp+t.there.length
 sb:b.stamp=t.stamp
theorem lD {s:LS}(I:Gm.LInv slt s):(thW s.there).Nodup:=by
 have h:=I.nd
 unfold thW
 rw [List.nodup_iff_pairwise_ne,List.pairwise_map] at h ⊢
 exact h.imp fun n z=>n (by injection z)
theorem eF {s:LS}(I:Gm.LInv slt s){n:Str}{w:Int}:(n,w)∈thW s.there↔(Gm.dget s.there n).map (·.w)=some w:=by
 constructor
 .intro h
  obtain ⟨⟨m,e⟩,h1,h2⟩:=List.mem_map.mp h
  cases h2
  rw [Gm.dget_of I.nd h1]
  rfl
 .intro h
  cases e:Gm.dget s.there n with
  | none=>rw [e] at h;cases h
  | some x =>
   rw [e] at h
   cases h
   exact List.mem_map.mpr ⟨_,Gm.dget_some e,rfl⟩
theorem Jn.done {s t a b:LS}{ys:List Str}(J:Jn s t ys ys.length a b)(I:Gm.LInv slt s)(I2:Gm.LInv slt t)(pm:ys.Perm (t.there.map (·.1)))(dis:∀n∈ys,Gm.dget s.there n=none):jb s t a b:=by
 have ly:ys.length=t.there.length:=by rw [pm.length_eq,List.length_map]
 have lb:=J.lb
 refine ⟨J.ia,J.ib,?_,List.length_eq_zero_iff.mp (by lia),by rw [J.st,ly],J.sb⟩
 have wt:∀n,n∈ys->(Gm.dget t.there n).map (·.w)=some (wG t.there n):=fun n h=>by
  have:=get_mem.mpr (pm.mem_iff.mp h)
  unfold wG
  cases e:Gm.dget t.there n with
  | none=>rw [e] at this;cases this
  | some x=>rfl
 refine (List.perm_ext_iff_of_nodup (lD J.ia) ?_).mpr fun p=>?_
 .rw [List.nodup_append]
  refine ⟨lD I,lD I2,fun x hx y hy z=>?_⟩
  subst z
  obtain ⟨n,w⟩:=x
  have h1:=(eF I).mp hx
  have h2:n∈ys:=by
   refine pm.mem_iff.mpr (get_mem.mp ?_)
   have:=(eF I2).mp hy
   cases e:Gm.dget t.there n with
   | none=>rw [e] at this;cases this
   | some x=>rfl
  rw [dis n h2] at h1
  cases h1
 .obtain ⟨n,w⟩:=p
  rw [eF J.ia,J.ga,List.take_length,List.mem_append,eF I,eF I2]
  by_cases h:n∈ys
  .rw [if_pos h,wt n h,dis n h]
   constructor
   .intro z;exact .inr z
   .rintro (z | z)
    .cases z
    .exact z
  .rw [if_neg h]
   have:Gm.dget t.there n=none:=Gm.dget_none.mpr fun z=>h (pm.mem_iff.mpr z)
   rw [this]
   constructor
   .intro z;exact .inl z
   .rintro (z | z)
    .exact z
    .cases z
theorem dS {s:LS}(I:Gm.LInv slt s){ys:List Str}(pm:ys.Perm (s.there.map (·.1))):(ys.map fun n=>(n,wG s.there n)).Perm (thW s.there):=by
 refine (pm.map fun n=>(n,wG s.there n)).trans ?_
 rw [List.map_map]
 have:s.there.map ((fun n=>(n,wG s.there n)) ∘ fun p=>p.1)=thW s.there:=by
  unfold thW
  refine List.map_congr_left fun p hp=>?_
  show (p.1,wG s.there p.1)=(p.1,p.2.w)
  have:=Gm.dget_of I.nd (n:=p.1) (b:=p.2) hp
  unfold wG
  rw [this]
  rfl
 rw [this]
theorem nW {a b:Str×Int}:ltN a b=true↔slt a.1 b.1=true∨(a.1=b.1/\a.2<b.2):=by
 unfold ltN nwV
 rw [aY,aY]
 by_cases h:a.1=b.1
 .rw [if_pos (by rw [h])]
  by_cases h2:a.2=b.2
  .rw [if_pos (by rw [h2])]
   constructor
   .intro z;cases z
   .rintro (z | ⟨_,z⟩)
    .rw [h,slt_slo.irr] at z;cases z
    .lia
  .rw [if_neg (fun z=>h2 (V.int.inj z))]
   constructor
   .intro z;exact .inr ⟨h,of_decide_eq_true z⟩
   .rintro (z | ⟨_,z⟩)
    .rw [h,slt_slo.irr] at z;cases z
    .exact decide_eq_true z
 .rw [if_neg (fun z=>h (V.str.inj z))]
  constructor
  .intro z;exact .inl z
  .rintro (z | ⟨z,_⟩)
   .exact z
   .exact absurd z h
theorem wC {a b:List (Str×Int)}(p:a.Perm b)(sa:a.Pairwise fun x y=>ltN y x=false)(sb:b.Pairwise fun x y=>ltN y x=false):a=b:=by
 refine List.Perm.eq_of_pairwise (le:=fun x y=>ltN y x=false) (fun x y _ _ h1 h2=>?_) sa sb p
 have c1:¬ ltN y x=true:=by rw [h1];exact Bool.false_ne_true
 have c2:¬ ltN x y=true:=by rw [h2];exact Bool.false_ne_true
 rw [nW] at c1 c2
 have en:x.1=y.1:=by
  by_cases z:x.1=y.1
  .exact z
  .rcases slt_slo.tot _ _ z with q | q
   .exact absurd (.inl q) c2
   .exact absurd (.inl q) c1
 refine Prod.ext en ?_
 rcases Int.lt_trichotomy x.2 y.2 with z | z | z
 .exact absurd (.inr ⟨en,z⟩) c2
 .exact z
 .exact absurd (.inr ⟨en.symm,z⟩) c1
theorem oW {ys:List Str}{f:Str->Int}(nd:ys.Nodup)(h:ys.Pairwise fun x y=>slt y x=false):(ys.map fun n=>(n,f n)).Pairwise fun x y=>ltN y x=false:=by
 rw [List.pairwise_map]
 refine List.Pairwise.imp₂ (R:=fun x y=>slt y x=false) (S:=fun x y=>x≠y) (fun x y h1 h2=>?_) h (List.nodup_iff_pairwise_ne.mp nd)
 cases z:ltN (y,f y) (x,f x) with
 | false=>rfl
 | true =>
  rw [nW] at z
  rcases z with q | ⟨q,_⟩
  .dsimp only at q;rw [h1] at q;cases q
  .exact absurd q.symm h2
end L2
end
section
namespace L2
open PySem PySem.W PySem.Spec PySem.Calls PyProof.Rows
section
variable {X:Cx}
end
end L2
end
section
namespace L2
open PySem
end L2
end
section
namespace Wb
open PySem L2
abbrev Row:=Str×Str×Int
abbrev Web:=List Row
section
variable {web:Web}{first:Str}{far:Tb}
end
end Wb
end
section
namespace L2
open PySem PySem.W PySem.Spec PySem.Calls PyProof.Rows
section
variable {X:Cx}{pins:List (Addr×Obj)}{σ:St}{H:Hp}{s:Shared}{a:Addr}{kvs:List (Key×V)}{k:Key}{u r:Value}{z:V}{A:Around}{E:Value->Shared->Prop}
end
section
variable {X:Cx}{o e f:Expr}{apos cpos:Pos}{td ty tx:TE}
end
section
variable {X:Cx}
end
end L2
end
section
namespace L2
open PySem PySem.W PySem.Spec PySem.Calls PyProof.Rows
open PySem.SeqAt (EqAt RcAt RcNeAt)
section
variable {X:Cx}
theorem tM (hu:X.A.units<cLine):OpR X (compareOp .Eq) (fun x y H Q=>∃ (b:Addr) (i' j':Int),y=.ref b/\SqT X.K H b [.int i',.int j']/\((x=.non/\Q (.bl false) H)∨∃ (a:Addr) (i j:Int),x=.ref a/\SqT X.K H a [.int i,.int j]/\Q (.bl (decide (i=i'/\j=j'))) H)):=by
 intro pins s σ H x y v u Q I rx ry h
 obtain ⟨b,i',j',rfl,hb,⟨rfl,q⟩ | ⟨a,i,j,rfl,ha,q⟩⟩:=h
 .cases rx
  cases ry
  obtain ⟨its,r,ht,_⟩:=I.tuple hb
  exact RcAt.none_tuple ht hu X.prog X.w _ _ ⟨.bl false,H,I,rfl,q⟩
 .cases rx
  cases ry
  obtain ⟨its,r,ht,_⟩:=I.tuple ha
  obtain ⟨its2,r2,ht2,_⟩:=I.tuple hb
  obtain ⟨u0,u1,rfl,a0,a1⟩:=gL r
  obtain ⟨v0,v1,rfl,b0,b1⟩:=gL r2
  obtain ⟨e0,q0,z0⟩:=bI (a:=.int i) (c:=.int i') X.A.in1 s trivial a0 b0
  obtain ⟨e1,q1,z1⟩:=bI (a:=.int j) (c:=.int j') X.A.in1 s trivial a1 b1
  refine SeqAt.eq_tupleAt (e:=fun k=>if k=0 then e0 else e1) ht ht2 hu (fun k h1 h2=>?_) ⟨.bl _,H,I,?_,q⟩
  .match k,h1,h2 with
   | 0,_,_=>exact q0
   | 1,_,_=>exact q1
   | k+2,h1,_=>exact absurd h1 (by simp)
  .show Value.bool ((e0&&(e1&&true))&&true)=Value.bool _
   rw [Bool.and_true,Bool.and_true]
   congr 1
   rw [Bool.eq_iff_iff,decide_eq_true_eq,Bool.and_eq_true,z0,z1]
   exact ⟨fun ⟨x,y⟩=>⟨V.int.inj x,V.int.inj y⟩,fun ⟨x,y⟩=>⟨by rw [x],by rw [y]⟩⟩
theorem jl:OpR X (compareOp .In) (fun x y H Q=>∃ (a:Addr) (n:Str) (xs:List Str),x=.str n/\y=.ref a/\SqT X.K H a (xs.map V.str)/\Q (.bl (decide (n∈xs))) H):=by
 intro pins s σ H x y v u Q I rx ry h
 obtain ⟨a,n,xs,rfl,rfl,ha,q⟩:=h
 obtain ⟨t,rfl⟩:=rx
 cases ry
 obtain ⟨its,r,p,_⟩:=I.tuple ha
 have hv:∀y∈its,∃ z∈xs,∃ t,y=Value.str z t:=fun y hy=>by
  obtain ⟨j,hj,ej⟩:=List.getElem_of_mem hy
  obtain ⟨x,ex,rx⟩:=r.at hj
  rw [List.getElem?_map] at ex
  cases e:xs[j]? with
  | none=>rw [e] at ex;cases ex
  | some z =>
   rw [e] at ex
   cases ex
   obtain ⟨t,et⟩:=rx
   exact ⟨z,List.mem_of_getElem? e,t,ej▸et⟩
 have hw:∀z∈xs,∃ t,Value.str z t∈its:=fun z hz=>by
  obtain ⟨j,hj,ej⟩:=List.getElem_of_mem hz
  have e:(xs.map V.str)[j]?=some (V.str z):=by rw [List.getElem?_map,List.getElem?_eq_getElem hj,ej];rfl
  obtain ⟨u,hu,t,et⟩:=r.get e
  exact ⟨t,et▸List.mem_of_getElem? hu⟩
 let e:Value->Bool:=fun y=>match y with | .str z _=>z == n | _=>false
 refine SeqAt.in_tupleAt e p (fun y hy=>?_) ⟨.bl _,H,I,?_,q⟩
 .obtain ⟨z,_,t',rfl⟩:=hv y (by simpa using hy)
  exact EqAt.str_str z t' n t
 .have ea:its.toArray.any e=its.any e:=by simp
  show Value.bool (its.toArray.any e)=Value.bool _
  rw [ea]
  congr 1
  rw [Bool.eq_iff_iff,decide_eq_true_eq,List.any_eq_true]
  constructor
  .rintro ⟨y,hy,ey⟩
   obtain ⟨z,hz,t',rfl⟩:=hv y hy
   have ez:z=n:=(gu z n).mp ey
   exact ez▸hz
  .intro hn
   obtain ⟨t',ht⟩:=hw n hn
   exact ⟨_,ht,(gu n n).mpr rfl⟩
theorem rq {pos:Pos}{e1 e2 e3 e4 e5 f1 f2 f3 f4 f5:Expr}{a1 a2 a3 a4 a5 b1 b2 b3 b4 b5:TE}(g1:QE X e1 a1)(h1:QE X f1 b1)(g2:QE X e2 a2)(h2:QE X f2 b2)(g3:QE X e3 a3)(h3:QE X f3 b3)(g4:QE X e4 a4)(h4:QE X f4 b4)(g5:QE X e5 a5)(h5:QE X f5 b5) :
  QE X (.Dict [some e1,some e2,some e3,some e4,some e5] [f1,f2,f3,f4,f5] pos) (vv [(a1,b1),(a2,b2),(a3,b3),(a4,b4),(a5,b5)]) :=
 .mk (ug (cU g1.to h1.to (cU g2.to h2.to (cU g3.to h3.to (cU g4.to h4.to (cU g5.to h5.to uI))))) rfl rfl (by simp) (by simp))
end
def stK (r td:Addr)(s:LS)(wk:Nat):List (Key×V):=[(Sum.inr "slack",.int s.slack),(Sum.inr "row",.ref r),(Sum.inr "there",.ref td),(Sum.inr "next",.int s.stamp),(Sum.inr "work",.int wk)]
theorem st_ne:("slack":Str)≠"row"/\("slack":Str)≠"there"/\("slack":Str)≠"next"/\("slack":Str)≠"work"/\("row":Str)≠"there"/\("row":Str)≠"next"/\("row":Str)≠"work"/\("there":Str)≠"next"/\("there":Str)≠"work"/\("next":Str)≠"work":=by decide +kernel
theorem kD {k:Key}{v:V}{l:List (Key×V)}:bn ((k,v)::l) k=some v:=by unfold bn;rw [List.find?_cons_of_pos (by simp)];rfl
theorem dN {a b:Str}{v:V}{l:List (Key×V)}(h:a≠b):bn ((Sum.inr a,v)::l) (Sum.inr b:Key)=bn l (Sum.inr b):=by
 unfold bn
 rw [List.find?_cons_of_neg (by simpa using fun z:a=b=>h z)]
section
variable {r td D:Addr}{s:LS}{wk w2:Nat}
theorem p9:bn (stK r td s wk) (Sum.inr "slack":Key)=some (.int s.slack):=kD
theorem p5:bn (stK r td s wk) (Sum.inr "row":Key)=some (.ref r):=by unfold stK;rw [dN st_ne.1,kD]
theorem qV:bn (stK r td s wk) (Sum.inr "there":Key)=some (.ref td):=by unfold stK;rw [dN st_ne.2.1,dN st_ne.2.2.2.2.1,kD]
theorem uV:bn (stK r td s wk) (Sum.inr "next":Key)=some (.int s.stamp):=by unfold stK;rw [dN st_ne.2.2.1,dN st_ne.2.2.2.2.2.1,dN st_ne.2.2.2.2.2.2.2.1,kD]
theorem uq:bn (stK r td s wk) (Sum.inr "work":Key)=some (.int wk):=by unfold stK;rw [dN st_ne.2.2.2.1,dN st_ne.2.2.2.2.2.2.1,dN st_ne.2.2.2.2.2.2.2.2.1,dN st_ne.2.2.2.2.2.2.2.2.2,kD]
theorem jA {k:Str}{v:V}(h:k∈(["slack","row","there","next","work"]:List Str)):a7 (stK r td s wk) (Sum.inr k:Key) v=(stK r td s wk).map fun kv=>if kv.1=(Sum.inr k:Key) then (kv.1,v) else kv:=by
 unfold a7
 rw [if_pos]
 rw [List.any_eq_true]
 simp only [List.mem_cons,List.not_mem_nil,or_false] at h
 unfold stK
 rcases h with rfl | rfl | rfl | rfl | rfl
 .exact ⟨(Sum.inr "slack",.int s.slack),by simp,decide_eq_true rfl⟩
 .exact ⟨(Sum.inr "row",.ref r),by simp,decide_eq_true rfl⟩
 .exact ⟨(Sum.inr "there",.ref td),by simp,decide_eq_true rfl⟩
 .exact ⟨(Sum.inr "next",.int s.stamp),by simp,decide_eq_true rfl⟩
 .exact ⟨(Sum.inr "work",.int wk),by simp,decide_eq_true rfl⟩
theorem wK {s':LS}(h1:s'.slack=s.slack)(h2:s'.stamp=s.stamp):a7 (stK r td s wk) (Sum.inr "row":Key) (.ref D)=stK D td s' wk:=by
 rw [jA (by simp)]
 unfold stK
 simp only [List.map_cons,List.map_nil]
 rw [if_neg (fun z=>st_ne.1 (Sum.inr.inj z)),if_pos trivial,if_neg (fun z=>st_ne.2.2.2.2.1 (Sum.inr.inj z).symm),if_neg (fun z=>st_ne.2.2.2.2.2.1 (Sum.inr.inj z).symm),if_neg (fun z=>st_ne.2.2.2.2.2.2.1 (Sum.inr.inj z).symm),h1,h2]
theorem sV {s':LS}(h1:s'.slack=s.slack)(h2:s'.stamp=s.stamp+1):a7 (stK r td s wk) (Sum.inr "next":Key) (.int ((s.stamp:Int)+1))=stK r td s' wk:=by
 rw [jA (by simp)]
 unfold stK
 simp only [List.map_cons,List.map_nil]
 rw [if_neg (fun z=>st_ne.2.2.1 (Sum.inr.inj z)),if_neg (fun z=>st_ne.2.2.2.2.2.1 (Sum.inr.inj z)),if_neg (fun z=>st_ne.2.2.2.2.2.2.2.1 (Sum.inr.inj z)),if_pos trivial,if_neg (fun z=>st_ne.2.2.2.2.2.2.2.2.2 (Sum.inr.inj z).symm),h1,h2]
 rfl
theorem uA:a7 (stK r td s wk) (Sum.inr "work":Key) (.int w2)=stK r td s w2:=by
 rw [jA (by simp)]
 unfold stK
 simp only [List.map_cons,List.map_nil]
 rw [if_neg (fun z=>st_ne.2.2.2.1 (Sum.inr.inj z)),if_neg (fun z=>st_ne.2.2.2.2.2.2.1 (Sum.inr.inj z)),if_neg (fun z=>st_ne.2.2.2.2.2.2.2.2.1 (Sum.inr.inj z)),if_neg (fun z=>st_ne.2.2.2.2.2.2.2.2.2 (Sum.inr.inj z)),if_pos trivial]
end
theorem hG {k:Str}{v:V}{l:List (Key×V)}(h:∀p∈l,p.1≠(Sum.inr k:Key)):a7 l (Sum.inr k:Key) v=l++[(Sum.inr k,v)]:=by
 unfold a7
 rw [if_neg]
 rw [List.any_eq_true]
 rintro ⟨p,hp,e⟩
 exact h p hp (of_decide_eq_true e)
theorem ql {z:Int}{r td:Addr}:fy [] [(Sum.inr "slack",.int z),(Sum.inr "row",.ref r),(Sum.inr "there",.ref td),(Sum.inr "next",.int 0),(Sum.inr "work",.int 0)]=stK r td (Gm.newL z) 0:=by
 have q:∀{a b:Str},a≠b->(Sum.inr a:Key)≠Sum.inr b:=fun h z=>h (Sum.inr.inj z)
 have e0:a7 ([]:List (Key×V)) (Sum.inr "slack") (V.int z)=([(Sum.inr "slack",V.int z)]:List (Key×V)):=hG (l:=[]) (fun p hp=>nomatch hp)
 have e1:a7 ([(Sum.inr "slack",V.int z)]:List (Key×V)) (Sum.inr "row") (V.ref r)=([(Sum.inr "slack",V.int z),(Sum.inr "row",V.ref r)]:List (Key×V)):=hG (by
  intro p hp
  simp only [List.mem_cons,List.not_mem_nil,or_false] at hp
  rcases hp with rfl
  .exact q st_ne.1)
 have e2:a7 ([(Sum.inr "slack",V.int z),(Sum.inr "row",V.ref r)]:List (Key×V)) (Sum.inr "there") (V.ref td)=([(Sum.inr "slack",V.int z),(Sum.inr "row",V.ref r),(Sum.inr "there",V.ref td)]:List (Key×V)):=hG (by
  intro p hp
  simp only [List.mem_cons,List.not_mem_nil,or_false] at hp
  rcases hp with rfl | rfl
  .exact q st_ne.2.1
  .exact q st_ne.2.2.2.2.1)
 have e3:a7 ([(Sum.inr "slack",V.int z),(Sum.inr "row",V.ref r),(Sum.inr "there",V.ref td)]:List (Key×V)) (Sum.inr "next") (V.int 0)=([(Sum.inr "slack",V.int z),(Sum.inr "row",V.ref r),(Sum.inr "there",V.ref td),(Sum.inr "next",V.int 0)]:List (Key×V)):=hG (by
  intro p hp
  simp only [List.mem_cons,List.not_mem_nil,or_false] at hp
  rcases hp with rfl | rfl | rfl
  .exact q st_ne.2.2.1
  .exact q st_ne.2.2.2.2.2.1
  .exact q st_ne.2.2.2.2.2.2.2.1)
 have e4:a7 ([(Sum.inr "slack",V.int z),(Sum.inr "row",V.ref r),(Sum.inr "there",V.ref td),(Sum.inr "next",V.int 0)]:List (Key×V)) (Sum.inr "work") (V.int 0)=([(Sum.inr "slack",V.int z),(Sum.inr "row",V.ref r),(Sum.inr "there",V.ref td),(Sum.inr "next",V.int 0),(Sum.inr "work",V.int 0)]:List (Key×V)):=hG (by
  intro p hp
  simp only [List.mem_cons,List.not_mem_nil,or_false] at hp
  rcases hp with rfl | rfl | rfl | rfl
  .exact q st_ne.2.2.2.1
  .exact q st_ne.2.2.2.2.2.2.1
  .exact q st_ne.2.2.2.2.2.2.2.2.1
  .exact q st_ne.2.2.2.2.2.2.2.2.2)
 show (a7 (a7 (a7 (a7 (a7 ([]:List (Key×V)) (Sum.inr "slack":Key) (V.int z)) (Sum.inr "row":Key) (V.ref r)) (Sum.inr "there":Key) (V.ref td)) (Sum.inr "next":Key) (V.int 0)) (Sum.inr "work":Key) (V.int 0))=_
 rw [e0,e1,e2,e3,e4]
 rfl
structure StAt (H:Hp)(st r td:Addr)(s:LS)(wk:Nat):Prop where
 hs:H st=some (.dK (stK r td s wk))
 hr:∃ xs,H r=some (.lst xs)/\RR H xs s.row
 ht:∃ ks,H td=some (.dK ks)/\KP H ks s.there
 ne:st≠td
section
variable {H H':Hp}{st r td:Addr}{s:LS}{wk:Nat}
theorem StAt.slack (O:StAt H st r td s wk):DGet H st (.str "slack") (some (.int s.slack)):=p9 (r:=r) (td:=td) (s:=s) (wk:=wk)▸DGet.k (k:=Sum.inr "slack") O.hs
theorem StAt.row (O:StAt H st r td s wk):DGet H st (.str "row") (some (.ref r)):=p5 (r:=r) (td:=td) (s:=s) (wk:=wk)▸DGet.k (k:=Sum.inr "row") O.hs
theorem StAt.there (O:StAt H st r td s wk):DGet H st (.str "there") (some (.ref td)):=qV (r:=r) (td:=td) (s:=s) (wk:=wk)▸DGet.k (k:=Sum.inr "there") O.hs
theorem StAt.next (O:StAt H st r td s wk):DGet H st (.str "next") (some (.int s.stamp)):=uV (r:=r) (td:=td) (s:=s) (wk:=wk)▸DGet.k (k:=Sum.inr "next") O.hs
theorem StAt.work (O:StAt H st r td s wk):DGet H st (.str "work") (some (.int wk)):=uq (r:=r) (td:=td) (s:=s) (wk:=wk)▸DGet.k (k:=Sum.inr "work") O.hs
theorem StAt.stay (O:StAt H st r td s wk)(k:∀b o,(b=st∨b=r∨b=td)->H b=some o->H' b=some o)(t:∀b l,H b=some (.tup l)->H' b=some (.tup l)):StAt H' st r td s wk:=by
 obtain ⟨xs,hx,rr⟩:=O.hr
 obtain ⟨ks,hd,kr⟩:=O.ht
 exact ⟨k _ _ (.inl rfl) O.hs,⟨xs,k _ _ (.inr (.inl rfl)) hx,rr.stay t⟩,⟨ks,k _ _ (.inr (.inr rfl)) hd,kr.stay t⟩,O.ne⟩
theorem StAt.same (O:StAt H st r td s wk)(k:Same H H'):StAt H' st r td s wk:=O.stay (fun b o _ e=>k b o e) fun b l e=>k _ _ e
theorem StAt.notup (O:StAt H st r td s wk):∀b∈[st,r,td],∀xs,¬ H b=some (.tup xs):=by
 obtain ⟨ys,hr,_⟩:=O.hr
 obtain ⟨kt,ht,_⟩:=O.ht
 intro b hb xs z
 simp only [List.mem_cons,List.not_mem_nil,or_false] at hb
 rcases hb with rfl | rfl | rfl
 .rw [O.hs] at z;cases z
 .rw [hr] at z;cases z
 .rw [ht] at z;cases z
theorem StAt.apart (O:StAt H st r td s wk):r≠st/\r≠td:=by
 obtain ⟨xs,hx,_⟩:=O.hr
 obtain ⟨ks,hd,_⟩:=O.ht
 exact ⟨bx hx O.hs (by intro z;cases z),bx hx hd (by intro z;cases z)⟩
theorem StAt.tk (O:StAt H st r td s wk){F:List Addr}(k:Kept F H H')(h:∀b∈F,b∈[st,r,td]):∀b zs,H b=some (.tup zs)->H' b=some (.tup zs):=k.tups fun b hb zs=>O.notup b (h b hb) zs
theorem StAt.rowTo (O:StAt H st r td s wk){ys:List V}{es:List En}(h:H' r=some (.lst ys))(rr:RR H' ys es)(k:Kept [r] H H'){lk:Nat}:StAt H' st r td { s with row:=es,looks:=lk } wk:=by
 obtain ⟨ks,hd,kr⟩:=O.ht
 obtain ⟨n1,n2⟩:=O.apart
 exact ⟨k _ _ O.hs (fun z=>n1 (List.mem_singleton.mp z).symm),⟨ys,h,rr⟩,⟨ks,k _ _ hd (fun z=>n2 (List.mem_singleton.mp z).symm),kr.stay (O.tk k fun b hb=>by rw [List.mem_singleton.mp hb];simp)⟩,O.ne⟩
theorem StAt.thereTo (O:StAt H st r td s wk){ks:List (Key×V)}{T:List (Str×En)}(h:H' td=some (.dK ks))(kr:KP H' ks T)(k:Kept [td] H H'):StAt H' st r td { s with there:=T } wk:=by
 obtain ⟨xs,hx,rr⟩:=O.hr
 obtain ⟨n1,n2⟩:=O.apart
 exact ⟨k _ _ O.hs (fun z=>O.ne (List.mem_singleton.mp z)),⟨xs,k _ _ hx (fun z=>n2 (List.mem_singleton.mp z)),rr.stay (O.tk k fun b hb=>by rw [List.mem_singleton.mp hb];simp)⟩,⟨ks,h,kr⟩,O.ne⟩
theorem StAt.dictTo (O:StAt H st r td s wk){s':LS}{wk':Nat}(h:H' st=some (.dK (stK r td s' wk')))(e1:s'.row=s.row)(e2:s'.there=s.there)(k:Kept [st] H H'):StAt H' st r td s' wk':=by
 obtain ⟨xs,hx,rr⟩:=O.hr
 obtain ⟨ks,hd,kr⟩:=O.ht
 obtain ⟨n1,n2⟩:=O.apart
 have t:=O.tk k fun b hb=>by rw [List.mem_singleton.mp hb];simp
 exact ⟨h,⟨xs,k _ _ hx (fun z=>n1 (List.mem_singleton.mp z)),by rw [e1];exact rr.stay t⟩,⟨ks,k _ _ hd (fun z=>O.ne (List.mem_singleton.mp z).symm),by rw [e2];exact kr.stay t⟩,O.ne⟩
theorem StAt.workTo (O:StAt H st r td s wk){lk:Nat}(h:s.looks=wk+lk):StAt (upd H st (.dK (a7 (stK r td s wk) (Sum.inr "work":Key) (.int ((wk:Int)+(lk:Int)))))) st r td s s.looks/\Kept [st] H (upd H st (.dK (a7 (stK r td s wk) (Sum.inr "work":Key) (.int ((wk:Int)+(lk:Int)))))):=by
 have e:a7 (stK r td s wk) (Sum.inr "work":Key) (.int ((wk:Int)+(lk:Int)))=stK r td s s.looks:=by
  rw [h]
  exact uA (w2:=wk+lk)
 rw [e]
 have k:Kept [st] H (upd H st (.dK (stK r td s s.looks))):=Kept.refl.put (by simp)
 exact ⟨O.dictTo ae rfl rfl k,k⟩
theorem StAt.dropTo (O:StAt H st r td s wk){ks:List (Key×V)}(n:Str)(hd:H td=some (.dK ks)):StAt (upd H td (.dK (bw ks (Sum.inr n)))) st r td (Gm.dropT s n) wk/\Kept [td] H (upd H td (.dK (bw ks (Sum.inr n)))):=by
 obtain ⟨ks',hd',kr⟩:=O.ht
 rw [hd] at hd'
 cases hd'
 have k:Kept [td] H (upd H td (.dK (bw ks (Sum.inr n)))):=Kept.refl.put (by simp)
 exact ⟨O.thereTo ae ((kr.drop n).stay (O.tk k fun b hb=>by rw [List.mem_singleton.mp hb];simp)) k,k⟩
end
end L2
end
section
namespace L2
open PySem PySem.Spec PyProof.Rows
open PySem.SeqAt (EqAt RcAt RcNeAt)
section
variable {X:Cx}
end
def Deed.inN (ns:List V):Deed->Prop
 | .put n _=>V.str n∈ns
 | .drop n=>V.str n∈ns
 | .change n _=>V.str n∈ns
 | _=>True
def InN (ns:List V)(t:Tb):Prop:=∀p∈t,V.str p.1∈ns
theorem InN.plain {ns:List V}{t:Tb}(h:InN ns t){d:Deed}(hd:d.inN ns)(a:Ans):InN ns (rJ t d a):=by
 have put:∀n w,V.str n∈ns->InN ns (Gm.dput t n w):=fun n w hn p hp=>by
  obtain ⟨m,c⟩:=p
  rcases Gm.dput_mem hp with ⟨e,_⟩ | ⟨_,e⟩
  .show V.str m∈ns
   rw [e];exact hn
  .exact h _ e
 have del:∀n,InN ns (Gm.ddel t n):=fun n p hp=>by
  obtain ⟨m,c⟩:=p
  exact h _ (Gm.ddel_mem.mp hp).2
 cases d <;> cases a <;> first | exact h | exact put _ _ hd | exact del _
theorem InN.len {ns:List V}{T:List (Str×En)}(h:InN ns (thW T))(nd:(T.map (·.1)).Nodup):T.length<=ns.length:=by
 have n2:((T.map (·.1)).map V.str).Nodup:=by
  rw [List.nodup_iff_pairwise_ne,List.pairwise_map]
  exact (List.nodup_iff_pairwise_ne.mp nd).imp fun n z=>n (V.str.inj z)
 have:=Gm.nodup_len n2 (R:=ns) (fun e he=>by
  obtain ⟨n,hn,rfl⟩:=List.mem_map.mp he
  obtain ⟨p,hp,rfl⟩:=List.mem_map.mp hn
  exact h (p.1,p.2.w) (List.mem_map.mpr ⟨p,hp,rfl⟩))
 rw [List.length_map,List.length_map] at this
 exact this
end L2
end
section
namespace L2
open PySem
def Deed.fit (s:LS):Deed->Prop
 | .put n _=>Gm.dget s.there n=none
 | .drop n=>Gm.dget s.there n≠none
 | .change n _=>Gm.dget s.there n≠none
 | .take=>s.there≠[]
 | .least=>s.there≠[]
def stepS (s:LS):Deed->LS
 | .put n w=>Gm.putL slt s n w
 | .drop n=>Gm.dropL slt s n
 | .change n w=>Gm.sweep slt (Gm.enter slt (Gm.dropT s n) n w)
 | .take=>Gm.takeL slt s
 | .least=>Gm.leastL slt s
theorem pz {s:LS}(I:Gm.LInv slt s){d:Deed}(h:d.fit s):Gm.LInv slt (stepS s d):=by
 cases d with
 | put n w=>exact Gm.put_inv slt_slo I
 | drop n=>exact Gm.dropL_inv slt_slo I
 | change n w=>exact Gm.sweep_inv slt_slo (Gm.enter_inv slt_slo (Gm.drop_inv I))
 | take=>exact Gm.take_inv slt_slo I h
 | least=>exact (Gm.least_ok slt_slo I h).inv
structure Sim (s t:LS):Prop where
 row:s.row=t.row
 lk:s.looks=t.looks
 st:s.stamp=t.stamp
 sl:s.slack=t.slack
 tw:Gm.Tw s.there t.there
theorem Sim.holds {s t:LS}(h:Sim s t)(e:En):Gm.holds s.there e=Gm.holds t.there e:=by
 unfold Gm.holds
 rw [h.tw.get]
theorem Sim.len {s t:LS}(h:Sim s t):s.there.length=t.there.length:=h.tw.len
theorem Sim.due {s t:LS}(h:Sim s t):Gm.due s=Gm.due t:=by
 unfold Gm.due
 rw [h.row,h.len,h.sl]
theorem Sim.sweep {s t:LS}(h:Sim s t):Sim (Gm.sweep slt s) (Gm.sweep slt t):=by
 unfold Gm.sweep
 rw [h.due]
 split
 .have ef:s.row.filter (Gm.holds s.there)=t.row.filter (Gm.holds t.there):=by
   rw [h.row]
   exact List.filter_congr fun e _=>h.holds e
  unfold Gm.swept
  rw [ef,h.lk]
  exact ⟨rfl,rfl,h.st,h.sl,h.tw⟩
 .exact h
theorem Sim.enter {s t:LS}(h:Sim s t)(n:Str)(w:Int):Sim (Gm.enter slt s n w) (Gm.enter slt t n w):=by
 unfold Gm.enter
 rw [h.row,h.lk,h.st,h.sl]
 exact ⟨rfl,rfl,rfl,rfl,h.tw.put _ _⟩
theorem Sim.enterC {s t:LS}(h:Sim s t)(n:Str)(w:Int):Sim (Gm.enter slt (Gm.dropT s n) n w) (Gm.enter slt t n w):=by
 unfold Gm.enter Gm.dropT
 dsimp only
 rw [h.row,h.lk,h.st,h.sl]
 exact ⟨rfl,rfl,rfl,rfl,h.tw.chg _ _⟩
theorem Sim.drop {s t:LS}(h:Sim s t)(n:Str):Sim (Gm.dropT s n) (Gm.dropT t n):=⟨h.row,h.lk,h.st,h.sl,h.tw.del n⟩
theorem Sim.cut {s t:LS}(h:Sim s t):Sim (Gm.cut slt s) (Gm.cut slt t):=by
 unfold Gm.cut
 rw [h.row,h.lk,h.st,h.sl]
 exact ⟨rfl,rfl,rfl,rfl,h.tw⟩
theorem Sim.clean:∀(f:Nat) {s t:LS},Sim s t->Sim (Gm.clean slt f s) (Gm.clean slt f t)
 | 0,_,_,h=>h
 | f+1,s,t,h=>by
  unfold Gm.clean
  rw [h.row,h.holds]
  split
  .exact h
  .exact Sim.clean f h.cut
theorem Sim.least {s t:LS}(h:Sim s t):Sim (Gm.leastL slt s) (Gm.leastL slt t):=by
 unfold Gm.leastL
 rw [h.row]
 exact Sim.clean _ h
theorem Sim.take {s t:LS}(h:Sim s t):Sim (Gm.takeL slt s) (Gm.takeL slt t):=by
 unfold Gm.takeL
 rw [h.least.row]
 exact (h.least.cut.drop _).sweep
theorem Sim.nil {s t:LS}(h:Sim s t):s.there=[]↔t.there=[]:=h.tw.nil
theorem Sim.step {s t:LS}(h:Sim s t){d:Deed}(f:d.fit s):Sim (stepS s d) (bq t d).1:=by
 cases d with
 | put n w =>
  have e:Gm.dget t.there n=none:=by rw [<-h.tw.get];exact f
  show Sim (Gm.putL slt s n w) (if (Gm.dget t.there n).isSome=true then (t,Ans.clash) else (Gm.putL slt t n w,Ans.non)).1
  rw [e]
  exact (h.enter n w).sweep
 | drop n =>
  have e:(Gm.dget t.there n).isSome=true:=by
   rw [<-h.tw.get]
   cases z:Gm.dget s.there n with
   | none=>exact absurd z f
   | some _=>rfl
  show Sim (Gm.dropL slt s n) (if (Gm.dget t.there n).isSome=true then (Gm.dropL slt t n,Ans.non) else (t,Ans.nothing)).1
  rw [if_pos e]
  exact (h.drop n).sweep
 | change n w =>
  have e:(Gm.dget t.there n).isSome=true:=by
   rw [<-h.tw.get]
   cases z:Gm.dget s.there n with
   | none=>exact absurd z f
   | some _=>rfl
  show Sim (Gm.sweep slt (Gm.enter slt (Gm.dropT s n) n w)) (if (Gm.dget t.there n).isSome=true then (Gm.putL slt t n w,Ans.non) else (t,Ans.nothing)).1
  rw [if_pos e]
  exact (h.enterC n w).sweep
 | take =>
  have e:t.there≠[]:=fun z=>f (h.nil.mpr z)
  show Sim (Gm.takeL slt s) (if t.there=[] then (t,Ans.nothing) else (Gm.takeL slt t,Ans.pair (L2.hd t).w (L2.hd t).n)).1
  rw [if_neg e]
  exact h.take
 | least =>
  have e:t.there≠[]:=fun z=>f (h.nil.mpr z)
  show Sim (Gm.leastL slt s) (if t.there=[] then (t,Ans.nothing) else (Gm.leastL slt t,Ans.pair (L2.hd t).w (L2.hd t).n)).1
  rw [if_neg e]
  exact h.least
theorem Sim.refl {s:LS}(I:Gm.LInv slt s):Sim s s:=⟨rfl,rfl,rfl,rfl,Gm.Tw.refl I.nd⟩
theorem Sim.fit {s t:LS}(h:Sim s t){d:Deed}(f:d.fit s):d.fit t:=by
 cases d with
 | put n w=>exact (h.tw.get n).symm.trans f
 | drop n=>exact fun z=>f ((h.tw.get n).trans z)
 | change n w=>exact fun z=>f ((h.tw.get n).trans z)
 | take=>exact fun z=>f (h.nil.mpr z)
 | least=>exact fun z=>f (h.nil.mpr z)
theorem j9 {s:LS}(I:Gm.LInv slt s){d:Deed}(f:d.fit s):(stepS s d).stamp<=s.stamp+1:=by
 rw [((Sim.refl I).step f).st]
 exact kL I d
theorem InN.stepS {nv:List V}{s:LS}(h:InN nv (thW s.there))(I:Gm.LInv slt s){d:Deed}(f:d.fit s)(hd:d.inN nv):InN nv (thW (stepS s d).there):=fun p hp=>by
 obtain ⟨⟨n,e⟩,hq,rfl⟩:=List.mem_map.mp hp
 have m:=(((Sim.refl I).step f).tw.mem (n,e)).mp hq
 have h2:InN nv (thW (bq s d).1.there):=by
  rw [mD I d]
  exact h.plain hd _
 exact h2 (n,e.w) (List.mem_map.mpr ⟨(n,e),m,rfl⟩)
def ci (z:Int)(ds:List Deed):LS:=ds.foldl stepS (Gm.newL z)
def dU (z:Int)(ds:List Deed):LS:=ds.foldl (fun t d=>(bq t d).1) (Gm.newL z)
theorem cp {z:Int}{ds:List Deed}{d:Deed}:ci z (ds++[d])=stepS (ci z ds) d:=by unfold ci;rw [List.foldl_append];rfl
theorem bG {z:Int}{ds:List Deed}{d:Deed}:dU z (ds++[d])=(bq (dU z ds) d).1:=by unfold dU;rw [List.foldl_append];rfl
inductive Fits (z:Int):List Deed->Prop
 | nil:Fits z []
 | snoc {ds:List Deed} {d:Deed}:Fits z ds->d.fit (ci z ds)->Fits z (ds++[d])
theorem Fits.inv {z:Int}{ds:List Deed}(h:Fits z ds):Gm.LInv slt (ci z ds):=by
 induction h with
 | nil=>exact Gm.new_inv
 | snoc _ f ih=>rw [cp];exact pz ih f
theorem Fits.stamp {z:Int}{ds:List Deed}(h:Fits z ds):(ci z ds).stamp<=ds.length:=by
 induction h with
 | nil=>exact Nat.le_refl _
 | snoc h f ih =>
  rw [cp,List.length_append]
  exact Nat.le_trans (j9 h.inv f) (Nat.succ_le_succ ih)
theorem Fits.inN {z:Int}{nv:List V}{ds:List Deed}(h:Fits z ds)(hd:∀d∈ds,d.inN nv):InN nv (thW (ci z ds).there):=by
 induction h with
 | nil=>exact fun _ z=>nomatch z
 | snoc h f ih =>
  rw [cp]
  exact (ih fun d m=>hd d (List.mem_append_left _ m)).stepS h.inv f (hd _ (by simp))
theorem Fits.sim {z:Int}{ds:List Deed}(h:Fits z ds):Sim (ci z ds) (dU z ds):=by
 induction h with
 | nil=>exact Sim.refl Gm.new_inv
 | snoc _ f ih=>rw [cp,bG];exact ih.step f
theorem Fits.invL {z:Int}{ds:List Deed}(h:Fits z ds):Gm.LInv slt (dU z ds):=by
 induction h with
 | nil=>exact Gm.new_inv
 | snoc _ _ ih=>rw [bG];exact qP ih _
theorem Fits.at {z:Int}{ds:List Deed}(h:Fits z ds):∀{i:Nat} {d:Deed},ds[i]?=some d->Fits z (ds.take i)/\d.fit (ci z (ds.take i)):=by
 induction h with
 | nil=>intro i d e;cases e
 | @snoc ds x h f ih =>
  intro i d e
  by_cases hi:i<ds.length
  .rw [List.getElem?_append_left hi] at e
   rw [List.take_append_of_le_length (Nat.le_of_lt hi)]
   exact ih e
  .have l:=(List.getElem?_eq_some_iff.mp e).1
   rw [List.length_append] at l
   have l1:i<ds.length+1:=l
   have ei:i=ds.length:=by lia
   subst ei
   rw [List.getElem?_append_right (Nat.le_refl _),Nat.sub_self] at e
   cases e
   rw [List.take_append_of_le_length (Nat.le_refl _),List.take_length]
   exact ⟨h,f⟩
theorem kR (d:Deed):∃ n more,d.v=V.str n::more:=by cases d <;> exact ⟨_,_,rfl⟩
def DDs (H:Hp)(zs:List V)(ds:List Deed):Prop:=Paired (fun (v:V) (d:Deed)=>∃ a,v=.ref a/\H a=some (.tup d.v)) zs ds
theorem DDs.stay {H H':Hp}{zs:List V}{ds:List Deed}(r:DDs H zs ds)(k:∀b l,H b=some (.tup l)->H' b=some (.tup l)):DDs H' zs ds:=Paired.mapP r fun p q ⟨a,b,c⟩=>⟨a,b,k _ _ c⟩
def mv (f:Str->Int)(ys:List Str)(p:LS×LS):LS×LS:=ys.foldl (fun p n=>(Gm.putL slt p.1 n (f n),Gm.dropL slt p.2 n)) p
theorem Sim.keys {s t:LS}(h:Sim s t):(s.there.map (·.1)).Perm (t.there.map (·.1)):=h.tw.perm.map _
end L2
end
section
namespace L2
open PySem PySem.W PySem.Spec PySem.Calls PyProof.Rows
section
variable {X:Cx}
theorem pq (hc:X.calm=true):bH X (.builtin "max") (fun xs H Q=>∃ i j k:Int,xs=[.int i,.int j,.int k]/\Q (.int (if k>(if j>i then j else i) then k else (if j>i then j else i))) H):=by
 intro pins s σ H xs us Q I r h
 obtain ⟨i,j,k,rfl,q⟩:=h
 obtain ⟨u,v,w',rfl,⟨t,rfl⟩,⟨t',rfl⟩,⟨t2,rfl⟩⟩:=rL r
 refine max_three_ints (I.ok.hd hc) fun h' tk kk=>⟨_,H,I.kept kk,?_,q⟩
 by_cases hj:j>i
 .rw [if_pos hj]
  by_cases hk:k>j
  .rw [if_pos hk];simp [hj,hk];exact ⟨_,rfl⟩
  .rw [if_neg hk];simp [hj,hk];exact ⟨_,rfl⟩
 .rw [if_neg hj]
  by_cases hk:k>i
  .rw [if_pos hk];simp [hj,hk];exact ⟨_,rfl⟩
  .rw [if_neg hk];simp [hj,hk];exact ⟨_,rfl⟩
end
end L2
end
section
namespace L2
open PySem PySem.W PySem.Spec PySem.Calls PyProof.Rows
section
variable {P:Program}{w:World}{K:PySem.W.Frag}{mg:Str->Option Value}{base:Heap}
theorem Fun.okEQ {x qual:Str}{st:Stmt}{f:Addr}{fd:FuncData}{N ps:List Str}{k:Nat}{sp:Sp}(F:Fun K x qual st f fd)(S:FnScope N ps (ai st))(len:∀vs H Q E,sp vs H Q E->vs.length=ps.length)
  (hbody:∀(cdv:Value) (A:Around) (outer:List Env) (s:Shared) (H:Hp) (vs:List V) (Q:VK) (E:XK),Room k (A.deeper (envOfC qual (ai st) s.heap.objs.size f cdv))->sp vs H Q E ->
   ∃ t,QSs (bh (CXe P w) P w K mg base N qual (ai st) f cdv A outer s H E) (av st) t/\t { nx:=fun _ H'=>Q .non H',rt:=Q } (start N vs) H):aw P w K mg base (CXe P w) (k+1) f fd ps sp :=
 F.okE S len fun cdv A outer s H vs Q E hr h=>let ⟨t,a,b⟩:=hbody cdv A outer s H vs Q E hr h;⟨t,a.to,b⟩
theorem QSs.nox {X:Cx}{st:List Stmt}{t:TS}(h:QSs X.nox st t):QSs X st t:=.mk (PSs.nox h.to)
theorem wO {N:List Str}{qual:Str}{scope:Scope}{f:Addr}{cd:Value}{A:Around}{outer:List Env}{s₀:Shared}{H₀:Hp}{E:XK}{CX:CXT}:PassesOwn (model (bh CX P w K mg base N qual scope f cd A outer s₀ H₀ E).prog (bh CX P w K mg base N qual scope f cd A outer s₀ H₀ E).w) (bh CX P w K mg base N qual scope f cd A outer s₀ H₀ E).A (bh CX P w K mg base N qual scope f cd A outer s₀ H₀ E).env (bh CX P w K mg base N qual scope f cd A outer s₀ H₀ E).xe:=PassesOwn.leaving
end
section
variable {X:Cx}
theorem uK (hu:X.A.units<cLine):OpR X (compareOp .NotEq) (fun x y H Q=>∃ a b kvs,x=.ref a/\y=.ref b/\H a=some (.dK kvs)/\H b=some (.dK [])/\Q (.bl (!decide (kvs=[]))) H):=by
 intro pins s σ H x y v u Q I rx ry h
 obtain ⟨a,b,kvs,rfl,rfl,ha,hb,q⟩:=h
 cases rx
 cases ry
 obtain ⟨_,n1,vs,r1,d1⟩:=gq I.hok ha
 obtain ⟨_,n2,vs2,r2,d2⟩:=gq I.hok hb
 cases r2
 refine keq_ne (r:=true) n1 n2 d1 d2 hu (fun hl=>?_) ⟨.bl _,H,I,?_,q⟩
 .obtain rfl:=List.length_eq_zero_iff.mp hl
  exact .nil
 .show Value.bool _=Value.bool _
  congr 1
  rw [Bool.and_true]
  congr 1
  rw [Bool.eq_iff_iff,decide_eq_true_eq,beq_iff_eq]
  show vs.length=0↔_
  rw [<-r1.length]
  exact List.length_eq_zero_iff
end
end L2
end
section
namespace L2
open PySem PySem.W PySem.Spec PySem.Calls PyProof.Rows
section
variable {X:Cx}
def pP (t:TS):TS:=fun D σ H=>∃ J:St->Hp->Prop,t { D with nx:=J } σ H/\∀σ' H',J σ' H'->D.nx σ' H'
theorem qr {st:Stmt}{t:TS}(h:PS X st t):PS X st (pP t):=by
 intro pins s σ H D I ⟨J,h1,j⟩
 refine thn (h pins s σ H { D with nx:=J } I h1) fun f s' q=>?_
 cases f with
 | next=>obtain ⟨σ',H',I',z⟩:=q;exact ⟨σ',H',I',j _ _ z⟩
 | ret v=>exact q
 | brk=>exact q
 | cont=>exact q
theorem qS {st:Stmt}{t:TS}(h:QS X st t):QS X st (pP t):=.mk (qr h.to)
end
end L2
end
section
namespace PySem
namespace F
end F
section
variable {prog:Program}{w:World}{A:Around}{E:Value->Shared->Prop}{s:Shared}
end
section
variable {prog:Program}{w:World}{K:Type}[DecidableEq K]{knd:KeyKind prog w K}{A:Around}{R:Result->Shared->Prop}{I ax d:Addr}{items:Array Value}{kvs:List (K×Value)}
end
section
variable {prog:Program}{w:World}{K:Type}[DecidableEq K]{knd:KeyKind prog w K}{A:Around}{E:Value->Shared->Prop}{s:Shared}
end
end PySem
namespace L2
open PySem PySem.W PySem.Spec PySem.Calls PyProof.Rows
section
variable {X:Cx}{pins:List (Addr×Obj)}{σ:St}{H:Hp}{s:Shared}{d:Addr}
end
end L2
end
section
namespace L2
open PySem
section
variable {H H' H0:Hp}{zs:List V}{w:Wb.Web}{kvs:List (Key×V)}
end
end L2
namespace Wb
open PySem L2
section
variable {web:Web}{first:Str}{L:Tb}{F S:List Str}
variable {name:Str}{ds:Web}
section
variable {c:Tb×Bool}{r:Row}{u v:Int}
end
section
variable {led:List Str}{k:Nat}{name:Str}{ds:Web}
end
end
end Wb
end
section
namespace HT
open PySem PyProof.Rows
section
variable {prog:Program}{w:World}{A:Around}{E:Value->Shared->Prop}{s:Shared}
end
end HT
namespace L2
open PySem PySem.Spec PyProof.Rows
section
variable {X:Cx}
def wU (t:TE):TE:=fun σ H Q=>∃ J:V->Hp->Prop,t σ H J/\∀v H',J v H'->Q v H'
theorem qE {e:Expr}{t:TE}(h:QE X e t):QE X e (wU t):=.mk fun pins s σ H Q I ⟨J,h1,j⟩=>thn (h.to pins s σ H J I h1) fun v s' ⟨x,H',I',r,z⟩=>⟨x,H',I',r,j x H' z⟩
end
end L2
end
section
namespace Wb
open PySem L2
section
variable {web:Web}{first name:Str}{far T:Tb}{m:Int}{D:List Str}{ds:Web}
end
end Wb
namespace L2
open PySem
end L2
end
section
namespace PySem
section
variable {prog:Program}{w:World}{A:Around}{E:Value->Shared->Prop}{s:Shared}
end
end PySem
namespace L2
open PySem PySem.W PySem.Spec PySem.Calls PyProof.Rows
section
variable {X:Cx}
end
end L2
namespace Wb
open PySem L2
section
variable {far:Tb}{ways:List (Str×Str)}{w:Web}
end
end Wb
end
section
namespace L2
open PySem PySem.W PySem.Spec PySem.Calls PyProof.Rows
section
variable {X:Cx}
end
end L2
end
section
namespace PySem
section
variable {prog:Program}{w:World}{A:Around}{E:Value->Shared->Prop}{s:Shared}
end
end PySem
namespace L2
open PySem PySem.W PySem.Spec PySem.Calls PyProof.Rows
open PySem.SeqAt (EqAt RcAt RcNeAt)
section
variable {X:Cx}
end
end L2
end
section
namespace Wb
open PySem L2
section
variable {web w:Web}{first:Str}{far far':Tb}{ways ah:List (Str×Str)}{ds:List Str}
end
end Wb
namespace L2
open PySem
end L2
end
section
namespace HT
open PySem PyProof.Rows
section
variable {prog:Program}{w:World}{A:Around}{E:Value->Shared->Prop}{s:Shared}
theorem cat_tup0 {t b:Addr}{ws:List Value}{Q:Value->Shared->Prop}(ht:IsTup s.heap t #[])(hb:IsTup s.heap b ws.toArray)(h1:Q (.ref b) s):wpAny (model prog w) A (binaryOp .Add (.ref t) (.ref b)) Q E s:=by
 obtain ⟨⟨cls,dd,data,sl⟩,ho,hc,n,hd⟩:=id ht
 obtain ⟨⟨cls2,dd2,data2,sl2⟩,ho2,hc2,n2,hd2⟩:=id hb
 simp only at hc hd hc2 hd2
 subst hc hd hc2 hd2
 exact concat_meets ⟨_,ho,rfl⟩ ⟨_,ho2,rfl⟩ noFill_tuple_add seq_tuple_add PySem.F.slot_tuple_add PySem.F.entry_tuple_add (PySem.F.args_tuple_add_2 _ _)
  (tuple_addW0 t b #[] ws.toArray n n2 dd dd2 sl sl2 (by simp)) ⟨ho,ho2,h1⟩
end
end HT
namespace L2
open PySem PySem.Spec PyProof.Rows
section
variable {X:Cx}
theorem tJ:OpR X (binaryOp .Add) (fun x y H Q=>∃ a b xs ys,x=.ref a/\y=.ref b/\SqT X.K H a xs/\SqT X.K H b ys/\xs.length+ys.length<=sizeLine/\(xs=[]->Q (.ref b) H)/\(xs≠[]->ys=[]->Q (.ref a) H)/\(xs≠[]->ys≠[]->∀p,H p=none->Q (.ref p) (upd H p (.tup (xs++ys))))):=by
 intro pins s σ H x y v u Q I rx ry h
 obtain ⟨a,b,xs,ys,rfl,rfl,ha,hb,hz,q0,q1,q2⟩:=h
 by_cases hx:xs=[]
 .cases rx
  cases ry
  obtain ⟨its,r1,p1,_⟩:=I.tuple ha
  obtain ⟨its2,r2,p2,_⟩:=I.tuple hb
  have ei:=r1.nil_iff.mpr hx
  subst ei
  exact HT.cat_tup0 p1 p2 ⟨.ref b,H,I,rfl,q0 hx⟩
 .exact u3 pins s σ H _ _ v u Q I rx ry ⟨a,b,xs,ys,rfl,rfl,ha,hb,hx,hz,q1 hx,q2 hx⟩
end
end L2
end
theorem Kx.fsc {N ps:List PySem.Str}{sc:PySem.Scope}(h:∀nd:N.Nodup,L2.FnScope N ps sc)(nd:N.Nodup:=by (simp only [List.nodup_cons,List.mem_cons,List.not_mem_nil,or_false,not_or,List.nodup_nil,and_true,not_false_eq_true];(repeat' apply And.intro);all_goals decide +kernel)):L2.FnScope N ps sc:=h nd
section
namespace Kx
open PySem L2
def top (i:Nat):Stmt:=PySem.Challenge.pw_lategone_k22_put_together_refused.main.body.getD i (.Pass ⟨0,0,0,0⟩)
end Kx
end
section
namespace Kx
open PySem L2
section
variable {P:Program}{w:World}{K:PySem.W.Frag}{mg:Str->Option Value}{base:Heap}
open Hm
abbrev iS:Stmt:=top 11
theorem sJ:FnScope ["heap","place","other","held"] ["heap","place","other"] (ai iS):=fsc fun nd=>⟨rfl,rfl,rfl,nd,rfl,by decide +kernel,by decide +kernel⟩
def me:Sp:=fun vs H Q _=>∃ (r:Addr) (xs:List V) (i j:Nat),vs=[.ref r,.int i,.int j]/\H r=some (.lst xs)/\i<xs.length/\j<xs.length/\Q .non (upd H r (.lst (sw xs i j)))
theorem uW {f:Addr}{fd:FuncData}(F:Fun K "exchange" "exchange" iS f fd)(T:Bl mg):aw P w K mg base CX0 1 f fd ["heap","place","other"] me:=by
 have sc:=sJ
 refine F.ok sJ (fun vs H Q E h=>?_) (fun cdv A outer s H vs Q E hr h=>?_)
 .obtain ⟨r,xs,i,j,rfl,_⟩:=h
  rfl
 .obtain ⟨r,xs,i,j,rfl,hx,hi,hj,k⟩:=h
  have hu:=hr.units0
  refine ⟨_,(QSs.to (af (aq (i:=3) sc.nd rfl (Or.inl rfl) (az aE (qv 0) (qv 1) (fun _ _=>rfl)))
   (af (bA (az aE (qv 0) (qv 2) (fun _ _=>rfl)) (bF (qv 0) (qv 1) bg))
   (ao (bA (qv 3) (bF (qv 0) (qv 2) bg)))))),?_⟩
  refine ⟨_,rfl,_,rfl,r,_,_,_,rfl,rfl,SqL.of hx,wR hi,?_⟩
  refine ⟨_,rfl,_,rfl,r,_,_,_,rfl,rfl,SqL.of hx,wR hj,?_⟩
  refine ⟨_,rfl,_,rfl,r,xs,_,i,rfl,rfl,hx,b7 (by lia) (by lia),?_⟩
  refine ⟨_,rfl,_,rfl,_,rfl,r,_,_,j,rfl,rfl,ae,b7 (by lia) (by rw [List.length_set];lia),?_⟩
  rw [eu]
  exact k
end
end Kx
end
section
namespace Kx
open PySem L2
section
variable {P:Program}{w:World}{K:PySem.W.Frag}{mg:Str->Option Value}{base:Heap}
open Hm
abbrev iz:Stmt:=top 9
theorem pQ:FnScope ["heap","start","place","looks","above"] ["heap","start"] (ai iz):=fsc fun nd=>⟨rfl,rfl,rfl,nd,rfl,by decide +kernel,by decide +kernel⟩
def rp:Sp:=fun vs H Q _=>∃ (r:Addr) (xs:List V) (a:Nat) (t:V->List V),vs=[.ref r,.int a]/\H r=some (.lst xs)/\EnR t H xs/\a<xs.length/\xs.length<=1100 /\
 ∀H',H' r=some (.lst (up (ltT t) a xs a 0).1)->(∀b o,H b=some o->b≠r->H' b=some o)->Q (.int (up (ltT t) a xs a 0).2) H'
theorem uO {f fe:Addr}{fd fde:FuncData}(F:Fun K "lift" "lift" iz f fd)(T:Bl mg)(Gexchange:aw P w K mg base CX0 1 fe fde ["heap","place","other"] me)(Dexchange:Nm K mg "exchange" fe fde ["heap","place","other"]) :
  aw P w K mg base CX0 2 f fd ["heap","start"] rp:=by
 have sc:=pQ
 refine F.ok pQ (fun vs H Q E h=>?_) (fun cdv A outer s H vs Q E hr h=>?_)
 .obtain ⟨r,xs,a,t,rfl,_⟩:=h
  rfl
 .obtain ⟨r,xs,a,t,rfl,hx,en,ha,hl,k⟩:=h
  have hu:=hr.units0
  refine ⟨_,(QSs.to (af (aq (i:=2) sc.nd rfl (Or.inl rfl) (qv 1))
   (af (aq (i:=3) sc.nd rfl (Or.inl rfl) ag)
   (af (cu PassesOwn.never (aD gp (qv 2) ag (aH _)) (af (aq (i:=4) sc.nd rfl (Or.inl rfl) (ay bJ (ay bM (qv 2) ag) ag))
   (af (aq (i:=3) sc.nd rfl (Or.inl rfl) (ay aM (qv 3) ag))
   (af (aX (cM (aD (fG hu) (az aE (qv 0) (qv 2) (fun _ _=>rfl)) (az aE (qv 0) (qv 4) (fun _ _=>rfl)) (aH _))) (ao (aF (qv 3))) aK)
   (af (aO (au Gexchange (hr.mono (by decide)) rfl Dexchange.m Dexchange.k Dexchange.b .nil aB (ad (qv 0) (ad (qv 2) (ad (qv 4) aj)))))
   (ao (aq (i:=2) sc.nd rfl (Or.inl rfl) (qv 4))))))))
   (ao (aF (qv 3))))))),?_⟩
  refine ⟨_,rfl,?_⟩
  refine ⟨fun m σ H2=>∃ (f p lk:Nat) (bl:Option V) (ys:List V),σ=[some (.ref r),some (.int a),some (.int p),some (.int lk),bl]/\up (ltT t) f ys p lk=up (ltT t) a xs a 0/\p<=f/\p<ys.length/\H2 r=some (.lst ys)/\ys.length=xs.length/\(∀y∈ys,y∈xs)/\(∀b o,H b=some o->b≠r->H2 b=some o)/\m=p,
   ⟨_,a,a,0,none,xs,rfl,rfl,Nat.le_refl _,ha,hx,rfl,fun y h=>h,fun b o e _=>e,rfl⟩,?_⟩
  rintro p σ H2 ⟨f,p',lk,bl,ys,rfl,hd,hf,hp,h2,l2,s2,f2,rfl⟩
  have en2:EnR t H2 ys:=(en.bar hx f2).sub s2
  refine ⟨_,rfl,_,_,rfl,rfl,_,rfl,aI (fun c1=>?_) (fun c1=>⟨_,rfl,?_⟩)⟩
  rotate_left
  .have c1':¬ (p:Int)>0:=by simpa using c1
   rw [nO (by lia)] at hd
   have:=k H2
   rw [<-hd] at this
   exact this h2 f2
  have c1':(p:Int)>0:=by simpa using c1
  obtain ⟨f,rfl⟩:∃ f0,f=f0+1:=⟨f-1,by lia⟩
  refine ⟨fun σ' H'=>∃ m',m'<p/\∃ (f p lk:Nat) (bl:Option V) (ys:List V),σ'=[some (.ref r),some (.int a),some (.int p),some (.int lk),bl]/\up (ltT t) f ys p lk=up (ltT t) a xs a 0/\p<=f/\p<ys.length/\H' r=some (.lst ys)/\ys.length=xs.length/\(∀y∈ys,y∈xs)/\(∀b o,H b=some o->b≠r->H' b=some o)/\m'=p,fun σ' H' z=>z,?_⟩
  refine ⟨_,rfl,_,_,rfl,rfl,_,_,rfl,rfl,⟨by decide,by decide⟩,?_⟩
  refine ⟨_,rfl,_,_,rfl,rfl,?_⟩
  have hq:(p-1) / 2<ys.length:=by lia
  have ea:((p:Int)-1) / 2=(((p-1) / 2:Nat):Int):=by lia
  obtain ⟨b1,e1,g1,m1,t1⟩:=en2.gat hp
  obtain ⟨b2,e2,g2,m2,t2⟩:=en2.gat hq
  rw [e1] at t1
  rw [e2,<-ea] at t2
  refine ⟨_,rfl,_,rfl,r,_,_,_,rfl,rfl,SqL.of h2,t1,_,rfl,_,rfl,r,_,_,_,rfl,rfl,SqL.of h2,t2,b1,b2,_,_,rfl,rfl,SqT.of g1,SqT.of g2,en2.fit _ _,_,rfl,aI (fun c3=>?_) (fun c3=>?_)⟩
  .have q3:ltT t (g ys p) (g ys ((p-1) / 2))=false:=by
    cases q:ltT t (g ys p) (g ys ((p-1) / 2)) with
    | false=>rfl
    | true=>have c4:=(show (!ltT t (g ys p) (g ys ((p-1) / 2)))=true from c3);rw [q] at c4;cases c4
   refine ⟨_,rfl,?_⟩
   rw [mT (by lia) q3] at hd
   have:=k H2
   rw [<-hd] at this
   exact this h2 f2
  .have q3:ltT t (g ys p) (g ys ((p-1) / 2))=true:=by
    cases q:ltT t (g ys p) (g ys ((p-1) / 2)) with
    | true=>rfl
    | false=>exact absurd (show (!ltT t (g ys p) (g ys ((p-1) / 2)))=true by rw [q];rfl) c3
   rw [vi (by lia) q3] at hd
   refine ⟨_,rfl,_,rfl,_,rfl,r,ys,p,(p-1) / 2,(by show [V.ref r,V.int (p:Int),V.int (((p:Int)-1) / 2)]=[V.ref r,V.int (p:Int),V.int ((((p-1) / 2:Nat)):Int)];rw [ea]),h2,hp,hq,?_⟩
   refine ⟨_,rfl,(p-1) / 2,by lia,f,(p-1) / 2,lk+1,some (.int ((((p-1) / 2:Nat)):Int)),sw ys p ((p-1) / 2),(by show [some (V.ref r),some (V.int a),some (V.int (((p:Int)-1) / 2)),some (V.int ((lk:Int)+1)),some (V.int (((p:Int)-1) / 2))]=_;rw [ea];rfl),hd,by lia,by rw [aW];exact hq,ae,by rw [aW];exact l2,fun y hy=>s2 y (dZ hp hq y hy),fun b o e nb=>by rw [ak nb];exact f2 b o e nb,rfl⟩
end
end Kx
end
section
namespace Kx
open PySem L2
section
variable {P:Program}{w:World}{K:PySem.W.Frag}{mg:Str->Option Value}{base:Heap}
open Hm
abbrev oy:Stmt:=top 6
theorem vF:FnScope ["heap","entry"] ["heap","entry"] (ai oy):=fsc fun nd=>⟨rfl,rfl,rfl,nd,rfl,by decide +kernel,by decide +kernel⟩
def qu:Sp:=fun vs H Q _=>∃ (r:Addr) (xs:List V) (e:V) (t:V->List V),vs=[.ref r,e]/\H r=some (.lst xs)/\EnR t H (xs++[e])/\xs.length<=1000 /\
 ∀H',H' r=some (.lst (up (ltT t) xs.length (xs++[e]) xs.length 0).1)->(∀b o,H b=some o->b≠r->H' b=some o)->Q (.int (up (ltT t) xs.length (xs++[e]) xs.length 0).2) H'
theorem wW {f fe:Addr}{fd fde:FuncData}(F:Fun K "lay_in" "lay_in" oy f fd)(T:Bl mg)(Glift:aw P w K mg base CX0 2 fe fde ["heap","start"] rp)(Dlift:Nm K mg "lift" fe fde ["heap","start"]) :
  aw P w K mg base CX0 3 f fd ["heap","entry"] qu:=by
 have sc:=vF
 refine F.ok vF (fun vs H Q E h=>?_) (fun cdv A outer s H vs Q E hr h=>?_)
 .obtain ⟨r,xs,e,t,rfl,_⟩:=h
  rfl
 .obtain ⟨r,xs,e,t,rfl,hx,en,hl,k⟩:=h
  have hu:=hr.units0
  refine ⟨_,(QSs.to (af (aO (iL PySem.F.plainAttrs_list PySem.F.slot_list_append PySem.F.type_list_append bQ (qv 0) (ad (qv 1) aj)))
   (ao (aF (au Glift (hr.mono (by decide)) rfl Dlift.m Dlift.k Dlift.b .nil aB (ad (qv 0) (ad (ay bM (aG aL (by rfl) T.z_len (by decide +kernel) (ad (qv 0) aj)) ag) aj))))))),?_⟩
  refine ⟨_,rfl,.inl ⟨rfl,_,SqL.of hx⟩,_,rfl,r,xs,e,rfl,rfl,hx,Nat.lt_of_le_of_lt hl (by decide),?_⟩
  have l1:(xs++[e]).length=xs.length+1:=by rw [List.length_append];rfl
  refine ⟨_,rfl,_,rfl,r,_,rfl,.inl (SqL.of ae),_,_,rfl,rfl,r,xs++[e],xs.length,t,?_,ae,en.put hx,by lia,by lia,fun H' h' f'=>k H' h' fun b o q nb=>f' b o (by rw [ak nb];exact q) nb⟩
  rw [l1]
  show [V.ref r,V.int (((xs.length+1:Nat):Int)-1)]=_
  rw [show ((xs.length+1:Nat):Int)-1=(xs.length:Int) by lia]
end
end Kx
end
section
namespace Kx
open PySem L2
section
variable {P:Program}{w:World}{K:PySem.W.Frag}{mg:Str->Option Value}{base:Heap}
open Hm
abbrev cc:Stmt:=top 10
theorem iI:FnScope ["heap","start","place","looks","beneath"] ["heap","start"] (ai cc):=fsc fun nd=>⟨rfl,rfl,rfl,nd,rfl,by decide +kernel,by decide +kernel⟩
def fQ:Sp:=fun vs H Q _=>∃ (r:Addr) (xs:List V) (a:Nat) (t:V->List V),vs=[.ref r,.int a]/\H r=some (.lst xs)/\EnR t H xs/\xs.length<=1000 /\
 ∀H',H' r=some (.lst (dn (ltT t) xs.length xs a 0).1)->(∀b o,H b=some o->b≠r->H' b=some o)->Q (.int (dn (ltT t) xs.length xs a 0).2) H'
theorem kT {f fe:Addr}{fd fde:FuncData}(F:Fun K "let_down" "let_down" cc f fd)(T:Bl mg)(Gexchange:aw P w K mg base CX0 1 fe fde ["heap","place","other"] me)(Dexchange:Nm K mg "exchange" fe fde ["heap","place","other"]) :
  aw P w K mg base CX0 2 f fd ["heap","start"] fQ:=by
 have sc:=iI
 refine F.ok iI (fun vs H Q E h=>?_) (fun cdv A outer s H vs Q E hr h=>?_)
 .obtain ⟨r,xs,a,t,rfl,_⟩:=h
  rfl
 .obtain ⟨r,xs,a,t,rfl,hx,en,hl,k⟩:=h
  have hu:=hr.units0
  refine ⟨_,(QSs.to (af (aq (i:=2) sc.nd rfl (Or.inl rfl) (qv 1))
   (af (aq (i:=3) sc.nd rfl (Or.inl rfl) ag)
   (af (cu PassesOwn.never (aD gl (ay aM (ay dg ag (qv 2)) ag) (aG aL (by rfl) T.z_len (by decide +kernel) (ad (qv 0) aj)) (aH _)) (af (aq (i:=4) sc.nd rfl (Or.inl rfl) (ay aM (ay dg ag (qv 2)) ag))
   (af (aX (aD gl (ay aM (qv 4) ag) (aG aL (by rfl) T.z_len (by decide +kernel) (ad (qv 0) aj)) (aH _)) (af (aq (i:=3) sc.nd rfl (Or.inl rfl) (ay aM (qv 3) ag))
   (ao (aX (aD (fG hu) (az aE (qv 0) (ay aM (qv 4) ag) (fun _ _=>rfl)) (az aE (qv 0) (qv 4) (fun _ _=>rfl)) (aH _)) (ao (aq (i:=4) sc.nd rfl (Or.inl rfl) (ay aM (qv 4) ag))) aK))) aK)
   (af (aq (i:=3) sc.nd rfl (Or.inl rfl) (ay aM (qv 3) ag))
   (af (aX (cM (aD (fG hu) (az aE (qv 0) (qv 4) (fun _ _=>rfl)) (az aE (qv 0) (qv 2) (fun _ _=>rfl)) (aH _))) (ao (aF (qv 3))) aK)
   (af (aO (au Gexchange (hr.mono (by decide)) rfl Dexchange.m Dexchange.k Dexchange.b .nil aB (ad (qv 0) (ad (qv 2) (ad (qv 4) aj)))))
   (ao (aq (i:=2) sc.nd rfl (Or.inl rfl) (qv 4)))))))))
   (ao (aF (qv 3))))))),?_⟩
  refine ⟨_,rfl,?_⟩
  refine ⟨fun m σ H2=>∃ (f p lk:Nat) (bl:Option V) (ys:List V),σ=[some (.ref r),some (.int a),some (.int p),some (.int lk),bl]/\dn (ltT t) f ys p lk=dn (ltT t) xs.length xs a 0/\ys.length<=p+f/\H2 r=some (.lst ys)/\ys.length=xs.length/\(∀y∈ys,y∈xs)/\(∀b o,H b=some o->b≠r->H2 b=some o)/\m=ys.length-p,
   ⟨_,xs.length,a,0,none,xs,rfl,rfl,by lia,hx,rfl,fun y h=>h,fun b o e _=>e,rfl⟩,?_⟩
  rintro m σ H2 ⟨f,p,lk,bl,ys,rfl,hd,hf,h2,l2,s2,f2,rfl⟩
  have en2:EnR t H2 ys:=(en.bar hx f2).sub s2
  refine ⟨_,rfl,_,_,rfl,rfl,.inl ⟨by decide,by decide⟩,_,_,rfl,rfl,_,rfl,r,_,rfl,.inl (SqL.of h2),_,_,rfl,rfl,_,rfl,aI (fun c1=>?_) (fun c1=>⟨_,rfl,?_⟩)⟩
  rotate_left
  .have c1':¬ 2*(p:Int)+1<(ys.length:Int):=by simpa using c1
   rw [om (by lia)] at hd
   have:=k H2
   rw [<-hd] at this
   exact this h2 f2
  have c1':2*(p:Int)+1<(ys.length:Int):=by simpa using c1
  refine ⟨fun σ' H'=>∃ m',m'<ys.length-p/\∃ (f p lk:Nat) (bl:Option V) (zs:List V),σ'=[some (.ref r),some (.int a),some (.int p),some (.int lk),bl]/\dn (ltT t) f zs p lk=dn (ltT t) xs.length xs a 0/\zs.length<=p+f/\H' r=some (.lst zs)/\zs.length=xs.length/\(∀y∈zs,y∈xs)/\(∀b o,H b=some o->b≠r->H' b=some o)/\m'=zs.length-p,fun σ' H' z=>z,?_⟩
  refine ⟨_,rfl,_,_,rfl,rfl,.inl ⟨by decide,by decide⟩,_,_,rfl,rfl,?_⟩
  refine ⟨_,rfl,_,_,rfl,rfl,_,rfl,r,_,rfl,.inl (SqL.of h2),_,_,rfl,rfl,_,rfl,aI (fun c2=>?_) (fun c2=>?_)⟩
  .have c2':2*(p:Int)+1+1<(ys.length:Int):=by simpa using c2
   refine ⟨_,rfl,_,_,rfl,rfl,?_⟩
   obtain ⟨b3,e3,g3,m3,t3⟩:=en2.gat (show 2*p+2<ys.length by lia)
   obtain ⟨b4,e4,g4,m4,t4⟩:=en2.gat (show 2*p+1<ys.length by lia)
   rw [e3,show ((2*p+2:Nat):Int)=2*(p:Int)+1+1 by lia] at t3
   rw [e4,show ((2*p+1:Nat):Int)=2*(p:Int)+1 by lia] at t4
   have kidsE:kids ys.length p=2:=by unfold kids;rw [if_pos (by lia)]
   have hB2:=nu (lt:=ltT t) (xs:=ys) (p:=p) (by lia)
   refine ⟨_,rfl,_,rfl,_,_,rfl,rfl,r,_,_,_,rfl,rfl,SqL.of h2,t3,_,rfl,_,rfl,r,_,_,_,rfl,rfl,SqL.of h2,t4,b3,b4,_,_,rfl,rfl,SqT.of g3,SqT.of g4,en2.fit _ _,_,rfl,aI (fun c4=>?_) (fun c4=>?_)⟩
   .refine ⟨_,rfl,_,_,rfl,rfl,?_⟩
    have hB:2*(p:Int)+1+1=((les (ltT t) ys p:Nat):Int):=by rw [hB2,if_pos (show ltT t (g ys (2*p+2)) (g ys (2*p+1))=true from c4)]
    have hles:les (ltT t) ys p<ys.length:=cJ (by lia)
    have lo:=dP (lt:=ltT t) (xs:=ys) (p:=p)
    refine ⟨_,rfl,_,_,rfl,rfl,?_⟩
    obtain ⟨b1,e1,g1,m1,t1⟩:=en2.gat hles
    obtain ⟨b2,e2,g2,m2,t2⟩:=en2.gat (show p<ys.length by lia)
    rw [e1] at t1
    rw [e2] at t2
    rw [<-hB] at t1
    refine ⟨_,rfl,_,rfl,r,_,_,_,rfl,rfl,SqL.of h2,t1,_,rfl,_,rfl,r,_,_,_,rfl,rfl,SqL.of h2,t2,b1,b2,_,_,rfl,rfl,SqT.of g1,SqT.of g2,en2.fit _ _,_,rfl,aI (fun c3=>?_) (fun c3=>?_)⟩
    .have q3:ltT t (g ys (les (ltT t) ys p)) (g ys p)=false:=by
      cases q:ltT t (g ys (les (ltT t) ys p)) (g ys p) with
      | false=>rfl
      | true=>have c4:=(show (!ltT t (g ys (les (ltT t) ys p)) (g ys p))=true from c3);rw [q] at c4;cases c4
     refine ⟨_,rfl,?_⟩
     obtain ⟨f,rfl⟩:∃ f0,f=f0+1:=⟨f-1,by lia⟩
     rw [eU (by lia) q3,kidsE] at hd
     have:=k H2
     rw [<-hd] at this
     have ez:((lk:Int)+1+1)=((lk+2:Nat):Int):=by lia
     show Q (.int ((lk:Int)+1+1)) H2
     rw [ez]
     exact this h2 f2
    .have q3:ltT t (g ys (les (ltT t) ys p)) (g ys p)=true:=by
      cases q:ltT t (g ys (les (ltT t) ys p)) (g ys p) with
      | true=>rfl
      | false=>exact absurd (show (!ltT t (g ys (les (ltT t) ys p)) (g ys p))=true by rw [q];rfl) c3
     obtain ⟨f,rfl⟩:∃ f0,f=f0+1:=⟨f-1,by lia⟩
     rw [jU (by lia) q3,kidsE] at hd
     refine ⟨_,rfl,_,rfl,_,rfl,r,ys,p,les (ltT t) ys p,(by show [V.ref r,V.int (p:Int),V.int (2*(p:Int)+1+1)]=_;rw [hB]),h2,by lia,hles,?_⟩
     refine ⟨_,rfl,ys.length-les (ltT t) ys p,by lia,f,les (ltT t) ys p,lk+2,some (.int (2*(p:Int)+1+1)),sw ys p (les (ltT t) ys p),?_,hd,by rw [aW];lia,ae,by rw [aW];exact l2,fun y hy=>s2 y (dZ (by lia) hles y hy),fun b o e nb=>by rw [ak nb];exact f2 b o e nb,by rw [aW]⟩
     have ez:((lk:Int)+1+1)=((lk+2:Nat):Int):=by lia
     show [some (V.ref r),some (V.int a),some (V.int (2*(p:Int)+1+1)),some (V.int ((lk:Int)+1+1)),some (V.int (2*(p:Int)+1+1))]=_
     rw [ez,hB]
   .have hB:2*(p:Int)+1=((les (ltT t) ys p:Nat):Int):=by rw [hB2,if_neg (show ¬ ltT t (g ys (2*p+2)) (g ys (2*p+1))=true from c4)];lia
    have hles:les (ltT t) ys p<ys.length:=cJ (by lia)
    have lo:=dP (lt:=ltT t) (xs:=ys) (p:=p)
    refine ⟨_,rfl,_,_,rfl,rfl,?_⟩
    obtain ⟨b1,e1,g1,m1,t1⟩:=en2.gat hles
    obtain ⟨b2,e2,g2,m2,t2⟩:=en2.gat (show p<ys.length by lia)
    rw [e1] at t1
    rw [e2] at t2
    rw [<-hB] at t1
    refine ⟨_,rfl,_,rfl,r,_,_,_,rfl,rfl,SqL.of h2,t1,_,rfl,_,rfl,r,_,_,_,rfl,rfl,SqL.of h2,t2,b1,b2,_,_,rfl,rfl,SqT.of g1,SqT.of g2,en2.fit _ _,_,rfl,aI (fun c3=>?_) (fun c3=>?_)⟩
    .have q3:ltT t (g ys (les (ltT t) ys p)) (g ys p)=false:=by
      cases q:ltT t (g ys (les (ltT t) ys p)) (g ys p) with
      | false=>rfl
      | true=>have c4:=(show (!ltT t (g ys (les (ltT t) ys p)) (g ys p))=true from c3);rw [q] at c4;cases c4
     refine ⟨_,rfl,?_⟩
     obtain ⟨f,rfl⟩:∃ f0,f=f0+1:=⟨f-1,by lia⟩
     rw [eU (by lia) q3,kidsE] at hd
     have:=k H2
     rw [<-hd] at this
     have ez:((lk:Int)+1+1)=((lk+2:Nat):Int):=by lia
     show Q (.int ((lk:Int)+1+1)) H2
     rw [ez]
     exact this h2 f2
    .have q3:ltT t (g ys (les (ltT t) ys p)) (g ys p)=true:=by
      cases q:ltT t (g ys (les (ltT t) ys p)) (g ys p) with
      | true=>rfl
      | false=>exact absurd (show (!ltT t (g ys (les (ltT t) ys p)) (g ys p))=true by rw [q];rfl) c3
     obtain ⟨f,rfl⟩:∃ f0,f=f0+1:=⟨f-1,by lia⟩
     rw [jU (by lia) q3,kidsE] at hd
     refine ⟨_,rfl,_,rfl,_,rfl,r,ys,p,les (ltT t) ys p,(by show [V.ref r,V.int (p:Int),V.int (2*(p:Int)+1)]=_;rw [hB]),h2,by lia,hles,?_⟩
     refine ⟨_,rfl,ys.length-les (ltT t) ys p,by lia,f,les (ltT t) ys p,lk+2,some (.int (2*(p:Int)+1)),sw ys p (les (ltT t) ys p),?_,hd,by rw [aW];lia,ae,by rw [aW];exact l2,fun y hy=>s2 y (dZ (by lia) hles y hy),fun b o e nb=>by rw [ak nb];exact f2 b o e nb,by rw [aW]⟩
     have ez:((lk:Int)+1+1)=((lk+2:Nat):Int):=by lia
     show [some (V.ref r),some (V.int a),some (V.int (2*(p:Int)+1)),some (V.int ((lk:Int)+1+1)),some (V.int (2*(p:Int)+1))]=_
     rw [ez,hB]
  .have c2':¬ 2*(p:Int)+1+1<(ys.length:Int):=by simpa using c2
   have hB:2*(p:Int)+1=((les (ltT t) ys p:Nat):Int):=by rw [mJ (by lia)];lia
   have kidsE:kids ys.length p=1:=by unfold kids;rw [if_neg (by lia),if_pos (by lia)]
   have hles:les (ltT t) ys p<ys.length:=cJ (by lia)
   have lo:=dP (lt:=ltT t) (xs:=ys) (p:=p)
   refine ⟨_,rfl,_,_,rfl,rfl,?_⟩
   obtain ⟨b1,e1,g1,m1,t1⟩:=en2.gat hles
   obtain ⟨b2,e2,g2,m2,t2⟩:=en2.gat (show p<ys.length by lia)
   rw [e1] at t1
   rw [e2] at t2
   rw [<-hB] at t1
   refine ⟨_,rfl,_,rfl,r,_,_,_,rfl,rfl,SqL.of h2,t1,_,rfl,_,rfl,r,_,_,_,rfl,rfl,SqL.of h2,t2,b1,b2,_,_,rfl,rfl,SqT.of g1,SqT.of g2,en2.fit _ _,_,rfl,aI (fun c3=>?_) (fun c3=>?_)⟩
   .have q3:ltT t (g ys (les (ltT t) ys p)) (g ys p)=false:=by
     cases q:ltT t (g ys (les (ltT t) ys p)) (g ys p) with
     | false=>rfl
     | true=>have c4:=(show (!ltT t (g ys (les (ltT t) ys p)) (g ys p))=true from c3);rw [q] at c4;cases c4
    refine ⟨_,rfl,?_⟩
    obtain ⟨f,rfl⟩:∃ f0,f=f0+1:=⟨f-1,by lia⟩
    rw [eU (by lia) q3,kidsE] at hd
    have:=k H2
    rw [<-hd] at this
    have ez:((lk:Int)+1)=((lk+1:Nat):Int):=by lia
    show Q (.int ((lk:Int)+1)) H2
    rw [ez]
    exact this h2 f2
   .have q3:ltT t (g ys (les (ltT t) ys p)) (g ys p)=true:=by
     cases q:ltT t (g ys (les (ltT t) ys p)) (g ys p) with
     | true=>rfl
     | false=>exact absurd (show (!ltT t (g ys (les (ltT t) ys p)) (g ys p))=true by rw [q];rfl) c3
    obtain ⟨f,rfl⟩:∃ f0,f=f0+1:=⟨f-1,by lia⟩
    rw [jU (by lia) q3,kidsE] at hd
    refine ⟨_,rfl,_,rfl,_,rfl,r,ys,p,les (ltT t) ys p,(by show [V.ref r,V.int (p:Int),V.int (2*(p:Int)+1)]=_;rw [hB]),h2,by lia,hles,?_⟩
    refine ⟨_,rfl,ys.length-les (ltT t) ys p,by lia,f,les (ltT t) ys p,lk+1,some (.int (2*(p:Int)+1)),sw ys p (les (ltT t) ys p),?_,hd,by rw [aW];lia,ae,by rw [aW];exact l2,fun y hy=>s2 y (dZ (by lia) hles y hy),fun b o e nb=>by rw [ak nb];exact f2 b o e nb,by rw [aW]⟩
    have ez:((lk:Int)+1)=((lk+1:Nat):Int):=by lia
    show [some (V.ref r),some (V.int a),some (V.int (2*(p:Int)+1)),some (V.int ((lk:Int)+1)),some (V.int (2*(p:Int)+1))]=_
    rw [ez,hB]
end
end Kx
end
section
namespace Kx
open PySem L2
section
variable {P:Program}{w:World}{K:PySem.W.Frag}{mg:Str->Option Value}{base:Heap}
open Hm
abbrev oR:Stmt:=top 7
theorem vD:FnScope ["heap","last"] ["heap"] (ai oR):=fsc fun nd=>⟨rfl,rfl,rfl,nd,rfl,by decide +kernel,by decide +kernel⟩
def qA:Sp:=fun vs H Q _=>∃ (r:Addr) (xs:List V) (t:V->List V),vs=[.ref r]/\H r=some (.lst xs)/\EnR t H xs/\0<xs.length/\xs.length<=1000 /\
 ∀H',H' r=some (.lst (cutf (ltT t) xs).1)->(∀b o,H b=some o->b≠r->H' b=some o)->Q (.int (cutf (ltT t) xs).2) H'
theorem xh {f fe:Addr}{fd fde:FuncData}(F:Fun K "cut_first" "cut_first" oR f fd)(T:Bl mg)(Glet_down:aw P w K mg base CX0 2 fe fde ["heap","start"] fQ)(Dlet_down:Nm K mg "let_down" fe fde ["heap","start"]) :
  aw P w K mg base CX0 3 f fd ["heap"] qA:=by
 have sc:=vD
 refine F.ok vD (fun vs H Q E h=>?_) (fun cdv A outer s H vs Q E hr h=>?_)
 .obtain ⟨r,xs,t,rfl,_⟩:=h
  rfl
 .obtain ⟨r,xs,t,rfl,hx,en,h0,hl,k⟩:=h
  have hu:=hr.units0
  refine ⟨_,(QSs.to (af (aq (i:=1) sc.nd rfl (Or.inl rfl) (qd PySem.F.plainAttrs_list PySem.F.slot_list_pop PySem.F.type_list_pop pL (qv 0)))
   (af (aX (aD bV (aG aL (by rfl) T.z_len (by decide +kernel) (ad (qv 0) aj)) ag (aH _)) (ao (aF ag)) aK)
   (af (bA (qv 1) (bF (qv 0) ag bg))
   (ao (aF (au Glet_down (hr.mono (by decide)) rfl Dlet_down.m Dlet_down.k Dlet_down.b .nil aB (ad (qv 0) (ad ag aj))))))))),?_⟩
  have eg:xs[xs.length-1]?=some (g xs (xs.length-1)):=by rw [g_get (by lia)];exact List.getElem?_eq_getElem _
  have mg':g xs (xs.length-1)∈xs:=List.mem_of_getElem? eg
  refine ⟨_,rfl,.inl ⟨rfl,_,SqL.of hx⟩,r,xs,_,rfl,rfl,hx,eg,?_⟩
  have ld:xs.dropLast.length=xs.length-1:=List.length_dropLast
  refine ⟨_,rfl,r,_,rfl,.inl (SqL.of ae),rfl,_,rfl,aI (fun c1=>?_) (fun c1=>?_)⟩
  .have c1':xs.dropLast.length=0:=by
    have:=of_decide_eq_true c1
    have:=V.int.inj this
    lia
   have ec:cutf (ltT t) xs=([],0):=cr (by lia)
   have:=k (upd H r (.lst xs.dropLast))
   rw [ec] at this
   exact this (by rw [ae,List.length_eq_zero_iff.mp c1']) fun b o e nb=>by rw [ak nb];exact e
  .have c1':xs.dropLast.length≠0:=fun z=>c1 (decide_eq_true (by rw [z];rfl))
   have l2:(xs.dropLast.set 0 (g xs (xs.length-1))).length=xs.dropLast.length:=List.length_set
   refine ⟨_,rfl,_,rfl,r,xs.dropLast,_,0,rfl,rfl,ae,b7 (by lia) (by lia),?_⟩
   rw [eu]
   have ec:cutf (ltT t) xs=dn (ltT t) xs.dropLast.length (xs.dropLast.set 0 (g xs (xs.length-1))) 0 0:=by
    unfold cutf
    rw [if_neg (fun z=>c1' (by rw [z];rfl))]
   refine ⟨_,rfl,r,_,0,t,rfl,ae,(en.sub fun y hy=>?_).put hx,by lia,fun H' h' f'=>?_⟩
   .rcases List.mem_or_eq_of_mem_set hy with z | z
    .exact (List.dropLast_sublist xs).mem z
    .rw [z];exact mg'
   .rw [l2,<-ec] at h'
    rw [l2,<-ec]
    exact k H' h' fun b o e nb=>f' b o (by rw [ak nb];exact e) nb
end
end Kx
end
section
namespace Kx
open PySem L2
section
variable {P:Program}{w:World}{K:PySem.W.Frag}{mg:Str->Option Value}{base:Heap}
open Hm
abbrev fS:Stmt:=top 8
theorem nV:FnScope ["heap","looks","place"] ["heap"] (ai fS):=fsc fun nd=>⟨rfl,rfl,rfl,nd,rfl,by decide +kernel,by decide +kernel⟩
def jw:Sp:=fun vs H Q _=>∃ (r:Addr) (xs:List V) (t:V->List V),vs=[.ref r]/\H r=some (.lst xs)/\EnR t H xs/\xs.length<=1000 /\
 ∀H',H' r=some (.lst (mk (ltT t) (xs.length / 2) xs 0).1)->(∀b o,H b=some o->b≠r->H' b=some o)->Q (.int (mk (ltT t) (xs.length / 2) xs 0).2) H'
theorem rn {f fn:Addr}{fd fdn:FuncData}(F:Fun K "order" "order" fS f fd)(T:Bl mg)(Glet_down:aw P w K mg base CX0 2 fn fdn ["heap","start"] fQ)(Dlet_down:Nm K mg "let_down" fn fdn ["heap","start"]) :
  aw P w K mg base CX0 3 f fd ["heap"] jw:=by
 have sc:=nV
 refine F.ok nV (fun vs H Q E h=>?_) (fun cdv A outer s H vs Q E hr h=>?_)
 .obtain ⟨r,xs,t,rfl,_⟩:=h
  rfl
 .obtain ⟨r,xs,t,rfl,hx,en,hl,k⟩:=h
  have hu:=hr.units0
  refine ⟨_,(QSs.to (af (aq (i:=1) sc.nd rfl (Or.inl rfl) ag)
   (af (dQ PassesOwn.never rfl (iO rfl T.z_range (ad (ay bM (ay bJ (aG aL (by rfl) T.z_len (by decide +kernel) (ad (qv 0) aj)) ag) ag) (ad (ny i9 ag) (ad (ny i9 ag) aj)))) (bf (i:=2) sc.nd rfl (Or.inl rfl)) (ao (aq (i:=1) sc.nd rfl (Or.inl rfl) (ay aM (qv 1) (au Glet_down (hr.mono (by decide)) rfl Dlet_down.m Dlet_down.k Dlet_down.b .nil aB (ad (qv 0) (ad (qv 2) aj)))))))
   (ao (aF (qv 1)))))),?_⟩
  refine ⟨_,rfl,r,_,rfl,.inl (SqL.of hx),_,_,rfl,rfl,⟨by decide,by decide⟩,_,_,rfl,rfl,_,rfl,_,rfl,_,_,rfl,⟨by lia,by lia,by lia,by lia⟩,?_⟩
  have en0:((xs.length:Int) / 2-1 - -1).toNat=xs.length / 2:=by lia
  refine gJ (lo:=(xs.length:Int) / 2-1) (n:=((xs.length:Int) / 2-1 - -1).toNat) (fun i σ H4=>∃ (lk:Nat) (o:Option V) (ys:List V),σ=[some (.ref r),some (.int lk),o]/\H4 r=some (.lst ys)/\ys.length=xs.length/\(∀y∈ys,y∈xs)/\(∀b o,H b=some o->b≠r->H4 b=some o)/\mk (ltT t) (xs.length / 2-i) ys lk=mk (ltT t) (xs.length / 2) xs 0)
   ⟨0,none,xs,rfl,hx,rfl,fun y h=>h,fun b o e _=>e,rfl⟩ ?_ ?_
  .rintro i σ H4 hi ⟨lk,o,ys,rfl,h4,l4,s4,f4,m4⟩
   rw [en0] at hi
   have en4:EnR t H4 ys:=(en.bar hx f4).sub s4
   have ei:(xs.length:Int) / 2-1-(i:Int)=((xs.length / 2-1-i:Nat):Int):=by lia
   refine ⟨_,rfl,_,rfl,_,rfl,r,ys,xs.length / 2-1-i,t,(by show [V.ref r,V.int ((xs.length:Int) / 2-1-(i:Int))]=_;rw [ei]),h4,en4,by lia,fun H5 h5 f5=>⟨_,_,rfl,rfl,?_⟩⟩
   refine ⟨lk+(dn (ltT t) ys.length ys (xs.length / 2-1-i) 0).2,_,_,rfl,h5,dn_len.trans l4,fun y hy=>s4 y (dn_perm.mem_iff.mp hy),fun b o e nb=>f5 b o (f4 b o e nb) nb,?_⟩
   rw [<-m4,show xs.length / 2-i=(xs.length / 2-(i+1))+1 by lia]
   conv=>rhs;unfold mk
   rw [show xs.length / 2-(i+1)=xs.length / 2-1-i by lia]
  .rintro σ H4 ⟨lk,o,ys,rfl,h4,l4,s4,f4,m4⟩
   rw [en0,Nat.sub_self] at m4
   have m5:(ys,lk)=mk (ltT t) (xs.length / 2) xs 0:=m4
   have:=k H4
   rw [<-m5] at this
   exact ⟨_,rfl,this h4 f4⟩
end
end Kx
end
section
namespace Kx
open PySem L2
section
variable {P:Program}{w:World}{K:PySem.W.Frag}{mg:Str->Option Value}{base:Heap}
open Hm
abbrev bmV:List Value:=[.type "ValueError",.type "Exception",.type "BaseException",.type "object"]
structure NT (K:PySem.W.Frag)(C:Addr):Prop where
 cl:Cls K C
 th:NoAttr K C "there"
 st:NoAttr K C "stamp"
abbrev ic:Stmt:=a8 (top 16) 1
theorem pR:FnScope ["self"] ["self"] (ai ic):=fsc fun nd=>⟨rfl,rfl,rfl,nd,rfl,by decide +kernel,by decide +kernel⟩
def kY (C:Addr):Sp:=fun vs H Q _=>∃ (p dx d:Addr) (fs:List (Str×V)) (ks:List (Key×V)),vs=[.ref p]/\H p=some (.ins C dx fs)/\fs.lookup ("there":Str)=some (.ref d)/\H d=some (.dK ks)/\Q (.int ks.length) H
theorem uC {f C:Addr}{fd:FuncData}(F:Fun K "many" "Named.many" ic f fd)(T:Bl mg)(L:NT K C):aw P w K mg base CX0 1 f fd ["self"] (kY C):=by
 have sc:=pR
 refine F.ok pR (fun vs H Q E h=>?_) (fun cdv A outer s H vs Q E hr h=>?_)
 .obtain ⟨p,dx,d,fs,ks,rfl,_⟩:=h
  rfl
 .obtain ⟨p,dx,d,fs,ks,rfl,hp,hl,hd,k⟩:=h
  have hu:=hr.units0
  refine ⟨_,(QSs.to (ao (aF (aG bR (by rfl) T.z_len (by decide +kernel) (ad (a6 (qv 0) rfl) aj))))),?_⟩
  exact ⟨_,rfl,p,C,dx,fs,_,rfl,hp,L.cl,L.th,hl,d,ks,rfl,hd,k⟩
abbrev fU:Stmt:=a8 (top 16) 3
theorem nJ:FnScope ["self","entry"] ["self","entry"] (ai fU):=fsc fun nd=>⟨rfl,rfl,rfl,nd,rfl,by decide +kernel,by decide +kernel⟩
def js (C:Addr):Sp:=fun vs H Q _=>∃ (p dx d:Addr) (fs:List (Str×V)) (ks:List (Key×V)) (T:List (Str×En)) (a:Addr) (e:En),vs=[.ref p,.ref a]/\H p=some (.ins C dx fs)/\fs.lookup ("there":Str)=some (.ref d)/\H d=some (.dK ks)/\KR H ks T/\H a=some (.tup (enV e))/\Q (.bl (Gm.holds T e)) H
theorem qI {f C:Addr}{fd:FuncData}(F:Fun K "holds" "Named.holds" fU f fd)(T:Bl mg)(L:NT K C):aw P w K mg base CX0 1 f fd ["self","entry"] (js C):=by
 have sc:=nJ
 refine F.ok nJ (fun vs H Q E h=>?_) (fun cdv A outer s H vs Q E hr h=>?_)
 .obtain ⟨p,dx,d,fs,ks,T',a,e,rfl,_⟩:=h
  rfl
 .obtain ⟨p,dx,d,fs,ks,T',a,e,rfl,hp,hl,hd,kr,ha,k⟩:=h
  have hu:=hr.units0
  refine ⟨_,(QSs.to (ao (aF (bY (tV hu) (jK (aT hr) (a6 (qv 0) rfl) (az aQ (qv 1) ag (fun _ _=>rfl)) ⟨rfl,rfl,rfl,rfl⟩) (qv 1) (aH _))))),?_⟩
  refine ⟨_,rfl,p,C,dx,fs,_,rfl,hp,L.cl,L.th,hl,d,rfl,.inl ⟨ks,.inl hd⟩,_,rfl,a,_,_,_,rfl,rfl,SqT.of ha,rfl,_,DGet.k (k:=Sum.inr e.n) hd,_,rfl,a,enV e,rfl,SqT.of ha,lh e,?_⟩
  unfold Gm.holds at k
  rcases kr.get e.n with ⟨e1,e2⟩ | ⟨b,e',e1,e2,hb⟩
  .rw [e2,decide_eq_false (fun z=>nomatch z)] at k
   rw [e1]
   exact .inl ⟨rfl,k⟩
  .rw [e2] at k
   rw [e1]
   refine .inr ⟨b,enV e',rfl,SqT.of hb,lh e',?_⟩
   by_cases z:e'=e
   .rw [z] at k ⊢
    rw [decide_eq_true rfl] at k ⊢
    exact k
   .rw [decide_eq_false (fun y=>z (Option.some.inj y))] at k
    rw [decide_eq_false (fun y=>z (uc y))]
    exact k
abbrev iF:Stmt:=a8 (top 16) 4
theorem p8:FnScope ["self","name"] ["self","name"] (ai iF):=fsc fun nd=>⟨rfl,rfl,rfl,nd,rfl,by decide +kernel,by decide +kernel⟩
def l0 (C X:Addr):Sp:=fun vs H Q E=>∃ (p dx d:Addr) (fs:List (Str×V)) (ks:List (Key×V)) (n:Str),vs=[.ref p,.str n]/\H p=some (.ins C dx fs)/\fs.lookup ("there":Str)=some (.ref d)/\H d=some (.dK ks)/\n.length<=1000/\((bn ks (Sum.inr n)).isSome=true->Q .non H)/\((bn ks (Sum.inr n)).isSome=false->E (.ref X) none H)
theorem sK {f C X:Addr}{fd:FuncData}(F:Fun K "need" "Named.need" iF f fd)(T:Bl mg)(L:NT K C)(mNoThing:mg "NoThing"=some (.ref X))(xNoThing:PySem.W.excIn K X bmV "ValueError.__new__"=true):aw P w K mg base (CXe P w) 1 f fd ["self","name"] (l0 C X):=by
 have sc:=p8
 refine F.okE p8 (fun vs H Q E h=>?_) (fun cdv A outer s H vs Q E hr h=>?_)
 .obtain ⟨p,dx,d,fs,ks,n,rfl,_⟩:=h
  rfl
 .obtain ⟨p,dx,d,fs,ks,n,rfl,hp,hl,hd,hn,k,kE⟩:=h
  have hu:=hr.units0
  refine ⟨_,(QSs.to (ao (aX (i4 (aT hr) (qv 1) (a6 (qv 0) rfl)) (ao (fV PySem.F.excBase_ValueError (by decide +kernel) rfl mNoThing xNoThing hr.hd (ad (j8 (qv 1) (by decide +kernel)) aj))) aK))),?_⟩
  refine ⟨_,rfl,_,rfl,p,C,dx,fs,_,rfl,hp,L.cl,L.th,hl,d,_,rfl,DGet.k (k:=Sum.inr n) hd,_,rfl,?_⟩
  cases e:(bn ks (Sum.inr n:Key)).isSome with
  | false=>exact pH ⟨_,rfl,n,rfl,hn,fun r=>⟨by show 1<=1000;decide,kE e⟩⟩
  | true=>exact eZ (k e)
abbrev iW:Stmt:=a8 (top 16) 5
theorem rN:FnScope ["self","name"] ["self","name"] (ai iW):=fsc fun nd=>⟨rfl,rfl,rfl,nd,rfl,by decide +kernel,by decide +kernel⟩
def mm (C X:Addr):Sp:=fun vs H Q E=>∃ (p dx d:Addr) (fs:List (Str×V)) (ks:List (Key×V)) (n:Str),vs=[.ref p,.str n]/\H p=some (.ins C dx fs)/\fs.lookup ("there":Str)=some (.ref d)/\H d=some (.dK ks)/\n.length<=1000/\((bn ks (Sum.inr n)).isSome=false->Q .non H)/\((bn ks (Sum.inr n)).isSome=true->E (.ref X) none H)
theorem ji {f C X:Addr}{fd:FuncData}(F:Fun K "need_free" "Named.need_free" iW f fd)(T:Bl mg)(L:NT K C)(mClash:mg "Clash"=some (.ref X))(xClash:PySem.W.excIn K X bmV "ValueError.__new__"=true):aw P w K mg base (CXe P w) 1 f fd ["self","name"] (mm C X):=by
 have sc:=rN
 refine F.okE rN (fun vs H Q E h=>?_) (fun cdv A outer s H vs Q E hr h=>?_)
 .obtain ⟨p,dx,d,fs,ks,n,rfl,_⟩:=h
  rfl
 .obtain ⟨p,dx,d,fs,ks,n,rfl,hp,hl,hd,hn,k,kE⟩:=h
  have hu:=hr.units0
  refine ⟨_,(QSs.to (ao (aX (qc (aT hr) (qv 1) (a6 (qv 0) rfl)) (ao (fV PySem.F.excBase_ValueError (by decide +kernel) rfl mClash xClash hr.hd (ad (j8 (qv 1) (by decide +kernel)) aj))) aK))),?_⟩
  refine ⟨_,rfl,_,rfl,p,C,dx,fs,_,rfl,hp,L.cl,L.th,hl,d,_,rfl,DGet.k (k:=Sum.inr n) hd,_,rfl,?_⟩
  cases e:(bn ks (Sum.inr n:Key)).isSome with
  | true=>exact pH ⟨_,rfl,n,rfl,hn,fun r=>⟨by show 1<=1000;decide,kE e⟩⟩
  | false=>exact eZ (k e)
abbrev oE:Stmt:=a8 (top 16) 6
theorem ve:FnScope ["self"] ["self"] (ai oE):=fsc fun nd=>⟨rfl,rfl,rfl,nd,rfl,by decide +kernel,by decide +kernel⟩
def vO (C X:Addr):Sp:=fun vs H Q E=>∃ (p dx d:Addr) (fs:List (Str×V)) (ks:List (Key×V)),vs=[.ref p]/\H p=some (.ins C dx fs)/\fs.lookup ("there":Str)=some (.ref d)/\H d=some (.dK ks)/\(ks≠[]->Q .non H)/\(ks=[]->E (.ref X) none H)
theorem j4 {f C X:Addr}{fd:FuncData}(F:Fun K "need_any" "Named.need_any" oE f fd)(T:Bl mg)(L:NT K C)(mNoThing:mg "NoThing"=some (.ref X))(xNoThing:PySem.W.excIn K X bmV "ValueError.__new__"=true):aw P w K mg base (CXe P w) 1 f fd ["self"] (vO C X):=by
 have sc:=ve
 refine F.okE ve (fun vs H Q E h=>?_) (fun cdv A outer s H vs Q E hr h=>?_)
 .obtain ⟨p,dx,d,fs,ks,rfl,_⟩:=h
  rfl
 .obtain ⟨p,dx,d,fs,ks,rfl,hp,hl,hd,k,kE⟩:=h
  have hu:=hr.units0
  refine ⟨_,(QSs.to (ao (aX (aD bV (aG bR (by rfl) T.z_len (by decide +kernel) (ad (a6 (qv 0) rfl) aj)) ag (aH _)) (ao (fV PySem.F.excBase_ValueError (by decide +kernel) rfl mNoThing xNoThing hr.hd (ad ar aj))) aK))),?_⟩
  refine ⟨_,rfl,p,C,dx,fs,_,rfl,hp,L.cl,L.th,hl,d,ks,rfl,hd,rfl,_,rfl,aI (fun c1=>?_) (fun c1=>?_)⟩
  .have:=V.int.inj (of_decide_eq_true c1)
   exact ⟨by show 1<=1000;decide,kE (List.length_eq_zero_iff.mp (by lia))⟩
  .exact k fun z=>c1 (decide_eq_true (by rw [z];rfl))
abbrev cg:Stmt:=a8 (top 16) 7
theorem iN:FnScope ["self","name","worth","entry"] ["self","name","worth"] (ai cg):=fsc fun nd=>⟨rfl,rfl,rfl,nd,rfl,by decide +kernel,by decide +kernel⟩
def il (C:Addr):Sp:=fun vs H Q _=>∃ (p dx d:Addr) (fs:List (Str×V)) (ks:List (Key×V)) (n:Str) (w st:Int),vs=[.ref p,.str n,.int w]/\H p=some (.ins C dx fs)/\fs.lookup ("there":Str)=some (.ref d)/\H d=some (.dK ks)/\fs.lookup ("stamp":Str)=some (.int st)/\fs.length<=100/\ks.length<=1000 /\
 ∀q,H q=none->Q (.ref q) (upd (upd (upd H q (.tup [.int w,.str n,.int st])) p (.ins C dx (bu ("stamp":Str) (.int (st+1)) fs))) d (.dK (a7 ks (Sum.inr n) (.ref q))))
theorem nB:¬ (("there":Str)="stamp"):=by decide +kernel
theorem lU {f C:Addr}{fd:FuncData}(F:Fun K "stamped" "Named.stamped" cg f fd)(T:Bl mg)(L:NT K C):aw P w K mg base CX0 1 f fd ["self","name","worth"] (il C):=by
 have sc:=iN
 refine F.ok iN (fun vs H Q E h=>?_) (fun cdv A outer s H vs Q E hr h=>?_)
 .obtain ⟨p,dx,d,fs,ks,n,w,st,rfl,_⟩:=h
  rfl
 .obtain ⟨p,dx,d,fs,ks,n,w,st,rfl,hp,hl,hd,hs,hf,hk,k⟩:=h
  have hu:=hr.units0
  have npd:p≠d:=bx hp hd (by intro z;cases z)
  refine ⟨_,(QSs.to (af (aq (i:=3) sc.nd rfl (Or.inl rfl) (a9 (ad (qv 2) (ad (qv 1) (ad (a6 (qv 0) rfl) aj)))))
   (af (b8 (qv 0) (ay aM (a6 (qv 0) rfl) ag) rfl)
   (af (eK (aT hr) (a6 (qv 0) rfl) (qv 1) (qv 3) rfl)
   (ao (aF (qv 3))))))),?_⟩
  refine ⟨_,rfl,_,rfl,_,rfl,p,C,dx,fs,_,rfl,hp,L.cl,L.st,hs,by show 3<=sizeLine;decide,fun q hq=>?_⟩
  have hp1:(upd H q (.tup [.int w,.str n,.int st])) p=some (.ins C dx fs):=by rw [ak (am hp hq)];exact hp
  have hd1:(upd H q (.tup [.int w,.str n,.int st])) d=some (.dK ks):=by rw [ak (am hd hq)];exact hd
  refine ⟨_,rfl,p,C,dx,fs,_,rfl,hp1,L.cl,L.st,hs,_,_,rfl,rfl,_,rfl,p,C,dx,fs,rfl,hp1,L.cl,L.st,by lia,?_⟩
  have hl2:(bu ("stamp":Str) (.int (st+1)) fs).lookup ("there":Str)=some (.ref d):=by rw [cX,if_neg nB];exact hl
  refine ⟨_,rfl,_,rfl,p,C,dx,_,_,rfl,ae,L.cl,L.th,hl2,_,rfl,d,_,rfl,DPut.k (k:=Sum.inr n) (by rw [ak npd.symm];exact hd1) (aS hk),?_⟩
  exact ⟨_,rfl,k q hq⟩
def wOf (T:List (Str×En))(n:Str):Int:=((Gm.dget T n).getD default).w
def PR (H:Hp)(zs:List V)(L:List (Str×Int)):Prop:=Paired (fun (z:V) (nw:Str×Int)=>∃ a,z=.ref a/\H a=some (.tup [.str nw.1,.int nw.2])) zs L
theorem PR.stay {H H':Hp}{zs:List V}{L:List (Str×Int)}(r:PR H zs L)(k:∀b l,H b=some (.tup l)->H' b=some (.tup l)):PR H' zs L:=Paired.mapP r fun p q ⟨a,b,c⟩=>⟨a,b,k _ _ c⟩
abbrev cx:Stmt:=a8 (top 16) 2
theorem kq:FnScope ["self"] ["self"] (ai cx):=fsc fun nd=>⟨rfl,rfl,rfl,nd,rfl,by decide +kernel,by decide +kernel⟩
def fm (C:Addr):Sp:=fun vs H Q _=>∃ (p dx d:Addr) (fs:List (Str×V)) (ks:List (Key×V)) (T:List (Str×En)),vs=[.ref p]/\H p=some (.ins C dx fs)/\fs.lookup ("there":Str)=some (.ref d)/\H d=some (.dK ks)/\KR H ks T/\ks.length<=1000 /\
 ∀(q:Addr) (zs:List V) (ys:List Str) (H':Hp),ys.Perm (T.map (·.1))->ys.Pairwise (fun x y=>slt y x=false)->H' q=some (.tup zs)->PR H' zs (ys.map fun n=>(n,wOf T n))->Same H H'->Q (.ref q) H'
theorem pC {f C:Addr}{fd:FuncData}(F:Fun K "things" "Named.things" cx f fd)(T:Bl mg)(L:NT K C):aw P w K mg base CX0 1 f fd ["self"] (fm C):=by
 have sc:=kq
 refine F.ok kq (fun vs H Q E h=>?_) (fun cdv A outer s H vs Q E hr h=>?_)
 .obtain ⟨p,dx,d,fs,ks,T',rfl,_⟩:=h
  rfl
 .obtain ⟨p,dx,d,fs,ks,T',rfl,hp,hl,hd,kr,hk,k⟩:=h
  have hu:=hr.units0
  refine ⟨_,(QSs.to (ao (aF (bD dO (by rfl) T.z_tuple (by decide +kernel) (ad (cy (Blk.of (N:=["self"]) (esc:=ai cx) (NB:=["self"]) (cap:=[0]) rfl rfl (fun y hy=>bv hy) rfl (by decide +kernel) (by decide +kernel) (by decide +kernel) rfl (by decide +kernel) rfl (by decide +kernel)) rfl rfl (fj (aG (eT rfl) (by rfl) T.z_sorted (by decide +kernel) (ad (a6 (qv 0) rfl) aj))) (fun C fp s₀ H₀=>eI) (fun C fp s₀ H₀=>(a9 (ad (qv 0) (ad (az (tK (K:=K) rfl) (aP (aT hr) (ur (K:=K) rfl (qv 1) rfl) (qv 0) (fun _ _=>rfl)) ag (fun _ _=>rfl)) aj))))) aj))))),?_⟩
  refine ⟨_,rfl,p,C,dx,fs,_,rfl,hp,L.cl,L.th,hl,d,ks,T'.map (·.1),rfl,hd,kr.keys,fun l ys hl1 pm srt=>⟨l,rfl,⟨_,SqL.of ae⟩,fun D hD=>?_⟩⟩
  have ly:ys.length=ks.length:=by rw [pm.length_eq,List.length_map,kr.len]
  have s1:=ap (o:=.lst (ys.map V.str)) hl1
  generalize hH1:upd H l (.lst (ys.map V.str))=H1 at hD s1
  have l1:H1 l=some (.lst (ys.map V.str)):=by rw [<-hH1];exact ae
  refine cK (K:=K) (a:=l) (xs:=ys.map V.str) (fun i zs H4=>H4 D=some (.lst zs)/\PR H4 zs ((ys.take i).map fun n=>(n,wOf T' n))/\Same H1 H4) ⟨ae,.nil,ap hD⟩ (fun i zs H4 z=>⟨z.1,SqL.of (z.2.2 _ _ l1)⟩) ?_ ?_
  .rintro i x zs H4 hx ⟨h4,pr,s4⟩
   obtain ⟨n,hn,rfl⟩:∃ n,ys[i]?=some n/\x=.str n:=by
    rw [List.getElem?_map] at hx
    cases e:ys[i]? with
    | none=>rw [e] at hx;cases hx
    | some n=>rw [e] at hx;cases hx;exact ⟨n,rfl,rfl⟩
   have hi:i<ys.length:=(List.getElem?_eq_some_iff.mp hn).1
   have s5:Same H H4:=s1.trans s4
   have kr4:KR H4 ks T':=kr.stay fun b l h=>s5 _ _ h
   rcases kr4.get n with ⟨_,e2⟩ | ⟨b,e',e1,e2,hb⟩
   .exact absurd (pm.mem_iff.mp (List.mem_of_getElem? hn)) (Gm.dget_none.mp e2)
   unfold lT
   dsimp only
   rw [if_pos rfl]
   refine ⟨_,rfl,_,rfl,p,C,dx,fs,_,rfl,s5 _ _ hp,L.cl,L.th,hl,_,rfl,d,_,rfl,e1▸DGet.k (k:=Sum.inr n) (s5 _ _ hd),b,_,_,_,rfl,rfl,SqT.of hb,rfl,by show 2<=sizeLine;decide,fun t ht=>?_⟩
   have lz:zs.length=i:=by
    have:=Paired.length pr
    rw [List.length_map,List.length_take] at this
    lia
   have lys:(ys.map V.str).length=ys.length:=List.length_map ..
   refine ⟨by rw [ak (am h4 ht)];exact h4,by rw [lz];exact aS (by lia),_,by lia,rfl,by lia,ae,?_,?_⟩
   .have et:ys.take (i+1)=ys.take i++[n]:=by rw [List.take_add_one,hn];rfl
    rw [et,List.map_append]
    have tne:t≠D:=fun z=>by rw [z,h4] at ht;cases ht
    refine Paired.snoc (pr.stay fun b l h=>?_) ⟨t,rfl,?_⟩
    .rw [ak (bx h h4 (by intro z;cases z)),ak (am h ht)]
     exact h
    .rw [ak tne,ae]
     have ew:wOf T' n=e'.w:=by unfold wOf;rw [e2];rfl
     show some (HO.tup [V.str n,V.int e'.w])=some (HO.tup [V.str n,V.int (wOf T' n)])
     rw [ew]
   .intro b o h
    have h6:=s4 b o h
    rw [ak (fun z=>by rw [z] at h;rw [h] at hD;cases hD),ak (am h6 ht)]
    exact h6
  .rintro zs H4 ⟨h4,pr,s4⟩
   rw [List.length_map,List.take_length] at pr
   refine ⟨D,zs,rfl,.inl ⟨SqL.of h4,fun q hq=>?_⟩⟩
   exact k q zs ys _ pm srt ae (pr.stay fun b l h=>by rw [ak (am h hq)];exact h) ((s1.trans s4).trans (ap hq))
abbrev fH:Stmt:=a8 (top 16) 0
theorem mU:FnScope ["self"] ["self"] (ai fH):=fsc fun nd=>⟨rfl,rfl,rfl,nd,rfl,by decide +kernel,by decide +kernel⟩
def n0 (C:Addr):Sp:=fun vs H Q _=>∃ (p dx:Addr),vs=[.ref p]/\H p=some (.ins C dx [])/\∀d,H d=none->Q .non (upd (upd (upd H d (.dK [])) p (.ins C dx [("there",.ref d)])) p (.ins C dx [("there",.ref d),("stamp",.int 0)]))
theorem fT {f C:Addr}{fd:FuncData}(F:Fun K "__init__" "Named.__init__" fH f fd)(T:Bl mg)(L:NT K C):aw P w K mg base CX0 1 f fd ["self"] (n0 C):=by
 have sc:=mU
 refine F.ok mU (fun vs H Q E h=>?_) (fun cdv A outer s H vs Q E hr h=>?_)
 .obtain ⟨p,dx,rfl,_⟩:=h
  rfl
 .obtain ⟨p,dx,rfl,hp,k⟩:=h
  have hu:=hr.units0
  refine ⟨_,(QSs.to (af (b8 (qv 0) cS rfl)
   (ao (b8 (qv 0) ag rfl)))),?_⟩
  intro d hd
  have npd:p≠d:=am hp hd
  refine ⟨_,rfl,p,C,dx,[],rfl,(by rw [ak npd];exact hp),L.cl,L.th,(by show 0<1000;decide),_,rfl,p,C,dx,_,rfl,ae,L.cl,L.st,(by show 1<1000;decide),?_⟩
  have e1:bu ("stamp":Str) (.int 0) (bu ("there":Str) (.ref d) [])=([("there",V.ref d),("stamp",V.int 0)]:List (Str×V)):=by
   show (if ("there":Str)="stamp" then _ else _)=_
   rw [if_neg nB]
   rfl
  rw [e1]
  exact k d hd
end
end Kx
end
section
namespace Kx
open PySem L2
section
variable {P:Program}{w:World}{K:PySem.W.Frag}{mg:Str->Option Value}{base:Heap}
open Hm
structure LT (K:PySem.W.Frag)(C:Addr):Prop where
 nt:NT K C
 sk:NoAttr K C "slack"
 en:NoAttr K C "entries"
 lk:NoAttr K C "looks"
theorem LT.cl {C:Addr}(L:LT K C):Cls K C:=L.nt.cl
def lfs (d l:Addr)(s:LS):List (Str×V):=[("there",.ref d),("stamp",.int s.stamp),("slack",.int s.slack),("entries",.ref l),("looks",.int s.looks)]
theorem bS {a b:Str}{v:V}{r:List (Str×V)}(h:¬ b=a):List.lookup a ((b,v)::r)=List.lookup a r:=by
 rw [List.lookup_cons,beq_eq_false_iff_ne.mpr (fun z=>h z.symm)]
theorem jL {a:Str}{v:V}{r:List (Str×V)}:List.lookup a ((a,v)::r)=some v:=by
 rw [List.lookup_cons,beq_self_eq_true]
theorem bK {a b:Str}{v x:V}{r:List (Str×V)}(h:¬ b=a):bu a v ((b,x)::r)=(b,x)::bu a v r:=if_neg h
theorem rG {a:Str}{v x:V}{r:List (Str×V)}:bu a v ((a,x)::r)=(a,v)::r:=if_pos rfl
theorem d1:¬ (("there":Str)="slack"):=by decide +kernel
theorem d2:¬ (("there":Str)="entries"):=by decide +kernel
theorem d3:¬ (("there":Str)="looks"):=by decide +kernel
theorem d4:¬ (("stamp":Str)="slack"):=by decide +kernel
theorem d5:¬ (("stamp":Str)="entries"):=by decide +kernel
theorem d6:¬ (("stamp":Str)="looks"):=by decide +kernel
theorem d7:¬ (("slack":Str)="entries"):=by decide +kernel
theorem d8:¬ (("slack":Str)="looks"):=by decide +kernel
theorem d9:¬ (("entries":Str)="looks"):=by decide +kernel
section
variable {d l l':Addr}{s:LS}
theorem bp:(lfs d l s).lookup ("there":Str)=some (.ref d):=jL
theorem ya:(lfs d l s).lookup ("stamp":Str)=some (.int s.stamp):=by unfold lfs;rw [bS nB,jL]
theorem xO:(lfs d l s).lookup ("slack":Str)=some (.int s.slack):=by unfold lfs;rw [bS d1,bS d4,jL]
theorem gs:(lfs d l s).lookup ("entries":Str)=some (.ref l):=by unfold lfs;rw [bS d2,bS d5,bS d7,jL]
theorem nc:(lfs d l s).lookup ("looks":Str)=some (.int s.looks):=by unfold lfs;rw [bS d3,bS d6,bS d8,bS d9,jL]
theorem xv {m:Str}(h1:¬ ("there":Str)=m)(h2:¬ ("stamp":Str)=m)(h3:¬ ("slack":Str)=m)(h4:¬ ("entries":Str)=m)(h5:¬ ("looks":Str)=m):(lfs d l s).lookup m=none:=by unfold lfs;rw [bS h1,bS h2,bS h3,bS h4,bS h5];rfl
theorem lfn {m:Str}(h1:¬ ("there":Str)=m:=by decide +kernel)(h2:¬ ("stamp":Str)=m:=by decide +kernel)(h3:¬ ("slack":Str)=m:=by decide +kernel)(h4:¬ ("entries":Str)=m:=by decide +kernel)(h5:¬ ("looks":Str)=m:=by decide +kernel):(lfs d l s).lookup m=none:=xv h1 h2 h3 h4 h5
theorem xk {k:Nat}:bu ("stamp":Str) (.int ((s.stamp:Int)+1)) (lfs d l s)=lfs d l { s with stamp:=s.stamp+1 }:=by unfold lfs;rw [bK nB,rG];rfl
theorem xU:bu ("entries":Str) (.ref l') (lfs d l s)=lfs d l' s:=by unfold lfs;rw [bK d2,bK d5,bK d7,rG]
theorem qR {k:Nat}:bu ("looks":Str) (.int ((s.looks:Int)+k)) (lfs d l s)=lfs d l { s with looks:=s.looks+k }:=by
 unfold lfs
 rw [bK d3,bK d6,bK d8,bK d9,rG]
 show _=[_,_,_,_,(_,V.int ((s.looks+k:Nat):Int))]
 rw [Int.natCast_add]
end
structure LateAt (C:Addr)(H:Hp)(p d l:Addr)(s:LS):Prop where
 ob:∃ dx,H p=some (.ins C dx (lfs d l s))
 dc:∃ ks,H d=some (.dK ks)/\KR H ks s.there
 ls:∃ xs,H l=some (.lst xs)/\RR H xs s.row
section
variable {C p d l:Addr}{H H':Hp}{s:LS}
theorem LateAt.notup (L:LateAt C H p d l s):∀b∈[p,d,l],∀xs,H b≠some (.tup xs):=by
 obtain ⟨dx,h1⟩:=L.ob
 obtain ⟨ks,h2,_⟩:=L.dc
 obtain ⟨xs,h3,_⟩:=L.ls
 intro b hb ys z
 simp only [List.mem_cons,List.not_mem_nil,or_false] at hb
 rcases hb with rfl | rfl | rfl
 .rw [h1] at z;cases z
 .rw [h2] at z;cases z
 .rw [h3] at z;cases z
theorem LateAt.npd (L:LateAt C H p d l s):p≠d:=by
 obtain ⟨dx,h1⟩:=L.ob
 obtain ⟨ks,h2,_⟩:=L.dc
 exact bx h1 h2 (by intro z;cases z)
theorem LateAt.npl (L:LateAt C H p d l s):p≠l:=by
 obtain ⟨dx,h1⟩:=L.ob
 obtain ⟨ks,h2,_⟩:=L.ls
 exact bx h1 h2 (by intro z;cases z)
theorem LateAt.ndl (L:LateAt C H p d l s):d≠l:=by
 obtain ⟨dx,h1,_⟩:=L.dc
 obtain ⟨ks,h2,_⟩:=L.ls
 exact bx h1 h2 (by intro z;cases z)
theorem LateAt.stay (L:LateAt C H p d l s)(k:∀b o,b=p∨b=d∨b=l->H b=some o->H' b=some o)(t:∀b l,H b=some (.tup l)->H' b=some (.tup l)):LateAt C H' p d l s:=by
 obtain ⟨dx,h1⟩:=L.ob
 obtain ⟨ks,h2,r2⟩:=L.dc
 obtain ⟨xs,h3,r3⟩:=L.ls
 exact ⟨⟨dx,k _ _ (.inl rfl) h1⟩,⟨ks,k _ _ (.inr (.inl rfl)) h2,r2.stay t⟩,⟨xs,k _ _ (.inr (.inr rfl)) h3,r3.stay t⟩⟩
theorem LateAt.same (L:LateAt C H p d l s)(k:Same H H'):LateAt C H' p d l s:=L.stay (fun b o _ h=>k b o h) fun b l h=>k b _ h
end
def Fr3 (H:Hp)(l l':Addr):Prop:=l'=l∨H l'=none
abbrev fP:Stmt:=a8 (top 18) 8
theorem m7:FnScope ["self","name","worth"] ["self","name","worth"] (ai fP):=fsc fun nd=>⟨rfl,rfl,rfl,nd,rfl,by decide +kernel,by decide +kernel⟩
def jC (C:Addr):Sp:=fun vs H Q _=>∃ (p d l:Addr) (s:LS) (n:Str) (w:Int),vs=[.ref p,.str n,.int w]/\LateAt C H p d l s/\s.row.length<=1000/\s.there.length<=1000 /\
 ∀H',LateAt C H' p d l (Gm.enter slt s n w)->Kept [p,d,l] H H'->Q .non H'
theorem tf {H:Hp}{r a:Addr}{xs:List V}{es:List En}{e:En}{Q:VK}{E:XK}(h:H r=some (.lst xs))(rr:RR H xs es)(ha:H a=some (.tup (enV e)))(hl:es.length<=1000)
  (k:∀ys H',H' r=some (.lst ys)->RR H' ys (Hg.up lE es.length (es++[e]) es.length 0).1->Kept [r] H H'->Q (.int (Hg.up lE es.length (es++[e]) es.length 0).2) H'):qu [.ref r,.ref a] H Q E:=by
 have rs:=rr.snoc ha
 refine ⟨r,xs,.ref a,bz H,rfl,h,rs.en,by rw [rr.len];exact hl,fun H' h' kp=>?_⟩
 have em:=kO (H:=H) (f:=xs.length) (xs:=xs++[.ref a]) (p:=xs.length) (lk:=0)
 rw [rs.eq,rr.len] at em
 have kk:Kept [r] H H':=fun b o q n=>kp b o q fun z=>n (List.mem_singleton.mpr z)
 have:=k _ H' h' (by
  rw [em,rr.len]
  have r2:=rs.sub (ys:=(up (ltT (bz H)) es.length (xs++[.ref a]) es.length 0).1) fun y hy=>(dk (by rw [List.length_append,rr.len];exact Nat.lt_succ_self _)).mem_iff.mp hy
  exact r2.stay (kk.tups fun b hb ys z=>by rw [List.mem_singleton.mp hb,h] at z;cases z)) kk
 rw [em] at this
 rw [rr.len]
 exact this
theorem pO {f C fa fb:Addr}{fd fda fdb:FuncData}(F:Fun K "enter" "Late.enter" fP f fd)(T:Bl mg)(L:LT K C)(Glay_in:aw P w K mg base CX0 3 fa fda ["heap","entry"] qu)(Dlay_in:Nm K mg "lay_in" fa fda ["heap","entry"])
  (Mstamped:aZ K C "stamped" fb) (Gstamped:aw P w K mg base CX0 1 fb fdb ["self","name","worth"] (il C)) (Bstamped:Binds K fdb ["self","name","worth"] []):aw P w K mg base CX0 4 f fd ["self","name","worth"] (jC C):=by
 have sc:=m7
 refine F.ok m7 (fun vs H Q E h=>?_) (fun cdv A outer s H vs Q E hr h=>?_)
 .obtain ⟨p,d,l,s,n,w,rfl,_⟩:=h
  rfl
 .obtain ⟨p,d,l,s,n,w,rfl,LA,h1,h2,k⟩:=h
  have hu:=hr.units0
  have npd:=LA.npd
  have npl:=LA.npl
  have ndl:=LA.ndl
  obtain ⟨dx,hp⟩:=LA.ob
  obtain ⟨ks,hd,kr⟩:=LA.dc
  obtain ⟨xs,hx,rr⟩:=LA.ls
  refine ⟨_,(QSs.to (ao (b8 (qv 0) (ay aM (a6 (qv 0) rfl) (au Glay_in (hr.mono (by decide)) rfl Dlay_in.m Dlay_in.k Dlay_in.b .nil aB (ad (a6 (qv 0) rfl) (ad (bo (qv 0) L.cl Mstamped Gstamped (hr.mono (by decide)) Bstamped .nil aB (ad (qv 1) (ad (qv 2) aj))) aj)))) rfl))),?_⟩
  refine ⟨_,rfl,p,C,dx,_,_,rfl,hp,L.cl,L.lk,nc,_,rfl,p,C,dx,_,_,rfl,hp,L.cl,L.en,gs,_,rfl,p,dx,_,rfl,hp,lfn,_,rfl,_,rfl,p,dx,d,_,ks,n,w,s.stamp,rfl,hp,bp,hd,ya,by show 5<=100;decide,by rw [kr.len];exact h2,fun q hq=>?_⟩
  have npq:p≠q:=am hp hq
  have ndq:d≠q:=am hd hq
  have nlq:l≠q:=am hx hq
  rw [xk (k:=0)]
  have q2:∀b o,H b=some o->b≠p->b≠d->(upd (upd (upd H q (.tup [.int w,.str n,.int s.stamp])) p (.ins C dx (lfs d l { s with stamp:=s.stamp+1 }))) d (.dK (a7 ks (Sum.inr n) (.ref q)))) b=some o:=fun b o e n1 n2=>by
   rw [ak n2,ak n1,ak (am e hq)];exact e
  have hq2:(upd (upd (upd H q (.tup [.int w,.str n,.int s.stamp])) p (.ins C dx (lfs d l { s with stamp:=s.stamp+1 }))) d (.dK (a7 ks (Sum.inr n) (.ref q)))) q=some (.tup (enV ⟨w,n,(s.stamp:Int)⟩)):=by
   rw [ak ndq.symm,ak npq.symm,ae];rfl
  have hp2:(upd (upd (upd H q (.tup [.int w,.str n,.int s.stamp])) p (.ins C dx (lfs d l { s with stamp:=s.stamp+1 }))) d (.dK (a7 ks (Sum.inr n) (.ref q)))) p=some (.ins C dx (lfs d l { s with stamp:=s.stamp+1 })):=by
   rw [ak npd,ae]
  have hd2:(upd (upd (upd H q (.tup [.int w,.str n,.int s.stamp])) p (.ins C dx (lfs d l { s with stamp:=s.stamp+1 }))) d (.dK (a7 ks (Sum.inr n) (.ref q)))) d=some (.dK (a7 ks (Sum.inr n) (.ref q))):=ae
  have kk2:Kept [p,d,l] H (upd (upd (upd H q (.tup [.int w,.str n,.int s.stamp])) p (.ins C dx (lfs d l { s with stamp:=s.stamp+1 }))) d (.dK (a7 ks (Sum.inr n) (.ref q)))):=fun b o e nb=>q2 b o e (fun z=>nb (z▸by simp)) (fun z=>nb (z▸by simp))
  generalize (upd (upd (upd H q (.tup [.int w,.str n,.int s.stamp])) p (.ins C dx (lfs d l { s with stamp:=s.stamp+1 }))) d (.dK (a7 ks (Sum.inr n) (.ref q))))=H2 at q2 hq2 hp2 hd2 kk2 ⊢
  have t2:=kk2.tups LA.notup
  have hx2:=q2 l _ hx npl.symm ndl.symm
  unfold mo
  dsimp only [List.cons_append,List.nil_append]
  refine tf hx2 (rr.stay t2) hq2 h1 fun ys H3 h3 rr3 k3=>?_
  have pn:p∉[l]:=fun z=>npl (List.mem_singleton.mp z)
  have dn':d∉[l]:=fun z=>ndl (List.mem_singleton.mp z)
  have hp3:=k3 p _ hp2 pn
  have t3:=k3.tups (fun b hb zs z=>by rw [List.mem_singleton.mp hb,hx2] at z;cases z)
  refine ⟨_,_,rfl,rfl,_,rfl,p,C,dx,_,rfl,hp3,L.cl,L.lk,by show 5<1000;decide,?_⟩
  have e6:=qR (d:=d) (l:=l) (s:={ s with stamp:=s.stamp+1 }) (k:=(Hg.up lE s.row.length (s.row++[⟨w,n,(s.stamp:Int)⟩]) s.row.length 0).2)
  have e7:bu ("looks":Str) (.int ((s.looks:Int)+((Hg.up lE s.row.length (s.row++[⟨w,n,(s.stamp:Int)⟩]) s.row.length 0).2:Nat))) (lfs d l { s with stamp:=s.stamp+1 })=lfs d l (Gm.enter slt s n w):=e6
  rw [e7]
  have t4:∀b zs,H3 b=some (.tup zs)->(upd H3 p (.ins C dx (lfs d l (Gm.enter slt s n w)))) b=some (.tup zs):=fun b zs z=>by rw [ak (bx z hp3 (by intro y;cases y))];exact z
  refine k _ ⟨⟨dx,ae⟩,⟨_,by rw [ak npd.symm];exact k3 d _ hd2 dn',((((kr.stay t2).put hq2).stay t3).stay t4)⟩,⟨ys,by rw [ak npl.symm];exact h3,rr3.stay t4⟩⟩ ?_
  exact (kk2.trans (k3.mono fun b hb=>by rw [List.mem_singleton.mp hb];simp)).put (by simp)
abbrev iE:Stmt:=a8 (top 18) 9
theorem qK:FnScope ["self"] ["self"] (ai iE):=fsc fun nd=>⟨rfl,rfl,rfl,nd,rfl,by decide +kernel,by decide +kernel⟩
def kS (C:Addr):Sp:=fun vs H Q _=>∃ (p d l:Addr) (s:LS),vs=[.ref p]/\LateAt C H p d l s/\0<s.row.length/\s.row.length<=1000/\∀H',LateAt C H' p d l (Gm.cut slt s)->Kept [p,l] H H'->Q .non H'
theorem uf {H:Hp}{r:Addr}{xs:List V}{es:List En}{Q:VK}{E:XK}(h:H r=some (.lst xs))(rr:RR H xs es)(h0:0<es.length)(hl:es.length<=1000)
  (k:∀ys H',H' r=some (.lst ys)->RR H' ys (Hg.cutf lE es).1->Kept [r] H H'->Q (.int (Hg.cutf lE es).2) H'):qA [.ref r] H Q E:=by
 refine ⟨r,xs,bz H,rfl,h,rr.en,by rw [rr.len];exact h0,by rw [rr.len];exact hl,fun H' h' kp=>?_⟩
 have em:=mS (H:=H) (xs:=xs)
 rw [rr.eq] at em
 have kk:Kept [r] H H':=fun b o q n=>kp b o q fun z=>n (List.mem_singleton.mpr z)
 have:=k _ H' h' (by
  rw [em]
  have r2:=rr.sub (ys:=(cutf (ltT (bz H)) xs).1) fun y hy=>(cq (by rw [rr.len];exact h0)).mem_iff.mp (List.mem_cons_of_mem _ hy)
  exact r2.stay (kk.tups fun b hb ys z=>by rw [List.mem_singleton.mp hb,h] at z;cases z)) kk
 rw [em] at this
 exact this
theorem ut {f C fa:Addr}{fd fda:FuncData}(F:Fun K "cut" "Late.cut" iE f fd)(T:Bl mg)(L:LT K C)(Gcut_first:aw P w K mg base CX0 3 fa fda ["heap"] qA)(Dcut_first:Nm K mg "cut_first" fa fda ["heap"]):aw P w K mg base CX0 4 f fd ["self"] (kS C):=by
 have sc:=qK
 refine F.ok qK (fun vs H Q E h=>?_) (fun cdv A outer s H vs Q E hr h=>?_)
 .obtain ⟨p,d,l,s,rfl,_⟩:=h
  rfl
 .obtain ⟨p,d,l,s,rfl,LA,h0,h1,k⟩:=h
  have hu:=hr.units0
  have npd:=LA.npd
  have npl:=LA.npl
  have ndl:=LA.ndl
  obtain ⟨dx,hp⟩:=LA.ob
  obtain ⟨ks,hd,kr⟩:=LA.dc
  obtain ⟨xs,hx,rr⟩:=LA.ls
  refine ⟨_,(QSs.to (ao (b8 (qv 0) (ay aM (a6 (qv 0) rfl) (au Gcut_first (hr.mono (by decide)) rfl Dcut_first.m Dcut_first.k Dcut_first.b .nil aB (ad (a6 (qv 0) rfl) aj))) rfl))),?_⟩
  refine ⟨_,rfl,p,C,dx,_,_,rfl,hp,L.cl,L.lk,nc,_,rfl,p,C,dx,_,_,rfl,hp,L.cl,L.en,gs,?_⟩
  unfold mo
  dsimp only [List.cons_append,List.nil_append]
  refine uf hx rr h0 h1 fun ys H3 h3 rr3 k3=>?_
  have pn:p∉[l]:=fun z=>npl (List.mem_singleton.mp z)
  have dn':d∉[l]:=fun z=>ndl (List.mem_singleton.mp z)
  have hp3:=k3 p _ hp pn
  have t3:=k3.tups (fun b hb zs z=>by rw [List.mem_singleton.mp hb,hx] at z;cases z)
  refine ⟨_,_,rfl,rfl,_,rfl,p,C,dx,_,rfl,hp3,L.cl,L.lk,by show 5<1000;decide,?_⟩
  have e7:bu ("looks":Str) (.int ((s.looks:Int)+((Hg.cutf lE s.row).2:Nat))) (lfs d l s)=lfs d l (Gm.cut slt s):=qR
  rw [e7]
  have t4:∀b zs,H3 b=some (.tup zs)->(upd H3 p (.ins C dx (lfs d l (Gm.cut slt s)))) b=some (.tup zs):=fun b zs z=>by rw [ak (bx z hp3 (by intro y;cases y))];exact z
  refine k _ ⟨⟨dx,ae⟩,⟨ks,by rw [ak npd.symm];exact k3 d _ hd dn',(kr.stay t3).stay t4⟩,⟨ys,by rw [ak npl.symm];exact h3,rr3.stay t4⟩⟩ ?_
  exact (k3.mono fun b hb=>by rw [List.mem_singleton.mp hb];simp).put (by simp)
end
end Kx
end
section
namespace Kx
open PySem L2
section
variable {P:Program}{w:World}{K:PySem.W.Frag}{mg:Str->Option Value}{base:Heap}
open Hm
theorem LateAt.fresh {C p d l l':Addr}{H H2:Hp}{s:LS}(L:LateAt C H2 p d l s)(k:Kept [p,d,l] H H2)(z:H2 l'=none):H l'=none:=by
 obtain ⟨dx,h1⟩:=L.ob
 obtain ⟨ks,h2,_⟩:=L.dc
 obtain ⟨xs,h3,_⟩:=L.ls
 refine k.none z fun hb=>?_
 simp only [List.mem_cons,List.not_mem_nil,or_false] at hb
 rcases hb with rfl | rfl | rfl
 .rw [h1] at z;cases z
 .rw [h2] at z;cases z
 .rw [h3] at z;cases z
theorem oS {H:Hp}{r:Addr}{xs:List V}{es:List En}{Q:VK}{E:XK}(h:H r=some (.lst xs))(rr:RR H xs es)(hl:es.length<=1000)
  (k:∀ys H',H' r=some (.lst ys)->RR H' ys (Hg.mk lE (es.length / 2) es 0).1->Kept [r] H H'->Q (.int (Hg.mk lE (es.length / 2) es 0).2) H'):jw [.ref r] H Q E:=by
 refine ⟨r,xs,bz H,rfl,h,rr.en,by rw [rr.len];exact hl,fun H' h' kp=>?_⟩
 have em:=lN (H:=H) (k:=xs.length / 2) (xs:=xs) (lk:=0)
 rw [rr.eq,rr.len] at em
 rw [rr.len] at h' ⊢
 have kk:Kept [r] H H':=fun b o q n=>kp b o q fun z=>n (List.mem_singleton.mpr z)
 have:=k _ H' h' (by
  rw [em]
  have r2:=rr.sub (ys:=(mk (ltT (bz H)) (es.length / 2) xs 0).1) fun y hy=>mk_perm.mem_iff.mp hy
  exact r2.stay (kk.tups fun b hb ys z=>by rw [List.mem_singleton.mp hb,h] at z;cases z)) kk
 rw [em] at this
 exact this
abbrev ed:Stmt:=a8 (top 18) 11
theorem oq:FnScope ["self","gone"] ["self"] (ai ed):=fsc fun nd=>⟨rfl,rfl,rfl,nd,rfl,by decide +kernel,by decide +kernel⟩
def fq (C:Addr):Sp:=fun vs H Q _=>∃ (p d l:Addr) (s:LS),vs=[.ref p]/\LateAt C H p d l s/\s.row.length<=1000/\∀l' H',LateAt C H' p d l' (Gm.sweep slt s)->Kept [p,d,l] H H'->Fr3 H l l'->Q .non H'
theorem jS {α:Type}{xs:List α}{f:α->Bool}{i:Nat}{x:α}(h:xs[i]?=some x):(xs.take (i+1)).filter f=(xs.take i).filter f++(if f x=true then [x] else []):=by
 rw [List.take_add_one,h,List.filter_append]
 congr 1
 show List.filter f [x]=_
 by_cases z:f x=true
 .rw [if_pos z,List.filter_cons,if_pos z,List.filter_nil]
 .rw [if_neg z,List.filter_cons,if_neg z,List.filter_nil]
theorem sg {f C fa fholds:Addr}{fd fda fdholds:FuncData}(F:Fun K "sweep_if_due" "Late.sweep_if_due" ed f fd)(T:Bl mg)(L:LT K C)(Gorder:aw P w K mg base CX0 3 fa fda ["heap"] jw)(Dorder:Nm K mg "order" fa fda ["heap"])(Mholds:aZ K C "holds" fholds)(Gholds:aw P w K mg base CX0 1 fholds fdholds ["self","entry"] (js C))(Bholds:Binds K fdholds ["self","entry"] []):aw P w K mg base CX0 4 f fd ["self"] (fq C):=by
 have sc:=oq
 refine F.ok oq (fun vs H Q E h=>?_) (fun cdv A outer s H vs Q E hr h=>?_)
 .obtain ⟨p,d,l,s,rfl,_⟩:=h
  rfl
 .obtain ⟨p,d,l,s,rfl,LA,h1,kQ⟩:=h
  have hu:=hr.units0
  have npd:=LA.npd
  have npl:=LA.npl
  have ndl:=LA.ndl
  obtain ⟨dx,hp⟩:=LA.ob
  obtain ⟨ks,hd,kr⟩:=LA.dc
  obtain ⟨xs,hx,rr⟩:=LA.ls
  refine ⟨_,(QSs.to (af (aq (i:=1) sc.nd rfl (Or.inl rfl) (ay bM (aG aL (by rfl) T.z_len (by decide +kernel) (ad (a6 (qv 0) rfl) aj)) (aG bR (by rfl) T.z_len (by decide +kernel) (ad (a6 (qv 0) rfl) aj))))
   (ao (aX (QW.pt (dR (aD gp (qv 1) (aG bR (by rfl) T.z_len (by decide +kernel) (ad (a6 (qv 0) rfl) aj)) (aH _)) (cP (aD gp (qv 1) (a6 (qv 0) rfl) (aH _))))) (af (b8 (qv 0) (cy (Blk.of (N:=["self","gone"]) (esc:=ai ed) (NB:=["self"]) (cap:=[0]) rfl rfl (fun y hy=>bv hy) rfl (by decide +kernel) (by decide +kernel) (by decide +kernel) rfl (by decide +kernel) rfl (by decide +kernel)) rfl rfl (fj (a6 (qv 0) rfl)) (fun C fp s₀ H₀=>(gz (cW (bo (qv 1) L.cl Mholds Gholds (hr.mono (by decide)) Bholds .nil aB (ad (qv 0) aj))))) (fun C fp s₀ H₀=>(qv 0))) rfl)
   (ao (b8 (qv 0) (ay aM (a6 (qv 0) rfl) (au Gorder (hr.mono (by decide)) rfl Dorder.m Dorder.k Dorder.b .nil aB (ad (a6 (qv 0) rfl) aj))) rfl))) aK)))),?_⟩
  refine ⟨_,rfl,p,C,dx,_,_,rfl,hp,L.cl,L.en,gs,l,_,rfl,.inl (SqL.of hx),_,rfl,p,C,dx,_,_,rfl,hp,L.cl,L.nt.th,bp,d,ks,rfl,hd,_,_,rfl,rfl,?_⟩
  have lx:(xs.length:Int)=s.row.length:=by rw [rr.len]
  have lk:(ks.length:Int)=s.there.length:=by rw [kr.len]
  rw [lx,lk]
  have no:∀(hn:¬ Gm.due s=true),Q .non H:=fun hn=>by
   have e:Gm.sweep slt s=s:=by unfold Gm.sweep;rw [if_neg hn]
   refine kQ l H (by rw [e];exact LA) Kept.refl (.inl rfl)
  refine ⟨_,rfl,_,rfl,p,C,dx,_,_,rfl,hp,L.cl,L.nt.th,bp,d,ks,rfl,hd,_,_,rfl,rfl,_,rfl,?_⟩
  rw [lk]
  refine aI (fun c1=>⟨_,rfl,_,rfl,p,C,dx,_,_,rfl,hp,L.cl,L.sk,xO,_,_,rfl,rfl,_,rfl,aI (fun c2=>?_) (fun c2=>no ?_)⟩) (fun c1=>eZ (no ?_))
  rotate_left
  .unfold Gm.due
   rw [Bool.and_eq_true]
   exact fun z=>c2 z.2
  .unfold Gm.due
   rw [Bool.and_eq_true]
   exact fun z=>c1 z.1
  have hdue:Gm.due s=true:=by
   unfold Gm.due
   rw [Bool.and_eq_true]
   exact ⟨c1,c2⟩
  refine ⟨_,rfl,p,C,dx,_,_,rfl,hp,L.cl,L.en,gs,l,rfl,⟨_,SqL.of hx⟩,fun D hD=>?_⟩
  refine cK (K:=K) (a:=l) (xs:=xs) (fun i ys H4=>H4 D=some (.lst ys)/\ys=(xs.take i).filter (fun x=>Gm.holds s.there (tE H x))/\Same H H4) ⟨ae,rfl,ap hD⟩ (fun i ys H4 z=>⟨z.1,SqL.of (z.2.2 _ _ hx)⟩) ?_ ?_
  .rintro i x ys H4 hi ⟨h4,e4,s4⟩
   have mx:=List.mem_of_getElem? hi
   have li:i<xs.length:=(List.getElem?_eq_some_iff.mp hi).1
   obtain ⟨a,rfl,ha⟩:=rr.mem x mx
   refine ⟨_,rfl,p,dx,_,rfl,s4 _ _ hp,lfn,_,rfl,p,dx,d,_,ks,s.there,a,tE H (.ref a),rfl,s4 _ _ hp,bp,s4 _ _ hd,kr.stay (fun b l h=>s4 _ _ h),s4 _ _ ha,_,rfl,?_⟩
   have ft:=jS (f:=fun x=>Gm.holds s.there (tE H x)) hi
   refine aI (fun c3=>⟨_,rfl,h4,?_,_,by lia,rfl,by lia,ae,?_,gO s4 hD⟩) (fun c3=>⟨_,by lia,rfl,by lia,h4,?_,s4⟩)
   .rw [e4]
    exact Nat.lt_of_le_of_lt (Nat.le_trans (List.length_filter_le _ _) (List.length_take_le _ _)) (aS (by have:=rr.len;lia))
   .rw [ft,if_pos c3,e4]
   .rw [ft,if_neg c3,List.append_nil,e4]
  .rintro ys H4 ⟨h4,e4,s4⟩
   rw [List.take_length] at e4
   have hp4:=s4 _ _ hp
   refine ⟨_,rfl,p,C,dx,_,rfl,hp4,L.cl,L.en,by show 5<1000;decide,?_⟩
   rw [xU]
   have npD:p≠D:=am hp hD
   have ndD:d≠D:=am hd hD
   have t5:∀b zs,H b=some (.tup zs)->(upd H4 p (.ins C dx (lfs d D s))) b=some (.tup zs):=fun b zs z=>by rw [ak (bx z hp (by intro y;cases y))];exact s4 _ _ z
   have r5:RR (upd H4 p (.ins C dx (lfs d D s))) ys (s.row.filter (Gm.holds s.there)):=by
    have r0:=(rr.sub (ys:=ys) fun y hy=>by rw [e4] at hy;exact (List.mem_filter.mp hy).1).stay t5
    have em:ys.map (tE H)=s.row.filter (Gm.holds s.there):=by
     rw [e4,<-rr.eq,List.filter_map]
     rfl
    rw [em] at r0
    exact r0
   have hD5:(upd H4 p (.ins C dx (lfs d D s))) D=some (.lst ys):=by rw [ak npD.symm];exact h4
   have hd5:(upd H4 p (.ins C dx (lfs d D s))) d=some (.dK ks):=by rw [ak npd.symm];exact s4 _ _ hd
   have hp5:(upd H4 p (.ins C dx (lfs d D s))) p=some (.ins C dx (lfs d D s)):=ae
   have k5:Kept [p,d,l] H (upd H4 p (.ins C dx (lfs d D s))):=(Kept.of_same s4).put (by simp)
   generalize (upd H4 p (.ins C dx (lfs d D s)))=H5 at t5 r5 hD5 hd5 hp5 k5 ⊢
   refine ⟨_,rfl,p,C,dx,_,_,rfl,hp5,L.cl,L.lk,nc,_,rfl,p,C,dx,_,_,rfl,hp5,L.cl,L.en,gs,?_⟩
   unfold mo
   dsimp only [List.cons_append,List.nil_append]
   refine oS hD5 r5 (Nat.le_trans (List.length_filter_le _ _) h1) fun zs H6 h6 r6 k6=>?_
   have pn:p∉[D]:=fun z=>npD (List.mem_singleton.mp z)
   have dn':d∉[D]:=fun z=>ndD (List.mem_singleton.mp z)
   have hp6:=k6 p _ hp5 pn
   have t6:=k6.tups (fun b hb zs z=>by rw [List.mem_singleton.mp hb,hD5] at z;cases z)
   refine ⟨_,_,rfl,rfl,_,rfl,p,C,dx,_,rfl,hp6,L.cl,L.lk,by show 5<1000;decide,?_⟩
   have e7:bu ("looks":Str) (.int ((s.looks:Int)+((Hg.mk lE ((s.row.filter (Gm.holds s.there)).length / 2) (s.row.filter (Gm.holds s.there)) 0).2:Nat))) (lfs d D s)=lfs d D (Gm.swept slt s):=qR
   rw [e7]
   have es:Gm.sweep slt s=Gm.swept slt s:=by unfold Gm.sweep;rw [if_pos hdue]
   have t7:∀b zs,H6 b=some (.tup zs)->(upd H6 p (.ins C dx (lfs d D (Gm.swept slt s)))) b=some (.tup zs):=fun b zs z=>by rw [ak (bx z hp6 (by intro y;cases y))];exact z
   refine kQ D _ (by rw [es];exact ⟨⟨dx,ae⟩,⟨ks,by rw [ak npd.symm];exact k6 d _ hd5 dn',((kr.stay t5).stay t6).stay t7⟩,⟨zs,by rw [ak npD.symm];exact h6,r6.stay t7⟩⟩) ?_ (.inr hD)
   refine Kept.put (fun b o e nb=>?_) (by simp)
   exact k6 b o (k5 b o e nb) fun z=>by rw [List.mem_singleton.mp z] at e;rw [hD] at e;cases e
abbrev gc:Stmt:=a8 (top 18) 0
theorem nE:FnScope ["self","slack"] ["self","slack"] (ai gc):=fsc fun nd=>⟨rfl,rfl,rfl,nd,rfl,by decide +kernel,by decide +kernel⟩
def mP (C:Addr):Sp:=fun vs H Q _=>∃ (p dx:Addr) (z:Int),vs=[.ref p,.int z]/\H p=some (.ins C dx [])/\∀d l H',H d=none->H l=none->LateAt C H' p d l (Gm.newL z)->Kept [p] H H'->Q .non H'
theorem gx {f C CNamed fa:Addr}{mc:Value}{fd fda:FuncData}(F:Fun K "__init__" "Late.__init__" gc f fd)(T:Bl mg)(L:LT K C)(mNamed:mg "Named"=some (.ref CNamed))(MNamed__init__:uR K CNamed mc "__init__" fa)(GNamed__init__:aw P w K mg base CX0 1 fa fda ["self"] (n0 C))(BNamed__init__:Binds K fda ["self"] []):aw P w K mg base CX0 2 f fd ["self","slack"] (mP C):=by
 have sc:=nE
 refine F.ok nE (fun vs H Q E h=>?_) (fun cdv A outer s H vs Q E hr h=>?_)
 .obtain ⟨p,dx,z,rfl,_⟩:=h
  rfl
 .obtain ⟨p,dx,z,rfl,hp,kQ⟩:=h
  have hu:=hr.units0
  refine ⟨_,(QSs.to (af (aO (tS (gy (v:=.ref CNamed) rfl mNamed rfl) MNamed__init__ GNamed__init__ (hr.mono (by decide)) BNamed__init__ .nil aB (ad (qv 0) aj)))
   (af (b8 (qv 0) (qv 1) rfl)
   (af (b8 (qv 0) (bd aj) rfl)
   (ao (b8 (qv 0) ag rfl)))))),?_⟩
  refine ⟨_,rfl,p,dx,rfl,hp,fun d hd=>?_⟩
  have npd:p≠d:=am hp hd
  refine ⟨_,rfl,_,rfl,p,C,dx,_,rfl,ae,L.cl,L.sk,by show 2<1000;decide,?_⟩
  refine ⟨by show 0<=sizeLine;decide,fun l hl=>?_⟩
  have hl0:H l=none:=by
   cases q:H l with
   | none=>rfl
   | some o =>
    have h1:l≠p:=fun z=>by rw [z,ae] at hl;cases hl
    have h2:l≠d:=fun z=>by rw [z,hd] at q;cases q
    rw [ak h1,ak h1,ak h1,ak h2,q] at hl
    cases hl
  have npl:p≠l:=am hp hl0
  have ndl:d≠l:=fun z=>by rw [<-z,ak npd.symm,ak npd.symm,ak npd.symm,ae] at hl;cases hl
  refine ⟨_,rfl,p,C,dx,_,rfl,by rw [ak npl,ae],L.cl,L.en,by show 3<1000;decide,?_⟩
  refine ⟨_,rfl,p,C,dx,_,rfl,ae,L.cl,L.lk,by show 4<1000;decide,?_⟩
  have e1:bu ("looks":Str) (.int 0) (bu ("entries":Str) (.ref l) (bu ("slack":Str) (.int z) [("there",V.ref d),("stamp",V.int 0)]))=lfs d l (Gm.newL z):=by
   rw [bK d1,bK d4]
   show bu ("looks":Str) (.int 0) (bu ("entries":Str) (.ref l) [("there",V.ref d),("stamp",V.int 0),("slack",V.int z)])=_
   rw [bK d2,bK d5,bK d7]
   show bu ("looks":Str) (.int 0) [("there",V.ref d),("stamp",V.int 0),("slack",V.int z),("entries",.ref l)]=_
   rw [bK d3,bK d6,bK d8,bK d9]
   rfl
  rw [e1]
  refine kQ d l _ hd hl0 ⟨⟨dx,ae⟩,⟨[],?_,.nil⟩,⟨[],?_,RR.nil⟩⟩ fun b o e nb=>?_
  .rw [ak npd.symm,ak npd.symm,ak ndl,ak npd.symm,ak npd.symm,ak npd.symm,ae]
  .rw [ak npl.symm,ak npl.symm,ae]
  .have hb:b≠p:=fun z=>nb (List.mem_singleton.mpr z)
   rw [ak hb,ak hb,ak (am e hl0),ak hb,ak hb,ak hb,ak (am e hd)]
   exact e
abbrev fX:Stmt:=a8 (top 18) 10
theorem nR:FnScope ["self"] ["self"] (ai fX):=fsc fun nd=>⟨rfl,rfl,rfl,nd,rfl,by decide +kernel,by decide +kernel⟩
def jn (C X:Addr):Sp:=fun vs H Q E=>∃ (p d l:Addr) (s:LS),vs=[.ref p]/\LateAt C H p d l s/\Gm.LInv slt s/\s.row.length<=1000 /\
 (s.there≠[]->∀a H',LateAt C H' p d l (Gm.leastL slt s)->H' a=some (.tup (enV (Hg.g (Gm.leastL slt s).row 0)))->Kept [p,d,l] H H'->Q (.ref a) H')/\(s.there=[]->E (.ref X) none H)
theorem gN {f C CN:Addr}{fneed_any fholds fcut:Addr}{fdneed_any fdholds fdcut:FuncData}{fd:FuncData}(F:Fun K "first_there" "Late.first_there" fX f fd)(T:Bl mg)(L:LT K C)(Mneed_any:aZ K C "need_any" fneed_any)(Gneed_any:aw P w K mg base (CXe P w) 1 fneed_any fdneed_any ["self"] (vO C CN))(Bneed_any:Binds K fdneed_any ["self"] [])(Mholds:aZ K C "holds" fholds)(Gholds:aw P w K mg base CX0 1 fholds fdholds ["self","entry"] (js C))(Bholds:Binds K fdholds ["self","entry"] [])(Mcut:aZ K C "cut" fcut)(Gcut:aw P w K mg base CX0 4 fcut fdcut ["self"] (kS C))(Bcut:Binds K fdcut ["self"] []):aw P w K mg base (CXe P w) 5 f fd ["self"] (jn C CN):=by
 have sc:=nR
 refine F.okE nR (fun vs H Q E h=>?_) (fun cdv A outer s H vs Q E hr h=>?_)
 .obtain ⟨p,d,l,s,rfl,_⟩:=h
  rfl
 .obtain ⟨p,d,l,s,rfl,LA,LI,h1,kQ,kE⟩:=h
  have hu:=hr.units0
  have npd:=LA.npd
  have npl:=LA.npl
  have ndl:=LA.ndl
  obtain ⟨dx,hp⟩:=LA.ob
  obtain ⟨ks,hd,kr⟩:=LA.dc
  obtain ⟨xs,hx,rr⟩:=LA.ls
  refine ⟨_,(QSs.to (af (aO (aR (qv 0) L.cl Mneed_any Gneed_any (hr.mono (by decide)) Bneed_any .nil (bO fun _ _ z=>z))) (QSs.mk (PSs.nox (QSs.to (af (cu PassesOwn.never (cM (cW (bo (qv 0) L.cl Mholds Gholds (hr.mono (by decide)) Bholds .nil aB (ad (az aE (a6 (qv 0) rfl) ag (fun _ _=>rfl)) aj)))) (ao (aO (aR (qv 0) L.cl Mcut Gcut (hr.mono (by decide)) Bcut .nil aB))))
   (ao (aF (az aE (a6 (qv 0) rfl) ag (fun _ _=>rfl)))))))))),?_⟩
  refine ⟨_,rfl,p,dx,_,rfl,hp,lfn,p,dx,d,_,ks,rfl,hp,bp,hd,fun hne=>?_,fun he=>kE ?_⟩
  rotate_left
  .rw [he] at kr
   cases e:s.there with
   | nil=>rfl
   | cons a b=>rw [e] at kr;cases kr
  have hT:s.there≠[]:=fun z=>hne (by rw [z] at kr;cases kr;rfl)
  refine ⟨fun m σ H2=>∃ (f:Nat) (s2:LS),σ=[some (.ref p)]/\LateAt C H2 p d l s2/\Gm.LInv slt s2/\s2.there=s.there/\s2.row.length<=f/\s2.row.length<=s.row.length/\Gm.clean slt f s2=Gm.leastL slt s/\Kept [p,d,l] H H2/\m=s2.row.length,
   ⟨_,s.row.length,s,rfl,LA,LI,rfl,Nat.le_refl _,Nat.le_refl _,rfl,Kept.refl,rfl⟩,?_⟩
  rintro m σ H2 ⟨f,s2,rfl,LA2,LI2,e2,hf,hle,hc,k2,rfl⟩
  obtain ⟨dx2,hp2⟩:=LA2.ob
  obtain ⟨ks2,hd2,kr2⟩:=LA2.dc
  obtain ⟨xs2,hx2,rr2⟩:=LA2.ls
  have h0:=Gm.row_pos LI2 (by rw [e2];exact hT)
  obtain ⟨a,ea,ha,ia⟩:=rr2.at h0
  refine ⟨_,rfl,p,dx2,_,rfl,hp2,lfn,_,rfl,p,C,dx2,_,_,rfl,hp2,L.cl,L.en,gs,l,_,_,_,rfl,rfl,SqL.of hx2,ia,p,dx2,d,_,ks2,s2.there,a,_,rfl,hp2,bp,hd2,kr2,ha,_,rfl,aI (fun c1=>?_) (fun c1=>?_)⟩
  rotate_left
  .have c2:Gm.holds s2.there (Hg.g s2.row 0)=true:=by
    cases z:Gm.holds s2.there (Hg.g s2.row 0) with
    | true=>rfl
    | false=>exact absurd (show (!Gm.holds s2.there (Hg.g s2.row 0))=true by rw [z];rfl) c1
   have ec:Gm.leastL slt s=s2:=by
    rw [<-hc]
    cases f with
    | zero=>rfl
    | succ f=>unfold Gm.clean;rw [if_pos c2]
   refine ⟨_,rfl,p,C,dx2,_,_,rfl,hp2,L.cl,L.en,gs,l,_,_,_,rfl,rfl,SqL.of hx2,ia,?_⟩
   exact kQ hT a H2 (by rw [ec];exact LA2) (by rw [ec];exact ha) k2
  .have c2:¬ Gm.holds s2.there (Hg.g s2.row 0)=true:=fun z=>by
    have c3:(!Gm.holds s2.there (Hg.g s2.row 0))=true:=c1
    rw [z] at c3;cases c3
   obtain ⟨f,rfl⟩:∃ f0,f=f0+1:=⟨f-1,by lia⟩
   have hc2:Gm.clean slt f (Gm.cut slt s2)=Gm.leastL slt s:=by
    rw [<-hc]
    conv=>rhs;unfold Gm.clean
    rw [if_neg c2]
   have lc:(Gm.cut slt s2).row.length=s2.row.length-1:=Hg.cutf_len
   refine ⟨fun σ' H'=>∃ m',m'<s2.row.length/\∃ (f:Nat) (s2:LS),σ'=[some (.ref p)]/\LateAt C H' p d l s2/\Gm.LInv slt s2/\s2.there=s.there/\s2.row.length<=f/\s2.row.length<=s.row.length/\Gm.clean slt f s2=Gm.leastL slt s/\Kept [p,d,l] H H'/\m'=s2.row.length,fun σ' H' z=>z,?_⟩
   refine ⟨_,rfl,p,dx2,_,rfl,hp2,lfn,p,d,l,s2,rfl,LA2,h0,by lia,fun H3 L3 k3=>?_⟩
   exact ⟨(Gm.cut slt s2).row.length,by lia,f,Gm.cut slt s2,rfl,L3,Gm.cut_inv slt_slo LI2 h0 c2,e2,by lia,by lia,hc2,k2.trans (k3.mono fun b hb=>by simp only [List.mem_cons,List.not_mem_nil,or_false] at hb ⊢;rcases hb with h | h <;> simp [h]),rfl⟩
abbrev iB:Stmt:=a8 (top 18) 1
theorem qY:FnScope ["self","name","worth"] ["self","name","worth"] (ai iB):=fsc fun nd=>⟨rfl,rfl,rfl,nd,rfl,by decide +kernel,by decide +kernel⟩
def lC (C X:Addr):Sp:=fun vs H Q E=>∃ (p d l:Addr) (s:LS) (n:Str) (w:Int),vs=[.ref p,.str n,.int w]/\LateAt C H p d l s/\s.row.length<=900/\s.there.length<=900/\n.length<=1000 /\
 (Gm.dget s.there n=none->∀l' H',LateAt C H' p d l' (Gm.putL slt s n w)->Kept [p,d,l] H H'->Fr3 H l l'->Q .non H')/\(Gm.dget s.there n≠none->E (.ref X) none H)
theorem wX {f C CC:Addr}{fneed_free fsweep_if_due fenter:Addr}{fdneed_free fdsweep_if_due fdenter:FuncData}{fd:FuncData}(F:Fun K "put" "Late.put" iB f fd)(T:Bl mg)(L:LT K C)(Mneed_free:aZ K C "need_free" fneed_free)(Gneed_free:aw P w K mg base (CXe P w) 1 fneed_free fdneed_free ["self","name"] (mm C CC))(Bneed_free:Binds K fdneed_free ["self","name"] [])(Msweep_if_due:aZ K C "sweep_if_due" fsweep_if_due)(Gsweep_if_due:aw P w K mg base CX0 4 fsweep_if_due fdsweep_if_due ["self"] (fq C))(Bsweep_if_due:Binds K fdsweep_if_due ["self"] [])(Menter:aZ K C "enter" fenter)(Genter:aw P w K mg base CX0 4 fenter fdenter ["self","name","worth"] (jC C))(Benter:Binds K fdenter ["self","name","worth"] []):aw P w K mg base (CXe P w) 5 f fd ["self","name","worth"] (lC C CC):=by
 have sc:=qY
 refine F.okE qY (fun vs H Q E h=>?_) (fun cdv A outer s H vs Q E hr h=>?_)
 .obtain ⟨p,d,l,s,n,w,rfl,_⟩:=h
  rfl
 .obtain ⟨p,d,l,s,n,w,rfl,LA,h1,h2,hn,kQ,kE⟩:=h
  have hu:=hr.units0
  have npd:=LA.npd
  have npl:=LA.npl
  have ndl:=LA.ndl
  obtain ⟨dx,hp⟩:=LA.ob
  obtain ⟨ks,hd,kr⟩:=LA.dc
  obtain ⟨xs,hx,rr⟩:=LA.ls
  refine ⟨_,(QSs.to (af (aO (bo (qv 0) L.cl Mneed_free Gneed_free (hr.mono (by decide)) Bneed_free .nil (bO fun _ _ z=>z) (ad (qv 1) aj)))
   (af (aO (bo (qv 0) L.cl Menter Genter (hr.mono (by decide)) Benter .nil aB (ad (qv 1) (ad (qv 2) aj))))
   (ao (aO (aR (qv 0) L.cl Msweep_if_due Gsweep_if_due (hr.mono (by decide)) Bsweep_if_due .nil aB)))))),?_⟩
  refine ⟨_,rfl,p,dx,_,rfl,hp,lfn,_,rfl,p,dx,d,_,ks,n,rfl,hp,bp,hd,hn,fun cs=>?_,fun cs=>?_⟩
  .rcases kr.get n with ⟨e1,e2⟩ | ⟨a,e,e1,e2,ha⟩
   rotate_left
   .rw [e1] at cs;cases cs
   refine ⟨_,rfl,p,dx,_,rfl,hp,lfn,_,rfl,_,rfl,p,d,l,s,n,w,rfl,LA,by lia,by lia,fun H2 L2 k2=>?_⟩
   obtain ⟨dx2,hp2⟩:=L2.ob
   refine ⟨_,rfl,p,dx2,_,rfl,hp2,lfn,p,d,l,_,rfl,L2,?_,fun l' H3 L3 k3 f3=>?_⟩
   .show (Gm.enter slt s n w).row.length<=1000
    rw [Gm.enter_row_perm.length_eq,List.length_append]
    show s.row.length+1<=1000
    lia
   .exact kQ e2 l' H3 L3 (k2.trans k3) (f3.imp id fun z=>L2.fresh k2 z)
  .rcases kr.get n with ⟨e1,e2⟩ | ⟨a,e,e1,e2,ha⟩
   .rw [e1] at cs;cases cs
   .exact kE (by rw [e2];intro z;cases z)
abbrev ck:Stmt:=a8 (top 18) 3
theorem iq:FnScope ["self","name","worth"] ["self","name","worth"] (ai ck):=fsc fun nd=>⟨rfl,rfl,rfl,nd,rfl,by decide +kernel,by decide +kernel⟩
def i5 (C X:Addr):Sp:=fun vs H Q E=>∃ (p d l:Addr) (s:LS) (n:Str) (w:Int),vs=[.ref p,.str n,.int w]/\LateAt C H p d l s/\s.row.length<=900/\s.there.length<=900/\n.length<=1000 /\
 (Gm.dget s.there n≠none->∀l' H',LateAt C H' p d l' (Gm.putL slt s n w)->Kept [p,d,l] H H'->Fr3 H l l'->Q .non H')/\(Gm.dget s.there n=none->E (.ref X) none H)
theorem oH {f C CN:Addr}{fneed fsweep_if_due fenter:Addr}{fdneed fdsweep_if_due fdenter:FuncData}{fd:FuncData}(F:Fun K "change" "Late.change" ck f fd)(T:Bl mg)(L:LT K C)(Mneed:aZ K C "need" fneed)(Gneed:aw P w K mg base (CXe P w) 1 fneed fdneed ["self","name"] (l0 C CN))(Bneed:Binds K fdneed ["self","name"] [])(Msweep_if_due:aZ K C "sweep_if_due" fsweep_if_due)(Gsweep_if_due:aw P w K mg base CX0 4 fsweep_if_due fdsweep_if_due ["self"] (fq C))(Bsweep_if_due:Binds K fdsweep_if_due ["self"] [])(Menter:aZ K C "enter" fenter)(Genter:aw P w K mg base CX0 4 fenter fdenter ["self","name","worth"] (jC C))(Benter:Binds K fdenter ["self","name","worth"] []):aw P w K mg base (CXe P w) 5 f fd ["self","name","worth"] (i5 C CN):=by
 have sc:=iq
 refine F.okE iq (fun vs H Q E h=>?_) (fun cdv A outer s H vs Q E hr h=>?_)
 .obtain ⟨p,d,l,s,n,w,rfl,_⟩:=h
  rfl
 .obtain ⟨p,d,l,s,n,w,rfl,LA,h1,h2,hn,kQ,kE⟩:=h
  have hu:=hr.units0
  have npd:=LA.npd
  have npl:=LA.npl
  have ndl:=LA.ndl
  obtain ⟨dx,hp⟩:=LA.ob
  obtain ⟨ks,hd,kr⟩:=LA.dc
  obtain ⟨xs,hx,rr⟩:=LA.ls
  refine ⟨_,(QSs.to (af (aO (bo (qv 0) L.cl Mneed Gneed (hr.mono (by decide)) Bneed .nil (bO fun _ _ z=>z) (ad (qv 1) aj)))
   (af (aO (bo (qv 0) L.cl Menter Genter (hr.mono (by decide)) Benter .nil aB (ad (qv 1) (ad (qv 2) aj))))
   (ao (aO (aR (qv 0) L.cl Msweep_if_due Gsweep_if_due (hr.mono (by decide)) Bsweep_if_due .nil aB)))))),?_⟩
  refine ⟨_,rfl,p,dx,_,rfl,hp,lfn,_,rfl,p,dx,d,_,ks,n,rfl,hp,bp,hd,hn,fun cs=>?_,fun cs=>?_⟩
  .rcases kr.get n with ⟨e1,e2⟩ | ⟨a,e,e1,e2,ha⟩
   .rw [e1] at cs;cases cs
   refine ⟨_,rfl,p,dx,_,rfl,hp,lfn,_,rfl,_,rfl,p,d,l,s,n,w,rfl,LA,by lia,by lia,fun H2 L2 k2=>?_⟩
   obtain ⟨dx2,hp2⟩:=L2.ob
   refine ⟨_,rfl,p,dx2,_,rfl,hp2,lfn,p,d,l,_,rfl,L2,?_,fun l' H3 L3 k3 f3=>?_⟩
   .show (Gm.enter slt s n w).row.length<=1000
    rw [Gm.enter_row_perm.length_eq,List.length_append]
    show s.row.length+1<=1000
    lia
   .exact kQ (by rw [e2];intro z;cases z) l' H3 L3 (k2.trans k3) (f3.imp id fun z=>L2.fresh k2 z)
  .rcases kr.get n with ⟨e1,e2⟩ | ⟨a,e,e1,e2,ha⟩
   .exact kE e2
   .rw [e1] at cs;cases cs
abbrev fz:Stmt:=a8 (top 18) 2
theorem nZ:FnScope ["self","name"] ["self","name"] (ai fz):=fsc fun nd=>⟨rfl,rfl,rfl,nd,rfl,by decide +kernel,by decide +kernel⟩
def jp (C X:Addr):Sp:=fun vs H Q E=>∃ (p d l:Addr) (s:LS) (n:Str),vs=[.ref p,.str n]/\LateAt C H p d l s/\s.row.length<=900/\s.there.length<=900/\n.length<=1000 /\
 (Gm.dget s.there n≠none->∀l' H',LateAt C H' p d l' (Gm.dropL slt s n)->Kept [p,d,l] H H'->Fr3 H l l'->Q .non H')/\(Gm.dget s.there n=none->E (.ref X) none H)
theorem uY {f C CN:Addr}{fneed fsweep_if_due:Addr}{fdneed fdsweep_if_due:FuncData}{fd:FuncData}(F:Fun K "drop" "Late.drop" fz f fd)(T:Bl mg)(L:LT K C)(Mneed:aZ K C "need" fneed)(Gneed:aw P w K mg base (CXe P w) 1 fneed fdneed ["self","name"] (l0 C CN))(Bneed:Binds K fdneed ["self","name"] [])(Msweep_if_due:aZ K C "sweep_if_due" fsweep_if_due)(Gsweep_if_due:aw P w K mg base CX0 4 fsweep_if_due fdsweep_if_due ["self"] (fq C))(Bsweep_if_due:Binds K fdsweep_if_due ["self"] []):aw P w K mg base (CXe P w) 5 f fd ["self","name"] (jp C CN):=by
 have sc:=nZ
 refine F.okE nZ (fun vs H Q E h=>?_) (fun cdv A outer s H vs Q E hr h=>?_)
 .obtain ⟨p,d,l,s,n,rfl,_⟩:=h
  rfl
 .obtain ⟨p,d,l,s,n,rfl,LA,h1,h2,hn,kQ,kE⟩:=h
  have hu:=hr.units0
  have npd:=LA.npd
  have npl:=LA.npl
  have ndl:=LA.ndl
  obtain ⟨dx,hp⟩:=LA.ob
  obtain ⟨ks,hd,kr⟩:=LA.dc
  obtain ⟨xs,hx,rr⟩:=LA.ls
  refine ⟨_,(QSs.to (af (aO (bo (qv 0) L.cl Mneed Gneed (hr.mono (by decide)) Bneed .nil (bO fun _ _ z=>z) (ad (qv 1) aj)))
   (af (aO (eV (a6 (qv 0) rfl) (qv 1) ⟨rfl,rfl,rfl,rfl⟩))
   (ao (aO (aR (qv 0) L.cl Msweep_if_due Gsweep_if_due (hr.mono (by decide)) Bsweep_if_due .nil aB)))))),?_⟩
  refine ⟨_,rfl,p,dx,_,rfl,hp,lfn,_,rfl,p,dx,d,_,ks,n,rfl,hp,bp,hd,hn,fun cs=>?_,fun cs=>?_⟩
  .rcases kr.get n with ⟨e1,e2⟩ | ⟨a,e,e1,e2,ha⟩
   .rw [e1] at cs;cases cs
   refine ⟨_,rfl,p,C,dx,_,_,rfl,hp,L.cl,L.nt.th,bp,d,rfl,.inl ⟨ks,.inl hd⟩,_,rfl,ks,Sum.inr n,_,hd,rfl,e1,?_⟩
   have tt:∀b zs,H b=some (.tup zs)->(upd H d (.dK (bw ks (Sum.inr n)))) b=some (.tup zs):=fun b zs z=>by rw [ak (bx z hd (by intro y;cases y))];exact z
   have L2:LateAt C (upd H d (.dK (bw ks (Sum.inr n)))) p d l (Gm.dropT s n):=⟨⟨dx,by rw [ak npd];exact hp⟩,⟨_,ae,(kr.drop n).stay tt⟩,⟨xs,by rw [ak ndl.symm];exact hx,rr.stay tt⟩⟩
   have k2:Kept [p,d,l] H (upd H d (.dK (bw ks (Sum.inr n)))):=Kept.refl.put (by simp)
   obtain ⟨dx2,hp2⟩:=L2.ob
   refine ⟨_,rfl,p,dx2,_,rfl,hp2,lfn,p,d,l,_,rfl,L2,?_,fun l' H3 L3 k3 f3=>?_⟩
   .show s.row.length<=1000
    lia
   .exact kQ (by rw [e2];intro z;cases z) l' H3 L3 (k2.trans k3) (f3.imp id fun z=>L2.fresh k2 z)
  .rcases kr.get n with ⟨e1,e2⟩ | ⟨a,e,e1,e2,ha⟩
   .exact kE e2
   .rw [e1] at cs;cases cs
abbrev dy:Stmt:=a8 (top 18) 4
theorem jI:FnScope ["self","entry"] ["self"] (ai dy):=fsc fun nd=>⟨rfl,rfl,rfl,nd,rfl,by decide +kernel,by decide +kernel⟩
def jW (C X:Addr):Sp:=fun vs H Q E=>∃ (p d l:Addr) (s:LS),vs=[.ref p]/\LateAt C H p d l s/\Gm.LInv slt s/\s.row.length<=1000 /\
 (s.there≠[]->∀q H',LateAt C H' p d l (Gm.leastL slt s)->H' q=some (.tup [.int (Hg.g (Gm.leastL slt s).row 0).w,.str (Hg.g (Gm.leastL slt s).row 0).n])->Kept [p,d,l] H H'->Q (.ref q) H')/\(s.there=[]->E (.ref X) none H)
theorem rf {f C CN:Addr}{ffirst_there:Addr}{fdfirst_there:FuncData}{fd:FuncData}(F:Fun K "least" "Late.least" dy f fd)(T:Bl mg)(L:LT K C)(Mfirst_there:aZ K C "first_there" ffirst_there)(Gfirst_there:aw P w K mg base (CXe P w) 5 ffirst_there fdfirst_there ["self"] (jn C CN))(Bfirst_there:Binds K fdfirst_there ["self"] []):aw P w K mg base (CXe P w) 6 f fd ["self"] (jW C CN):=by
 have sc:=jI
 refine F.okE jI (fun vs H Q E h=>?_) (fun cdv A outer s H vs Q E hr h=>?_)
 .obtain ⟨p,d,l,s,rfl,_⟩:=h
  rfl
 .obtain ⟨p,d,l,s,rfl,LA,LI,h1,kQ,kE⟩:=h
  have hu:=hr.units0
  have npd:=LA.npd
  have npl:=LA.npl
  have ndl:=LA.ndl
  obtain ⟨dx,hp⟩:=LA.ob
  obtain ⟨ks,hd,kr⟩:=LA.dc
  obtain ⟨xs,hx,rr⟩:=LA.ls
  refine ⟨_,(QSs.to (af (aq (i:=1) sc.nd rfl (Or.inl rfl) (aR (qv 0) L.cl Mfirst_there Gfirst_there (hr.mono (by decide)) Bfirst_there .nil (bO fun _ _ z=>z)))
   (ao (aF (a9 (ad (az aQ (qv 1) ag (fun _ _=>rfl)) (ad (az aQ (qv 1) ag (fun _ _=>rfl)) aj))))))),?_⟩
  refine ⟨_,rfl,p,dx,_,rfl,hp,lfn,p,d,l,s,rfl,LA,LI,h1,fun hT a H2 L2 ha k2=>?_,kE⟩
  refine ⟨_,rfl,a,_,_,_,rfl,rfl,SqT.of ha,rfl,_,rfl,a,_,_,_,rfl,rfl,SqT.of ha,rfl,by show 2<=sizeLine;decide,fun q hq=>?_⟩
  exact kQ hT q _ (L2.same (ap hq)) ae (k2.new hq)
abbrev fY:Stmt:=a8 (top 18) 5
theorem n8:FnScope ["self","entry"] ["self"] (ai fY):=fsc fun nd=>⟨rfl,rfl,rfl,nd,rfl,by decide +kernel,by decide +kernel⟩
def nP (C X:Addr):Sp:=fun vs H Q E=>∃ (p d l:Addr) (s:LS),vs=[.ref p]/\LateAt C H p d l s/\Gm.LInv slt s/\s.row.length<=1000 /\
 (s.there≠[]->∀q l' H',LateAt C H' p d l' (Gm.takeL slt s)->H' q=some (.tup [.int (Hg.g (Gm.leastL slt s).row 0).w,.str (Hg.g (Gm.leastL slt s).row 0).n])->Kept [p,d,l] H H'->Fr3 H l l'->Q (.ref q) H')/\(s.there=[]->E (.ref X) none H)
theorem pK {f C CN:Addr}{ffirst_there fcut fsweep_if_due:Addr}{fdfirst_there fdcut fdsweep_if_due:FuncData}{fd:FuncData}(F:Fun K "take" "Late.take" fY f fd)(T:Bl mg)(L:LT K C)(Mfirst_there:aZ K C "first_there" ffirst_there)(Gfirst_there:aw P w K mg base (CXe P w) 5 ffirst_there fdfirst_there ["self"] (jn C CN))(Bfirst_there:Binds K fdfirst_there ["self"] [])(Mcut:aZ K C "cut" fcut)(Gcut:aw P w K mg base CX0 4 fcut fdcut ["self"] (kS C))(Bcut:Binds K fdcut ["self"] [])(Msweep_if_due:aZ K C "sweep_if_due" fsweep_if_due)(Gsweep_if_due:aw P w K mg base CX0 4 fsweep_if_due fdsweep_if_due ["self"] (fq C))(Bsweep_if_due:Binds K fdsweep_if_due ["self"] []):aw P w K mg base (CXe P w) 6 f fd ["self"] (nP C CN):=by
 have sc:=n8
 refine F.okE n8 (fun vs H Q E h=>?_) (fun cdv A outer s H vs Q E hr h=>?_)
 .obtain ⟨p,d,l,s,rfl,_⟩:=h
  rfl
 .obtain ⟨p,d,l,s,rfl,LA,LI,h1,kQ,kE⟩:=h
  have hu:=hr.units0
  have npd:=LA.npd
  have npl:=LA.npl
  have ndl:=LA.ndl
  obtain ⟨dx,hp⟩:=LA.ob
  obtain ⟨ks,hd,kr⟩:=LA.dc
  obtain ⟨xs,hx,rr⟩:=LA.ls
  refine ⟨_,(QSs.to (af (aq (i:=1) sc.nd rfl (Or.inl rfl) (aR (qv 0) L.cl Mfirst_there Gfirst_there (hr.mono (by decide)) Bfirst_there .nil (bO fun _ _ z=>z)))
   (af (aO (aR (qv 0) L.cl Mcut Gcut (hr.mono (by decide)) Bcut .nil aB))
   (af (aO (eV (a6 (qv 0) rfl) (az aQ (qv 1) ag (fun _ _=>rfl)) ⟨rfl,rfl,rfl,rfl⟩))
   (af (aO (aR (qv 0) L.cl Msweep_if_due Gsweep_if_due (hr.mono (by decide)) Bsweep_if_due .nil aB))
   (ao (aF (a9 (ad (az aQ (qv 1) ag (fun _ _=>rfl)) (ad (az aQ (qv 1) ag (fun _ _=>rfl)) aj)))))))))),?_⟩
  refine ⟨_,rfl,p,dx,_,rfl,hp,lfn,p,d,l,s,rfl,LA,LI,h1,fun hT a H2 L2 ha k2=>?_,kE⟩
  have cl:=Gm.least_ok slt_slo LI hT
  have hle:(Gm.leastL slt s).row.length<=1000:=Nat.le_trans (Gm.least_len) h1
  obtain ⟨dx2,hp2⟩:=L2.ob
  refine ⟨_,rfl,p,dx2,_,rfl,hp2,lfn,p,d,l,_,rfl,L2,cl.pos,hle,fun H3 L3 k3=>?_⟩
  have k3':Kept [p,d,l] H2 H3:=k3.mono fun b hb=>by simp only [List.mem_cons,List.not_mem_nil,or_false] at hb ⊢;rcases hb with h | h <;> simp [h]
  have ha3:=k3'.tups L2.notup _ _ ha
  obtain ⟨dx3,hp3⟩:=L3.ob
  obtain ⟨ks3,hd3,kr3⟩:=L3.dc
  obtain ⟨xs3,hx3,rr3⟩:=L3.ls
  have hin:=Gm.holds_in cl.hold
  rcases kr3.get (Hg.g (Gm.leastL slt s).row 0).n with ⟨e1,e2⟩ | ⟨b,e',e1,e2,hb⟩
  .have:=Gm.dget_of cl.inv.nd hin
   have e3:Gm.dget (Gm.leastL slt s).there (Hg.g (Gm.leastL slt s).row 0).n=none:=e2
   rw [e3] at this
   cases this
  refine ⟨_,rfl,p,C,dx3,_,_,rfl,hp3,L.cl,L.nt.th,bp,d,rfl,.inl ⟨ks3,.inl hd3⟩,_,rfl,a,_,_,_,rfl,rfl,SqT.of ha3,rfl,ks3,Sum.inr (Hg.g (Gm.leastL slt s).row 0).n,_,hd3,rfl,e1,?_⟩
  have tt:∀b zs,H3 b=some (.tup zs)->(upd H3 d (.dK (bw ks3 (Sum.inr (Hg.g (Gm.leastL slt s).row 0).n)))) b=some (.tup zs):=fun b zs z=>by rw [ak (bx z hd3 (by intro y;cases y))];exact z
  have L4:LateAt C (upd H3 d (.dK (bw ks3 (Sum.inr (Hg.g (Gm.leastL slt s).row 0).n)))) p d l (Gm.dropT (Gm.cut slt (Gm.leastL slt s)) (Hg.g (Gm.leastL slt s).row 0).n):=⟨⟨dx3,by rw [ak npd];exact hp3⟩,⟨_,ae,(kr3.drop _).stay tt⟩,⟨xs3,by rw [ak ndl.symm];exact hx3,rr3.stay tt⟩⟩
  have k4:Kept [p,d,l] H (upd H3 d (.dK (bw ks3 (Sum.inr (Hg.g (Gm.leastL slt s).row 0).n)))):=(k2.trans k3').put (by simp)
  have ha4:=tt _ _ ha3
  generalize (upd H3 d (.dK (bw ks3 (Sum.inr (Hg.g (Gm.leastL slt s).row 0).n))))=H4 at L4 k4 ha4 ⊢
  obtain ⟨dx4,hp4⟩:=L4.ob
  refine ⟨_,rfl,p,dx4,_,rfl,hp4,lfn,p,d,l,_,rfl,L4,?_,fun l' H5 L5 k5 f5=>?_⟩
  .have lc:(Gm.cut slt (Gm.leastL slt s)).row.length=(Gm.leastL slt s).row.length-1:=Hg.cutf_len
   show (Gm.cut slt (Gm.leastL slt s)).row.length<=1000
   lia
  .have ha5:=k5.tups L4.notup _ _ ha4
   have f6:Fr3 H l l':=f5.imp id fun z=>L4.fresh k4 z
   refine ⟨_,rfl,a,_,_,_,rfl,rfl,SqT.of ha5,rfl,_,rfl,a,_,_,_,rfl,rfl,SqT.of ha5,rfl,by show 2<=sizeLine;decide,fun q hq=>?_⟩
   exact kQ hT q l' _ (L5.same (ap hq)) ae ((k4.trans k5).new hq) f6
end
end Kx
end
section
namespace Kx
open PySem L2
section
variable {P:Program}{w:World}{K:PySem.W.Frag}{mg:Str->Option Value}{base:Heap}
open Hm
abbrev fK:Stmt:=top 20
theorem mH:FnScope ["script"] ["script"] (ai fK):=fsc fun nd=>⟨rfl,rfl,rfl,nd,rfl,by decide +kernel,by decide +kernel⟩
def rl (K:PySem.W.Frag):Sp:=fun vs H Q _=>∃ (a:Addr) (ns:List Int),vs=[.ref a]/\SqL K H a (ns.map V.int)/\ns.length<=63/\∀pl H',Pile K H' pl a ns->Same H H'->Q (.ref pl) H'
theorem tF {f:Addr}{fd:FuncData}(F:Fun K "_law_pile" "_law_pile" fK f fd)(T:Bl mg):aw P w K mg base CX0 1 f fd ["script"] (rl K):=by
 have sc:=mH
 refine F.okQ mH (fun vs H Q E h=>?_) (fun cdv A outer s H vs Q E hr h=>?_)
 .obtain ⟨a,ns,rfl,_⟩:=h
  rfl
 .obtain ⟨a,ns,rfl,hS,hn,k⟩:=h
  refine ⟨_,(ao (aF (bd (ad (qv 0) (ad ag (ad ag (ad ag (ad ag aj)))))))),?_⟩
  refine ⟨_,rfl,by show 5<=sizeLine;decide,fun pl hpl=>?_⟩
  exact k pl _ ⟨⟨0,0,30103,0,ae,by decide,by decide,by decide⟩,hS.same' (ap hpl),hn⟩ (ap hpl)
abbrev gh:Stmt:=top 21
theorem nY:FnScope ["pile","most","found","cell"] ["pile","most"] (ai gh):=fsc fun nd=>⟨rfl,rfl,rfl,nd,rfl,by decide +kernel,by decide +kernel⟩
theorem sT {f:Addr}{fd:FuncData}(F:Fun K "_law_next" "_law_next" gh f fd)(T:Bl mg):aw P w K mg base CX0 1 f fd ["pile","most"] (gk K):=by
 have sc:=nY
 refine F.okQ nY (fun vs H Q E h=>?_) (fun cdv A outer s H vs Q E hr h=>?_)
 .obtain ⟨pl,sc,ns,most,rfl,_⟩:=h
  rfl
 .obtain ⟨pl,scr,ns,most,rfl,PL,m0,m1,k⟩:=h
  have hu:=hr.units0
  refine ⟨_,(af (aX (aD gp (az aE (qv 0) ag (fun _ _=>rfl)) ag (aH _)) (af (aq (i:=2) sc.nd rfl (Or.inl rfl) (ay bU (az aE (qv 0) ag (fun _ _=>rfl)) (qv 1)))
   (af (bA (ay bJ (az aE (qv 0) ag (fun _ _=>rfl)) (qv 1)) (bF (qv 0) ag bg))
   (ao (aF (qv 2))))) aK)
   (af (aX (aD gl (az aE (qv 0) ag (fun _ _=>rfl)) (aG aL (by rfl) T.z_len (by decide +kernel) (ad (az aE (qv 0) ag (fun _ _=>rfl)) aj)) (aH _)) (af (aq (i:=3) sc.nd rfl (Or.inl rfl) (az aE (az aE (qv 0) ag (fun _ _=>rfl)) (az aE (qv 0) ag (fun _ _=>rfl)) (fun _ _=>rfl)))
   (af (bA (ay aM (az aE (qv 0) ag (fun _ _=>rfl)) ag) (bF (qv 0) ag bg))
   (af (bA (ay bU (ay aM (ay dg (az aE (qv 0) ag (fun _ _=>rfl)) ag) (qv 3)) ag) (bF (qv 0) ag bg))
   (af (aX (aD xT (aG gD (by rfl) T.z_abs (by decide +kernel) (ad (qv 3) aj)) (ay i8 ag ag) (aH _)) (af (bA (ay bJ (aG gD (by rfl) T.z_abs (by decide +kernel) (ad (qv 3) aj)) (qv 1)) (bF (qv 0) ag bg))
   (ao (aF (ay bU (aG gD (by rfl) T.z_abs (by decide +kernel) (ad (qv 3) aj)) (qv 1))))) aK)
   (ao (aF (ay bU (qv 3) (qv 1)))))))) aK)
   (af (bA (ay aM (az aE (qv 0) ag (fun _ _=>rfl)) ag) (bF (qv 0) ag bg))
   (af (bA (ay bU (ay aM (ay aM (ay dg (az aE (qv 0) ag (fun _ _=>rfl)) (az aE (qv 0) ag (fun _ _=>rfl))) (ay dg ag (az aE (qv 0) ag (fun _ _=>rfl)))) ag) ag) (bF (qv 0) ag bg))
   (ao (aF (ay bU (ay bJ (az aE (qv 0) ag (fun _ _=>rfl)) ag) (qv 1)))))))),?_⟩
  obtain ⟨a,b,c,e,hp,a0,c0,c1⟩:=PL.to
  have kn:∀(H1:Hp) (o:HO) (bb:Addr),(∀x,H x=none->H1 x=none)->H bb=none->(upd H1 pl o) bb=none:=fun H1 o bb h1 e=>by
   rw [ak (fun z=>by rw [z,hp] at e;cases e)]
   exact h1 bb e
  refine ⟨_,rfl,pl,_,_,_,rfl,rfl,SqL.of hp,rfl,_,_,rfl,rfl,_,rfl,aI (fun _=>?_) (fun _=>?_)⟩
  .refine ⟨_,rfl,pl,_,_,_,rfl,rfl,SqL.of hp,rfl,_,rfl,_,_,rfl,rfl,m0,?_⟩
   refine ⟨_,rfl,pl,_,_,_,rfl,rfl,SqL.of hp,rfl,_,rfl,_,_,rfl,rfl,⟨m0,by lia⟩,_,rfl,pl,_,_,2,rfl,rfl,hp,rfl,?_⟩
   refine ⟨_,rfl,?_⟩
   exact k _ _ (db m0) (cV m0) (PL.put a0 c0 c1) (Kept.refl.put (by simp)) fun bb z=>kn H _ bb (fun _ q=>q) z
  .have lm:(ns.map V.int).length=ns.length:=List.length_map ..
   refine ⟨_,rfl,pl,_,_,_,rfl,rfl,SqL.of hp,rfl,_,rfl,pl,_,_,_,rfl,rfl,SqL.of hp,rfl,scr,_,rfl,.inl PL.hs,_,_,rfl,rfl,_,rfl,aI (fun q1=>?_) (fun q1=>?_)⟩
   .have q1':a<(ns.length:Int):=by rw [lm] at q1;exact of_decide_eq_true q1
    refine ⟨_,rfl,pl,_,_,_,rfl,rfl,SqL.of hp,rfl,_,rfl,pl,_,_,_,rfl,rfl,SqL.of hp,rfl,scr,_,_,_,rfl,rfl,PL.hs,wE a0 q1',?_⟩
    generalize ns.getD a.toNat 0=cell
    refine ⟨_,rfl,pl,_,_,_,rfl,rfl,SqL.of hp,rfl,_,_,rfl,rfl,_,rfl,pl,_,_,1,rfl,rfl,hp,rfl,?_⟩
    have P1:Pile K (upd H pl (.lst ([V.ref scr,.int a,.int b,.int c,.int e].set 1 (.int (a+1))))) pl scr ns:=PL.put (by lia) c0 c1
    have k1:Kept [pl] H (upd H pl (.lst ([V.ref scr,.int a,.int b,.int c,.int e].set 1 (.int (a+1))))):=Kept.refl.put (by simp)
    have n1:∀bb,H bb=none->(upd H pl (.lst ([V.ref scr,.int a,.int b,.int c,.int e].set 1 (.int (a+1))))) bb=none:=fun bb=>kn H _ bb (fun _ q=>q)
    have h1:(upd H pl (.lst ([V.ref scr,.int a,.int b,.int c,.int e].set 1 (.int (a+1))))) pl=some (.lst [.ref scr,.int (a+1),.int b,.int c,.int e]):=ae
    generalize (upd H pl (.lst ([V.ref scr,.int a,.int b,.int c,.int e].set 1 (.int (a+1)))))=H1 at P1 k1 n1 h1 ⊢
    refine ⟨_,rfl,pl,_,_,_,rfl,rfl,SqL.of h1,rfl,_,_,rfl,rfl,.inr ⟨by decide,by decide⟩,_,rfl,_,_,rfl,rfl,_,_,rfl,rfl,(by show (0:Int)<_;decide),_,rfl,pl,_,_,3,rfl,rfl,h1,rfl,?_⟩
    have x0:=db (a:=c*69069+cell) (b:=2147483629) (by decide)
    have x1:=cV (a:=c*69069+cell) (b:=2147483629) (by decide)
    have P2:Pile K (upd H1 pl (.lst ([V.ref scr,.int (a+1),.int b,.int c,.int e].set 3 (.int ((c*69069+cell) % 2147483629))))) pl scr ns:=P1.put (by lia) x0 x1
    have k2:Kept [pl] H (upd H1 pl (.lst ([V.ref scr,.int (a+1),.int b,.int c,.int e].set 3 (.int ((c*69069+cell) % 2147483629))))):=k1.put (by simp)
    have n2:∀bb,H bb=none->(upd H1 pl (.lst ([V.ref scr,.int (a+1),.int b,.int c,.int e].set 3 (.int ((c*69069+cell) % 2147483629))))) bb=none:=fun bb=>kn H1 _ bb n1
    have h2:(upd H1 pl (.lst ([V.ref scr,.int (a+1),.int b,.int c,.int e].set 3 (.int ((c*69069+cell) % 2147483629))))) pl=some (.lst [.ref scr,.int (a+1),.int b,.int ((c*69069+cell) % 2147483629),.int e]):=ae
    generalize (upd H1 pl (.lst ([V.ref scr,.int (a+1),.int b,.int c,.int e].set 3 (.int ((c*69069+cell) % 2147483629)))))=H2 at P2 k2 n2 h2 ⊢
    refine ⟨_,rfl,_,rfl,_,_,rfl,rfl,⟨by decide,by decide,by decide⟩,_,_,rfl,rfl,_,rfl,aI (fun _=>?_) (fun _=>?_)⟩
    .refine ⟨_,rfl,_,rfl,_,rfl,_,_,rfl,rfl,⟨m0,by lia⟩,_,rfl,pl,_,_,2,rfl,rfl,h2,rfl,?_⟩
     refine ⟨_,rfl,_,rfl,_,rfl,_,_,rfl,rfl,m0,?_⟩
     exact k _ _ (db m0) (cV m0) (P2.put (by lia) x0 x1) (k2.put (by simp)) fun bb z=>kn H2 _ bb n2 z
    .exact ⟨_,rfl,_,rfl,_,_,rfl,rfl,m0,k _ _ (db m0) (cV m0) P2 k2 n2⟩
   .refine ⟨_,rfl,pl,_,_,_,rfl,rfl,SqL.of hp,rfl,_,_,rfl,rfl,_,rfl,pl,_,_,4,rfl,rfl,hp,rfl,?_⟩
    have P1:Pile K (upd H pl (.lst ([V.ref scr,.int a,.int b,.int c,.int e].set 4 (.int (e+1))))) pl scr ns:=PL.put a0 c0 c1
    have k1:Kept [pl] H (upd H pl (.lst ([V.ref scr,.int a,.int b,.int c,.int e].set 4 (.int (e+1))))):=Kept.refl.put (by simp)
    have n1:∀bb,H bb=none->(upd H pl (.lst ([V.ref scr,.int a,.int b,.int c,.int e].set 4 (.int (e+1))))) bb=none:=fun bb=>kn H _ bb (fun _ q=>q)
    have h1:(upd H pl (.lst ([V.ref scr,.int a,.int b,.int c,.int e].set 4 (.int (e+1))))) pl=some (.lst [.ref scr,.int a,.int b,.int c,.int (e+1)]):=ae
    generalize (upd H pl (.lst ([V.ref scr,.int a,.int b,.int c,.int e].set 4 (.int (e+1)))))=H1 at P1 k1 n1 h1 ⊢
    refine ⟨_,rfl,pl,_,_,_,rfl,rfl,SqL.of h1,rfl,_,rfl,pl,_,_,_,rfl,rfl,SqL.of h1,rfl,_,_,rfl,rfl,.inl ⟨by lia,by lia⟩,_,rfl,pl,_,_,_,rfl,rfl,SqL.of h1,rfl,_,_,rfl,rfl,.inl ⟨by decide,by decide⟩,_,_,rfl,rfl,_,_,rfl,rfl,_,_,rfl,rfl,(by show (0:Int)<_;decide),_,rfl,pl,_,_,3,rfl,rfl,h1,rfl,?_⟩
    have x0:=db (a:=c*c+40014*(e+1)+977) (b:=2147483629) (by decide)
    have x1:=cV (a:=c*c+40014*(e+1)+977) (b:=2147483629) (by decide)
    have P2:Pile K (upd H1 pl (.lst ([V.ref scr,.int a,.int b,.int c,.int (e+1)].set 3 (.int ((c*c+40014*(e+1)+977) % 2147483629))))) pl scr ns:=P1.put a0 x0 x1
    have k2:Kept [pl] H (upd H1 pl (.lst ([V.ref scr,.int a,.int b,.int c,.int (e+1)].set 3 (.int ((c*c+40014*(e+1)+977) % 2147483629))))):=k1.put (by simp)
    have n2:∀bb,H bb=none->(upd H1 pl (.lst ([V.ref scr,.int a,.int b,.int c,.int (e+1)].set 3 (.int ((c*c+40014*(e+1)+977) % 2147483629))))) bb=none:=fun bb=>kn H1 _ bb n1
    have h2:(upd H1 pl (.lst ([V.ref scr,.int a,.int b,.int c,.int (e+1)].set 3 (.int ((c*c+40014*(e+1)+977) % 2147483629))))) pl=some (.lst [.ref scr,.int a,.int b,.int ((c*c+40014*(e+1)+977) % 2147483629),.int (e+1)]):=ae
    generalize (upd H1 pl (.lst ([V.ref scr,.int a,.int b,.int c,.int (e+1)].set 3 (.int ((c*c+40014*(e+1)+977) % 2147483629)))))=H2 at P2 k2 n2 h2 ⊢
    exact ⟨_,rfl,pl,_,_,_,rfl,rfl,SqL.of h2,rfl,_,_,rfl,rfl,⟨by decide,by decide⟩,_,rfl,_,_,rfl,rfl,m0,k _ _ (db m0) (cV m0) P2 k2 n2⟩
end
end Kx
end
section
namespace Kx
open PySem L2
section
variable {P:Program}{w:World}{K:PySem.W.Frag}{mg:Str->Option Value}{base:Heap}
open Hm
theorem gG {α:Type}:∀{l:List α} {k:Nat} (h:k<l.length),(l[k]::l.eraseIdx k).Perm l
 | a::l,0,_=>List.Perm.refl _
 | a::l,k+1,h=>by
  have hk:k<l.length:=Nat.lt_of_succ_lt_succ h
  have ih:=gG (l:=l) (k:=k) hk
  show (l[k]::a::l.eraseIdx k).Perm (a::l)
  exact (List.Perm.swap _ _ _).trans (ih.cons a)
def kI (xs:List V):Prop:=∀v∈xs,∃ x,v=.str x/\x.length<=20
def nmk (p q:Str)(sh:Nat)(k:Nat):Str:=p++ltr ((sh+k) % 26)++(if k % 2=0 then ("":Str) else ("q":Str))++q++(["","w","ww","v","vw","u","uw","uu"]:List Str).getD (k / 26) ""
theorem xt (a b:Str):(a++b).cps.toList=a.cps.toList++b.cps.toList:=by
 show (a.cps++b.cps).toList=_
 rw [Array.toList_append]
theorem ye {a b:Str}(h:a.cps.toList=b.cps.toList):a=b:=by
 cases a with
 | mk a =>
  cases b with
  | mk b=>exact congrArg Str.mk (Array.toList_inj.mp h)
theorem wq:∀i j:Nat,i<8->j<8->(["","w","ww","v","vw","u","uw","uu"]:List Str).getD i ""=(["","w","ww","v","vw","u","uw","uu"]:List Str).getD j ""->i=j:=by
 have nd:((["","w","ww","v","vw","u","uw","uu"]:List Str)).Nodup:=by decide +kernel
 intro i j hi hj h
 refine (List.getElem_inj (h₀:=hi) (h₁:=hj) nd).mp ?_
 rw [List.getD_eq_getElem?_getD,List.getD_eq_getElem?_getD,List.getElem?_eq_getElem (show i<((["","w","ww","v","vw","u","uw","uu"]:List Str)).length from hi),List.getElem?_eq_getElem (show j<((["","w","ww","v","vw","u","uw","uu"]:List Str)).length from hj)] at h
 exact h
theorem uv {p q:Str}{sh k k':Nat}(hk:k<208)(hk':k'<208)(h:nmk p q sh k=nmk p q sh k'):k=k':=by
 have e:=congrArg (fun x:Str=>x.cps.toList) h
 unfold nmk at e
 simp only [xt,List.append_assoc] at e
 have e1:=List.append_cancel_left e
 have el:∀i,(ltr i).cps.toList=[97+i]:=fun i=>rfl
 rw [el,el] at e1
 simp only [List.cons_append,List.nil_append,List.cons.injEq] at e1
 obtain ⟨e2,e3⟩:=e1
 have m:(sh+k) % 26=(sh+k') % 26:=by lia
 have m2:k % 2=k' % 2:=by lia
 rw [m2] at e3
 have e4:=List.append_cancel_left (List.append_cancel_left e3)
 have:=wq (k / 26) (k' / 26) (by lia) (by lia) (ye e4)
 lia
theorem tm {p q:Str}{sh k:Nat}(h:p.length+q.length<=8):(nmk p q sh k).length<=20:=by
 have t1:∀i:Nat,((["","w","ww","v","vw","u","uw","uu"]:List Str).getD i "").length<=2:=by
  intro i
  by_cases hi:i<8
  .match i,hi with
   | 0,_=>decide +kernel
   | 1,_=>decide +kernel
   | 2,_=>decide +kernel
   | 3,_=>decide +kernel
   | 4,_=>decide +kernel
   | 5,_=>decide +kernel
   | 6,_=>decide +kernel
   | 7,_=>decide +kernel
   | i+8,h=>exact absurd h (by lia)
  .rw [List.getD_eq_getElem?_getD,List.getElem?_eq_none (by show ((["","w","ww","v","vw","u","uw","uu"]:List Str)).length<=i;have:((["","w","ww","v","vw","u","uw","uu"]:List Str)).length=8:=rfl;lia)]
   decide +kernel
 have t2:(if k % 2=0 then ("":Str) else ("q":Str)).length<=1:=by split <;> decide +kernel
 have t3:(ltr ((sh+k) % 26)).length=1:=rfl
 have:=t1 (k / 26)
 unfold nmk
 rw [strLen_append,strLen_append,strLen_append,strLen_append,t3]
 lia
abbrev bW:Stmt:=top 22
theorem jX:FnScope ["pile","many","letters","menu","base","at","shift","found","k","sign","tail"] ["pile","many"] (ai bW):=fsc fun nd=>⟨rfl,rfl,rfl,nd,rfl,by decide +kernel,by decide +kernel⟩
def j6 (K:PySem.W.Frag):Sp:=fun vs H Q _=>∃ (pl sr:Addr) (ns:List Int) (many:Nat),vs=[.ref pl,.int many]/\Pile K H pl sr ns/\many<=200 /\
 ∀(l:Addr) (xs:List V) H',H' l=some (.lst xs)->kI xs->xs.Nodup->xs.length=many->Pile K H' pl sr ns->Kept [pl] H H'->H l=none->l≠pl->Off K sr (ns.map V.int) l->Q (.ref l) H'
theorem pe {f fn:Addr}{fd fdn:FuncData}(F:Fun K "_law_names" "_law_names" bW f fd)(T:Bl mg)(G_law_next:aw P w K mg base CX0 1 fn fdn ["pile","most"] (gk K))(D_law_next:Nm K mg "_law_next" fn fdn ["pile","most"]) :
  aw P w K mg base CX0 2 f fd ["pile","many"] (j6 K):=by
 have sc:=jX
 refine F.okQ jX (fun vs H Q E h=>?_) (fun cdv A outer s H vs Q E hr h=>?_)
 .obtain ⟨pl,sr,ns,many,rfl,_⟩:=h
  rfl
 .obtain ⟨pl,sr,ns,many,rfl,PL,hm,k⟩:=h
  have hu:=hr.units0
  refine ⟨_,(af (aq (i:=2) sc.nd rfl (Or.inr rfl) ar)
   (af (aq (i:=3) sc.nd rfl (Or.inr rfl) (bd (dL (vs:=[.str "a",.str "b",.str "ab",.str "aa",.str "ba",.str "z",.str "put",.str "heap",.str "least",.str "take",.str "first",.str "zzzzzzzz",.str "abcdefgh",.str "drop"]) (by decide +kernel))))
   (af (aX (uP (QW.pt (dR (aD xW (qv 1) ag (aH _)) (cP (aD bV (au G_law_next (hr.mono (by decide)) rfl D_law_next.m D_law_next.k D_law_next.b .nil aB (ad (qv 0) (ad ag aj))) ag (aH _)))))) (ao (aF (cy (Blk.of (N:=["pile","many","letters","menu","base","at","shift","found","k","sign","tail"]) (esc:=ai bW) (NB:=["menu","pile"]) (cap:=[3,0]) rfl rfl (fun y hy=>bv hy) rfl (by decide +kernel) (by decide +kernel) (by decide +kernel) rfl (by decide +kernel) rfl (by decide +kernel)) rfl rfl (dr rfl T.z_range (ad (qv 1) aj)) (fun C fp s₀ H₀=>eI) (fun C fp s₀ H₀=>(wP (K:=K) rfl PySem.F.plainAttrs_list PySem.F.slot_list_pop PySem.F.type_list_pop qi (qv 1) (ad (au G_law_next (hr.mono (by decide)) rfl D_law_next.m D_law_next.k D_law_next.b .nil aB (ad (qv 2) (ad (aG (hU (K:=K) rfl) (by rfl) T.z_len (by decide +kernel) (ad (qv 1) aj)) aj))) aj)))))) aK)
   (af (aq (i:=4) sc.nd rfl (Or.inl rfl) (iL PySem.F.plainAttrs_str PySem.F.slot_str_join PySem.F.type_str_join uh ar (ad (cy (Blk.of (N:=["pile","many","letters","menu","base","at","shift","found","k","sign","tail"]) (esc:=ai bW) (NB:=["letters","pile"]) (cap:=[2,0]) rfl rfl (fun y hy=>bv hy) rfl (by decide +kernel) (by decide +kernel) (by decide +kernel) rfl (by decide +kernel) rfl (by decide +kernel)) rfl rfl (dr rfl T.z_range (ad (au G_law_next (hr.mono (by decide)) rfl D_law_next.m D_law_next.k D_law_next.b .nil aB (ad (qv 0) (ad ag aj))) aj)) (fun C fp s₀ H₀=>eI) (fun C fp s₀ H₀=>(az rD (qv 1) (au G_law_next (hr.mono (by decide)) rfl D_law_next.m D_law_next.k D_law_next.b .nil aB (ad (qv 2) (ad ag aj))) (fun _ _=>rfl)))) aj)))
   (af (aq (i:=5) sc.nd rfl (Or.inl rfl) (au G_law_next (hr.mono (by decide)) rfl D_law_next.m D_law_next.k D_law_next.b .nil aB (ad (qv 0) (ad (ay aM (aG jf (by rfl) T.z_len (by decide +kernel) (ad (qv 4) aj)) ag) aj))))
   (af (aq (i:=6) sc.nd rfl (Or.inl rfl) (au G_law_next (hr.mono (by decide)) rfl D_law_next.m D_law_next.k D_law_next.b .nil aB (ad (qv 0) (ad ag aj))))
   (af (aq (i:=7) sc.nd rfl (Or.inl rfl) (bd aj))
   (af (dQ PassesOwn.never rfl (dr rfl T.z_range (ad (qv 1) aj)) (bf (i:=8) sc.nd rfl (Or.inl rfl)) (af (aq (i:=9) sc.nd rfl (Or.inl rfl) (az rD (qv 2) (ay bU (ay aM (qv 6) (qv 8)) ag) (fun _ _=>rfl)))
   (af (aq (i:=10) sc.nd rfl (Or.inl rfl) (az aE (bd (dL (vs:=[.str "",.str "w",.str "ww",.str "v",.str "vw",.str "u",.str "uw",.str "uu"]) (by decide +kernel))) (ay bJ (qv 8) ag) (fun _ _=>rfl)))
   (ao (aO (iL PySem.F.plainAttrs_list PySem.F.slot_list_append PySem.F.type_list_append bQ (qv 7) (ad (ay cz (ay cz (ay cz (ay cz (eO qe (qv 4) jB (eE (qv 5))) (qv 9)) (az aE (bd (ad ar (ad ar aj))) (ay bU (qv 8) ag) (fun _ _=>rfl))) (eO qe (qv 4) (eE (qv 5)) jB)) (qv 10)) aj)))))))
   (ao (aF (qv 7))))))))))),?_⟩
  refine ⟨by show 14<=sizeLine;decide,fun ml hml=>?_⟩
  have PM:=PL.new hml
  have s1:=ap (o:=.lst [.str "a",.str "b",.str "ab",.str "aa",.str "ba",.str "z",.str "put",.str "heap",.str "least",.str "take",.str "first",.str "zzzzzzzz",.str "abcdefgh",.str "drop"]) hml
  have g1:=ae (H:=H) (a:=ml) (o:=.lst [.str "a",.str "b",.str "ab",.str "aa",.str "ba",.str "z",.str "put",.str "heap",.str "least",.str "take",.str "first",.str "zzzzzzzz",.str "abcdefgh",.str "drop"])
  generalize upd H ml (.lst [.str "a",.str "b",.str "ab",.str "aa",.str "ba",.str "z",.str "put",.str "heap",.str "least",.str "take",.str "first",.str "zzzzzzzz",.str "abcdefgh",.str "drop"])=H1 at s1 g1 ⊢
  have P1:=PL.same s1
  have lmenu:([.str "a",.str "b",.str "ab",.str "aa",.str "ba",.str "z",.str "put",.str "heap",.str "least",.str "take",.str "first",.str "zzzzzzzz",.str "abcdefgh",.str "drop"]:List V).length=14:=rfl
  have ndm:([.str "a",.str "b",.str "ab",.str "aa",.str "ba",.str "z",.str "put",.str "heap",.str "least",.str "take",.str "first",.str "zzzzzzzz",.str "abcdefgh",.str "drop"]:List V).Nodup:=by decide +kernel
  have anm:kI [.str "a",.str "b",.str "ab",.str "aa",.str "ba",.str "z",.str "put",.str "heap",.str "least",.str "take",.str "first",.str "zzzzzzzz",.str "abcdefgh",.str "drop"]:=fun v hv=>by
   simp only [List.mem_cons,List.not_mem_nil,or_false] at hv
   rcases hv with h | h | h | h | h | h | h | h | h | h | h | h | h | h <;> exact ⟨_,h,by decide +kernel⟩
  refine ⟨fun b H'=>(b=true->many<=14)/\Pile K H' pl sr ns/\Kept [pl] H1 H',?_,?_⟩
  .refine ⟨_,rfl,_,_,rfl,rfl,_,rfl,aI (fun c1=>?_) (fun c1=>?_)⟩
   .have c1':(many:Int)<=14:=of_decide_eq_true c1
    exact ⟨_,rfl,pl,sr,ns,2,rfl,P1,by decide,by decide,fun x H2 x0 x1 P2 K2 N2=>⟨rfl,_,rfl,fun _=>by lia,P2,K2⟩⟩
   .exact ⟨(fun z=>nomatch z),P1,Kept.refl⟩
  rintro b H2 ⟨c1,P2,k12⟩
  have k2:Kept [pl] H H2:=fun c u e n=>k12 c u (s1 _ _ e) n
  have hm2:=k12 _ _ g1 (fun z=>PM.1 (List.mem_singleton.mp z))
  have fresh:∀(H3:Hp) (D:Addr),Kept [pl] H H3->Pile K H3 pl sr ns->H3 D=none->H D=none:=fun H3 D k3 P3 e=>by
   cases q:H D with
   | none=>rfl
   | some u=>rw [k3 _ _ q (fun z=>(P3.new e).1 (List.mem_singleton.mp z))] at e;cases e
  refine aI (fun hb=>?_) (fun hb=>?_)
  .-- out of the menu
   have m14:=c1 hb
   refine ⟨_,rfl,_,rfl,by lia,by lia,fun D hD=>?_⟩
   have PD:=P2.new hD
   have hD0:=fresh H2 D k2 P2 hD
   have nmD:ml≠D:=am hm2 hD
   refine gn (lo:=0) (n:=many) (fun i ys H4=>H4 D=some (.lst ys)/\∃ ms,H4 ml=some (.lst ms)/\(ys++ms).Perm [.str "a",.str "b",.str "ab",.str "aa",.str "ba",.str "z",.str "put",.str "heap",.str "least",.str "take",.str "first",.str "zzzzzzzz",.str "abcdefgh",.str "drop"]/\ys.length=i/\Pile K H4 pl sr ns/\Kept [pl] H H4) ⟨ae,_,ap hD _ _ hm2,List.Perm.refl _,rfl,P2.same (ap hD),k2.new hD⟩ (fun i ys H4 z=>z.1) ?_ ?_
   .rintro i ys H4 hi ⟨h4,ms,hms,pm,ly,P4,k4⟩
    have lm:ys.length+ms.length=14:=by have:=pm.length_eq;rw [List.length_append] at this;exact this
    unfold lT
    dsimp only
    rw [if_pos rfl]
    refine ⟨_,rfl,.inl ⟨rfl,ms,SqL.of hms⟩,_,rfl,_,rfl,ml,ms,rfl,.inl (SqL.of hms),pl,sr,ns,(ms.length:Nat),rfl,P4,by lia,by lia,fun y H5 y0 y1 P5 K5 N5=>?_⟩
    have hms5:=K5 _ _ hms (fun z=>PM.1 (List.mem_singleton.mp z))
    have h5:=K5 _ _ h4 (fun z=>PD.1 (List.mem_singleton.mp z))
    have hk:y.toNat<ms.length:=by lia
    refine ⟨ml,ms,y,y.toNat,ms[y.toNat],rfl,rfl,hms5,by lia,by lia,PySem.StrLaws.seqIndex_nonneg y0 y1,List.getElem?_eq_getElem hk,?_⟩
    refine ⟨by rw [ak nmD.symm];exact h5,by rw [ly];exact aS (by lia),_,by lia,rfl,by lia,ae,ms.eraseIdx y.toNat,by rw [ak nmD,ae],?_,by rw [List.length_append,ly];rfl,?_,?_⟩
    .rw [List.append_assoc]
     exact ((gG hk).append_left ys).trans pm
    .exact P5.kept (F:=[ml,D]) (fun c hc=>by
      rcases List.mem_cons.mp hc with z | z
      .rw [z];exact PM
      .rw [List.mem_singleton.mp z];exact PD) ((Kept.refl.put (by simp)).put (by simp))
    .exact ((k4.trans K5).newer hml).newer hD0
   .rintro ys H4 ⟨h4,ms,hms,pm,ly,P4,k4⟩
    refine k D ys H4 h4 (fun v hv=>anm v (pm.mem_iff.mp (List.mem_append_left _ hv))) ?_ ly P4 k4 hD0 PD.1 PD.2
    have:=pm.nodup_iff.mpr ndm
    exact (List.nodup_append.mp this).1
  .-- made ones
   have LET:("abcdefghijklmnopqrstuvwxyz":Str).length<=sizeLine:=by decide +kernel
   refine ⟨rfl,_,rfl,pl,sr,ns,5,rfl,P2,by decide,by decide,fun n5 H3 n50 n51 P3 K3 N3=>?_⟩
   obtain ⟨m5,rfl⟩:∃ m5:Nat,n5=m5:=⟨n5.toNat,by lia⟩
   have k3:=k2.trans K3
   refine ⟨_,rfl,by lia,by lia,fun D hD=>?_⟩
   have PD:=P3.new hD
   have hD0:=fresh H3 D k3 P3 hD
   refine gn (lo:=0) (n:=m5) (fun i ys H4=>H4 D=some (.lst ys)/\(∃ zs:List Str,ys=zs.map V.str/\zs.length=i/\∀y∈zs,y.length<=1)/\Pile K H4 pl sr ns/\Kept [pl] H H4) ⟨ae,⟨[],rfl,rfl,fun _ z=>nomatch z⟩,P3.same (ap hD),k3.new hD⟩ (fun i ys H4 z=>z.1) ?_ ?_
   .rintro i ys H4 hi ⟨h4,⟨zs,rfl,lz,al⟩,P4,k4⟩
    unfold lT
    dsimp only
    rw [if_pos rfl]
    refine ⟨_,rfl,_,rfl,pl,sr,ns,26,rfl,P4,by decide,by decide,fun y H5 y0 y1 P5 K5 N5=>?_⟩
    obtain ⟨yn,rfl⟩:∃ yn:Nat,y=yn:=⟨y.toNat,by lia⟩
    refine ⟨_,_,_,rfl,rfl,LET,pZ (by lia),?_⟩
    have h5:=K5 _ _ h4 (fun z=>PD.1 (List.mem_singleton.mp z))
    refine ⟨h5,by rw [List.length_map,lz];exact aS (by lia),_,by lia,rfl,by lia,ae,⟨zs++[ltr yn],by rw [List.map_append];rfl,by rw [List.length_append,lz];rfl,fun z hz=>?_⟩,?_,(k4.trans K5).newer hD0⟩
    .rcases List.mem_append.mp hz with q | q
     .exact al z q
     .rw [List.mem_singleton.mp q];exact Nat.le_refl 1
    .exact P5.kept (F:=[D]) (fun c hc=>by rw [List.mem_singleton.mp hc];exact PD) (Kept.refl.put (by simp))
   rintro ys H4 ⟨h4,⟨zs,rfl,lz,al⟩,P4,k4⟩
   refine ⟨"",D,zs,rfl,rfl,SqL.of h4,by decide +kernel,by lia,fun y hy=>Nat.le_trans (al y hy) (by decide),?_⟩
   have lb:(Txt.join (Str.ofString "") zs).length<=zs.length:=pN al
   revert lb
   generalize Txt.join (Str.ofString "") zs=bs
   intro lb
   have LB:bs.length<=sizeLine:=Nat.le_of_lt (aS (by lia))
   refine ⟨_,rfl,_,rfl,bs,rfl,LB,_,_,rfl,rfl,pl,sr,ns,((bs.length:Nat):Int)+1,rfl,P4,by lia,by lia,fun at' H5 at0 at1 P5 K5 N5=>?_⟩
   refine ⟨_,rfl,pl,sr,ns,26,rfl,P5,by decide,by decide,fun sf H6 sf0 sf1 P6 K6 N6=>?_⟩
   obtain ⟨sh,rfl⟩:∃ sh:Nat,sf=sh:=⟨sf.toNat,by lia⟩
   have k6:=(k4.trans K5).trans K6
   refine ⟨by show 0<=sizeLine;decide,fun fl hfl=>?_⟩
   have PF:=P6.new hfl
   have hf0:=fresh H6 fl k6 P6 hfl
   have lp:=Txt.slice_le bs none (some at')
   have lq:=Txt.slice_le bs (some at') none
   have LS:∀k,(nmk (Txt.slice bs none (some at')) (Txt.slice bs (some at') none) sh k).length<=20:=fun k=>tm (by lia)
   generalize hp:Txt.slice bs none (some at')=p at lp LS
   generalize hq:Txt.slice bs (some at') none=q at lq LS
   have s7:=ap (o:=.lst []) hfl
   have g7:=ae (H:=H6) (a:=fl) (o:=.lst [])
   generalize upd H6 fl (.lst [])=H7 at s7 g7 ⊢
   refine ⟨_,rfl,_,rfl,by lia,by lia,iP (lo:=0) (n:=many) (fun i σ H8=>∃ (o8 o9 o10:Option V),σ=[some (.ref pl),some (.int many),some (.str "abcdefghijklmnopqrstuvwxyz"),some (.ref ml),some (.str bs),some (.int at'),some (.int sh),some (.ref fl),o8,o9,o10]/\H8 fl=some (.lst ((List.range i).map fun k=>V.str (nmk p q sh k)))/\Pile K H8 pl sr ns/\Kept [pl] H H8)
    ⟨none,none,none,rfl,g7,P6.same s7,k6.trans (Kept.of_same s7)⟩ ?_ ?_⟩
   .rintro i σ H8 hi ⟨o8,o9,o10,rfl,h8,P8,k8⟩
    have ei:(0:Int)+(i:Int)=(i:Int):=by lia
    rw [ei]
    have e1:((sh:Int)+(i:Int)) % 26=(((sh+i) % 26:Nat):Int):=by lia
    have a1:=pZ (i:=(sh+i) % 26) (by lia)
    rw [<-e1] at a1
    refine ⟨_,rfl,_,rfl,_,rfl,_,_,rfl,rfl,_,_,rfl,rfl,(by show (0:Int)<26;decide),_,_,_,rfl,rfl,LET,a1,?_⟩
    refine ⟨by show 8<=sizeLine;decide,fun l8 hl8=>?_⟩
    have s9:=ap (o:=.lst [.str "",.str "w",.str "ww",.str "v",.str "vw",.str "u",.str "uw",.str "uu"]) hl8
    have g9:=ae (H:=H8) (a:=l8) (o:=.lst [.str "",.str "w",.str "ww",.str "v",.str "vw",.str "u",.str "uw",.str "uu"])
    generalize upd H8 l8 (.lst [.str "",.str "w",.str "ww",.str "v",.str "vw",.str "u",.str "uw",.str "uu"])=H9 at s9 g9 ⊢
    have e2:(i:Int) / 26=((i / 26:Nat):Int):=by lia
    have a2:atI ([.str "",.str "w",.str "ww",.str "v",.str "vw",.str "u",.str "uw",.str "uu"]:List V) ((i:Int) / 26)=some (V.str ((["","w","ww","v","vw","u","uw","uu"]:List Str).getD (i / 26) "")):=by
     rw [e2]
     refine cH ?_
     have hj:i / 26<8:=by lia
     generalize i / 26=j at hj
     match j,hj with
     | 0,_=>rfl
     | 1,_=>rfl
     | 2,_=>rfl
     | 3,_=>rfl
     | 4,_=>rfl
     | 5,_=>rfl
     | 6,_=>rfl
     | 7,_=>rfl
     | j+8,h=>exact absurd h (by lia)
    refine ⟨_,rfl,_,_,rfl,rfl,⟨by decide,by decide⟩,l8,_,_,_,rfl,rfl,SqL.of g9,a2,?_⟩
    have h9:=s9 _ _ h8
    have tl2:((["","w","ww","v","vw","u","uw","uu"]:List Str).getD (i / 26) "").length<=20:=by
     have:=LS i
     unfold nmk at this
     rw [strLen_append] at this
     lia
    generalize ht:(["","w","ww","v","vw","u","uw","uu"]:List Str).getD (i / 26) ""=tt at tl2 a2
    have t3:(ltr ((sh+i) % 26)).length=1:=rfl
    refine ⟨_,rfl,.inl ⟨rfl,_,SqL.of h9⟩,_,rfl,_,rfl,_,rfl,bs,rfl,LB,_,rfl,_,_,rfl,rfl,?z1,?_⟩
    case z1=>rw [hp];show p.length+(ltr ((sh+i) % 26)).length<=sizeLine;exact Nat.le_of_lt (aS (by lia))
    refine ⟨by show 2<=sizeLine;decide,fun l2 hl2=>?_⟩
    have sA:=ap (o:=.lst [.str "",.str "q"]) hl2
    have gA:=ae (H:=H9) (a:=l2) (o:=.lst [.str "",.str "q"])
    generalize upd H9 l2 (.lst [.str "",.str "q"])=HA at sA gA ⊢
    have a3:atI ([.str "",.str "q"]:List V) ((i:Int) % 2)=some (V.str (if i % 2=0 then ("":Str) else ("q":Str))):=by
     have e3:(i:Int) % 2=((i % 2:Nat):Int):=by lia
     rw [e3]
     refine cH ?_
     rcases Nat.mod_two_eq_zero_or_one i with z | z <;> rw [z] <;> rfl
    have t4:(if i % 2=0 then ("":Str) else ("q":Str)).length<=1:=by split <;> decide +kernel
    refine ⟨_,rfl,_,_,rfl,rfl,(by show (0:Int)<2;decide),l2,_,_,_,rfl,rfl,SqL.of gA,a3,_,_,rfl,rfl,?z2,?_⟩
    case z2=>rw [hp,strLen_append];show p.length+(ltr ((sh+i) % 26)).length+_<=sizeLine;exact Nat.le_of_lt (aS (by lia))
    refine ⟨_,rfl,_,rfl,_,rfl,bs,rfl,LB,_,_,rfl,rfl,?z3,_,rfl,_,_,rfl,rfl,?z4,?_⟩
    case z3=>rw [hp,hq,strLen_append,strLen_append];show p.length+(ltr ((sh+i) % 26)).length+_+_<=sizeLine;exact Nat.le_of_lt (aS (by lia))
    case z4=>rw [hp,hq,strLen_append,strLen_append,strLen_append];show p.length+(ltr ((sh+i) % 26)).length+_+_+_<=sizeLine;exact Nat.le_of_lt (aS (by lia))
    have hA:=sA _ _ h9
    have kA:Kept [pl] H HA:=k8.trans (Kept.of_same (s9.trans sA))
    have PA:=(P8.same s9).same sA
    refine ⟨fl,_,_,rfl,rfl,hA,by rw [List.length_map,List.length_range];exact aS (by lia),?_⟩
    refine ⟨_,_,_,rfl,?_,PA.kept (F:=[fl]) (fun c hc=>by rw [List.mem_singleton.mp hc];exact PF) (Kept.refl.put (by simp)),kA.newer hf0⟩
    rw [ae,List.range_succ,List.map_append]
    have en:nmk p q sh i=Txt.slice bs none (some at')++⟨#[97+(sh+i) % 26]⟩++(if i % 2=0 then ("":Str) else ("q":Str))++Txt.slice bs (some at') none++tt:=by
     unfold nmk
     rw [hp,hq,ht]
     rfl
    rw [List.map_cons,List.map_nil,en]
   .rintro σ H8 ⟨o8,o9,o10,rfl,h8,P8,k8⟩
    refine ⟨_,rfl,k fl _ H8 h8 (fun v hv=>?_) ?_ (by rw [List.length_map,List.length_range]) P8 k8 hf0 PF.1 PF.2⟩
    .obtain ⟨j,_,rfl⟩:=List.mem_map.mp hv
     exact ⟨_,rfl,LS j⟩
    .rw [List.nodup_iff_pairwise_ne,List.pairwise_map]
     refine List.Pairwise.imp_of_mem (R:=fun x y=>x≠y) (fun {x y} hx hy n z=>n ?_) (List.nodup_iff_pairwise_ne.mp List.nodup_range)
     have:=List.mem_range.mp hx
     have:=List.mem_range.mp hy
     exact uv (by lia) (by lia) (V.str.inj z)
end
end Kx
end
section
namespace Kx
open PySem L2
section
variable {P:Program}{w:World}{K:PySem.W.Frag}{mg:Str->Option Value}{base:Heap}
open Hm
abbrev dH:Stmt:=top 32
theorem kg:FnScope ["pile","way"] ["pile"] (ai dH):=fsc fun nd=>⟨rfl,rfl,rfl,nd,rfl,by decide +kernel,by decide +kernel⟩
def jN (K:PySem.W.Frag):Sp:=fun vs H Q _=>∃ (pl sr:Addr) (ns:List Int),vs=[.ref pl]/\Pile K H pl sr ns/\∀x H',Pile K H' pl sr ns->Kept [pl] H H'->Q (.int x) H'
theorem pj {f fn:Addr}{fd fdn:FuncData}(F:Fun K "_law_worth" "_law_worth" dH f fd)(T:Bl mg)(G_law_next:aw P w K mg base CX0 1 fn fdn ["pile","most"] (gk K))(D_law_next:Nm K mg "_law_next" fn fdn ["pile","most"]) :
  aw P w K mg base CX0 2 f fd ["pile"] (jN K):=by
 have sc:=kg
 refine F.okQ kg (fun vs H Q E h=>?_) (fun cdv A outer s H vs Q E hr h=>?_)
 .obtain ⟨pl,sr,ns,rfl,_⟩:=h
  rfl
 .obtain ⟨pl,sr,ns,rfl,PL,k⟩:=h
  have hu:=hr.units0
  refine ⟨_,(af (aq (i:=1) sc.nd rfl (Or.inl rfl) (au G_law_next (hr.mono (by decide)) rfl D_law_next.m D_law_next.k D_law_next.b .nil aB (ad (qv 0) (ad ag aj))))
   (af (aX (aD gl (qv 1) ag (aH _)) (ao (aF (ay bM (au G_law_next (hr.mono (by decide)) rfl D_law_next.m D_law_next.k D_law_next.b .nil aB (ad (qv 0) (ad (az aE (bd (dL (vs:=[.int 3,.int 7,.int 40]) (by decide +kernel))) (ay bU (qv 1) ag) (fun _ _=>rfl)) aj))) (az aE (bd (dL (vs:=[.int 1,.int 3,.int 0]) (by decide +kernel))) (ay bU (qv 1) ag) (fun _ _=>rfl))))) aK)
   (ao (aF (ay aM (ay bM (au G_law_next (hr.mono (by decide)) rfl D_law_next.m D_law_next.k D_law_next.b .nil aB (ad (qv 0) (ad (ay bM (ay dg ag (ay i8 ag ag)) ag) aj))) (ay i8 ag ag)) ag))))),?_⟩
  refine ⟨_,rfl,pl,sr,ns,8,rfl,PL,by decide,by decide,fun x H1 x0 x1 P1 K1 N1=>?_⟩
  refine ⟨_,rfl,_,_,rfl,rfl,_,rfl,aI (fun q0=>?_) (fun q0=>?_)⟩
  .have m0:0<=x % 3:=db (by decide)
   have m1:x % 3<3:=cV (by decide)
   refine ⟨_,rfl,by show 3<=sizeLine;decide,fun l1 hl1=>?_⟩
   have s2:=ap (o:=.lst [.int 3,.int 7,.int 40]) hl1
   have g2:=ae (H:=H1) (a:=l1) (o:=.lst [.int 3,.int 7,.int 40])
   generalize upd H1 l1 (.lst [.int 3,.int 7,.int 40])=H2 at s2 g2 ⊢
   obtain ⟨v,ev,mv⟩:=gd (l:=([.int 3,.int 7,.int 40]:List V)) (i:=x % 3) m0 m1
   obtain ⟨m,rfl,p0,p1⟩:∃ m:Int,v=.int m/\0<m/\m<2 ^ 120:=by
    simp only [List.mem_cons,List.not_mem_nil,or_false] at mv
    rcases mv with h | h | h <;> exact ⟨_,h,by decide,by decide⟩
   refine ⟨_,rfl,_,_,rfl,rfl,(by show (0:Int)<3;decide),l1,_,_,_,rfl,rfl,SqL.of g2,ev,pl,sr,ns,m,rfl,P1.same s2,p0,p1,fun y H3 y0 y1 P3 K3 N3=>?_⟩
   refine ⟨by show 3<=sizeLine;decide,fun l2 hl2=>?_⟩
   have s4:=ap (o:=.lst [.int 1,.int 3,.int 0]) hl2
   have g4:=ae (H:=H3) (a:=l2) (o:=.lst [.int 1,.int 3,.int 0])
   generalize upd H3 l2 (.lst [.int 1,.int 3,.int 0])=H4 at s4 g4 ⊢
   obtain ⟨v2,ev2,mv2⟩:=gd (l:=([.int 1,.int 3,.int 0]:List V)) (i:=x % 3) m0 m1
   obtain ⟨m2,rfl⟩:∃ m:Int,v2=.int m:=by
    simp only [List.mem_cons,List.not_mem_nil,or_false] at mv2
    rcases mv2 with h | h | h <;> exact ⟨_,h⟩
   refine ⟨_,rfl,_,_,rfl,rfl,(by show (0:Int)<3;decide),l2,_,_,_,rfl,rfl,SqL.of g4,ev2,_,_,rfl,rfl,?_⟩
   exact k _ H4 (P3.same s4) (((K1.trans (Kept.of_same s2)).trans K3).trans (Kept.of_same s4))
  .refine ⟨_,rfl,_,_,rfl,rfl,⟨by decide,by decide,by decide⟩,_,_,rfl,rfl,.inl ⟨by decide,by decide⟩,_,_,rfl,rfl,pl,sr,ns,_,rfl,P1,by decide,by decide,fun y H3 y0 y1 P3 K3 N3=>?_⟩
   refine ⟨_,_,rfl,rfl,⟨by decide,by decide,by decide⟩,_,_,rfl,rfl,_,_,rfl,rfl,?_⟩
   exact k _ H3 P3 (K1.trans K3)
end
end Kx
end
section
namespace Kx
open PySem L2
section
variable {P:Program}{w:World}{K:PySem.W.Frag}{mg:Str->Option Value}{base:Heap}
open Hm
abbrev iR:Stmt:=top 24
theorem rW:FnScope ["row","k","looks","low"] ["row","k"] (ai iR):=fsc fun nd=>⟨rfl,rfl,rfl,nd,rfl,by decide +kernel,by decide +kernel⟩
def lv:Sp:=fun vs H Q _=>∃ (r:Addr) (xs:List V) (a:Nat) (t:V->List V),vs=[.ref r,.int a]/\H r=some (.lst xs)/\EnR t H xs/\xs.length<=1000 /\
 ∀H',H' r=some (.lst (dn (ltT t) xs.length xs a 0).1)->(∀b o,H b=some o->b≠r->H' b=some o)->Q (.int (dn (ltT t) xs.length xs a 0).2) H'
theorem uQ {f:Addr}{fd:FuncData}(F:Fun K "_law_let_down" "_law_let_down" iR f fd)(T:Bl mg):aw P w K mg base CX0 1 f fd ["row","k"] lv:=by
 have sc:=rW
 refine F.ok rW (fun vs H Q E h=>?_) (fun cdv A outer s H vs Q E hr h=>?_)
 .obtain ⟨r,xs,a,t,rfl,_⟩:=h
  rfl
 .obtain ⟨r,xs,a,t,rfl,hx,en,hl,k⟩:=h
  have hu:=hr.units0
  refine ⟨_,(QSs.to (af (aq (i:=2) sc.nd rfl (Or.inl rfl) ag)
   (af (cu PassesOwn.never (aD gl (ay aM (ay dg ag (qv 1)) ag) (aG aL (by rfl) T.z_len (by decide +kernel) (ad (qv 0) aj)) (aH _)) (af (aq (i:=3) sc.nd rfl (Or.inl rfl) (ay aM (ay dg ag (qv 1)) ag))
   (af (aX (aD gl (ay aM (qv 3) ag) (aG aL (by rfl) T.z_len (by decide +kernel) (ad (qv 0) aj)) (aH _)) (af (aq (i:=2) sc.nd rfl (Or.inl rfl) (ay aM (qv 2) ag))
   (ao (aq (i:=3) sc.nd rfl (Or.inl rfl) (ay aM (qv 3) (bD cj (by rfl) T.z_int (by decide +kernel) (ad (bY (fG hu) (az aE (qv 0) (ay aM (qv 3) ag) (fun _ _=>rfl)) (az aE (qv 0) (qv 3) (fun _ _=>rfl)) (aH _)) aj)))))) aK)
   (af (aq (i:=2) sc.nd rfl (Or.inl rfl) (ay aM (qv 2) ag))
   (af (aX (cM (aD (fG hu) (az aE (qv 0) (qv 3) (fun _ _=>rfl)) (az aE (qv 0) (qv 1) (fun _ _=>rfl)) (aH _))) (ao (aF (qv 2))) aK)
   (af (bA (a9 (ad (az aE (qv 0) (qv 1) (fun _ _=>rfl)) (ad (az aE (qv 0) (qv 3) (fun _ _=>rfl)) aj))) (qO rfl (be (bF (qv 0) (qv 3) bg) (be (bF (qv 0) (qv 1) bg) eW))))
   (ao (aq (i:=1) sc.nd rfl (Or.inl rfl) (qv 3)))))))))
   (ao (aF (qv 2)))))),?_⟩
  refine ⟨fun m σ H2=>∃ (f p lk:Nat) (bl:Option V) (ys:List V),σ=[some (.ref r),some (.int p),some (.int lk),bl]/\dn (ltT t) f ys p lk=dn (ltT t) xs.length xs a 0/\ys.length<=p+f/\H2 r=some (.lst ys)/\ys.length=xs.length/\(∀y∈ys,y∈xs)/\(∀b o,H b=some o->b≠r->H2 b=some o)/\m=ys.length-p,
   ⟨_,xs.length,a,0,none,xs,rfl,rfl,by lia,hx,rfl,fun y h=>h,fun b o e _=>e,rfl⟩,?_⟩
  rintro m σ H2 ⟨f,p,lk,bl,ys,rfl,hd,hf,h2,l2,s2,f2,rfl⟩
  have en2:EnR t H2 ys:=(en.bar hx f2).sub s2
  refine ⟨_,rfl,_,_,rfl,rfl,.inl ⟨by decide,by decide⟩,_,_,rfl,rfl,_,rfl,r,_,rfl,.inl (SqL.of h2),_,_,rfl,rfl,_,rfl,aI (fun c1=>?_) (fun c1=>⟨_,rfl,?_⟩)⟩
  rotate_left
  .have c1':¬ 2*(p:Int)+1<(ys.length:Int):=by simpa using c1
   rw [om (by lia)] at hd
   have:=k H2
   rw [<-hd] at this
   exact this h2 f2
  have c1':2*(p:Int)+1<(ys.length:Int):=by simpa using c1
  refine ⟨fun σ' H'=>∃ m',m'<ys.length-p/\∃ (f p lk:Nat) (bl:Option V) (zs:List V),σ'=[some (.ref r),some (.int p),some (.int lk),bl]/\dn (ltT t) f zs p lk=dn (ltT t) xs.length xs a 0/\zs.length<=p+f/\H' r=some (.lst zs)/\zs.length=xs.length/\(∀y∈zs,y∈xs)/\(∀b o,H b=some o->b≠r->H' b=some o)/\m'=zs.length-p,fun σ' H' z=>z,?_⟩
  refine ⟨_,rfl,_,_,rfl,rfl,.inl ⟨by decide,by decide⟩,_,_,rfl,rfl,?_⟩
  refine ⟨_,rfl,_,_,rfl,rfl,_,rfl,r,_,rfl,.inl (SqL.of h2),_,_,rfl,rfl,_,rfl,aI (fun c2=>?_) (fun c2=>?_)⟩
  .have c2':2*(p:Int)+1+1<(ys.length:Int):=by simpa using c2
   refine ⟨_,rfl,_,_,rfl,rfl,?_⟩
   obtain ⟨b3,e3,g3,m3,t3⟩:=en2.gat (show 2*p+2<ys.length by lia)
   obtain ⟨b4,e4,g4,m4,t4⟩:=en2.gat (show 2*p+1<ys.length by lia)
   rw [e3,show ((2*p+2:Nat):Int)=2*(p:Int)+1+1 by lia] at t3
   rw [e4,show ((2*p+1:Nat):Int)=2*(p:Int)+1 by lia] at t4
   refine ⟨_,rfl,_,rfl,_,rfl,_,_,rfl,rfl,r,_,_,_,rfl,rfl,SqL.of h2,t3,_,rfl,_,rfl,r,_,_,_,rfl,rfl,SqL.of h2,t4,b3,b4,_,_,rfl,rfl,SqT.of g3,SqT.of g4,en2.fit _ _,.inr ⟨_,rfl,_,_,rfl,rfl,?_⟩⟩
   have hB:2*(p:Int)+1+(if bT (t (g ys (2*p+2))) (t (g ys (2*p+1)))=true then 1 else 0)=((les (ltT t) ys p:Nat):Int):=(nu (lt:=ltT t) (by lia)).symm
   have kidsE:kids ys.length p=2:=by unfold kids;rw [if_pos (by lia)]
   have hles:les (ltT t) ys p<ys.length:=cJ (by lia)
   have lo:=dP (lt:=ltT t) (xs:=ys) (p:=p)
   refine ⟨_,rfl,_,_,rfl,rfl,?_⟩
   obtain ⟨b1,e1,g1,m1,t1⟩:=en2.gat hles
   obtain ⟨b2,e2,g2,m2,t2⟩:=en2.gat (show p<ys.length by lia)
   rw [e1] at t1
   rw [e2] at t2
   rw [<-hB] at t1
   refine ⟨_,rfl,_,rfl,r,_,_,_,rfl,rfl,SqL.of h2,t1,_,rfl,_,rfl,r,_,_,_,rfl,rfl,SqL.of h2,t2,b1,b2,_,_,rfl,rfl,SqT.of g1,SqT.of g2,en2.fit _ _,_,rfl,aI (fun c3=>?_) (fun c3=>?_)⟩
   .have q3:ltT t (g ys (les (ltT t) ys p)) (g ys p)=false:=by
     cases q:ltT t (g ys (les (ltT t) ys p)) (g ys p) with
     | false=>rfl
     | true=>have c4:=(show (!ltT t (g ys (les (ltT t) ys p)) (g ys p))=true from c3);rw [q] at c4;cases c4
    refine ⟨_,rfl,?_⟩
    obtain ⟨f,rfl⟩:∃ f0,f=f0+1:=⟨f-1,by lia⟩
    rw [eU (by lia) q3,kidsE] at hd
    have:=k H2
    rw [<-hd] at this
    have ez:((lk:Int)+1+1)=((lk+2:Nat):Int):=by lia
    show Q (.int ((lk:Int)+1+1)) H2
    rw [ez]
    exact this h2 f2
   .have q3:ltT t (g ys (les (ltT t) ys p)) (g ys p)=true:=by
     cases q:ltT t (g ys (les (ltT t) ys p)) (g ys p) with
     | true=>rfl
     | false=>exact absurd (show (!ltT t (g ys (les (ltT t) ys p)) (g ys p))=true by rw [q];rfl) c3
    obtain ⟨f,rfl⟩:∃ f0,f=f0+1:=⟨f-1,by lia⟩
    rw [jU (by lia) q3,kidsE] at hd
    refine ⟨_,rfl,_,rfl,r,_,_,_,rfl,rfl,SqL.of h2,t2,_,rfl,_,rfl,r,_,_,_,rfl,rfl,SqL.of h2,t1,by show 2<=sizeLine;decide,fun p2 hp=>?_⟩
    have hrp:r≠p2:=am h2 hp
    refine ⟨p2,_,rfl,SqT.of ae,rfl,_,_,rfl,_,rfl,_,rfl,r,ys,_,_,rfl,rfl,by rw [ak hrp];exact h2,b7 (by lia) (by rw [hB];lia),_,_,rfl,_,rfl,_,rfl,r,_,_,_,rfl,rfl,ae,b7 (by lia) (by rw [List.length_set];lia),rfl,?_⟩
    have esw:(ys.set (2*(p:Int)+1+(if bT (t (g ys (2*p+2))) (t (g ys (2*p+1)))=true then 1 else 0)).toNat (.ref b2)).set (p:Int).toNat (.ref b1)=sw ys p (les (ltT t) ys p):=by
     unfold sw
     rw [e1,e2,hB,Int.toNat_natCast,Int.toNat_natCast]
     exact List.set_comm _ _ (by lia)
    rw [eu,esw]
    refine ⟨_,rfl,ys.length-les (ltT t) ys p,by lia,f,les (ltT t) ys p,lk+2,some (.int (2*(p:Int)+1+(if bT (t (g ys (2*p+2))) (t (g ys (2*p+1)))=true then 1 else 0))),sw ys p (les (ltT t) ys p),?_,hd,by rw [aW];lia,ae,by rw [aW];exact l2,fun y hy=>s2 y (dZ (by lia) hles y hy),?_,by rw [aW]⟩
    .have ez:((lk:Int)+1+1)=((lk+2:Nat):Int):=by lia
     show [some (V.ref r),some (V.int (2*(p:Int)+1+(if bT (t (g ys (2*p+2))) (t (g ys (2*p+1)))=true then 1 else 0))),some (V.int ((lk:Int)+1+1)),some (V.int (2*(p:Int)+1+(if bT (t (g ys (2*p+2))) (t (g ys (2*p+1)))=true then 1 else 0)))]=_
     rw [ez,hB]
    .intro b o e nb
     rw [ak nb]
     have q:=f2 b o e nb
     rw [ak (am q hp)];exact q
  .have c2':¬ 2*(p:Int)+1+1<(ys.length:Int):=by simpa using c2
   have hB:2*(p:Int)+1=((les (ltT t) ys p:Nat):Int):=by rw [mJ (by lia)];lia
   have kidsE:kids ys.length p=1:=by unfold kids;rw [if_neg (by lia),if_pos (by lia)]
   have hles:les (ltT t) ys p<ys.length:=cJ (by lia)
   have lo:=dP (lt:=ltT t) (xs:=ys) (p:=p)
   refine ⟨_,rfl,_,_,rfl,rfl,?_⟩
   obtain ⟨b1,e1,g1,m1,t1⟩:=en2.gat hles
   obtain ⟨b2,e2,g2,m2,t2⟩:=en2.gat (show p<ys.length by lia)
   rw [e1] at t1
   rw [e2] at t2
   rw [<-hB] at t1
   refine ⟨_,rfl,_,rfl,r,_,_,_,rfl,rfl,SqL.of h2,t1,_,rfl,_,rfl,r,_,_,_,rfl,rfl,SqL.of h2,t2,b1,b2,_,_,rfl,rfl,SqT.of g1,SqT.of g2,en2.fit _ _,_,rfl,aI (fun c3=>?_) (fun c3=>?_)⟩
   .have q3:ltT t (g ys (les (ltT t) ys p)) (g ys p)=false:=by
     cases q:ltT t (g ys (les (ltT t) ys p)) (g ys p) with
     | false=>rfl
     | true=>have c4:=(show (!ltT t (g ys (les (ltT t) ys p)) (g ys p))=true from c3);rw [q] at c4;cases c4
    refine ⟨_,rfl,?_⟩
    obtain ⟨f,rfl⟩:∃ f0,f=f0+1:=⟨f-1,by lia⟩
    rw [eU (by lia) q3,kidsE] at hd
    have:=k H2
    rw [<-hd] at this
    have ez:((lk:Int)+1)=((lk+1:Nat):Int):=by lia
    show Q (.int ((lk:Int)+1)) H2
    rw [ez]
    exact this h2 f2
   .have q3:ltT t (g ys (les (ltT t) ys p)) (g ys p)=true:=by
     cases q:ltT t (g ys (les (ltT t) ys p)) (g ys p) with
     | true=>rfl
     | false=>exact absurd (show (!ltT t (g ys (les (ltT t) ys p)) (g ys p))=true by rw [q];rfl) c3
    obtain ⟨f,rfl⟩:∃ f0,f=f0+1:=⟨f-1,by lia⟩
    rw [jU (by lia) q3,kidsE] at hd
    refine ⟨_,rfl,_,rfl,r,_,_,_,rfl,rfl,SqL.of h2,t2,_,rfl,_,rfl,r,_,_,_,rfl,rfl,SqL.of h2,t1,by show 2<=sizeLine;decide,fun p2 hp=>?_⟩
    have hrp:r≠p2:=am h2 hp
    refine ⟨p2,_,rfl,SqT.of ae,rfl,_,_,rfl,_,rfl,_,rfl,r,ys,_,_,rfl,rfl,by rw [ak hrp];exact h2,b7 (by lia) (by rw [hB];lia),_,_,rfl,_,rfl,_,rfl,r,_,_,_,rfl,rfl,ae,b7 (by lia) (by rw [List.length_set];lia),rfl,?_⟩
    have esw:(ys.set (2*(p:Int)+1).toNat (.ref b2)).set (p:Int).toNat (.ref b1)=sw ys p (les (ltT t) ys p):=by
     unfold sw
     rw [e1,e2,hB,Int.toNat_natCast,Int.toNat_natCast]
     exact List.set_comm _ _ (by lia)
    rw [eu,esw]
    refine ⟨_,rfl,ys.length-les (ltT t) ys p,by lia,f,les (ltT t) ys p,lk+1,some (.int (2*(p:Int)+1)),sw ys p (les (ltT t) ys p),?_,hd,by rw [aW];lia,ae,by rw [aW];exact l2,fun y hy=>s2 y (dZ (by lia) hles y hy),?_,by rw [aW]⟩
    .have ez:((lk:Int)+1)=((lk+1:Nat):Int):=by lia
     show [some (V.ref r),some (V.int (2*(p:Int)+1)),some (V.int ((lk:Int)+1)),some (V.int (2*(p:Int)+1))]=_
     rw [ez,hB]
    .intro b o e nb
     rw [ak nb]
     have q:=f2 b o e nb
     rw [ak (am q hp)];exact q
abbrev dt:Stmt:=top 23
theorem km:FnScope ["row","k","looks","up"] ["row"] (ai dt):=fsc fun nd=>⟨rfl,rfl,rfl,nd,rfl,by decide +kernel,by decide +kernel⟩
def jQ:Sp:=fun vs H Q _=>∃ (r:Addr) (xs:List V) (es:List En),vs=[.ref r]/\H r=some (.lst xs)/\RR H xs es/\0<es.length/\es.length<=1000 /\
 ∀ys H',H' r=some (.lst ys)->RR H' ys (Hg.up lE (es.length-1) es (es.length-1) 0).1->Kept [r] H H'->Q (.int (Hg.up lE (es.length-1) es (es.length-1) 0).2) H'
theorem pG {f:Addr}{fd:FuncData}(F:Fun K "_law_raised" "_law_raised" dt f fd)(T:Bl mg):aw P w K mg base CX0 1 f fd ["row"] jQ:=by
 have sc:=km
 refine F.ok km (fun vs H Q E h=>?_) (fun cdv A outer s H vs Q E hr h=>?_)
 .obtain ⟨r,xs,es,rfl,_⟩:=h
  rfl
 .obtain ⟨r,xs,es,rfl,hx,rr,h0,hl,k⟩:=h
  have hu:=hr.units0
  have lx:=rr.len
  have em:=kO (H:=H) (f:=xs.length-1) (xs:=xs) (p:=xs.length-1) (lk:=0)
  rw [rr.eq] at em
  obtain ⟨t,et⟩:∃ t,t=bz H:=⟨_,rfl⟩
  rw [<-et] at em
  have nt5:∀H',Kept [r] H H'->∀b zs,H b=some (.tup zs)->H' b=some (.tup zs):=fun H' kk=>kk.tups (fun b hb zs z=>by rw [List.mem_singleton.mp hb,hx] at z;cases z)
  have fin:∀H',H' r=some (.lst (up (ltT t) (xs.length-1) xs (xs.length-1) 0).1)->Kept [r] H H'->Q (.int (up (ltT t) (xs.length-1) xs (xs.length-1) 0).2) H':=fun H' h1 kk=>by
   have e2:(up (ltT t) (xs.length-1) xs (xs.length-1) 0).2=(Hg.up lE (es.length-1) es (es.length-1) 0).2:=by rw [<-lx,em]
   rw [e2]
   refine k _ H' h1 ?_ kk
   rw [<-lx,em]
   have r2:=rr.sub (ys:=(up (ltT t) (xs.length-1) xs (xs.length-1) 0).1) fun y hy=>(dk (by lia)).mem_iff.mp hy
   exact r2.stay (nt5 H' kk)
  refine ⟨_,(QSs.to (af (aq (i:=1) sc.nd rfl (Or.inl rfl) (ay bM (aG aL (by rfl) T.z_len (by decide +kernel) (ad (qv 0) aj)) ag))
   (af (aq (i:=2) sc.nd rfl (Or.inl rfl) ag)
   (af (cu PassesOwn.never (aD gp (qv 1) ag (aH _)) (af (aq (i:=2) sc.nd rfl (Or.inl rfl) (ay aM (qv 2) ag))
   (af (aq (i:=3) sc.nd rfl (Or.inl rfl) (ay bJ (ay bM (qv 1) ag) ag))
   (af (aX (cM (aD (fG hu) (az aE (qv 0) (qv 1) (fun _ _=>rfl)) (az aE (qv 0) (qv 3) (fun _ _=>rfl)) (aH _))) (ao (aF (qv 2))) aK)
   (af (bA (a9 (ad (az aE (qv 0) (qv 3) (fun _ _=>rfl)) (ad (az aE (qv 0) (qv 1) (fun _ _=>rfl)) aj))) (qO rfl (be (bF (qv 0) (qv 1) bg) (be (bF (qv 0) (qv 3) bg) eW))))
   (ao (aq (i:=1) sc.nd rfl (Or.inl rfl) (qv 3))))))))
   (ao (aF (qv 2))))))),?_⟩
  refine ⟨_,rfl,r,_,rfl,.inl (SqL.of hx),_,_,rfl,rfl,?_⟩
  have ea0:(xs.length:Int)-1=((xs.length-1:Nat):Int):=by lia
  refine ⟨fun m σ H2=>∃ (f p lk:Nat) (ys:List V) (ou:Option V),σ=[some (.ref r),some (.int p),some (.int lk),ou]/\up (ltT t) f ys p lk=up (ltT t) (xs.length-1) xs (xs.length-1) 0/\p<=f/\p<ys.length/\H2 r=some (.lst ys)/\ys.length=xs.length/\(∀y∈ys,y∈xs)/\Kept [r] H H2/\m=p,
   ⟨_,xs.length-1,xs.length-1,0,xs,none,(by show [some (V.ref r),some (V.int ((xs.length:Int)-1)),some (V.int 0),none]=_;rw [ea0];rfl),rfl,Nat.le_refl _,by lia,hx,rfl,fun y h=>h,Kept.refl,rfl⟩,?_⟩
  rintro p σ H2 ⟨f,p',lk,ys,ou,rfl,hdd,hf,hp,h2,l2,s2,kk2,rfl⟩
  have en2:EnR t H2 ys:=by
   refine ⟨by rw [et];exact dm H,fun y hy=>?_⟩
   obtain ⟨a,e1,e2⟩:=rr.en.mem y (s2 y hy)
   rw [<-et] at e2
   exact ⟨a,e1,nt5 H2 kk2 _ _ e2⟩
  refine ⟨_,rfl,_,_,rfl,rfl,_,rfl,aI (fun c1=>?_) (fun c1=>?_)⟩
  rotate_left
  .have c1':¬ (p:Int)>0:=by simpa using c1
   rw [nO (by lia)] at hdd
   have:=fin H2
   rw [<-hdd] at this
   exact ⟨_,rfl,this h2 kk2⟩
  have c1':(p:Int)>0:=by simpa using c1
  obtain ⟨f,rfl⟩:∃ f0,f=f0+1:=⟨f-1,by lia⟩
  have hq':(p-1) / 2<ys.length:=by lia
  have ea:((p:Int)-1) / 2=(((p-1) / 2:Nat):Int):=by lia
  obtain ⟨b1,e1,g1,m1,t1⟩:=en2.gat hp
  obtain ⟨b2,e2,g2,m2,t2⟩:=en2.gat hq'
  rw [e1] at t1
  rw [e2,<-ea] at t2
  refine ⟨fun σ H2=>∃ m',m'<p/\∃ (f p lk:Nat) (ys:List V) (ou:Option V),σ=[some (.ref r),some (.int p),some (.int lk),ou]/\up (ltT t) f ys p lk=up (ltT t) (xs.length-1) xs (xs.length-1) 0/\p<=f/\p<ys.length/\H2 r=some (.lst ys)/\ys.length=xs.length/\(∀y∈ys,y∈xs)/\Kept [r] H H2/\m'=p,fun σ' H' z=>z,?_⟩
  refine ⟨_,rfl,_,_,rfl,rfl,?_⟩
  refine ⟨_,rfl,_,_,rfl,rfl,_,_,rfl,rfl,⟨by decide,by decide⟩,?_⟩
  refine ⟨_,rfl,_,rfl,r,_,_,_,rfl,rfl,SqL.of h2,t1,_,rfl,_,rfl,r,_,_,_,rfl,rfl,SqL.of h2,t2,b1,b2,_,_,rfl,rfl,SqT.of g1,SqT.of g2,en2.fit _ _,_,rfl,aI (fun c3=>?_) (fun c3=>?_)⟩
  .have q3:ltT t (g ys p) (g ys ((p-1) / 2))=false:=by
    cases q:ltT t (g ys p) (g ys ((p-1) / 2)) with
    | false=>rfl
    | true=>have c4:=(show (!ltT t (g ys p) (g ys ((p-1) / 2)))=true from c3);rw [q] at c4;cases c4
   rw [mT (by lia) q3] at hdd
   have:=fin H2
   rw [<-hdd] at this
   exact ⟨_,rfl,this h2 kk2⟩
  .have q3:ltT t (g ys p) (g ys ((p-1) / 2))=true:=by
    cases q:ltT t (g ys p) (g ys ((p-1) / 2)) with
    | true=>rfl
    | false=>exact absurd (show (!ltT t (g ys p) (g ys ((p-1) / 2)))=true by rw [q];rfl) c3
   rw [vi (by lia) q3] at hdd
   refine ⟨_,rfl,_,rfl,r,_,_,_,rfl,rfl,SqL.of h2,t2,_,rfl,_,rfl,r,_,_,_,rfl,rfl,SqL.of h2,t1,by show 2<=sizeLine;decide,fun p2 hp2=>?_⟩
   have hrp:r≠p2:=am h2 hp2
   refine ⟨p2,_,rfl,SqT.of ae,rfl,_,_,rfl,_,rfl,_,rfl,r,ys,_,_,rfl,rfl,by rw [ak hrp];exact h2,b7 (by lia) (by lia),_,_,rfl,_,rfl,_,rfl,r,_,_,_,rfl,rfl,ae,b7 (by lia) (by rw [List.length_set,ea];lia),rfl,?_⟩
   have esw:(ys.set (p:Int).toNat (.ref b2)).set (((p:Int)-1) / 2).toNat (.ref b1)=sw ys p ((p-1) / 2):=by
    unfold sw
    rw [e1,e2,ea]
    rfl
   rw [eu,esw]
   refine ⟨_,rfl,(p-1) / 2,by lia,f,(p-1) / 2,lk+1,sw ys p ((p-1) / 2),some (.int (((p:Int)-1) / 2)),?_,hdd,by lia,by rw [aW];exact hq',ae,by rw [aW];exact l2,fun y hy=>s2 y (dZ hp hq' y hy),?_,rfl⟩
   .show [some (V.ref r),some (V.int (((p:Int)-1) / 2)),some (V.int ((lk:Int)+1)),some (V.int (((p:Int)-1) / 2))]=_
    rw [ea]
    rfl
   .exact (kk2.new hp2).put (by simp)
abbrev pF:Stmt:=top 25
theorem vU:FnScope ["row","last"] ["row"] (ai pF):=fsc fun nd=>⟨rfl,rfl,rfl,nd,rfl,by decide +kernel,by decide +kernel⟩
def vg:Sp:=fun vs H Q _=>∃ (r:Addr) (xs:List V) (es:List En),vs=[.ref r]/\H r=some (.lst xs)/\RR H xs es/\0<es.length/\es.length<=1000 /\
 ∀ys H',H' r=some (.lst ys)->RR H' ys (Hg.cutf lE es).1->Kept [r] H H'->Q (.int (Hg.cutf lE es).2) H'
theorem wa {f fn:Addr}{fd fdn:FuncData}(F:Fun K "_law_off" "_law_off" pF f fd)(T:Bl mg)(G_law_let_down:aw P w K mg base CX0 1 fn fdn ["row","k"] lv)(D_law_let_down:Nm K mg "_law_let_down" fn fdn ["row","k"]):aw P w K mg base CX0 2 f fd ["row"] vg:=by
 have sc:=vU
 refine F.ok vU (fun vs H Q E h=>?_) (fun cdv A outer s H vs Q E hr h=>?_)
 .obtain ⟨r,xs,es,rfl,_⟩:=h
  rfl
 .obtain ⟨r,xs,es,rfl,hx,rr,h0,hl,k⟩:=h
  have hu:=hr.units0
  have lx:=rr.len
  have eg:xs[xs.length-1]?=some (g xs (xs.length-1)):=by rw [g_get (by lia)];exact List.getElem?_eq_getElem _
  have mg':g xs (xs.length-1)∈xs:=List.mem_of_getElem? eg
  have ld:xs.dropLast.length=xs.length-1:=List.length_dropLast
  have em:=mS (H:=H) (xs:=xs)
  rw [rr.eq] at em
  have r2:=rr.sub (ys:=(cutf (ltT (bz H)) xs).1) fun y hy=>(cq (by rw [rr.len];exact h0)).mem_iff.mp (List.mem_cons_of_mem _ hy)
  have fin:∀H',H' r=some (.lst (cutf (ltT (bz H)) xs).1)->Kept [r] H H'->Q (.int (cutf (ltT (bz H)) xs).2) H':=fun H' h1 kk=>by
   have tk:=kk.tups (fun b hb zs z=>by rw [List.mem_singleton.mp hb,hx] at z;cases z)
   have e2:(cutf (ltT (bz H)) xs).2=(Hg.cutf lE es).2:=by rw [em]
   rw [e2]
   exact k _ H' h1 (by rw [em];exact r2.stay tk) kk
  refine ⟨_,(QSs.to (af (aq (i:=1) sc.nd rfl (Or.inl rfl) (qd PySem.F.plainAttrs_list PySem.F.slot_list_pop PySem.F.type_list_pop pL (qv 0)))
   (af (aX (aD (gT hu) (qv 0) (bd aj) (aH _)) (ao (aF ag)) aK)
   (af (bA (qv 1) (bF (qv 0) ag bg))
   (ao (aF (au G_law_let_down (hr.mono (by decide)) rfl D_law_let_down.m D_law_let_down.k D_law_let_down.b .nil aB (ad (qv 0) (ad ag aj))))))))),?_⟩
  refine ⟨_,rfl,.inl ⟨rfl,_,SqL.of hx⟩,r,xs,_,rfl,rfl,hx,eg,?_⟩
  refine ⟨_,rfl,by show 0<=sizeLine;decide,fun q hq=>?_⟩
  have nrq:r≠q:=am (ae (H:=H) (a:=r) (o:=.lst xs.dropLast)) hq
  have hq0:H q=none:=by rw [<-ak nrq.symm (H:=H) (o:=.lst xs.dropLast)];exact hq
  have hxd:(upd (upd H r (.lst xs.dropLast)) q (.lst [])) r=some (.lst xs.dropLast):=by rw [ak nrq];exact ae
  have kk0:Kept [r] H (upd (upd H r (.lst xs.dropLast)) q (.lst [])):=((Kept.refl.put (by simp)).newer hq0)
  have tk0:∀b zs,H b=some (.tup zs)->(upd (upd H r (.lst xs.dropLast)) q (.lst [])) b=some (.tup zs):=fun b zs z=>by
   rw [ak (am z hq0),ak (bx z hx (by intro y;cases y))];exact z
  have hqd:(upd (upd H r (.lst xs.dropLast)) q (.lst [])) q=some (.lst []):=ae
  generalize upd (upd H r (.lst xs.dropLast)) q (.lst [])=H2 at hxd kk0 tk0 hqd
  refine ⟨r,q,xs.dropLast,rfl,rfl,SqL.of hxd,SqL.of hqd,_,rfl,aI (fun c1=>?_) (fun c1=>?_)⟩
  .have c1':xs.dropLast=[]:=of_decide_eq_true c1
   have ec:cutf (ltT (bz H)) xs=([],0):=cr (by have:xs.dropLast.length=0:=(by rw [c1'];rfl);lia)
   have:=fin H2 (by rw [ec,hxd,c1']) kk0
   rw [ec] at this
   exact this
  .have c1':xs.dropLast≠[]:=fun z=>c1 (decide_eq_true z)
   have c2:xs.dropLast.length≠0:=fun z=>c1' (List.length_eq_zero_iff.mp z)
   have l2:(xs.dropLast.set 0 (g xs (xs.length-1))).length=xs.dropLast.length:=List.length_set
   have ec:cutf (ltT (bz H)) xs=dn (ltT (bz H)) xs.dropLast.length (xs.dropLast.set 0 (g xs (xs.length-1))) 0 0:=by
    unfold cutf
    rw [if_neg c1']
   refine ⟨_,rfl,_,rfl,r,xs.dropLast,_,0,rfl,rfl,hxd,b7 (by lia) (by lia),?_⟩
   have en2:EnR (bz H) (upd H2 r (.lst (xs.dropLast.set 0 (g xs (xs.length-1))))) (xs.dropLast.set 0 (g xs (xs.length-1))):=by
    refine EnR.put ⟨dm H,fun x hx2=>?_⟩ hxd
    have hm:x∈xs:=by
     rcases List.mem_or_eq_of_mem_set hx2 with z | z
     .exact (List.dropLast_sublist xs).mem z
     .rw [z];exact mg'
    obtain ⟨a,e1,e2⟩:=rr.en.mem x hm
    exact ⟨a,e1,tk0 _ _ e2⟩
   refine ⟨_,rfl,r,_,0,bz H,rfl,ae,en2,by lia,fun H' h' f'=>?_⟩
   rw [l2,<-ec] at h'
   rw [l2,<-ec]
   refine fin _ h' ?_
   intro b o e hb
   refine f' b o ?_ fun z=>hb (by rw [z];simp)
   rw [ak fun z=>hb (by rw [z];simp)]
   exact kk0 b o e hb
end
end Kx
end
section
namespace Kx
open PySem L2
section
variable {P:Program}{w:World}{K:PySem.W.Frag}{mg:Str->Option Value}{base:Heap}
open Hm
abbrev oJ:Stmt:=top 26
theorem vm:FnScope ["slack"] ["slack"] (ai oJ):=fsc fun nd=>⟨rfl,rfl,rfl,nd,rfl,by decide +kernel,by decide +kernel⟩
def vS:Sp:=fun vs H Q _=>∃ (z:Int),vs=[.int z]/\∀st r td H',H st=none->H r=none->H td=none->StAt H' st r td (Gm.newL z) 0->Same H H'->Q (.ref st) H'
theorem wT {f:Addr}{fd:FuncData}(F:Fun K "_law_new" "_law_new" oJ f fd)(T:Bl mg):aw P w K mg base CX0 1 f fd ["slack"] vS:=by
 have sc:=vm
 refine F.ok vm (fun vs H Q E h=>?_) (fun cdv A outer s H vs Q E hr h=>?_)
 .obtain ⟨z,rfl,_⟩:=h
  rfl
 .obtain ⟨z,rfl,k⟩:=h
  have hu:=hr.units0
  refine ⟨_,(QSs.to (ao (aF (rq ar (qv 0) ar (bd aj) ar cS ar ag ar ag)))),?_⟩
  refine fun st hst=>?_
  have s1:=ap (o:=.dK []) hst
  have g1:=ae (H:=H) (a:=st) (o:=.dK [])
  generalize upd H st (.dK [])=H1 at s1 g1 ⊢
  refine ⟨_,rfl,by show 0<=sizeLine;decide,fun r hr1=>?_⟩
  have s2:=ap (o:=.lst []) hr1
  have g2:=ae (H:=H1) (a:=r) (o:=.lst [])
  generalize upd H1 r (.lst [])=H2 at s2 g2 ⊢
  refine fun td htd=>?_
  have s3:=ap (o:=.dK []) htd
  have g3:=ae (H:=H2) (a:=td) (o:=.dK [])
  generalize upd H2 td (.dK [])=H3 at s3 g3 ⊢
  have n1:st≠r:=am g1 hr1
  have n2:st≠td:=am (s2 _ _ g1) htd
  have n3:r≠td:=am g2 htd
  refine ⟨s3 _ _ (s2 _ _ g1),[(Sum.inr "slack",.int z),(Sum.inr "row",.ref r),(Sum.inr "there",.ref td),(Sum.inr "next",.int 0),(Sum.inr "work",.int 0)],rfl,by show 5<=15;decide,?_⟩
  rw [ql]
  have old:∀{b:Addr} {X Y:Hp},Same X Y->Y b=none->X b=none:=fun {b X Y} sm h=>by
   cases e:X b with
   | none=>rfl
   | some o=>rw [sm b o e] at h;cases h
  refine k st r td _ hst (old s1 hr1) (old (s1.trans s2) htd) ⟨ae,⟨[],by rw [ak n1.symm];exact s3 _ _ g2,RR.nil⟩,⟨[],by rw [ak n2.symm];exact g3,KP.nil⟩,n2⟩ fun b o e=>?_
  rw [ak (am e hst)]
  exact s3 _ _ (s2 _ _ (s1 _ _ e))
abbrev b9:Stmt:=top 27
theorem iU:FnScope ["state","entry"] ["state","entry"] (ai b9):=fsc fun nd=>⟨rfl,rfl,rfl,nd,rfl,by decide +kernel,by decide +kernel⟩
def fE:Sp:=fun vs H Q _=>∃ (st r td a:Addr) (s:LS) (wk:Nat) (e:En),vs=[.ref st,.ref a]/\StAt H st r td s wk/\H a=some (.tup (enV e))/\(∀n x,(n,x)∈s.there->x.n=n)/\∀H',Same H H'->Q (.bl (Gm.holds s.there e)) H'
theorem kX {f:Addr}{fd:FuncData}(F:Fun K "_law_is_there" "_law_is_there" b9 f fd)(T:Bl mg):aw P w K mg base CX0 1 f fd ["state","entry"] fE:=by
 have sc:=iU
 refine F.ok iU (fun vs H Q E h=>?_) (fun cdv A outer s H vs Q E hr h=>?_)
 .obtain ⟨st,r,td,a,s,wk,e,rfl,_⟩:=h
  rfl
 .obtain ⟨st,r,td,a,s,wk,e,rfl,O,ha,nm,k⟩:=h
  have hu:=hr.units0
  obtain ⟨ks,hd,kr⟩:=O.ht
  refine ⟨_,(QSs.to (ao (aF (bY (tM hu) (jK (aT hr) (aP (aT hr) (qv 0) ar (fun _ _=>rfl)) (az aQ (qv 1) ag (fun _ _=>rfl)) ⟨rfl,rfl,rfl,rfl⟩) (a9 (ad (az aQ (qv 1) ag (fun _ _=>rfl)) (ad (az aQ (qv 1) ag (fun _ _=>rfl)) aj))) (aH _))))),?_⟩
  refine ⟨_,rfl,st,_,rfl,O.there,td,rfl,.inl ⟨ks,.inl hd⟩,_,rfl,a,_,_,_,rfl,rfl,SqT.of ha,rfl,_,DGet.k (k:=Sum.inr e.n) hd,?_⟩
  have fin:Gm.holds s.there e=decide (Gm.dget s.there e.n=some e):=rfl
  refine ⟨_,rfl,a,_,_,_,rfl,rfl,SqT.of ha,rfl,_,rfl,a,_,_,_,rfl,rfl,SqT.of ha,rfl,by show 2<=sizeLine;decide,fun t ht=>?_⟩
  have s1:=ap (o:=.tup [.int e.w,.int e.s]) ht
  have g1:=ae (H:=H) (a:=t) (o:=.tup [.int e.w,.int e.s])
  generalize upd H t (.tup [.int e.w,.int e.s])=H1 at s1 g1 ⊢
  refine ⟨t,e.w,e.s,rfl,SqT.of g1,?_⟩
  rcases kr.get e.n with ⟨e1,e2⟩ | ⟨b,x,e1,e2,hb⟩
  .rw [e1]
   have h0:Gm.holds s.there e=false:=by rw [fin,e2];exact decide_eq_false (fun z=>nomatch z)
   have:=k H1 s1
   rw [h0] at this
   exact .inl ⟨rfl,this⟩
  .rw [e1]
   refine .inr ⟨b,x.w,x.s,rfl,SqT.of (s1 _ _ hb),?_⟩
   have xn:=nm _ _ (Gm.dget_some e2)
   have h0:Gm.holds s.there e=decide (x.w=e.w/\x.s=e.s):=by
    rw [fin,e2,Bool.eq_iff_iff,decide_eq_true_eq,decide_eq_true_eq]
    constructor
    .intro z
     cases Option.some.inj z
     exact ⟨rfl,rfl⟩
    .rintro ⟨z1,z2⟩
     congr 1
     obtain ⟨xw,xn',xs⟩:=x
     obtain ⟨ew,en',es⟩:=e
     cases z1;cases z2;cases xn
     rfl
   have:=k H1 s1
   rw [h0] at this
   exact this
abbrev fM:Stmt:=top 28
theorem mZ:FnScope ["state","name","worth"] ["state","name","worth"] (ai fM):=fsc fun nd=>⟨rfl,rfl,rfl,nd,rfl,by decide +kernel,by decide +kernel⟩
def mW:Sp:=fun vs H Q _=>∃ (st r td:Addr) (s:LS) (wk:Nat) (n:Str) (w:Int),vs=[.ref st,.str n,.int w]/\StAt H st r td s wk/\s.row.length<=900/\s.there.length<=900 /\
 ∀(lk:Nat) H',(Gm.enter slt s n w).looks=s.looks+lk->StAt H' st r td (Gm.enter slt s n w) wk->Kept [st,r,td] H H'->Q (.int lk) H'
theorem qF {f fr:Addr}{fd fdr:FuncData}(F:Fun K "_law_added" "_law_added" fM f fd)(T:Bl mg)(G_law_raised:aw P w K mg base CX0 1 fr fdr ["row"] jQ)(D_law_raised:Nm K mg "_law_raised" fr fdr ["row"]):aw P w K mg base CX0 2 f fd ["state","name","worth"] mW:=by
 have sc:=mZ
 refine F.ok mZ (fun vs H Q E h=>?_) (fun cdv A outer s H vs Q E hr h=>?_)
 .obtain ⟨st,r,td,s,wk,n,w,rfl,_⟩:=h
  rfl
 .obtain ⟨st,r,td,s,wk,n,w,rfl,O,h1,h2,k⟩:=h
  have hu:=hr.units0
  obtain ⟨ks,hd,kr⟩:=O.ht
  obtain ⟨xs,hx,rr⟩:=O.hr
  have lx:=rr.len
  have lk:=kr.len
  have nrd:r≠td:=bx hx hd (by intro z;cases z)
  have nrs:r≠st:=bx hx O.hs (by intro z;cases z)
  refine ⟨_,(QSs.to (af (aO (iL PySem.F.plainAttrs_list PySem.F.slot_list_append PySem.F.type_list_append bQ (aP (aT hr) (qv 0) ar (fun _ _=>rfl)) (ad (a9 (ad (qv 2) (ad (qv 1) (ad (aP (aT hr) (qv 0) ar (fun _ _=>rfl)) aj)))) aj)))
   (af (eK (aT hr) (aP (aT hr) (qv 0) ar (fun _ _=>rfl)) (qv 1) (a9 (ad (qv 2) (ad (aP (aT hr) (qv 0) ar (fun _ _=>rfl)) aj))) rfl)
   (af (eK (aT hr) (qv 0) ar (ay aM (aP (aT hr) (qv 0) ar (fun _ _=>rfl)) ag) rfl)
   (ao (aF (au G_law_raised (hr.mono (by decide)) rfl D_law_raised.m D_law_raised.k D_law_raised.b .nil aB (ad (aP (aT hr) (qv 0) ar (fun _ _=>rfl)) aj)))))))),?_⟩
  refine ⟨_,rfl,st,_,rfl,O.row,.inl ⟨rfl,xs,SqL.of hx⟩,_,rfl,_,rfl,_,rfl,st,_,rfl,O.next,by show 3<=sizeLine;decide,fun e he=>?_⟩
  have se:=ap (o:=.tup [.int w,.str n,.int s.stamp]) he
  have ge:(upd H e (.tup [.int w,.str n,.int s.stamp])) e=some (.tup (enV ⟨w,n,(s.stamp:Int)⟩)):=ae
  generalize upd H e (.tup [.int w,.str n,.int s.stamp])=H1 at se ge ⊢
  have O1:=O.same se
  have hx1:=se _ _ hx
  have rr1:=(rr.stay fun b l h=>se _ _ h).snoc ge
  refine ⟨r,xs,_,rfl,rfl,hx1,aS (by lia),?_⟩
  have k2:Kept [r] H1 (upd H1 r (.lst (xs++[.ref e]))):=Kept.refl.put (by simp)
  have t2:=O1.tk k2 fun b hb=>by rw [List.mem_singleton.mp hb];simp
  have O2:=O1.rowTo (H':=upd H1 r (.lst (xs++[.ref e]))) (lk:=s.looks) ae (rr1.stay t2) k2
  have g2:=ae (H:=H1) (a:=r) (o:=.lst (xs++[.ref e]))
  generalize upd H1 r (.lst (xs++[.ref e]))=H2 at k2 t2 O2 g2 ⊢
  have K2:Kept [st,r,td] H H2:=(Kept.of_same se).trans (k2.mono fun b hb=>by rw [List.mem_singleton.mp hb];simp)
  refine ⟨_,rfl,_,rfl,st,_,rfl,O2.next,by show 2<=sizeLine;decide,fun t ht=>?_⟩
  have s3:=ap (o:=.tup [.int w,.int s.stamp]) ht
  have g3:(upd H2 t (.tup [.int w,.int s.stamp])) t=some (.tup (psV ⟨w,n,(s.stamp:Int)⟩)):=ae
  generalize upd H2 t (.tup [.int w,.int s.stamp])=H3 at s3 g3 ⊢
  have O3:=O2.same s3
  obtain ⟨ks3,hd3,kr3⟩:=O3.ht
  have lk3:=kr3.len
  have lk3':ks3.length=s.there.length:=lk3
  refine ⟨_,rfl,st,_,rfl,O3.there,_,rfl,td,_,rfl,DPut.k (k:=Sum.inr n) hd3 (aS (by lia)),?_⟩
  have k4:Kept [td] H3 (upd H3 td (.dK (a7 ks3 (Sum.inr n) (.ref t)))):=Kept.refl.put (by simp)
  have t4:=O3.tk k4 fun b hb=>by rw [List.mem_singleton.mp hb];simp
  have O4:=O3.thereTo (H':=upd H3 td (.dK (a7 ks3 (Sum.inr n) (.ref t)))) ae ((kr3.stay t4).put (t4 _ _ g3)) k4
  generalize upd H3 td (.dK (a7 ks3 (Sum.inr n) (.ref t)))=H4 at k4 t4 O4 ⊢
  have K4:Kept [st,r,td] H H4:=(K2.trans (Kept.of_same s3)).trans (k4.mono fun b hb=>by rw [List.mem_singleton.mp hb];simp)
  obtain ⟨s4,e4⟩:∃ s4:LS,s4={ s with row:=s.row++[⟨w,n,(s.stamp:Int)⟩],there:=Gm.dput s.there n ⟨w,n,(s.stamp:Int)⟩ }:=⟨_,rfl⟩
  have O4':StAt H4 st r td s4 wk:=by rw [e4];exact O4
  refine ⟨_,rfl,st,_,rfl,O4'.next,_,_,rfl,rfl,_,rfl,st,_,rfl,DPut.k (k:=Sum.inr "next") O4'.hs (by show 5<sizeLine;decide),?_⟩
  have ep:a7 (stK r td s4 wk) (Sum.inr "next":Key) (.int ((s4.stamp:Int)+1))=stK r td { s4 with stamp:=s4.stamp+1 } wk:=sV rfl rfl
  have k5:Kept [st] H4 (upd H4 st (.dK (a7 (stK r td s4 wk) (Sum.inr "next") (.int ((s4.stamp:Int)+1))))):=Kept.refl.put (by simp)
  have O5:=O4'.dictTo (H':=upd H4 st (.dK (a7 (stK r td s4 wk) (Sum.inr "next") (.int ((s4.stamp:Int)+1))))) (s':={ s4 with stamp:=s4.stamp+1 }) (wk':=wk) (by rw [ae,ep]) rfl rfl k5
  generalize upd H4 st (.dK (a7 (stK r td s4 wk) (Sum.inr "next") (.int ((s4.stamp:Int)+1))))=H5 at k5 O5 ⊢
  have K5:Kept [st,r,td] H H5:=K4.trans (k5.mono fun b hb=>by rw [List.mem_singleton.mp hb];simp)
  obtain ⟨xs5,hx5,rr5⟩:=O5.hr
  have er:s4.row=s.row++[⟨w,n,(s.stamp:Int)⟩]:=by rw [e4]
  have el:s4.row.length-1=s.row.length:=by rw [er,List.length_append];rfl
  have el0:s4.row.length=s.row.length+1:=by rw [er,List.length_append];rfl
  refine ⟨_,rfl,st,_,rfl,O5.row,r,xs5,s4.row,rfl,hx5,rr5,by lia,by lia,fun ys H6 h6 rr6 k6=>?_⟩
  have O6:=O5.rowTo (lk:=(Gm.enter slt s n w).looks) h6 rr6 k6
  have es:({ ({ s4 with stamp:=s4.stamp+1 }:LS) with row:=(Hg.up lE (s4.row.length-1) s4.row (s4.row.length-1) 0).1,looks:=(Gm.enter slt s n w).looks }:LS)=Gm.enter slt s n w:=by
   rw [el,er,e4]
   rfl
  rw [es] at O6
  refine k _ H6 ?_ O6 (K5.trans (k6.mono fun b hb=>by rw [List.mem_singleton.mp hb];simp))
  rw [el,er]
  rfl
end
end Kx
end
section
namespace Kx
open PySem L2
section
variable {P:Program}{w:World}{K:PySem.W.Frag}{mg:Str->Option Value}{base:Heap}
open Hm
theorem jk {α:Type}{xs:List α}{f:α->Bool}{i:Nat}{x:α}(h:xs[i]?=some x):(xs.take (i+1)).filter f=(xs.take i).filter f++(if f x=true then [x] else []):=by
 rw [List.take_add_one,h,List.filter_append]
 congr 1
 show List.filter f [x]=_
 rw [List.filter_cons]
 rfl
abbrev cI:Stmt:=top 29
theorem ku:FnScope ["state","row","gone","looks","k"] ["state"] (ai cI):=fsc fun nd=>⟨rfl,rfl,rfl,nd,rfl,by decide +kernel,by decide +kernel⟩
def kH:Sp:=fun vs H Q _=>∃ (st r td:Addr) (s:LS) (wk:Nat),vs=[.ref st]/\StAt H st r td s wk/\(∀n x,(n,x)∈s.there->x.n=n)/\s.row.length<=1000 /\
 ∀(lk:Nat) (r':Addr) (H':Hp),(Gm.sweep slt s).looks=s.looks+lk->StAt H' st r' td (Gm.sweep slt s) wk->Kept [st,r,td] H H'->(r'=r∨H r'=none)->Q (.int lk) H'
theorem pv {f fg fh:Addr}{fd fdg fdh:FuncData}(F:Fun K "_law_swept" "_law_swept" cI f fd)(T:Bl mg)(G_law_is_there:aw P w K mg base CX0 1 fg fdg ["state","entry"] fE)(D_law_is_there:Nm K mg "_law_is_there" fg fdg ["state","entry"])
  (G_law_let_down:aw P w K mg base CX0 1 fh fdh ["row","k"] lv) (D_law_let_down:Nm K mg "_law_let_down" fh fdh ["row","k"]):aw P w K mg base CX0 2 f fd ["state"] kH:=by
 have sc:=ku
 refine F.ok ku (fun vs H Q E h=>?_) (fun cdv A outer s_ H vs Q E hr h=>?_)
 .obtain ⟨st,r,td,s,wk,rfl,_⟩:=h
  rfl
 .obtain ⟨st,r,td,s,wk,rfl,O,nm,hl,k⟩:=h
  have hu:=hr.units0
  obtain ⟨ks,hd,kr⟩:=O.ht
  obtain ⟨xs,hx,rr⟩:=O.hr
  have lx:=rr.len
  have lk':=kr.len
  refine ⟨_,(QSs.to (af (aq (i:=1) sc.nd rfl (Or.inl rfl) (aP (aT hr) (qv 0) ar (fun _ _=>rfl)))
   (af (aq (i:=2) sc.nd rfl (Or.inl rfl) (ay bM (aG aL (by rfl) T.z_len (by decide +kernel) (ad (qv 1) aj)) (aG bR (by rfl) T.z_len (by decide +kernel) (ad (aP (aT hr) (qv 0) ar (fun _ _=>rfl)) aj))))
   (af (aq (i:=3) sc.nd rfl (Or.inl rfl) ag)
   (af (aX (QW.pt (dR (aD gp (qv 2) (aG bR (by rfl) T.z_len (by decide +kernel) (ad (aP (aT hr) (qv 0) ar (fun _ _=>rfl)) aj)) (aH _)) (cP (aD gp (qv 2) (aP (aT hr) (qv 0) ar (fun _ _=>rfl)) (aH _))))) (af (eK (aT hr) (qv 0) ar (cy (Blk.of (N:=["state","row","gone","looks","k"]) (esc:=ai cI) (NB:=["state"]) (cap:=[0]) rfl rfl (fun y hy=>bv hy) rfl (by decide +kernel) (by decide +kernel) (by decide +kernel) rfl (by decide +kernel) rfl (by decide +kernel)) rfl rfl (fj (qv 1)) (fun C fp s₀ H₀=>(gz (cW (au G_law_is_there (hr.mono (by decide)) rfl D_law_is_there.m D_law_is_there.k D_law_is_there.b .nil aB (ad (qv 1) (ad (qv 0) aj)))))) (fun C fp s₀ H₀=>(qv 0))) rfl)
   (ao (dQ PassesOwn.never rfl (iO rfl T.z_range (ad (ay bM (ay bJ (aG aL (by rfl) T.z_len (by decide +kernel) (ad (aP (aT hr) (qv 0) ar (fun _ _=>rfl)) aj)) ag) ag) (ad (ny i9 ag) (ad (ny i9 ag) aj)))) (bf (i:=4) sc.nd rfl (Or.inl rfl)) (ao (aq (i:=3) sc.nd rfl (Or.inl rfl) (ay aM (qv 3) (au G_law_let_down (hr.mono (by decide)) rfl D_law_let_down.m D_law_let_down.k D_law_let_down.b .nil aB (ad (aP (aT hr) (qv 0) ar (fun _ _=>rfl)) (ad (qv 4) aj))))))))) aK)
   (ao (aF (qv 3)))))))),?_⟩
  refine ⟨_,rfl,st,_,rfl,O.row,?_⟩
  refine ⟨_,rfl,r,_,rfl,.inl (SqL.of hx),_,rfl,st,_,rfl,O.there,td,ks,rfl,hd,_,_,rfl,rfl,?_⟩
  have hdue:Gm.due s=(decide ((xs.length:Int)-(ks.length:Int)>(ks.length:Int))&&decide ((xs.length:Int)-(ks.length:Int)>s.slack)):=by
   unfold Gm.due
   rw [lx,lk']
  have no:¬ Gm.due s=true->Q (.int ((0:Nat):Int)) H:=fun hn=>by
   have e:Gm.sweep slt s=s:=by unfold Gm.sweep;rw [if_neg hn]
   exact k 0 r H (by rw [e];rfl) (by rw [e];exact O) Kept.refl (.inl rfl)
  refine ⟨_,rfl,_,rfl,st,_,rfl,O.there,td,ks,rfl,hd,_,_,rfl,rfl,_,rfl,aI (fun c1=>?_) (fun c1=>?_)⟩
  rotate_left
  .refine eZ ⟨_,rfl,no fun z=>?_⟩
   rw [hdue,Bool.and_eq_true] at z
   exact c1 z.1
  refine ⟨_,rfl,_,rfl,st,_,rfl,O.slack,_,_,rfl,rfl,_,rfl,aI (fun c2=>?_) (fun c2=>?_)⟩
  rotate_left
  .refine ⟨_,rfl,no fun z=>?_⟩
   rw [hdue,Bool.and_eq_true] at z
   exact c2 z.2
  have hdu:Gm.due s=true:=by
   rw [hdue,Bool.and_eq_true]
   exact ⟨c1,c2⟩
  refine ⟨_,rfl,r,rfl,⟨_,SqL.of hx⟩,fun D hD=>?_⟩
  refine cK (K:=K) (a:=r) (xs:=xs) (fun i ys H4=>H4 D=some (.lst ys)/\ys=(xs.take i).filter (fun x=>Gm.holds s.there (tE H x))/\Same H H4) ⟨ae,rfl,ap hD⟩ (fun i ys H4 z=>⟨z.1,SqL.of (z.2.2 _ _ hx)⟩) ?_ ?_
  .rintro i x ys H4 hi ⟨h4,e4,s4⟩
   have mx:=List.mem_of_getElem? hi
   have li:i<xs.length:=(List.getElem?_eq_some_iff.mp hi).1
   obtain ⟨a,rfl,ha⟩:=rr.mem x mx
   have ft:=jk (f:=fun x=>Gm.holds s.there (tE H x)) hi
   have ly:ys.length<=xs.length:=by rw [e4];exact Nat.le_trans (List.length_filter_le _ _) (List.length_take_le' _ _)
   refine ⟨_,rfl,_,rfl,st,r,td,a,s,wk,tE H (.ref a),rfl,O.same s4,s4 _ _ ha,nm,fun H5 s5=>⟨_,rfl,aI (fun c3=>⟨_,rfl,s5 _ _ h4,aS (by lia),_,by lia,rfl,by lia,ae,?_,gO (s4.trans s5) hD⟩) (fun c3=>⟨_,by lia,rfl,by lia,s5 _ _ h4,?_,s4.trans s5⟩)⟩⟩
   .rw [ft,if_pos c3,e4]
   .rw [ft,if_neg c3,List.append_nil,e4]
  rintro ys H4 ⟨h4,e4,s4⟩
  rw [List.take_length] at e4
  have ly:ys.length<=xs.length:=by rw [e4];exact List.length_filter_le _ _
  have r4:RR H4 ys (s.row.filter (Gm.holds s.there)):=by
   have r0:=(rr.sub (ys:=ys) fun y hy=>by rw [e4] at hy;exact (List.mem_filter.mp hy).1).stay fun b l h=>s4 _ _ h
   have em:ys.map (tE H)=s.row.filter (Gm.holds s.there):=by
    rw [e4,<-rr.eq,List.filter_map]
    rfl
   rw [em] at r0
   exact r0
  refine ⟨_,rfl,st,_,rfl,DPut.k (k:=Sum.inr "row") (s4 _ _ O.hs) (by show 5<sizeLine;decide),?_⟩
  obtain ⟨s1,e1⟩:∃ s1:LS,s1={ s with row:=s.row.filter (Gm.holds s.there) }:=⟨_,rfl⟩
  have et1:s1.there=s.there:=by rw [e1]
  have er1:s1.row=s.row.filter (Gm.holds s.there):=by rw [e1]
  have ep:a7 (stK r td s wk) (Sum.inr "row":Key) (.ref D)=stK D td s1 wk:=wK (by rw [e1]) (by rw [e1])
  rw [ep]
  have nsD:st≠D:=am O.hs hD
  have k5:Kept [st] H4 (upd H4 st (.dK (stK D td s1 wk))):=Kept.refl.put (by simp)
  have t5:=(O.same s4).tk k5 fun b hb=>by rw [List.mem_singleton.mp hb];simp
  have O5:StAt (upd H4 st (.dK (stK D td s1 wk))) st D td s1 wk:=⟨ae,⟨ys,by rw [ak nsD.symm];exact h4,by rw [er1];exact r4.stay t5⟩,⟨ks,by rw [ak O.ne.symm];exact s4 _ _ hd,by rw [et1];exact (kr.stay fun b l h=>s4 _ _ h).stay t5⟩,O.ne⟩
  have K5:Kept [st,r,td] H (upd H4 st (.dK (stK D td s1 wk))):=(Kept.of_same s4).trans (k5.mono fun b hb=>by rw [List.mem_singleton.mp hb];simp)
  generalize upd H4 st (.dK (stK D td s1 wk))=H5 at k5 t5 O5 K5 ⊢
  obtain ⟨zs,hz,rz⟩:=O5.hr
  have lz:=rz.len
  have lz1:zs.length<=1000:=by
   rw [lz,er1]
   exact Nat.le_trans (List.length_filter_le _ _) hl
  have en:=rz.en
  obtain ⟨t,et⟩:∃ t,t=bz H5:=⟨_,rfl⟩
  rw [<-et] at en
  refine ⟨_,rfl,st,_,rfl,O5.row,D,_,rfl,.inl (SqL.of hz),_,_,rfl,rfl,⟨by decide,by decide⟩,_,_,rfl,rfl,_,rfl,_,rfl,_,_,rfl,⟨by lia,by lia,by lia,by lia⟩,?_⟩
  have en0:((zs.length:Int) / 2-1 - -1).toNat=zs.length / 2:=by lia
  refine gJ (lo:=(zs.length:Int) / 2-1) (n:=((zs.length:Int) / 2-1 - -1).toNat) (fun i σ H6=>∃ (lk:Nat) (o:Option V) (us:List V) (og:V),σ=[some (.ref st),some (.ref r),some og,some (.int lk),o]/\H6 D=some (.lst us)/\us.length=zs.length/\(∀y∈us,y∈zs)/\Kept [D] H5 H6/\mk (ltT t) (zs.length / 2-i) us lk=mk (ltT t) (zs.length / 2) zs 0)
   ⟨0,none,zs,_,rfl,hz,rfl,fun y h=>h,Kept.refl,rfl⟩ ?_ ?_
  .rintro i σ H6 hi ⟨lk,o,us,og,rfl,h6,l6,s6,f6,m6⟩
   rw [en0] at hi
   have nb:∀b o,H5 b=some o->b≠D->H6 b=some o:=fun b o e n=>f6 b o e (fun z=>n (List.mem_singleton.mp z))
   have en6:EnR t H6 us:=(en.bar hz nb).sub s6
   have ei:(zs.length:Int) / 2-1-(i:Int)=((zs.length / 2-1-i:Nat):Int):=by lia
   have hs6:DGet H6 st (.str "row") (some (.ref D)):=p5 (r:=D) (td:=td) (s:=s1) (wk:=wk)▸DGet.k (k:=Sum.inr "row") (nb _ _ O5.hs nsD)
   refine ⟨_,rfl,_,rfl,st,_,rfl,hs6,_,rfl,D,us,zs.length / 2-1-i,t,(by show [V.ref D,V.int ((zs.length:Int) / 2-1-(i:Int))]=_;rw [ei]),h6,en6,by lia,fun H7 h7 f7=>⟨_,_,rfl,rfl,?_⟩⟩
   refine ⟨lk+(dn (ltT t) us.length us (zs.length / 2-1-i) 0).2,_,_,og,rfl,h7,dn_len.trans l6,fun y hy=>s6 y (dn_perm.mem_iff.mp hy),f6.trans fun b o e nb=>f7 b o e fun z=>nb (List.mem_singleton.mpr z),?_⟩
   rw [<-m6,show zs.length / 2-i=(zs.length / 2-(i+1))+1 by lia]
   conv=>rhs;unfold mk
   rw [show zs.length / 2-(i+1)=zs.length / 2-1-i by lia]
  .rintro σ H6 ⟨lk,o,us,og,rfl,h6,l6,s6,f6,m6⟩
   rw [en0,Nat.sub_self] at m6
   have m5:(us,lk)=mk (ltT t) (zs.length / 2) zs 0:=m6
   have em:=lN (H:=H5) (k:=zs.length / 2) (xs:=zs) (lk:=0)
   rw [rz.eq,<-et,<-m5,lz,er1] at em
   have ru:RR H6 us (us.map (tE H5)):=(rz.sub s6).stay (O5.tk f6 fun b hb=>by rw [List.mem_singleton.mp hb];simp)
   have es:Gm.sweep slt s={ s1 with row:=us.map (tE H5),looks:=s.looks+lk }:=by
    unfold Gm.sweep
    rw [if_pos hdu]
    unfold Gm.swept
    have e2:Hg.mk (Gm.ltE slt) ((s.row.filter (Gm.holds s.there)).length / 2) (s.row.filter (Gm.holds s.there)) 0=(us.map (tE H5),lk):=em
    rw [e2,e1]
   have O6:=O5.rowTo (lk:=s.looks+lk) h6 ru f6
   refine ⟨_,rfl,k lk D H6 (by rw [es]) (by rw [es];exact O6) ?_ (.inr hD)⟩
   intro b o e nb
   exact f6 b o (K5 b o e nb) fun z=>am e hD (List.mem_singleton.mp z)
end
end Kx
end
section
namespace Kx
open PySem L2
section
variable {P:Program}{w:World}{K:PySem.W.Frag}{mg:Str->Option Value}{base:Heap}
open Hm
abbrev cf:Stmt:=top 30
theorem iZ:FnScope ["state","deed"] ["state","deed"] (ai cf):=fsc fun nd=>⟨rfl,rfl,rfl,nd,rfl,by decide +kernel,by decide +kernel⟩
def ip:Sp:=fun vs H Q _=>∃ (st r td q:Addr) (s:LS) (wk:Nat) (dd:Deed),vs=[.ref st,.ref q]/\StAt H st r td s wk/\H q=some (.tup dd.v)/\∀(c:Str) (H':Hp),Same H H'->(c=""->dd.fit s)->Q (.str c) H'
theorem mz {f:Addr}{fd:FuncData}(F:Fun K "_law_refused" "_law_refused" cf f fd)(T:Bl mg):aw P w K mg base CX0 1 f fd ["state","deed"] ip:=by
 have sc:=iZ
 refine F.okQ iZ (fun vs H Q E h=>?_) (fun cdv A outer s_ H vs Q E hr h=>?_)
 .obtain ⟨st,r,td,q,s,wk,dd,rfl,_⟩:=h
  rfl
 .obtain ⟨st,r,td,q,s,wk,dd,rfl,O,hq,k⟩:=h
  have hu:=hr.units0
  refine ⟨_,(af (aX (aD bV (az aQ (qv 1) ag (fun _ _=>rfl)) ar (aH _)) (ao (aF (az aE (bd (ad ar (ad ar aj))) (bD cj (by rfl) T.z_int (by decide +kernel) (ad (sv (aT hr) (az aQ (qv 1) ag (fun _ _=>rfl)) (aP (aT hr) (qv 0) ar (fun _ _=>rfl))) aj)) (fun _ _=>rfl)))) aK)
   (af (aX (aD jl (az aQ (qv 1) ag (fun _ _=>rfl)) (a9 (ad ar (ad ar aj))) rfl) (ao (aF (az aE (bd (ad ar (ad ar aj))) (bD cj (by rfl) T.z_int (by decide +kernel) (ad (sv (aT hr) (az aQ (qv 1) ag (fun _ _=>rfl)) (aP (aT hr) (qv 0) ar (fun _ _=>rfl))) aj)) (fun _ _=>rfl)))) aK)
   (ao (aF (az aE (bd (ad ar (ad ar aj))) (bD cj (by rfl) T.z_int (by decide +kernel) (ad (bY (mL hu) (aP (aT hr) (qv 0) ar (fun _ _=>rfl)) cS (aH _)) aj)) (fun _ _=>rfl)))))),?_⟩
  cases dd with
  | put n w =>
   refine ⟨_,rfl,q,_,_,_,rfl,rfl,SqT.of hq,rfl,rfl,_,rfl,aI (fun _=>?_) (fun c=>absurd (by decide +kernel) c)⟩
   refine ⟨by show 2<=sizeLine;decide,fun l1 hl1=>?_⟩
   have s5:=ap (H:=H) (o:=.lst [.str "",.str "Clash"]) hl1
   have g5:=ae (H:=H) (a:=l1) (o:=.lst [.str "",.str "Clash"])
   generalize upd H l1 (.lst [.str "",.str "Clash"])=H5 at s5 g5 ⊢
   have O5:=O.same s5
   have hq5:=s5 _ _ hq
   obtain ⟨ks5,hd5,kr5⟩:=O5.ht
   refine ⟨_,rfl,q,_,_,_,rfl,rfl,SqT.of hq5,rfl,_,rfl,st,_,rfl,O5.there,td,_,rfl,DGet.k (k:=Sum.inr n) hd5,.inr ⟨_,rfl,?_⟩⟩
   rcases kr5.get n with ⟨e1,e2⟩ | ⟨b,e',e1,e2,hb⟩
   .rw [e1]
    exact ⟨l1,_,_,_,rfl,rfl,SqL.of g5,rfl,k _ H5 s5 (fun _=>e2)⟩
   .rw [e1]
    exact ⟨l1,_,_,_,rfl,rfl,SqL.of g5,rfl,k _ H5 s5 (fun h=>absurd h (by decide +kernel))⟩
  | drop n =>
   refine ⟨_,rfl,q,_,_,_,rfl,rfl,SqT.of hq,rfl,rfl,_,rfl,aI (fun c=>absurd c (by decide +kernel)) (fun _=>?_)⟩
   refine ⟨_,rfl,q,_,_,_,rfl,rfl,SqT.of hq,rfl,by show 2<=sizeLine;decide,fun l1 hl1=>⟨l1,_,["drop","change"],rfl,rfl,SqT.of ae,_,rfl,?_⟩⟩
   have s1:=ap (H:=H) (o:=.tup [.str "drop",.str "change"]) hl1
   generalize upd H l1 (.tup [.str "drop",.str "change"])=H1 at s1 ⊢
   refine aI (fun _=>?_) (fun c=>absurd (by decide +kernel) c)
   refine ⟨by show 2<=sizeLine;decide,fun l1 hl1=>?_⟩
   have s5:=ap (H:=H1) (o:=.lst [.str "NoThing",.str ""]) hl1
   have g5:=ae (H:=H1) (a:=l1) (o:=.lst [.str "NoThing",.str ""])
   generalize upd H1 l1 (.lst [.str "NoThing",.str ""])=H5 at s5 g5 ⊢
   have O5:=(O.same s1).same s5
   have hq5:=s5 _ _ (s1 _ _ hq)
   obtain ⟨ks5,hd5,kr5⟩:=O5.ht
   refine ⟨_,rfl,q,_,_,_,rfl,rfl,SqT.of hq5,rfl,_,rfl,st,_,rfl,O5.there,td,_,rfl,DGet.k (k:=Sum.inr n) hd5,.inr ⟨_,rfl,?_⟩⟩
   rcases kr5.get n with ⟨e1,e2⟩ | ⟨b,e',e1,e2,hb⟩
   .rw [e1]
    exact ⟨l1,_,_,_,rfl,rfl,SqL.of g5,rfl,k _ H5 (s1.trans s5) (fun h=>absurd h (by decide +kernel))⟩
   .rw [e1]
    exact ⟨l1,_,_,_,rfl,rfl,SqL.of g5,rfl,k _ H5 (s1.trans s5) (fun _ z=>by rw [e2] at z;cases z)⟩
  | change n w =>
   refine ⟨_,rfl,q,_,_,_,rfl,rfl,SqT.of hq,rfl,rfl,_,rfl,aI (fun c=>absurd c (by decide +kernel)) (fun _=>?_)⟩
   refine ⟨_,rfl,q,_,_,_,rfl,rfl,SqT.of hq,rfl,by show 2<=sizeLine;decide,fun l1 hl1=>⟨l1,_,["drop","change"],rfl,rfl,SqT.of ae,_,rfl,?_⟩⟩
   have s1:=ap (H:=H) (o:=.tup [.str "drop",.str "change"]) hl1
   generalize upd H l1 (.tup [.str "drop",.str "change"])=H1 at s1 ⊢
   refine aI (fun _=>?_) (fun c=>absurd (by decide +kernel) c)
   refine ⟨by show 2<=sizeLine;decide,fun l1 hl1=>?_⟩
   have s5:=ap (H:=H1) (o:=.lst [.str "NoThing",.str ""]) hl1
   have g5:=ae (H:=H1) (a:=l1) (o:=.lst [.str "NoThing",.str ""])
   generalize upd H1 l1 (.lst [.str "NoThing",.str ""])=H5 at s5 g5 ⊢
   have O5:=(O.same s1).same s5
   have hq5:=s5 _ _ (s1 _ _ hq)
   obtain ⟨ks5,hd5,kr5⟩:=O5.ht
   refine ⟨_,rfl,q,_,_,_,rfl,rfl,SqT.of hq5,rfl,_,rfl,st,_,rfl,O5.there,td,_,rfl,DGet.k (k:=Sum.inr n) hd5,.inr ⟨_,rfl,?_⟩⟩
   rcases kr5.get n with ⟨e1,e2⟩ | ⟨b,e',e1,e2,hb⟩
   .rw [e1]
    exact ⟨l1,_,_,_,rfl,rfl,SqL.of g5,rfl,k _ H5 (s1.trans s5) (fun h=>absurd h (by decide +kernel))⟩
   .rw [e1]
    exact ⟨l1,_,_,_,rfl,rfl,SqL.of g5,rfl,k _ H5 (s1.trans s5) (fun _ z=>by rw [e2] at z;cases z)⟩
  | take =>
   refine ⟨_,rfl,q,_,_,_,rfl,rfl,SqT.of hq,rfl,rfl,_,rfl,aI (fun c=>absurd c (by decide +kernel)) (fun _=>?_)⟩
   refine ⟨_,rfl,q,_,_,_,rfl,rfl,SqT.of hq,rfl,by show 2<=sizeLine;decide,fun l1 hl1=>⟨l1,_,["drop","change"],rfl,rfl,SqT.of ae,_,rfl,?_⟩⟩
   have s1:=ap (H:=H) (o:=.tup [.str "drop",.str "change"]) hl1
   generalize upd H l1 (.tup [.str "drop",.str "change"])=H1 at s1 ⊢
   refine aI (fun c=>absurd c (by decide +kernel)) (fun _=>?_)
   have O1:=O.same s1
   refine ⟨by show 2<=sizeLine;decide,fun l1 hl1=>?_⟩
   have s5:=ap (H:=H1) (o:=.lst [.str "",.str "NoThing"]) hl1
   have g5:=ae (H:=H1) (a:=l1) (o:=.lst [.str "",.str "NoThing"])
   generalize upd H1 l1 (.lst [.str "",.str "NoThing"])=H5 at s5 g5 ⊢
   have O5:=O1.same s5
   obtain ⟨ks5,hd5,kr5⟩:=O5.ht
   refine ⟨_,rfl,st,_,rfl,O5.there,fun e1 he1=>⟨td,e1,_,rfl,rfl,ap he1 _ _ hd5,ae,.inr ⟨_,rfl,?_⟩⟩⟩
   have s6:=ap (H:=H5) (o:=.dK []) he1
   have g6:=s6 _ _ g5
   generalize upd H5 e1 (.dK [])=H6 at s6 g6 ⊢
   have s16:=(s1.trans s5).trans s6
   by_cases z:ks5=[]
   .rw [decide_eq_true z]
    exact ⟨l1,_,_,_,rfl,rfl,SqL.of g6,rfl,k _ H6 s16 (fun h=>absurd h (by decide +kernel))⟩
   .rw [decide_eq_false z]
    refine ⟨l1,_,_,_,rfl,rfl,SqL.of g6,rfl,k _ H6 s16 (fun _ y=>z ?_)⟩
    rw [y] at kr5
    cases kr5
    rfl
  | least =>
   refine ⟨_,rfl,q,_,_,_,rfl,rfl,SqT.of hq,rfl,rfl,_,rfl,aI (fun c=>absurd c (by decide +kernel)) (fun _=>?_)⟩
   refine ⟨_,rfl,q,_,_,_,rfl,rfl,SqT.of hq,rfl,by show 2<=sizeLine;decide,fun l1 hl1=>⟨l1,_,["drop","change"],rfl,rfl,SqT.of ae,_,rfl,?_⟩⟩
   have s1:=ap (H:=H) (o:=.tup [.str "drop",.str "change"]) hl1
   generalize upd H l1 (.tup [.str "drop",.str "change"])=H1 at s1 ⊢
   refine aI (fun c=>absurd c (by decide +kernel)) (fun _=>?_)
   have O1:=O.same s1
   refine ⟨by show 2<=sizeLine;decide,fun l1 hl1=>?_⟩
   have s5:=ap (H:=H1) (o:=.lst [.str "",.str "NoThing"]) hl1
   have g5:=ae (H:=H1) (a:=l1) (o:=.lst [.str "",.str "NoThing"])
   generalize upd H1 l1 (.lst [.str "",.str "NoThing"])=H5 at s5 g5 ⊢
   have O5:=O1.same s5
   obtain ⟨ks5,hd5,kr5⟩:=O5.ht
   refine ⟨_,rfl,st,_,rfl,O5.there,fun e1 he1=>⟨td,e1,_,rfl,rfl,ap he1 _ _ hd5,ae,.inr ⟨_,rfl,?_⟩⟩⟩
   have s6:=ap (H:=H5) (o:=.dK []) he1
   have g6:=s6 _ _ g5
   generalize upd H5 e1 (.dK [])=H6 at s6 g6 ⊢
   have s16:=(s1.trans s5).trans s6
   by_cases z:ks5=[]
   .rw [decide_eq_true z]
    exact ⟨l1,_,_,_,rfl,rfl,SqL.of g6,rfl,k _ H6 s16 (fun h=>absurd h (by decide +kernel))⟩
   .rw [decide_eq_false z]
    refine ⟨l1,_,_,_,rfl,rfl,SqL.of g6,rfl,k _ H6 s16 (fun _ y=>z ?_)⟩
    rw [y] at kr5
    cases kr5
    rfl
abbrev ij:Stmt:=top 31
theorem si:FnScope ["state","deed","looks"] ["state","deed"] (ai ij):=fsc fun nd=>⟨rfl,rfl,rfl,nd,rfl,by decide +kernel,by decide +kernel⟩
def rE:Sp:=fun vs H Q _=>∃ (st r td q:Addr) (s:LS) (dd:Deed),vs=[.ref st,.ref q]/\StAt H st r td s s.looks/\Gm.LInv slt s/\s.stamp<=890/\H q=some (.tup dd.v)/\dd.fit s /\
 ∀(lk:Nat) (r':Addr) (H':Hp),(stepS s dd).looks=s.looks+lk->StAt H' st r' td (stepS s dd) (stepS s dd).looks->Kept [st,r,td] H H'->(r'=r∨H r'=none)->Q (.int lk) H'
theorem uF {f fi fa fo fs:Addr}{fd fdi fda fdo fds:FuncData}(F:Fun K "_law_done" "_law_done" ij f fd)(T:Bl mg)(G_law_is_there:aw P w K mg base CX0 1 fi fdi ["state","entry"] fE)(D_law_is_there:Nm K mg "_law_is_there" fi fdi ["state","entry"])
  (G_law_added:aw P w K mg base CX0 2 fa fda ["state","name","worth"] mW) (D_law_added:Nm K mg "_law_added" fa fda ["state","name","worth"]) (G_law_off:aw P w K mg base CX0 2 fo fdo ["row"] vg) (D_law_off:Nm K mg "_law_off" fo fdo ["row"])
  (G_law_swept:aw P w K mg base CX0 2 fs fds ["state"] kH) (D_law_swept:Nm K mg "_law_swept" fs fds ["state"]):aw P w K mg base CX0 3 f fd ["state","deed"] rE:=by
 have sc:=si
 refine F.okQ si (fun vs H Q E h=>?_) (fun cdv A outer s_ H vs Q E hr h=>?_)
 .obtain ⟨st,r,td,q,s,dd,rfl,_⟩:=h
  rfl
 .obtain ⟨st,r,td,q,s,dd,rfl,O,LI,hs,hq,ft,k⟩:=h
  have hu:=hr.units0
  have hu1:=hr.u100
  obtain ⟨ks,hd,kr⟩:=O.ht
  obtain ⟨xs,hx,rr⟩:=O.hr
  have h1:=LI.len
  have h2:=LI.tl
  have nq:q∉[st,r,td]:=fun z=>O.notup q z _ hq
  have old:∀{H1:Hp} {s1:LS} {w1:Nat},StAt H1 st r td s1 w1->Kept [st,r,td] H H1->∀{b:Addr},H1 b=none->H b=none:=fun {H1 s1 w1} O1 kk {b} hb=>by
   cases e:H b with
   | none=>rfl
   | some o =>
    by_cases z:b∈[st,r,td]
    .obtain ⟨ys,f2,_⟩:=O1.hr
     obtain ⟨kt,f3,_⟩:=O1.ht
     have f1:=O1.hs
     simp only [List.mem_cons,List.not_mem_nil,or_false] at z
     rcases z with y | y | y
     .rw [y,f1] at hb;cases hb
     .rw [y,f2] at hb;cases hb
     .rw [y,f3] at hb;cases hb
    .rw [kk b o e z] at hb;cases hb
  refine ⟨_,(af (aq (i:=2) sc.nd rfl (Or.inl rfl) ag)
   (af (aX (aD bV (az aQ (qv 1) ag (fun _ _=>rfl)) ar (aH _)) (ao (aq (i:=2) sc.nd rfl (Or.inl rfl) (au G_law_added (hr.mono (by decide)) rfl D_law_added.m D_law_added.k D_law_added.b .nil aB (ad (qv 0) (ad (az aQ (qv 1) ag (fun _ _=>rfl)) (ad (az aQ (qv 1) ag (fun _ _=>rfl)) aj)))))) aK)
   (af (aX (aD jl (az aQ (qv 1) ag (fun _ _=>rfl)) (a9 (ad ar (ad ar aj))) rfl) (ao (aO (eV (aP (aT hr) (qv 0) ar (fun _ _=>rfl)) (az aQ (qv 1) ag (fun _ _=>rfl)) ⟨rfl,rfl,rfl,rfl⟩))) aK)
   (af (aX (aD bV (az aQ (qv 1) ag (fun _ _=>rfl)) ar (aH _)) (ao (aq (i:=2) sc.nd rfl (Or.inl rfl) (au G_law_added (hr.mono (by decide)) rfl D_law_added.m D_law_added.k D_law_added.b .nil aB (ad (qv 0) (ad (az aQ (qv 1) ag (fun _ _=>rfl)) (ad (az aQ (qv 1) ag (fun _ _=>rfl)) aj)))))) aK)
   (af (aX (aD jl (az aQ (qv 1) ag (fun _ _=>rfl)) (a9 (ad ar (ad ar aj))) rfl) (ao (cu PassesOwn.never (cM (cW (au G_law_is_there (hr.mono (by decide)) rfl D_law_is_there.m D_law_is_there.k D_law_is_there.b .nil aB (ad (qv 0) (ad (az aE (aP (aT hr) (qv 0) ar (fun _ _=>rfl)) ag (fun _ _=>rfl)) aj))))) (ao (aq (i:=2) sc.nd rfl (Or.inl rfl) (ay aM (qv 2) (au G_law_off (hr.mono (by decide)) rfl D_law_off.m D_law_off.k D_law_off.b .nil aB (ad (aP (aT hr) (qv 0) ar (fun _ _=>rfl)) aj))))))) aK)
   (af (aX (aD bV (az aQ (qv 1) ag (fun _ _=>rfl)) ar (aH _)) (af (aO (eV (aP (aT hr) (qv 0) ar (fun _ _=>rfl)) (az aQ (az aE (aP (aT hr) (qv 0) ar (fun _ _=>rfl)) ag (fun _ _=>rfl)) ag (fun _ _=>rfl)) ⟨rfl,rfl,rfl,rfl⟩))
   (ao (aq (i:=2) sc.nd rfl (Or.inl rfl) (ay aM (qv 2) (au G_law_off (hr.mono (by decide)) rfl D_law_off.m D_law_off.k D_law_off.b .nil aB (ad (aP (aT hr) (qv 0) ar (fun _ _=>rfl)) aj)))))) aK)
   (af (aX (aD vb (az aQ (qv 1) ag (fun _ _=>rfl)) ar (aH _)) (ao (aq (i:=2) sc.nd rfl (Or.inl rfl) (ay aM (qv 2) (au G_law_swept (hr.mono (by decide)) rfl D_law_swept.m D_law_swept.k D_law_swept.b .nil aB (ad (qv 0) aj))))) aK)
   (af (eK (aT hr) (qv 0) ar (ay aM (aP (aT hr) (qv 0) ar (fun _ _=>rfl)) (qv 2)) rfl)
   (ao (aF (qv 2))))))))))),?_⟩
  cases dd with
  | put n w =>
   have f1:Gm.dget s.there n=none:=ft
   refine ⟨_,rfl,q,_,_,_,rfl,rfl,SqT.of hq,rfl,rfl,_,rfl,aI (fun _=>?_) (fun c=>absurd (by decide +kernel) c)⟩
   refine ⟨_,rfl,_,rfl,q,_,_,_,rfl,rfl,SqT.of hq,rfl,_,rfl,q,_,_,_,rfl,rfl,SqT.of hq,rfl,st,r,td,s,s.looks,n,w,rfl,O,by lia,by lia,fun lk1 H1 e1 O1 k1=>?_⟩
   have hq1:=k1 _ _ hq nq
   refine ⟨_,rfl,q,_,_,_,rfl,rfl,SqT.of hq1,rfl,by show 2<=sizeLine;decide,fun l2 hl2=>⟨l2,_,["drop","change"],rfl,rfl,SqT.of ae,_,rfl,?_⟩⟩
   have s2:=ap (H:=H1) (o:=.tup [.str "drop",.str "change"]) hl2
   generalize upd H1 l2 (.tup [.str "drop",.str "change"])=H2 at s2 ⊢
   refine aI (fun c=>absurd c (by decide +kernel)) (fun _=>?_)
   have hq2:=s2 _ _ hq1
   refine ⟨_,rfl,q,_,_,_,rfl,rfl,SqT.of hq2,rfl,rfl,_,rfl,aI (fun c=>absurd c (by decide +kernel)) (fun _=>?_)⟩
   refine ⟨_,rfl,q,_,_,_,rfl,rfl,SqT.of hq2,rfl,by show 2<=sizeLine;decide,fun l3 hl3=>⟨l3,_,["take","least"],rfl,rfl,SqT.of ae,_,rfl,?_⟩⟩
   have s3:=ap (H:=H2) (o:=.tup [.str "take",.str "least"]) hl3
   generalize upd H2 l3 (.tup [.str "take",.str "least"])=H3 at s3 ⊢
   refine aI (fun c=>absurd c (by decide +kernel)) (fun _=>?_)
   have s13:=s2.trans s3
   have hq3:=s13 _ _ hq1
   refine ⟨_,rfl,q,_,_,_,rfl,rfl,SqT.of hq3,rfl,rfl,_,rfl,aI (fun c=>absurd c (by decide +kernel)) (fun _=>?_)⟩
   have I1:=Gm.enter_inv slt_slo LI (n:=n) (w:=w)
   refine ⟨_,rfl,q,_,_,_,rfl,rfl,SqT.of hq3,rfl,rfl,_,rfl,aI (fun _=>?_) (fun c=>absurd (by decide +kernel) c)⟩
   have O8:StAt _ st r td (Gm.enter slt s n w) s.looks:=O1.same s13
   have K8:=k1.trans (Kept.of_same s13)
   refine ⟨_,rfl,_,rfl,st,r,td,(Gm.enter slt s n w),s.looks,rfl,O8,(fun n x hx=>(I1.inr n x hx).1),(by rw [Gm.enter_row_perm.length_eq,List.length_append];show s.row.length+1<=1000;lia),fun lk9 r9 H9 hk9 O9 k9 f9=>⟨_,_,rfl,rfl,?_⟩⟩
   have K9:Kept [st,r,td] H H9:=K8.trans k9
   have fr9:r9=r∨H r9=none:=f9.imp id (old O8 K8)
   have hlk:(stepS s (.put n w)).looks=s.looks+(lk1+lk9):=by show (Gm.sweep slt (Gm.enter slt s n w)).looks=_;rw [hk9];lia
   refine ⟨_,rfl,st,_,rfl,O9.work,_,rfl,_,_,rfl,rfl,_,rfl,st,_,rfl,DPut.k (k:=Sum.inr "work") O9.hs (by show 5<sizeLine;decide),?_⟩
   obtain ⟨OW,kW⟩:=O9.workTo hlk
   exact ⟨_,rfl,k _ _ _ hlk OW (K9.trans (kW.mono fun b hb=>by rw [List.mem_singleton.mp hb];simp)) fr9⟩
  | drop n =>
   have f1:Gm.dget s.there n≠none:=ft
   refine ⟨_,rfl,q,_,_,_,rfl,rfl,SqT.of hq,rfl,rfl,_,rfl,aI (fun c=>absurd c (by decide +kernel)) (fun _=>?_)⟩
   refine ⟨_,rfl,q,_,_,_,rfl,rfl,SqT.of hq,rfl,by show 2<=sizeLine;decide,fun l1 hl1=>⟨l1,_,["drop","change"],rfl,rfl,SqT.of ae,_,rfl,?_⟩⟩
   have s1:=ap (H:=H) (o:=.tup [.str "drop",.str "change"]) hl1
   generalize upd H l1 (.tup [.str "drop",.str "change"])=H1 at s1 ⊢
   refine aI (fun _=>?_) (fun c=>absurd (by decide +kernel) c)
   have O1:=O.same s1
   have hq1:=s1 _ _ hq
   have hd1:=s1 _ _ hd
   rcases kr.get n with ⟨_,e2⟩ | ⟨b,e',e1,e2,hb⟩
   .exact absurd e2 f1
   refine ⟨_,rfl,st,_,rfl,O1.there,td,rfl,.inl ⟨_,.inl hd1⟩,_,rfl,q,_,_,_,rfl,rfl,SqT.of hq1,rfl,_,Sum.inr n,_,hd1,rfl,e1,?_⟩
   obtain ⟨O2,k2⟩:=O1.dropTo n hd1
   generalize upd H1 td (.dK (bw ks (Sum.inr n)))=H2 at O2 k2 ⊢
   have K2:Kept [st,r,td] H H2:=(Kept.of_same s1).trans (k2.mono (fun b hb=>by rw [List.mem_singleton.mp hb];simp))
   have hq2:=K2 _ _ hq nq
   have ID:=Gm.drop_inv LI (n:=n)
   refine ⟨_,rfl,q,_,_,_,rfl,rfl,SqT.of hq2,rfl,rfl,_,rfl,aI (fun c=>absurd c (by decide +kernel)) (fun _=>?_)⟩
   refine ⟨_,rfl,q,_,_,_,rfl,rfl,SqT.of hq2,rfl,by show 2<=sizeLine;decide,fun l4 hl4=>⟨l4,_,["take","least"],rfl,rfl,SqT.of ae,_,rfl,?_⟩⟩
   have s4:=ap (H:=H2) (o:=.tup [.str "take",.str "least"]) hl4
   generalize upd H2 l4 (.tup [.str "take",.str "least"])=H4 at s4 ⊢
   refine aI (fun c=>absurd c (by decide +kernel)) (fun _=>?_)
   have hq4:=s4 _ _ hq2
   refine ⟨_,rfl,q,_,_,_,rfl,rfl,SqT.of hq4,rfl,rfl,_,rfl,aI (fun c=>absurd c (by decide +kernel)) (fun _=>?_)⟩
   have e3':(Gm.dropT s n).looks=s.looks+0:=rfl
   refine ⟨_,rfl,q,_,_,_,rfl,rfl,SqT.of hq4,rfl,rfl,_,rfl,aI (fun _=>?_) (fun c=>absurd (by decide +kernel) c)⟩
   have O8:StAt _ st r td (Gm.dropT s n) s.looks:=O2.same s4
   have K8:=K2.trans (Kept.of_same s4)
   refine ⟨_,rfl,_,rfl,st,r,td,(Gm.dropT s n),s.looks,rfl,O8,(fun n x hx=>(ID.inr n x hx).1),(by show s.row.length<=1000;lia),fun lk9 r9 H9 hk9 O9 k9 f9=>⟨_,_,rfl,rfl,?_⟩⟩
   have K9:Kept [st,r,td] H H9:=K8.trans k9
   have fr9:r9=r∨H r9=none:=f9.imp id (old O8 K8)
   have hlk:(stepS s (.drop n)).looks=s.looks+(0+lk9):=by show (Gm.sweep slt (Gm.dropT s n)).looks=_;rw [hk9];lia
   refine ⟨_,rfl,st,_,rfl,O9.work,_,rfl,_,_,rfl,rfl,_,rfl,st,_,rfl,DPut.k (k:=Sum.inr "work") O9.hs (by show 5<sizeLine;decide),?_⟩
   obtain ⟨OW,kW⟩:=O9.workTo hlk
   exact ⟨_,rfl,k _ _ _ hlk OW (K9.trans (kW.mono fun b hb=>by rw [List.mem_singleton.mp hb];simp)) fr9⟩
  | change n w =>
   have f1:Gm.dget s.there n≠none:=ft
   refine ⟨_,rfl,q,_,_,_,rfl,rfl,SqT.of hq,rfl,rfl,_,rfl,aI (fun c=>absurd c (by decide +kernel)) (fun _=>?_)⟩
   refine ⟨_,rfl,q,_,_,_,rfl,rfl,SqT.of hq,rfl,by show 2<=sizeLine;decide,fun l1 hl1=>⟨l1,_,["drop","change"],rfl,rfl,SqT.of ae,_,rfl,?_⟩⟩
   have s1:=ap (H:=H) (o:=.tup [.str "drop",.str "change"]) hl1
   generalize upd H l1 (.tup [.str "drop",.str "change"])=H1 at s1 ⊢
   refine aI (fun _=>?_) (fun c=>absurd (by decide +kernel) c)
   have O1:=O.same s1
   have hq1:=s1 _ _ hq
   have hd1:=s1 _ _ hd
   rcases kr.get n with ⟨_,e2⟩ | ⟨b,e',e1,e2,hb⟩
   .exact absurd e2 f1
   refine ⟨_,rfl,st,_,rfl,O1.there,td,rfl,.inl ⟨_,.inl hd1⟩,_,rfl,q,_,_,_,rfl,rfl,SqT.of hq1,rfl,_,Sum.inr n,_,hd1,rfl,e1,?_⟩
   obtain ⟨O2,k2⟩:=O1.dropTo n hd1
   generalize upd H1 td (.dK (bw ks (Sum.inr n)))=H2 at O2 k2 ⊢
   have K2:Kept [st,r,td] H H2:=(Kept.of_same s1).trans (k2.mono (fun b hb=>by rw [List.mem_singleton.mp hb];simp))
   have hq2:=K2 _ _ hq nq
   have ID:=Gm.drop_inv LI (n:=n)
   refine ⟨_,rfl,q,_,_,_,rfl,rfl,SqT.of hq2,rfl,rfl,_,rfl,aI (fun _=>?_) (fun c=>absurd (by decide +kernel) c)⟩
   refine ⟨_,rfl,_,rfl,q,_,_,_,rfl,rfl,SqT.of hq2,rfl,_,rfl,q,_,_,_,rfl,rfl,SqT.of hq2,rfl,st,r,td,Gm.dropT s n,s.looks,n,w,rfl,O2,by show s.row.length<=900;lia,Nat.le_trans ID.tl (by show s.stamp<=900;lia),fun lk1 H3 e3 O3 k3=>?_⟩
   have K3:=K2.trans k3
   have hq3:=K3 _ _ hq nq
   refine ⟨_,rfl,q,_,_,_,rfl,rfl,SqT.of hq3,rfl,by show 2<=sizeLine;decide,fun l4 hl4=>⟨l4,_,["take","least"],rfl,rfl,SqT.of ae,_,rfl,?_⟩⟩
   have s4:=ap (H:=H3) (o:=.tup [.str "take",.str "least"]) hl4
   generalize upd H3 l4 (.tup [.str "take",.str "least"])=H4 at s4 ⊢
   refine aI (fun c=>absurd c (by decide +kernel)) (fun _=>?_)
   have hq4:=s4 _ _ hq3
   refine ⟨_,rfl,q,_,_,_,rfl,rfl,SqT.of hq4,rfl,rfl,_,rfl,aI (fun c=>absurd c (by decide +kernel)) (fun _=>?_)⟩
   have I1:=Gm.enter_inv slt_slo ID (n:=n) (w:=w)
   have e3':(Gm.enter slt (Gm.dropT s n) n w).looks=s.looks+lk1:=e3
   refine ⟨_,rfl,q,_,_,_,rfl,rfl,SqT.of hq4,rfl,rfl,_,rfl,aI (fun _=>?_) (fun c=>absurd (by decide +kernel) c)⟩
   have O8:StAt _ st r td (Gm.enter slt (Gm.dropT s n) n w) s.looks:=O3.same s4
   have K8:=K3.trans (Kept.of_same s4)
   refine ⟨_,rfl,_,rfl,st,r,td,(Gm.enter slt (Gm.dropT s n) n w),s.looks,rfl,O8,(fun n x hx=>(I1.inr n x hx).1),(by rw [Gm.enter_row_perm.length_eq,List.length_append];show s.row.length+1<=1000;lia),fun lk9 r9 H9 hk9 O9 k9 f9=>⟨_,_,rfl,rfl,?_⟩⟩
   have K9:Kept [st,r,td] H H9:=K8.trans k9
   have fr9:r9=r∨H r9=none:=f9.imp id (old O8 K8)
   have hlk:(stepS s (.change n w)).looks=s.looks+(lk1+lk9):=by show (Gm.sweep slt (Gm.enter slt (Gm.dropT s n) n w)).looks=_;rw [hk9];lia
   refine ⟨_,rfl,st,_,rfl,O9.work,_,rfl,_,_,rfl,rfl,_,rfl,st,_,rfl,DPut.k (k:=Sum.inr "work") O9.hs (by show 5<sizeLine;decide),?_⟩
   obtain ⟨OW,kW⟩:=O9.workTo hlk
   exact ⟨_,rfl,k _ _ _ hlk OW (K9.trans (kW.mono fun b hb=>by rw [List.mem_singleton.mp hb];simp)) fr9⟩
  | take =>
   have tne:s.there≠[]:=ft
   refine ⟨_,rfl,q,_,_,_,rfl,rfl,SqT.of hq,rfl,rfl,_,rfl,aI (fun c=>absurd c (by decide +kernel)) (fun _=>?_)⟩
   refine ⟨_,rfl,q,_,_,_,rfl,rfl,SqT.of hq,rfl,by show 2<=sizeLine;decide,fun l1 hl1=>⟨l1,_,["drop","change"],rfl,rfl,SqT.of ae,_,rfl,?_⟩⟩
   have s1:=ap (H:=H) (o:=.tup [.str "drop",.str "change"]) hl1
   generalize upd H l1 (.tup [.str "drop",.str "change"])=H1 at s1 ⊢
   refine aI (fun c=>absurd c (by decide +kernel)) (fun _=>?_)
   have hq1:=s1 _ _ hq
   refine ⟨_,rfl,q,_,_,_,rfl,rfl,SqT.of hq1,rfl,rfl,_,rfl,aI (fun c=>absurd c (by decide +kernel)) (fun _=>?_)⟩
   refine ⟨_,rfl,q,_,_,_,rfl,rfl,SqT.of hq1,rfl,by show 2<=sizeLine;decide,fun l2 hl2=>⟨l2,_,["take","least"],rfl,rfl,SqT.of ae,_,rfl,?_⟩⟩
   have s2:=ap (H:=H1) (o:=.tup [.str "take",.str "least"]) hl2
   generalize upd H1 l2 (.tup [.str "take",.str "least"])=H2 at s2 ⊢
   refine aI (fun _=>?_) (fun c=>absurd (by decide +kernel) c)
   have s12:=s1.trans s2
   have hq2:=s12 _ _ hq
   refine ⟨fun m σ H5=>∃ (f lk:Nat) (s2:LS),σ=[some (.ref st),some (.ref q),some (.int lk)]/\StAt H5 st r td s2 s.looks/\Gm.LInv slt s2/\s2.there=s.there/\s2.row.length<=f/\s2.row.length<=s.row.length/\Gm.clean slt f s2=Gm.leastL slt s/\s2.looks=s.looks+lk/\Kept [st,r,td] H H5/\m=s2.row.length,⟨_,s.row.length,0,s,rfl,O.same s12,LI,rfl,Nat.le_refl _,Nat.le_refl _,rfl,rfl,Kept.of_same s12,rfl⟩,?_⟩
   rintro m σ H5 ⟨f,lk,s2,rfl,O5,LI5,e5,hf,hle,hc,hlk2,K5,rfl⟩
   obtain ⟨xs5,hx5,rr5⟩:=O5.hr
   have h0:=Gm.row_pos LI5 (by rw [e5];exact tne)
   obtain ⟨a,ea,ha,ia⟩:=rr5.at h0
   refine ⟨_,rfl,_,rfl,st,_,rfl,O5.row,r,_,_,_,rfl,rfl,SqL.of hx5,ia,st,r,td,a,s2,s.looks,_,rfl,O5,ha,(fun n x hx=>(LI5.inr n x hx).1),fun H6 s6=>⟨_,rfl,?_⟩⟩
   have O6:=O5.same s6
   have K6:=K5.trans (Kept.of_same s6)
   have hx6:=s6 _ _ hx5
   have rr6:=rr5.stay fun b l h=>s6 _ _ h
   cases c2:Gm.holds s2.there (Hg.g s2.row 0) with
   | false =>
    have c3:¬ Gm.holds s2.there (Hg.g s2.row 0)=true:=by rw [c2];exact Bool.false_ne_true
    obtain ⟨f,rfl⟩:∃ f0,f=f0+1:=⟨f-1,by lia⟩
    have hc2:Gm.clean slt f (Gm.cut slt s2)=Gm.leastL slt s:=by
     rw [<-hc]
     conv=>rhs;unfold Gm.clean
     rw [if_neg c3]
    have lc:(Gm.cut slt s2).row.length=s2.row.length-1:=Hg.cutf_len
    refine pH ?_
    refine ⟨fun σ H5=>∃ m,m<s2.row.length/\∃ (f lk:Nat) (s2:LS),σ=[some (.ref st),some (.ref q),some (.int lk)]/\StAt H5 st r td s2 s.looks/\Gm.LInv slt s2/\s2.there=s.there/\s2.row.length<=f/\s2.row.length<=s.row.length/\Gm.clean slt f s2=Gm.leastL slt s/\s2.looks=s.looks+lk/\Kept [st,r,td] H H5/\m=s2.row.length,fun σ' H' z=>z,?_⟩
    refine ⟨_,rfl,_,rfl,st,_,rfl,O6.row,r,_,_,rfl,hx6,rr6,h0,by lia,fun ys H7 h7 rr7 k7=>⟨_,_,rfl,rfl,?_⟩⟩
    have O7:StAt H7 st r td (Gm.cut slt s2) s.looks:=O6.rowTo (lk:=(Gm.cut slt s2).looks) h7 rr7 k7
    have lk7:(Gm.cut slt s2).looks=s.looks+(lk+(Hg.cutf lE s2.row).2):=by
     show s2.looks+(Hg.cutf lE s2.row).2=_
     lia
    exact ⟨(Gm.cut slt s2).row.length,by lia,f,lk+(Hg.cutf lE s2.row).2,Gm.cut slt s2,rfl,O7,Gm.cut_inv slt_slo LI5 h0 c3,e5,by lia,by lia,hc2,lk7,K6.trans (k7.mono (fun b hb=>by rw [List.mem_singleton.mp hb];simp)),rfl⟩
   | true =>
   refine eZ ?_
   have ec:Gm.leastL slt s=s2:=by
    rw [<-hc]
    cases f with
    | zero=>rfl
    | succ f=>unfold Gm.clean;rw [if_pos c2]
   have hq6:=K6 _ _ hq nq
   refine ⟨_,rfl,q,_,_,_,rfl,rfl,SqT.of hq6,rfl,rfl,_,rfl,aI (fun _=>?_) (fun c=>absurd (by decide +kernel) c)⟩
   obtain ⟨ks6,hd6,kr6⟩:=O6.ht
   have hin:=Gm.holds_in c2
   rcases kr6.get (Hg.g s2.row 0).n with ⟨e1,e2⟩ | ⟨b,e',e1,e2,hb⟩
   .have:=Gm.dget_of LI5.nd hin
    rw [e2] at this
    cases this
   refine ⟨_,rfl,st,_,rfl,O6.there,td,rfl,.inl ⟨_,.inl hd6⟩,_,rfl,st,_,rfl,O6.row,r,_,_,_,rfl,rfl,SqL.of hx6,ia,a,_,_,_,rfl,rfl,SqT.of (s6 _ _ ha),rfl,_,Sum.inr (Hg.g s2.row 0).n,_,hd6,rfl,e1,?_⟩
   obtain ⟨O7,k7⟩:=O6.dropTo (Hg.g s2.row 0).n hd6
   generalize upd H6 td (.dK (bw ks6 (Sum.inr (Hg.g s2.row 0).n)))=H7 at O7 k7 ⊢
   have K7:=K6.trans (k7.mono (fun b hb=>by rw [List.mem_singleton.mp hb];simp))
   obtain ⟨xs7,hx7,rr7⟩:=O7.hr
   refine ⟨_,rfl,_,rfl,st,_,rfl,O7.row,r,_,_,rfl,hx7,rr7,h0,by show s2.row.length<=1000;lia,fun ys H8 h8 rr8 k8=>⟨_,_,rfl,rfl,?_⟩⟩
   have OC:StAt H8 st r td (Gm.dropT (Gm.cut slt s2) (Hg.g s2.row 0).n) s.looks:=O7.rowTo (lk:=(Gm.cut slt s2).looks) h8 rr8 k8
   have KC:=K7.trans (k8.mono (fun b hb=>by rw [List.mem_singleton.mp hb];simp))
   have hq8:=KC _ _ hq nq
   have lc:(Gm.cut slt s2).row.length=s2.row.length-1:=Hg.cutf_len
   have IC:Gm.LInv slt (Gm.dropT (Gm.cut slt s2) (Hg.g s2.row 0).n):=Gm.cut_take_inv slt_slo LI5 h0
   have eST:stepS s .take=Gm.sweep slt (Gm.dropT (Gm.cut slt s2) (Hg.g s2.row 0).n):=by show Gm.takeL slt s=_;unfold Gm.takeL;rw [ec]
   have lkc:(Gm.dropT (Gm.cut slt s2) (Hg.g s2.row 0).n).looks=s.looks+(lk+(Hg.cutf lE s2.row).2):=by
    show s2.looks+(Hg.cutf lE s2.row).2=_
    lia
   refine ⟨_,rfl,q,_,_,_,rfl,rfl,SqT.of hq8,rfl,rfl,_,rfl,aI (fun _=>?_) (fun c=>absurd (by decide +kernel) c)⟩
   have O8:StAt _ st r td (Gm.dropT (Gm.cut slt s2) (Hg.g s2.row 0).n) s.looks:=OC
   have K8:=KC
   refine ⟨_,rfl,_,rfl,st,r,td,(Gm.dropT (Gm.cut slt s2) (Hg.g s2.row 0).n),s.looks,rfl,O8,(fun n x hx=>(IC.inr n x hx).1),(by show (Gm.cut slt s2).row.length<=1000;lia),fun lk9 r9 H9 hk9 O9 k9 f9=>⟨_,_,rfl,rfl,?_⟩⟩
   have K9:Kept [st,r,td] H H9:=K8.trans k9
   have fr9:r9=r∨H r9=none:=f9.imp id (old O8 K8)
   have hlk:(stepS s .take).looks=s.looks+((lk+(Hg.cutf lE s2.row).2)+lk9):=by rw [eST,hk9];lia
   rw [<-eST] at O9
   refine ⟨_,rfl,st,_,rfl,O9.work,_,rfl,_,_,rfl,rfl,_,rfl,st,_,rfl,DPut.k (k:=Sum.inr "work") O9.hs (by show 5<sizeLine;decide),?_⟩
   obtain ⟨OW,kW⟩:=O9.workTo hlk
   exact ⟨_,rfl,k _ _ _ hlk OW (K9.trans (kW.mono fun b hb=>by rw [List.mem_singleton.mp hb];simp)) fr9⟩
  | least =>
   have tne:s.there≠[]:=ft
   refine ⟨_,rfl,q,_,_,_,rfl,rfl,SqT.of hq,rfl,rfl,_,rfl,aI (fun c=>absurd c (by decide +kernel)) (fun _=>?_)⟩
   refine ⟨_,rfl,q,_,_,_,rfl,rfl,SqT.of hq,rfl,by show 2<=sizeLine;decide,fun l1 hl1=>⟨l1,_,["drop","change"],rfl,rfl,SqT.of ae,_,rfl,?_⟩⟩
   have s1:=ap (H:=H) (o:=.tup [.str "drop",.str "change"]) hl1
   generalize upd H l1 (.tup [.str "drop",.str "change"])=H1 at s1 ⊢
   refine aI (fun c=>absurd c (by decide +kernel)) (fun _=>?_)
   have hq1:=s1 _ _ hq
   refine ⟨_,rfl,q,_,_,_,rfl,rfl,SqT.of hq1,rfl,rfl,_,rfl,aI (fun c=>absurd c (by decide +kernel)) (fun _=>?_)⟩
   refine ⟨_,rfl,q,_,_,_,rfl,rfl,SqT.of hq1,rfl,by show 2<=sizeLine;decide,fun l2 hl2=>⟨l2,_,["take","least"],rfl,rfl,SqT.of ae,_,rfl,?_⟩⟩
   have s2:=ap (H:=H1) (o:=.tup [.str "take",.str "least"]) hl2
   generalize upd H1 l2 (.tup [.str "take",.str "least"])=H2 at s2 ⊢
   refine aI (fun _=>?_) (fun c=>absurd (by decide +kernel) c)
   have s12:=s1.trans s2
   have hq2:=s12 _ _ hq
   refine ⟨fun m σ H5=>∃ (f lk:Nat) (s2:LS),σ=[some (.ref st),some (.ref q),some (.int lk)]/\StAt H5 st r td s2 s.looks/\Gm.LInv slt s2/\s2.there=s.there/\s2.row.length<=f/\s2.row.length<=s.row.length/\Gm.clean slt f s2=Gm.leastL slt s/\s2.looks=s.looks+lk/\Kept [st,r,td] H H5/\m=s2.row.length,⟨_,s.row.length,0,s,rfl,O.same s12,LI,rfl,Nat.le_refl _,Nat.le_refl _,rfl,rfl,Kept.of_same s12,rfl⟩,?_⟩
   rintro m σ H5 ⟨f,lk,s2,rfl,O5,LI5,e5,hf,hle,hc,hlk2,K5,rfl⟩
   obtain ⟨xs5,hx5,rr5⟩:=O5.hr
   have h0:=Gm.row_pos LI5 (by rw [e5];exact tne)
   obtain ⟨a,ea,ha,ia⟩:=rr5.at h0
   refine ⟨_,rfl,_,rfl,st,_,rfl,O5.row,r,_,_,_,rfl,rfl,SqL.of hx5,ia,st,r,td,a,s2,s.looks,_,rfl,O5,ha,(fun n x hx=>(LI5.inr n x hx).1),fun H6 s6=>⟨_,rfl,?_⟩⟩
   have O6:=O5.same s6
   have K6:=K5.trans (Kept.of_same s6)
   have hx6:=s6 _ _ hx5
   have rr6:=rr5.stay fun b l h=>s6 _ _ h
   cases c2:Gm.holds s2.there (Hg.g s2.row 0) with
   | false =>
    have c3:¬ Gm.holds s2.there (Hg.g s2.row 0)=true:=by rw [c2];exact Bool.false_ne_true
    obtain ⟨f,rfl⟩:∃ f0,f=f0+1:=⟨f-1,by lia⟩
    have hc2:Gm.clean slt f (Gm.cut slt s2)=Gm.leastL slt s:=by
     rw [<-hc]
     conv=>rhs;unfold Gm.clean
     rw [if_neg c3]
    have lc:(Gm.cut slt s2).row.length=s2.row.length-1:=Hg.cutf_len
    refine pH ?_
    refine ⟨fun σ H5=>∃ m,m<s2.row.length/\∃ (f lk:Nat) (s2:LS),σ=[some (.ref st),some (.ref q),some (.int lk)]/\StAt H5 st r td s2 s.looks/\Gm.LInv slt s2/\s2.there=s.there/\s2.row.length<=f/\s2.row.length<=s.row.length/\Gm.clean slt f s2=Gm.leastL slt s/\s2.looks=s.looks+lk/\Kept [st,r,td] H H5/\m=s2.row.length,fun σ' H' z=>z,?_⟩
    refine ⟨_,rfl,_,rfl,st,_,rfl,O6.row,r,_,_,rfl,hx6,rr6,h0,by lia,fun ys H7 h7 rr7 k7=>⟨_,_,rfl,rfl,?_⟩⟩
    have O7:StAt H7 st r td (Gm.cut slt s2) s.looks:=O6.rowTo (lk:=(Gm.cut slt s2).looks) h7 rr7 k7
    have lk7:(Gm.cut slt s2).looks=s.looks+(lk+(Hg.cutf lE s2.row).2):=by
     show s2.looks+(Hg.cutf lE s2.row).2=_
     lia
    exact ⟨(Gm.cut slt s2).row.length,by lia,f,lk+(Hg.cutf lE s2.row).2,Gm.cut slt s2,rfl,O7,Gm.cut_inv slt_slo LI5 h0 c3,e5,by lia,by lia,hc2,lk7,K6.trans (k7.mono (fun b hb=>by rw [List.mem_singleton.mp hb];simp)),rfl⟩
   | true =>
   refine eZ ?_
   have ec:Gm.leastL slt s=s2:=by
    rw [<-hc]
    cases f with
    | zero=>rfl
    | succ f=>unfold Gm.clean;rw [if_pos c2]
   have hq6:=K6 _ _ hq nq
   refine ⟨_,rfl,q,_,_,_,rfl,rfl,SqT.of hq6,rfl,rfl,_,rfl,aI (fun c=>absurd c (by decide +kernel)) (fun _=>?_)⟩
   refine ⟨_,rfl,q,_,_,_,rfl,rfl,SqT.of hq6,rfl,rfl,_,rfl,aI (fun c=>absurd c (by decide +kernel)) (fun _=>?_)⟩
   have O9:StAt H6 st r td (stepS s .least) s.looks:=by show StAt H6 st r td (Gm.leastL slt s) s.looks;rw [ec];exact O6
   have hlk:(stepS s .least).looks=s.looks+lk:=by show (Gm.leastL slt s).looks=_;rw [ec];exact hlk2
   have K9:=K6
   have fr9:r=r∨H r=none:=.inl rfl
   refine ⟨_,rfl,st,_,rfl,O9.work,_,rfl,_,_,rfl,rfl,_,rfl,st,_,rfl,DPut.k (k:=Sum.inr "work") O9.hs (by show 5<sizeLine;decide),?_⟩
   obtain ⟨OW,kW⟩:=O9.workTo hlk
   exact ⟨_,rfl,k _ _ _ hlk OW (K9.trans (kW.mono fun b hb=>by rw [List.mem_singleton.mp hb];simp)) fr9⟩
end
end Kx
end
section
namespace Kx
open PySem L2
section
variable {P:Program}{w:World}{K:PySem.W.Frag}{mg:Str->Option Value}{base:Heap}
open Hm
theorem qN {H:Hp}{pl sr b:Addr}{ns:List Int}{u:HO}(P:Pile K H pl sr ns)(e:H b=some u)(n:∀ys,u≠.lst ys):b≠pl:=by
 obtain ⟨_,_,_,_,h,_⟩:=P.to
 exact fun z=>by subst z;rw [e] at h;cases h;exact n _ rfl
theorem eQ {H H':Hp}{pl sr:Addr}{ns:List Int}(P:Pile K H pl sr ns)(k:Kept [pl] H H'):∀b l,H b=some (.tup l)->H' b=some (.tup l):=fun b l e=>k _ _ e (fun z=>qN P e (fun _ z=>nomatch z) (List.mem_singleton.mp z))
theorem _root_.L2.StAt.pl {H H':Hp}{pl sr st r td:Addr}{ns:List Int}{s:LS}{wk:Nat}(O:StAt H st r td s wk)(P:Pile K H pl sr ns)(n:r≠pl)(k:Kept [pl] H H'):StAt H' st r td s wk:=by
 obtain ⟨ks,hd,_⟩:=O.ht
 refine O.stay (fun b o hb e=>?_) (eQ P k)
 rcases hb with rfl | rfl | rfl
 .exact k _ _ e (fun z=>qN P O.hs (fun _ z=>nomatch z) (List.mem_singleton.mp z))
 .exact k _ _ e (fun z=>n (List.mem_singleton.mp z))
 .exact k _ _ e (fun z=>qN P hd (fun _ z=>nomatch z) (List.mem_singleton.mp z))
abbrev dW:Stmt:=top 33
theorem oh:FnScope ["pile","state","names","there","away","way","name","kinds"] ["pile","state","names"] (ai dW):=fsc fun nd=>⟨rfl,rfl,rfl,nd,rfl,by decide +kernel,by decide +kernel⟩
def nS (K:PySem.W.Frag):Sp:=fun vs H Q _=>∃ (pl sr:Addr) (is:List Int) (st r td nl:Addr) (s:LS) (wk:Nat) (nv:List V),vs=[.ref pl,.ref st,.ref nl]/\Pile K H pl sr is/\StAt H st r td s wk/\H nl=some (.lst nv)/\kI nv/\nv.length<=200/\InN nv (thW s.there)/\s.there.length<=200/\r≠pl/\nl≠pl /\
 ∀(q:Addr) (dd:Deed) (H':Hp),H' q=some (.tup dd.v)->dd.inN nv->Pile K H' pl sr is->Kept [pl] H H'->Q (.ref q) H'
theorem qW {f fn fw:Addr}{fd fdn fdw:FuncData}(F:Fun K "_law_deed" "_law_deed" dW f fd)(T:Bl mg)(G_law_next:aw P w K mg base CX0 1 fn fdn ["pile","most"] (gk K))(D_law_next:Nm K mg "_law_next" fn fdn ["pile","most"])
  (G_law_worth:aw P w K mg base CX0 2 fw fdw ["pile"] (jN K)) (D_law_worth:Nm K mg "_law_worth" fw fdw ["pile"]):aw P w K mg base CX0 3 f fd ["pile","state","names"] (nS K):=by
 have sc:=oh
 refine F.okQ oh (fun vs H Q E h=>?_) (fun cdv A outer s_ H vs Q E hr h=>?_)
 .obtain ⟨pl,sr,is,st,r,td,nl,s,wk,nv,rfl,_⟩:=h
  rfl
 .obtain ⟨pl,sr,is,st,r,td,nl,s,wk,nv,rfl,PL,O,hn,an,ln,inn,lt,nrp,nnp,k⟩:=h
  have hu:=hr.units0
  obtain ⟨ks,hd,kr⟩:=O.ht
  refine ⟨_,(af (aq (i:=3) sc.nd rfl (Or.inl rfl) (aG (eT rfl) (by rfl) T.z_sorted (by decide +kernel) (ad (aP (aT hr) (qv 1) ar (fun _ _=>rfl)) aj)))
   (af (gF (i:=4) sc.nd rfl (Or.inl rfl) (Blk.of (N:=["pile","state","names","there","away","way","name","kinds"]) (esc:=ai dW) (NB:=["state"]) (cap:=[1]) rfl rfl (fun y hy=>bv hy) rfl (by decide +kernel) (by decide +kernel) (by decide +kernel) rfl (by decide +kernel) rfl (by decide +kernel)) rfl rfl (fj (qv 2)) (fun C fp s₀ H₀=>(gz (i4 (aT hr) (qv 0) (aP (aT hr) (qv 1) ar (fun _ _=>rfl))))) (fun C fp s₀ H₀=>(qv 0)))
   (af (aq (i:=5) sc.nd rfl (Or.inl rfl) (au G_law_next (hr.mono (by decide)) rfl D_law_next.m D_law_next.k D_law_next.b .nil aB (ad (qv 0) (ad ag aj))))
   (af (jh (QW.pt (dR (aD (gT hu) (qv 3) (bd aj) (aH _)) (cP (aD gp (qv 5) ag (aH _))))) (ao (aq (i:=5) sc.nd rfl (Or.inl rfl) ag)) aK)
   (af (jh (QW.pt (dR (aD gl (qv 5) ag (aH _)) (cP (aD (jP hu) (qv 4) (bd aj) (aH _))))) (ao (aF (a9 (ad ar (ad (az aE (qv 4) (au G_law_next (hr.mono (by decide)) rfl D_law_next.m D_law_next.k D_law_next.b .nil aB (ad (qv 0) (ad (aG aL (by rfl) T.z_len (by decide +kernel) (ad (qv 4) aj)) aj))) (fun _ _=>rfl)) (ad (au G_law_worth (hr.mono (by decide)) rfl D_law_worth.m D_law_worth.k D_law_worth.b .nil aB (ad (qv 0) aj)) aj)))))) aK)
   (af (aX (aD (gT hu) (qv 3) (bd aj) (aH _)) (ao (aF (a9 (ad ar aj)))) aK)
   (af (aq (i:=6) sc.nd rfl (Or.inl rfl) (az aE (qv 3) (au G_law_next (hr.mono (by decide)) rfl D_law_next.m D_law_next.k D_law_next.b .nil aB (ad (qv 0) (ad (aG aL (by rfl) T.z_len (by decide +kernel) (ad (qv 3) aj)) aj))) (fun _ _=>rfl)))
   (af (aq (i:=7) sc.nd rfl (Or.inl rfl) (bd (ad (a9 (ad ar (ad (qv 6) (ad (au G_law_worth (hr.mono (by decide)) rfl D_law_worth.m D_law_worth.k D_law_worth.b .nil aB (ad (qv 0) aj)) aj)))) (ad (a9 (ad ar (ad (qv 6) aj))) (ad (a9 (ad ar aj)) (ad (a9 (ad ar aj)) (ad (a9 (ad ar (ad (qv 6) aj))) aj)))))))
   (ao (aF (az aE (qv 7) (ay bU (qv 5) ag) (fun _ _=>rfl)))))))))))),?_⟩
  refine ⟨_,rfl,st,_,rfl,O.there,td,ks,s.there.map (·.1),rfl,hd,kr.keys,fun tl ys htl pm _=>?_⟩
  have s1:=ap (o:=.lst (ys.map V.str)) htl
  have g1:=ae (H:=H) (a:=tl) (o:=.lst (ys.map V.str))
  generalize upd H tl (.lst (ys.map V.str))=H1 at s1 g1 ⊢
  have O1:=O.same s1
  have P1:=PL.same s1
  have ntl:tl≠pl:=by
   obtain ⟨u,e⟩:=PL.there
   exact (am e htl).symm
  have ly:ys.length=s.there.length:=by rw [pm.length_eq,List.length_map]
  have yin:∀y∈ys,V.str y∈nv:=fun y hy=>by
   obtain ⟨p,hp,rfl⟩:=List.mem_map.mp (pm.mem_iff.mp hy)
   exact inn (p.1,p.2.w) (List.mem_map.mpr ⟨p,hp,rfl⟩)
  refine ⟨_,rfl,nl,rfl,⟨_,SqL.of (s1 _ _ hn)⟩,fun D hD=>?_⟩
  refine cK (K:=K) (a:=nl) (xs:=nv) (fun i us H4=>H4 D=some (.lst us)/\(∀y∈us,y∈nv)/\us.length<=i/\Same H1 H4) ⟨ae,(fun _ h=>nomatch h),Nat.le_refl _,ap hD⟩ (fun i us H4 z=>⟨z.1,SqL.of (z.2.2.2 _ _ (s1 _ _ hn))⟩) ?_ ?_
  .rintro i x us H4 hi ⟨h4,m4,l4,s4⟩
   have mx:=List.mem_of_getElem? hi
   have li:i<nv.length:=(List.getElem?_eq_some_iff.mp hi).1
   obtain ⟨n,rfl,_⟩:=an x mx
   have O4:=O1.same s4
   obtain ⟨ks4,hd4,kr4⟩:=O4.ht
   refine ⟨_,rfl,_,rfl,st,_,rfl,O4.there,td,_,rfl,DGet.k (k:=Sum.inr n) hd4,_,rfl,aI (fun _=>⟨_,rfl,h4,aS (by lia),_,by lia,rfl,by lia,ae,?_,?_,gO s4 hD⟩) (fun _=>⟨_,by lia,rfl,by lia,h4,m4,by lia,s4⟩)⟩
   .intro y hy
    rcases List.mem_append.mp hy with z | z
    .exact m4 y z
    .rw [List.mem_singleton.mp z];exact mx
   .rw [List.length_append];show us.length+1<=_;lia
  rintro us H4 ⟨h4,m4,l4,s4⟩
  have nD:D≠pl:=by
   obtain ⟨u,e⟩:=P1.there
   exact (am e hD).symm
  have K4:Kept [pl] H H4:=Kept.of_same (s1.trans s4)
  have no:∀b,b≠pl->b∉[pl]:=fun b n z=>n (List.mem_singleton.mp z)
  have big:∀m:Nat,m<=200->(m:Int)<2 ^ 120:=fun m h=>Int.lt_of_le_of_lt (show (m:Int)<=200 by lia) (by decide)
  have lus:us.length<=200:=by lia
  refine ⟨_,rfl,pl,sr,is,10,rfl,(P1.same s4),by decide,by decide,fun x H5 x0 x1 P5 K5 N5=>?_⟩
  refine ⟨fun σ' H'=>∃ wy:Int,σ'=[some (.ref pl),some (.ref st),some (.ref nl),some (.ref tl),some (.ref D),some (.int wy),none,none]/\0<=wy/\wy<10/\Pile K H' pl sr is/\Kept [pl] H H'/\H' tl=some (.lst (ys.map V.str))/\H' D=some (.lst us),?_,?_⟩
  .refine ⟨_,rfl,by show 0<=sizeLine;decide,fun z hz=>?_⟩
   have s6:=ap (o:=.lst []) hz
   have g6:=ae (H:=H5) (a:=z) (o:=.lst [])
   generalize upd H5 z (.lst [])=H6 at s6 g6 ⊢
   have K6:=(K4.trans K5).trans (Kept.of_same s6)
   have P6:=P5.same s6
   have t6:=K6
   have e1:=s6 _ _ (K5 _ _ (s4 _ _ g1) (no _ ntl))
   have e2:=s6 _ _ (K5 _ _ h4 (no _ nD))
   refine ⟨tl,z,_,rfl,rfl,SqL.of e1,SqL.of g6,_,rfl,aI (fun c=>⟨_,rfl,_,_,rfl,rfl,_,rfl,aI (fun _=>?_) (fun _=>?_)⟩) (fun c=>eZ ?_)⟩
   .exact ⟨1,rfl,by decide,by decide,P6,K6,e1,e2⟩
   .exact ⟨x,rfl,x0,x1,P6,K6,e1,e2⟩
   .exact ⟨x,rfl,x0,x1,P6,K6,e1,e2⟩
  rintro σ' H6 ⟨wy,rfl,w0,w1,P6,K6,e1,e2⟩
  refine ⟨fun σ' H'=>∃ wy:Int,σ'=[some (.ref pl),some (.ref st),some (.ref nl),some (.ref tl),some (.ref D),some (.int wy),none,none]/\0<=wy/\wy<10/\Pile K H' pl sr is/\Kept [pl] H H'/\H' tl=some (.lst (ys.map V.str))/\H' D=some (.lst us),?_,?_⟩
  .refine ⟨_,rfl,_,_,rfl,rfl,_,rfl,aI (fun c=>?_) (fun c=>eZ ⟨wy,rfl,w0,w1,P6,K6,e1,e2⟩)⟩
   refine ⟨_,rfl,by show 0<=sizeLine;decide,fun z hz=>?_⟩
   have s7:=ap (o:=.lst []) hz
   have g7:=ae (H:=H6) (a:=z) (o:=.lst [])
   generalize upd H6 z (.lst [])=H7 at s7 g7 ⊢
   have K7:=K6.trans (Kept.of_same s7)
   have P7:=P6.same s7
   refine ⟨D,z,us,rfl,rfl,SqL.of (s7 _ _ e2),SqL.of g7,_,rfl,aI (fun c2=>?_) (fun c2=>⟨wy,rfl,w0,w1,P7,K7,s7 _ _ e1,s7 _ _ e2⟩)⟩
   have u0:0<us.length:=by
    cases us with
    | nil=>exact absurd c2 (by decide +kernel)
    | cons _ _=>exact Nat.succ_pos _
   refine ⟨_,rfl,_,rfl,_,rfl,D,_,rfl,.inl (SqL.of (s7 _ _ e2)),pl,sr,is,_,rfl,P7,by lia,big _ lus,fun y H8 y0 y1 P8 K8 N8=>?_⟩
   obtain ⟨v,ev,mv⟩:=gd (l:=us) (i:=y) y0 y1
   obtain ⟨n,rfl,_⟩:=an v (m4 _ mv)
   refine ⟨D,_,_,_,rfl,rfl,SqL.of (K8 _ _ (s7 _ _ e2) (no _ nD)),ev,_,rfl,pl,sr,is,rfl,P8,fun w H9 P9 K9=>⟨by show 3<=sizeLine;decide,fun q hq=>?_⟩⟩
   exact k q (.put n w) _ ae (m4 _ mv) (P9.same (ap hq)) (((K7.trans K8).trans K9).new hq)
  rintro σ' H7 ⟨wy,rfl,w0,w1,P7,K7,e1,e2⟩
  refine ⟨_,rfl,by show 0<=sizeLine;decide,fun z hz=>?_⟩
  have s8:=ap (o:=.lst []) hz
  have g8:=ae (H:=H7) (a:=z) (o:=.lst [])
  generalize upd H7 z (.lst [])=H8 at s8 g8 ⊢
  have K8:=K7.trans (Kept.of_same s8)
  have P8:=P7.same s8
  have e8:=s8 _ _ e1
  refine ⟨tl,z,_,rfl,rfl,SqL.of e8,SqL.of g8,_,rfl,aI (fun c=>?_) (fun c=>?_)⟩
  .refine ⟨by show 1<=sizeLine;decide,fun q hq=>?_⟩
   exact k q .least _ ae trivial (P8.same (ap hq)) (K8.new hq)
  have y0':0<ys.length:=by
   cases ys with
   | nil=>exact absurd (by decide +kernel) c
   | cons _ _=>exact Nat.succ_pos _
  have lm:(ys.map V.str).length=ys.length:=List.length_map ..
  refine ⟨_,rfl,_,rfl,_,rfl,tl,_,rfl,.inl (SqL.of e8),pl,sr,is,_,rfl,P8,by lia,big _ (by lia),fun y H9 y0 y1 P9 K9 N9=>?_⟩
  obtain ⟨v,ev,mv⟩:=gd (l:=ys.map V.str) (i:=y) y0 y1
  obtain ⟨n,hn',rfl⟩:=List.mem_map.mp mv
  have nin:=yin n hn'
  have KA:=K8.trans K9
  refine ⟨tl,_,_,_,rfl,rfl,SqL.of (K9 _ _ e8 (no _ ntl)),ev,?_⟩
  refine ⟨_,rfl,_,rfl,pl,sr,is,rfl,P9,fun w HA PA KA2=>?_⟩
  refine ⟨by show 3<=sizeLine;decide,fun t1 ht1=>?_⟩
  have q1:=ap (H:=HA) (o:=.tup [.str "change",.str n,.int w]) ht1
  have r1:=ae (H:=HA) (a:=t1) (o:=.tup [.str "change",.str n,.int w])
  generalize upd HA t1 (.tup [.str "change",.str n,.int w])=HB at q1 r1 ⊢
  refine ⟨_,rfl,by show 2<=sizeLine;decide,fun t2 ht2=>?_⟩
  have q2:=ap (H:=HB) (o:=.tup [.str "drop",.str n]) ht2
  have r2:=ae (H:=HB) (a:=t2) (o:=.tup [.str "drop",.str n])
  generalize upd HB t2 (.tup [.str "drop",.str n])=HC at q2 r2 ⊢
  refine ⟨by show 1<=sizeLine;decide,fun t3 ht3=>?_⟩
  have q3:=ap (H:=HC) (o:=.tup [.str "take"]) ht3
  have r3:=ae (H:=HC) (a:=t3) (o:=.tup [.str "take"])
  generalize upd HC t3 (.tup [.str "take"])=HD at q3 r3 ⊢
  refine ⟨by show 1<=sizeLine;decide,fun t4 ht4=>?_⟩
  have q4:=ap (H:=HD) (o:=.tup [.str "least"]) ht4
  have r4:=ae (H:=HD) (a:=t4) (o:=.tup [.str "least"])
  generalize upd HD t4 (.tup [.str "least"])=HE at q4 r4 ⊢
  refine ⟨_,rfl,by show 2<=sizeLine;decide,fun t5 ht5=>?_⟩
  have q5:=ap (H:=HE) (o:=.tup [.str "drop",.str n]) ht5
  have r5:=ae (H:=HE) (a:=t5) (o:=.tup [.str "drop",.str n])
  generalize upd HE t5 (.tup [.str "drop",.str n])=HF at q5 r5 ⊢
  refine ⟨by show 5<=sizeLine;decide,fun kl hkl=>?_⟩
  have q6:=ap (H:=HF) (o:=.lst [.ref t1,.ref t2,.ref t3,.ref t4,.ref t5]) hkl
  have r6:=ae (H:=HF) (a:=kl) (o:=.lst [.ref t1,.ref t2,.ref t3,.ref t4,.ref t5])
  generalize upd HF kl (.lst [.ref t1,.ref t2,.ref t3,.ref t4,.ref t5])=HG at q6 r6 ⊢
  have m0:0<=wy % 5:=db (by decide)
  have m1:wy % 5<5:=cV (by decide)
  obtain ⟨v,ev,mv⟩:=gd (l:=([.ref t1,.ref t2,.ref t3,.ref t4,.ref t5]:List V)) (i:=wy % 5) m0 m1
  have sall:Same HA HG:=((((q1.trans q2).trans q3).trans q4).trans q5).trans q6
  have PG:=PA.same sall
  have KG:=(KA.trans KA2).trans (Kept.of_same sall)
  refine ⟨_,rfl,_,rfl,_,_,rfl,rfl,(by show (0:Int)<5;decide),kl,_,_,_,rfl,rfl,SqL.of r6,ev,?_⟩
  simp only [List.mem_cons,List.not_mem_nil,or_false] at mv
  rcases mv with h | h | h | h | h
  .subst h;exact k t1 (.change n w) HG (q6 _ _ (q5 _ _ (q4 _ _ (q3 _ _ (q2 _ _ r1))))) nin PG KG
  .subst h;exact k t2 (.drop n) HG (q6 _ _ (q5 _ _ (q4 _ _ (q3 _ _ r2)))) nin PG KG
  .subst h;exact k t3 .take HG (q6 _ _ (q5 _ _ (q4 _ _ r3))) trivial PG KG
  .subst h;exact k t4 .least HG (q6 _ _ (q5 _ _ r4)) trivial PG KG
  .subst h;exact k t5 (.drop n) HG (q6 _ _ r5) nin PG KG
end
end Kx
end
section
namespace Kx
open PySem L2
section
variable {P:Program}{w:World}{K:PySem.W.Frag}{mg:Str->Option Value}{base:Heap}
open Hm
abbrev pJ:Stmt:=top 34
theorem vB:FnScope ["pile","names","slack","many","state","deeds","looks","most","k","deed","ahead"] ["pile","names","slack","many"] (ai pJ):=fsc fun nd=>⟨rfl,rfl,rfl,nd,rfl,by decide +kernel,by decide +kernel⟩
def vJ (K:PySem.W.Frag):Sp:=fun vs H Q _=>∃ (pl sr:Addr) (is:List Int) (nl:Addr) (nv:List V) (z:Int) (many:Nat),vs=[.ref pl,.ref nl,.int z,.int many]/\Pile K H pl sr is/\H nl=some (.lst nv)/\kI nv/\nv.length<=200/\nl≠pl/\many<=300 /\
 ∀(o dl ll st r td:Addr) (ds:List Deed) (dz lz:List V) (m:Int) (H':Hp),H' o=some (.lst [.ref dl,.ref st,.ref ll,.int m])->Fits z ds->(∀d∈ds,d.inN nv)->ds.length<=many->H' dl=some (.lst dz)->DDs H' dz ds->StAt H' st r td (ci z ds) (ci z ds).looks->Pile K H' pl sr is->Kept [pl] H H'->H o=none->H dl=none->H st=none->H td=none->H r=none->r≠dl->Q (.ref o) H'
theorem wN {f fn fd_ fr fo:Addr}{fd fdn fdd fdr fdo:FuncData}(F:Fun K "_law_run" "_law_run" pJ f fd)(T:Bl mg)(z_max:mg "max"=none)(G_law_new:aw P w K mg base CX0 1 fn fdn ["slack"] vS)(D_law_new:Nm K mg "_law_new" fn fdn ["slack"])
  (G_law_deed:aw P w K mg base CX0 3 fd_ fdd ["pile","state","names"] (nS K)) (D_law_deed:Nm K mg "_law_deed" fd_ fdd ["pile","state","names"]) (G_law_refused:aw P w K mg base CX0 1 fr fdr ["state","deed"] ip) (D_law_refused:Nm K mg "_law_refused" fr fdr ["state","deed"])
  (G_law_done:aw P w K mg base CX0 3 fo fdo ["state","deed"] rE) (D_law_done:Nm K mg "_law_done" fo fdo ["state","deed"]):aw P w K mg base CX0 4 f fd ["pile","names","slack","many"] (vJ K):=by
 have sc:=vB
 refine F.okQ vB (fun vs H Q E h=>?_) (fun cdv A outer s_ H vs Q E hr h=>?_)
 .obtain ⟨pl,sr,is,nl,nv,z,many,rfl,_⟩:=h
  rfl
 .obtain ⟨pl,sr,is,nl,nv,z,many,rfl,PL,hn,an,ln,nnp,lm,k⟩:=h
  have hu:=hr.units0
  have hu1:=hr.u100
  refine ⟨_,(af (aq (i:=4) sc.nd rfl (Or.inl rfl) (au G_law_new (hr.mono (by decide)) rfl D_law_new.m D_law_new.k D_law_new.b .nil aB (ad (qv 2) aj)))
   (af (aq (i:=5) sc.nd rfl (Or.inl rfl) (bd aj))
   (af (aq (i:=6) sc.nd rfl (Or.inl rfl) (bd aj))
   (af (aq (i:=7) sc.nd rfl (Or.inl rfl) ag)
   (af (dQ PassesOwn.never rfl (dr rfl T.z_range (ad (qv 3) aj)) (bf (i:=8) sc.nd rfl (Or.inl rfl)) (af (aq (i:=9) sc.nd rfl (Or.inl rfl) (au G_law_deed (hr.mono (by decide)) rfl D_law_deed.m D_law_deed.k D_law_deed.b .nil aB (ad (qv 0) (ad (qv 4) (ad (qv 1) aj)))))
   (ao (aX (aD bV (au G_law_refused (hr.mono (by decide)) rfl D_law_refused.m D_law_refused.k D_law_refused.b .nil aB (ad (qv 4) (ad (qv 9) aj))) ar (aH _)) (af (aq (i:=10) sc.nd rfl (Or.inl rfl) (aG aL (by rfl) T.z_len (by decide +kernel) (ad (aP (aT hr) (qv 4) ar (fun _ _=>rfl)) aj)))
   (af (aO (iL PySem.F.plainAttrs_list PySem.F.slot_list_append PySem.F.type_list_append bQ (qv 6) (ad (au G_law_done (hr.mono (by decide)) rfl D_law_done.m D_law_done.k D_law_done.b .nil aB (ad (qv 4) (ad (qv 9) aj))) aj)))
   (af (aq (i:=7) sc.nd rfl (Or.inl rfl) (aG (pq rfl) (by rfl) z_max (by decide +kernel) (ad (qv 7) (ad (ay aM (qv 10) (bD cj (by rfl) T.z_int (by decide +kernel) (ad (bY jl (az aQ (qv 9) ag (fun _ _=>rfl)) (a9 (ad ar (ad ar aj))) rfl) aj))) (ad (aG aL (by rfl) T.z_len (by decide +kernel) (ad (aP (aT hr) (qv 4) ar (fun _ _=>rfl)) aj)) aj)))))
   (ao (aO (iL PySem.F.plainAttrs_list PySem.F.slot_list_append PySem.F.type_list_append bQ (qv 5) (ad (qv 9) aj))))))) aK))))
   (ao (aF (bd (ad (qv 5) (ad (qv 4) (ad (qv 6) (ad (qv 7) aj)))))))))))),?_⟩
  refine ⟨_,rfl,z,rfl,fun st r td H1 hst hr0 htd O1 s1=>?_⟩
  refine ⟨by show 0<=sizeLine;decide,fun dl hdl=>?_⟩
  have s2:=ap (o:=.lst []) hdl
  have g2:=ae (H:=H1) (a:=dl) (o:=.lst [])
  generalize upd H1 dl (.lst [])=H2 at s2 g2 ⊢
  refine ⟨by show 0<=sizeLine;decide,fun ll hll=>?_⟩
  have s3:=ap (o:=.lst []) hll
  have g3:=ae (H:=H2) (a:=ll) (o:=.lst [])
  generalize upd H2 ll (.lst [])=H3 at s3 g3 ⊢
  have s13:=s2.trans s3
  have s03:=s1.trans s13
  have old:∀{b:Addr} {X Y:Hp},Same X Y->Y b=none->X b=none:=fun {b X Y} sm h=>by
   cases e:X b with
   | none=>rfl
   | some o=>rw [sm b o e] at h;cases h
  have fdl:H dl=none:=old s1 hdl
  have fll:H ll=none:=old (s1.trans s2) hll
  obtain ⟨xr,hxr,_⟩:=O1.hr
  have n1:r≠dl:=am hxr hdl
  have n2:r≠ll:=am (s2 _ _ hxr) hll
  have n3:dl≠ll:=am g2 hll
  obtain ⟨up,hup⟩:=PL.there
  have npd:dl≠pl:=(am hup fdl).symm
  have npl:ll≠pl:=(am hup fll).symm
  have no:∀b,b≠pl->b∉[pl]:=fun b n z=>n (List.mem_singleton.mp z)
  refine ⟨_,rfl,_,rfl,by lia,by lia,iP (lo:=0) (n:=many) (fun i σ H4=>∃ (r:Addr) (ds:List Deed) (dz lz:List V) (m:Int) (o8 o9 o10:Option V),σ=[some (.ref pl),some (.ref nl),some (.int z),some (.int many),some (.ref st),some (.ref dl),some (.ref ll),some (.int m),o8,o9,o10]/\Fits z ds/\(∀d∈ds,d.inN nv)/\ds.length<=i/\H4 dl=some (.lst dz)/\DDs H4 dz ds/\H4 ll=some (.lst lz)/\lz.length=ds.length/\StAt H4 st r td (ci z ds) (ci z ds).looks/\Pile K H4 pl sr is/\Kept [pl] H H4/\H r=none/\r≠dl/\r≠ll) ⟨r,[],[],[],0,none,none,none,rfl,.nil,(fun _ h=>nomatch h),Nat.le_refl _,s3 _ _ g2,.nil,g3,rfl,O1.same s13,PL.same s03,Kept.of_same s03,hr0,n1,n2⟩ ?_ ?_⟩
  .rintro i σ H4 hi ⟨r,ds,dz,lz,m,o8,o9,o10,rfl,ft,din,lds,h4d,dd4,h4l,llz,O4,P4,K4,fr4,nr1,nr2⟩
   have I4:=ft.inv
   have st4:=ft.stamp
   have tl4:=I4.tl
   have nrp:r≠pl:=(am hup fr4).symm
   have hn4:=K4 _ _ hn (no _ nnp)
   refine ⟨_,rfl,_,rfl,_,rfl,pl,sr,is,st,r,td,nl,ci z ds,_,nv,rfl,P4,O4,hn4,an,ln,ft.inN din,Nat.le_trans ((ft.inN din).len I4.nd) ln,nrp,nnp,fun q dd H5 hq inn P5 K5=>?_⟩
   have O5:=O4.pl P4 nrp K5
   have K45:=K4.trans K5
   have t5:=eQ P4 K5
   have h5d:=K5 _ _ h4d (no _ npd)
   have h5l:=K5 _ _ h4l (no _ npl)
   have dd5:=dd4.stay t5
   refine ⟨_,rfl,_,rfl,st,r,td,q,ci z ds,_,dd,rfl,O5,hq,fun c H6 s6 fit=>⟨rfl,_,rfl,aI (fun c1=>?_) (fun c1=>?_)⟩⟩
   rotate_left
   .exact ⟨r,ds,dz,lz,m,_,_,_,rfl,ft,din,by lia,s6 _ _ h5d,dd5.stay (fun b l h=>s6 _ _ h),s6 _ _ h5l,llz,O5.same s6,P5.same s6,K45.trans (Kept.of_same s6),fr4,nr1,nr2⟩
   have fit':=fit (V.str.inj (of_decide_eq_true c1))
   have O6:=O5.same s6
   have hq6:=s6 _ _ hq
   obtain ⟨xs6,hx6,rr6⟩:=O6.hr
   have h6d:=s6 _ _ h5d
   have h6l:=s6 _ _ h5l
   have dd6:=dd5.stay fun b l h=>s6 _ _ h
   have P6:=P5.same s6
   have K6:=K45.trans (Kept.of_same s6)
   refine ⟨_,rfl,st,_,rfl,O6.row,r,_,rfl,.inl (SqL.of hx6),?_⟩
   refine ⟨_,rfl,.inl ⟨rfl,lz,SqL.of h6l⟩,_,rfl,_,rfl,st,r,td,q,ci z ds,dd,rfl,O6,I4,by lia,hq6,fit',fun lk r' H7 elk O7 k7 f7=>?_⟩
   obtain ⟨kt6,hd6,_⟩:=O6.ht
   have nl6:∀{b:Addr} {ys:List V},H6 b=some (.lst ys)->b≠r->b∉[st,r,td]:=fun {b ys} e n z=>by
    simp only [List.mem_cons,List.not_mem_nil,or_false] at z
    rcases z with y | y | y
    .rw [y,O6.hs] at e;cases e
    .exact n y
    .rw [y,hd6] at e;cases e
   have h7l:=k7 _ _ h6l (nl6 h6l nr2.symm)
   have h7d:=k7 _ _ h6d (nl6 h6d nr1.symm)
   have t7:=O6.tk k7 fun b hb=>hb
   have P7:Pile K H7 pl sr is:=P6.kept (F:=[st,r,td]) (fun b hb=>by
    simp only [List.mem_cons,List.not_mem_nil,or_false] at hb
    rcases hb with y | y | y
    .rw [y];exact P6.unlike O6.hs (fun _ z=>nomatch z) (fun _ _ z=>nomatch z)
    .rw [y];exact PL.new fr4
    .rw [y];exact P6.unlike hd6 (fun _ z=>nomatch z) (fun _ _ z=>nomatch z)) k7
   have K7:Kept [pl] H H7:=fun b o e nb=>k7 b o (K6 b o e nb) fun z=>by
    simp only [List.mem_cons,List.not_mem_nil,or_false] at z
    rcases z with y | y | y
    .rw [y,hst] at e;cases e
    .rw [y,fr4] at e;cases e
    .rw [y,htd] at e;cases e
   have nr1':r'≠dl:=by
    rcases f7 with y | y
    .rw [y];exact nr1
    .exact (am h6d y).symm
   have nr2':r'≠ll:=by
    rcases f7 with y | y
    .rw [y];exact nr2
    .exact (am h6l y).symm
   have fr7:H r'=none:=by
    rcases f7 with y | y
    .rw [y];exact fr4
    .cases e:H r' with
     | none=>rfl
     | some o =>
      by_cases w:r'=pl
      .obtain ⟨_,_,_,_,hp6,_⟩:=P6.to
       rw [w,hp6] at y;cases y
      .rw [K6 _ _ e (no _ w)] at y;cases y
   refine ⟨ll,lz,_,rfl,rfl,h7l,aS (by lia),?_⟩
   have k8:Kept [ll] H7 (upd H7 ll (.lst (lz++[.int lk]))):=Kept.refl.put (by simp)
   have g8:=ae (H:=H7) (a:=ll) (o:=.lst (lz++[.int lk]))
   generalize upd H7 ll (.lst (lz++[.int lk]))=H8 at k8 g8 ⊢
   have wl:∀{G1 G2:Hp} {b:Addr} {ys:List V},G1 b=some (.lst ys)->Kept [b] G1 G2->∀c l,G1 c=some (.tup l)->G2 c=some (.tup l):=fun {G1 G2 b ys} e kk c l h=>kk _ _ h (fun z=>by rw [List.mem_singleton.mp z,e] at h;cases h)
   have stW:∀{G1 G2:Hp} {b:Addr} {ys:List V} {sx:LS} {wx:Nat},StAt G1 st r' td sx wx->G1 b=some (.lst ys)->r'≠b->Kept [b] G1 G2->StAt G2 st r' td sx wx:=fun {G1 G2 b ys sx wx} OO e n kk=>by
    obtain ⟨kt,hd',_⟩:=OO.ht
    refine OO.stay (fun c o hc h=>kk _ _ h fun z=>?_) (wl e kk)
    have z':=List.mem_singleton.mp z
    rcases hc with y | y | y
    .rw [<-z',y,OO.hs] at e;cases e
    .exact n (y.symm.trans z')
    .rw [<-z',y,hd'] at e;cases e
   have O8:=stW O7 h7l nr2' k8
   have P8:Pile K H8 pl sr is:=P7.kept (F:=[ll]) (fun b hb=>by rw [List.mem_singleton.mp hb];exact PL.new fll) k8
   have K8:Kept [pl] H H8:=fun b o e nb=>k8 b o (K7 b o e nb) fun z=>by rw [List.mem_singleton.mp z,fll] at e;cases e
   have h8d:=k8 _ _ h7d (fun z=>n3 (List.mem_singleton.mp z))
   have t8:=wl h7l k8
   have hq8:=t8 _ _ (t7 _ _ hq6)
   have dd8:=(dd6.stay t7).stay t8
   obtain ⟨dn,more,edv⟩:=kR dd
   have hq8':=hq8
   rw [edv] at hq8'
   have i0:atI (V.str dn::more) 0=some (V.str dn):=cH (j:=0) rfl
   refine ⟨_,rfl,_,rfl,_,rfl,q,_,_,_,rfl,rfl,SqT.of hq8',i0,by show 2<=sizeLine;decide,fun t ht=>?_⟩
   have s9:=ap (o:=.tup [.str "put",.str "change"]) ht
   have g9:=ae (H:=H8) (a:=t) (o:=.tup [.str "put",.str "change"])
   generalize upd H8 t (.tup [.str "put",.str "change"])=H9 at s9 g9 ⊢
   have O9:=O8.same s9
   obtain ⟨xs9,hx9,_⟩:=O9.hr
   refine ⟨t,dn,["put","change"],rfl,rfl,SqT.of g9,.inr ⟨_,rfl,_,_,rfl,rfl,_,rfl,st,_,rfl,O9.row,r',_,rfl,.inl (SqL.of hx9),_,_,_,rfl,?_⟩⟩
   have h9d:=s9 _ _ h8d
   have ldz:dz.length=ds.length:=Paired.length dd4
   refine ⟨_,rfl,.inl ⟨rfl,dz,SqL.of h9d⟩,_,rfl,dl,dz,_,rfl,rfl,h9d,aS (by lia),?_⟩
   have kA:Kept [dl] H9 (upd H9 dl (.lst (dz++[.ref q]))):=Kept.refl.put (by simp)
   have gA:=ae (H:=H9) (a:=dl) (o:=.lst (dz++[.ref q]))
   generalize upd H9 dl (.lst (dz++[.ref q]))=HA at kA gA ⊢
   have OA:=stW O9 h9d nr1' kA
   have tA:=wl h9d kA
   have PA:Pile K HA pl sr is:=(P8.same s9).kept (F:=[dl]) (fun b hb=>by rw [List.mem_singleton.mp hb];exact PL.new fdl) kA
   have KA:Kept [pl] H HA:=fun b o e nb=>kA b o (s9 _ _ (K8 b o e nb)) fun z=>by rw [List.mem_singleton.mp z,fdl] at e;cases e
   refine ⟨r',ds++[dd],_,_,_,_,_,_,rfl,.snoc ft fit',fun d hd=>?_,by rw [List.length_append];show ds.length+1<=i+1;lia,gA,?_,kA _ _ (s9 _ _ g8) (fun z=>n3 (List.mem_singleton.mp z).symm),by rw [List.length_append,List.length_append,llz];rfl,by rw [cp];exact OA,PA,KA,fr7,nr1',nr2'⟩
   .rcases List.mem_append.mp hd with y | y
    .exact din d y
    .rw [List.mem_singleton.mp y];exact inn
   .exact Paired.snoc ((dd8.stay fun b l h=>s9 _ _ h).stay tA) ⟨q,rfl,tA _ _ (s9 _ _ hq8)⟩
  .rintro σ H4 ⟨r,ds,dz,lz,m,o8,o9,o10,rfl,ft,din,lds,h4d,dd4,h4l,llz,O4,P4,K4,fr4,nr1,nr2⟩
   refine ⟨_,rfl,_,rfl,_,rfl,_,rfl,by show 4<=sizeLine;decide,fun o ho=>?_⟩
   have s5:=ap (o:=.lst [.ref dl,.ref st,.ref ll,.int m]) ho
   have fo:H o=none:=by
    cases e:H o with
    | none=>rfl
    | some u =>
     by_cases w:o=pl
     .obtain ⟨_,_,_,_,hp4,_⟩:=P4.to
      rw [w,hp4] at ho;cases ho
     .rw [K4 _ _ e (no _ w)] at ho;cases ho
   exact k o dl ll st r td ds dz lz m _ ae ft din lds (s5 _ _ h4d) (dd4.stay fun b l h=>s5 _ _ h) (O4.same s5) (P4.same s5) (K4.trans (Kept.of_same s5)) fo fdl hst htd fr4 nr1
end
end Kx
end
section
namespace Kx
open PySem L2
section
variable {P:Program}{w:World}{K:PySem.W.Frag}{mg:Str->Option Value}{base:Heap}
open Hm
abbrev gi:Stmt:=top 35
theorem m9:FnScope ["pile","way","slack"] ["pile"] (ai gi):=fsc fun nd=>⟨rfl,rfl,rfl,nd,rfl,by decide +kernel,by decide +kernel⟩
def mE (K:PySem.W.Frag):Sp:=fun vs H Q _=>∃ (pl sr:Addr) (is:List Int),vs=[.ref pl]/\Pile K H pl sr is/\∀(o:Addr) (mn cn:Nat) (z:Int) (H':Hp),H' o=some (.lst [.int mn,.int cn,.int z])->1<=mn->mn<=64->cn<=180->0<=z->Pile K H' pl sr is->Kept [pl] H H'->Q (.ref o) H'
theorem rV {f fn:Addr}{fd fdn:FuncData}(F:Fun K "_law_sizes" "_law_sizes" gi f fd)(T:Bl mg)(G_law_next:aw P w K mg base CX0 1 fn fdn ["pile","most"] (gk K))(D_law_next:Nm K mg "_law_next" fn fdn ["pile","most"]):aw P w K mg base CX0 2 f fd ["pile"] (mE K):=by
 have sc:=m9
 refine F.okQ m9 (fun vs H Q E h=>?_) (fun cdv A outer s_ H vs Q E hr h=>?_)
 .obtain ⟨pl,sr,is,rfl,_⟩:=h
  rfl
 .obtain ⟨pl,sr,is,rfl,PL,k⟩:=h
  have hu:=hr.units0
  refine ⟨_,(af (aq (i:=1) sc.nd rfl (Or.inl rfl) (au G_law_next (hr.mono (by decide)) rfl D_law_next.m D_law_next.k D_law_next.b .nil aB (ad (qv 0) (ad ag aj))))
   (af (aq (i:=2) sc.nd rfl (Or.inl rfl) (az aE (bd (ad ag (ad ag (ad ag (ad ag (ad ag (ad ag (ad ag (ad (ay bM (ay i8 ag ag) ag) aj))))))))) (au G_law_next (hr.mono (by decide)) rfl D_law_next.m D_law_next.k D_law_next.b .nil aB (ad (qv 0) (ad ag aj))) (fun _ _=>rfl)))
   (af (aX (aD bV (qv 1) ag (aH _)) (ao (aF (bd (ad (ay aM ag (au G_law_next (hr.mono (by decide)) rfl D_law_next.m D_law_next.k D_law_next.b .nil aB (ad (qv 0) (ad ag aj)))) (ad (ay aM ag (au G_law_next (hr.mono (by decide)) rfl D_law_next.m D_law_next.k D_law_next.b .nil aB (ad (qv 0) (ad ag aj)))) (ad (qv 2) aj)))))) aK)
   (ao (aF (bd (ad (ay aM ag (au G_law_next (hr.mono (by decide)) rfl D_law_next.m D_law_next.k D_law_next.b .nil aB (ad (qv 0) (ad ag aj)))) (ad (ay aM ag (au G_law_next (hr.mono (by decide)) rfl D_law_next.m D_law_next.k D_law_next.b .nil aB (ad (qv 0) (ad ag aj)))) (ad (qv 2) aj))))))))),?_⟩
  refine ⟨_,rfl,pl,sr,is,8,rfl,PL,by decide,by decide,fun x H1 x0 x1 P1 K1 N1=>?_⟩
  refine ⟨_,_,rfl,rfl,⟨by decide,by decide,by decide⟩,_,_,rfl,rfl,by show 8<=sizeLine;decide,fun l1 hl1=>?_⟩
  have s2:=ap (o:=.lst [.int 0,.int 0,.int 1,.int 2,.int 5,.int 40,.int 100,.int ((10:Int) ^ (30:Int).toNat-1)]) hl1
  have g2:=ae (H:=H1) (a:=l1) (o:=.lst [.int 0,.int 0,.int 1,.int 2,.int 5,.int 40,.int 100,.int ((10:Int) ^ (30:Int).toNat-1)])
  generalize upd H1 l1 (.lst [.int 0,.int 0,.int 1,.int 2,.int 5,.int 40,.int 100,.int ((10:Int) ^ (30:Int).toNat-1)])=H2 at s2 g2 ⊢
  have nl1:l1≠pl:=by
   obtain ⟨u,e⟩:=P1.there
   exact (am e hl1).symm
  refine ⟨_,rfl,pl,sr,is,8,rfl,(P1.same s2),by decide,by decide,fun y H3 y0 y1 P3 K3 N3=>?_⟩
  obtain ⟨v,ev,mv⟩:=gd (l:=([.int 0,.int 0,.int 1,.int 2,.int 5,.int 40,.int 100,.int ((10:Int) ^ (30:Int).toNat-1)]:List V)) (i:=y) y0 y1
  obtain ⟨z,rfl,z0⟩:∃ z:Int,v=.int z/\0<=z:=by
   simp only [List.mem_cons,List.not_mem_nil,or_false] at mv
   rcases mv with h | h | h | h | h | h | h | h <;> exact ⟨_,h,by decide⟩
  refine ⟨l1,_,_,_,rfl,rfl,SqL.of (K3 _ _ g2 (fun q=>nl1 (List.mem_singleton.mp q))),ev,?_⟩
  have K13:=(K1.trans (Kept.of_same s2)).trans K3
  refine ⟨_,rfl,rfl,_,rfl,aI (fun _=>?_) (fun _=>?_)⟩
  .refine ⟨_,rfl,pl,sr,is,45,rfl,P3,by decide,by decide,fun u H4 u0 u1 P4 K4 N4=>?_⟩
   refine ⟨_,_,rfl,rfl,_,rfl,pl,sr,is,60,rfl,P4,by decide,by decide,fun t H5 t0 t1 P5 K5 N5=>?_⟩
   refine ⟨_,_,rfl,rfl,_,rfl,by show 3<=sizeLine;decide,fun o ho=>?_⟩
   have e1:(20:Int)+u=(((20+u).toNat:Nat):Int):=by lia
   have e2:(120:Int)+t=(((120+t).toNat:Nat):Int):=by lia
   have g6:=ae (H:=H5) (a:=o) (o:=.lst [.int (20+u),.int (120+t),.int z])
   refine k o (20+u).toNat (120+t).toNat z _ ?_ (by lia) (by lia) (by lia) z0 (P5.same (ap ho)) (((K13.trans K4).trans K5).new ho)
   rw [<-e1,<-e2]
   exact g6
  .refine ⟨_,rfl,pl,sr,is,12,rfl,P3,by decide,by decide,fun u H4 u0 u1 P4 K4 N4=>?_⟩
   refine ⟨_,_,rfl,rfl,_,rfl,pl,sr,is,50,rfl,P4,by decide,by decide,fun t H5 t0 t1 P5 K5 N5=>?_⟩
   refine ⟨_,_,rfl,rfl,_,rfl,by show 3<=sizeLine;decide,fun o ho=>?_⟩
   have e1:(1:Int)+u=(((1+u).toNat:Nat):Int):=by lia
   have e2:(5:Int)+t=(((5+t).toNat:Nat):Int):=by lia
   have g6:=ae (H:=H5) (a:=o) (o:=.lst [.int (1+u),.int (5+t),.int z])
   refine k o (1+u).toNat (5+t).toNat z _ ?_ (by lia) (by lia) (by lia) z0 (P5.same (ap ho)) (((K13.trans K4).trans K5).new ho)
   rw [<-e1,<-e2]
   exact g6
def _root_.L2.Deed.sh:Deed->Prop
 | .put n _=>n.length<=20
 | .drop n=>n.length<=20
 | .change n _=>n.length<=20
 | _=>True
theorem vh {nv:List V}(an:kI nv){d:Deed}(h:d.inN nv):d.sh:=by
 have q:∀n:Str,V.str n∈nv->n.length<=20:=fun n m=>by
  obtain ⟨x,e,l⟩:=an _ m
  cases e
  exact l
 cases d <;> first | exact q _ h | trivial
abbrev cm:Stmt:=top 36
theorem iy:FnScope ["heap","deeds","deed"] ["heap","deeds"] (ai cm):=fsc fun nd=>⟨rfl,rfl,rfl,nd,rfl,by decide +kernel,by decide +kernel⟩
def im (C:Addr):Sp:=fun vs H Q _=>∃ (p d l dl:Addr) (dz:List V) (ds:List Deed) (z:Int),vs=[.ref p,.ref dl]/\LateAt C H p d l (Gm.newL z)/\H dl=some (.lst dz)/\DDs H dz ds/\Fits z ds/\(∀x∈ds,x.sh)/\ds.length<=300/\dl≠l /\
 ∀l' H',LateAt C H' p d l' (dU z ds)->Kept [p,d,l] H H'->Fr3 H l l'->Q .non H'
theorem l7 {f C CC CN fput fdrop fchange ftake fleast:Addr}{fd fdput fddrop fdchange fdtake fdleast:FuncData}(F:Fun K "_law_put_through" "_law_put_through" cm f fd)(T:Bl mg)(L:LT K C)
  (Mput:aZ K C "put" fput) (Gput:aw P w K mg base (CXe P w) 5 fput fdput ["self","name","worth"] (lC C CC)) (Bput:Binds K fdput ["self","name","worth"] [])
  (Mdrop:aZ K C "drop" fdrop) (Gdrop:aw P w K mg base (CXe P w) 5 fdrop fddrop ["self","name"] (jp C CN)) (Bdrop:Binds K fddrop ["self","name"] [])
  (Mchange:aZ K C "change" fchange) (Gchange:aw P w K mg base (CXe P w) 5 fchange fdchange ["self","name","worth"] (i5 C CN)) (Bchange:Binds K fdchange ["self","name","worth"] [])
  (Mtake:aZ K C "take" ftake) (Gtake:aw P w K mg base (CXe P w) 6 ftake fdtake ["self"] (nP C CN)) (Btake:Binds K fdtake ["self"] [])
  (Mleast:aZ K C "least" fleast) (Gleast:aw P w K mg base (CXe P w) 6 fleast fdleast ["self"] (jW C CN)) (Bleast:Binds K fdleast ["self"] []) :
  aw P w K mg base CX0 7 f fd ["heap","deeds"] (im C):=by
 have sc:=iy
 refine F.okQ iy (fun vs H Q E h=>?_) (fun cdv A outer s_ H vs Q E hr h=>?_)
 .obtain ⟨p,d,l,dl,dz,ds,z,rfl,_⟩:=h
  rfl
 .obtain ⟨p,d,l,dl,dz,ds,z,rfl,LA,hdl,dd0,ft,sh,lds,ndl,k⟩:=h
  have hu:=hr.units0
  have ldz:dz.length=ds.length:=Paired.length dd0
  refine ⟨_,(ao (dQ PassesOwn.never rfl (fj (qv 1)) (bf (i:=2) sc.nd rfl (Or.inl rfl)) (ao (aX (aD bV (az aQ (qv 2) ag (fun _ _=>rfl)) ar (aH _)) (ao (aO (bo (qv 0) L.cl Mput Gput (hr.mono (by decide)) Bput .nil bX (ad (az aQ (qv 2) ag (fun _ _=>rfl)) (ad (az aQ (qv 2) ag (fun _ _=>rfl)) aj))))) (ao (aX (aD bV (az aQ (qv 2) ag (fun _ _=>rfl)) ar (aH _)) (ao (aO (bo (qv 0) L.cl Mdrop Gdrop (hr.mono (by decide)) Bdrop .nil bX (ad (az aQ (qv 2) ag (fun _ _=>rfl)) aj)))) (ao (aX (aD bV (az aQ (qv 2) ag (fun _ _=>rfl)) ar (aH _)) (ao (aO (bo (qv 0) L.cl Mchange Gchange (hr.mono (by decide)) Bchange .nil bX (ad (az aQ (qv 2) ag (fun _ _=>rfl)) (ad (az aQ (qv 2) ag (fun _ _=>rfl)) aj))))) (ao (aX (aD bV (az aQ (qv 2) ag (fun _ _=>rfl)) ar (aH _)) (ao (aO (aR (qv 0) L.cl Mtake Gtake (hr.mono (by decide)) Btake .nil bX))) (ao (aO (aR (qv 0) L.cl Mleast Gleast (hr.mono (by decide)) Bleast .nil bX))))))))))))),?_⟩
  refine ⟨_,rfl,dl,rfl,⟨_,SqL.of hdl⟩,?_⟩
  obtain ⟨dx0,hp0⟩:=LA.ob
  obtain ⟨ks0,hd0,_⟩:=LA.dc
  have n1:dl∉[p,d,l]:=fun z=>by
   simp only [List.mem_cons,List.not_mem_nil,or_false] at z
   rcases z with y | y | y
   .rw [y,hp0] at hdl;cases hdl
   .rw [y,hd0] at hdl;cases hdl
   .exact ndl y
  refine rZ (K:=K) (a:=dl) (xs:=dz) (fun i σ H2=>∃ (l2:Addr) (o:Option V),σ=[some (.ref p),some (.ref dl),o]/\LateAt C H2 p d l2 (dU z (ds.take i))/\Kept [p,d,l] H H2/\Fr3 H l l2) ⟨l,none,rfl,LA,Kept.refl,.inl rfl⟩ (fun i σ H2 _ ⟨_,_,_,_,z,_⟩=>SqL.of (z _ _ hdl n1)) ?_ ?_
  .rintro i x σ H2 hx ⟨l2,o,rfl,L2,K2,f2⟩
   obtain ⟨de,ede,q,rfl,hq0⟩:=bP dd0 hx
   obtain ⟨fti,fit⟩:=ft.at ede
   have hi:i<ds.length:=(List.getElem?_eq_some_iff.mp ede).1
   have sim:=fti.sim
   have I2:=fti.invL
   have fL:=sim.fit fit
   have st2:=fti.stamp
   rw [sim.st] at st2
   have st3:(dU z (ds.take i)).stamp<=300:=by
    have:(ds.take i).length<=i:=List.length_take_le _ _
    lia
   have r1:=I2.len
   have r2:=I2.tl
   have shd:=sh de (List.mem_of_getElem? ede)
   have et:ds.take (i+1)=ds.take i++[de]:=by rw [List.take_add_one,ede];rfl
   have hq:H2 q=some (.tup de.v):=K2.tups LA.notup _ _ hq0
   obtain ⟨dx,hp⟩:=L2.ob
   have ka:∀{H3:Hp},Kept [p,d,l2] H2 H3->Kept [p,d,l] H H3:=fun {H3} k3 b u e n=>by
    refine k3 b u (K2 b u e n) fun z=>?_
    simp only [List.mem_cons,List.not_mem_nil,or_false] at z n
    rcases z with y | y | y
    .exact n (.inl y)
    .exact n (.inr (.inl y))
    .rcases f2 with w | w
     .exact n (.inr (.inr (y.trans w)))
     .rw [y,w] at e;cases e
   have fa:∀{l3:Addr},Fr3 H2 l2 l3->Fr3 H l l3:=fun {l3} f3=>by
    rcases f3 with y | y
    .rw [y];exact f2
    .by_cases w:l3∈[p,d,l]
     .simp only [List.mem_cons,List.not_mem_nil,or_false] at w
      obtain ⟨dx',hp'⟩:=L2.ob
      obtain ⟨ks',hd',_⟩:=L2.dc
      rcases w with w | w | w
      .rw [w,hp'] at y;cases y
      .rw [w,hd'] at y;cases y
      .exact .inl w
     .refine .inr ?_
      cases e:H l3 with
      | none=>rfl
      | some u=>rw [K2 _ _ e w] at y;cases y
   generalize hT:dU z (ds.take i)=t at L2 I2 fL r1 r2 st3
   cases de with
   | put n w =>
    refine ⟨_,rfl,q,_,_,_,rfl,rfl,SqT.of hq,rfl,rfl,_,rfl,aI (fun _=>?_) (fun c=>absurd (by decide +kernel) c)⟩
    refine ⟨_,rfl,p,dx,_,rfl,hp,lfn,_,rfl,q,_,_,_,rfl,rfl,SqT.of hq,rfl,_,rfl,q,_,_,_,rfl,rfl,SqT.of hq,rfl,p,d,l2,t,n,w,rfl,L2,by lia,by lia,Nat.le_trans shd (by decide),fun _ l' H3 L3 k3 f3=>?_,fun cs=>absurd fL cs⟩
    exact ⟨l',_,rfl,by rw [et,bG,hT];have f1:Gm.dget t.there n=none:=fL;show LateAt C H3 p d l' (if (Gm.dget t.there n).isSome=true then (t,Ans.clash) else (Gm.putL slt t n w,Ans.non)).1;rw [f1];exact L3,ka k3,fa f3⟩
   | drop n =>
    refine ⟨_,rfl,q,_,_,_,rfl,rfl,SqT.of hq,rfl,rfl,_,rfl,aI (fun c=>absurd c (by decide +kernel)) (fun _=>?_)⟩
    refine ⟨_,rfl,q,_,_,_,rfl,rfl,SqT.of hq,rfl,rfl,_,rfl,aI (fun _=>?_) (fun c=>absurd (by decide +kernel) c)⟩
    refine ⟨_,rfl,p,dx,_,rfl,hp,lfn,_,rfl,q,_,_,_,rfl,rfl,SqT.of hq,rfl,p,d,l2,t,n,rfl,L2,by lia,by lia,Nat.le_trans shd (by decide),fun _ l' H3 L3 k3 f3=>?_,fun cs=>absurd cs fL⟩
    exact ⟨l',_,rfl,by rw [et,bG,hT];have f1:(Gm.dget t.there n).isSome=true:=(by cases y:Gm.dget t.there n with | none=>exact absurd y fL | some _=>rfl);show LateAt C H3 p d l' (if (Gm.dget t.there n).isSome=true then (Gm.dropL slt t n,Ans.non) else (t,Ans.nothing)).1;rw [if_pos f1];exact L3,ka k3,fa f3⟩
   | change n w =>
    refine ⟨_,rfl,q,_,_,_,rfl,rfl,SqT.of hq,rfl,rfl,_,rfl,aI (fun c=>absurd c (by decide +kernel)) (fun _=>?_)⟩
    refine ⟨_,rfl,q,_,_,_,rfl,rfl,SqT.of hq,rfl,rfl,_,rfl,aI (fun c=>absurd c (by decide +kernel)) (fun _=>?_)⟩
    refine ⟨_,rfl,q,_,_,_,rfl,rfl,SqT.of hq,rfl,rfl,_,rfl,aI (fun _=>?_) (fun c=>absurd (by decide +kernel) c)⟩
    refine ⟨_,rfl,p,dx,_,rfl,hp,lfn,_,rfl,q,_,_,_,rfl,rfl,SqT.of hq,rfl,_,rfl,q,_,_,_,rfl,rfl,SqT.of hq,rfl,p,d,l2,t,n,w,rfl,L2,by lia,by lia,Nat.le_trans shd (by decide),fun _ l' H3 L3 k3 f3=>?_,fun cs=>absurd cs fL⟩
    exact ⟨l',_,rfl,by rw [et,bG,hT];have f1:(Gm.dget t.there n).isSome=true:=(by cases y:Gm.dget t.there n with | none=>exact absurd y fL | some _=>rfl);show LateAt C H3 p d l' (if (Gm.dget t.there n).isSome=true then (Gm.putL slt t n w,Ans.non) else (t,Ans.nothing)).1;rw [if_pos f1];exact L3,ka k3,fa f3⟩
   | take =>
    refine ⟨_,rfl,q,_,_,_,rfl,rfl,SqT.of hq,rfl,rfl,_,rfl,aI (fun c=>absurd c (by decide +kernel)) (fun _=>?_)⟩
    refine ⟨_,rfl,q,_,_,_,rfl,rfl,SqT.of hq,rfl,rfl,_,rfl,aI (fun c=>absurd c (by decide +kernel)) (fun _=>?_)⟩
    refine ⟨_,rfl,q,_,_,_,rfl,rfl,SqT.of hq,rfl,rfl,_,rfl,aI (fun c=>absurd c (by decide +kernel)) (fun _=>?_)⟩
    refine ⟨_,rfl,q,_,_,_,rfl,rfl,SqT.of hq,rfl,rfl,_,rfl,aI (fun _=>?_) (fun c=>absurd (by decide +kernel) c)⟩
    refine ⟨_,rfl,p,dx,_,rfl,hp,lfn,p,d,l2,t,rfl,L2,I2,by lia,fun _ q' l' H3 L3 hq3 k3 f3=>?_,fun cs=>absurd cs fL⟩
    exact ⟨l',_,rfl,by rw [et,bG,hT];show LateAt C H3 p d l' (if t.there=[] then (t,Ans.nothing) else (Gm.takeL slt t,Ans.pair (_root_.L2.hd t).w (_root_.L2.hd t).n)).1;rw [if_neg fL];exact L3,ka k3,fa f3⟩
   | least =>
    refine ⟨_,rfl,q,_,_,_,rfl,rfl,SqT.of hq,rfl,rfl,_,rfl,aI (fun c=>absurd c (by decide +kernel)) (fun _=>?_)⟩
    refine ⟨_,rfl,q,_,_,_,rfl,rfl,SqT.of hq,rfl,rfl,_,rfl,aI (fun c=>absurd c (by decide +kernel)) (fun _=>?_)⟩
    refine ⟨_,rfl,q,_,_,_,rfl,rfl,SqT.of hq,rfl,rfl,_,rfl,aI (fun c=>absurd c (by decide +kernel)) (fun _=>?_)⟩
    refine ⟨_,rfl,q,_,_,_,rfl,rfl,SqT.of hq,rfl,rfl,_,rfl,aI (fun c=>absurd c (by decide +kernel)) (fun _=>?_)⟩
    refine ⟨_,rfl,p,dx,_,rfl,hp,lfn,p,d,l2,t,rfl,L2,I2,by lia,fun _ q' H3 L3 hq3 k3=>?_,fun cs=>absurd cs fL⟩
    exact ⟨l2,_,rfl,by rw [et,bG,hT];show LateAt C H3 p d l2 (if t.there=[] then (t,Ans.nothing) else (Gm.leastL slt t,Ans.pair (_root_.L2.hd t).w (_root_.L2.hd t).n)).1;rw [if_neg fL];exact L3,ka k3,f2⟩
  .rintro σ H2 ⟨l2,o,rfl,L2,K2,f2⟩
   rw [ldz,List.take_length] at L2
   exact k l2 H2 L2 K2 f2
end
end Kx
end
section
namespace Kx
open PySem L2
section
variable {P:Program}{w:World}{K:PySem.W.Frag}{mg:Str->Option Value}{base:Heap}
open Hm
theorem dq {H:Hp}{a b c:Addr}{x y:HO}(h:(upd (upd H a x) b y) c=none):H c=none:=by
 by_cases e:c=b
 .subst e;rw [ae] at h;cases h
 .rw [ak e] at h
  by_cases e2:c=a
  .subst e2;rw [ae] at h;cases h
  .rw [ak e2] at h;exact h
theorem LateAt.nin {C p dd l:Addr}{H:Hp}{s:LS}(LA:LateAt C H p dd l s){b:Addr}{u:HO}(h:H b=some u)(h1:∀C dx fs,u=.ins C dx fs->b≠p)(h2:∀ks,u=.dK ks->b≠dd)(h3:∀xs,u=.lst xs->b≠l):b∉[p,dd,l]:=fun z=>by
 obtain ⟨dx,e1⟩:=LA.ob
 obtain ⟨ks,e2,_⟩:=LA.dc
 obtain ⟨xs,e3,_⟩:=LA.ls
 simp only [List.mem_cons,List.not_mem_nil,or_false] at z
 rcases z with rfl | rfl | rfl
 .rw [h] at e1;cases e1;exact h1 _ _ _ rfl rfl
 .rw [h] at e2;cases e2;exact h2 _ rfl rfl
 .rw [h] at e3;cases e3;exact h3 _ rfl rfl
theorem LateAt.tk {C p dd l:Addr}{H H':Hp}{s:LS}(LA:LateAt C H p dd l s)(k:Kept [p,dd,l] H H'):∀b zs,H b=some (.tup zs)->H' b=some (.tup zs):=fun b zs h=>k _ _ h (LA.nin h (fun _ _ _ z=>nomatch z) (fun _ z=>nomatch z) (fun _ z=>nomatch z))
def Fw (F:List Addr)(H:Hp)(l':Addr):Prop:=∀b u,H b=some u->b∉F->b≠l'
theorem Fr3.fw {H:Hp}{p d l l':Addr}(h:Fr3 H l l'):Fw [p,d,l] H l':=fun b u e n z=>by
 rcases h with q | q
 .exact n (by rw [z,q];simp)
 .rw [z,q] at e;cases e
def F6 (p d l p2 d2 l2:Addr):List Addr:=[p,d,l,p2,d2,l2]
structure Two (C:Addr)(H:Hp)(p d l p2 d2 l2:Addr)(s t:LS):Prop where
 la:LateAt C H p d l s
 lb:LateAt C H p2 d2 l2 t
 np:p≠p2
 nd:d≠d2
 nm:l≠l2
section
variable {C p d l p2 d2 l2:Addr}{H H':Hp}{s t:LS}
theorem Two.swap (W:Two C H p d l p2 d2 l2 s t):Two C H p2 d2 l2 p d l t s:=⟨W.lb,W.la,W.np.symm,W.nd.symm,W.nm.symm⟩
theorem Two.same (W:Two C H p d l p2 d2 l2 s t)(k:Same H H'):Two C H' p d l p2 d2 l2 s t:=⟨W.la.same k,W.lb.same k,W.np,W.nd,W.nm⟩
theorem Two.act (W:Two C H p d l p2 d2 l2 s t){l':Addr}{s':LS}(LA:LateAt C H' p d l' s')(k:Kept [p,d,l] H H')(fr:Fr3 H l l'):Two C H' p d l' p2 d2 l2 s' t:=by
 obtain ⟨dx,h1⟩:=W.lb.ob
 obtain ⟨ks,h2,_⟩:=W.lb.dc
 obtain ⟨xs,h3,_⟩:=W.lb.ls
 have i3:l2∉[p,d,l]:=W.la.nin h3 (fun _ _ _ z=>nomatch z) (fun _ z=>nomatch z) (fun _ _=>W.nm.symm)
 refine ⟨LA,W.lb.stay (fun b o hb e=>?_) (W.la.tk k),W.np,W.nd,(fr.fw (p:=p) (d:=d) _ _ h3 i3).symm⟩
 rcases hb with rfl | rfl | rfl
 .exact k _ _ e (W.la.nin h1 (fun _ _ _ _=>W.np.symm) (fun _ z=>nomatch z) (fun _ z=>nomatch z))
 .exact k _ _ e (W.la.nin h2 (fun _ _ _ z=>nomatch z) (fun _ _=>W.nd.symm) (fun _ z=>nomatch z))
 .exact k _ _ e i3
end
abbrev ce:Stmt:=top 14
theorem iX:FnScope ["greater","lesser","things","thing"] ["greater","lesser"] (ai ce):=fsc fun nd=>⟨rfl,rfl,rfl,nd,rfl,by decide +kernel,by decide +kernel⟩
def mV (C CC:Addr):Sp:=fun vs H Q E=>∃ (p d l p2 d2 l2:Addr) (s t:LS),vs=[.ref p,.ref p2]/\LateAt C H p d l s/\LateAt C H p2 d2 l2 t/\Gm.LInv slt s/\Gm.LInv slt t/\s.stamp<=400/\t.stamp<=400/\(∀n∈t.there.map (·.1),n.length<=1000) /\
 (((∃ n∈t.there.map (·.1),Gm.dget s.there n≠none)/\∀H',Same H H'->E (.ref CC) none H')∨((t.there=[])/\∀H',Same H H'->Q (.ref p) H')∨((∀n∈t.there.map (·.1),Gm.dget s.there n=none)/\Two C H p d l p2 d2 l2 s t/\∀l' l2' s' t' H',jb s t s' t'->Two C H' p d l' p2 d2 l2' s' t'->Kept (F6 p d l p2 d2 l2) H H'->Fw (F6 p d l p2 d2 l2) H l'->Fw (F6 p d l p2 d2 l2) H l2'->Q (.ref p) H'))
theorem rm {f C CC CN fthings fneed_free fdrop fput:Addr}{fd fdthings fdneed_free fddrop fdput:FuncData}(F:Fun K "with_all_of" "with_all_of" ce f fd)(T:Bl mg)(L:LT K C)
  (Mthings:aZ K C "things" fthings) (Gthings:aw P w K mg base CX0 1 fthings fdthings ["self"] (fm C)) (Bthings:Binds K fdthings ["self"] []) (Mneed_free:aZ K C "need_free" fneed_free) (Gneed_free:aw P w K mg base (CXe P w) 1 fneed_free fdneed_free ["self","name"] (mm C CC)) (Bneed_free:Binds K fdneed_free ["self","name"] []) (Mdrop:aZ K C "drop" fdrop) (Gdrop:aw P w K mg base (CXe P w) 5 fdrop fddrop ["self","name"] (jp C CN)) (Bdrop:Binds K fddrop ["self","name"] []) (Mput:aZ K C "put" fput) (Gput:aw P w K mg base (CXe P w) 5 fput fdput ["self","name","worth"] (lC C CC)) (Bput:Binds K fdput ["self","name","worth"] []):aw P w K mg base (CXe P w) 6 f fd ["greater","lesser"] (mV C CC):=by
 have sc:=iX
 refine F.okEQ iX (fun vs H Q E h=>?_) (fun cdv A outer s_ H vs Q E hr h=>?_)
 .obtain ⟨p,d,l,p2,d2,l2,s,t,rfl,_⟩:=h
  rfl
 .obtain ⟨p,d,l,p2,d2,l2,s,t,rfl,LA,LB,I,J,st,tt,nlen,md⟩:=h
  have hu:=hr.units0
  refine ⟨_,(af (aq (i:=2) sc.nd rfl (Or.inl rfl) (aR (qv 1) L.cl Mthings Gthings (hr.mono (by decide)) Bthings .nil aB))
   (af (dQ wO rfl (jy (qv 2)) (bf (i:=3) sc.nd rfl (Or.inl rfl)) (ao (aO (bo (qv 0) L.cl Mneed_free Gneed_free (hr.mono (by decide)) Bneed_free .nil (bO fun _ _ z=>z) (ad (az aQ (qv 3) ag (fun _ _=>rfl)) aj)))))
   (QSs.nox (af (dQ PassesOwn.never rfl (jy (qv 2)) (bf (i:=3) sc.nd rfl (Or.inl rfl)) (af (aO (bo (qv 1) L.cl Mdrop Gdrop (hr.mono (by decide)) Bdrop .nil bX (ad (az aQ (qv 3) ag (fun _ _=>rfl)) aj)))
   (ao (aO (bo (qv 0) L.cl Mput Gput (hr.mono (by decide)) Bput .nil bX (ad (az aQ (qv 3) ag (fun _ _=>rfl)) (ad (az aQ (qv 3) ag (fun _ _=>rfl)) aj)))))))
   (ao (aF (qv 0))))))),?_⟩
  obtain ⟨dx2,hp2⟩:=LB.ob
  obtain ⟨ks2,hd2,kr2⟩:=LB.dc
  have tl2:=J.tl
  have tl1:=I.tl
  have rl1:=I.len
  have rl2:=J.len
  refine ⟨_,rfl,p2,dx2,_,rfl,hp2,lfn,p2,dx2,d2,_,ks2,t.there,rfl,hp2,bp,hd2,kr2,by rw [kr2.len];lia,fun q zs ys H1 pm srt hq pr s1=>?_⟩
  have nd:ys.Nodup:=pm.nodup_iff.mpr J.nd
  have lys:ys.length=t.there.length:=by rw [pm.length_eq,List.length_map]
  have lzs:zs.length=ys.length:=by have:=Paired.length pr;rw [List.length_map] at this;exact this
  have at':∀(H2:Hp),(∀b l,H1 b=some (.tup l)->H2 b=some (.tup l))->∀i x,zs[i]?=some x->∃ (n:Str) (a1:Addr) (hi:i<ys.length),n=ys[i]/\x=.ref a1/\H2 a1=some (.tup [.str n,.int (wG t.there n)]):=fun H2 k2 i x hx=>by
   obtain ⟨p2',e2,a1,e3,e4⟩:=bP pr hx
   rw [List.getElem?_map] at e2
   cases e:ys[i]? with
   | none=>rw [e] at e2;cases e2
   | some n =>
    rw [e] at e2
    cases e2
    obtain ⟨hi,en⟩:=List.getElem?_eq_some_iff.mp e
    exact ⟨n,a1,hi,en.symm,e3,k2 _ _ e4⟩
  refine ⟨_,rfl,q,rfl,⟨_,SqT.of hq⟩,?_⟩
  refine jd (K:=K) (a:=q) (xs:=zs) (fun i σ H2=>∃ o,σ=[some (.ref p),some (.ref p2),some (.ref q),o]/\H2=H1/\∀n∈ys.take i,Gm.dget s.there n=none) ⟨none,rfl,rfl,(fun n hn=>by rw [List.take_zero] at hn;cases hn)⟩ (fun i σ H2 _ ⟨_,_,z,_⟩=>by rw [z];exact SqT.of hq) ?_ ?_
  .rintro i x σ H2 hx ⟨o,rfl,rfl,free⟩
   obtain ⟨n,a1,hi,en,rfl,ha1⟩:=at' H2 (fun _ _ e=>e) i x hx
   obtain ⟨dx,hp⟩:=(LA.same s1).ob
   obtain ⟨ks,hd,kr⟩:=(LA.same s1).dc
   have hn:n∈ys:=by rw [en];exact List.getElem_mem hi
   have hnt:=pm.mem_iff.mp hn
   have nl:=nlen n hnt
   refine ⟨_,rfl,p,dx,_,rfl,hp,lfn,_,rfl,a1,_,_,_,rfl,rfl,SqT.of ha1,rfl,p,dx,d,_,ks,n,rfl,hp,bp,hd,nl,fun fr=>?_,fun fr=>?_⟩
   .refine ⟨_,rfl,rfl,fun m hm=>?_⟩
    rw [List.take_add_one,List.getElem?_eq_getElem hi,<-en] at hm
    rcases List.mem_append.mp hm with z | z
    .exact free m z
    .rw [List.mem_singleton.mp z]
     rcases kr.get n with ⟨_,e2⟩ | ⟨b,e',e1,_,_⟩
     .exact e2
     .rw [e1] at fr;cases fr
   .rcases md with ⟨_,kE⟩ | ⟨z,_⟩ | ⟨dis,_⟩
    .exact kE _ s1
    .rw [z] at hnt;cases hnt
    .rcases kr.get n with ⟨e1,_⟩ | ⟨b,e',_,e2,_⟩
     .rw [e1] at fr;cases fr
     .rw [dis n hnt] at e2;cases e2
  rintro σ H2 ⟨o,rfl,rfl,free⟩
  rw [lzs,List.take_length] at free
  rcases md with ⟨⟨n,hn,no⟩,_⟩ | ⟨z,k⟩ | ⟨dis0,W,k⟩
  .exact absurd (free n (pm.mem_iff.mpr hn)) no
  .-- nothing is there
   have z0:zs=[]:=List.length_eq_zero_iff.mp (by rw [lzs,lys,z];rfl)
   subst z0
   refine ⟨_,rfl,q,rfl,⟨_,SqT.of hq⟩,?_⟩
   refine jd (K:=K) (a:=q) (xs:=[]) (fun i σ H3=>σ=[some (.ref p),some (.ref p2),some (.ref q),o]/\H3=H2) ⟨rfl,rfl⟩ (fun i σ H3 _ ⟨_,z⟩=>by rw [z];exact SqT.of hq) (fun i x σ H3 hx=>nomatch hx) ?_
   rintro σ H3 ⟨rfl,rfl⟩
   exact ⟨_,rfl,k _ s1⟩
  have W1:=W.same s1
  have dis:∀n∈t.there.map (·.1),Gm.dget s.there n=none/\n.length<=1000:=fun n hn=>⟨dis0 n hn,nlen n hn⟩
  have dis':∀n∈ys,Gm.dget s.there n=none:=fun n h=>dis0 n (pm.mem_iff.mp h)
  refine ⟨_,rfl,q,rfl,⟨_,SqT.of hq⟩,?_⟩
  refine jd (K:=K) (a:=q) (xs:=zs) (fun i σ H3=>∃ (o:Option V) (lA lB:Addr) (sA sB:LS),σ=[some (.ref p),some (.ref p2),some (.ref q),o]/\Jn s t ys i sA sB/\Two C H3 p d lA p2 d2 lB sA sB/\(∀b l,H2 b=some (.tup l)->H3 b=some (.tup l))/\Kept (F6 p d l p2 d2 l2) H H3/\Fw (F6 p d l p2 d2 l2) H lA/\Fw (F6 p d l p2 d2 l2) H lB)
   ⟨_,l,l2,s,t,rfl,Jn.start I J pm,W1,(fun _ _ e=>e),Kept.of_same s1,(fun b u _ n z=>n (by rw [z];simp [F6])),(fun b u _ n z=>n (by rw [z];simp [F6]))⟩ (fun i σ H3 _ ⟨_,_,_,_,_,_,_,_,z,_⟩=>SqT.of (z _ _ hq)) ?_ ?_
  .rintro i x σ H3 hx ⟨o,lA,lB,sA,sB,rfl,Jij,W3,t3,k3,fA,fB⟩
   obtain ⟨n,a1,hi,en,rfl,ha1⟩:=at' H3 t3 i x hx
   obtain ⟨b1,a0,Jn'⟩:=Jij.next hi nd pm dis'
   rw [<-en] at b1 a0 Jn'
   have hn:n∈ys:=by rw [en];exact List.getElem_mem hi
   have nl:=(dis n (pm.mem_iff.mp hn)).2
   have q1:=Jij.ia.len
   have q2:=Jij.ib.len
   have q3:=Jij.ia.tl
   have q4:=Jij.ib.tl
   have q5:=Jij.st
   have q6:=Jij.sb
   obtain ⟨dxB,hpB⟩:=W3.lb.ob
   refine ⟨_,rfl,p2,dxB,_,rfl,hpB,lfn,_,rfl,a1,_,_,_,rfl,rfl,SqT.of ha1,rfl,p2,d2,lB,sB,n,rfl,W3.lb,by lia,by lia,nl,⟨fun _ lB' H4 LB4 k4 f4=>?_,fun z=>by rw [z] at b1;cases b1⟩⟩
   have W4:=(W3.swap.act LB4 k4 f4).swap
   have t4:=W3.lb.tk k4
   have ha4:=t4 _ _ ha1
   obtain ⟨dxA,hpA⟩:=W4.la.ob
   refine ⟨_,rfl,p,dxA,_,rfl,hpA,lfn,_,rfl,a1,_,_,_,rfl,rfl,SqT.of ha4,rfl,_,rfl,a1,_,_,_,rfl,rfl,SqT.of ha4,rfl,p,d,lA,sA,n,wG t.there n,rfl,W4.la,by lia,by lia,nl,⟨fun _ lA' H5 LA5 k5 f5=>?_,fun z=>absurd (by cases e:Gm.dget sA.there n with | none=>rfl | some x=>rw [e] at a0;cases a0) z⟩⟩
   have W5:=W4.act LA5 k5 f5
   have m1:∀b u,H b=some u->b∉F6 p d l p2 d2 l2->b∉[p2,d2,lB]:=fun b u e n z=>by
    simp only [F6,List.mem_cons,List.not_mem_nil,or_false,not_or] at n
    simp only [List.mem_cons,List.not_mem_nil,or_false] at z
    rcases z with z | z | z
    .exact n.2.2.2.1 z
    .exact n.2.2.2.2.1 z
    .exact fB b u e (by simp only [F6,List.mem_cons,List.not_mem_nil,or_false,not_or];exact n) z
   have m2:∀b u,H b=some u->b∉F6 p d l p2 d2 l2->b∉[p,d,lA]:=fun b u e n z=>by
    simp only [F6,List.mem_cons,List.not_mem_nil,or_false,not_or] at n
    simp only [List.mem_cons,List.not_mem_nil,or_false] at z
    rcases z with z | z | z
    .exact n.1 z
    .exact n.2.1 z
    .exact fA b u e (by simp only [F6,List.mem_cons,List.not_mem_nil,or_false,not_or];exact n) z
   have k34:∀b u,H b=some u->b∉F6 p d l p2 d2 l2->H4 b=some u:=fun b u e n=>k4 b u (k3 b u e n) (m1 b u e n)
   exact ⟨_,lA',lB',_,_,rfl,Jn',W5,(fun b l e=>W4.la.tk k5 _ _ (t4 _ _ (t3 _ _ e))),fun b u e n=>k5 b u (k34 b u e n) (m2 b u e n),fun b u e n=>f5.fw (p:=p) (d:=d) b u (k34 b u e n) (m2 b u e n),fun b u e n=>f4.fw (p:=p2) (d:=d2) b u (k3 b u e n) (m1 b u e n)⟩
  .rintro σ H3 ⟨o,lA,lB,sA,sB,rfl,Jij,W3,t3,k3,fA,fB⟩
   rw [lzs] at Jij
   exact ⟨_,rfl,k lA lB sA sB H3 (Jij.done I J pm dis') W3 k3 fA fB⟩
abbrev dJ:Stmt:=top 13
theorem kh:FnScope ["one","other"] ["one","other"] (ai dJ):=fsc fun nd=>⟨rfl,rfl,rfl,nd,rfl,by decide +kernel,by decide +kernel⟩
def gf (C CC:Addr):Sp:=fun vs H Q E=>∃ (p d l p2 d2 l2:Addr) (s t:LS),vs=[.ref p,.ref p2]/\LateAt C H p d l s/\LateAt C H p2 d2 l2 t/\Gm.LInv slt s/\Gm.LInv slt t/\s.stamp<=400/\t.stamp<=400/\(∀n∈t.there.map (·.1),n.length<=1000)/\(∀n∈s.there.map (·.1),n.length<=1000) /\
 (((∃ n,n∈s.there.map (·.1)/\n∈t.there.map (·.1))/\∀H',Same H H'->E (.ref CC) none H')∨((s.there=[]/\t.there=[])/\∀H',Same H H'->Q (.ref p) H')∨((∀n,n∈s.there.map (·.1)->n∈t.there.map (·.1)->False)/\Two C H p d l p2 d2 l2 s t/\∀l' l2' s' t' H' (b:Bool),(b=true->jb t s t' s')->(b=false->jb s t s' t')->Two C H' p d l' p2 d2 l2' s' t'->Kept (F6 p d l p2 d2 l2) H H'->Q (.ref (cond b p2 p)) H'))
theorem sW {p d l p2 d2 l2 b:Addr}:b∉F6 p d l p2 d2 l2->b∉F6 p2 d2 l2 p d l:=fun h z=>h (by
 simp only [F6,List.mem_cons,List.not_mem_nil,or_false] at z ⊢
 rcases z with z | z | z | z | z | z
 .exact .inr (.inr (.inr (.inl z)))
 .exact .inr (.inr (.inr (.inr (.inl z))))
 .exact .inr (.inr (.inr (.inr (.inr z))))
 .exact .inl z
 .exact .inr (.inl z)
 .exact .inr (.inr (.inl z)))
theorem lQ {f C CC fmany fw:Addr}{fd fdmany fdw:FuncData}(F:Fun K "put_together" "put_together" dJ f fd)(T:Bl mg)(L:LT K C)(Mmany:aZ K C "many" fmany)(Gmany:aw P w K mg base CX0 1 fmany fdmany ["self"] (kY C))(Bmany:Binds K fdmany ["self"] [])
  (Gwith_all_of:aw P w K mg base (CXe P w) 6 fw fdw ["greater","lesser"] (mV C CC)) (Dwith_all_of:Nm K mg "with_all_of" fw fdw ["greater","lesser"]):aw P w K mg base (CXe P w) 7 f fd ["one","other"] (gf C CC):=by
 have sc:=kh
 refine F.okEQ kh (fun vs H Q E h=>?_) (fun cdv A outer s_ H vs Q E hr h=>?_)
 .obtain ⟨p,d,l,p2,d2,l2,s,t,rfl,_⟩:=h
  rfl
 .obtain ⟨p,d,l,p2,d2,l2,s,t,rfl,LA,LB,I,J,st,tt,n1,n2,md⟩:=h
  have hu:=hr.units0
  refine ⟨_,(af (aX (aD gl (aR (qv 0) L.cl Mmany Gmany (hr.mono (by decide)) Bmany .nil aB) (aR (qv 1) L.cl Mmany Gmany (hr.mono (by decide)) Bmany .nil aB) (aH _)) (ao (aF (au Gwith_all_of (hr.mono (by decide)) rfl Dwith_all_of.m Dwith_all_of.k Dwith_all_of.b .nil (bO fun _ _ z=>z) (ad (qv 1) (ad (qv 0) aj))))) aK)
   (ao (aF (au Gwith_all_of (hr.mono (by decide)) rfl Dwith_all_of.m Dwith_all_of.k Dwith_all_of.b .nil (bO fun _ _ z=>z) (ad (qv 0) (ad (qv 1) aj)))))),?_⟩
  obtain ⟨dx,hp⟩:=LA.ob
  obtain ⟨ks,hd,kr⟩:=LA.dc
  obtain ⟨dx2,hp2⟩:=LB.ob
  obtain ⟨ks2,hd2,kr2⟩:=LB.dc
  have e1:=kr.len
  have e2:=kr2.len
  have ex:∀{a b:LS} {n:Str},n∈a.there.map (·.1)->Gm.dget a.there n≠none:=fun h z=>Gm.dget_none.mp z h
  refine ⟨_,rfl,p,dx,_,rfl,hp,lfn,p,dx,d,_,ks,rfl,hp,bp,hd,_,rfl,p2,dx2,_,rfl,hp2,lfn,p2,dx2,d2,_,ks2,rfl,hp2,bp,hd2,_,_,rfl,rfl,_,rfl,aI (fun c=>?_) (fun c=>?_)⟩
  .have c':(ks.length:Int)<ks2.length:=of_decide_eq_true c
   refine ⟨_,rfl,_,rfl,p2,d2,l2,p,d,l,t,s,rfl,LB,LA,J,I,tt,st,n2,?_⟩
   rcases md with ⟨⟨n,a,b⟩,k⟩ | ⟨⟨z,z2⟩,k⟩ | ⟨dis,W,k⟩
   .exact .inl ⟨⟨n,a,fun z=>Gm.dget_none.mp z b⟩,k⟩
   .rw [z2] at e2
    have:ks2.length=0:=e2
    lia
   .exact .inr (.inr ⟨fun n hn=>Gm.dget_none.mpr fun z=>dis n hn z,W.swap,fun l2' l' t' s' H' j W' kk f2 f1=>k l' l2' s' t' H' true (fun _=>j) (fun z=>nomatch z) W'.swap (fun b u e n=>kk b u e (sW n))⟩)
  .refine ⟨_,rfl,_,rfl,p,d,l,p2,d2,l2,s,t,rfl,LA,LB,I,J,st,tt,n1,?_⟩
   rcases md with ⟨⟨n,a,b⟩,k⟩ | ⟨⟨z,z2⟩,k⟩ | ⟨dis,W,k⟩
   .exact .inl ⟨⟨n,b,fun z=>Gm.dget_none.mp z a⟩,k⟩
   .exact .inr (.inl ⟨z2,k⟩)
   .exact .inr (.inr ⟨fun n hn=>Gm.dget_none.mpr fun z=>dis n z hn,W,fun l' l2' s' t' H' j W' kk f1 f2=>k l' l2' s' t' H' false (fun z=>nomatch z) (fun _=>j) W' kk⟩)
end
end Kx
end
section
namespace Kx
open PySem L2
section
variable {P:Program}{w:World}{K:PySem.W.Frag}{mg:Str->Option Value}{base:Heap}
open Hm
structure Xs (K:PySem.W.Frag)(CH CC CN CA:Addr):Prop where
 xC:PySem.W.excIn K CC bmV "ValueError.__new__"=true
 xN:PySem.W.excIn K CN bmV "ValueError.__new__"=true
 sC:dh K CC (.ref CH)=true
 sN:dh K CN (.ref CH)=true
 kC:XcK K CC
 kN:XcK K CN
 vC:PySem.W.kitOne K (.ref CC) (.type "ValueError")=some true
 vN:PySem.W.kitOne K (.ref CN) (.type "ValueError")=some true
 aC:PySem.W.kitOne K (.ref CC) (.ref CA)=some false
 aN:PySem.W.kitOne K (.ref CN) (.ref CA)=some false
 cC:PySem.W.kitOne K (.ref CC) (.ref CC)=some true
 cN:PySem.W.kitOne K (.ref CN) (.ref CC)=some false
 nC:PySem.W.kitOne K (.ref CC) (.ref CN)=some false
 nN:PySem.W.kitOne K (.ref CN) (.ref CN)=some true
theorem vc {n:Nat}{H:Hp}{xs ys:List V}{es:List En}(a:RR H xs es)(b:RR H ys es):AlL K H (n+1) xs ys:=by
 refine ⟨a.len.trans b.len.symm,fun i x y ex ey=>?_⟩
 obtain ⟨a1,rfl,h1⟩:=a.mem x (List.mem_of_getElem? ex)
 obtain ⟨a2,rfl,h2⟩:=b.mem y (List.mem_of_getElem? ey)
 have e:tE H (.ref a1)=tE H (.ref a2):=by
  have f1:(xs.map (tE H))[i]?=some (tE H (.ref a1)):=by rw [List.getElem?_map,ex];rfl
  have f2:(ys.map (tE H))[i]?=some (tE H (.ref a2)):=by rw [List.getElem?_map,ey];rfl
  rw [a.eq] at f1
  rw [b.eq,f1] at f2
  exact Option.some.inj f2
 rw [e] at h1
 exact .tup (SqT.of h1) (SqT.of h2) rfl fun j x y ex ey=>by
  rw [ex] at ey
  cases ey
  refine .same ?_
  have m:=List.mem_of_getElem? ex
  unfold enV at m
  simp only [List.mem_cons,List.not_mem_nil,or_false] at m
  rcases m with rfl | rfl | rfl <;> rfl
abbrev iC:Stmt:=a8 (top 18) 6
theorem sj:FnScope ["self"] ["self"] (ai iC):=fsc fun nd=>⟨rfl,rfl,rfl,nd,rfl,by decide +kernel,by decide +kernel⟩
def rO (C:Addr):Sp:=fun vs H Q _=>∃ (p d l:Addr) (s:LS),vs=[.ref p]/\LateAt C H p d l s/\∀q xs H',H' q=some (.tup xs)->RR H' xs s.row->Same H H'->Q (.ref q) H'
theorem xi {f C:Addr}{fd:FuncData}(F:Fun K "row" "Late.row" iC f fd)(T:Bl mg)(L:LT K C):aw P w K mg base CX0 1 f fd ["self"] (rO C):=by
 have sc:=sj
 refine F.ok sj (fun vs H Q E h=>?_) (fun cdv A outer s H vs Q E hr h=>?_)
 .obtain ⟨p,d,l,s,rfl,_⟩:=h
  rfl
 .obtain ⟨p,d,l,s,rfl,LA,k⟩:=h
  have hu:=hr.units0
  obtain ⟨dx,hp⟩:=LA.ob
  obtain ⟨xs,hx,rr⟩:=LA.ls
  refine ⟨_,(QSs.to (ao (aF (bD dO (by rfl) T.z_tuple (by decide +kernel) (ad (a6 (qv 0) rfl) aj))))),?_⟩
  refine ⟨_,rfl,p,C,dx,_,_,rfl,hp,L.cl,L.en,gs,l,xs,rfl,.inl ⟨SqL.of hx,fun q hq=>?_⟩⟩
  exact k q xs _ ae (rr.stay fun b z h=>ap hq _ _ h) (ap hq)
abbrev gj:Stmt:=a8 (top 18) 7
theorem mQ:FnScope ["self"] ["self"] (ai gj):=fsc fun nd=>⟨rfl,rfl,rfl,nd,rfl,by decide +kernel,by decide +kernel⟩
def m8 (C:Addr):Sp:=fun vs H Q _=>∃ (p d l:Addr) (s:LS),vs=[.ref p]/\LateAt C H p d l s/\Q (.int s.looks) H
theorem tz {f C:Addr}{fd:FuncData}(F:Fun K "work" "Late.work" gj f fd)(T:Bl mg)(L:LT K C):aw P w K mg base CX0 1 f fd ["self"] (m8 C):=by
 have sc:=mQ
 refine F.ok mQ (fun vs H Q E h=>?_) (fun cdv A outer s H vs Q E hr h=>?_)
 .obtain ⟨p,d,l,s,rfl,_⟩:=h
  rfl
 .obtain ⟨p,d,l,s,rfl,LA,k⟩:=h
  have hu:=hr.units0
  obtain ⟨dx,hp⟩:=LA.ob
  refine ⟨_,(QSs.to (ao (aF (a6 (qv 0) rfl)))),?_⟩
  exact ⟨_,rfl,p,C,dx,_,_,rfl,hp,L.cl,L.lk,nc,k⟩
theorem qU {H:Hp}{n:Nat}{zs ys:List V}{L:List (Str×Int)}(a:PR H zs L)(b:PR H ys L):AlL K H (n+1) zs ys:=by
 refine ⟨(Paired.length a).trans (Paired.length b).symm,fun i x y ex ey=>?_⟩
 obtain ⟨p,e1,a1,rfl,h1⟩:=bP a ex
 obtain ⟨p2,e2,a2,rfl,h2⟩:=bP b ey
 rw [e1] at e2
 cases e2
 exact .tup (SqT.of h1) (SqT.of h2) rfl fun j x y ex ey=>by
  rw [ex] at ey
  cases ey
  refine .same ?_
  have m:=List.mem_of_getElem? ex
  simp only [List.mem_cons,List.not_mem_nil,or_false] at m
  rcases m with rfl | rfl <;> rfl
abbrev iQ:Stmt:=top 37
theorem rT:FnScope ["one","other","caught","e"] ["one","other"] (ai iQ):=fsc fun nd=>⟨rfl,rfl,rfl,nd,rfl,by decide +kernel,by decide +kernel⟩
def lM (C CC:Addr):Sp:=fun vs H Q _=>∃ (p d l p2 d2 l2:Addr) (s t:LS),vs=[.ref p,.ref p2]/\LateAt C H p d l s/\LateAt C H p2 d2 l2 t/\Gm.LInv slt s/\Gm.LInv slt t/\s.stamp<=400/\t.stamp<=400/\(∀n∈t.there.map (·.1),n.length<=1000)/\(∀n∈s.there.map (·.1),n.length<=1000) /\
 (((∃ n,n∈s.there.map (·.1)/\n∈t.there.map (·.1))/\∀e H',H' e=some (xcO e CC)->Same H H'->Q (.ref e) H')∨((s.there=[]/\t.there=[])/\∀H',Same H H'->Q .non H'))
theorem u4 {f C CC CH CN CA fg:Addr}{fd fdg:FuncData}(F:Fun K "_law_said" "_law_said" iQ f fd)(T:Bl mg)(L:LT K C)(mClash:mg "Clash"=some (.ref CC))(XX:Xs K CH CC CN CA)(sCC:dh K CC (.ref CC)=true)
  (Gput_together:aw P w K mg base (CXe P w) 7 fg fdg ["one","other"] (gf C CC)) (Dput_together:Nm K mg "put_together" fg fdg ["one","other"]):aw P w K mg base CX0 8 f fd ["one","other"] (lM C CC):=by
 have sc:=rT
 refine F.okQ rT (fun vs H Q E h=>?_) (fun cdv A outer s_ H vs Q E hr h=>?_)
 .obtain ⟨p,d,l,p2,d2,l2,s,t,rfl,_⟩:=h
  rfl
 .obtain ⟨p,d,l,p2,d2,l2,s,t,rfl,LA,LB,I,J,st,tt,n1,n2,md⟩:=h
  refine ⟨_,(af (aq (i:=2) sc.nd rfl (Or.inl rfl) qH)
   (af (QS.mk (w6 (i:=3) (rA (rK (rj Gput_together (hr.mono (by decide)) rfl Dput_together.m Dput_together.k Dput_together.b .nil (QA.to (ad (qv 0) (ad (qv 1) aj)))))) rfl rfl rfl mClash PySem.F.excBase_ValueError XX.xC sc.nd rfl rfl (fun e=>QSs.to (ao (aq (i:=2) sc.nd rfl (Or.inl rfl) (qv 3))))))
   (ao (aF (qv 2))))),?_⟩
  refine ⟨_,rfl,_,rfl,p,d,l,p2,d2,l2,s,t,rfl,LA,LB,I,J,st,tt,n1,n2,?_⟩
  rcases md with ⟨ex,k⟩ | ⟨z,k⟩
  .exact .inl ⟨ex,fun H' s1=>⟨CC,bmV,_,rfl,XX.xC,sCC,fun e he=>⟨_,rfl,_,rfl,k e _ ae (s1.trans (ap he))⟩⟩⟩
  .exact .inr (.inl ⟨z,fun H' s1=>⟨_,rfl,k H' s1⟩⟩)
def KpR (H:Hp)(zs:List V)(us:List LS):Prop:=Paired (fun (v:V) (u:LS)=>∃ (a q1 q2:Addr) (xs z2:List V) (ys:List Str),v=.ref a/\H a=some (.tup [.ref q1,.ref q2,.int u.looks])/\H q1=some (.tup xs)/\RR H xs u.row/\H q2=some (.tup z2)/\PR H z2 (ys.map fun n=>(n,wOf u.there n))/\ys.Perm (u.there.map (·.1))/\ys.Pairwise (fun x y=>slt y x=false)) zs us
theorem KpR.stay {H H':Hp}{zs:List V}{us:List LS}(r:KpR H zs us)(k:∀b l,H b=some (.tup l)->H' b=some (.tup l)):KpR H' zs us:=Paired.mapP r fun p u ⟨a,q1,q2,xs,z2,ys,e,h1,h2,h3,h4,h5,h6,h7⟩=>⟨a,q1,q2,xs,z2,ys,e,k _ _ h1,k _ _ h2,h3.stay k,k _ _ h4,h5.stay k,h6,h7⟩
theorem xx {H:Hp}{zs zs':List V}{us:List LS}(a:KpR H zs us)(b:KpR H zs' us):AlL K H 8 zs zs':=by
 refine ⟨(Paired.length a).trans (Paired.length b).symm,fun i x y ex ey=>?_⟩
 obtain ⟨u,e1,a1,q1,q2,xs,z2,ys,rfl,h1,h2,h3,h4,h5,h6,h7⟩:=bP a ex
 obtain ⟨u',e2,b1,r1,r2,xs',z2',ys',rfl,g1,g2,g3,g4,g5,g6,g7⟩:=bP b ey
 rw [e1] at e2
 cases e2
 have ey:=kJ h6 g6 h7 g7
 subst ey
 obtain ⟨la,ca⟩:=vc (K:=K) (n:=4) h3 g3
 obtain ⟨lb,cb⟩:=qU (K:=K) (n:=4) h5 g5
 refine .tup (SqT.of h1) (SqT.of g1) rfl fun j x y hx hy=>?_
 match j,hx,hy with
 | 0,hx,hy=>cases hx;cases hy;exact .tup (n:=6) (SqT.of h2) (SqT.of g2) la fun i x y a b=>(vc (K:=K) (n:=5) h3 g3).2 i x y a b
 | 1,hx,hy=>cases hx;cases hy;exact .tup (n:=6) (SqT.of h4) (SqT.of g4) lb fun i x y a b=>(qU (K:=K) (n:=5) h5 g5).2 i x y a b
 | 2,hx,hy=>cases hx;cases hy;exact .same rfl
 | j+3,hx,_=>cases hx
abbrev bL:Stmt:=top 38
theorem iM:FnScope ["one","other","kept","caught"] ["one","other"] (ai bL):=fsc fun nd=>⟨rfl,rfl,rfl,nd,rfl,by decide +kernel,by decide +kernel⟩
def io (C:Addr):Sp:=fun vs H Q _=>∃ (p d l p2 d2 l2:Addr) (s t:LS),vs=[.ref p,.ref p2]/\LateAt C H p d l s/\LateAt C H p2 d2 l2 t/\Gm.LInv slt s/\Gm.LInv slt t/\s.stamp<=400/\t.stamp<=400/\(∀n∈t.there.map (·.1),n.length<=1000)/\(∀n∈s.there.map (·.1),n.length<=1000)/\(∃ n,n∈s.there.map (·.1)/\n∈t.there.map (·.1))/\∀H',Same H H'->Q (.bl true) H'
theorem lw {f C CC CH CN CA fs frow fthings fwork:Addr}{fd fds fdrow fdthings fdwork:FuncData}(F:Fun K "_law_clashes" "_law_clashes" bL f fd)(T:Bl mg)(L:LT K C)(z_ValueError:mg "ValueError"=none)(mHeapError:mg "HeapError"=some (.ref CH))(mNoThing:mg "NoThing"=some (.ref CN))(mNoAsk:mg "NoAsk"=some (.ref CA))(XX:Xs K CH CC CN CA)(hh:PySem.W.kitOne K (.ref CC) (.ref CH)=some true)
  (Mrow:aZ K C "row" frow) (Grow:aw P w K mg base CX0 1 frow fdrow ["self"] (rO C)) (Brow:Binds K fdrow ["self"] []) (Mthings:aZ K C "things" fthings) (Gthings:aw P w K mg base CX0 1 fthings fdthings ["self"] (fm C)) (Bthings:Binds K fdthings ["self"] []) (Mwork:aZ K C "work" fwork) (Gwork:aw P w K mg base CX0 1 fwork fdwork ["self"] (m8 C)) (Bwork:Binds K fdwork ["self"] [])
  (G_law_said:aw P w K mg base CX0 8 fs fds ["one","other"] (lM C CC)) (D_law_said:Nm K mg "_law_said" fs fds ["one","other"]):aw P w K mg base CX0 9 f fd ["one","other"] (io C):=by
 have sc:=iM
 refine F.okQ iM (fun vs H Q E h=>?_) (fun cdv A outer s_ H vs Q E hr h=>?_)
 .obtain ⟨p,d,l,p2,d2,l2,s,t,rfl,_⟩:=h
  rfl
 .obtain ⟨p,d,l,p2,d2,l2,s,t,rfl,LA,LB,I,J,st,tt,n1,n2,ex,k⟩:=h
  have hu:=hr.units0
  have hu1:=hr.u100
  have tl1:=I.tl
  have tl2:=J.tl
  refine ⟨_,(af (gF (i:=2) sc.nd rfl (Or.inl rfl) (Blk.of (N:=["one","other","kept","caught"]) (esc:=ai bL) (NB:=[]) (cap:=[]) rfl rfl (fun y hy=>bv hy) rfl (by decide +kernel) (by decide +kernel) (by decide +kernel) rfl (by decide +kernel) rfl (by decide +kernel)) rfl rfl (jy (a9 (ad (qv 0) (ad (qv 1) aj)))) (fun C fp s₀ H₀=>eI) (fun C fp s₀ H₀=>(a9 (ad (aR (qv 0) L.cl Mrow Grow (hr.mono (by decide)) Brow .nil aB) (ad (aR (qv 0) L.cl Mthings Gthings (hr.mono (by decide)) Bthings .nil aB) (ad (aR (qv 0) L.cl Mwork Gwork (hr.mono (by decide)) Bwork .nil aB) aj))))))
   (af (aq (i:=3) sc.nd rfl (Or.inl rfl) (au G_law_said (hr.mono (by decide)) rfl D_law_said.m D_law_said.k D_law_said.b .nil aB (ad (qv 0) (ad (qv 1) aj))))
   (af (aX (QW.pt (vj (cM (cW (aG ix (by rfl) T.z_isinstance (by decide +kernel) (ad (qv 3) (ad (gy (v:=.ref CH) rfl mHeapError rfl) aj))))) (rg (cM (cW (aG ix (by rfl) T.z_isinstance (by decide +kernel) (ad (qv 3) (ad (uz (v:=.ty "ValueError") (u:=.type "ValueError") (by rfl) z_ValueError (by decide +kernel) (by rfl)) aj)))))))) (ao (aF mF)) aK)
   (af (aX (cW (aG lJ (by rfl) T.z_isinstance (by decide +kernel) (ad (qv 3) (ad (a9 (ad (gy (v:=.ref CN) rfl mNoThing rfl) (ad (gy (v:=.ref CA) rfl mNoAsk rfl) aj))) aj)))) (ao (aF mF)) aK)
   (ao (aF (bY (mK hu1) (cy (Blk.of (N:=["one","other","kept","caught"]) (esc:=ai bL) (NB:=[]) (cap:=[]) rfl rfl (fun y hy=>bv hy) rfl (by decide +kernel) (by decide +kernel) (by decide +kernel) rfl (by decide +kernel) rfl (by decide +kernel)) rfl rfl (jy (a9 (ad (qv 0) (ad (qv 1) aj)))) (fun C fp s₀ H₀=>eI) (fun C fp s₀ H₀=>(a9 (ad (aR (qv 0) L.cl Mrow Grow (hr.mono (by decide)) Brow .nil aB) (ad (aR (qv 0) L.cl Mthings Gthings (hr.mono (by decide)) Bthings .nil aB) (ad (aR (qv 0) L.cl Mwork Gwork (hr.mono (by decide)) Bwork .nil aB) aj)))))) (qv 2) (aH _)))))))),?_⟩
  refine ⟨_,rfl,_,rfl,by show 2<=sizeLine;decide,fun q0 hq0=>⟨q0,rfl,⟨_,SqT.of ae⟩,fun D hD=>?_⟩⟩
  have s0:=ap (o:=.tup [.ref p,.ref p2]) hq0
  have g0:=ae (H:=H) (a:=q0) (o:=.tup [.ref p,.ref p2])
  generalize upd H q0 (.tup [.ref p,.ref p2])=H0 at s0 g0 hD ⊢
  refine iG (K:=K) (a:=q0) (xs:=[.ref p,.ref p2]) (fun i zs H4=>H4 D=some (.lst zs)/\KpR H4 zs ([s,t].take i)/\Same H0 H4) ⟨ae,.nil,ap hD⟩ (fun i zs H4 z=>⟨z.1,SqT.of (z.2.2 _ _ g0)⟩) ?_ ?_
  .rintro i x zs H4 hx ⟨h4,kr4,s4⟩
   obtain ⟨pp,dd,ll,u,rfl,hu_,LU,lu⟩:∃ (pp dd ll:Addr) (u:LS),x=.ref pp/\[s,t][i]?=some u/\LateAt C H0 pp dd ll u/\u.there.length<=900:=by
    match i,hx with
    | 0,hx=>cases hx;exact ⟨p,d,l,s,rfl,rfl,LA.same s0,by lia⟩
    | 1,hx=>cases hx;exact ⟨p2,d2,l2,t,rfl,rfl,LB.same s0,by lia⟩
    | i+2,hx=>cases hx
   have hi:i<2:=(List.getElem?_eq_some_iff.mp hu_).1
   unfold lT
   dsimp only
   rw [if_pos rfl]
   have L4:=LU.same s4
   obtain ⟨dx4,hp4⟩:=L4.ob
   refine ⟨_,rfl,pp,dx4,_,rfl,hp4,lfn,pp,dd,ll,u,rfl,L4,fun q1 xs H5 hq1 rr5 s5=>?_⟩
   have L5:=L4.same s5
   obtain ⟨dx5,hp5⟩:=L5.ob
   obtain ⟨ks5,hd5,kr5⟩:=L5.dc
   refine ⟨_,rfl,pp,dx5,_,rfl,hp5,lfn,pp,dx5,dd,_,ks5,u.there,rfl,hp5,bp,hd5,kr5,by rw [kr5.len];lia,fun q2 z2 ys H6 pm srt hq2 pr6 s6=>?_⟩
   have L6:=L5.same s6
   obtain ⟨dx6,hp6⟩:=L6.ob
   refine ⟨_,rfl,pp,dx6,_,rfl,hp6,lfn,pp,dd,ll,u,rfl,L6,by show 3<=sizeLine;decide,fun qt hqt=>?_⟩
   have lz:zs.length=i:=by
    have:=Paired.length kr4
    rw [List.length_take] at this
    have l2:[s,t].length=2:=rfl
    lia
   have h6:=s6 _ _ (s5 _ _ h4)
   have tne:qt≠D:=fun z=>by rw [z,h6] at hqt;cases hqt
   refine ⟨by rw [ak tne.symm];exact h6,by rw [lz];exact aS (by lia),_,(by show 2-(i+1)<2-i;lia),rfl,(by show i+1<=2;lia),ae,?_,fun b o h=>?_⟩
   .have et:[s,t].take (i+1)=[s,t].take i++[u]:=by rw [List.take_add_one,hu_];rfl
    rw [et]
    have tk:∀b z,H6 b=some (.tup z)->upd (upd H6 qt (.tup [.ref q1,.ref q2,.int u.looks])) D (.lst (zs++[.ref qt])) b=some (.tup z):=fun b z e=>by
     rw [ak (bx e h6 (by intro z;cases z)),ak (am e hqt)]
     exact e
    refine Paired.snoc ((kr4.stay fun b z e=>s6 _ _ (s5 _ _ e)).stay tk) ⟨qt,q1,q2,xs,z2,ys,rfl,?_,tk _ _ (s6 _ _ hq1),(rr5.stay fun b z e=>s6 _ _ e).stay tk,tk _ _ hq2,pr6.stay tk,pm,srt⟩
    rw [ak tne,ae]
   .have h7:=s6 _ _ (s5 _ _ (s4 _ _ h))
    rw [ak (am h hD),ak (am h7 hqt)]
    exact h7
  rintro zs H4 ⟨h4,kr4,s4⟩
  have hkept:=h4
  have kr0:=kr4
  have s04:=s0.trans s4
  clear hD
  refine ⟨_,rfl,_,rfl,p,d,l,p2,d2,l2,s,t,rfl,LA.same s04,LB.same s04,I,J,st,tt,n1,n2,.inl ⟨ex,fun e H5 he s5=>?_⟩⟩
  refine ⟨_,rfl,e,CC,.ref CH,.ref CH,true,rfl,he,XX.kC,(fun u r=>by cases r;rfl),hh,_,rfl,eZ ?_⟩
  refine ⟨_,rfl,e,CC,.ty "ValueError",.type "ValueError",true,rfl,he,XX.kC,(fun u r=>by cases r;rfl),XX.vC,_,rfl,eZ ?_⟩
  refine ⟨_,rfl,by show 2<=sizeLine;decide,fun qx hqx=>?_⟩
  have s6:=ap (o:=.tup [.ref CN,.ref CA]) hqx
  have g6:=ae (H:=H5) (a:=qx) (o:=.tup [.ref CN,.ref CA])
  generalize upd H5 qx (.tup [.ref CN,.ref CA])=H6 at s6 g6 ⊢
  refine ⟨e,CC,qx,CN,CA,false,rfl,s6 _ _ he,XX.kC,g6,rR XX.nC XX.aC,_,rfl,eZ ?_⟩
  have s46:=s5.trans s6
  have s06:=s04.trans s46
  refine ⟨_,rfl,_,rfl,by show 2<=sizeLine;decide,fun q9 hq9=>⟨q9,rfl,⟨_,SqT.of ae⟩,fun D hD=>?_⟩⟩
  have s7:=ap (o:=.tup [.ref p,.ref p2]) hq9
  have g7:=ae (H:=H6) (a:=q9) (o:=.tup [.ref p,.ref p2])
  generalize upd H6 q9 (.tup [.ref p,.ref p2])=H7 at s7 g7 hD ⊢
  have s07:=s06.trans s7
  have s47:=s46.trans s7
  have hk7:=s47 _ _ hkept
  have kr7:=kr0.stay fun b l e=>s47 _ _ e
  clear kr4 h4 s4
  refine iG (K:=K) (a:=q9) (xs:=[.ref p,.ref p2]) (fun i zs H4=>H4 D=some (.lst zs)/\KpR H4 zs ([s,t].take i)/\Same H7 H4) ⟨ae,.nil,ap hD⟩ (fun i zs H4 z=>⟨z.1,SqT.of (z.2.2 _ _ g7)⟩) ?_ ?_
  .rintro i x zs H4 hx ⟨h4,kr4,s4⟩
   obtain ⟨pp,dd,ll,u,rfl,hu_,LU,lu⟩:∃ (pp dd ll:Addr) (u:LS),x=.ref pp/\[s,t][i]?=some u/\LateAt C H7 pp dd ll u/\u.there.length<=900:=by
    match i,hx with
    | 0,hx=>cases hx;exact ⟨p,d,l,s,rfl,rfl,LA.same s07,by lia⟩
    | 1,hx=>cases hx;exact ⟨p2,d2,l2,t,rfl,rfl,LB.same s07,by lia⟩
    | i+2,hx=>cases hx
   have hi:i<2:=(List.getElem?_eq_some_iff.mp hu_).1
   unfold lT
   dsimp only
   rw [if_pos rfl]
   have L4:=LU.same s4
   obtain ⟨dx4,hp4⟩:=L4.ob
   refine ⟨_,rfl,pp,dx4,_,rfl,hp4,lfn,pp,dd,ll,u,rfl,L4,fun q1 xs H5 hq1 rr5 s5=>?_⟩
   have L5:=L4.same s5
   obtain ⟨dx5,hp5⟩:=L5.ob
   obtain ⟨ks5,hd5,kr5⟩:=L5.dc
   refine ⟨_,rfl,pp,dx5,_,rfl,hp5,lfn,pp,dx5,dd,_,ks5,u.there,rfl,hp5,bp,hd5,kr5,by rw [kr5.len];lia,fun q2 z2 ys H6 pm srt hq2 pr6 s6=>?_⟩
   have L6:=L5.same s6
   obtain ⟨dx6,hp6⟩:=L6.ob
   refine ⟨_,rfl,pp,dx6,_,rfl,hp6,lfn,pp,dd,ll,u,rfl,L6,by show 3<=sizeLine;decide,fun qt hqt=>?_⟩
   have lz:zs.length=i:=by
    have:=Paired.length kr4
    rw [List.length_take] at this
    have l2:[s,t].length=2:=rfl
    lia
   have h6:=s6 _ _ (s5 _ _ h4)
   have tne:qt≠D:=fun z=>by rw [z,h6] at hqt;cases hqt
   refine ⟨by rw [ak tne.symm];exact h6,by rw [lz];exact aS (by lia),_,(by show 2-(i+1)<2-i;lia),rfl,(by show i+1<=2;lia),ae,?_,fun b o h=>?_⟩
   .have et:[s,t].take (i+1)=[s,t].take i++[u]:=by rw [List.take_add_one,hu_];rfl
    rw [et]
    have tk:∀b z,H6 b=some (.tup z)->upd (upd H6 qt (.tup [.ref q1,.ref q2,.int u.looks])) D (.lst (zs++[.ref qt])) b=some (.tup z):=fun b z e=>by
     rw [ak (bx e h6 (by intro z;cases z)),ak (am e hqt)]
     exact e
    refine Paired.snoc ((kr4.stay fun b z e=>s6 _ _ (s5 _ _ e)).stay tk) ⟨qt,q1,q2,xs,z2,ys,rfl,?_,tk _ _ (s6 _ _ hq1),(rr5.stay fun b z e=>s6 _ _ e).stay tk,tk _ _ hq2,pr6.stay tk,pm,srt⟩
    rw [ak tne,ae]
   .have h7:=s6 _ _ (s5 _ _ (s4 _ _ h))
    rw [ak (am h hD),ak (am h7 hqt)]
    exact h7
  rintro zs9 H4 ⟨h4,kr4,s4⟩
  refine ⟨_,rfl,_,_,zs9,zs,rfl,rfl,SqL.of h4,SqL.of (s4 _ _ hk7),xx kr4 (kr7.stay fun b l e=>s4 _ _ e),?_⟩
  exact k _ (s07.trans s4)
end
end Kx
end
section
namespace Kx
open PySem L2
section
variable {P:Program}{w:World}{K:PySem.W.Frag}{mg:Str->Option Value}{base:Heap}
open Hm
theorem iH {H H':Hp}{p dx:Addr}{x y:HO}(hp:H p=none)(hdx:H dx=none)(k:Kept [p] (upd (upd H dx x) p y) H'):Same H H':=fun b o e=>by
 have np:b≠p:=am e hp
 refine k b o ?_ (fun z=>np (List.mem_singleton.mp z))
 rw [ak np,ak (am e hdx)]
 exact e
def kN (H:Hp):V->Str×Int
 | .ref a=>match H a with
  | some (.tup [.str n,.int w])=>(n,w)
  | _=>("",0)
 | _=>("",0)
theorem PR.key {H:Hp}{zs:List V}{L:List (Str×Int)}(r:PR H zs L):zs.map (kN H)=L:=by
 induction r with
 | nil=>rfl
 | cons h _ ih =>
  obtain ⟨a,rfl,e⟩:=h
  rw [List.map_cons,ih]
  congr 1
  show (match H a with | some (.tup [.str n,.int w])=>(n,w) | _=>(("":Str),(0:Int)))=_
  rw [e]
theorem PR.mem {H:Hp}{zs:List V}{L:List (Str×Int)}(r:PR H zs L):∀x∈zs,∃ a,x=.ref a/\H a=some (.tup [.str (kN H x).1,.int (kN H x).2]):=by
 induction r with
 | nil=>intro x h;cases h
 | cons h _ ih =>
  intro x hx
  rcases List.mem_cons.mp hx with rfl | hx
  .obtain ⟨a,rfl,e⟩:=h
   refine ⟨a,rfl,?_⟩
   have z:kN H (.ref a)=_:=show (match H a with | some (.tup [.str n,.int w])=>(n,w) | _=>(("":Str),(0:Int)))=_ by rw [e]
   rw [z]
   exact e
  .exact ih x hx
theorem PR.of {H:Hp}{zs:List V}(h:∀x∈zs,∃ a,x=.ref a/\H a=some (.tup [.str (kN H x).1,.int (kN H x).2])):PR H zs (zs.map (kN H)):=by
 induction zs with
 | nil=>exact .nil
 | cons x zs ih=>exact .cons (h x List.mem_cons_self) (ih fun y hy=>h y (List.mem_cons_of_mem _ hy))
theorem PR.app {H:Hp}{zs ys:List V}{L M:List (Str×Int)}(r:PR H zs L)(q:PR H ys M):PR H (zs++ys) (L++M):=by
 induction r with
 | nil=>exact q
 | cons h _ ih=>exact .cons h ih
section
variable {C p d l p2 d2 l2:Addr}{H H':Hp}{s t:LS}
theorem Two.nin (W:Two C H p d l p2 d2 l2 s t){b:Addr}{u:HO}(h:H b=some u)(h1:∀C dx fs,u≠.ins C dx fs)(h2:∀ks,u=.dK ks->b≠d/\b≠d2)(h3:∀xs,u=.lst xs->b≠l/\b≠l2):b∉F6 p d l p2 d2 l2:=fun z=>by
 have a1:=W.la.nin h (fun _ _ _ e=>absurd e (h1 _ _ _)) (fun ks e=>(h2 ks e).1) (fun xs e=>(h3 xs e).1)
 have a2:=W.lb.nin h (fun _ _ _ e=>absurd e (h1 _ _ _)) (fun ks e=>(h2 ks e).2) (fun xs e=>(h3 xs e).2)
 simp only [List.mem_cons,List.not_mem_nil,or_false,not_or] at a1 a2
 simp only [F6,List.mem_cons,List.not_mem_nil,or_false] at z
 rcases z with z | z | z | z | z | z
 .exact a1.1 z
 .exact a1.2.1 z
 .exact a1.2.2 z
 .exact a2.1 z
 .exact a2.2.1 z
 .exact a2.2.2 z
theorem Two.tk (W:Two C H p d l p2 d2 l2 s t)(k:Kept (F6 p d l p2 d2 l2) H H'):∀b zs,H b=some (.tup zs)->H' b=some (.tup zs):=fun b zs e=>k _ _ e (W.nin e (fun _ _ _ z=>nomatch z) (fun _ z=>nomatch z) (fun _ z=>nomatch z))
theorem Two.pick (W:Two C H p d l p2 d2 l2 s t)(b:Bool):LateAt C H (cond b p2 p) (cond b d2 d) (cond b l2 l) (cond b t s):=by
 cases b
 .exact W.la
 .exact W.lb
end
theorem kF {xs:List V}{a b:Option Int}:∀v∈jv xs a b,v∈xs:=fun v h=>List.mem_of_mem_drop (List.mem_of_mem_take h)
theorem nz {ns:List V}{T:List (Str×En)}(h:InN ns (thW T)){n:Str}(hn:n∈T.map (·.1)):V.str n∈ns:=by
 obtain ⟨p,hp,rfl⟩:=List.mem_map.mp hn
 exact h (p.1,p.2.w) (List.mem_map.mpr ⟨p,hp,rfl⟩)
structure TwoS (H:Hp)(st r td st2 r2 td2:Addr)(s t:LS):Prop where
 a:StAt H st r td s s.looks
 b:StAt H st2 r2 td2 t t.looks
 tt:td≠td2
 ts:st2≠td
theorem TwoS.same {H H':Hp}{st r td st2 r2 td2:Addr}{s t:LS}(W:TwoS H st r td st2 r2 td2 s t)(k:Same H H'):TwoS H' st r td st2 r2 td2 s t:=⟨W.a.same k,W.b.same k,W.tt,W.ts⟩
abbrev hW:Stmt:=top 39
theorem vW:FnScope ["script","pile","many","count","slack","names","deeds","state","looks","most","start","other_deeds","other_state","one","other","things","found"] ["script"] (ai hW):=fsc fun nd=>⟨rfl,rfl,rfl,nd,rfl,by decide +kernel,by decide +kernel⟩
def nj (K:PySem.W.Frag):Sp:=fun vs H Q _=>∃ (a:Addr) (ns:List Int),vs=[.ref a]/\SqL K H a (ns.map V.int)/\ns.length<=63/\∀H',Q (.bl true) H'
theorem wI {f C CC fI fmany fthings a_law_pile a_law_next a_law_sizes a_law_names a_law_run a_law_put_through aput_together a_law_clashes a_law_said:Addr}{fd fdI fdmany fdthings f_law_pile f_law_next f_law_sizes f_law_names f_law_run f_law_put_through fput_together f_law_clashes f_law_said:FuncData}(F:Fun K "law" "law" hW f fd)(T:Bl mg)(L:LT K C)(mLate:mg "Late"=some (.ref C))(MkLate:Mk K C fI)(GLate__init__:aw P w K mg base CX0 2 fI fdI ["self","slack"] (mP C))(BLate__init__:Binds K fdI ["self","slack"] [])
  (Mmany:aZ K C "many" fmany) (Gmany:aw P w K mg base CX0 1 fmany fdmany ["self"] (kY C)) (Bmany:Binds K fdmany ["self"] []) (Mthings:aZ K C "things" fthings) (Gthings:aw P w K mg base CX0 1 fthings fdthings ["self"] (fm C)) (Bthings:Binds K fdthings ["self"] [])
  (G_law_pile:aw P w K mg base CX0 1 a_law_pile f_law_pile ["script"] (rl K)) (D_law_pile:Nm K mg "_law_pile" a_law_pile f_law_pile ["script"])
  (G_law_next:aw P w K mg base CX0 1 a_law_next f_law_next ["pile","most"] (gk K)) (D_law_next:Nm K mg "_law_next" a_law_next f_law_next ["pile","most"])
  (G_law_sizes:aw P w K mg base CX0 2 a_law_sizes f_law_sizes ["pile"] (mE K)) (D_law_sizes:Nm K mg "_law_sizes" a_law_sizes f_law_sizes ["pile"])
  (G_law_names:aw P w K mg base CX0 2 a_law_names f_law_names ["pile","many"] (j6 K)) (D_law_names:Nm K mg "_law_names" a_law_names f_law_names ["pile","many"])
  (G_law_run:aw P w K mg base CX0 4 a_law_run f_law_run ["pile","names","slack","many"] (vJ K)) (D_law_run:Nm K mg "_law_run" a_law_run f_law_run ["pile","names","slack","many"])
  (G_law_put_through:aw P w K mg base CX0 7 a_law_put_through f_law_put_through ["heap","deeds"] (im C)) (D_law_put_through:Nm K mg "_law_put_through" a_law_put_through f_law_put_through ["heap","deeds"])
  (Gput_together:aw P w K mg base (CXe P w) 7 aput_together fput_together ["one","other"] (gf C CC)) (Dput_together:Nm K mg "put_together" aput_together fput_together ["one","other"])
  (G_law_clashes:aw P w K mg base CX0 9 a_law_clashes f_law_clashes ["one","other"] (io C)) (D_law_clashes:Nm K mg "_law_clashes" a_law_clashes f_law_clashes ["one","other"])
  (G_law_said:aw P w K mg base CX0 8 a_law_said f_law_said ["one","other"] (lM C CC)) (D_law_said:Nm K mg "_law_said" a_law_said f_law_said ["one","other"]) :
  aw P w K mg base CX0 11 f fd ["script"] (nj K):=by
 have sc:=vW
 refine F.okQ vW (fun vs H Q E h=>?_) (fun cdv A outer s_ H vs Q E hr h=>?_)
 .obtain ⟨a,ns,rfl,_⟩:=h
  rfl
 .obtain ⟨a,ns,rfl,hS,hn0,k⟩:=h
  have hu:=hr.units0
  have hu1:=hr.u100
  refine ⟨_,(af (aq (i:=1) sc.nd rfl (Or.inl rfl) (au G_law_pile (hr.mono (by decide)) rfl D_law_pile.m D_law_pile.k D_law_pile.b .nil aB (ad (qv 0) aj)))
   (af (bA (au G_law_sizes (hr.mono (by decide)) rfl D_law_sizes.m D_law_sizes.k D_law_sizes.b .nil aB (ad (qv 1) aj)) (lL rfl (be (bf (i:=2) sc.nd rfl (Or.inl rfl)) (be (bf (i:=3) sc.nd rfl (Or.inl rfl)) (be (bf (i:=4) sc.nd rfl (Or.inl rfl)) eW)))))
   (af (aq (i:=5) sc.nd rfl (Or.inl rfl) (au G_law_names (hr.mono (by decide)) rfl D_law_names.m D_law_names.k D_law_names.b .nil aB (ad (qv 1) (ad (ay aM (qv 2) ag) aj))))
   (af (bA (au G_law_run (hr.mono (by decide)) rfl D_law_run.m D_law_run.k D_law_run.b .nil aB (ad (qv 1) (ad (eO nX (qv 5) jB (eE (qv 2))) (ad (qv 4) (ad (qv 3) aj))))) (lL rfl (be (bf (i:=6) sc.nd rfl (Or.inl rfl)) (be (bf (i:=7) sc.nd rfl (Or.inl rfl)) (be (bf (i:=8) sc.nd rfl (Or.inl rfl)) (be (bf (i:=9) sc.nd rfl (Or.inl rfl)) eW))))))
   (af (aq (i:=10) sc.nd rfl (Or.inl rfl) (au G_law_next (hr.mono (by decide)) rfl D_law_next.m D_law_next.k D_law_next.b .nil aB (ad (qv 1) (ad (ay aM (qv 2) ag) aj))))
   (af (qS (bA (au G_law_run (hr.mono (by decide)) rfl D_law_run.m D_law_run.k D_law_run.b .nil aB (ad (qv 1) (ad (eO nX (qv 5) (eE (qv 10)) (eE (ay aM (ay aM (qv 10) ag) (au G_law_next (hr.mono (by decide)) rfl D_law_next.m D_law_next.k D_law_next.b .nil aB (ad (qv 1) (ad ag aj)))))) (ad (qv 4) (ad (qv 3) aj))))) (lL rfl (be (bf (i:=11) sc.nd rfl (Or.inl rfl)) (be (bf (i:=12) sc.nd rfl (Or.inr rfl)) (be (bf (i:=8) sc.nd rfl (Or.inl rfl)) (be (bf (i:=9) sc.nd rfl (Or.inl rfl)) eW)))))))
   (af (aq (i:=13) sc.nd rfl (Or.inl rfl) (nA MkLate GLate__init__ (hr.mono (by decide)) rfl mLate BLate__init__ .nil aB (ad (qv 4) aj)))
   (af (aO (au G_law_put_through (hr.mono (by decide)) rfl D_law_put_through.m D_law_put_through.k D_law_put_through.b .nil aB (ad (qv 13) (ad (qv 6) aj))))
   (af (aq (i:=14) sc.nd rfl (Or.inl rfl) (nA MkLate GLate__init__ (hr.mono (by decide)) rfl mLate BLate__init__ .nil aB (ad (qv 4) aj)))
   (af (aO (au G_law_put_through (hr.mono (by decide)) rfl D_law_put_through.m D_law_put_through.k D_law_put_through.b .nil aB (ad (qv 14) (ad (qv 11) aj))))
   (af (jh (QW.pt (dR (aD (uK hu) (aP (aT hr) (qv 7) ar (fun _ _=>rfl)) cS (aH _)) (cP (cM (cW (au G_law_clashes (hr.mono (by decide)) rfl D_law_clashes.m D_law_clashes.k D_law_clashes.b .nil aB (ad (qv 13) (ad (qv 13) aj)))))))) (ao (aF mF)) aK)
   (af (jh (QW.pt (dR (aD (mL hu) (aP (aT hr) (qv 7) ar (fun _ _=>rfl)) cS (aH _)) (cP (QW.pt (vj (aD uM (au G_law_said (hr.mono (by decide)) rfl D_law_said.m D_law_said.k D_law_said.b .nil aB (ad (qv 13) (ad (qv 13) aj))) qH (aH _)) (rg (aD vb (aR (qv 13) L.cl Mmany Gmany (hr.mono (by decide)) Bmany .nil aB) ag (aH _)))))))) (ao (aF mF)) aK)
   (af (aX (aD (jP hu) (uZ (cy (Blk.of (N:=["script","pile","many","count","slack","names","deeds","state","looks","most","start","other_deeds","other_state","one","other","things","found"]) (esc:=ai hW) (NB:=["other_state"]) (cap:=[12]) rfl rfl (fun y hy=>bv hy) rfl (by decide +kernel) (by decide +kernel) (by decide +kernel) rfl (by decide +kernel) rfl (by decide +kernel)) rfl rfl (tH (aP (aT hr) (qv 7) ar (fun _ _=>rfl))) (fun C fp s₀ H₀=>(gz (qc (aT hr) (qv 0) (aP (aT hr) (qv 1) ar (fun _ _=>rfl))))) (fun C fp s₀ H₀=>(qv 0)))) (bd aj) (aH _)) (ao (aF (rh (au G_law_clashes (hr.mono (by decide)) rfl D_law_clashes.m D_law_clashes.k D_law_clashes.b .nil aB (ad (qv 13) (ad (qv 14) aj))) (qQ (au G_law_clashes (hr.mono (by decide)) rfl D_law_clashes.m D_law_clashes.k D_law_clashes.b .nil aB (ad (qv 14) (ad (qv 13) aj))))))) aK)
   (af (aq (i:=15) sc.nd rfl (Or.inl rfl) (aG hJ (by rfl) T.z_sorted (by decide +kernel) (ad (qE (ay tJ (aR (qv 13) L.cl Mthings Gthings (hr.mono (by decide)) Bthings .nil aB) (aR (qv 14) L.cl Mthings Gthings (hr.mono (by decide)) Bthings .nil aB))) aj)))
   (af (aq (i:=16) sc.nd rfl (Or.inl rfl) (au Gput_together (hr.mono (by decide)) rfl Dput_together.m Dput_together.k Dput_together.b .nil bX (ad (qv 13) (ad (qv 14) aj))))
   (ao (aF (rh (bY (mK hu1) (bD jt (by rfl) T.z_list (by decide +kernel) (ad (aR (qv 16) L.cl Mthings Gthings (hr.mono (by decide)) Bthings .nil aB) aj)) (qv 15) (aH _)) (qQ (bY bV (ay aM (aR (qv 13) L.cl Mmany Gmany (hr.mono (by decide)) Bmany .nil aB) (aR (qv 14) L.cl Mmany Gmany (hr.mono (by decide)) Bmany .nil aB)) (aG aL (by rfl) T.z_len (by decide +kernel) (ad (qv 15) aj)) (aH _))))))))))))))))))))),?_⟩
  refine ⟨_,rfl,a,ns,rfl,hS,hn0,fun pl H1 P1 s1=>?_⟩
  refine ⟨_,rfl,pl,a,ns,rfl,P1,fun o1 mn cn z H2 ho1 mn0 mn1 cn1 z0 P2 K2=>?_⟩
  refine ⟨o1,_,rfl,SqL.of ho1,rfl,_,_,rfl,_,_,rfl,_,_,rfl,rfl,?_⟩
  refine ⟨_,rfl,_,rfl,_,_,rfl,rfl,pl,a,ns,mn+3,rfl,P2,by lia,fun nl nv H4 hnl an nd ln P4 K4 fnl nlp offn=>?_⟩
  refine ⟨_,rfl,_,rfl,_,rfl,(mn:Int),rfl,nl,_,rfl,SqL.of hnl,fun n1 hn1=>?_⟩
  have an1:kI (jv nv none (some (mn:Int))):=fun v hv=>an v (kF v hv)
  have lc1:=cR nv none (some (mn:Int))
  generalize jv nv none (some (mn:Int))=nv1 at an1 lc1 ⊢
  have s5:=ap (o:=.lst nv1) hn1
  have g5:=ae (H:=H4) (a:=n1) (o:=.lst nv1)
  generalize upd H4 n1 (.lst nv1)=H5 at s5 g5 ⊢
  have P5:=P4.same s5
  have n1p:n1≠pl:=(P4.new hn1).1
  have no:∀b,b≠pl->b∉[pl]:=fun b n z=>n (List.mem_singleton.mp z)
  have back:∀b,H5 b=none->H b=none:=fun b hb=>by
   cases e:H b with
   | none=>rfl
   | some u =>
    have n:=(P5.new hb).1
    rw [s5 _ _ (K4 _ _ (K2 _ _ (s1 _ _ e) (no b n)) (no b n))] at hb
    cases hb
  refine ⟨_,rfl,_,rfl,pl,a,ns,n1,nv1,z,cn,rfl,P5,g5,an1,by lia,n1p,by lia,fun oA dl1 ll1 st r td ds1 dz1 lz1 m1 H6 hoA ft1 din1 ld1 hdl1 dd1 O6 P6 K6 fo1 fdl1 fst1 ftd1 fr1 nrd1=>?_⟩
  have tdn:=back td ftd1
  refine ⟨oA,_,rfl,SqL.of hoA,rfl,_,_,rfl,_,_,rfl,_,_,rfl,_,_,rfl,rfl,?_⟩
  have hnl6:=K6 _ _ (s5 _ _ hnl) (no _ nlp)
  refine ⟨_,rfl,_,rfl,_,_,rfl,rfl,pl,a,ns,(mn:Int)+1,rfl,P6,by lia,by lia,fun sx H7 sx0 sx1 P7 K7 N7=>?_⟩
  have O7:=O6.pl P6 (P5.new fr1).1 K7
  have t7:=eQ P6 K7
  have hnl7:=K7 _ _ hnl6 (no _ nlp)
  have hdl7:=K7 _ _ hdl1 (no _ (P5.new fdl1).1)
  have dd7:=dd1.stay t7
  refine ⟨fun σ' H8=>∃ (dl2 ll2 st2 r2 td2:Addr) (ds2:List Deed) (dz2:List V) (m2:Int) (nv2:List V),σ'=[some (.ref a),some (.ref pl),some (.int mn),some (.int cn),some (.int z),some (.ref nl),some (.ref dl1),some (.ref st),some (.ref ll2),some (.int m2),some (.int sx),some (.ref dl2),some (.ref st2),none,none,none,none]/\Fits z ds2/\kI nv2/\(∀x∈ds2,x.inN nv2)/\ds2.length<=cn/\H8 dl2=some (.lst dz2)/\DDs H8 dz2 ds2/\TwoS H8 st r td st2 r2 td2 (ci z ds1) (ci z ds2)/\H8 dl1=some (.lst dz1)/\DDs H8 dz1 ds1,?_,?_⟩
  .refine ⟨_,rfl,_,rfl,_,rfl,sx,rfl,_,rfl,_,_,rfl,rfl,_,rfl,pl,a,ns,8,rfl,P7,by decide,by decide,fun y HY y0 y1 PY KY NY=>?_⟩
   have OY:=O7.pl P7 (P5.new fr1).1 KY
   have tY:=eQ P7 KY
   refine ⟨_,_,rfl,rfl,_,rfl,nl,_,rfl,SqL.of (KY _ _ hnl7 (no _ nlp)),fun n2 hn2=>?_⟩
   have an2:kI (jv nv (some sx) (some (sx+1+y))):=fun v hv=>an v (kF v hv)
   have lc2:=cR nv (some sx) (some (sx+1+y))
   generalize jv nv (some sx) (some (sx+1+y))=nv2 at an2 lc2 ⊢
   have sZ:=ap (o:=.lst nv2) hn2
   have gZ:=ae (H:=HY) (a:=n2) (o:=.lst nv2)
   generalize upd HY n2 (.lst nv2)=HZ at sZ gZ ⊢
   have PZ:=PY.same sZ
   have OZ:=OY.same sZ
   have n2p:n2≠pl:=(PY.new hn2).1
   refine ⟨_,rfl,_,rfl,pl,a,ns,n2,nv2,z,cn,rfl,PZ,gZ,an2,by lia,n2p,by lia,fun oB dl2 ll2 st2 r2 td2 ds2 dz2 lz2 m2 H8 hoB ft2 din2 ld2 hdl2 dd2 O8 P8 K8 fo2 fdl2 fst2 ftd2 fr2 nrd2=>?_⟩
   refine ⟨oB,_,rfl,SqL.of hoB,rfl,_,_,rfl,_,_,rfl,_,_,rfl,_,_,rfl,rfl,?_⟩
   have O8a:=OZ.pl PZ (P5.new fr1).1 K8
   obtain ⟨_,e3,_⟩:=OZ.ht
   exact ⟨dl2,ll2,st2,r2,td2,ds2,dz2,m2,nv2,rfl,ft2,an2,din2,ld2,hdl2,dd2,⟨O8a,O8,am e3 ftd2,(am e3 fst2).symm⟩,K8 _ _ (sZ _ _ (KY _ _ hdl7 (no _ (P5.new fdl1).1))) (no _ (P5.new fdl1).1),((dd7.stay tY).stay fun b l h=>sZ _ _ h).stay (eQ PZ K8)⟩
  rintro σ' H8 ⟨dl2,ll2,st2,r2,td2,ds2,dz2,m2,nv2,rfl,ft2,an2,din2,ld2,hdl2,dd2,TS,hdl1',dd1'⟩
  refine ⟨_,rfl,fun p dx hp hdx ndx=>⟨p,dx,z,rfl,ae,fun d l H9 hd hl LA9 k9=>⟨rfl,?_⟩⟩⟩
  have s89:Same H8 H9:=iH hp hdx k9
  have fd8:H8 d=none:=dq hd
  have fl8:H8 l=none:=dq hl
  have off8:∀b u,H8 b=some u->b∉[p,d,l]:=fun b u e z=>by
   simp only [List.mem_cons,List.not_mem_nil,or_false] at z
   rcases z with y | y | y
   .rw [y,hp] at e;cases e
   .rw [y,fd8] at e;cases e
   .rw [y,fl8] at e;cases e
  have st1:=ft1.stamp
  have st2':=ft2.stamp
  refine ⟨_,rfl,_,rfl,p,d,l,dl1,dz1,ds1,z,rfl,LA9,s89 _ _ hdl1',dd1'.stay (fun b l h=>s89 _ _ h),ft1,(fun x hx=>vh an1 (din1 x hx)),by lia,am hdl1' fl8,fun l' HA LA kA fA=>?_⟩
  have s8A:Same H8 HA:=fun b u e=>kA b u (s89 _ _ e) (off8 b u e)
  have fl':H8 l'=none:=by
   rcases fA with y | y
   .rw [y];exact fl8
   .cases e:H8 l' with
    | none=>rfl
    | some u=>rw [s89 _ _ e] at y;cases y
  refine ⟨_,rfl,fun p2 dx2 hp2 hdx2 ndx2=>⟨p2,dx2,z,rfl,ae,fun d2 l2 HB hd2 hl2 LB kB=>⟨rfl,?_⟩⟩⟩
  have sAB:Same HA HB:=iH hp2 hdx2 kB
  have fdA:HA d2=none:=dq hd2
  have flA:HA l2=none:=dq hl2
  have offA:∀b u,HA b=some u->b∉[p2,d2,l2]:=fun b u e z=>by
   simp only [List.mem_cons,List.not_mem_nil,or_false] at z
   rcases z with y | y | y
   .rw [y,hp2] at e;cases e
   .rw [y,fdA] at e;cases e
   .rw [y,flA] at e;cases e
  have hdl2A:=s8A _ _ hdl2
  refine ⟨_,rfl,_,rfl,p2,d2,l2,dl2,dz2,ds2,z,rfl,LB,sAB _ _ hdl2A,(dd2.stay fun b l h=>s8A _ _ h).stay (fun b l h=>sAB _ _ h),ft2,(fun x hx=>vh an2 (din2 x hx)),by lia,am hdl2A flA,fun l2' HC LC kC fC=>?_⟩
  have sAC:Same HA HC:=fun b u e=>kC b u (sAB _ _ e) (offA b u e)
  have fl2':HA l2'=none:=by
   rcases fC with y | y
   .rw [y];exact flA
   .cases e:HA l2' with
    | none=>rfl
    | some u=>rw [sAB _ _ e] at y;cases y
  have old8:∀{b:Addr},HA b=none->H8 b=none:=fun {b} h=>by
   cases e:H8 b with
   | none=>rfl
   | some u=>rw [s8A _ _ e] at h;cases h
  have W0:Two C HC p d l' p2 d2 l2' (dU z ds1) (dU z ds2):=by
   obtain ⟨_,e1⟩:=LA.ob
   obtain ⟨_,e2,_⟩:=LA.dc
   obtain ⟨_,e3,_⟩:=LA.ls
   exact ⟨LA.same sAC,LC,am e1 hp2,am e2 fdA,am e3 fl2'⟩
  have TS0:=(TS.same s8A).same sAC
  have in1:=ft1.inN din1
  have in2:=ft2.inN din2
  have S1:=ft1.sim
  have S2:=ft2.sim
  have It1:=ft1.invL
  have It2:=ft2.invL
  have eS1:=S1.st
  have eS2:=S2.st
  have len1:∀n∈(dU z ds1).there.map (·.1),n.length<=1000:=fun n hn=>by
   obtain ⟨x,e,lx⟩:=an1 _ (nz in1 (S1.keys.mem_iff.mpr hn))
   cases e
   lia
  have len2:∀n∈(dU z ds2).there.map (·.1),n.length<=1000:=fun n hn=>by
   obtain ⟨x,e,lx⟩:=an2 _ (nz in2 (S2.keys.mem_iff.mpr hn))
   cases e
   lia
  have Is1:=ft1.inv
  have Is2:=ft2.inv
  generalize ci z ds1=sa at *
  generalize ci z ds2=sb at *
  generalize dU z ds1=ra at *
  generalize dU z ds2=rb at *
  clear LA LC TS kC sAC LB
  have ba:ra.stamp<=400:=by lia
  have bb:rb.stamp<=400:=by lia
  clear hdl1' dd1' hdl2A hdl2 dd2 O6 O7 hnl6 hnl7 hdl7 dd7 t7
  obtain ⟨ksA,hksA,krA⟩:=TS0.a.ht
  obtain ⟨ksB,hksB,krB⟩:=TS0.b.ht
  have eA:=krA.len
  have eB:=krB.len
  have eL1:=S1.len
  refine ⟨fun σ' H'=>σ'=[some (.ref a),some (.ref pl),some (.int mn),some (.int cn),some (.int z),some (.ref nl),some (.ref dl1),some (.ref st),some (.ref ll2),some (.int m2),some (.int sx),some (.ref dl2),some (.ref st2),some (.ref p),some (.ref p2),none,none]/\Same HC H',?_,?_⟩
  .refine ⟨_,rfl,st,_,rfl,TS0.a.there,fun dn hdn=>⟨td,dn,ksA,rfl,rfl,ap hdn _ _ hksA,ae,_,rfl,aI (fun c=>?_) (fun c=>eZ ?_)⟩⟩
   .have ne:ra.there≠[]:=fun z=>by
     have:ksA=[]:=List.length_eq_zero_iff.mp (by rw [eA,eL1,z];rfl)
     rw [this] at c
     cases c
    obtain ⟨q0,hq0⟩:=List.exists_mem_of_ne_nil _ ne
    have hq1:q0.1∈ra.there.map (·.1):=List.mem_map.mpr ⟨q0,hq0,rfl⟩
    have LD:=W0.la.same (ap (o:=.dK []) hdn)
    exact ⟨_,rfl,_,rfl,p,d,l',p,d,l',ra,ra,rfl,LD,LD,It1,It1,ba,ba,len1,len1,⟨q0.1,hq1,hq1⟩,fun H' s'=>⟨_,rfl,eZ ⟨rfl,(ap hdn).trans s'⟩⟩⟩
   .exact ⟨rfl,ap hdn⟩
  rintro σ' HD ⟨rfl,sD⟩
  have W1:=W0.same sD
  have TS1:=TS0.same sD
  have hk1:=sD _ _ hksA
  have kr1:=krA.stay (H':=HD) fun b l e=>sD _ _ e
  refine ⟨fun σ' H'=>σ'=[some (.ref a),some (.ref pl),some (.int mn),some (.int cn),some (.int z),some (.ref nl),some (.ref dl1),some (.ref st),some (.ref ll2),some (.int m2),some (.int sx),some (.ref dl2),some (.ref st2),some (.ref p),some (.ref p2),none,none]/\Same HD H',?_,?_⟩
  .refine ⟨_,rfl,st,_,rfl,TS1.a.there,fun dn hdn=>⟨td,dn,ksA,rfl,rfl,ap hdn _ _ hk1,ae,_,rfl,aI (fun c=>?_) (fun c=>eZ ?_)⟩⟩
   .have z:ra.there=[]:=List.length_eq_zero_iff.mp (by rw [<-eL1,<-eA,of_decide_eq_true c];rfl)
    have LD:=W1.la.same (ap (o:=.dK []) hdn)
    refine ⟨_,rfl,_,rfl,p,d,l',p,d,l',ra,ra,rfl,LD,LD,It1,It1,ba,ba,len1,len1,.inr ⟨⟨z,z⟩,fun H' s'=>⟨rfl,_,rfl,aI (fun c=>absurd c (by decide)) (fun _=>?_)⟩⟩⟩
    obtain ⟨dxm,hpm⟩:=(LD.same s').ob
    obtain ⟨ksm,hdm,krm⟩:=(LD.same s').dc
    have em:ksm.length=0:=by rw [krm.len,z];rfl
    refine ⟨_,rfl,p,dxm,_,rfl,hpm,lfn,p,dxm,d,_,ksm,rfl,hpm,bp,hdm,rfl,_,rfl,aI (fun c=>absurd c ?_) (fun _=>⟨rfl,(ap hdn).trans s'⟩)⟩
    rw [em]
    decide
   .exact ⟨rfl,ap hdn⟩
  rintro σ' HE ⟨rfl,sE⟩
  have W2:=W1.same sE
  have TS2:=TS1.same sE
  have hk2:=sE _ _ hk1
  have kr2:=kr1.stay (H':=HE) fun b l e=>sE _ _ e
  have tl1:=It1.tl
  have tl2:=It2.tl
  refine ⟨_,rfl,st,_,rfl,TS2.a.there,td,ksA,rfl,hk2,fun o D hD=>?_⟩
  have nDt:D≠td:=fun z=>by rw [z,ae] at hD;cases hD
  have hDE:HE D=none:=by rw [ak nDt] at hD;exact hD
  refine lV (d:=td) (o:=o) (kvs:=ksA) (fun i zs H8=>H8 D=some (.lst zs)/\H8 td=some (.frz o (.dK ksA))/\zs=((sa.there.take i).filter fun q=>(Gm.dget sb.there q.1).isSome).map (fun q=>V.str q.1)/\Kept [td] HE H8) ⟨ae,by rw [ak nDt.symm,ae],rfl,(Kept.refl.put (by simp)).newer hDE⟩ (fun i zs H8 z=>⟨z.1,z.2.1⟩) ?_ ?_
  .rintro i k' v zs H8 hx ⟨h8,f8,ez,k8⟩
   have li:i<ksA.length:=(List.getElem?_eq_some_iff.mp hx).1
   obtain ⟨n,e,te,rfl⟩:=kr2.at hx
   have t8:=k8.tups (fun b hb ys z=>by rw [List.mem_singleton.mp hb,hk2] at z;cases z)
   have r2n:r2≠td:=by
    obtain ⟨_,e3,_⟩:=TS2.b.hr
    exact bx e3 hk2 (by intro z;cases z)
   have OB:StAt H8 st2 r2 td2 sb sb.looks:=TS2.b.stay (fun b u hb e=>k8 b u e (fun z=>by
    have z:=List.mem_singleton.mp z
    rcases hb with y | y | y
    .exact TS2.ts (y.symm.trans z)
    .exact r2n (y.symm.trans z)
    .exact TS2.tt (z.symm.trans y))) t8
   obtain ⟨ksC,hdC,krC⟩:=OB.ht
   have et:sa.there.take (i+1)=sa.there.take i++[(n,e)]:=by rw [List.take_add_one,te];rfl
   refine ⟨_,rfl,_,rfl,st2,_,rfl,OB.there,td2,_,rfl,DGet.k (k:=Sum.inr n) hdC,_,rfl,aI (fun c=>?_) (fun c=>?_)⟩
   .have yes:(Gm.dget sb.there n).isSome=true:=by
     rcases krC.get n with ⟨e1,_⟩ | ⟨_,e',_,e2,_⟩
     .rw [e1] at c;cases c
     .rw [e2];rfl
    have lz:zs.length<=i:=by
     rw [ez,List.length_map]
     exact Nat.le_trans (List.length_filter_le _ _) (List.length_take_le _ _)
    refine ⟨_,rfl,h8,aS (by lia),_,by lia,rfl,by lia,ae,by rw [ak nDt.symm];exact f8,?_,k8.newer hDE⟩
    rw [et,List.filter_append,List.map_append,<-ez]
    congr 1
    rw [List.filter_cons,if_pos (show (Gm.dget sb.there (n,e).1).isSome=true from yes)]
    rfl
   .have nop:¬ (Gm.dget sb.there n).isSome=true:=by
     rcases krC.get n with ⟨_,e2⟩ | ⟨_,e',e1,_,_⟩
     .rw [e2];exact Bool.false_ne_true
     .rw [e1] at c;exact absurd rfl c
    refine ⟨_,by lia,rfl,by lia,h8,f8,?_,k8⟩
    rw [et,List.filter_append,List.filter_cons,if_neg (show ¬ (Gm.dget sb.there (n,e).1).isSome=true from nop),List.filter_nil,List.append_nil,ez]
  rintro zs H8 ⟨h8,f8,ez,k8⟩
  rw [eA,List.take_length] at ez
  refine ⟨td,o,ksA,f8,fun o u z=>(by rw [show (bh CX0 P w K mg base _ _ _ f cdv A outer s_ H E).nox.H₀ td=H td from rfl,tdn] at z;cases z),?_⟩
  have h9:(upd H8 td (.dK ksA)) D=some (.lst zs):=by rw [ak nDt];exact h8
  have s9:Same HE (upd H8 td (.dK ksA)):=fun b o2 h=>by
   by_cases z:b=td
   .subst z
    rw [hk2] at h
    cases h
    exact ae
   .rw [ak z]
    exact k8 b o2 h (fun y=>z (List.mem_singleton.mp y))
  generalize upd H8 td (.dK ksA)=H9 at h9 s9 ⊢
  refine ⟨by show 0<=sizeLine;decide,fun y hy=>?_⟩
  have s10:=ap (o:=.lst []) hy
  have g10:=ae (H:=H9) (a:=y) (o:=.lst [])
  generalize upd H9 y (.lst [])=HF at s10 g10 ⊢
  have W3:=W2.same (s9.trans s10)
  refine ⟨D,y,zs,rfl,rfl,SqL.of (s10 _ _ h9),SqL.of g10,_,rfl,aI (fun c=>?_) (fun c=>?_)⟩
  .have ne:zs≠[]:=fun z=>by rw [z] at c;cases c
   obtain ⟨n,hn1,hn2⟩:∃ n,n∈ra.there.map (·.1)/\n∈rb.there.map (·.1):=by
    obtain ⟨v,hv⟩:=List.exists_mem_of_ne_nil _ ne
    rw [ez] at hv
    obtain ⟨q0,hq0,_⟩:=List.mem_map.mp hv
    obtain ⟨m1',m2'⟩:=List.mem_filter.mp hq0
    exact ⟨q0.1,S1.keys.mem_iff.mp (List.mem_map.mpr ⟨q0,m1',rfl⟩),S2.keys.mem_iff.mp (get_mem.mp m2')⟩
   exact ⟨_,rfl,_,rfl,p,d,l',p2,d2,l2',ra,rb,rfl,W3.la,W3.lb,It1,It2,ba,bb,len2,len1,⟨n,hn1,hn2⟩,fun H' s'=>⟨_,rfl,pH ⟨_,rfl,_,rfl,p2,d2,l2',p,d,l',rb,ra,rfl,W3.lb.same s',W3.la.same s',It2,It1,bb,ba,len1,len2,⟨n,hn2,hn1⟩,fun H'' s''=>k _⟩⟩⟩
  have z0:zs=[]:=by
   by_cases z:zs=[]
   .exact z
   .exact absurd (by rw [decide_eq_false z];rfl) c
  have dis:∀n,n∈ra.there.map (·.1)->n∈rb.there.map (·.1)->False:=fun n a1 a2=>by
   obtain ⟨q0,hq0,rfl⟩:=List.mem_map.mp (S1.keys.mem_iff.mpr a1)
   have m:V.str q0.1∈zs:=by
    rw [ez]
    exact List.mem_map.mpr ⟨q0,List.mem_filter.mpr ⟨hq0,get_mem.mpr (S2.keys.mem_iff.mpr a2)⟩,rfl⟩
   rw [z0] at m
   cases m
  refine ⟨fun v H'=>∃ (qq:Addr) (zz:List V) (ys1 ys2:List Str),v=.ref qq/\H' qq=some (.tup zz)/\PR H' zz ((ys1.map fun n=>(n,wOf ra.there n))++ys2.map fun n=>(n,wOf rb.there n))/\ys1.Perm (ra.there.map (·.1))/\ys2.Perm (rb.there.map (·.1))/\Same HF H',?_,?_⟩
  .obtain ⟨dx1,hp1⟩:=W3.la.ob
   obtain ⟨ks1,hd1,kq1⟩:=W3.la.dc
   refine ⟨_,rfl,p,dx1,_,rfl,hp1,lfn,p,dx1,d,_,ks1,ra.there,rfl,hp1,bp,hd1,kq1,by rw [kq1.len];lia,fun q1 zs1 ys1 HG pm1 srt1 hq1 pr1 sG=>?_⟩
   have W4:=W3.same sG
   obtain ⟨dx2',hp2'⟩:=W4.lb.ob
   obtain ⟨ks2,hd2',kq2⟩:=W4.lb.dc
   refine ⟨_,rfl,p2,dx2',_,rfl,hp2',lfn,p2,dx2',d2,_,ks2,rb.there,rfl,hp2',bp,hd2',kq2,by rw [kq2.len];lia,fun q2 zs2 ys2 HI pm2 srt2 hq2 pr2 sI=>?_⟩
   have prA:=(pr1.stay (H':=HI) fun b z e=>sI _ _ e).app pr2
   have lz1:zs1.length=ra.there.length:=by
    have:=Paired.length pr1
    rw [List.length_map,pm1.length_eq,List.length_map] at this
    exact this
   have lz2:zs2.length=rb.there.length:=by
    have:=Paired.length pr2
    rw [List.length_map,pm2.length_eq,List.length_map] at this
    exact this
   refine ⟨q1,q2,zs1,zs2,rfl,rfl,SqT.of (sI _ _ hq1),SqT.of hq2,Nat.le_of_lt (aS (by lia)),fun z=>?_,fun _ z=>?_,fun _ _ qt hqt=>?_⟩
   .rw [z] at prA
    exact ⟨q2,zs2,ys1,ys2,rfl,hq2,prA,pm1,pm2,sG.trans sI⟩
   .rw [z,List.append_nil] at prA
    exact ⟨q1,zs1,ys1,ys2,rfl,sI _ _ hq1,prA,pm1,pm2,sG.trans sI⟩
   .have st':=ap (o:=.tup (zs1++zs2)) hqt
    exact ⟨qt,_,ys1,ys2,rfl,ae,prA.stay fun b z e=>st' _ _ e,pm1,pm2,(sG.trans sI).trans st'⟩
  rintro v HI ⟨qq,zz,ys1,ys2,rfl,hqq,prA,pm1,pm2,sI⟩
  have W4:=W3.same sI
  refine ⟨qq,_,kN HI,rfl,SqT.of hqq,fun x hx=>?_,fun tl ts htl pms srts=>?_⟩
  .obtain ⟨a1,e1,e2⟩:=PR.mem prA x hx
   exact ⟨a1,e1,SqT.of e2⟩
  have pLT:(ts.map (kN HI)).Perm (thW ra.there++thW rb.there):=by
   refine (pms.map _).trans ?_
   rw [PR.key prA]
   exact (dS It1 pm1).append (dS It2 pm2)
  have sLT:(ts.map (kN HI)).Pairwise fun x y=>ltN y x=false:=List.pairwise_map.mpr srts
  have prT:PR HI ts (ts.map (kN HI)):=PR.of fun x hx=>PR.mem prA x (pms.mem_iff.mp hx)
  have lts:ts.length=ra.there.length+rb.there.length:=by
   have:=pLT.length_eq
   unfold thW at this
   rw [List.length_map,List.length_append,List.length_map,List.length_map] at this
   exact this
  generalize ts.map (kN HI)=LT at pLT sLT prT
  have s5':=ap (o:=.lst ts) htl
  have g5':=ae (H:=HI) (a:=tl) (o:=.lst ts)
  have ntl:tl≠l'/\tl≠l2':=by
   obtain ⟨xs,e,_⟩:=W4.la.ls
   obtain ⟨xs',e',_⟩:=W4.lb.ls
   exact ⟨(am e htl).symm,(am e' htl).symm⟩
  generalize upd HI tl (.lst ts)=HJ at s5' g5' ⊢
  have W5:=W4.same s5'
  have prJ:=prT.stay (H':=HJ) fun b z e=>s5' _ _ e
  refine ⟨_,rfl,_,rfl,p,d,l',p2,d2,l2',ra,rb,rfl,W5.la,W5.lb,It1,It2,ba,bb,len2,len1,.inr (.inr ⟨dis,W5,fun la lb ta tb HK b j1 j2 W6 k6=>?_⟩)⟩
  have htl6:=k6 _ _ g5' (W5.nin g5' (fun _ _ _ z=>nomatch z) (fun _ z=>nomatch z) (fun _ _=>ntl))
  have prK:=prJ.stay (W5.tk k6)
  have LG:=W6.pick b
  obtain ⟨Ig,pg,lg⟩:Gm.LInv slt (cond b tb ta)/\(thW (cond b tb ta).there).Perm (thW ra.there++thW rb.there)/\ta.there.length+tb.there.length=ra.there.length+rb.there.length:=by
   have len:∀{x y u:LS},(thW u.there).Perm (thW x.there++thW y.there)->u.there.length=x.there.length+y.there.length:=fun h=>by
    have:=h.length_eq
    unfold thW at this
    rw [List.length_map,List.length_append,List.length_map,List.length_map] at this
    exact this
   cases b with
   | true =>
    have j:=j1 rfl
    have e1:=len j.pm
    have e2:ta.there.length=0:=by rw [j.nb];rfl
    exact ⟨j.ia,j.pm.trans List.perm_append_comm,by lia⟩
   | false =>
    have j:=j2 rfl
    have e1:=len j.pm
    have e2:tb.there.length=0:=by rw [j.nb];rfl
    exact ⟨j.ia,j.pm,by lia⟩
  generalize cond b p2 p=pf at LG ⊢
  generalize cond b d2 d=df at LG
  generalize cond b lb la=lf at LG
  generalize cond b tb ta=g at LG Ig pg
  have lgt:g.there.length=ra.there.length+rb.there.length:=by
   have:=pg.length_eq
   unfold thW at this
   rw [List.length_map,List.length_append,List.length_map,List.length_map] at this
   exact this
  obtain ⟨dxf,hpf⟩:=LG.ob
  obtain ⟨ksf,hdf,krf⟩:=LG.dc
  refine ⟨_,rfl,pf,dxf,_,rfl,hpf,lfn,pf,dxf,df,_,ksf,g.there,rfl,hpf,bp,hdf,krf,by rw [krf.len];lia,fun qf zsf ysf HL pmf srtf hqf prf sL=>?_⟩
  refine ⟨qf,zsf,rfl,.inr (SqT.of hqf),fun lx hlx=>?_⟩
  have sM:=ap (o:=.lst zsf) hlx
  have gM:=ae (H:=HL) (a:=lx) (o:=.lst zsf)
  generalize upd HL lx (.lst zsf)=HM at sM gM ⊢
  have eLF:(ysf.map fun n=>(n,wOf g.there n))=LT:=wC ((dS Ig pmf).trans (pg.trans pLT.symm)) (oW (pmf.nodup_iff.mpr Ig.nd) srtf) sLT
  rw [eLF] at prf
  have sLM:=sL.trans sM
  refine ⟨_,rfl,lx,tl,zsf,ts,rfl,rfl,SqL.of gM,SqL.of (sLM _ _ htl6),qU (prf.stay fun b z e=>sM _ _ e) (prK.stay fun b z e=>sLM _ _ e),_,rfl,pH ?_⟩
  have W7:=W6.same sLM
  obtain ⟨dx7,hp7⟩:=W7.la.ob
  obtain ⟨ks7,hd7,kr7⟩:=W7.la.dc
  obtain ⟨dx8,hp8⟩:=W7.lb.ob
  obtain ⟨ks8,hd8,kr8⟩:=W7.lb.dc
  refine ⟨_,rfl,p,dx7,_,rfl,hp7,lfn,p,dx7,d,_,ks7,rfl,hp7,bp,hd7,_,rfl,p2,dx8,_,rfl,hp8,lfn,p2,dx8,d2,_,ks8,rfl,hp8,bp,hd8,_,_,rfl,rfl,_,rfl,tl,ts,rfl,.inl (SqL.of (sLM _ _ htl6)),rfl,?_⟩
  rw [decide_eq_true (show V.int ((ks7.length:Int)+ks8.length)=V.int (ts.length:Int) from by congr 1;rw [kr7.len,kr8.len];lia)]
  exact k _
end
end Kx
end
section
namespace Kx
open PySem L2
section
variable {P:Program}{w:World}{K:PySem.W.Frag}{mg:Str->Option Value}{base:Heap}
theorem all_mk {l:PySem.W.OpenLaw}{w:World}{K:PySem.W.Frag}{h:Heap}{mg:Str->Option Value}{fa C CB CH CA CC CN f_exch f_lift f_lay f_ld f_cutf f_order f_ninit f_holds f_need f_free f_any f_stamped f_linit f_enter f_cut f_sweep f_first f_put f_drop f_change f_least f_take2 f_many f_things f_row f_work f_pile f_next f_pnames f_pworth f_down f_raised f_off f_new f_isthere f_added f_sweptS f_refused f_done f_deedP f_run f_sizes f_through f_withx f_puttogx f_said f_clashes f_law:Addr}(X:K.In h)(G:h.Ns mainGlobals mg)(hfa:mg "law"=some (.ref fa))
  {cddCA cddCC cddCN cddCH:ClassData}  {od_exch an_exch od_lift an_lift od_lay an_lay od_ld an_ld od_cutf an_cutf od_order an_order od_ninit an_ninit od_holds an_holds od_need an_need od_free an_free od_any an_any od_stamped an_stamped od_linit an_linit od_enter an_enter od_cut an_cut od_sweep an_sweep od_first an_first od_put an_put od_drop an_drop od_change an_change od_least an_least od_take2 an_take2 od_many an_many od_things an_things od_row an_row od_work an_work od_pile an_pile od_next an_next od_pnames an_pnames od_pworth an_pworth od_down an_down od_raised an_raised od_off an_off od_new an_new od_isthere an_isthere od_added an_added od_sweptS an_sweptS od_refused an_refused od_done an_done od_deedP an_deedP od_run an_run od_sizes an_sizes od_through an_through od_withx an_withx od_puttogx an_puttogx od_said an_said od_clashes an_clashes od_law an_law:Option Addr} {sl_exch sl_lift sl_lay sl_ld sl_cutf sl_order sl_ninit sl_holds sl_need sl_free sl_any sl_stamped sl_linit sl_enter sl_cut sl_sweep sl_first sl_put sl_drop sl_change sl_least sl_take2 sl_many sl_things sl_row sl_work sl_pile sl_next sl_pnames sl_pworth sl_down sl_raised sl_off sl_new sl_isthere sl_added sl_sweptS sl_refused sl_done sl_deedP sl_run sl_sizes sl_through sl_withx sl_puttogx sl_said sl_clashes sl_law:Array (Option Value)} {oc_exch kV_exch dc_exch pm_exch cd_exch ct_exch oc_lift kV_lift dc_lift pm_lift cd_lift ct_lift oc_lay kV_lay dc_lay pm_lay cd_lay ct_lay oc_ld kV_ld dc_ld pm_ld cd_ld ct_ld oc_cutf kV_cutf dc_cutf pm_cutf cd_cutf ct_cutf oc_order kV_order dc_order pm_order cd_order ct_order oc_ninit kV_ninit dc_ninit pm_ninit cd_ninit ct_ninit oc_holds kV_holds dc_holds pm_holds cd_holds ct_holds oc_need kV_need dc_need pm_need cd_need ct_need oc_free kV_free dc_free pm_free cd_free ct_free oc_any kV_any dc_any pm_any cd_any ct_any oc_stamped kV_stamped dc_stamped pm_stamped cd_stamped ct_stamped oc_linit kV_linit dc_linit pm_linit cd_linit ct_linit oc_enter kV_enter dc_enter pm_enter cd_enter ct_enter oc_cut kV_cut dc_cut pm_cut cd_cut ct_cut oc_sweep kV_sweep dc_sweep pm_sweep cd_sweep ct_sweep oc_first kV_first dc_first pm_first cd_first ct_first oc_put kV_put dc_put pm_put cd_put ct_put oc_drop kV_drop dc_drop pm_drop cd_drop ct_drop oc_change kV_change dc_change pm_change cd_change ct_change oc_least kV_least dc_least pm_least cd_least ct_least oc_take2 kV_take2 dc_take2 pm_take2 cd_take2 ct_take2 oc_many kV_many dc_many pm_many cd_many ct_many oc_things kV_things dc_things pm_things cd_things ct_things oc_row kV_row dc_row pm_row cd_row ct_row oc_work kV_work dc_work pm_work cd_work ct_work oc_pile kV_pile dc_pile pm_pile cd_pile ct_pile oc_next kV_next dc_next pm_next cd_next ct_next oc_pnames kV_pnames dc_pnames pm_pnames cd_pnames ct_pnames oc_pworth kV_pworth dc_pworth pm_pworth cd_pworth ct_pworth oc_down kV_down dc_down pm_down cd_down ct_down oc_raised kV_raised dc_raised pm_raised cd_raised ct_raised oc_off kV_off dc_off pm_off cd_off ct_off oc_new kV_new dc_new pm_new cd_new ct_new oc_isthere kV_isthere dc_isthere pm_isthere cd_isthere ct_isthere oc_added kV_added dc_added pm_added cd_added ct_added oc_sweptS kV_sweptS dc_sweptS pm_sweptS cd_sweptS ct_sweptS oc_refused kV_refused dc_refused pm_refused cd_refused ct_refused oc_done kV_done dc_done pm_done cd_done ct_done oc_deedP kV_deedP dc_deedP pm_deedP cd_deedP ct_deedP oc_run kV_run dc_run pm_run cd_run ct_run oc_sizes kV_sizes dc_sizes pm_sizes cd_sizes ct_sizes oc_through kV_through dc_through pm_through cd_through ct_through oc_withx kV_withx dc_withx pm_withx cd_withx ct_withx oc_puttogx kV_puttogx dc_puttogx pm_puttogx cd_puttogx ct_puttogx oc_said kV_said dc_said pm_said cd_said ct_said oc_clashes kV_clashes dc_clashes pm_clashes cd_clashes ct_clashes oc_law kV_law dc_law pm_law cd_law ct_law:Value}
  (aC:PySem.W.nsIn K mainGlobals "Late"=some (some (.ref C)))
  (aCB:PySem.W.nsIn K mainGlobals "Named"=some (some (.ref CB)))
  (aCH:PySem.W.nsIn K mainGlobals "HeapError"=some (some (.ref CH)))
  (aCC:PySem.W.nsIn K mainGlobals "Clash"=some (some (.ref CC)))
  (aCN:PySem.W.nsIn K mainGlobals "NoThing"=some (some (.ref CN)))
  (aCA:PySem.W.nsIn K mainGlobals "NoAsk"=some (some (.ref CA)))
  (a_exch:PySem.W.nsIn K mainGlobals "exchange"=some (some (.ref f_exch)))
  (l_exch:K.lookup f_exch=some ⟨oc_exch,od_exch,.func (PySem.W.fnOf "exchange" "exchange" (aA iS) (av iS) (ai iS) .none kV_exch dc_exch pm_exch an_exch cd_exch ct_exch),sl_exch⟩)
  (c_exch:PySem.W.codeIn K cd_exch "exchange"=true)
  (k_exch:PySem.W.keepIn K (.ref f_exch)=true)
  (a_lift:PySem.W.nsIn K mainGlobals "lift"=some (some (.ref f_lift)))
  (l_lift:K.lookup f_lift=some ⟨oc_lift,od_lift,.func (PySem.W.fnOf "lift" "lift" (aA iz) (av iz) (ai iz) .none kV_lift dc_lift pm_lift an_lift cd_lift ct_lift),sl_lift⟩)
  (c_lift:PySem.W.codeIn K cd_lift "lift"=true)
  (k_lift:PySem.W.keepIn K (.ref f_lift)=true)
  (a_lay:PySem.W.nsIn K mainGlobals "lay_in"=some (some (.ref f_lay)))
  (l_lay:K.lookup f_lay=some ⟨oc_lay,od_lay,.func (PySem.W.fnOf "lay_in" "lay_in" (aA oy) (av oy) (ai oy) .none kV_lay dc_lay pm_lay an_lay cd_lay ct_lay),sl_lay⟩)
  (c_lay:PySem.W.codeIn K cd_lay "lay_in"=true)
  (k_lay:PySem.W.keepIn K (.ref f_lay)=true)
  (a_ld:PySem.W.nsIn K mainGlobals "let_down"=some (some (.ref f_ld)))
  (l_ld:K.lookup f_ld=some ⟨oc_ld,od_ld,.func (PySem.W.fnOf "let_down" "let_down" (aA cc) (av cc) (ai cc) .none kV_ld dc_ld pm_ld an_ld cd_ld ct_ld),sl_ld⟩)
  (c_ld:PySem.W.codeIn K cd_ld "let_down"=true)
  (k_ld:PySem.W.keepIn K (.ref f_ld)=true)
  (a_cutf:PySem.W.nsIn K mainGlobals "cut_first"=some (some (.ref f_cutf)))
  (l_cutf:K.lookup f_cutf=some ⟨oc_cutf,od_cutf,.func (PySem.W.fnOf "cut_first" "cut_first" (aA oR) (av oR) (ai oR) .none kV_cutf dc_cutf pm_cutf an_cutf cd_cutf ct_cutf),sl_cutf⟩)
  (c_cutf:PySem.W.codeIn K cd_cutf "cut_first"=true)
  (k_cutf:PySem.W.keepIn K (.ref f_cutf)=true)
  (a_order:PySem.W.nsIn K mainGlobals "order"=some (some (.ref f_order)))
  (l_order:K.lookup f_order=some ⟨oc_order,od_order,.func (PySem.W.fnOf "order" "order" (aA fS) (av fS) (ai fS) .none kV_order dc_order pm_order an_order cd_order ct_order),sl_order⟩)
  (c_order:PySem.W.codeIn K cd_order "order"=true)
  (k_order:PySem.W.keepIn K (.ref f_order)=true)
  (a_ninit:PySem.W.findCls K (.ref CB) (.type "type") "__init__"=some (.val (.ref f_ninit)))
  (l_ninit:K.lookup f_ninit=some ⟨oc_ninit,od_ninit,.func (PySem.W.fnOf "__init__" "Named.__init__" (aA fH) (av fH) (ai fH) .none kV_ninit dc_ninit pm_ninit an_ninit cd_ninit ct_ninit),sl_ninit⟩)
  (c_ninit:PySem.W.codeIn K cd_ninit "Named.__init__"=true)
  (k_ninit:PySem.W.keepIn K (.ref f_ninit)=true)
  (a_holds:PySem.W.findIn K (.ref C) "holds"=some (some (.ref f_holds)))
  (i_holds:PySem.W.isFn K (.ref f_holds)=true)
  (l_holds:K.lookup f_holds=some ⟨oc_holds,od_holds,.func (PySem.W.fnOf "holds" "Named.holds" (aA fU) (av fU) (ai fU) .none kV_holds dc_holds pm_holds an_holds cd_holds ct_holds),sl_holds⟩)
  (c_holds:PySem.W.codeIn K cd_holds "Named.holds"=true)
  (k_holds:PySem.W.keepIn K (.ref f_holds)=true)
  (a_need:PySem.W.findIn K (.ref C) "need"=some (some (.ref f_need)))
  (i_need:PySem.W.isFn K (.ref f_need)=true)
  (l_need:K.lookup f_need=some ⟨oc_need,od_need,.func (PySem.W.fnOf "need" "Named.need" (aA iF) (av iF) (ai iF) .none kV_need dc_need pm_need an_need cd_need ct_need),sl_need⟩)
  (c_need:PySem.W.codeIn K cd_need "Named.need"=true)
  (k_need:PySem.W.keepIn K (.ref f_need)=true)
  (a_free:PySem.W.findIn K (.ref C) "need_free"=some (some (.ref f_free)))
  (i_free:PySem.W.isFn K (.ref f_free)=true)
  (l_free:K.lookup f_free=some ⟨oc_free,od_free,.func (PySem.W.fnOf "need_free" "Named.need_free" (aA iW) (av iW) (ai iW) .none kV_free dc_free pm_free an_free cd_free ct_free),sl_free⟩)
  (c_free:PySem.W.codeIn K cd_free "Named.need_free"=true)
  (k_free:PySem.W.keepIn K (.ref f_free)=true)
  (a_any:PySem.W.findIn K (.ref C) "need_any"=some (some (.ref f_any)))
  (i_any:PySem.W.isFn K (.ref f_any)=true)
  (l_any:K.lookup f_any=some ⟨oc_any,od_any,.func (PySem.W.fnOf "need_any" "Named.need_any" (aA oE) (av oE) (ai oE) .none kV_any dc_any pm_any an_any cd_any ct_any),sl_any⟩)
  (c_any:PySem.W.codeIn K cd_any "Named.need_any"=true)
  (k_any:PySem.W.keepIn K (.ref f_any)=true)
  (a_stamped:PySem.W.findIn K (.ref C) "stamped"=some (some (.ref f_stamped)))
  (i_stamped:PySem.W.isFn K (.ref f_stamped)=true)
  (l_stamped:K.lookup f_stamped=some ⟨oc_stamped,od_stamped,.func (PySem.W.fnOf "stamped" "Named.stamped" (aA cg) (av cg) (ai cg) .none kV_stamped dc_stamped pm_stamped an_stamped cd_stamped ct_stamped),sl_stamped⟩)
  (c_stamped:PySem.W.codeIn K cd_stamped "Named.stamped"=true)
  (k_stamped:PySem.W.keepIn K (.ref f_stamped)=true)
  (a_linit:PySem.W.findIn K (.ref C) "__init__"=some (some (.ref f_linit)))
  (i_linit:PySem.W.isFn K (.ref f_linit)=true)
  (l_linit:K.lookup f_linit=some ⟨oc_linit,od_linit,.func (PySem.W.fnOf "__init__" "Late.__init__" (aA gc) (av gc) (ai gc) .none kV_linit dc_linit pm_linit an_linit cd_linit ct_linit),sl_linit⟩)
  (c_linit:PySem.W.codeIn K cd_linit "Late.__init__"=true)
  (k_linit:PySem.W.keepIn K (.ref f_linit)=true)
  (a_enter:PySem.W.findIn K (.ref C) "enter"=some (some (.ref f_enter)))
  (i_enter:PySem.W.isFn K (.ref f_enter)=true)
  (l_enter:K.lookup f_enter=some ⟨oc_enter,od_enter,.func (PySem.W.fnOf "enter" "Late.enter" (aA fP) (av fP) (ai fP) .none kV_enter dc_enter pm_enter an_enter cd_enter ct_enter),sl_enter⟩)
  (c_enter:PySem.W.codeIn K cd_enter "Late.enter"=true)
  (k_enter:PySem.W.keepIn K (.ref f_enter)=true)
  (a_cut:PySem.W.findIn K (.ref C) "cut"=some (some (.ref f_cut)))
  (i_cut:PySem.W.isFn K (.ref f_cut)=true)
  (l_cut:K.lookup f_cut=some ⟨oc_cut,od_cut,.func (PySem.W.fnOf "cut" "Late.cut" (aA iE) (av iE) (ai iE) .none kV_cut dc_cut pm_cut an_cut cd_cut ct_cut),sl_cut⟩)
  (c_cut:PySem.W.codeIn K cd_cut "Late.cut"=true)
  (k_cut:PySem.W.keepIn K (.ref f_cut)=true)
  (a_sweep:PySem.W.findIn K (.ref C) "sweep_if_due"=some (some (.ref f_sweep)))
  (i_sweep:PySem.W.isFn K (.ref f_sweep)=true)
  (l_sweep:K.lookup f_sweep=some ⟨oc_sweep,od_sweep,.func (PySem.W.fnOf "sweep_if_due" "Late.sweep_if_due" (aA ed) (av ed) (ai ed) .none kV_sweep dc_sweep pm_sweep an_sweep cd_sweep ct_sweep),sl_sweep⟩)
  (c_sweep:PySem.W.codeIn K cd_sweep "Late.sweep_if_due"=true)
  (k_sweep:PySem.W.keepIn K (.ref f_sweep)=true)
  (a_first:PySem.W.findIn K (.ref C) "first_there"=some (some (.ref f_first)))
  (i_first:PySem.W.isFn K (.ref f_first)=true)
  (l_first:K.lookup f_first=some ⟨oc_first,od_first,.func (PySem.W.fnOf "first_there" "Late.first_there" (aA fX) (av fX) (ai fX) .none kV_first dc_first pm_first an_first cd_first ct_first),sl_first⟩)
  (c_first:PySem.W.codeIn K cd_first "Late.first_there"=true)
  (k_first:PySem.W.keepIn K (.ref f_first)=true)
  (a_put:PySem.W.findIn K (.ref C) "put"=some (some (.ref f_put)))
  (i_put:PySem.W.isFn K (.ref f_put)=true)
  (l_put:K.lookup f_put=some ⟨oc_put,od_put,.func (PySem.W.fnOf "put" "Late.put" (aA iB) (av iB) (ai iB) .none kV_put dc_put pm_put an_put cd_put ct_put),sl_put⟩)
  (c_put:PySem.W.codeIn K cd_put "Late.put"=true)
  (k_put:PySem.W.keepIn K (.ref f_put)=true)
  (a_drop:PySem.W.findIn K (.ref C) "drop"=some (some (.ref f_drop)))
  (i_drop:PySem.W.isFn K (.ref f_drop)=true)
  (l_drop:K.lookup f_drop=some ⟨oc_drop,od_drop,.func (PySem.W.fnOf "drop" "Late.drop" (aA fz) (av fz) (ai fz) .none kV_drop dc_drop pm_drop an_drop cd_drop ct_drop),sl_drop⟩)
  (c_drop:PySem.W.codeIn K cd_drop "Late.drop"=true)
  (k_drop:PySem.W.keepIn K (.ref f_drop)=true)
  (a_change:PySem.W.findIn K (.ref C) "change"=some (some (.ref f_change)))
  (i_change:PySem.W.isFn K (.ref f_change)=true)
  (l_change:K.lookup f_change=some ⟨oc_change,od_change,.func (PySem.W.fnOf "change" "Late.change" (aA ck) (av ck) (ai ck) .none kV_change dc_change pm_change an_change cd_change ct_change),sl_change⟩)
  (c_change:PySem.W.codeIn K cd_change "Late.change"=true)
  (k_change:PySem.W.keepIn K (.ref f_change)=true)
  (a_least:PySem.W.findIn K (.ref C) "least"=some (some (.ref f_least)))
  (i_least:PySem.W.isFn K (.ref f_least)=true)
  (l_least:K.lookup f_least=some ⟨oc_least,od_least,.func (PySem.W.fnOf "least" "Late.least" (aA dy) (av dy) (ai dy) .none kV_least dc_least pm_least an_least cd_least ct_least),sl_least⟩)
  (c_least:PySem.W.codeIn K cd_least "Late.least"=true)
  (k_least:PySem.W.keepIn K (.ref f_least)=true)
  (a_take2:PySem.W.findIn K (.ref C) "take"=some (some (.ref f_take2)))
  (i_take2:PySem.W.isFn K (.ref f_take2)=true)
  (l_take2:K.lookup f_take2=some ⟨oc_take2,od_take2,.func (PySem.W.fnOf "take" "Late.take" (aA fY) (av fY) (ai fY) .none kV_take2 dc_take2 pm_take2 an_take2 cd_take2 ct_take2),sl_take2⟩)
  (c_take2:PySem.W.codeIn K cd_take2 "Late.take"=true)
  (k_take2:PySem.W.keepIn K (.ref f_take2)=true)
  (a_many:PySem.W.findIn K (.ref C) "many"=some (some (.ref f_many)))
  (i_many:PySem.W.isFn K (.ref f_many)=true)
  (l_many:K.lookup f_many=some ⟨oc_many,od_many,.func (PySem.W.fnOf "many" "Named.many" (aA ic) (av ic) (ai ic) .none kV_many dc_many pm_many an_many cd_many ct_many),sl_many⟩)
  (c_many:PySem.W.codeIn K cd_many "Named.many"=true)
  (k_many:PySem.W.keepIn K (.ref f_many)=true)
  (a_things:PySem.W.findIn K (.ref C) "things"=some (some (.ref f_things)))
  (i_things:PySem.W.isFn K (.ref f_things)=true)
  (l_things:K.lookup f_things=some ⟨oc_things,od_things,.func (PySem.W.fnOf "things" "Named.things" (aA cx) (av cx) (ai cx) .none kV_things dc_things pm_things an_things cd_things ct_things),sl_things⟩)
  (c_things:PySem.W.codeIn K cd_things "Named.things"=true)
  (k_things:PySem.W.keepIn K (.ref f_things)=true)
  (a_row:PySem.W.findIn K (.ref C) "row"=some (some (.ref f_row)))
  (i_row:PySem.W.isFn K (.ref f_row)=true)
  (l_row:K.lookup f_row=some ⟨oc_row,od_row,.func (PySem.W.fnOf "row" "Late.row" (aA iC) (av iC) (ai iC) .none kV_row dc_row pm_row an_row cd_row ct_row),sl_row⟩)
  (c_row:PySem.W.codeIn K cd_row "Late.row"=true)
  (k_row:PySem.W.keepIn K (.ref f_row)=true)
  (a_work:PySem.W.findIn K (.ref C) "work"=some (some (.ref f_work)))
  (i_work:PySem.W.isFn K (.ref f_work)=true)
  (l_work:K.lookup f_work=some ⟨oc_work,od_work,.func (PySem.W.fnOf "work" "Late.work" (aA gj) (av gj) (ai gj) .none kV_work dc_work pm_work an_work cd_work ct_work),sl_work⟩)
  (c_work:PySem.W.codeIn K cd_work "Late.work"=true)
  (k_work:PySem.W.keepIn K (.ref f_work)=true)
  (a_pile:PySem.W.nsIn K mainGlobals "_law_pile"=some (some (.ref f_pile)))
  (l_pile:K.lookup f_pile=some ⟨oc_pile,od_pile,.func (PySem.W.fnOf "_law_pile" "_law_pile" (aA fK) (av fK) (ai fK) .none kV_pile dc_pile pm_pile an_pile cd_pile ct_pile),sl_pile⟩)
  (c_pile:PySem.W.codeIn K cd_pile "_law_pile"=true)
  (k_pile:PySem.W.keepIn K (.ref f_pile)=true)
  (a_next:PySem.W.nsIn K mainGlobals "_law_next"=some (some (.ref f_next)))
  (l_next:K.lookup f_next=some ⟨oc_next,od_next,.func (PySem.W.fnOf "_law_next" "_law_next" (aA gh) (av gh) (ai gh) .none kV_next dc_next pm_next an_next cd_next ct_next),sl_next⟩)
  (c_next:PySem.W.codeIn K cd_next "_law_next"=true)
  (k_next:PySem.W.keepIn K (.ref f_next)=true)
  (a_pnames:PySem.W.nsIn K mainGlobals "_law_names"=some (some (.ref f_pnames)))
  (l_pnames:K.lookup f_pnames=some ⟨oc_pnames,od_pnames,.func (PySem.W.fnOf "_law_names" "_law_names" (aA bW) (av bW) (ai bW) .none kV_pnames dc_pnames pm_pnames an_pnames cd_pnames ct_pnames),sl_pnames⟩)
  (c_pnames:PySem.W.codeIn K cd_pnames "_law_names"=true)
  (k_pnames:PySem.W.keepIn K (.ref f_pnames)=true)
  (a_pworth:PySem.W.nsIn K mainGlobals "_law_worth"=some (some (.ref f_pworth)))
  (l_pworth:K.lookup f_pworth=some ⟨oc_pworth,od_pworth,.func (PySem.W.fnOf "_law_worth" "_law_worth" (aA dH) (av dH) (ai dH) .none kV_pworth dc_pworth pm_pworth an_pworth cd_pworth ct_pworth),sl_pworth⟩)
  (c_pworth:PySem.W.codeIn K cd_pworth "_law_worth"=true)
  (k_pworth:PySem.W.keepIn K (.ref f_pworth)=true)
  (a_down:PySem.W.nsIn K mainGlobals "_law_let_down"=some (some (.ref f_down)))
  (l_down:K.lookup f_down=some ⟨oc_down,od_down,.func (PySem.W.fnOf "_law_let_down" "_law_let_down" (aA iR) (av iR) (ai iR) .none kV_down dc_down pm_down an_down cd_down ct_down),sl_down⟩)
  (c_down:PySem.W.codeIn K cd_down "_law_let_down"=true)
  (k_down:PySem.W.keepIn K (.ref f_down)=true)
  (a_raised:PySem.W.nsIn K mainGlobals "_law_raised"=some (some (.ref f_raised)))
  (l_raised:K.lookup f_raised=some ⟨oc_raised,od_raised,.func (PySem.W.fnOf "_law_raised" "_law_raised" (aA dt) (av dt) (ai dt) .none kV_raised dc_raised pm_raised an_raised cd_raised ct_raised),sl_raised⟩)
  (c_raised:PySem.W.codeIn K cd_raised "_law_raised"=true)
  (k_raised:PySem.W.keepIn K (.ref f_raised)=true)
  (a_off:PySem.W.nsIn K mainGlobals "_law_off"=some (some (.ref f_off)))
  (l_off:K.lookup f_off=some ⟨oc_off,od_off,.func (PySem.W.fnOf "_law_off" "_law_off" (aA pF) (av pF) (ai pF) .none kV_off dc_off pm_off an_off cd_off ct_off),sl_off⟩)
  (c_off:PySem.W.codeIn K cd_off "_law_off"=true)
  (k_off:PySem.W.keepIn K (.ref f_off)=true)
  (a_new:PySem.W.nsIn K mainGlobals "_law_new"=some (some (.ref f_new)))
  (l_new:K.lookup f_new=some ⟨oc_new,od_new,.func (PySem.W.fnOf "_law_new" "_law_new" (aA oJ) (av oJ) (ai oJ) .none kV_new dc_new pm_new an_new cd_new ct_new),sl_new⟩)
  (c_new:PySem.W.codeIn K cd_new "_law_new"=true)
  (k_new:PySem.W.keepIn K (.ref f_new)=true)
  (a_isthere:PySem.W.nsIn K mainGlobals "_law_is_there"=some (some (.ref f_isthere)))
  (l_isthere:K.lookup f_isthere=some ⟨oc_isthere,od_isthere,.func (PySem.W.fnOf "_law_is_there" "_law_is_there" (aA b9) (av b9) (ai b9) .none kV_isthere dc_isthere pm_isthere an_isthere cd_isthere ct_isthere),sl_isthere⟩)
  (c_isthere:PySem.W.codeIn K cd_isthere "_law_is_there"=true)
  (k_isthere:PySem.W.keepIn K (.ref f_isthere)=true)
  (a_added:PySem.W.nsIn K mainGlobals "_law_added"=some (some (.ref f_added)))
  (l_added:K.lookup f_added=some ⟨oc_added,od_added,.func (PySem.W.fnOf "_law_added" "_law_added" (aA fM) (av fM) (ai fM) .none kV_added dc_added pm_added an_added cd_added ct_added),sl_added⟩)
  (c_added:PySem.W.codeIn K cd_added "_law_added"=true)
  (k_added:PySem.W.keepIn K (.ref f_added)=true)
  (a_sweptS:PySem.W.nsIn K mainGlobals "_law_swept"=some (some (.ref f_sweptS)))
  (l_sweptS:K.lookup f_sweptS=some ⟨oc_sweptS,od_sweptS,.func (PySem.W.fnOf "_law_swept" "_law_swept" (aA cI) (av cI) (ai cI) .none kV_sweptS dc_sweptS pm_sweptS an_sweptS cd_sweptS ct_sweptS),sl_sweptS⟩)
  (c_sweptS:PySem.W.codeIn K cd_sweptS "_law_swept"=true)
  (k_sweptS:PySem.W.keepIn K (.ref f_sweptS)=true)
  (a_refused:PySem.W.nsIn K mainGlobals "_law_refused"=some (some (.ref f_refused)))
  (l_refused:K.lookup f_refused=some ⟨oc_refused,od_refused,.func (PySem.W.fnOf "_law_refused" "_law_refused" (aA cf) (av cf) (ai cf) .none kV_refused dc_refused pm_refused an_refused cd_refused ct_refused),sl_refused⟩)
  (c_refused:PySem.W.codeIn K cd_refused "_law_refused"=true)
  (k_refused:PySem.W.keepIn K (.ref f_refused)=true)
  (a_done:PySem.W.nsIn K mainGlobals "_law_done"=some (some (.ref f_done)))
  (l_done:K.lookup f_done=some ⟨oc_done,od_done,.func (PySem.W.fnOf "_law_done" "_law_done" (aA ij) (av ij) (ai ij) .none kV_done dc_done pm_done an_done cd_done ct_done),sl_done⟩)
  (c_done:PySem.W.codeIn K cd_done "_law_done"=true)
  (k_done:PySem.W.keepIn K (.ref f_done)=true)
  (a_deedP:PySem.W.nsIn K mainGlobals "_law_deed"=some (some (.ref f_deedP)))
  (l_deedP:K.lookup f_deedP=some ⟨oc_deedP,od_deedP,.func (PySem.W.fnOf "_law_deed" "_law_deed" (aA dW) (av dW) (ai dW) .none kV_deedP dc_deedP pm_deedP an_deedP cd_deedP ct_deedP),sl_deedP⟩)
  (c_deedP:PySem.W.codeIn K cd_deedP "_law_deed"=true)
  (k_deedP:PySem.W.keepIn K (.ref f_deedP)=true)
  (a_run:PySem.W.nsIn K mainGlobals "_law_run"=some (some (.ref f_run)))
  (l_run:K.lookup f_run=some ⟨oc_run,od_run,.func (PySem.W.fnOf "_law_run" "_law_run" (aA pJ) (av pJ) (ai pJ) .none kV_run dc_run pm_run an_run cd_run ct_run),sl_run⟩)
  (c_run:PySem.W.codeIn K cd_run "_law_run"=true)
  (k_run:PySem.W.keepIn K (.ref f_run)=true)
  (a_sizes:PySem.W.nsIn K mainGlobals "_law_sizes"=some (some (.ref f_sizes)))
  (l_sizes:K.lookup f_sizes=some ⟨oc_sizes,od_sizes,.func (PySem.W.fnOf "_law_sizes" "_law_sizes" (aA gi) (av gi) (ai gi) .none kV_sizes dc_sizes pm_sizes an_sizes cd_sizes ct_sizes),sl_sizes⟩)
  (c_sizes:PySem.W.codeIn K cd_sizes "_law_sizes"=true)
  (k_sizes:PySem.W.keepIn K (.ref f_sizes)=true)
  (a_through:PySem.W.nsIn K mainGlobals "_law_put_through"=some (some (.ref f_through)))
  (l_through:K.lookup f_through=some ⟨oc_through,od_through,.func (PySem.W.fnOf "_law_put_through" "_law_put_through" (aA cm) (av cm) (ai cm) .none kV_through dc_through pm_through an_through cd_through ct_through),sl_through⟩)
  (c_through:PySem.W.codeIn K cd_through "_law_put_through"=true)
  (k_through:PySem.W.keepIn K (.ref f_through)=true)
  (a_withx:PySem.W.nsIn K mainGlobals "with_all_of"=some (some (.ref f_withx)))
  (l_withx:K.lookup f_withx=some ⟨oc_withx,od_withx,.func (PySem.W.fnOf "with_all_of" "with_all_of" (aA ce) (av ce) (ai ce) .none kV_withx dc_withx pm_withx an_withx cd_withx ct_withx),sl_withx⟩)
  (c_withx:PySem.W.codeIn K cd_withx "with_all_of"=true)
  (k_withx:PySem.W.keepIn K (.ref f_withx)=true)
  (a_puttogx:PySem.W.nsIn K mainGlobals "put_together"=some (some (.ref f_puttogx)))
  (l_puttogx:K.lookup f_puttogx=some ⟨oc_puttogx,od_puttogx,.func (PySem.W.fnOf "put_together" "put_together" (aA dJ) (av dJ) (ai dJ) .none kV_puttogx dc_puttogx pm_puttogx an_puttogx cd_puttogx ct_puttogx),sl_puttogx⟩)
  (c_puttogx:PySem.W.codeIn K cd_puttogx "put_together"=true)
  (k_puttogx:PySem.W.keepIn K (.ref f_puttogx)=true)
  (a_said:PySem.W.nsIn K mainGlobals "_law_said"=some (some (.ref f_said)))
  (l_said:K.lookup f_said=some ⟨oc_said,od_said,.func (PySem.W.fnOf "_law_said" "_law_said" (aA iQ) (av iQ) (ai iQ) .none kV_said dc_said pm_said an_said cd_said ct_said),sl_said⟩)
  (c_said:PySem.W.codeIn K cd_said "_law_said"=true)
  (k_said:PySem.W.keepIn K (.ref f_said)=true)
  (a_clashes:PySem.W.nsIn K mainGlobals "_law_clashes"=some (some (.ref f_clashes)))
  (l_clashes:K.lookup f_clashes=some ⟨oc_clashes,od_clashes,.func (PySem.W.fnOf "_law_clashes" "_law_clashes" (aA bL) (av bL) (ai bL) .none kV_clashes dc_clashes pm_clashes an_clashes cd_clashes ct_clashes),sl_clashes⟩)
  (c_clashes:PySem.W.codeIn K cd_clashes "_law_clashes"=true)
  (k_clashes:PySem.W.keepIn K (.ref f_clashes)=true)
  (a_law:PySem.W.nsIn K mainGlobals "law"=some (some (.ref f_law)))
  (l_law:K.lookup f_law=some ⟨oc_law,od_law,.func (PySem.W.fnOf "law" "law" (aA hW) (av hW) (ai hW) .none kV_law dc_law pm_law an_law cd_law ct_law),sl_law⟩)
  (c_law:PySem.W.codeIn K cd_law "law"=true)
  (k_law:PySem.W.keepIn K (.ref f_law)=true)
  (z_len:PySem.W.nsIn K mainGlobals "len"=some none)
  (z_sum:PySem.W.nsIn K mainGlobals "sum"=some none)
  (z_abs:PySem.W.nsIn K mainGlobals "abs"=some none)
  (z_range:PySem.W.nsIn K mainGlobals "range"=some none)
  (z_list:PySem.W.nsIn K mainGlobals "list"=some none)
  (z_tuple:PySem.W.nsIn K mainGlobals "tuple"=some none)
  (z_int:PySem.W.nsIn K mainGlobals "int"=some none)
  (z_bool:PySem.W.nsIn K mainGlobals "bool"=some none)
  (z_sorted:PySem.W.nsIn K mainGlobals "sorted"=some none)
  (z_isinstance:PySem.W.nsIn K mainGlobals "isinstance"=some none)
  (z_max:PySem.W.nsIn K mainGlobals "max"=some none)
  (z_ValueError:PySem.W.nsIn K mainGlobals "ValueError"=some none)
  (pg:PySem.W.plainGet K C Str.empty=true)
  (hd:PySem.W.hasDictIn K C=true)
  (po:PySem.W.plainOver K C=true)
  (sa:PySem.W.findIn K (.ref C) "__setattr__"=some (some (.builtin "object.__setattr__")))
  (mk:PySem.W.makesIn K C=true)
  (kc:PySem.W.keepIn K (.ref C)=true)
  (ga:PySem.W.specialIn K (.ref CB) "__getattribute__"=some (some (.builtin "type.__getattribute__")))
  (rd:PySem.W.readsIn K CB (.type "type")=true)
  (n_there:PySem.W.findIn K (.ref C) "there"=some none)
  (n_stamp:PySem.W.findIn K (.ref C) "stamp"=some none)
  (n_slack:PySem.W.findIn K (.ref C) "slack"=some none)
  (n_entries:PySem.W.findIn K (.ref C) "entries"=some none)
  (n_looks:PySem.W.findIn K (.ref C) "looks"=some none)
  (xCH:PySem.W.excIn K CH bmV "ValueError.__new__"=true)
  (xCC:PySem.W.excIn K CC bmV "ValueError.__new__"=true)
  (xCN:PySem.W.excIn K CN bmV "ValueError.__new__"=true)
  (s1CC:PySem.W.mroIn K CC (.ref CH)=some true)
  (k1CC:PySem.W.findIn K (.ref CC) "__getattribute__"=some (some (.builtin "BaseException.__getattribute__")))
  (k6CC:PySem.W.findIn K (.ref CC) "__getattr__"=some none)
  (k2CC:PySem.W.findIn K (.ref CC) "__class__"=some (some (.builtin "object.__class__")))
  (k5CC:PySem.W.mroIn K CC (.type "object")=some true)
  (k7CC:PySem.W.mroIn K CC (.type "BaseException")=some true)
  (v1CC:PySem.W.subIn K (.ref CC) (.type "ValueError")=some true)
  (s1CN:PySem.W.mroIn K CN (.ref CH)=some true)
  (k1CN:PySem.W.findIn K (.ref CN) "__getattribute__"=some (some (.builtin "BaseException.__getattribute__")))
  (k6CN:PySem.W.findIn K (.ref CN) "__getattr__"=some none)
  (k2CN:PySem.W.findIn K (.ref CN) "__class__"=some (some (.builtin "object.__class__")))
  (k5CN:PySem.W.mroIn K CN (.type "object")=some true)
  (k7CN:PySem.W.mroIn K CN (.type "BaseException")=some true)
  (v1CN:PySem.W.subIn K (.ref CN) (.type "ValueError")=some true)
  (k3:PySem.W.specialIn K (.builtin "object.__class__") "__get__"=some (some (.builtin "getset_descriptor.__get__")))
  (k4:PySem.W.takesIn K (.builtin "object.__class__")=some true)
  (cdCA:PySem.W.clsIn K CA=some cddCA)
  (tyCA:PySem.W.typeIn K (.ref CA)=some (.type "type"))
  (cdCC:PySem.W.clsIn K CC=some cddCC)
  (tyCC:PySem.W.typeIn K (.ref CC)=some (.type "type"))
  (cdCN:PySem.W.clsIn K CN=some cddCN)
  (tyCN:PySem.W.typeIn K (.ref CN)=some (.type "type"))
  (suCCCA:PySem.W.subIn K (.ref CC) (.ref CA)=some false)
  (neCCCA:(CC == CA)=false)
  (suCNCA:PySem.W.subIn K (.ref CN) (.ref CA)=some false)
  (neCNCA:(CN == CA)=false)
  (suCNCC:PySem.W.subIn K (.ref CN) (.ref CC)=some false)
  (neCNCC:(CN == CC)=false)
  (suCCCN:PySem.W.subIn K (.ref CC) (.ref CN)=some false)
  (neCCCN:(CC == CN)=false)
  (cdCH:PySem.W.clsIn K CH=some cddCH)
  (tyCH:PySem.W.typeIn K (.ref CH)=some (.type "type"))
  (suCCCH:PySem.W.subIn K (.ref CC) (.ref CH)=some true)
  (neCCCH:(CC == CH)=false)
  (s2CC:PySem.W.mroIn K CC (.ref CC)=some true) :
  ∃ fd:FuncData,(∀(s:Shared) (v:Value),BindsTo s fd ⟨[v],[]⟩ [("script",v)])/\∀base:Heap,K.In base->base.Ns mainGlobals mg->aw l.prog w K mg base CX0 11 fa fd ["script"] (nj K):=by
 have e:=hfa.symm.trans (PySem.W.mg_of X G a_law)
 cases e
 have T:Bl mg:=⟨PySem.W.mg_none_of X G z_len,PySem.W.mg_none_of X G z_sum,PySem.W.mg_none_of X G z_abs,PySem.W.mg_none_of X G z_range,PySem.W.mg_none_of X G z_list,PySem.W.mg_none_of X G z_tuple,PySem.W.mg_none_of X G z_int,PySem.W.mg_none_of X G z_bool,PySem.W.mg_none_of X G z_sorted,PySem.W.mg_none_of X G z_isinstance⟩
 have Z_max:=PySem.W.mg_none_of X G z_max
 have Z_ValueError:=PySem.W.mg_none_of X G z_ValueError
 have L:LT K C:=⟨⟨⟨pg,hd,po,sa⟩,n_there,n_stamp⟩,n_slack,n_entries,n_looks⟩
 have mCH:=PySem.W.mg_of X G aCH
 have mCC:=PySem.W.mg_of X G aCC
 have mCN:=PySem.W.mg_of X G aCN
 have mCA:=PySem.W.mg_of X G aCA
 have mCB:=PySem.W.mg_of X G aCB
 have mC:=PySem.W.mg_of X G aC
 have XX:Xs K CH CC CN CA:=⟨xCC,xCN,lr s1CC,lr s1CN,⟨k1CC,k6CC,k2CC,k3,k4,k5CC,k7CC⟩,⟨k1CN,k6CN,k2CN,k3,k4,k5CN,k7CN⟩,qg (by decide +kernel) v1CC,qg (by decide +kernel) v1CN,(fk neCCCA cdCA tyCA suCCCA),(fk neCNCA cdCA tyCA suCNCA),kz,(fk neCNCC cdCC tyCC suCNCC),(fk neCCCN cdCN tyCN suCCCN),kz⟩
 have hhCC:=(fk neCCCH cdCH tyCH suCCCH)
 have ssCC:=lr s2CC
 have F_exch:=aJ (st:=iS) l_exch c_exch k_exch
 have B_exch:=F_exch.binds (ps:=["heap","place","other"]) fun _ _ _ _ _ _ us hl=>match us,hl with | [_,_,_],_=>rfl
 have D_exch:Nm K mg "exchange" f_exch _ ["heap","place","other"]:=⟨PySem.W.mg_of X G a_exch,k_exch,B_exch⟩
 have F_lift:=aJ (st:=iz) l_lift c_lift k_lift
 have B_lift:=F_lift.binds (ps:=["heap","start"]) fun _ _ _ _ _ _ us hl=>match us,hl with | [_,_],_=>rfl
 have D_lift:Nm K mg "lift" f_lift _ ["heap","start"]:=⟨PySem.W.mg_of X G a_lift,k_lift,B_lift⟩
 have F_lay:=aJ (st:=oy) l_lay c_lay k_lay
 have B_lay:=F_lay.binds (ps:=["heap","entry"]) fun _ _ _ _ _ _ us hl=>match us,hl with | [_,_],_=>rfl
 have D_lay:Nm K mg "lay_in" f_lay _ ["heap","entry"]:=⟨PySem.W.mg_of X G a_lay,k_lay,B_lay⟩
 have F_ld:=aJ (st:=cc) l_ld c_ld k_ld
 have B_ld:=F_ld.binds (ps:=["heap","start"]) fun _ _ _ _ _ _ us hl=>match us,hl with | [_,_],_=>rfl
 have D_ld:Nm K mg "let_down" f_ld _ ["heap","start"]:=⟨PySem.W.mg_of X G a_ld,k_ld,B_ld⟩
 have F_cutf:=aJ (st:=oR) l_cutf c_cutf k_cutf
 have B_cutf:=F_cutf.binds (ps:=["heap"]) fun _ _ _ _ _ _ us hl=>match us,hl with | [_],_=>rfl
 have D_cutf:Nm K mg "cut_first" f_cutf _ ["heap"]:=⟨PySem.W.mg_of X G a_cutf,k_cutf,B_cutf⟩
 have F_order:=aJ (st:=fS) l_order c_order k_order
 have B_order:=F_order.binds (ps:=["heap"]) fun _ _ _ _ _ _ us hl=>match us,hl with | [_],_=>rfl
 have D_order:Nm K mg "order" f_order _ ["heap"]:=⟨PySem.W.mg_of X G a_order,k_order,B_order⟩
 have F_ninit:=aJ (st:=fH) l_ninit c_ninit k_ninit
 have B_ninit:=F_ninit.binds (ps:=["self"]) fun _ _ _ _ _ _ us hl=>match us,hl with | [_],_=>rfl
 have M_ninit:uR K CB (.type "type") "__init__" f_ninit:=⟨ga,rd,a_ninit,k_ninit⟩
 have F_holds:=aJ (st:=fU) l_holds c_holds k_holds
 have B_holds:=F_holds.binds (ps:=["self","entry"]) fun _ _ _ _ _ _ us hl=>match us,hl with | [_,_],_=>rfl
 have M_holds:aZ K C "holds" f_holds:=⟨a_holds,i_holds,k_holds⟩
 have F_need:=aJ (st:=iF) l_need c_need k_need
 have B_need:=F_need.binds (ps:=["self","name"]) fun _ _ _ _ _ _ us hl=>match us,hl with | [_,_],_=>rfl
 have M_need:aZ K C "need" f_need:=⟨a_need,i_need,k_need⟩
 have F_free:=aJ (st:=iW) l_free c_free k_free
 have B_free:=F_free.binds (ps:=["self","name"]) fun _ _ _ _ _ _ us hl=>match us,hl with | [_,_],_=>rfl
 have M_free:aZ K C "need_free" f_free:=⟨a_free,i_free,k_free⟩
 have F_any:=aJ (st:=oE) l_any c_any k_any
 have B_any:=F_any.binds (ps:=["self"]) fun _ _ _ _ _ _ us hl=>match us,hl with | [_],_=>rfl
 have M_any:aZ K C "need_any" f_any:=⟨a_any,i_any,k_any⟩
 have F_stamped:=aJ (st:=cg) l_stamped c_stamped k_stamped
 have B_stamped:=F_stamped.binds (ps:=["self","name","worth"]) fun _ _ _ _ _ _ us hl=>match us,hl with | [_,_,_],_=>rfl
 have M_stamped:aZ K C "stamped" f_stamped:=⟨a_stamped,i_stamped,k_stamped⟩
 have F_linit:=aJ (st:=gc) l_linit c_linit k_linit
 have B_linit:=F_linit.binds (ps:=["self","slack"]) fun _ _ _ _ _ _ us hl=>match us,hl with | [_,_],_=>rfl
 have M_linit:Mk K C f_linit:=⟨mk,a_linit,i_linit,kc⟩
 have F_enter:=aJ (st:=fP) l_enter c_enter k_enter
 have B_enter:=F_enter.binds (ps:=["self","name","worth"]) fun _ _ _ _ _ _ us hl=>match us,hl with | [_,_,_],_=>rfl
 have M_enter:aZ K C "enter" f_enter:=⟨a_enter,i_enter,k_enter⟩
 have F_cut:=aJ (st:=iE) l_cut c_cut k_cut
 have B_cut:=F_cut.binds (ps:=["self"]) fun _ _ _ _ _ _ us hl=>match us,hl with | [_],_=>rfl
 have M_cut:aZ K C "cut" f_cut:=⟨a_cut,i_cut,k_cut⟩
 have F_sweep:=aJ (st:=ed) l_sweep c_sweep k_sweep
 have B_sweep:=F_sweep.binds (ps:=["self"]) fun _ _ _ _ _ _ us hl=>match us,hl with | [_],_=>rfl
 have M_sweep:aZ K C "sweep_if_due" f_sweep:=⟨a_sweep,i_sweep,k_sweep⟩
 have F_first:=aJ (st:=fX) l_first c_first k_first
 have B_first:=F_first.binds (ps:=["self"]) fun _ _ _ _ _ _ us hl=>match us,hl with | [_],_=>rfl
 have M_first:aZ K C "first_there" f_first:=⟨a_first,i_first,k_first⟩
 have F_put:=aJ (st:=iB) l_put c_put k_put
 have B_put:=F_put.binds (ps:=["self","name","worth"]) fun _ _ _ _ _ _ us hl=>match us,hl with | [_,_,_],_=>rfl
 have M_put:aZ K C "put" f_put:=⟨a_put,i_put,k_put⟩
 have F_drop:=aJ (st:=fz) l_drop c_drop k_drop
 have B_drop:=F_drop.binds (ps:=["self","name"]) fun _ _ _ _ _ _ us hl=>match us,hl with | [_,_],_=>rfl
 have M_drop:aZ K C "drop" f_drop:=⟨a_drop,i_drop,k_drop⟩
 have F_change:=aJ (st:=ck) l_change c_change k_change
 have B_change:=F_change.binds (ps:=["self","name","worth"]) fun _ _ _ _ _ _ us hl=>match us,hl with | [_,_,_],_=>rfl
 have M_change:aZ K C "change" f_change:=⟨a_change,i_change,k_change⟩
 have F_least:=aJ (st:=dy) l_least c_least k_least
 have B_least:=F_least.binds (ps:=["self"]) fun _ _ _ _ _ _ us hl=>match us,hl with | [_],_=>rfl
 have M_least:aZ K C "least" f_least:=⟨a_least,i_least,k_least⟩
 have F_take2:=aJ (st:=fY) l_take2 c_take2 k_take2
 have B_take2:=F_take2.binds (ps:=["self"]) fun _ _ _ _ _ _ us hl=>match us,hl with | [_],_=>rfl
 have M_take2:aZ K C "take" f_take2:=⟨a_take2,i_take2,k_take2⟩
 have F_many:=aJ (st:=ic) l_many c_many k_many
 have B_many:=F_many.binds (ps:=["self"]) fun _ _ _ _ _ _ us hl=>match us,hl with | [_],_=>rfl
 have M_many:aZ K C "many" f_many:=⟨a_many,i_many,k_many⟩
 have F_things:=aJ (st:=cx) l_things c_things k_things
 have B_things:=F_things.binds (ps:=["self"]) fun _ _ _ _ _ _ us hl=>match us,hl with | [_],_=>rfl
 have M_things:aZ K C "things" f_things:=⟨a_things,i_things,k_things⟩
 have F_row:=aJ (st:=iC) l_row c_row k_row
 have B_row:=F_row.binds (ps:=["self"]) fun _ _ _ _ _ _ us hl=>match us,hl with | [_],_=>rfl
 have M_row:aZ K C "row" f_row:=⟨a_row,i_row,k_row⟩
 have F_work:=aJ (st:=gj) l_work c_work k_work
 have B_work:=F_work.binds (ps:=["self"]) fun _ _ _ _ _ _ us hl=>match us,hl with | [_],_=>rfl
 have M_work:aZ K C "work" f_work:=⟨a_work,i_work,k_work⟩
 have F_pile:=aJ (st:=fK) l_pile c_pile k_pile
 have B_pile:=F_pile.binds (ps:=["script"]) fun _ _ _ _ _ _ us hl=>match us,hl with | [_],_=>rfl
 have D_pile:Nm K mg "_law_pile" f_pile _ ["script"]:=⟨PySem.W.mg_of X G a_pile,k_pile,B_pile⟩
 have F_next:=aJ (st:=gh) l_next c_next k_next
 have B_next:=F_next.binds (ps:=["pile","most"]) fun _ _ _ _ _ _ us hl=>match us,hl with | [_,_],_=>rfl
 have D_next:Nm K mg "_law_next" f_next _ ["pile","most"]:=⟨PySem.W.mg_of X G a_next,k_next,B_next⟩
 have F_pnames:=aJ (st:=bW) l_pnames c_pnames k_pnames
 have B_pnames:=F_pnames.binds (ps:=["pile","many"]) fun _ _ _ _ _ _ us hl=>match us,hl with | [_,_],_=>rfl
 have D_pnames:Nm K mg "_law_names" f_pnames _ ["pile","many"]:=⟨PySem.W.mg_of X G a_pnames,k_pnames,B_pnames⟩
 have F_pworth:=aJ (st:=dH) l_pworth c_pworth k_pworth
 have B_pworth:=F_pworth.binds (ps:=["pile"]) fun _ _ _ _ _ _ us hl=>match us,hl with | [_],_=>rfl
 have D_pworth:Nm K mg "_law_worth" f_pworth _ ["pile"]:=⟨PySem.W.mg_of X G a_pworth,k_pworth,B_pworth⟩
 have F_down:=aJ (st:=iR) l_down c_down k_down
 have B_down:=F_down.binds (ps:=["row","k"]) fun _ _ _ _ _ _ us hl=>match us,hl with | [_,_],_=>rfl
 have D_down:Nm K mg "_law_let_down" f_down _ ["row","k"]:=⟨PySem.W.mg_of X G a_down,k_down,B_down⟩
 have F_raised:=aJ (st:=dt) l_raised c_raised k_raised
 have B_raised:=F_raised.binds (ps:=["row"]) fun _ _ _ _ _ _ us hl=>match us,hl with | [_],_=>rfl
 have D_raised:Nm K mg "_law_raised" f_raised _ ["row"]:=⟨PySem.W.mg_of X G a_raised,k_raised,B_raised⟩
 have F_off:=aJ (st:=pF) l_off c_off k_off
 have B_off:=F_off.binds (ps:=["row"]) fun _ _ _ _ _ _ us hl=>match us,hl with | [_],_=>rfl
 have D_off:Nm K mg "_law_off" f_off _ ["row"]:=⟨PySem.W.mg_of X G a_off,k_off,B_off⟩
 have F_new:=aJ (st:=oJ) l_new c_new k_new
 have B_new:=F_new.binds (ps:=["slack"]) fun _ _ _ _ _ _ us hl=>match us,hl with | [_],_=>rfl
 have D_new:Nm K mg "_law_new" f_new _ ["slack"]:=⟨PySem.W.mg_of X G a_new,k_new,B_new⟩
 have F_isthere:=aJ (st:=b9) l_isthere c_isthere k_isthere
 have B_isthere:=F_isthere.binds (ps:=["state","entry"]) fun _ _ _ _ _ _ us hl=>match us,hl with | [_,_],_=>rfl
 have D_isthere:Nm K mg "_law_is_there" f_isthere _ ["state","entry"]:=⟨PySem.W.mg_of X G a_isthere,k_isthere,B_isthere⟩
 have F_added:=aJ (st:=fM) l_added c_added k_added
 have B_added:=F_added.binds (ps:=["state","name","worth"]) fun _ _ _ _ _ _ us hl=>match us,hl with | [_,_,_],_=>rfl
 have D_added:Nm K mg "_law_added" f_added _ ["state","name","worth"]:=⟨PySem.W.mg_of X G a_added,k_added,B_added⟩
 have F_sweptS:=aJ (st:=cI) l_sweptS c_sweptS k_sweptS
 have B_sweptS:=F_sweptS.binds (ps:=["state"]) fun _ _ _ _ _ _ us hl=>match us,hl with | [_],_=>rfl
 have D_sweptS:Nm K mg "_law_swept" f_sweptS _ ["state"]:=⟨PySem.W.mg_of X G a_sweptS,k_sweptS,B_sweptS⟩
 have F_refused:=aJ (st:=cf) l_refused c_refused k_refused
 have B_refused:=F_refused.binds (ps:=["state","deed"]) fun _ _ _ _ _ _ us hl=>match us,hl with | [_,_],_=>rfl
 have D_refused:Nm K mg "_law_refused" f_refused _ ["state","deed"]:=⟨PySem.W.mg_of X G a_refused,k_refused,B_refused⟩
 have F_done:=aJ (st:=ij) l_done c_done k_done
 have B_done:=F_done.binds (ps:=["state","deed"]) fun _ _ _ _ _ _ us hl=>match us,hl with | [_,_],_=>rfl
 have D_done:Nm K mg "_law_done" f_done _ ["state","deed"]:=⟨PySem.W.mg_of X G a_done,k_done,B_done⟩
 have F_deedP:=aJ (st:=dW) l_deedP c_deedP k_deedP
 have B_deedP:=F_deedP.binds (ps:=["pile","state","names"]) fun _ _ _ _ _ _ us hl=>match us,hl with | [_,_,_],_=>rfl
 have D_deedP:Nm K mg "_law_deed" f_deedP _ ["pile","state","names"]:=⟨PySem.W.mg_of X G a_deedP,k_deedP,B_deedP⟩
 have F_run:=aJ (st:=pJ) l_run c_run k_run
 have B_run:=F_run.binds (ps:=["pile","names","slack","many"]) fun _ _ _ _ _ _ us hl=>match us,hl with | [_,_,_,_],_=>rfl
 have D_run:Nm K mg "_law_run" f_run _ ["pile","names","slack","many"]:=⟨PySem.W.mg_of X G a_run,k_run,B_run⟩
 have F_sizes:=aJ (st:=gi) l_sizes c_sizes k_sizes
 have B_sizes:=F_sizes.binds (ps:=["pile"]) fun _ _ _ _ _ _ us hl=>match us,hl with | [_],_=>rfl
 have D_sizes:Nm K mg "_law_sizes" f_sizes _ ["pile"]:=⟨PySem.W.mg_of X G a_sizes,k_sizes,B_sizes⟩
 have F_through:=aJ (st:=cm) l_through c_through k_through
 have B_through:=F_through.binds (ps:=["heap","deeds"]) fun _ _ _ _ _ _ us hl=>match us,hl with | [_,_],_=>rfl
 have D_through:Nm K mg "_law_put_through" f_through _ ["heap","deeds"]:=⟨PySem.W.mg_of X G a_through,k_through,B_through⟩
 have F_withx:=aJ (st:=ce) l_withx c_withx k_withx
 have B_withx:=F_withx.binds (ps:=["greater","lesser"]) fun _ _ _ _ _ _ us hl=>match us,hl with | [_,_],_=>rfl
 have D_withx:Nm K mg "with_all_of" f_withx _ ["greater","lesser"]:=⟨PySem.W.mg_of X G a_withx,k_withx,B_withx⟩
 have F_puttogx:=aJ (st:=dJ) l_puttogx c_puttogx k_puttogx
 have B_puttogx:=F_puttogx.binds (ps:=["one","other"]) fun _ _ _ _ _ _ us hl=>match us,hl with | [_,_],_=>rfl
 have D_puttogx:Nm K mg "put_together" f_puttogx _ ["one","other"]:=⟨PySem.W.mg_of X G a_puttogx,k_puttogx,B_puttogx⟩
 have F_said:=aJ (st:=iQ) l_said c_said k_said
 have B_said:=F_said.binds (ps:=["one","other"]) fun _ _ _ _ _ _ us hl=>match us,hl with | [_,_],_=>rfl
 have D_said:Nm K mg "_law_said" f_said _ ["one","other"]:=⟨PySem.W.mg_of X G a_said,k_said,B_said⟩
 have F_clashes:=aJ (st:=bL) l_clashes c_clashes k_clashes
 have B_clashes:=F_clashes.binds (ps:=["one","other"]) fun _ _ _ _ _ _ us hl=>match us,hl with | [_,_],_=>rfl
 have D_clashes:Nm K mg "_law_clashes" f_clashes _ ["one","other"]:=⟨PySem.W.mg_of X G a_clashes,k_clashes,B_clashes⟩
 have F_law:=aJ (st:=hW) l_law c_law k_law
 refine ⟨PySem.W.fnOf "law" "law" (aA hW) (av hW) (ai hW) .none kV_law dc_law pm_law an_law cd_law ct_law,fun s v=>.of_eq rfl,fun base _ _=>?_⟩
 have G_exch:=uW (P:=l.prog) (w:=w) (base:=base) F_exch T
 have G_lift:=uO (P:=l.prog) (w:=w) (base:=base) F_lift T G_exch D_exch
 have G_lay:=wW (P:=l.prog) (w:=w) (base:=base) F_lay T G_lift D_lift
 have G_ld:=kT (P:=l.prog) (w:=w) (base:=base) F_ld T G_exch D_exch
 have G_cutf:=xh (P:=l.prog) (w:=w) (base:=base) F_cutf T G_ld D_ld
 have G_order:=rn (P:=l.prog) (w:=w) (base:=base) F_order T G_ld D_ld
 have G_ninit:=fT (P:=l.prog) (w:=w) (base:=base) F_ninit T L.nt
 have G_holds:=qI (P:=l.prog) (w:=w) (base:=base) F_holds T L.nt
 have G_need:=sK (P:=l.prog) (w:=w) (base:=base) F_need T L.nt mCN XX.xN
 have G_free:=ji (P:=l.prog) (w:=w) (base:=base) F_free T L.nt mCC XX.xC
 have G_any:=j4 (P:=l.prog) (w:=w) (base:=base) F_any T L.nt mCN XX.xN
 have G_stamped:=lU (P:=l.prog) (w:=w) (base:=base) F_stamped T L.nt
 have G_linit:=gx (P:=l.prog) (w:=w) (base:=base) F_linit T L mCB M_ninit G_ninit B_ninit
 have G_enter:=pO (P:=l.prog) (w:=w) (base:=base) F_enter T L G_lay D_lay M_stamped G_stamped B_stamped
 have G_cut:=ut (P:=l.prog) (w:=w) (base:=base) F_cut T L G_cutf D_cutf
 have G_sweep:=sg (P:=l.prog) (w:=w) (base:=base) F_sweep T L G_order D_order M_holds G_holds B_holds
 have G_first:=gN (P:=l.prog) (w:=w) (base:=base) F_first T L M_any G_any B_any M_holds G_holds B_holds M_cut G_cut B_cut
 have G_put:=wX (P:=l.prog) (w:=w) (base:=base) F_put T L M_free G_free B_free M_sweep G_sweep B_sweep M_enter G_enter B_enter
 have G_drop:=uY (P:=l.prog) (w:=w) (base:=base) F_drop T L M_need G_need B_need M_sweep G_sweep B_sweep
 have G_change:=oH (P:=l.prog) (w:=w) (base:=base) F_change T L M_need G_need B_need M_sweep G_sweep B_sweep M_enter G_enter B_enter
 have G_least:=rf (P:=l.prog) (w:=w) (base:=base) F_least T L M_first G_first B_first
 have G_take2:=pK (P:=l.prog) (w:=w) (base:=base) F_take2 T L M_first G_first B_first M_cut G_cut B_cut M_sweep G_sweep B_sweep
 have G_many:=uC (P:=l.prog) (w:=w) (base:=base) F_many T L.nt
 have G_things:=pC (P:=l.prog) (w:=w) (base:=base) F_things T L.nt
 have G_row:=xi (P:=l.prog) (w:=w) (base:=base) F_row T L
 have G_work:=tz (P:=l.prog) (w:=w) (base:=base) F_work T L
 have G_pile:=tF (P:=l.prog) (w:=w) (base:=base) F_pile T
 have G_next:=sT (P:=l.prog) (w:=w) (base:=base) F_next T
 have G_pnames:=pe (P:=l.prog) (w:=w) (base:=base) F_pnames T G_next D_next
 have G_pworth:=pj (P:=l.prog) (w:=w) (base:=base) F_pworth T G_next D_next
 have G_down:=uQ (P:=l.prog) (w:=w) (base:=base) F_down T
 have G_raised:=pG (P:=l.prog) (w:=w) (base:=base) F_raised T
 have G_off:=wa (P:=l.prog) (w:=w) (base:=base) F_off T G_down D_down
 have G_new:=wT (P:=l.prog) (w:=w) (base:=base) F_new T
 have G_isthere:=kX (P:=l.prog) (w:=w) (base:=base) F_isthere T
 have G_added:=qF (P:=l.prog) (w:=w) (base:=base) F_added T G_raised D_raised
 have G_sweptS:=pv (P:=l.prog) (w:=w) (base:=base) F_sweptS T G_isthere D_isthere G_down D_down
 have G_refused:=mz (P:=l.prog) (w:=w) (base:=base) F_refused T
 have G_done:=uF (P:=l.prog) (w:=w) (base:=base) F_done T G_isthere D_isthere G_added D_added G_off D_off G_sweptS D_sweptS
 have G_deedP:=qW (P:=l.prog) (w:=w) (base:=base) F_deedP T G_next D_next G_pworth D_pworth
 have G_run:=wN (P:=l.prog) (w:=w) (base:=base) F_run T Z_max G_new D_new G_deedP D_deedP G_refused D_refused G_done D_done
 have G_sizes:=rV (P:=l.prog) (w:=w) (base:=base) F_sizes T G_next D_next
 have G_through:=l7 (P:=l.prog) (w:=w) (base:=base) F_through T L M_put G_put B_put M_drop G_drop B_drop M_change G_change B_change M_take2 G_take2 B_take2 M_least G_least B_least
 have G_withx:=rm (P:=l.prog) (w:=w) (base:=base) F_withx T L M_things G_things B_things M_free G_free B_free M_drop G_drop B_drop M_put G_put B_put
 have G_puttogx:=lQ (P:=l.prog) (w:=w) (base:=base) F_puttogx T L M_many G_many B_many G_withx D_withx
 have G_said:=u4 (P:=l.prog) (w:=w) (base:=base) F_said T L mCC XX ssCC G_puttogx D_puttogx
 have G_clashes:=lw (P:=l.prog) (w:=w) (base:=base) F_clashes T L Z_ValueError mCH mCN mCA XX hhCC M_row G_row B_row M_things G_things B_things M_work G_work B_work G_said D_said
 exact wI F_law T L mC M_linit G_linit B_linit M_many G_many B_many M_things G_things B_things G_pile D_pile G_next D_next G_sizes D_sizes G_pnames D_pnames G_run D_run G_through D_through G_puttogx D_puttogx G_clashes D_clashes G_said D_said
theorem walk {l:PySem.W.OpenLaw}{q:Program}{loose:List Str}{XP:(Str->Option Value)->Heap->Prop}{YP:World->Heap->Prop}{d:DefRec}{K:Params->PySem.W.Frag}(hn:l.most=some 63)(hdf:d.params.defaults=[])
  (hY:∀(w:World) (h:Heap),YP w h->(K w.params).In h)
  (F:∀(w:World) (mg:Str->Option Value) (fa:Addr) (h:Heap),(K w.params).In h->h.Ns mainGlobals mg->mg d.name=some (.ref fa) ->
   ∃ fd:FuncData,(∀(s:Shared) (u:Value),BindsTo s fd ⟨[u],[]⟩ [("script",u)])/\∀base:Heap,(K w.params).In base->base.Ns mainGlobals mg->aw l.prog w (K w.params) mg base CX0 11 fa fd ["script"] (nj (K w.params))) :
  PySem.W.WalkO q loose XP YP l.row.toRowW d [] (fun f vs=>PySem.call f vs) :=
 L2.walk_of (n:=63) (k:=11) (x:="script") (CX:=fun _=>CX0) (sp:=fun w=>nj (K w.params)) hn (by decide) hdf ⟨rfl,by decide,by decide⟩ hY F (fun _ _ a ns hl _ hS=>⟨a,ns,rfl,hS,hl,fun _=>rfl⟩) fun _ _ _ _ _ z=>z
end
end Kx
end
section
open PySem PySem.W PyProof.Rows
set_option maxRecDepth 100000 in
set_option maxHeartbeats 0 in
theorem PySem.Challenge.cw_lategone_k22_put_together_refused_holds : PySem.Challenge.rw_lategone_k22_put_together_refused.Holds := by
 w_on;o_law;k_head;(case hw=>w_witness2)
 k_fill
 refine Kx.walk (l:=PySem.Challenge.rw_lategone_k22_put_together_refused) rfl rfl (fun w h Y=>PySem.W.kIn_of Y) ?F
 case F =>
  intro w mg fa h KX G hmg
  refine' Kx.all_mk KX G hmg ?aC ?aCB ?aCH ?aCC ?aCN ?aCA ?a_exch ?l_exch ?c_exch ?k_exch ?a_lift ?l_lift ?c_lift ?k_lift ?a_lay ?l_lay ?c_lay ?k_lay ?a_ld ?l_ld ?c_ld ?k_ld ?a_cutf ?l_cutf ?c_cutf ?k_cutf ?a_order ?l_order ?c_order ?k_order ?a_ninit ?l_ninit ?c_ninit ?k_ninit ?a_holds ?i_holds ?l_holds ?c_holds ?k_holds ?a_need ?i_need ?l_need ?c_need ?k_need ?a_free ?i_free ?l_free ?c_free ?k_free ?a_any ?i_any ?l_any ?c_any ?k_any ?a_stamped ?i_stamped ?l_stamped ?c_stamped ?k_stamped ?a_linit ?i_linit ?l_linit ?c_linit ?k_linit ?a_enter ?i_enter ?l_enter ?c_enter ?k_enter ?a_cut ?i_cut ?l_cut ?c_cut ?k_cut ?a_sweep ?i_sweep ?l_sweep ?c_sweep ?k_sweep ?a_first ?i_first ?l_first ?c_first ?k_first ?a_put ?i_put ?l_put ?c_put ?k_put ?a_drop ?i_drop ?l_drop ?c_drop ?k_drop ?a_change ?i_change ?l_change ?c_change ?k_change ?a_least ?i_least ?l_least ?c_least ?k_least ?a_take2 ?i_take2 ?l_take2 ?c_take2 ?k_take2 ?a_many ?i_many ?l_many ?c_many ?k_many ?a_things ?i_things ?l_things ?c_things ?k_things ?a_row ?i_row ?l_row ?c_row ?k_row ?a_work ?i_work ?l_work ?c_work ?k_work ?a_pile ?l_pile ?c_pile ?k_pile ?a_next ?l_next ?c_next ?k_next ?a_pnames ?l_pnames ?c_pnames ?k_pnames ?a_pworth ?l_pworth ?c_pworth ?k_pworth ?a_down ?l_down ?c_down ?k_down ?a_raised ?l_raised ?c_raised ?k_raised ?a_off ?l_off ?c_off ?k_off ?a_new ?l_new ?c_new ?k_new ?a_isthere ?l_isthere ?c_isthere ?k_isthere ?a_added ?l_added ?c_added ?k_added ?a_sweptS ?l_sweptS ?c_sweptS ?k_sweptS ?a_refused ?l_refused ?c_refused ?k_refused ?a_done ?l_done ?c_done ?k_done ?a_deedP ?l_deedP ?c_deedP ?k_deedP ?a_run ?l_run ?c_run ?k_run ?a_sizes ?l_sizes ?c_sizes ?k_sizes ?a_through ?l_through ?c_through ?k_through ?a_withx ?l_withx ?c_withx ?k_withx ?a_puttogx ?l_puttogx ?c_puttogx ?k_puttogx ?a_said ?l_said ?c_said ?k_said ?a_clashes ?l_clashes ?c_clashes ?k_clashes ?a_law ?l_law ?c_law ?k_law ?z_len ?z_sum ?z_abs ?z_range ?z_list ?z_tuple ?z_int ?z_bool ?z_sorted ?z_isinstance ?z_max ?z_ValueError ?pg ?hd ?po ?sa ?mk ?kc ?ga ?rd ?n_there ?n_stamp ?n_slack ?n_entries ?n_looks ?xCH ?xCC ?xCN ?s1CC ?k1CC ?k6CC ?k2CC ?k5CC ?k7CC ?v1CC ?s1CN ?k1CN ?k6CN ?k2CN ?k5CN ?k7CN ?v1CN ?k3 ?k4 ?cdCA ?tyCA ?cdCC ?tyCC ?cdCN ?tyCN ?suCCCA ?neCCCA ?suCNCA ?neCNCA ?suCNCC ?neCNCC ?suCCCN ?neCCCN ?cdCH ?tyCH ?suCCCH ?neCCCH ?s2CC
  (case aC=>k_is)
  (case aCB=>k_is)
  (case aCH=>k_is)
  (case aCC=>k_is)
  (case aCN=>k_is)
  (case aCA=>k_is)
  (case a_exch=>k_is)
  (case l_exch=>k_is)
  (case c_exch=>k_is)
  (case k_exch=>k_is)
  (case a_lift=>k_is)
  (case l_lift=>k_is)
  (case c_lift=>k_is)
  (case k_lift=>k_is)
  (case a_lay=>k_is)
  (case l_lay=>k_is)
  (case c_lay=>k_is)
  (case k_lay=>k_is)
  (case a_ld=>k_is)
  (case l_ld=>k_is)
  (case c_ld=>k_is)
  (case k_ld=>k_is)
  (case a_cutf=>k_is)
  (case l_cutf=>k_is)
  (case c_cutf=>k_is)
  (case k_cutf=>k_is)
  (case a_order=>k_is)
  (case l_order=>k_is)
  (case c_order=>k_is)
  (case k_order=>k_is)
  (case a_ninit=>k_is)
  (case l_ninit=>k_is)
  (case c_ninit=>k_is)
  (case k_ninit=>k_is)
  (case a_holds=>k_is)
  (case i_holds=>k_is)
  (case l_holds=>k_is)
  (case c_holds=>k_is)
  (case k_holds=>k_is)
  (case a_need=>k_is)
  (case i_need=>k_is)
  (case l_need=>k_is)
  (case c_need=>k_is)
  (case k_need=>k_is)
  (case a_free=>k_is)
  (case i_free=>k_is)
  (case l_free=>k_is)
  (case c_free=>k_is)
  (case k_free=>k_is)
  (case a_any=>k_is)
  (case i_any=>k_is)
  (case l_any=>k_is)
  (case c_any=>k_is)
  (case k_any=>k_is)
  (case a_stamped=>k_is)
  (case i_stamped=>k_is)
  (case l_stamped=>k_is)
  (case c_stamped=>k_is)
  (case k_stamped=>k_is)
  (case a_linit=>k_is)
  (case i_linit=>k_is)
  (case l_linit=>k_is)
  (case c_linit=>k_is)
  (case k_linit=>k_is)
  (case a_enter=>k_is)
  (case i_enter=>k_is)
  (case l_enter=>k_is)
  (case c_enter=>k_is)
  (case k_enter=>k_is)
  (case a_cut=>k_is)
  (case i_cut=>k_is)
  (case l_cut=>k_is)
  (case c_cut=>k_is)
  (case k_cut=>k_is)
  (case a_sweep=>k_is)
  (case i_sweep=>k_is)
  (case l_sweep=>k_is)
  (case c_sweep=>k_is)
  (case k_sweep=>k_is)
  (case a_first=>k_is)
  (case i_first=>k_is)
  (case l_first=>k_is)
  (case c_first=>k_is)
  (case k_first=>k_is)
  (case a_put=>k_is)
  (case i_put=>k_is)
  (case l_put=>k_is)
  (case c_put=>k_is)
  (case k_put=>k_is)
  (case a_drop=>k_is)
  (case i_drop=>k_is)
  (case l_drop=>k_is)
  (case c_drop=>k_is)
  (case k_drop=>k_is)
  (case a_change=>k_is)
  (case i_change=>k_is)
  (case l_change=>k_is)
  (case c_change=>k_is)
  (case k_change=>k_is)
  (case a_least=>k_is)
  (case i_least=>k_is)
  (case l_least=>k_is)
  (case c_least=>k_is)
  (case k_least=>k_is)
  (case a_take2=>k_is)
  (case i_take2=>k_is)
  (case l_take2=>k_is)
  (case c_take2=>k_is)
  (case k_take2=>k_is)
  (case a_many=>k_is)
  (case i_many=>k_is)
  (case l_many=>k_is)
  (case c_many=>k_is)
  (case k_many=>k_is)
  (case a_things=>k_is)
  (case i_things=>k_is)
  (case l_things=>k_is)
  (case c_things=>k_is)
  (case k_things=>k_is)
  (case a_row=>k_is)
  (case i_row=>k_is)
  (case l_row=>k_is)
  (case c_row=>k_is)
  (case k_row=>k_is)
  (case a_work=>k_is)
  (case i_work=>k_is)
  (case l_work=>k_is)
  (case c_work=>k_is)
  (case k_work=>k_is)
  (case a_pile=>k_is)
  (case l_pile=>k_is)
  (case c_pile=>k_is)
  (case k_pile=>k_is)
  (case a_next=>k_is)
  (case l_next=>k_is)
  (case c_next=>k_is)
  (case k_next=>k_is)
  (case a_pnames=>k_is)
  (case l_pnames=>k_is)
  (case c_pnames=>k_is)
  (case k_pnames=>k_is)
  (case a_pworth=>k_is)
  (case l_pworth=>k_is)
  (case c_pworth=>k_is)
  (case k_pworth=>k_is)
  (case a_down=>k_is)
  (case l_down=>k_is)
  (case c_down=>k_is)
  (case k_down=>k_is)
  (case a_raised=>k_is)
  (case l_raised=>k_is)
  (case c_raised=>k_is)
  (case k_raised=>k_is)
  (case a_off=>k_is)
  (case l_off=>k_is)
  (case c_off=>k_is)
  (case k_off=>k_is)
  (case a_new=>k_is)
  (case l_new=>k_is)
  (case c_new=>k_is)
  (case k_new=>k_is)
  (case a_isthere=>k_is)
  (case l_isthere=>k_is)
  (case c_isthere=>k_is)
  (case k_isthere=>k_is)
  (case a_added=>k_is)
  (case l_added=>k_is)
  (case c_added=>k_is)
  (case k_added=>k_is)
  (case a_sweptS=>k_is)
  (case l_sweptS=>k_is)
  (case c_sweptS=>k_is)
  (case k_sweptS=>k_is)
  (case a_refused=>k_is)
  (case l_refused=>k_is)
  (case c_refused=>k_is)
  (case k_refused=>k_is)
  (case a_done=>k_is)
  (case l_done=>k_is)
  (case c_done=>k_is)
  (case k_done=>k_is)
  (case a_deedP=>k_is)
  (case l_deedP=>k_is)
  (case c_deedP=>k_is)
  (case k_deedP=>k_is)
  (case a_run=>k_is)
  (case l_run=>k_is)
  (case c_run=>k_is)
  (case k_run=>k_is)
  (case a_sizes=>k_is)
  (case l_sizes=>k_is)
  (case c_sizes=>k_is)
  (case k_sizes=>k_is)
  (case a_through=>k_is)
  (case l_through=>k_is)
  (case c_through=>k_is)
  (case k_through=>k_is)
  (case a_withx=>k_is)
  (case l_withx=>k_is)
  (case c_withx=>k_is)
  (case k_withx=>k_is)
  (case a_puttogx=>k_is)
  (case l_puttogx=>k_is)
  (case c_puttogx=>k_is)
  (case k_puttogx=>k_is)
  (case a_said=>k_is)
  (case l_said=>k_is)
  (case c_said=>k_is)
  (case k_said=>k_is)
  (case a_clashes=>k_is)
  (case l_clashes=>k_is)
  (case c_clashes=>k_is)
  (case k_clashes=>k_is)
  (case a_law=>k_is)
  (case l_law=>k_is)
  (case c_law=>k_is)
  (case k_law=>k_is)
  (case z_len=>k_is)
  (case z_sum=>k_is)
  (case z_abs=>k_is)
  (case z_range=>k_is)
  (case z_list=>k_is)
  (case z_tuple=>k_is)
  (case z_int=>k_is)
  (case z_bool=>k_is)
  (case z_sorted=>k_is)
  (case z_isinstance=>k_is)
  (case z_max=>k_is)
  (case z_ValueError=>k_is)
  (case pg=>k_is)
  (case hd=>k_is)
  (case po=>k_is)
  (case sa=>k_is)
  (case mk=>k_is)
  (case kc=>k_is)
  (case ga=>k_is)
  (case rd=>k_is)
  (case n_there=>k_is)
  (case n_stamp=>k_is)
  (case n_slack=>k_is)
  (case n_entries=>k_is)
  (case n_looks=>k_is)
  (case xCH=>k_exc)
  (case xCC=>k_exc)
  (case xCN=>k_exc)
  (case s1CC=>k_is)
  (case k1CC=>k_is)
  (case k6CC=>k_is)
  (case k2CC=>k_is)
  (case k5CC=>k_is)
  (case k7CC=>k_is)
  (case v1CC=>k_is)
  (case s1CN=>k_is)
  (case k1CN=>k_is)
  (case k6CN=>k_is)
  (case k2CN=>k_is)
  (case k5CN=>k_is)
  (case k7CN=>k_is)
  (case v1CN=>k_is)
  (case k3=>k_is)
  (case k4=>k_is)
  (case cdCA=>k_is)
  (case tyCA=>k_is)
  (case cdCC=>k_is)
  (case tyCC=>k_is)
  (case cdCN=>k_is)
  (case tyCN=>k_is)
  (case suCCCA=>k_is)
  (case neCCCA=>decide)
  (case suCNCA=>k_is)
  (case neCNCA=>decide)
  (case suCNCC=>k_is)
  (case neCNCC=>decide)
  (case suCCCN=>k_is)
  (case neCCCN=>decide)
  (case cdCH=>k_is)
  (case tyCH=>k_is)
  (case suCCCH=>k_is)
  (case neCCCH=>decide)
  (case s2CC=>k_is)
#print axioms PySem.Challenge.cw_lategone_k22_put_together_refused_holds
end
