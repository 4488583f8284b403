import PyProof.Rows.All
import OpenK.AllK
import PySem.Challenge.RW_ranksure_k06_whole_never_rests
import KE.RegKIsAll
import Wide.All
import OpenK.KWalk
import OpenK.KMake
import OpenK.KDescr
import OpenK.KCall
import OpenK.KOwn
import KE.KIsAll
import KE.KItem
import KE.KxBytes
import Wide.FinOn
import Lean
import PyProof.EqAt
import PyProof.EqKinds
import PyProof.TupleCall
import KE.KLam
import KE.LcSums
import PyProof.Rows.EqDataRows
import PyProof.RulesAs
import PyProof.ZipIter
import PyProof.Draws
import KE.KMinKey
import PyProof.Rows.TupAdd
import PyProof.ListMulRoad
import PyProof.AutoListH
import PyProof.Rows.Range3
import PyProof.ListRange
import PyProof.EnumMake
import PyProof.EnumFor
import PyProof.Rows.SetFrom
import PyProof.WalksMore
import PyProof.StrOps2
import PyProof.Rows.MinMaxN
import PyProof.ConsumeWalk
import PyProof.Rows.SortWalk
import PyProof.ExcArgsOwn
import PyProof.StrBlock2
import PyProof.Rows.CallKwBuiltin
import KE.KDictLaws
import KE.KDictMeth
import KE.KDictObj
import KE.KDictLetter
import OpenK.KDict
import KE.KDictOf
import PyProof.Rows.RegDictMethods
import PySem.PyData
import KE.KNestM
noncomputable section
set_option genSizeOf false
set_option genSizeOfSpec false
set_option genInjectivity false
set_option compiler.extract_closed false
set_option bootstrap.genMatcherCode false
set_option Elab.async false
set_option linter.all false
namespace RS
open PySem PySem.W PyProof.Rows
def zx (p:Program) (w:World) (m:Nat) (ann:Option Value):Nat->SharedT->Thread->Option SharedT
 | 0,_,_=>none
 | n+1,s,t=>match through t with
  | true=>some s
  | false=>match Fast.tw6613529449190102663 m ann t with
   | false=>none
   | true=>match Fast.tw10156331382660048174 (Fast.tw11892475500146522536 Fast.tw14364793385576792824) p w s t with
    | some x=>zx p w m ann n x.1 x.2
    | none=>none
theorem vA {p:Program} {w:World} {m:Nat} {ann:Option Value}:∀ {n:Nat} {s s':SharedT} {t:Thread},zx p w m ann n s t=some s'->topRun treeTable p w m ann n s.abs t=some s'.abs
 | 0,_,_,_,h=>by cases h
 | n+1,s,s',t,h=>by
  unfold zx at h;rw [<-Fast.te6613529449190102663,<-Fast.te10156331382660048174,<-Fast.te11892475500146522536,<-Fast.te14364793385576792824] at h;unfold topRun;cases ht:through t with
  | true=>rw [ht] at h;cases h;rfl
  | false =>
   rw [ht] at h;cases hk:stepOk m ann t with
   | false=>rw [hk] at h;cases h
   | true =>
    rw [hk] at h;cases hs:stepT (denote treeTable) p w s t with
    | none=>rw [hs] at h;cases h
    | some x =>rw [hs] at h;rw [stepT_spec (s':=x.1) (t':=x.2) hs];exact vA h
def GZ (l:List Obj):BT:=(l.foldl (fun x o=>(x.1.ins x.2 o,x.2+1)) (BT.nil,0)).1
def hdS (w:World) (os:OsState):SharedT:=⟨GZ (boot_heap w.params).objs.toList,11,(boot_heap w.params).life,Array.mk [],boot_drawn,boot_toks,os⟩
theorem ES (w:World):(fun os=>(hdS w os).abs)=fun os=>⟨boot_heap w.params,Array.mk [],boot_drawn,boot_toks,os⟩:=by kernel_rfl
theorem Gh (w:World):((boot_heap w.params).isNs mainGlobals&&(Array.mk []:Array GenState).size==0,(boot_heap w.params).objs.size,(boot_heap w.params).nsMap mainGlobals "__annotations__")=(true,11,some (.ref 6)):=by kernel_rfl
def Bk (p q:Program) (loose:List Str) (Xt:Shared->Bool) {α:Type} (Yf:Shared->α) (h:Heap) (s:Shared) :=
 (staticsOk (importedModules p.main.body) h s.heap&&namesBound p s.heap&&gensDone s&&laidKept h s.heap,Fast.tw4187177175401517315 q loose (importedModules p.main.body) Xt true s,Yf s)
theorem Hj {p q:Program} {loose:List Str} {Xt:Shared->Bool} {α:Type} {Yf:Shared->α} {Ya:World->α} {N M:Nat}
  (e:opening p=plainProg p.main.scope.names) (hN:Nat.ble 600 N=true) (f:∀ s,fenceModules? p s=some s) (le:Nat.ble M N=true)
  (h:∀ w,(fun os=>(zx p w 11 (some (.ref 6)) M (hdS w os) (topStub p)).map fun s=>Bk p q loose Xt Yf (boot_heap w.params) s.abs)=fun _=>some (true,openGood q loose,Ya w)):LeftO p q loose Xt Yf Ya N:=fun w=>by
 obtain ⟨⟨hp,gs,d,k,os⟩,e1,e'⟩:=Option.map_eq_some_iff.mp (boot_open e hN f w);obtain ⟨rfl,rfl,rfl,rfl⟩:hp=boot_heap w.params/\gs=Array.mk []/\d=boot_drawn/\k=boot_toks:=by simpa using e'
 obtain ⟨z1,z2,z3⟩:_/\_/\_:=by simpa only [Prod.mk.injEq] using Gh w
 obtain ⟨s,hs,hv⟩:=Option.map_eq_some_iff.mp (congrFun (h w) os);obtain ⟨l1,l2,l3⟩:_/\_/\_:=by simpa only [Bk,<-Fast.te4187177175401517315,Prod.mk.injEq] using hv
 have r:=vA hs;rw [congrFun (ES w) os] at r;have r:=topRun_mono (N-M) _ _ _ _ r;rw [show M+(N-M)=N by have:=Nat.le_of_ble_eq_true le;omega] at r;unfold openEnds;rw [e1];show (topFrom treeTable p w N _).map _=_;have t:topFrom treeTable p w N ⟨boot_heap w.params,Array.mk [],boot_drawn,boot_toks,os⟩=some s.abs:=by unfold topFrom;dsimp only;rw [z1,z2,z3,r];show (match staticsOk (importedModules p.main.body) (boot_heap w.params) s.abs.heap&&namesBound p s.abs.heap&&gensDone s.abs&&laidKept (boot_heap w.params) s.abs.heap with | true=>_ | false=>_)=_;rw [l1]
 rw [t];exact congrArg some (Prod.ext l2 l3)
end RS
section
open PySem PySem.W PyProof.Rows
def RS.vw:Program:=view PySem.Challenge.pw_ranksure_k06_whole_never_rests [1,2,3,4,6,7,8,9,10,11,12,13,14,15,16,17,18,19,20,21,22,24,25,26,27,28,29,30,31,32,33,34,35,37,38,39,40,41,42,43,44]
local macro_rules | `(tactic| o_head $H)=>`(tactic| (refine holds_open (N:=4386) (Xt:=fun s=>xlAt RS.vw [] s&&recOk (RowW.records (OpenRow.toRowW (OpenLaw.row PySem.Challenge.rw_ranksure_k06_whole_never_rests))) s) (XP:=XL RS.vw []) (q:=RS.vw) (loose:=[]) (Yf:=Hook.obs $H) (Ya:=Hook.val $H) (YP:=Hook.says $H) ?hl (Hook.of $H) (Hook.keeps $H) (fun s e=>xl_of s (Bool.and_eq_true_iff.mp e).1) XL.keeps (by rfl) (by rfl) (by rfl) (fun s e=>recFacts_of (Bool.and_eq_true_iff.mp e).2) (by rfl) (by assumption) (by decide +kernel) ⟨rfl,rfl,rfl,rfl,rfl,by decide +kernel⟩ ?hw ?hc;(case hl=>refine RS.Hj (M:=2243) (by kernel_rfl) (by rfl) (by intro s;kernel_rfl) (by rfl) fun w=>?_;kernel_rfl)))
set_option maxRecDepth 100000 in
set_option maxHeartbeats 0 in
open_top RS.hdTop for PySem.Challenge.rw_ranksure_k06_whole_never_rests
end
set_option maxRecDepth 100000
namespace L2
open PySem PySem.Spec PyProof.Rows
abbrev Key:=Sum Int Str
def sJ:Key->Value->Bool
 | .inl k,v=>Value.isInt k v
 | .inr x,v=>Value.isStrOf x v
def xr (w:World):Key->Int
 | .inl k=>hashInt k
 | .inr x=>hashStr w x
theorem dg:∀ {k:Key} {v:Value},sJ k v=true->(∃ i t,k=Sum.inl i/\v=Value.int i t)\/(∃ x t,k=Sum.inr x/\v=Value.str x t)
 | .inl i,v,h=>by obtain ⟨t,e⟩:=Value.isInt_shape (k:=i) (v:=v) h;exact .inl ⟨i,t,rfl,e⟩
 | .inr x,v,h=>by obtain ⟨t,e⟩:=Value.isStrOf_shape (x:=x) (v:=v) h;exact .inr ⟨x,t,rfl,e⟩
theorem AB (i:Int) (t:Tok):sJ (.inl i) (.int i t)=true:=by simp [sJ,Value.isInt]
theorem zX (x:Str) (t:Tok):sJ (.inr x) (.str x t)=true:=by simp [sJ,Value.isStrOf]
theorem GD (a b:Int):decide ((Sum.inl a:Key)=Sum.inl b)=(a==b):=by
 by_cases e:a=b
 ·subst e;simp
 ·have h:¬ (Sum.inl a:Key)=Sum.inl b:=fun q=>e (Sum.inl.inj q)
  rw [decide_eq_false h];exact (beq_eq_false_iff_ne.mpr e).symm
theorem FF (a b:Str):decide ((Sum.inr a:Key)=Sum.inr b)=decide (a=b):=by
 by_cases e:a=b
 ·subst e;simp
 ·have h:¬ (Sum.inr a:Key)=Sum.inr b:=fun q=>e (Sum.inr.inj q)
  rw [decide_eq_false h,decide_eq_false e]
theorem FT (a:Int) (b:Str):decide ((Sum.inl a:Key)=Sum.inr b)=false:=decide_eq_false (fun q=>nomatch q)
theorem FZ (a:Str) (b:Int):decide ((Sum.inr a:Key)=Sum.inl b)=false:=decide_eq_false (fun q=>nomatch q)
def dH (prog:Program) (w:World):PySem.KeyKind prog w Key where
 is:=sJ
 hash:=xr w
 inj:=fun v a b ha hb=>by
  rcases dg ha with ⟨i,t,rfl,rfl⟩ | ⟨x,t,rfl,rfl⟩
  ·rcases dg hb with ⟨j,u,rfl,e⟩ | ⟨y,u,rfl,e⟩
   ·injection e with e1 _;rw [e1]
   ·exact nomatch e
  ·rcases dg hb with ⟨j,u,rfl,e⟩ | ⟨y,u,rfl,e⟩
   ·exact nomatch e
   ·injection e with e1 _;rw [e1]
 byValue:=fun k v h=>by rcases dg h with ⟨i,t,rfl,rfl⟩ | ⟨x,t,rfl,rfl⟩ <;> rfl
 pyHash:=fun hv h=>by
  rcases dg hv with ⟨i,t,rfl,rfl⟩ | ⟨x,t,rfl,rfl⟩
  ·exact wpAny_pyHash_int h
  ·exact wpAny_pyHash_str h
 eqBool:=fun hu hv h=>by
  rcases dg hu with ⟨i,t,rfl,rfl⟩ | ⟨x,t,rfl,rfl⟩
  ·rcases dg hv with ⟨j,u,rfl,rfl⟩ | ⟨y,u,rfl,rfl⟩
   ·rw [GD] at h;exact wpAny_eqBool_int h
   ·rw [FT] at h;exact SeqAt.EqAt.int_str i t y u _ _ _ _ h
  ·rcases dg hv with ⟨j,u,rfl,rfl⟩ | ⟨y,u,rfl,rfl⟩
   ·rw [FZ] at h;exact SeqAt.EqAt.str_int x t j u _ _ _ _ h
   ·rw [FF] at h;exact wpAny_eqBool_str h
 «strs»:=fun k x t v h=>by
  rcases dg h with ⟨i,u,rfl,e⟩ | ⟨y,u,rfl,e⟩
  ·exact nomatch e
  ·injection e with e1 _
   subst e1;cases v <;> rfl
theorem wc (prog:Program) (w:World) (i:Int) (t:Tok):(dH prog w).is (.inl i) (.int i t)=true:=AB i t
theorem xc (prog:Program) (w:World) (x:Str) (t:Tok):(dH prog w).is (.inr x) (.str x t)=true:=zX x t
inductive V where
 | non | bl (b:Bool) | int (i:Int) | str (x:Str) | byt (b:Array UInt8) | flt (b:UInt64) | ref (a:Addr) | ty (n:String)
 deriving DecidableEq
def RelV:V->Value->Prop
 | .non,u=>u=Value.none
 | .bl b,u=>u=Value.bool b
 | .int i,u=>∃ t,u=Value.int i t
 | .str x,u=>∃ t,u=Value.str x t
 | .byt b,u=>∃ t,u=Value.bytes b t
 | .flt b,u=>∃ t,u=Value.float b t
 | .ref a,u=>u=Value.ref a
 | .ty n,u=>u=Value.type n
abbrev Vals:List V->List Value->Prop:=Paired RelV
theorem Vals.length {xs:List V} {us:List Value} (r:Vals xs us):xs.length=us.length:=Paired.length r
theorem Vals.get:∀ {xs:List V} {us:List Value} {i:Nat} {x:V},Vals xs us->xs[i]?=some x->∃ u,us[i]?=some u/\RelV x u
 | _,_,_,_,.nil,e=>by simp at e
 | _,_,0,_,.cons r _,e=>by simp at e;subst e;exact ⟨_,rfl,r⟩
 | _,_,i+1,x,.cons _ t,e=>by obtain ⟨u,h1,h2⟩:=Vals.get (i:=i) (x:=x) t (by simpa using e);exact ⟨u,by simpa using h1,h2⟩
theorem Vals.set {x:V} {u:Value} (r:RelV x u):∀ {xs:List V} {us:List Value} (i:Nat),Vals xs us->Vals (xs.set i x) (us.set i u)
 | _,_,_,.nil=>.nil
 | _,_,0,.cons _ t=>.cons r t
 | _,_,i+1,.cons q t=>.cons q (Vals.set r i t)
theorem Vals.append {xs ys:List V} {us ws:List Value} (h:Vals xs us) (s:Vals ys ws):Vals (xs++ys) (us++ws):=by
 induction h with
 | nil=>exact s
 | cons r t ih=>exact .cons r ih
theorem Vals.take:∀ {xs:List V} {us:List Value} (n:Nat),Vals xs us->Vals (xs.take n) (us.take n)
 | _,_,0,_=>.nil
 | _,_,_+1,.nil=>.nil
 | _,_,n+1,.cons r t=>.cons r (Vals.take n t)
theorem Vals.drop:∀ {xs:List V} {us:List Value} (n:Nat),Vals xs us->Vals (xs.drop n) (us.drop n)
 | _,_,0,r=>r
 | _,_,_+1,.nil=>.nil
 | _,_,n+1,.cons _ t=>Vals.drop n t
def kS:Option V->Option Value->Prop
 | some v,some u=>RelV v u
 | none,none=>True
 | _,_=>False
def KV {κ:Type}:List (κ×V)->List (κ×Value)->Prop:=Paired fun (p:κ×V) (q:κ×Value)=>p.1=q.1/\RelV p.2 q.2
def kV:Key->V
 | .inl i=>.int i
 | .inr x=>.str x
inductive HO where
 | lst (xs:List V)
 | tup (xs:List V)
 | dK (kvs:List (Key×V)) | dT (kvs:List (List Key×V))
 | set (S:Int->Bool) (n:Nat)
 | ins (C dx:Addr) (fs:List (Str×V))
 | own (x:Addr)
 | xd (fs:List (Str×V))
 | met (f x:Addr)
 | rng (lo hi:Int)
 | frz (o:Obj) (u:HO)
 | tbl (q:Str)
 | ext (φ:Heap->Prop)
abbrev Hp:=Addr->Option HO
def upd (H:Hp) (a:Addr) (o:HO):Hp:=fun b=>if b=a then some o else H b
theorem aR {H:Hp} {a:Addr} {o:HO}:upd H a o a=some o:=by unfold upd;rw [if_pos rfl]
theorem aI {H:Hp} {a b:Addr} {o:HO} (h:b≠a):upd H a o b=H b:=by unfold upd;rw [if_neg h]
theorem II {H:Hp} {a b:Addr} {o u:HO} (h:H a=some o) (h':H b=some u) (d:o≠u):a≠b:=by intro e;subst e;rw [h] at h';exact d (Option.some.inj h')
theorem aT {H:Hp} {a b:Addr} {o:HO} (h:H a=some o) (h':H b=none):a≠b:=by intro e;subst e;rw [h] at h';cases h'
def uL (h:Heap) (a:Addr) (items:Array Value):Prop:=∃ o,h.get? a=some o/\o.cls=.type "tuple"/\o.dict=none/\∃ n,o.data=.seq items n
theorem uL.tup {h:Heap} {a:Addr} {items:Array Value} (x:uL h a items):IsTup h a items:=by obtain ⟨o,e,c,_,n,d⟩:=x;exact ⟨o,e,c,n,d⟩
theorem uL.new (h:Heap) (items:Array Value):uL (h.push { cls:=.type "tuple",data:=.seq items }) h.objs.size items:=⟨_,Heap.get?_push_size _ rfl,rfl,rfl,_,rfl⟩
section
variable (P:Program) (w:World)
def dD (H:Hp) (h:Heap) (a:Addr):HO->Prop
 | .lst xs=>xs.length<=sizeLine/\∃ (its:List Value) (n:Nat),Vals xs its/\h.get? a=some { cls:=.type "list",data:=.seq its.toArray n }
 | .tup xs=>xs.length<=sizeLine/\∃ its:List Value,Vals xs its/\uL h a its.toArray
 | .dK kvs=>kvs.length<=sizeLine/\(a==sysModules)=false/\∃ vs,KV kvs vs/\h.DictOf (dH P w) a vs
 | .dT kvs=>kvs.length<=sizeLine/\(a==sysModules)=false/\∃ xs:List (List Key×Addr×Value),
  Paired (fun (p:List Key×V) (q:List Key×Addr×Value)=>p.1=q.1/\H q.2.1=some (.tup (p.1.map kV))/\RelV p.2 q.2.2) kvs xs /\
  ∃ o es ep,h.get? a=some o/\o.ExactDict/\o.data=.dict es ep/\es.toList=xs.map (entryOfKey (tupleKind (dH P w)))/\(xs.map (·.1)).Nodup
 | .set S n=>h.SetOf (intKind P w) a S n
 | .ins C dx fs=>H dx=some (.own a)/\fs.length<=1000/\dx≠a/\h.get? a=some (PySem.W.instObj C dx) /\
  ∃ mA,h.Ns1 dx mA/\(∀ f,kS (fs.lookup f) (mA f))/\PySem.Within mA (fs.map (·.1))
 | .own _=>∃ o,h.get? a=some o
 | .xd fs=>∃ mA,h.Ns1 a mA/\∀ f,kS (fs.lookup f) (mA f)
 | .rng lo hi=>∃ t u v,h.get? a=some { cls:=.type "range",data:=.fields #[.int lo t,.int hi u,.int 1 v] }
 | .frz o u=>h.get? a=some o/\dD H h a u
 | .tbl q=>∃ ps:Array Value,h.get? a=some { cls:=.none,data:=.fields ps }/\TriplesOk ps.toList/\∀ pos cv,codeAmong pos ps.toList=some cv->∃ c' o vs t,cv=.ref c'/\H c'=some (.frz o (.own c'))/\o.data=.fields vs/\vs[1]?=some (.str q t)
 | .met f x=>h.get? a=some (PySem.W.methodObj (.ref f) (.ref x))
 | .ext φ=>φ h/\(∃ o,h.get? a=some o)/\∀ h1 h2:Heap,φ h1->(∀ o,h1.get? a=some o->h2.get? a=some o)->φ h2
def HOk (H:Hp) (h:Heap):Prop:=∀ a o,H a=some o->dD P w H h a o
end
section
variable {P:Program} {w:World} {H H':Hp} {h h':Heap} {a:Addr} {o:HO}
theorem dD.lt (x:dD P w H h a o):a<h.objs.size:=by
 cases o with
 | lst xs=>obtain ⟨_,_,_,_,e⟩:=x;exact Heap.lt_size e
 | tup xs=>obtain ⟨_,_,_,p⟩:=x;exact p.tup.lt
 | dK kvs=>obtain ⟨_,_,_,_,o,_,_,e,_⟩:=x;exact Heap.lt_size e
 | dT kvs=>obtain ⟨_,_,_,_,o,_,_,e,_⟩:=x;exact Heap.lt_size e
 | set S n=>obtain ⟨o,_,_,_,e,_⟩:=x;exact Heap.lt_size e
 | ins C dx fs=>obtain ⟨_,_,_,e,_⟩:=x;exact Heap.lt_size e
 | own y=>obtain ⟨_,e⟩:=x;exact Heap.lt_size e
 | xd fs=>obtain ⟨_,⟨_,_,_,e,_⟩,_⟩:=x;exact Heap.lt_size e
 | rng lo hi=>obtain ⟨_,_,_,e⟩:=x;exact Heap.lt_size e
 | frz ob u=>obtain ⟨e,_⟩:=x;exact Heap.lt_size e
 | tbl q=>obtain ⟨_,e,_⟩:=x;exact Heap.lt_size e
 | met f y=>exact Heap.lt_size (show h.get? a=some _ from x)
 | ext φ=>obtain ⟨_,⟨_,e⟩,_⟩:=x;exact Heap.lt_size e
theorem Paired.mapP {α β:Type} {F G:α->β->Prop} {l₁:List α} {l₂:List β} (h:Paired F l₁ l₂) (f:∀ a b,F a b->G a b):Paired G l₁ l₂:=by
 induction h with
 | nil=>exact .nil
 | cons r t ih=>exact .cons (f _ _ r) ih
theorem dD.stay (x:dD P w H h a o) (k:∀ b u,(b=a\/H b=some (.own a))->h.get? b=some u->h'.get? b=some u)
  (ho:∀ b,H b=some (.own a)->H' b=some (.own a)) (ht:∀ b xs,H b=some (.tup xs)->H' b=some (.tup xs)) (hf:∀ b o u,H b=some (.frz o u)->H' b=some (.frz o u):=by exact fun _ _ _ q=>q):dD P w H' h' a o:=by
 induction o with
 | lst xs=>obtain ⟨z,its,n,r,e⟩:=x;exact ⟨z,its,n,r,k _ _ (.inl rfl) e⟩
 | tup xs=>obtain ⟨z,its,r,ob,e,c⟩:=x;exact ⟨z,its,r,ob,k _ _ (.inl rfl) e,c⟩
 | dK kvs=>obtain ⟨z,y,vs,r,ob,es,ep,e,c⟩:=x;exact ⟨z,y,vs,r,ob,es,ep,k _ _ (.inl rfl) e,c⟩
 | dT kvs =>obtain ⟨z,y,xs,r,ob,es,ep,e,c⟩:=x;exact ⟨z,y,xs,Paired.mapP r fun p q z=>⟨z.1,ht _ _ z.2.1,z.2.2⟩,ob,es,ep,k _ _ (.inl rfl) e,c⟩
 | set S n=>obtain ⟨ob,es,ep,t,e,c⟩:=x;exact ⟨ob,es,ep,t,k _ _ (.inl rfl) e,c⟩
 | ins C dx fs =>obtain ⟨d,z,ne,e,mA,⟨od,es,ep,e2,c⟩,r⟩:=x;exact ⟨ho _ d,z,ne,k _ _ (.inl rfl) e,mA,⟨od,es,ep,k _ _ (.inr d) e2,c⟩,r⟩
 | own y=>obtain ⟨ob,e⟩:=x;exact ⟨ob,k _ _ (.inl rfl) e⟩
 | xd fs=>obtain ⟨mA,⟨od,es,ep,e,c⟩,r⟩:=x;exact ⟨mA,⟨od,es,ep,k _ _ (.inl rfl) e,c⟩,r⟩
 | rng lo hi=>obtain ⟨t,u,v,e⟩:=x;exact ⟨t,u,v,k _ _ (.inl rfl) e⟩
 | frz ob u ih=>obtain ⟨e,q⟩:=x;exact ⟨k _ _ (.inl rfl) e,ih q⟩
 | tbl q =>obtain ⟨ps,e,t,c⟩:=x;exact ⟨ps,k a _ (.inl rfl) e,t,fun pos cv z=>by obtain ⟨c',o,vs,t',e1,e2,e3⟩:=c pos cv z;exact ⟨c',o,vs,t',e1,hf _ _ _ e2,e3⟩⟩
 | met f y =>have e:h.get? a=some (PySem.W.methodObj (.ref f) (.ref y)):=x;show h'.get? a=some (PySem.W.methodObj (.ref f) (.ref y));exact k a _ (.inl rfl) e
 | ext φ=>obtain ⟨p,⟨o,e⟩,st⟩:=x;exact ⟨st _ _ p fun o q=>k _ _ (.inl rfl) q,⟨o,k _ _ (.inl rfl) e⟩,st⟩
theorem HOk.lt (x:HOk P w H h) (e:H a=some o):a<h.objs.size:=(x a o e).lt
theorem HOk.fresh (x:HOk P w H h) (e:h.objs.size<=a):H a=none:=by
 cases q:H a with
 | none=>rfl
 | some u=>exact absurd (Nat.lt_of_lt_of_le (x.lt q) e) (Nat.lt_irrefl _)
theorem HOk.kept (x:HOk P w H h) (k:∀ b u,h.get? b=some u->h'.get? b=some u):HOk P w H h':=fun a o e =>
 (x a o e).stay (fun b u _ q=>k b u q) (fun _ q=>q) fun _ _ q=>q
theorem HOk.laid (x:HOk P w H h) (k:∀ b u,h.get? b=some u->h'.get? b=some u) (hp:h.objs.size<=a) (new:dD P w (upd H a o) h' a o):HOk P w (upd H a o) h':=fun b u e=>by
 have hn:=x.fresh hp;by_cases hb:b=a
 ·subst hb;rw [aR] at e;cases e;exact new
 ·rw [aI hb] at e;exact (x b u e).stay (fun c v _ q=>k c v q) (fun c q=>by rw [aI (aT q hn)];exact q) (fun c xs q=>by rw [aI (aT q hn)];exact q) fun c ob w' q=>by rw [aI (aT q hn)];exact q
end
def Rd (H:Hp) (a:Addr) (u:HO):Prop:=H a=some u\/∃ o,H a=some (.frz o u)
theorem Rd.ok {P:Program} {w:World} {H:Hp} {h:Heap} {a:Addr} {u:HO} (r:Rd H a u) (x:HOk P w H h):dD P w H h a u:=by
 rcases r with r | ⟨o,r⟩
 ·exact x a u r
 ·obtain ⟨_,q⟩:=x a _ r;exact q
def Mut:Option HO->Prop
 | some (.lst _)=>True
 | some (.dK _)=>True
 | some (.dT _)=>True
 | some (.set _ _)=>True
 | some (.ins _ _ _)=>True
 | some (.ext _)=>True
 | _=>False
section
variable {P:Program} {w:World} {H:Hp} {h h':Heap} {x e:Addr} {o':HO}
theorem HOk.write (ok:HOk P w H h) (mu:Mut (H x)) (he:e=x\/H e=some (.own x)) (k:∀ b u,b≠e->h.get? b=some u->h'.get? b=some u) (heo:∃ u,h'.get? e=some u)
  (new:dD P w (upd H x o') h' x o'):HOk P w (upd H x o') h':=fun b u q=>by
 have nown:∀ c y,H c=some (.own y)->c≠x:=fun c y r z=>by subst z;rw [r] at mu;exact mu
 have ntup:∀ c xs,H c=some (.tup xs)->c≠x:=fun c xs r z=>by subst z;rw [r] at mu;exact mu
 have nfrz:∀ c o u,H c=some (.frz o u)->c≠x:=fun c o u r z=>by subst z;rw [r] at mu;exact mu
 by_cases hb:b=x
 ·subst hb;rw [aR] at q;cases q;exact new
 ·rw [aI hb] at q;by_cases hbe:b=e
  ·have q':H b=some (.own x):=by
    rcases he with z | z
    ·exact absurd (hbe.trans z) hb
    ·rw [hbe];exact z
   rw [q] at q';cases q';obtain ⟨v,hv⟩:=heo;exact ⟨v,by rw [hbe];exact hv⟩
  ·refine (ok b u q).stay (fun c v hc r=>k c v ?_ r) (fun c r=>by rw [aI (nown c b r)];exact r) (fun c xs r=>by rw [aI (ntup c xs r)];exact r) fun c o w' r=>by rw [aI (nfrz c o w' r)];exact r
   rcases hc with rfl | hc
   ·exact hbe
   ·rintro rfl
    rcases he with z | z
    ·exact nown c b hc z
    ·rw [hc] at z;cases z;exact hb rfl
end
structure Un (fs ex:List Addr) (H H':Hp) (h h':Heap):Prop where
 keep:∀ b o,h.get? b=some o->H b=none->b∉fs->b∉ex->h'.get? b=some o
 slot:∀ b o,h.get? b=some o->H b=none->b∈fs->b∉ex->∃ sl,h'.get? b=some { o with slots:=sl }
 free:∀ b o,h.get? b=some o->H b=none->b∉ex->H' b=none
 there:∀ b o,h.get? b=some o->b∉ex->∃ o',h'.get? b=some o'
 tups:∀ b xs,H b=some (.tup xs)->H' b=some (.tup xs)
 frzs:∀ b o u,H b=some (.frz o u)->H' b=some (.frz o u)
 tbls:∀ b q,H b=some (.tbl q)->H' b=some (.tbl q)
section
variable {fs fs' ex ex':List Addr} {H H1 H2:Hp} {h h1 h2 h':Heap} {a x e:Addr} {o:HO}
theorem Un.any (u:Un fs ex H H1 h h1) {b:Addr} {ob:Obj} (q:h.get? b=some ob) (n:H b=none) (hx:b∉ex):∃ sl,h1.get? b=some { ob with slots:=sl }:=by
 by_cases hb:b∈fs
 ·exact u.slot b ob q n hb hx
 ·exact ⟨ob.slots,u.keep b ob q n hb hx⟩
theorem Un.kept (k:∀ b u,h.get? b=some u->h'.get? b=some u):Un fs ex H H h h' :=
 ⟨fun b ob q _ _ _=>k b ob q,fun b ob q _ _ _=>⟨ob.slots,k b ob q⟩,fun _ _ _ n _=>n,fun b ob q _=>⟨ob,k b ob q⟩,fun _ _ q=>q,fun _ _ _ q=>q,fun _ _ q=>q⟩
theorem Un.refl:Un fs ex H H h h:=Un.kept fun _ _ q=>q
theorem Un.laid (k:∀ b u,h.get? b=some u->h'.get? b=some u) (hp:h.objs.size<=a) (hn:H a=none):Un fs ex H (upd H a o) h h' where
 keep:=fun b u q _ _ _=>k b u q
 slot:=fun b u q _ _ _=>⟨u.slots,k b u q⟩
 free:=fun b u q n _=>by rw [aI (Nat.ne_of_lt (Nat.lt_of_lt_of_le (Heap.lt_size q) hp))];exact n
 there:=fun b u q _=>⟨u,k b u q⟩
 tups:=fun b xs q=>by rw [aI (aT q hn)];exact q
 frzs:=fun b u xs q=>by rw [aI (aT q hn)];exact q
 tbls:=fun b ps q=>by rw [aI (aT q hn)];exact q
theorem Un.write (mu:Mut (H x)) (he:e=x\/H e=some (.own x)) (k:∀ b u,b≠e->h.get? b=some u->h'.get? b=some u) (heo:∃ u,h'.get? e=some u):Un fs ex H (upd H x o) h h':=by
 have hx:∀ b,H b=none->b≠x:=fun b n z=>by subst z;rw [n] at mu;exact mu
 have hb:∀ b,H b=none->b≠e:=fun b n z=>by
  subst z;rcases he with r | r
  ·exact hx b n r
  ·rw [n] at r;cases r
 have hm:∀ b u,H b=some u->¬ Mut (some u)->b≠x:=fun b u q nm z=>by subst z;rw [q] at mu;exact nm mu
 refine ⟨fun b u q n _ _=>k b u (hb b n) q,fun b u q n _ _=>⟨u.slots,k b u (hb b n) q⟩,fun b u q n _=>by rw [aI (hx b n)];exact n,fun b u q _=>?_,
  fun b xs q=>by rw [aI (hm b _ q fun z=>z)];exact q,fun b u xs q=>by rw [aI (hm b _ q fun z=>z)];exact q,fun b ps q=>by rw [aI (hm b _ q fun z=>z)];exact q⟩
 by_cases hbe:b=e
 ·subst hbe;exact heo
 ·exact ⟨u,k b u hbe q⟩
end
def trk (h:Heap) (H:Hp):List Addr:=(List.range h.objs.size).filter fun a=>(H a).isSome
def si (h:Heap) (H:Hp):Heap:=PySem.W.hideAll h (trk h H)
theorem AD (h:Heap) (H:Hp):(si h H).objs.size=h.objs.size:=PySem.W.hideAll_size _ _
theorem CL {h:Heap} {H:Hp} {b:Addr} {o:Obj} (e:h.get? b=some o) (n:H b=none):(si h H).get? b=some o :=
 PySem.W.hideAll_get _ e fun hm=>by have q:(H b).isSome=true:=(List.mem_filter.mp hm).2;rw [n] at q;simp at q
theorem ED {h:Heap} {H:Hp} {b:Addr} {o:Obj} (e:(si h H).get? b=some o):h.get? b=some o/\H b=none:=by
 have e':h.get? b=some o:=PySem.W.of_hideAll (trk h H) e;refine ⟨e',?_⟩;cases q:H b with
 | none=>rfl
 | some x =>have hm:b∈trk h H:=List.mem_filter.mpr ⟨List.mem_range.mpr (Heap.lt_size e'),by simp [q]⟩;have z:(si h H).get? b=none:=PySem.W.hideAll_none (trk h H) hm;rw [z] at e;cases e
structure Mod (K:PySem.W.Frag) (mg:Str->Option Value) (base:Heap):Prop where
 kin:K.In base
 glob:base.Ns mainGlobals mg
 blt:∃ mb,base.Ns builtinsNs mb/\∀ x:Str,x≠"__name__"->mb x=bootBuiltins x
 nolimit:base.NoLimit
def pq:List Str:=["picked"]
def TabOf (K:PySem.W.Frag) (P:Addr) (q:Str):Prop:=∃ x∈pq,∃ f oc od fd sl c,PySem.W.nsIn K mainGlobals x=some (some (.ref f))/\K.lookup f=some ⟨oc,od,.func fd,sl⟩/\fd.code=.ref c/\(∃ o vs,K.lookup c=some o/\o.data=.fields vs/\vs[11]?=some (.ref P))/\q=x++".<locals>.<lambda>"
structure Cx where
 prog:Program
 w:World
 K:PySem.W.Frag
 mg:Str->Option Value
 base:Heap
 A:Around
 N:List Str
 s₀:Shared
 H₀:Hp
 env:Env
 outer:List Env
 stack:List Env
 ex:List Addr
 fn:Str->Bool
 calm:Bool
 pn:List (Addr×Obj)
 xe:Value->Shared->Prop
def frs (l:List Env):List Addr:=l.filterMap (·.frame)
abbrev Cx.fs (X:Cx):List Addr:=frs X.outer
def Vis (sc:Scope) (x:Str):Prop:=sc.names.lookup x=some .local\/sc.names.lookup x=some .cell\/sc.names.lookup x=some .free
def Loc (sc:Scope) (x:Str):Prop:=sc.names.lookup x=some .local\/sc.names.lookup x=some .cell
def Look (env:Env) (h:Heap) (m:Str->Option Value) (x:Str) (u:Value):Prop :=
 (env.kindOf x=some .local/\m x=some u)\/((env.kindOf x=some .cell\/env.kindOf x=some .free)/\∃ c,env.cells.lookup x=some c/\h.IsCell c (some u))
structure Cx.Ok (X:Cx):Prop where
 mod:Mod X.K X.mg X.base
 kind:X.env.scope.kind=.function
 glob:X.env.globals=mainGlobals
 blt:X.env.builtins=builtinsNs
 above:X.s₀.heap.objs.size<=X.env.locals
 inj:∀ x y c,X.env.cells.lookup x=some c->X.env.cells.lookup y=some c->x=y
 has:∀ x,(X.env.kindOf x=some .cell\/X.env.kindOf x=some .free)->∃ c,X.env.cells.lookup x=some c
 cab:∀ x c,X.fn x=true->X.env.cells.lookup x=some c->X.s₀.heap.objs.size<=c
 hd:X.calm=true->X.A.handled=none
 frames:X.A.frames=some X.stack
 stk:X.stack=X.outer\/(X.stack=X.env::X.outer/\X.env.frame=some X.env.locals)
 exf:∀ b∈X.ex,b≠X.env.locals/\∀ x c,X.env.cells.lookup x=some c->c≠b
 bs:∀ b o,X.base.get? b=some o->X.s₀.heap.get? b=some o/\X.H₀ b=none
 bsz:X.base.objs.size<=X.s₀.heap.objs.size
 noex:∀ b o,X.base.get? b=some o->b∉X.ex
 exfs:∀ b∈X.ex,b∉X.fs
 funs:X.s₀.heap.FunFrames X.base X.outer
 frf:∀ b∈X.fs,X.H₀ b=none
structure Inv (X:Cx) (pins:List (Addr×Obj)) (σ:List (Option V)) (H:Hp) (s:Shared):Prop where
 ok:X.Ok
 os:s.os=X.s₀.os
 bare:AllBare s.gens
 base:Un X.fs X.ex X.H₀ H X.s₀.heap s.heap
 loc:∃ m,s.heap.Ns X.env.locals m/\∀ (i:Nat) (x:Str) (v:V),X.N[i]?=some x->σ[i]?=some (some v)->Vis X.env.scope x->∃ u,RelV v u/\Look X.env s.heap m x u
 cell:∀ x c,X.env.cells.lookup x=some c->∃ v,s.heap.IsCell c v
 free:H X.env.locals=none
 freeC:∀ x c,X.env.cells.lookup x=some c->H c=none
 pin:∀ p∈X.pn++pins,s.heap.get? p.1=some p.2/\H p.1=none/\p.1≠X.env.locals/\p.1∉X.fs/\∀ v,p.2.data≠.cell v
 hok:HOk X.prog X.w H s.heap
 len:σ.length=X.N.length
 tab:∀ P q,TabOf X.K P q->H P=some (.tbl q)
section
variable {X:Cx} {pins:List (Addr×Obj)} {σ:List (Option V)} {H H':Hp} {s:Shared} {h':Heap}
theorem Cx.Ok.nofr (ok:X.Ok) {b:Addr} {o:Obj} (e:X.base.get? b=some o):b∉X.fs:=fun hb=>by have:=(ok.funs.mem hb).1;rw [e] at this;cases this
theorem Inv.bs (I:Inv X pins σ H s):∀ b o,X.base.get? b=some o->s.heap.get? b=some o/\H b=none:=fun b o e =>
 ⟨I.base.keep b o (I.ok.bs b o e).1 (I.ok.bs b o e).2 (I.ok.nofr e) (I.ok.noex b o e),I.base.free b o (I.ok.bs b o e).1 (I.ok.bs b o e).2 (I.ok.noex b o e)⟩
theorem Inv.bk (I:Inv X pins σ H s):∀ b o,X.base.get? b=some o->s.heap.get? b=some o:=fun b o e=>(I.bs b o e).1
theorem Inv.mod (I:Inv X pins σ H s):Mod X.K X.mg X.base:=I.ok.mod
theorem Inv.kIn (I:Inv X pins σ H s):X.K.In s.heap:=I.ok.mod.kin.keeps I.bk
theorem Inv.lt (I:Inv X pins σ H s):X.env.locals<s.heap.objs.size:=let ⟨_,hn,_⟩:=I.loc;hn.lt
theorem Inv.sz (I:Inv X pins σ H s):X.s₀.heap.objs.size<=s.heap.objs.size:=Nat.le_trans I.ok.above (Nat.le_of_lt I.lt)
theorem Inv.nofs (I:Inv X pins σ H s) {a:Addr} (h:s.heap.objs.size<=a):a∉X.fs:=fun hb=>by obtain ⟨_,o,ho,_⟩:=I.ok.funs.mem hb;exact absurd (Nat.lt_of_lt_of_le (Heap.lt_size ho) (Nat.le_trans I.sz h)) (Nat.lt_irrefl _)
theorem Inv.cne (I:Inv X pins σ H s):∀ x c,X.env.cells.lookup x=some c->c≠X.env.locals:=fun x c e z=>by obtain ⟨v,o,ho,hd⟩:=I.cell x c e;obtain ⟨m,⟨o',es,ep,ho',hd',_⟩,_⟩:=I.loc;rw [z,ho'] at ho;cases ho;rw [hd'] at hd;cases hd
theorem Inv.funs (I:Inv X pins σ H s):s.heap.FunFrames X.base X.outer:=by
 have all:∀ (l:List Env),(∀ b∈frs l,b∈X.fs)->X.s₀.heap.FunFrames X.base l->s.heap.FunFrames X.base l:=by
  intro l
  induction l with
  | nil=>intro _ _;trivial
  | cons env r ih =>
   intro hs hl;obtain ⟨hk,⟨L,o,hf,hn,ho,hd⟩,hr⟩:=hl;have hL:L∈X.fs:=hs L (by unfold frs;rw [List.filterMap_cons,hf];exact List.mem_cons_self);obtain ⟨sl,e⟩:=I.base.slot L o ho (I.ok.frf L hL) hL fun z=>I.ok.exfs L z hL
   exact ⟨hk,⟨L,_,hf,hn,e,hd⟩,ih (fun b hb=>hs b (by unfold frs;rw [List.filterMap_cons,hf];exact List.mem_cons_of_mem _ hb)) hr⟩
 exact all X.outer (fun _ hb=>hb) I.ok.funs
theorem Inv.stack (I:Inv X pins σ H s):s.heap.FunFrames X.base X.stack:=by
 rcases I.ok.stk with e | ⟨e,hf⟩
 ·rw [e];exact I.funs
 ·rw [e];obtain ⟨m,hn,_⟩:=I.loc;refine .cons (by rw [I.ok.kind];decide) hf hn ?_ I.funs;exact Heap.get?_none_of_le (Nat.le_trans I.ok.bsz I.ok.above)
theorem Inv.stkSub (I:Inv X pins σ H s):∀ b∈frs X.stack,b∈X.env.locals::X.fs:=fun b hb=>by
 rcases I.ok.stk with e | ⟨e,hf⟩
 ·rw [e] at hb;exact List.mem_cons_of_mem _ hb
 ·rw [e] at hb;unfold frs at hb;rw [List.filterMap_cons,hf] at hb;exact hb
theorem Inv.stkFree (I:Inv X pins σ H s):∀ b∈frs X.stack,H b=none:=fun b hb=>by
 rcases List.mem_cons.mp (I.stkSub b hb) with e | hb
 ·rw [e];exact I.free
 ·obtain ⟨_,o,ho,_⟩:=I.ok.funs.mem hb;exact I.base.free b o ho (I.ok.frf b hb) fun z=>I.ok.exfs b z hb
theorem Inv.step {g':Array GenState} {t':Nat} {d':Drawn} {ch:List Addr} (I:Inv X pins σ H s)
  (hch:∀ b∈ch,(b∈X.ex\/X.s₀.heap.objs.size<=b)/\b≠X.env.locals/\(∀ x c,X.env.cells.lookup x=some c->c≠b)/\∀ p∈X.pn++pins,p.1≠b)
  (keep:∀ b o,b≠X.env.locals->b∉X.fs->b∉ch->s.heap.get? b=some o->H b=none->h'.get? b=some o)
  (slot:∀ b o,b≠X.env.locals->b∈X.fs->b∉ch->s.heap.get? b=some o->H b=none->∃ sl,h'.get? b=some { o with slots:=sl }) (free:∀ b o,b∉ch->s.heap.get? b=some o->H b=none->H' b=none)
  (there:∀ b o,b∉ch->s.heap.get? b=some o->∃ o',h'.get? b=some o')
  (tups:∀ b xs,H b=some (.tup xs)->H' b=some (.tup xs)) (frzs:∀ b o u,H b=some (.frz o u)->H' b=some (.frz o u)) (tbls:∀ b q,H b=some (.tbl q)->H' b=some (.tbl q))
  (ns:∀ m,s.heap.Ns X.env.locals m->h'.Ns X.env.locals m) (hok:HOk X.prog X.w H' h') (hg:AllBare g') :
  Inv X pins σ H' { s with heap:=h',gens:=g',drawn:=d',toks:=t' }:=by
 have neL:∀ b o,X.s₀.heap.get? b=some o->b≠X.env.locals:=fun b o e=>Nat.ne_of_lt (Nat.lt_of_lt_of_le (Heap.lt_size e) I.ok.above)
 have neC:∀ b o,X.s₀.heap.get? b=some o->b∉X.ex->b∉ch:=fun b o e hx hb=>by
  rcases (hch b hb).1 with z | z
  ·exact hx z
  ·exact absurd (Nat.lt_of_lt_of_le (Heap.lt_size e) z) (Nat.lt_irrefl _)
 have cellK:∀ x c,X.env.cells.lookup x=some c->∀ v,s.heap.IsCell c v->h'.IsCell c v:=fun x c e v pz4=>by
  obtain ⟨o,ho,hd⟩:=pz4;have nch:c∉ch:=fun z=>(hch c z).2.2.1 x c e rfl
  by_cases hc:c∈X.fs
  ·obtain ⟨sl,q⟩:=slot c o (I.cne x c e) hc nch ho (I.freeC x c e);exact ⟨_,q,hd⟩
  ·exact ⟨o,keep c o (I.cne x c e) hc nch ho (I.freeC x c e),hd⟩
 refine ⟨I.ok,I.os,hg,⟨fun b o e n hb hx=>?_,fun b o e n hb hx=>?_,fun b o e n hx=>?_,fun b o e hx=>?_,fun b xs e=>tups b xs (I.base.tups b xs e),fun b o xs e=>frzs b o xs (I.base.frzs b o xs e),fun b ps e=>?_⟩,?_,fun x c e=>?_,?_,fun x c e=>?_,fun p hp=>?_,hok,I.len,fun P q t=>tbls P q (I.tab P q t)⟩
 ·exact keep b o (neL b o e) hb (neC b o e hx) (I.base.keep b o e n hb hx) (I.base.free b o e n hx)
 ·obtain ⟨sl,e1⟩:=I.base.slot b o e n hb hx;obtain ⟨sl',e2⟩:=slot b _ (neL b o e) hb (neC b o e hx) e1 (I.base.free b o e n hx);exact ⟨sl',e2⟩
 ·obtain ⟨o',e1⟩:=I.base.there b o e hx;exact free b o' (neC b o e hx) e1 (I.base.free b o e n hx)
 ·obtain ⟨o',e1⟩:=I.base.there b o e hx;exact there b o' (neC b o e hx) e1
 ·exact tbls b _ (I.base.tbls b ps e)
 ·obtain ⟨m,hn,hl⟩:=I.loc;refine ⟨m,ns m hn,fun i x v e1 e2 e3=>?_⟩;obtain ⟨u,r,l⟩:=hl i x v e1 e2 e3;refine ⟨u,r,?_⟩;rcases l with l | ⟨k,c,e,z⟩
  ·exact .inl l
  ·exact .inr ⟨k,c,e,cellK x c e _ z⟩
 ·obtain ⟨v,z⟩:=I.cell x c e;exact ⟨v,cellK x c e v z⟩
 ·obtain ⟨m,⟨o,_,_,ho,_⟩,_⟩:=I.loc;exact free _ o (fun z=>(hch _ z).2.1 rfl) ho I.free
 ·obtain ⟨v,o,ho,hd⟩:=I.cell x c e;exact free c o (fun z=>(hch c z).2.2.1 x c e rfl) ho (I.freeC x c e)
 ·obtain ⟨e,n,ne,nf,d⟩:=I.pin p hp;have nch:p.1∉ch:=fun z=>(hch p.1 z).2.2.2 p hp rfl
  exact ⟨keep p.1 p.2 ne nf nch e n,free p.1 p.2 nch e n,ne,nf,d⟩
theorem Inv.un {t':Nat} (I:Inv X pins σ H s) (u:Un X.fs [] H H' s.heap h') (hok:HOk X.prog X.w H' h'):Inv X pins σ H' { s with heap:=h',toks:=t' }:=by obtain ⟨m,⟨o,es,ep,ho,r⟩,_⟩:=id I.loc;obtain ⟨sl,hL⟩:=u.any ho I.free (by simp);exact I.step (g':=s.gens) (d':=s.drawn) (ch:=[]) (fun _ z=>nomatch z) (fun b o _ hb _ e n=>u.keep b o e n hb (by simp)) (fun b o _ hb _ e n=>u.slot b o e n hb (by simp)) (fun b o _ e n=>u.free b o e n (by simp)) (fun b o _ e=>u.there b o e (by simp)) u.tups u.frzs u.tbls (fun m' hm=>by obtain ⟨o',es',ep',ho',r'⟩:=hm;rw [ho] at ho';cases ho';exact ⟨_,es',ep',hL,r'⟩) hok I.bare
theorem Inv.call {g':Array GenState} {t':Nat} {d':Drawn} {ch:List Addr} (I:Inv X pins σ H s) (u:Un (frs X.stack) ch H H' s.heap h') (hok:HOk X.prog X.w H' h') (hg:AllBare g')
  (hch:∀ b∈ch,(b∈X.ex\/X.s₀.heap.objs.size<=b)/\b≠X.env.locals/\(∀ x c,X.env.cells.lookup x=some c->c≠b)/\∀ p∈X.pn++pins,p.1≠b) :
  Inv X pins σ H' { s with heap:=h',gens:=g',drawn:=d',toks:=t' }:=by
 obtain ⟨m,⟨o,es,ep,ho,r⟩,_⟩:=id I.loc;obtain ⟨sl,hL⟩:=u.any ho I.free fun z=>(hch _ z).2.1 rfl
 exact I.step (ch:=ch) hch (fun b o hL hb hc e n=>u.keep b o e n (fun z=>(List.mem_cons.mp (I.stkSub b z)).elim hL hb) hc) (fun b o _ _ hc e n=>u.any e n hc) (fun b o hc e n=>u.free b o e n hc) (fun b o hc e=>u.there b o e hc) u.tups u.frzs u.tbls (fun m' hm=>by obtain ⟨o',es',ep',ho',r'⟩:=hm;rw [ho] at ho';cases ho';exact ⟨_,es',ep',hL,r'⟩) hok hg
theorem Inv.turned {t':Nat} {it:Addr} (I:Inv X pins σ H s) (k:∀ b o,b≠it->s.heap.get? b=some o->h'.get? b=some o) (hn:H it=none) (hL:it≠X.env.locals)
  (h1:it∈X.ex\/X.s₀.heap.objs.size<=it) (h2:∀ x c,X.env.cells.lookup x=some c->c≠it) (h3:∀ p∈X.pn++pins,p.1≠it):Inv X pins σ H { s with heap:=h',toks:=t' }:=by
 have nit:∀ b u,H b=some u->b≠it:=fun b u e z=>by rw [z,hn] at e;cases e
 refine I.step (g':=s.gens) (d':=s.drawn) (ch:=[it]) (fun b hb=>?_) (fun b o _ _ hc e _=>k b o (fun z=>hc (by simp [z])) e) (fun b o _ _ hc e _=>⟨o.slots,k b o (fun z=>hc (by simp [z])) e⟩) (fun _ _ _ _ n=>n)
  (fun b o hc e=>⟨o,k b o (fun z=>hc (by simp [z])) e⟩) (fun _ _ e=>e) (fun _ _ _ e=>e) (fun b ps e=>e) (fun m hm=>?_) (fun b u e=>?_) I.bare
 ·have e:b=it:=by simpa using hb
  subst e;exact ⟨h1,hL,h2,h3⟩
 ·obtain ⟨o,es,ep,ho,r⟩:=hm;exact ⟨o,es,ep,k _ o (Ne.symm hL) ho,r⟩
 ·refine (I.hok b u e).stay (fun c v hc q=>k c v ?_ q) (fun _ q=>q) fun _ _ q=>q
  rcases hc with z | z
  ·rw [z];exact nit b u e
  ·exact nit c _ z
theorem Inv.tok (I:Inv X pins σ H s) (t:Nat):Inv X pins σ H { s with toks:=t }:=I.un (h':=s.heap) (t':=t) Un.refl I.hok
theorem Inv.kept {t':Nat} (I:Inv X pins σ H s) (k:∀ b u,s.heap.get? b=some u->h'.get? b=some u):Inv X pins σ H { s with heap:=h',toks:=t' }:=I.un (Un.kept k) (I.hok.kept k)
theorem Inv.laid {a:Addr} {o:HO} {t':Nat} (I:Inv X pins σ H s) (k:∀ b u,s.heap.get? b=some u->h'.get? b=some u) (hp:s.heap.objs.size<=a) (new:dD X.prog X.w (upd H a o) h' a o) :
 Inv X pins σ (upd H a o) { s with heap:=h',toks:=t' }:=I.un (Un.laid k hp (I.hok.fresh hp)) (I.hok.laid k hp new)
theorem Inv.write {x e:Addr} {o:HO} {t':Nat} (I:Inv X pins σ H s) (mu:Mut (H x)) (he:e=x\/H e=some (.own x)) (k:∀ b u,b≠e->s.heap.get? b=some u->h'.get? b=some u) (heo:∃ u,h'.get? e=some u)
 (new:dD X.prog X.w (upd H x o) h' x o):Inv X pins σ (upd H x o) { s with heap:=h',toks:=t' }:=I.un (Un.write mu he k heo) (I.hok.write mu he k heo new)
theorem Inv.pins_of {pins':List (Addr×Obj)} (I:Inv X pins σ H s) (h:∀ p∈pins',s.heap.get? p.1=some p.2/\H p.1=none/\p.1≠X.env.locals/\p.1∉X.fs/\∀ v,p.2.data≠.cell v):Inv X pins' σ H s :=
 ⟨I.ok,I.os,I.bare,I.base,I.loc,I.cell,I.free,I.freeC,fun p hp=>(List.mem_append.mp hp).elim (fun z=>I.pin p (List.mem_append_left _ z)) (h p),I.hok,I.len,I.tab⟩
theorem v9 {N:List Str} (hN:N.Nodup) {i j:Nat} {x:Str} (a:N[i]?=some x) (b:N[j]?=some x):i=j:=by obtain ⟨h1,e1⟩:=List.getElem?_eq_some_iff.mp a;obtain ⟨h2,e2⟩:=List.getElem?_eq_some_iff.mp b;exact (List.getElem_inj hN).mp (e1.trans e2.symm)
theorem sR {M:Model} {A:Around} {E:Value->Shared->Prop} {i:Nat} {x:Str} {v:V} {u:Value} {Q:Unit->Shared->Prop} (I:Inv X pins σ H s) (hN:X.N.Nodup) (hi:X.N[i]?=some x) (hx:Loc X.env.scope x) (r:RelV v u)
  (h:∀ s',Inv X pins (σ.set i (some v)) H s'->(∃ a,Heap.SameBut a s.heap s'.heap/\(a=X.env.locals\/X.env.cells.lookup x=some a))->Q () s') (hf:X.fn x=true\/X.env.scope.names.lookup x=some .local:=by first | exact .inl rfl | exact .inr rfl | assumption):wpAny M A (storeName X.env x u) Q E s:=by
 obtain ⟨m,hn,hl⟩:=id I.loc;have hcls:(X.env.scope.kind==.class || (X.env.scope.kind==.module&&X.env.locals != X.env.globals))=false:=by rw [I.ok.kind];rfl
 have hiσ:i<σ.length:=by rw [I.len];exact (List.getElem?_eq_some_iff.mp hi).1
 have cne:=I.cne;have tracked:∀ {a:Addr} {h':Heap},(∃ o,s.heap.get? a=some o/\H a=none)->Heap.SameBut a s.heap h'->HOk X.prog X.w H h':=fun {a h'} ha hs b ob e=>by
  obtain ⟨_,_,hfree⟩:=ha;refine (I.hok b ob e).stay (fun c w' hc q=>(hs.2 c ?_).trans q) (fun _ q=>q) fun _ _ q=>q
  rintro rfl
  rcases hc with rfl | hc
  ·rw [hfree] at e;cases e
  ·rw [hfree] at hc;cases hc
 rcases hx with hk | hk
 ·refine wpAny_storeName_local hk hn (fun h' hn' hs=>?_) hcls;obtain ⟨oL,_,_,hoL,_⟩:=id hn;refine h _ ⟨I.ok,I.os,I.bare,⟨fun b o e n hb hx=>?_,fun b o e n hb hx=>?_,I.base.free,fun b o e hx=>?_,I.base.tups,I.base.frzs,I.base.tbls⟩,⟨_,hn',fun j y v' e1 e2 e3=>?_⟩,fun y c e=>?_,I.free,I.freeC,fun p hp=>?_,tracked ⟨oL,hoL,I.free⟩ hs,by simpa using I.len,I.tab⟩ ⟨_,hs,.inl rfl⟩
  ·exact (hs.2 b (Nat.ne_of_lt (Nat.lt_of_lt_of_le (Heap.lt_size e) I.ok.above))).trans (I.base.keep b o e n hb hx)
  ·obtain ⟨sl,e1⟩:=I.base.slot b o e n hb hx;exact ⟨sl,(hs.2 b (Nat.ne_of_lt (Nat.lt_of_lt_of_le (Heap.lt_size e) I.ok.above))).trans e1⟩
  ·obtain ⟨o',e1⟩:=I.base.there b o e hx;exact ⟨o',(hs.2 b (Nat.ne_of_lt (Nat.lt_of_lt_of_le (Heap.lt_size e) I.ok.above))).trans e1⟩
  ·by_cases hj:j=i
   ·subst hj;rw [hi] at e1;cases e1;rw [List.getElem?_set_self hiσ] at e2;cases e2;exact ⟨u,r,.inl ⟨hk,by simp⟩⟩
   ·rw [List.getElem?_set_ne (Ne.symm hj)] at e2;obtain ⟨u',r',q⟩:=hl j y v' e1 e2 e3;refine ⟨u',r',?_⟩;rcases q with ⟨k,e⟩ | ⟨k,c,e,z⟩
    ·refine .inl ⟨k,?_⟩;have:y≠x:=fun e=>hj (v9 hN e1 (e▸hi))
     simp [this,e]
    ·exact .inr ⟨k,c,e,z.sameBut hs (cne y c e)⟩
  ·obtain ⟨w',z⟩:=I.cell y c e;exact ⟨w',z.sameBut hs (cne y c e)⟩
  ·obtain ⟨e,n,ne,nf,d⟩:=I.pin p hp;exact ⟨(hs.2 p.1 ne).trans e,n,ne,nf,d⟩
 ·have hfn:X.fn x=true:=by
   rcases hf with z | z
   ·exact z
   ·rw [z] at hk;cases hk
  obtain ⟨c,hc⟩:=I.ok.has x (.inl hk);obtain ⟨w',z⟩:=I.cell x c hc;refine wpAny_storeName_cell I.ok.kind hk hc z (fun h' hc' hs=>?_);obtain ⟨oc,hoc,hocd⟩:=id z;refine h { s with heap:=h' } ⟨I.ok,I.os,I.bare,⟨fun b o e n hb hx=>?_,fun b o e n hb hx=>?_,I.base.free,fun b o e hx=>?_,I.base.tups,I.base.frzs,I.base.tbls⟩,⟨m,hn.sameBut hs (Ne.symm (cne x c hc)),fun j y v' e1 e2 e3=>?_⟩,fun y c' e=>?_,I.free,I.freeC,fun p hp=>?_,tracked ⟨oc,hoc,I.freeC x c hc⟩ hs,by simpa using I.len,I.tab⟩ ⟨c,hs,.inr hc⟩
  ·exact (hs.2 b (Nat.ne_of_lt (Nat.lt_of_lt_of_le (Heap.lt_size e) (I.ok.cab x c hfn hc)))).trans (I.base.keep b o e n hb hx)
  ·obtain ⟨sl,e1⟩:=I.base.slot b o e n hb hx;exact ⟨sl,(hs.2 b (Nat.ne_of_lt (Nat.lt_of_lt_of_le (Heap.lt_size e) (I.ok.cab x c hfn hc)))).trans e1⟩
  ·obtain ⟨o',e1⟩:=I.base.there b o e hx;exact ⟨o',(hs.2 b (Nat.ne_of_lt (Nat.lt_of_lt_of_le (Heap.lt_size e) (I.ok.cab x c hfn hc)))).trans e1⟩
  ·by_cases hj:j=i
   ·subst hj;rw [hi] at e1;cases e1;rw [List.getElem?_set_self hiσ] at e2;cases e2;exact ⟨u,r,.inr ⟨.inl hk,c,hc,hc'⟩⟩
   ·rw [List.getElem?_set_ne (Ne.symm hj)] at e2;obtain ⟨u',r',q⟩:=hl j y v' e1 e2 e3;refine ⟨u',r',?_⟩;rcases q with q | ⟨k,c',e,z'⟩
    ·exact .inl q
    ·refine .inr ⟨k,c',e,z'.sameBut hs ?_⟩
     rintro rfl
     exact hj (v9 hN e1 (I.ok.inj _ _ _ e hc▸hi))
  ·by_cases hcc:c'=c
   ·subst hcc;exact ⟨_,hc'⟩
   ·obtain ⟨w2,z2⟩:=I.cell y c' e;exact ⟨w2,z2.sameBut hs hcc⟩
  ·obtain ⟨e,n,ne,nf,d⟩:=I.pin p hp;refine ⟨(hs.2 p.1 ?_).trans e,n,ne,nf,d⟩;intro q;rw [q,hoc] at e;have q':oc=p.2:=Option.some.inj e;exact d w' (by rw [<-q'];exact hocd)
theorem wa {M:Model} {A:Around} {E:Value->Shared->Prop} {i:Nat} {x:Str} {v:V} {u:Value} {Q:Unit->Shared->Prop} (I:Inv X pins σ H s) (hN:X.N.Nodup) (hi:X.N[i]?=some x) (hx:Loc X.env.scope x) (r:RelV v u)
  (h:∀ s',Inv X pins (σ.set i (some v)) H s'->Q () s') (hf:X.fn x=true\/X.env.scope.names.lookup x=some .local:=by first | exact .inl rfl | exact .inr rfl | assumption):wpAny M A (storeName X.env x u) Q E s :=
 sR I hN hi hx r (fun s' I' _=>h s' I') hf
theorem Inv.call' {s':Shared} {ch:List Addr} (I:Inv X pins σ H s) (ho:s'.os=s.os) (u:Un (frs X.stack) ch H H' s.heap s'.heap) (hok:HOk X.prog X.w H' s'.heap) (hg:AllBare s'.gens)
  (hch:∀ b∈ch,(b∈X.ex\/X.s₀.heap.objs.size<=b)/\b≠X.env.locals/\(∀ x c,X.env.cells.lookup x=some c->c≠b)/\∀ p∈X.pn++pins,p.1≠b):Inv X pins σ H' s':=by
 obtain ⟨h',g',d',t',o'⟩:=s';have e:o'=s.os:=ho;subst e;exact I.call (g':=g') (t':=t') (d':=d') u hok hg hch
end
abbrev XK:=Value->Option Addr->Hp->Prop
abbrev St:=List (Option V)
abbrev VK:=V->Hp->Prop
abbrev TE:=St->Hp->VK->Prop
abbrev TT:=St->Hp->(Bool->Hp->Prop)->Prop
abbrev TA:=St->Hp->(List V->Hp->Prop)->Prop
structure Ends where
 nx:St->Hp->Prop
 rt:VK
 bk:St->Hp->Prop:=fun _ _=>False
 ct:St->Hp->Prop:=fun _ _=>False
abbrev TS:=Ends->St->Hp->Prop
def EP (X:Cx) (pins:List (Addr×Obj)) (σ:St) (Q:VK) (u:Value) (s':Shared):Prop:=∃ v H',Inv X pins σ H' s'/\RelV v u/\Q v H'
def TP (X:Cx) (pins:List (Addr×Obj)) (σ:St) (Q:Bool->Hp->Prop) (b:Bool) (s':Shared):Prop:=∃ H',Inv X pins σ H' s'/\Q b H'
def AP (X:Cx) (pins:List (Addr×Obj)) (σ:St) (Q:List V->Hp->Prop) (us:List Value) (s':Shared):Prop:=∃ vs H',Inv X pins σ H' s'/\Vals vs us/\Q vs H'
def SP (X:Cx) (pins:List (Addr×Obj)) (D:Ends) (f:Flow) (s':Shared):Prop :=
 match f with
 | .next=>∃ σ' H',Inv X pins σ' H' s'/\D.nx σ' H'
 | .brk=>∃ σ' H',Inv X pins σ' H' s'/\D.bk σ' H'
 | .cont=>∃ σ' H',Inv X pins σ' H' s'/\D.ct σ' H'
 | .ret u=>∃ v σ' H',Inv X pins σ' H' s'/\RelV v u/\D.rt v H'
def PE (X:Cx) (e:Expr) (t:TE):Prop :=
 ∀ (pins:List (Addr×Obj)) (s:Shared) (σ:St) (H:Hp) (Q:VK),Inv X pins σ H s->t σ H Q->wpAny (model X.prog X.w) X.A (eval e X.env) (EP X pins σ Q) X.xe s
def PT (X:Cx) (e:Expr) (t:TT):Prop :=
 ∀ (pins:List (Addr×Obj)) (s:Shared) (σ:St) (H:Hp) (Q:Bool->Hp->Prop),Inv X pins σ H s->t σ H Q->wpAny (model X.prog X.w) X.A (isTrue e X.env (eval e X.env)) (TP X pins σ Q) X.xe s
def PW (X:Cx) (e:Expr) (t:TT):Prop :=
 ∀ (whole:Sem Value) (pins:List (Addr×Obj)) (s:Shared) (σ:St) (H:Hp) (Q:Bool->Hp->Prop),Inv X pins σ H s->t σ H Q->wpAny (model X.prog X.w) X.A (isTrue e X.env whole) (TP X pins σ Q) X.xe s
theorem PW.pt {X:Cx} {e:Expr} {t:TT} (h:PW X e t):PT X e t:=h _
def PA (X:Cx) (es:List Expr) (t:TA):Prop :=
 ∀ (pos:Pos) (pins:List (Addr×Obj)) (s:Shared) (σ:St) (H:Hp) (Q:List V->Hp->Prop),Inv X pins σ H s->t σ H Q->wpAny (model X.prog X.w) X.A (spliced (backTo pos (starEach es X.env))) (AP X pins σ Q) X.xe s
def PS (X:Cx) (st:Stmt) (t:TS):Prop :=
 ∀ (pins:List (Addr×Obj)) (s:Shared) (σ:St) (H:Hp) (D:Ends),Inv X pins σ H s->t D σ H->wpAny (model X.prog X.w) X.A (exec st X.env) (SP X pins D) X.xe s
def PSs (X:Cx) (st:List Stmt) (t:TS):Prop :=
 ∀ (pins:List (Addr×Obj)) (s:Shared) (σ:St) (H:Hp) (D:Ends),Inv X pins σ H s->t D σ H->wpAny (model X.prog X.w) X.A (execs st X.env) (SP X pins D) X.xe s
theorem thn {α:Type} {t:Sem α} {Q Q':α->Shared->Prop} {M:Model} {A:Around} {E:Value->Shared->Prop} {s:Shared} (h:wpAny M A t Q E s) (hQ:∀ a s,Q a s->Q' a s):wpAny M A t Q' E s:=wpAny_mono h hQ fun _ _ x=>x
section
variable {X:Cx}
theorem bin {a b:Expr} {ta tb:TE} (ha:PE X a ta) (hb:PE X b tb) {pins:List (Addr×Obj)} {s:Shared} {σ:St} {H:Hp} {R:V->V->Hp->Prop} (I:Inv X pins σ H s) (h:ta σ H fun x H1=>tb σ H1 fun y H2=>R x y H2)
  {α:Type} {Q:α->Shared->Prop} {f:Value->Value->Sem α}
  (hf:∀ v u s2 x y H2,Inv X pins σ H2 s2->RelV x v->RelV y u->R x y H2->wpAny (model X.prog X.w) X.A (f v u) Q X.xe s2) :
  wpAny (model X.prog X.w) X.A (eval a X.env) (fun v s₁=>wpAny (model X.prog X.w) X.A (eval b X.env) (fun u s₂=>wpAny (model X.prog X.w) X.A (f v u) Q X.xe s₂) X.xe s₁) X.xe s:=by
 refine thn (ha pins s σ H _ I h) fun v s1 rz2=>?_
 obtain ⟨x,H1,I1,r1,q1⟩:=rz2;refine thn (hb pins s1 σ H1 _ I1 q1) fun u s2 rz2=>?_
 obtain ⟨y,H2,I2,r2,q2⟩:=rz2;exact hf v u s2 x y H2 I2 r1 r2 q2
def Ig (i:Nat):TE:=fun σ H Q=>∃ v,σ[i]?=some (some v)/\Q v H
def tC (v:V):TE:=fun _ H Q=>Q v H
theorem lI {i:Nat} {x:Str} {pos:Pos} (hN:X.N[i]?=some x) (hv:Vis X.env.scope x) (hd:(x==("__debug__":Str))=false:=by decide) (hcd:(x==("__classdict__":Str))=false:=by decide):PE X (.Name x pos) (Ig i):=by
 intro pins s σ H Q I h;obtain ⟨v,e,h⟩:=h;obtain ⟨m,hn,hl⟩:=I.loc;obtain ⟨u,r,l⟩:=hl i x v hN e hv;have fin:EP X pins σ Q u s:=⟨v,H,I,r,h⟩
 rcases l with ⟨hk,hm⟩ | ⟨hk,c,hc,hcell⟩
 ·exact wpAny_Name (wpAny_loadName_local I.ok.kind hk hn hm fin) hd
 ·rcases hk with hk | hk
  ·exact wpAny_Name (wpAny_loadName_cell I.ok.kind hk hc hcell fin) hd
  ·exact wpAny_Name (wpAny_loadName_free I.ok.kind hk hc hcell fin hcd) hd
theorem gE {i j pos}:PE X (.Constant (.int i) j pos) (tC (.int i)):=fun _ _ _ H _ I h=>wpAny_Constant_int ⟨.int i,H,I.tok _,⟨_,rfl⟩,h⟩
theorem IB {b j pos}:PE X (.Constant (.bool b) j pos) (tC (.bl b)):=fun _ _ _ H _ I h=>Constant_bool ⟨.bl b,H,I,rfl,h⟩
theorem Ge {j pos}:PE X (.Constant .none j pos) (tC .non):=fun _ _ _ H _ I h=>Constant_none ⟨.non,H,I,rfl,h⟩
theorem G9 {x j pos}:PE X (.Constant (.str x) j pos) (tC (.str x)):=fun _ _ _ H _ I h=>Calls.Constant_str ⟨.str x,H,I.tok _,⟨_,rfl⟩,h⟩
def Gl (X:Cx) (x:Str):Prop:=X.env.kindOf x=some .globalImplicit
theorem pj {E:Value->Shared->Prop} {pins:List (Addr×Obj)} {s:Shared} {σ:St} {H:Hp} {x:Str} {u:Value} {pos:Pos} {Q:Value->Shared->Prop} (I:Inv X pins σ H s) (hg:Gl X x) (hm:X.mg x=some u) (h:Q u s)
  (hd:(x==("__debug__":Str))=false:=by decide):wpAny (model X.prog X.w) X.A (eval (.Name x pos) X.env) Q E s :=
 Calls.Name_function_global I.ok.kind hg (Calls.loadGlobal_global (by rw [I.ok.glob];exact I.mod.glob.keeps I.bk) hm h) hd
theorem hV {E:Value->Shared->Prop} {pins:List (Addr×Obj)} {s:Shared} {σ:St} {H:Hp} {x:Str} {u:Value} {pos:Pos} {Q:Value->Shared->Prop} (I:Inv X pins σ H s) (hg:Gl X x) (hm:X.mg x=none) (hv:bootBuiltins x=some u) (h:Q u s)
  (hn:x≠"__name__":=by decide) (hd:(x==("__debug__":Str))=false:=by decide):wpAny (model X.prog X.w) X.A (eval (.Name x pos) X.env) Q E s:=by
 obtain ⟨mb,h1,h2⟩:=I.mod.blt;exact Calls.Name_function_global I.ok.kind hg (Calls.loadGlobal_builtin (by rw [I.ok.glob];exact I.mod.glob.keeps I.bk) hm (by rw [I.ok.blt];exact h1.keeps I.bk) ((h2 x hn).trans hv) h) hd
theorem Ex {x:Str} {v:V} {u:Value} {pos:Pos} (hg:Gl X x) (hm:X.mg x=some u) (r:RelV v u) (hd:(x==("__debug__":Str))=false:=by decide):PE X (.Name x pos) (tC v) :=
 fun _ _ _ H _ I h=>pj I hg hm ⟨v,H,I,r,h⟩ hd
theorem DY {x:Str} {v:V} {u:Value} {pos:Pos} (hg:Gl X x) (hm:X.mg x=none) (hv:bootBuiltins x=some u) (r:RelV v u) (hn:x≠"__name__":=by decide) (hd:(x==("__debug__":Str))=false:=by decide):PE X (.Name x pos) (tC v) :=
 fun _ _ _ H _ I h=>hV I hg hm hv ⟨v,H,I,r,h⟩ hn hd
def t2I (ta tb:TE) (k:Int->Int->Hp->Prop):St->Hp->Prop:=fun σ H=>ta σ H fun x H1=>tb σ H1 fun y H2=>∃ i j,x=.int i/\y=.int j/\k i j H2
variable {a b:Expr} {ta tb:TE} {pos:Pos}
def PC (X:Cx) (op:CmpOp) (a b:Expr) (t:TE):Prop :=
 ∀ (pins:List (Addr×Obj)) (s:Shared) (σ:St) (H:Hp) (Q:VK),Inv X pins σ H s->t σ H Q ->
  wpAny (model X.prog X.w) X.A (eval a X.env) (fun v s₁=>wpAny (model X.prog X.w) X.A (eval b X.env) (fun u s₂=>wpAny (model X.prog X.w) X.A (compareOp op v u) (EP X pins σ Q) X.xe s₂) X.xe s₁) X.xe s
theorem wR (b:Expr) {op:CmpOp} (h:op≠.In) (h2:op≠.NotIn):behindInMarks op b=false:=by
 have e1:(op==CmpOp.In)=false:=by cases op <;> first | rfl | exact absurd rfl h
 have e2:(op==CmpOp.NotIn)=false:=by cases op <;> first | rfl | exact absurd rfl h2
 cases b <;> simp [behindInMarks,e1,e2]
def IF (p:Int->Int->Bool) (ta tb:TE):TE:=fun σ H Q=>t2I ta tb (fun i j H2=>Q (.bl (p i j)) H2) σ H
abbrev tLt:TE->TE->TE:=IF fun i j=>decide (i<j)
theorem FR {op:CmpOp} {p:Int->Int->Bool} (ha:PE X a ta) (hb:PE X b tb)
  (rule:∀ (i j:Int) (t u:Tok) (Q:Value->Shared->Prop) (s:Shared),Q (.bool (p i j)) s->wpAny (model X.prog X.w) X.A (compareOp op (.int i t) (.int j u)) Q X.xe s):PC X op a b (IF p ta tb):=by
 intro pins s σ H Q I h;refine bin ha hb I h fun v u s2 x y H2 I2 rx ry q=>?_
 obtain ⟨i,j,rfl,rfl,q⟩:=q;obtain ⟨t,rfl⟩:=rx;obtain ⟨t',rfl⟩:=ry;exact rule i j t t' _ s2 ⟨.bl _,H2,I2,rfl,q⟩
theorem IA (ha:PE X a ta) (hb:PE X b tb):PC X .Lt a b (tLt ta tb):=FR ha hb fun _ _ _ _ _ _ h=>lt_int h
def Jn (ta:TE):TE:=fun σ H Q=>ta σ H fun x H1=>Q (.bl (decide (x=.non))) H1
def HE (ta:TE):TE:=fun σ H Q=>ta σ H fun x H1=>Q (.bl (!decide (x=.non))) H1
theorem RelV.none_iff {x:V} {v:Value} (r:RelV x v):(v==Value.none)=decide (x=.non):=by
 cases x with
 | non=>cases r;rfl
 | bl _=>cases r;rfl
 | int _=>obtain ⟨t,rfl⟩:=r;rfl
 | str _=>obtain ⟨t,rfl⟩:=r;rfl
 | byt _=>obtain ⟨t,rfl⟩:=r;rfl
 | flt _=>obtain ⟨t,rfl⟩:=r;rfl
 | ref _=>cases r;rfl
 | ty _=>cases r;rfl
theorem AZ {j pos'} (ha:PE X a ta):PC X .Is a (.Constant .none j pos') (Jn ta):=by
 intro pins s σ H Q I h;refine thn (ha pins s σ H _ I h) fun v s1 rz2=>?_
 obtain ⟨x,H1,I1,r1,q1⟩:=rz2;exact Constant_none (is_none_gen ⟨.bl _,H1,I1,by rw [r1.none_iff];rfl,q1⟩)
theorem D4 {j pos'} (ha:PE X a ta):PC X .IsNot a (.Constant .none j pos') (HE ta):=by
 intro pins s σ H Q I h;refine thn (ha pins s σ H _ I h) fun v s1 rz2=>?_
 obtain ⟨x,H1,I1,r1,q1⟩:=rz2;exact Constant_none (isnot_none_gen ⟨.bl _,H1,I1,by rw [r1.none_iff];rfl,q1⟩)
def tB (t:TE):TT:=fun σ H Q=>t σ H fun x H1=>∃ c,x=.bl c/\Q c H1
theorem He {op:CmpOp} {t:TE} (h:PC X op a b t) (h1:behindInMarks op b=false:=by first | exact wR _ (by decide) (by decide) | rfl):PE X (.Compare a [op] [b] pos) t:=fun pins s σ H Q I hw=>wpAny_Compare1 (h pins s σ H Q I hw) h1
theorem xl {op:CmpOp} {t:TE} (h:PC X op a b t) (h1:behindInMarks op b=false:=by first | exact wR _ (by decide) (by decide) | rfl):PT X (.Compare a [op] [b] pos) (tB t):=by intro pins s σ H Q I hw;refine wpAny_isTrue_Compare1 (thn (h pins s σ H _ I hw) fun v s1 h1=>thn h1 fun u s2 h2=>thn h2 fun c s3 rz2=>?_) h1;obtain ⟨x,H1,I1,r1,q1⟩:=rz2;obtain ⟨d,rfl,q⟩:=q1;cases r1;exact wpAny_truthy_bool ⟨H1,I1,q⟩
theorem F2 {e:Expr} {t:TE} (h:PE X e t) (he:∀ whole,isTrue e X.env whole=(do let v <-whole;standAt e.pos;holding [v] (truthy v)):=by intro _;rfl):PT X e (tB t):=by intro pins s σ H Q I hw;refine isTrue_plain (thn (h pins s σ H _ I hw) fun v s1 rz2=>?_) (he _);obtain ⟨x,H1,I1,r1,q1⟩:=rz2;obtain ⟨d,rfl,q⟩:=q1;cases r1;exact wpAny_truthy_bool ⟨H1,I1,q⟩
variable {tA tB':TT} {rest:List Expr}
def Jj (t u:TT):TT:=fun σ H Q=>t σ H fun c H1=>if c=true then u σ H1 Q else Q false H1
def tOr (t u:TT):TT:=fun σ H Q=>t σ H fun c H1=>if c=true then Q true H1 else u σ H1 Q
def Jd (t:TT):TT:=fun σ H Q=>t σ H fun c H1=>Q (!c) H1
theorem E8 (ha:PT X a tA):PW X (.BoolOp .And [a] pos) tA:=by
 intro wh pins s σ H Q I h;refine isTrue_and (thn (ha pins s σ H Q I h) fun c s1 e=>?_);cases c with
 | true=>exact isTrue_and_nil e
 | false=>exact e
theorem Gy (ha:PT X a tA):PW X (.BoolOp .Or [a] pos) tA:=by
 intro wh pins s σ H Q I h;refine isTrue_or (thn (ha pins s σ H Q I h) fun c s1 e=>?_);cases c with
 | false=>exact isTrue_or_nil e
 | true=>exact e
theorem F7 (ha:PT X a tA) (hb:PW X (.BoolOp .And (b::rest) pos) tB'):PW X (.BoolOp .And (a::b::rest) pos) (Jj tA tB'):=by
 intro wh pins s σ H Q I h;refine isTrue_and (thn (ha pins s σ H _ I h) fun c s1 rz2=>?_);obtain ⟨H1,I1,q1⟩:=rz2;cases c with
 | true=>exact hb wh pins s1 σ H1 Q I1 q1
 | false=>exact ⟨H1,I1,q1⟩
theorem Ip (ha:PT X a tA) (hb:PW X (.BoolOp .Or (b::rest) pos) tB'):PW X (.BoolOp .Or (a::b::rest) pos) (tOr tA tB'):=by
 intro wh pins s σ H Q I h;refine isTrue_or (thn (ha pins s σ H _ I h) fun c s1 rz2=>?_);obtain ⟨H1,I1,q1⟩:=rz2;cases c with
 | true=>exact ⟨H1,I1,q1⟩
 | false=>exact hb wh pins s1 σ H1 Q I1 q1
theorem F8 (ha:PT X a tA):PT X (.UnaryOp .Not a pos) (Jd tA):=by intro pins s σ H Q I h;exact isTrue_not (ha pins s σ H (fun c H1=>Q (!c) H1) I h)
def HI (ta tb:TE):TE:=fun σ H Q=>ta σ H fun x H1=>∃ c,x=.bl c/\if c=true then tb σ H1 Q else Q (.bl false) H1
def Jw (ta tb:TE):TE:=fun σ H Q=>ta σ H fun x H1=>∃ c,x=.bl c/\if c=true then Q (.bl true) H1 else tb σ H1 Q
theorem Gu {op} {t:TE} (h:PE X a t):PE X (.BoolOp op [a] pos) t:=fun pins s σ H Q I hw=>BoolOp_one (h pins s σ H Q I hw)
theorem GU (ha:PE X a ta) (hb:PE X (.BoolOp .And (b::rest) pos) tb):PE X (.BoolOp .And (a::b::rest) pos) (HI ta tb):=by
 intro pins s σ H Q I h;refine BoolOp_and (thn (ha pins s σ H _ I h) fun v s1 rz2=>?_);obtain ⟨x,H1,I1,r1,q1⟩:=rz2;obtain ⟨c,rfl,q1⟩:=q1;cases r1;refine wpAny_truthy_bool ?_;cases c with
 | true=>exact hb pins s1 σ H1 Q I1 q1
 | false=>exact ⟨.bl false,H1,I1,rfl,q1⟩
theorem HZ (ha:PE X a ta) (hb:PE X (.BoolOp .Or (b::rest) pos) tb):PE X (.BoolOp .Or (a::b::rest) pos) (Jw ta tb):=by
 intro pins s σ H Q I h;refine BoolOp_or (thn (ha pins s σ H _ I h) fun v s1 rz2=>?_);obtain ⟨x,H1,I1,r1,q1⟩:=rz2;obtain ⟨c,rfl,q1⟩:=q1;cases r1;refine wpAny_truthy_bool ?_;cases c with
 | false=>exact hb pins s1 σ H1 Q I1 q1
 | true=>exact ⟨.bl true,H1,I1,rfl,q1⟩
def tIf (t:TT) (ta tb:TE):TE:=fun σ H Q=>t σ H fun c H1=>if c=true then ta σ H1 Q else tb σ H1 Q
theorem Cz {c:Expr} (hc:PT X c tA) (ha:PE X a ta) (hb:PE X b tb):PE X (.IfExp c a b pos) (tIf tA ta tb):=by
 intro pins s σ H Q I h;refine wpAny_IfExp (thn (hc pins s σ H _ I h) fun d s1 rz2=>?_);obtain ⟨H1,I1,q1⟩:=rz2;cases d with
 | true=>exact ha pins s1 σ H1 Q I1 q1
 | false=>exact hb pins s1 σ H1 Q I1 q1
end
def SqL (K:PySem.W.Frag) (H:Hp) (a:Addr) (xs:List V):Prop :=
 Rd H a (.lst xs) \/
  ∃ (o:Obj) (its:Array Value) (n:Nat),K.lookup a=some o/\o.cls=.type "list"/\o.dict=none/\o.data=.seq its n/\its.size<=sizeLine/\Vals xs its.toList
def SqT (K:PySem.W.Frag) (H:Hp) (a:Addr) (xs:List V):Prop :=
 Rd H a (.tup xs) \/
  ∃ (o:Obj) (its:Array Value) (n:Nat),K.lookup a=some o/\o.cls=.type "tuple"/\o.data=.seq its n/\its.size<=sizeLine/\Vals xs its.toList
def Jk:Value->Option V
 | .none=>some .non
 | .bool b=>some (.bl b)
 | .int i _=>some (.int i)
 | .str x _=>some (.str x)
 | .bytes b _=>some (.byt b)
 | .float b _=>some (.flt b)
 | .ref a=>some (.ref a)
 | .type n=>some (.ty n)
 | _=>none
theorem RelV.abs {x:V} {u:Value} (r:RelV x u):Jk u=some x:=by
 cases x with
 | non=>cases r;rfl
 | bl _=>cases r;rfl
 | int _=>obtain ⟨t,rfl⟩:=r;rfl
 | str _=>obtain ⟨t,rfl⟩:=r;rfl
 | byt _=>obtain ⟨t,rfl⟩:=r;rfl
 | flt _=>obtain ⟨t,rfl⟩:=r;rfl
 | ref _=>cases r;rfl
 | ty _=>cases r;rfl
theorem RelV.inj {x y:V} {u:Value} (r:RelV x u) (q:RelV y u):x=y:=Option.some.inj (r.abs.symm.trans q.abs)
theorem Vals.inj {xs ys:List V} {us:List Value} (h:Vals xs us) (h':Vals ys us):xs=ys:=by
 induction h generalizing ys with
 | nil=>cases h';rfl
 | cons r t ih =>
  cases h' with
  | cons r' t'=>rw [r.inj r',ih t']
section
variable {X:Cx} {pins:List (Addr×Obj)} {σ:St} {H:Hp} {s:Shared} {a:Addr} {xs ys:List V}
theorem SqL.of {K:PySem.W.Frag} (h:H a=some (.lst xs)):SqL K H a xs:=.inl (.inl h)
theorem SqT.of {K:PySem.W.Frag} (h:H a=some (.tup xs)):SqT K H a xs:=.inl (.inl h)
theorem Inv.list (I:Inv X pins σ H s) (h:SqL X.K H a xs):∃ its:List Value,Vals xs its/\PlainL s.heap a its.toArray/\xs.length<=sizeLine:=by
 rcases h with h | ⟨o,its,n,hk,hc,hd,hs,hz,r⟩
 ·obtain ⟨z,its,n,r,e⟩:=h.ok I.hok;exact ⟨its,r,⟨_,n,e,rfl,rfl,rfl⟩,z⟩
 ·refine ⟨its.toList,r,⟨o,n,I.kIn a o hk,hc,hd,by simpa using hs⟩,?_⟩;have e:=r.length;simp only [Array.length_toList] at e;omega
theorem Inv.tuple (I:Inv X pins σ H s) (h:SqT X.K H a xs):∃ its:List Value,Vals xs its/\IsTup s.heap a its.toArray/\xs.length<=sizeLine:=by
 rcases h with h | ⟨o,its,n,hk,hc,hs,hz,r⟩
 ·obtain ⟨z,its,r,p⟩:=h.ok I.hok;exact ⟨its,r,p.tup,z⟩
 ·refine ⟨its.toList,r,⟨o,I.kIn a o hk,hc,n,by simpa using hs⟩,?_⟩;have e:=r.length;simp only [Array.length_toList] at e;omega
theorem Inv.list_inj (I:Inv X pins σ H s) (h:SqL X.K H a xs) (h':SqL X.K H a ys):xs=ys:=by
 obtain ⟨its,r,⟨o,n,e,_,_,d⟩,_⟩:=I.list h;obtain ⟨its',r',⟨o',n',e',_,_,d'⟩,_⟩:=I.list h';rw [e] at e';cases e';rw [d] at d';injection d' with d1 _
 have:its=its':=by simpa using congrArg Array.toList d1
 subst this;exact r.inj r'
theorem Inv.tuple_inj (I:Inv X pins σ H s) (h:SqT X.K H a xs) (h':SqT X.K H a ys):xs=ys:=by
 obtain ⟨its,r,⟨o,e,_,n,d⟩,_⟩:=I.tuple h;obtain ⟨its',r',⟨o',e',_,n',d'⟩,_⟩:=I.tuple h';rw [e] at e';cases e';rw [d] at d';injection d' with d1 _
 have:its=its':=by simpa using congrArg Array.toList d1
 subst this;exact r.inj r'
end
abbrev Cx.wish (X:Cx) (E:Value->Shared->Prop):Cx:={ X with xe:=E }
abbrev Cx.nox (X:Cx):Cx:=X.wish fun _ _=>False
theorem Cx.Ok.wish {X:Cx} (ok:X.Ok) (E:Value->Shared->Prop):(X.wish E).Ok :=
 ⟨ok.mod,ok.kind,ok.glob,ok.blt,ok.above,ok.inj,ok.has,ok.cab,ok.hd,ok.frames,ok.stk,ok.exf,ok.bs,ok.bsz,ok.noex,ok.exfs,ok.funs,ok.frf⟩
theorem Cx.Ok.unwish {X:Cx} {E:Value->Shared->Prop} (ok:(X.wish E).Ok):X.Ok :=
 ⟨ok.mod,ok.kind,ok.glob,ok.blt,ok.above,ok.inj,ok.has,ok.cab,ok.hd,ok.frames,ok.stk,ok.exf,ok.bs,ok.bsz,ok.noex,ok.exfs,ok.funs,ok.frf⟩
section
variable {X:Cx} {pins:List (Addr×Obj)} {σ:St} {H:Hp} {s:Shared} {E:Value->Shared->Prop}
theorem Inv.wish (I:Inv X pins σ H s) (E:Value->Shared->Prop):Inv (X.wish E) pins σ H s:=⟨I.ok.wish E,I.os,I.bare,I.base,I.loc,I.cell,I.free,I.freeC,I.pin,I.hok,I.len,I.tab⟩
theorem Inv.unwish (I:Inv (X.wish E) pins σ H s):Inv X pins σ H s:=⟨I.ok.unwish,I.os,I.bare,I.base,I.loc,I.cell,I.free,I.freeC,I.pin,I.hok,I.len,I.tab⟩
theorem SP.unwish {D:Ends} {f:Flow} {s':Shared} (h:SP (X.wish E) pins D f s'):SP X pins D f s':=by
 cases f with
 | next=>obtain ⟨σ',H',I,q⟩:=h;exact ⟨σ',H',I.unwish,q⟩
 | brk=>obtain ⟨σ',H',I,q⟩:=h;exact ⟨σ',H',I.unwish,q⟩
 | cont=>obtain ⟨σ',H',I,q⟩:=h;exact ⟨σ',H',I.unwish,q⟩
 | ret u=>obtain ⟨v,σ',H',I,r,q⟩:=h;exact ⟨v,σ',H',I.unwish,r,q⟩
theorem PSs.nox {st:List Stmt} {t:TS} (h:PSs X.nox st t):PSs X st t:=fun pins s σ H D I hw =>
 wpAny_mono (h pins s σ H D (I.wish _) hw) (fun _ _ q=>q.unwish) fun _ _ z=>False.elim z
end
section
variable {X:Cx} {st:Stmt} {rest:List Stmt} {t u:TS} {e:Expr} {te:TE} {pos:Pos}
def IH:TS:=fun D σ H=>D.nx σ H
def Jx (t u:TS):TS:=fun D σ H=>t { D with nx:=u D } σ H
theorem vf:PSs X [] IH:=fun _ _ σ H _ I h=>wpAny_execs_nil ⟨σ,H,I,h⟩
theorem dQ (h1:PS X st t) (h2:PSs X rest u):PSs X (st::rest) (Jx t u):=by
 intro pins s σ H D I h;refine wpAny_execs_cons (thn (h1 pins s σ H { D with nx:=u D } I h) fun f s1 q=>?_);cases f with
 | next =>obtain ⟨σ',H',I',q⟩:=q;exact h2 pins s1 σ' H' D I' q
 | ret v=>exact q
 | brk=>exact q
 | cont=>exact q
theorem jm (h1:PS X st t):PSs X [st] t:=by
 intro pins s σ H D I h;refine wpAny_execs_cons (thn (h1 pins s σ H D I h) fun f s1 q=>?_);cases f with
 | next=>exact wpAny_execs_nil q
 | ret v=>exact q
 | brk=>exact q
 | cont=>exact q
theorem Inv.quiet {pins:List (Addr×Obj)} {σ:St} {H:Hp} {s:Shared} (I:Inv X pins σ H s):interactive X.env=false:=by simp [interactive,I.ok.kind]
def HX (te:TE):TS:=fun D σ H=>te σ H fun _ H1=>D.nx σ H1
theorem oZ (he:PE X e te) (hs:swapsWith e none pos.line X.env=pure false:=by rfl):PS X (.Expr e pos) (HX te):=by intro pins s σ H D I h;exact wpAny_Expr_any (thn (he pins s σ H _ I h) fun v s1 qz2=>(by obtain ⟨x,H1,I1,r1,q1⟩:=qz2;exact ⟨σ,H1,I1,q1⟩)) I.quiet hs
def Ja (te:TE):TS:=fun D σ H=>te σ H D.rt
theorem qK (he:PE X e te):PS X (.Return (some e) pos) (Ja te):=by intro pins s σ H D I h;exact wpAny_Return_some (thn (he pins s σ H _ I h) fun v s1 qz2=>(by obtain ⟨x,H1,I1,r1,q1⟩:=qz2;exact ⟨x,σ,H1,I1,r1,q1⟩))
def Jf (c:TT) (t u:TS):TS:=fun D σ H=>c σ H fun b H1=>if b=true then t D σ H1 else u D σ H1
theorem yV {c:Expr} {a b:List Stmt} {tc:TT} (hc:PT X c tc) (ha:PSs X a t) (hb:PSs X b u):PS X (.If c a b pos) (Jf tc t u):=by
 intro pins s σ H D I h;refine wpAny_If (thn (hc pins s σ H _ I h) fun d s1 rz2=>?_);obtain ⟨H1,I1,q1⟩:=rz2;cases d with
 | true=>exact ha pins s1 σ H1 D I1 q1
 | false=>exact hb pins s1 σ H1 D I1 q1
end
abbrev TG:=V->St->Hp->(St->Hp->Prop)->Prop
abbrev TGs:=List V->St->Hp->(St->Hp->Prop)->Prop
def PG (X:Cx) (target:Expr) (t:TG):Prop :=
 ∀ (pins:List (Addr×Obj)) (s:Shared) (σ:St) (H:Hp) (v:V) (u:Value) (Q:St->Hp->Prop),Inv X pins σ H s->RelV v u->t v σ H Q ->
  wpAny (model X.prog X.w) X.A (assign target X.env u) (fun _ s'=>∃ σ' H',Inv X pins σ' H' s'/\Q σ' H') X.xe s
def PGs (X:Cx) (ts:List Expr) (t:TGs):Prop :=
 ∀ (pins:List (Addr×Obj)) (s:Shared) (σ:St) (H:Hp) (vs:List V) (us:List Value) (Q:St->Hp->Prop),Inv X pins σ H s->Vals vs us->t vs σ H Q ->
  wpAny (model X.prog X.w) X.A (assignInOrder ((assignEach ts X.env).map (·.2)) us) (fun _ s'=>∃ σ' H',Inv X pins σ' H' s'/\Q σ' H') X.xe s
abbrev F3:=V->V->V->Hp->(Hp->Prop)->Prop
def HY (X:Cx) (t:F3):Prop :=
 ∀ (pins:List (Addr×Obj)) (s:Shared) (σ:St) (H:Hp) (o i v:V) (ov iv u:Value) (Q:Hp->Prop),Inv X pins σ H s->RelV o ov->RelV i iv->RelV v u->t o i v H Q ->
  wpAny (model X.prog X.w) X.A (setItem ov iv u) (fun _ s'=>∃ H',Inv X pins σ H' s'/\Q H') X.xe s
section
variable {X:Cx} {pos:Pos}
def kg (i:Nat):TG:=fun v σ H Q=>Q (σ.set i (some v)) H
theorem bK {i:Nat} {x:Str} (hN:X.N.Nodup) (hi:X.N[i]?=some x) (hx:Loc X.env.scope x) (hf:X.fn x=true\/X.env.scope.names.lookup x=some .local:=by first | exact .inl rfl | exact .inr rfl | assumption):PG X (.Name x pos) (kg i):=by intro pins s σ H v u Q I r h;exact wpAny_assign_Name (wa I hN hi hx r (fun s' I'=>⟨_,H,I',h⟩) hf)
def FO:TGs:=fun vs σ H Q=>vs=[]/\Q σ H
def zg (t:TG) (u:TGs):TGs:=fun vs σ H Q=>∃ v r,vs=v::r/\t v σ H fun σ' H'=>u r σ' H' Q
theorem l9:PGs X [] FO:=by intro pins s σ H vs us Q I r h;obtain ⟨e,h⟩:=h;subst e;cases r;exact assignInOrder_nil ⟨σ,H,I,h⟩
theorem eM {e:Expr} {es:List Expr} {t:TG} {u:TGs} (h1:PG X e t) (h2:PGs X es u)
  (hs:(assignEach (e::es) X.env).map (·.2)=assign e X.env::(assignEach es X.env).map (·.2):=by rfl):PGs X (e::es) (zg t u):=by
 intro pins s σ H vs us Q I r h;obtain ⟨v,vr,e1,h⟩:=h;subst e1;cases r with
 | cons r rr =>rw [hs];refine assignInOrder_cons (thn (h1 pins s σ H _ _ _ I r h) fun _ s1 rz2=>?_);obtain ⟨σ1,H1,I1,q1⟩:=rz2;exact h2 pins s1 σ1 H1 _ _ Q I1 rr q1
def Hd (K:PySem.W.Frag) (n:Nat) (t:TGs):TG:=fun v σ H Q=>∃ a xs,v=.ref a/\SqT K H a xs/\xs.length=n/\t xs σ H Q
theorem qP {es:List Expr} {k:Nat} {t:TGs} {n:Nat} (hc:X.calm=true) (h:PGs X es t)
  (hn:(assignEach es X.env).length=n:=by rfl) (hst:(assignEach es X.env).findIdx? (·.1)=none:=by rfl):PG X (.Tuple es k pos) (Hd X.K n t):=by
 intro pins s σ H v u Q I r hw;obtain ⟨a,xs,e1,hq,hl,hw⟩:=hw;subst e1;cases r;obtain ⟨its,rv,ht,hz⟩:=I.tuple hq;refine assign_Tuple_tuple (I.ok.hd hc) ht (by simp [hn,<-hl,rv.length]) hst fun h' hx=>?_
 have I1:Inv X pins σ H { s with heap:=h' }:=I.kept (t':=s.toks) fun b o e=>hx b o (Nat.ne_of_lt (Heap.lt_size e)) e
 exact h pins _ σ H xs _ Q I1 (by simpa using rv) hw
def Jo (to ti:TE) (t:F3):TG:=fun v σ H Q=>to σ H fun o H1=>ti σ H1 fun i H2=>t o i v H2 fun H3=>Q σ H3
theorem Gj {o i:Expr} {to ti:TE} {t:F3} (ho:PE X o to) (hi:PE X i ti) (hs:HY X t)
  (ha:∀ v,assign (.Subscript o i pos) X.env v=(do
   let ov <-holding [v] (eval o X.env);let iv <-holding [v,ov] (eval i X.env)
   standAt pos
   holding [v,ov,iv] (setItem ov iv v)
   release [v,ov,iv] []):=by intro _;rfl):PG X (.Subscript o i pos) (Jo to ti t):=by
 intro pins s σ H v u Q I r h;rw [ha];refine wpAny_bind (wpAny_holding (thn (ho pins s σ H _ I h) fun ov s1 rz2=>?_));obtain ⟨x,H1,I1,r1,q1⟩:=rz2;refine wpAny_bind (wpAny_holding (thn (hi pins s1 σ H1 _ I1 q1) fun iv s2 rz2=>?_));obtain ⟨y,H2,I2,r2,q2⟩:=rz2;refine wpAny_bind (wpAny_standAt (wpAny_bind (wpAny_holding (thn (hs pins s2 σ H2 x y v ov iv u _ I2 r1 r2 r q2) fun _ s3 rz2=>?_))));obtain ⟨H3,I3,q3⟩:=rz2;exact wpAny_release ⟨σ,H3,I3,q3⟩
def Bd (te:TE) (g:TG):TS:=fun D σ H=>te σ H fun x H1=>g x σ H1 D.nx
theorem AR {tg e:Expr} {te:TE} {g:TG} (he:PE X e te) (hg:PG X tg g) (hs:swapsWithSole [tg] e pos.line X.env=pure false:=by rfl) (hw:swappedStores [tg] e X.env=pure none:=by rfl)
  (h1:(assignEach [tg] X.env).map (·.2)=[assign tg X.env]:=by rfl):PS X (.Assign [tg] e pos) (Bd te g):=by
 intro pins s σ H D I h;refine wpAny_Assign_stores (thn (he pins s σ H _ I h) fun v s1 rz2=>?_) hs hw;obtain ⟨x,H1,I1,r1,q1⟩:=rz2;rw [h1];exact thn (hg pins s1 σ H1 x v _ I1 r1 q1) fun _ s2 q=>q
theorem qh {i:Nat} {x:Str} {e:Expr} {te:TE} {pos':Pos} (hN:X.N.Nodup) (hi:X.N[i]?=some x) (hx:Loc X.env.scope x) (he:PE X e te) (hs:swapsWith e (some (.Name x pos')) pos.line X.env=pure false:=by rfl) (hf:X.fn x=true\/X.env.scope.names.lookup x=some .local:=by first | exact .inl rfl | exact .inr rfl | assumption) :
  PS X (.Assign [.Name x pos'] e pos) (Bd te (kg i)):=by
 intro pins s σ H D I h;refine wpAny_Assign_Name (thn (he pins s σ H _ I h) fun v s1 rz2=>?_) hs;obtain ⟨y,H1,I1,r1,q1⟩:=rz2;exact wa I1 hN hi hx r1 (fun s2 I2=>⟨_,H1,I2,q1⟩) hf
end
section
variable {X:Cx} {pos:Pos}
def GL (c:TT) (tb:TS):TS:=fun D σ H=>∃ W:Nat->St->Hp->Prop,(∃ m,W m σ H)/\∀ m σ H,W m σ H ->
 c σ H fun b H1=>if b=true then ∃ N:St->Hp->Prop,(∀ σ' H',N σ' H'->∃ m',m' < m/\W m' σ' H')/\tb { D with nx:=N,ct:=N,bk:=D.nx } σ H1 else D.nx σ H1
theorem wU {c:Expr} {body:List Stmt} {tc:TT} {tb:TS} (hp:PassesOwn (model X.prog X.w) X.A X.env X.xe) (hc:PT X c tc) (hb:PSs X body tb):PS X (.While c body [] pos) (GL tc tb):=by
 intro pins s σ H D I h;obtain ⟨W,⟨m0,w0⟩,turn⟩:=h;refine wpAny_While (codeAny_whileLoop (fun n s'=>∃ σ' H',Inv X pins σ' H' s'/\W n σ' H') ?_ m0 ⟨σ,H,I,w0⟩)
 rintro n s1 ⟨σ1,H1,I1,w1⟩
 refine wpAny_passesOwn hp (thn (hc pins s1 σ1 H1 _ I1 (turn n σ1 H1 w1)) fun b s2 rz2=>?_);obtain ⟨H2,I2,q2⟩:=rz2;cases b with
 | true =>
  obtain ⟨N,hN,q2⟩:=q2;rw [if_pos rfl];refine wpAny_passesOwn hp (thn (hb pins s2 σ1 H2 _ I2 q2) fun f s3 q3=>?_);cases f with
  | next =>obtain ⟨σ3,H3,I3,n3⟩:=q3;obtain ⟨m',hm,w3⟩:=hN σ3 H3 n3;exact ⟨m',hm,σ3,H3,I3,w3⟩
  | cont =>obtain ⟨σ3,H3,I3,n3⟩:=q3;obtain ⟨m',hm,w3⟩:=hN σ3 H3 n3;exact ⟨m',hm,σ3,H3,I3,w3⟩
  | brk=>exact q3
  | ret v=>exact q3
 | false =>rw [if_neg Bool.false_ne_true];exact wpAny_execs_nil ⟨σ1,H2,I2,q2⟩
end
structure It where
 go:Nat->Hp->Prop
 yld:Nat->Hp->V->Hp->Prop
 stop:Nat->Hp->Prop
def rp (X:Cx) (pins:List (Addr×Obj)) (H:Hp) (b:Addr):Prop :=
 H b=none/\b≠X.env.locals/\b∉X.fs/\(b∈X.ex\/X.s₀.heap.objs.size<=b)/\(∀ x c,X.env.cells.lookup x=some c->c≠b)/\∀ p∈X.pn++pins,p.1≠b
theorem Inv.fpOk {X:Cx} {pins:List (Addr×Obj)} {σ:St} {H H':Hp} {s:Shared} {b:Addr} (I:Inv X pins σ H s) (hb:s.heap.objs.size<=b) (hn:H' b=none):rp X pins H' b:=by
 refine ⟨hn,Nat.ne_of_gt (Nat.lt_of_lt_of_le I.lt hb),I.nofs hb,.inr (Nat.le_trans I.sz hb),fun x c e z=>?_,fun p hp z=>?_⟩
 ·obtain ⟨v,q⟩:=I.cell x c e;exact absurd (Nat.lt_of_lt_of_le q.lt (by rw [z];exact hb)) (Nat.lt_irrefl _)
 ·exact absurd (Nat.lt_of_lt_of_le (Heap.lt_size (I.pin p hp).1) (by rw [z];exact hb)) (Nat.lt_irrefl _)
structure Turn (P:Program) (w:World) (K:PySem.W.Frag) (tg:Expr) (J:It) (fp:List Addr) (it:Addr) (tn:Nat->Heap->Prop):Prop where
 mem:it∈fp
 obj:∀ i h,tn i h->∀ b∈fp,∃ o,h.get? b=some o/\∀ v,o.data≠.cell v
 keep:∀ i h h',tn i h->(∀ b∈fp,∀ o,h.get? b=some o->h'.get? b=some o)->tn i h'
 item:∀ (X:Cx),X.prog=P->X.w=w->X.K=K->X.calm=true->∀ (i:Nat) (pins:List (Addr×Obj)) (s:Shared) (σ:St) (H:Hp) (E:Value->Shared->Prop),Inv X pins σ H s->(∀ b∈fp,rp X pins H b)->tn i s.heap->J.go i H ->
  wpAny (model P w) X.A (pyNext (.ref it)) (fun r s1=>∃ u,r=some u /\
   wpAny (model P w) X.A (letOwnedTupleGo tg (.ref it) u) (fun _ s2=>∃ x H',Inv X pins σ H' s2/\RelV x u/\J.yld i H x H'/\tn (i+1) s2.heap/\∀ b∈fp,H' b=none) E s1) E s
 done:∀ (X:Cx),X.prog=P->X.w=w->X.K=K->X.calm=true->∀ (i:Nat) (pins:List (Addr×Obj)) (s:Shared) (σ:St) (H:Hp) (E:Value->Shared->Prop),Inv X pins σ H s->(∀ b∈fp,rp X pins H b)->tn i s.heap->J.stop i H ->
  wpAny (model P w) X.A (pyNext (.ref it)) (fun r s1=>r=none/\Inv X pins σ H s1) E s
 self:∀ (A:Around) (i:Nat) (s:Shared) (Q:Value->Shared->Prop) (E:Value->Shared->Prop),tn i s.heap->Q (.ref it) s->wpAny (model P w) A (pyIter (.ref it)) Q E s
abbrev TI:=St->Hp->(It->Hp->Prop)->Prop
def PIE (X:Cx) (pins:List (Addr×Obj)) (σ:St) (tg:Expr) (R:It->Hp->Prop) (itv:Value) (s2:Shared):Prop :=
 ∃ (it:Addr) (fp:List Addr) (tn:Nat->Heap->Prop) (J:It) (H':Hp),itv=.ref it/\Inv X pins σ H' s2/\Turn X.prog X.w X.K tg J fp it tn/\tn 0 s2.heap/\(∀ b∈fp,rp X pins H' b)/\R J H'
def PI (X:Cx) (tg iter:Expr) (wi:TI):Prop :=
 ∀ (pins:List (Addr×Obj)) (s:Shared) (σ:St) (H:Hp) (R:It->Hp->Prop),Inv X pins σ H s->wi σ H R ->
  wpAny (model X.prog X.w) X.A (eval iter X.env) (fun v s1=>wpAny (model X.prog X.w) X.A (pyIter v) (PIE X pins σ tg R) X.xe s1) X.xe s
theorem CF {M:Model} {A:Around} {E:Value->Shared->Prop} {s:Shared} {tg:Expr} {it:Addr} {u:Value} {o:Obj} {n:String} {vs:Array Value} {Q:Unit->Shared->Prop} (ho:s.heap.get? it=some o) (hc:o.cls=.type n) (hd:o.data=.fields vs)
    (hn:["enumerate", "zip", "dict_itemiterator", "dict_reverseitemiterator", "odict_iterator", "itertools.zip_longest", "itertools.pairwise"].contains n=false) (hQ:Q () s):wpAny M A (letOwnedTupleGo tg (.ref it) u) Q E s:=by
  unfold letOwnedTupleGo
  cases tg <;> first
    | exact wpAny_pure hQ
    | (cases u <;> first
        | exact wpAny_pure hQ
        | (refine wpAny_bind (wpAny_load ho ?_)
           rw [hc,hd]
           show wpAny M A (if (["enumerate", "zip", "dict_itemiterator", "dict_reverseitemiterator", "odict_iterator", "itertools.zip_longest", "itertools.pairwise"].contains n&&vs[0]?==some (rawInt _))=true then _ else _) Q E s
           rw [if_neg (by intro h;rw [hn,Bool.false_and] at h;cases h)]
           exact wpAny_pure hQ))
def Itl (K:PySem.W.Frag) (a:Addr):It :=
 ⟨fun i H=>∃ xs x,SqL K H a xs/\xs[i]?=some x,fun i H x H'=>H'=H/\∀ xs,SqL K H a xs->xs[i]?=some x,fun i H=>∃ xs,SqL K H a xs/\xs.length<=i⟩
def Itt (K:PySem.W.Frag) (a:Addr):It :=
 ⟨fun i H=>∃ xs x,SqT K H a xs/\xs[i]?=some x,fun i H x H'=>H'=H/\∀ xs,SqT K H a xs->xs[i]?=some x,fun i H=>∃ xs,SqT K H a xs/\xs.length<=i⟩
def Itr (lo:Int) (n:Nat):It:=⟨fun i _=>i<n,fun i H x H'=>H'=H/\x=.int (lo+i),fun i _=>n<=i⟩
theorem Aj {P:Program} {w:World} {K:PySem.W.Frag} {tg:Expr} (a it:Addr):Turn P w K tg (Itl K a) [it] it (fun i h=>h.IsListIter it a i) where
 mem:=by simp
 obj:=fun i h st b hb=>by
  have e:b=it:=by simpa using hb
  subst e;obtain ⟨o,e,c,d⟩:=st;exact ⟨o,e,fun v z=>by rw [d] at z;cases z⟩
 keep:=fun i h h' st k=>st.at fun o e=>k it (by simp) o e
 item:=by
  intro X hP hw hK hc i pins s σ H E I hf st hg;subst hP hw hK;obtain ⟨xs,x,hq,hx⟩:=hg;obtain ⟨its,rv,p,hz⟩:=I.list hq;obtain ⟨u,hu,ru⟩:=rv.get hx;obtain ⟨f0,f1,f2,f3,f4,f5⟩:=hf it (by simp);refine wpAny_pyNext_list_item st p.isList (x:=u) (by simpa using hu) fun h' st' sb=>?_
  have I1:Inv X pins σ H { s with heap:=h' }:=I.turned (t':=s.toks) (fun b o hb e=>(sb.2 b hb).trans e) f0 f1 f3 f4 f5;obtain ⟨o,e,c,d⟩:=id st';exact ⟨u,rfl,CF (s:={ s with heap:=h' }) e c d (by decide) ⟨x,H,I1,ru,⟨rfl,fun ys hy=>by rw [I.list_inj hy hq];exact hx⟩,st',fun b hb=>(hf b hb).1⟩⟩
 done:=by intro X hP hw hK hc i pins s σ H E I hf st hg;subst hP hw hK;obtain ⟨xs,hq,hx⟩:=hg;obtain ⟨its,rv,p,hz⟩:=I.list hq;obtain ⟨f0,f1,f2,f3,f4,f5⟩:=hf it (by simp);have hl:=rv.length;exact wpAny_pyNext_list_end (I.ok.hd hc) st p.isList (by simp;omega) fun h' eb=>⟨rfl,I.turned (t':=s.toks) (fun b o hb e=>eb b o hb e) f0 f1 f3 f4 f5⟩
 self:=fun _ _ _ _ _ st h=>wpAny_pyIter_listiter st h
theorem xD {P:Program} {w:World} {K:PySem.W.Frag} {tg:Expr} (a it:Addr):Turn P w K tg (Itt K a) [it] it (fun i h=>h.IsTupleIter it a i) where
 mem:=by simp
 obj:=fun i h st b hb=>by
  have e:b=it:=by simpa using hb
  subst e;obtain ⟨o,e,c,d⟩:=st;exact ⟨o,e,fun v z=>by rw [d] at z;cases z⟩
 keep:=fun i h h' st k=>st.at fun o e=>k it (by simp) o e
 item:=by
  intro X hP hw hK hc i pins s σ H E I hf st hg;subst hP hw hK;obtain ⟨xs,x,hq,hx⟩:=hg;obtain ⟨its,rv,p,hz⟩:=I.tuple hq;obtain ⟨u,hu,ru⟩:=rv.get hx;obtain ⟨f0,f1,f2,f3,f4,f5⟩:=hf it (by simp);refine wpAny_pyNext_tuple_item st (show s.heap.IsTuple a its.toArray from p) (x:=u) (by simpa using hu) fun h' st' sb=>?_
  have I1:Inv X pins σ H { s with heap:=h' }:=I.turned (t':=s.toks) (fun b o hb e=>(sb.2 b hb).trans e) f0 f1 f3 f4 f5;obtain ⟨o,e,c,d⟩:=id st';exact ⟨u,rfl,CF (s:={ s with heap:=h' }) e c d (by decide) ⟨x,H,I1,ru,⟨rfl,fun ys hy=>by rw [I.tuple_inj hy hq];exact hx⟩,st',fun b hb=>(hf b hb).1⟩⟩
 done:=by intro X hP hw hK hc i pins s σ H E I hf st hg;subst hP hw hK;obtain ⟨xs,hq,hx⟩:=hg;obtain ⟨its,rv,p,hz⟩:=I.tuple hq;obtain ⟨f0,f1,f2,f3,f4,f5⟩:=hf it (by simp);have hl:=rv.length;exact wpAny_pyNext_tuple_end (I.ok.hd hc) st (show s.heap.IsTuple a its.toArray from p) (by simp;omega) fun h' eb=>⟨rfl,I.turned (t':=s.toks) (fun b o hb e=>eb b o hb e) f0 f1 f3 f4 f5⟩
 self:=fun _ _ _ _ _ st h=>wpAny_pyIter_tupleiter st h
theorem yn {P:Program} {w:World} {K:PySem.W.Frag} {tg:Expr} (it:Addr) (lo:Int) (n:Nat):Turn P w K tg (Itr lo n) [it] it (fun i h=>IsRangeIter h it (lo+(i:Nat)*1) ((n:Int)-(i:Nat)) 1) where
 mem:=by simp
 obj:=fun i h st b hb=>by
  have e:b=it:=by simpa using hb
  subst e;exact ⟨_,st,fun v z=>by have z':Data.fields _=Data.cell v:=z;cases z'⟩
 keep:=fun i h h' st k=>k it (by simp) _ st
 item:=by
  intro X hP hw hK hc i pins s σ H E I hf st hg;subst hP hw hK;obtain ⟨f0,f1,f2,f3,f4,f5⟩:=hf it (by simp);have W:=Walks.range (prog:=X.prog) (w:=X.w) (I.ok.hd hc) it lo 1 n;refine W.item i s _ _ hg st fun v h' tk hv st' kk=>?_
  obtain ⟨t,rfl⟩:=hv;have I1:Inv X pins σ H { s with heap:=h',toks:=tk }:=I.turned (fun b o hb e=>kk b o (by simpa using hb) e) f0 f1 f3 f4 f5;refine ⟨_,rfl,CF (s:={ s with heap:=h',toks:=tk }) (n:="range_iterator") st' rfl rfl (by decide) ⟨.int (lo+i),H,I1,⟨t,?_⟩,⟨rfl,rfl⟩,st',fun b hb=>(hf b hb).1⟩⟩;rw [Int.mul_one]
 done:=by intro X hP hw hK hc i pins s σ H E I hf st hg;subst hP hw hK;obtain ⟨f0,f1,f2,f3,f4,f5⟩:=hf it (by simp);exact wpAny_pyNext_range_end (I.ok.hd hc) st (by have:n<=i:=hg;omega) fun h' eb=>⟨rfl,I.turned (t':=s.toks) (fun b o hb e=>eb b o hb e) f0 f1 f3 f4 f5⟩
 self:=fun _ _ _ _ _ st h=>wpAny_pyIter_rangeiter st h
section
variable {X:Cx} {tg:Expr}
def Ib (K:PySem.W.Frag) (tl:TE):TI:=fun σ H R=>tl σ H fun x H1=>∃ a,x=.ref a/\(∃ xs,SqL K H1 a xs)/\R (Itl K a) H1
def Jm (K:PySem.W.Frag) (tl:TE):TI:=fun σ H R=>tl σ H fun x H1=>∃ a,x=.ref a/\(∃ xs,SqT K H1 a xs)/\R (Itt K a) H1
theorem EI {l:Expr} {tl:TE} (hl:PE X l tl):PI X tg l (Ib X.K tl):=by
 intro pins s σ H R I h;refine thn (hl pins s σ H _ I h) fun v s1 rz2=>?_
 obtain ⟨x,H1,I1,r1,q1⟩:=rz2;obtain ⟨a,e,⟨xs,hq⟩,q⟩:=q1;subst e;cases r1;obtain ⟨its,rv,p,hz⟩:=I1.list hq;refine wpAny_pyIter_list p.isList ?_;refine ⟨s1.heap.objs.size,[s1.heap.objs.size],_,_,H1,rfl,I1.kept (t':=s1.toks) fun b o e=>Heap.get?_push_of_some _ e,Aj a _,⟨_,Heap.get?_push_size _ rfl,rfl,rfl⟩,fun b hb=>?_,q⟩;have e:b=s1.heap.objs.size:=by simpa using hb
 subst e;exact I1.fpOk (Nat.le_refl _) (I1.hok.fresh (Nat.le_refl _))
theorem GP {l:Expr} {tl:TE} (hl:PE X l tl):PI X tg l (Jm X.K tl):=by
 intro pins s σ H R I h;refine thn (hl pins s σ H _ I h) fun v s1 rz2=>?_
 obtain ⟨x,H1,I1,r1,q1⟩:=rz2;obtain ⟨a,e,⟨xs,hq⟩,q⟩:=q1;subst e;cases r1;obtain ⟨its,rv,p,hz⟩:=I1.tuple hq;refine wpAny_pyIter_tuple (show s1.heap.IsTuple a its.toArray from p) ?_;refine ⟨s1.heap.objs.size,[s1.heap.objs.size],_,_,H1,rfl,I1.kept (t':=s1.toks) fun b o e=>Heap.get?_push_of_some _ e,xD a _,⟨_,Heap.get?_push_size _ rfl,rfl,rfl⟩,fun b hb=>?_,q⟩;have e:b=s1.heap.objs.size:=by simpa using hb
 subst e;exact I1.fpOk (Nat.le_refl _) (I1.hok.fresh (Nat.le_refl _))
theorem CG {pins:List (Addr×Obj)} {σ:St} {H:Hp} {s:Shared} {R:It->Hp->Prop} {E:Value->Shared->Prop} {lo hi:Int} {t u v:Tok} {tk:Nat} (I:Inv X pins σ H s) (h1:-(2 ^ 62)<=lo) (h2:lo<2 ^ 62) (h3:-(2 ^ 62)<=hi) (h4:hi<2 ^ 62)
  (q:R (Itr lo (hi-lo).toNat) H):wpAny (model X.prog X.w) X.A (pyIter (.ref s.heap.objs.size)) (PIE X pins σ tg R) E { s with heap:=s.heap.push { cls:=.type "range",data:=.fields #[.int lo t,.int hi u,.int 1 v] },toks:=tk }:=by
 refine wpAny_pyIter_range (IsRange.new ..) (small_one h1 h2 h3 h4) ?_;have I1:Inv X pins σ H { s with heap:=s.heap.push { cls:=.type "range",data:=.fields #[.int lo t,.int hi u,.int 1 v] },toks:=tk }:=I.kept fun b o e=>Heap.get?_push_of_some _ e
 refine ⟨(s.heap.push { cls:=.type "range",data:=.fields #[.int lo t,.int hi u,.int 1 v] }).objs.size,[(s.heap.push { cls:=.type "range",data:=.fields #[.int lo t,.int hi u,.int 1 v] }).objs.size],_,_,H,rfl,
  I1.kept (t':=tk) fun b o e=>Heap.get?_push_of_some _ e,yn _ lo (hi-lo).toNat,?_,fun b hb=>?_,q⟩
 ·have e1:lo+((0:Nat):Int)*1=lo:=by simp
  have e2:(((hi-lo).toNat:Nat):Int)-((0:Nat):Int)=Builtin.Range.rangeSize lo hi 1:=by rw [rangeSize_one];split <;> omega
  show IsRangeIter _ _ (lo+((0:Nat):Int)*1) ((((hi-lo).toNat:Nat):Int)-((0:Nat):Int)) 1;rw [e1,e2];exact Heap.get?_push_size _ rfl
 ·have e:b=(s.heap.push { cls:=.type "range",data:=.fields #[.int lo t,.int hi u,.int 1 v] }).objs.size:=by simpa using hb
  subst e;exact I1.fpOk (Nat.le_refl _) (I1.hok.fresh (Nat.le_refl _))
def Iv (ta:TA):TI:=fun σ H R=>ta σ H fun vs H1=>∃ j:Int,vs=[.int j]/\-(2 ^ 62)<=j/\j<2 ^ 62/\R (Itr 0 j.toNat) H1
theorem AK {a:Expr} {ta:TA} {p pos:Pos} (hg:Gl X "range") (hm:X.mg "range"=none) (ha:PA X [a] ta) (hs:starEach [a] X.env=[(false,eval a X.env)]:=by rfl):PI X tg (.Call (.Name "range" p) [a] [] pos) (Iv ta):=by
 intro pins s σ H R I h;refine Call_ (hV I hg hm boot_range (PyProof.Rows.callWith_type1 (thn (ha pos pins s σ H _ I h) fun us s1 rz2=>?_) hs rfl));obtain ⟨vs,H1,I1,r1,q1⟩:=rz2;obtain ⟨j,e,q1,q2,q⟩:=q1;subst e;cases r1 with
 | cons r rr =>cases rr;obtain ⟨t,rfl⟩:=r;exact call_range_1 (CG I1 (by omega) (by omega) q1 q2 (by simpa using q))
def Jg (wi:TI) (g:TG) (tb:TS):TS:=fun D σ H=>wi σ H fun J H1=>∃ W:Nat->Nat->St->Hp->Prop,(∃ m,W 0 m σ H1)/\∀ i m σ H,W i m σ H ->
 (J.stop i H/\D.nx σ H)\/(J.go i H/\∃ N:St->Hp->Prop,(∀ σ' H',N σ' H'->∃ m',m' < m/\W (i+1) m' σ' H')/\∀ x H',J.yld i H x H'->g x σ H' fun σ2 H2=>tb { D with nx:=N,ct:=N,bk:=D.nx } σ2 H2)
def qX (fp:List Addr) (h:Heap):List (Addr×Obj):=fp.filterMap fun b=>(h.get? b).map fun o=>(b,o)
theorem jr {fp:List Addr} {h:Heap} {b:Addr} {o:Obj} (hb:b∈fp) (e:h.get? b=some o):(b,o)∈qX fp h:=List.mem_filterMap.mpr ⟨b,hb,by rw [e];rfl⟩
theorem Az {fp:List Addr} {h:Heap} {p:Addr×Obj} (hp:p∈qX fp h):p.1∈fp/\h.get? p.1=some p.2:=by
 obtain ⟨b,hb,e⟩:=List.mem_filterMap.mp hp;cases q:h.get? b with
 | none=>rw [q] at e;cases e
 | some o =>rw [q] at e;have e':(b,o)=p:=Option.some.inj e;subst e';exact ⟨hb,q⟩
theorem Inv.pinned {pins:List (Addr×Obj)} {σ:St} {H:Hp} {s:Shared} {fp:List Addr} (I:Inv X pins σ H s) (hf:∀ b∈fp,rp X pins H b) (ho:∀ b∈fp,∃ o,s.heap.get? b=some o/\∀ v,o.data≠.cell v):Inv X (pins++qX fp s.heap) σ H s :=
 I.pins_of fun p hp=>(List.mem_append.mp hp).elim (fun z=>I.pin p (List.mem_append_right _ z)) fun z=>by obtain ⟨hb,e⟩:=Az z;obtain ⟨f0,f1,f2,_⟩:=hf p.1 hb;obtain ⟨o,e',d⟩:=ho p.1 hb;rw [e] at e';cases e';exact ⟨e,f0,f1,f2,d⟩
theorem Inv.unpinned {pins pl:List (Addr×Obj)} {σ:St} {H:Hp} {s:Shared} (I:Inv X (pins++pl) σ H s):Inv X pins σ H s:=I.pins_of fun p hp=>I.pin p (List.mem_append_right _ (List.mem_append_left _ hp))
theorem FN {iter:Expr} {body:List Stmt} {wi:TI} {g:TG} {tb:TS} {pos:Pos} (hp:PassesOwn (model X.prog X.w) X.A X.env X.xe) (hc:X.calm=true) (hi:PI X tg iter wi) (hg:PG X tg g) (hb:PSs X body tb)
  (hs:∀ x,foldedSetIterable iter X.env x=pure x:=by intro _;rfl):PS X (.For tg iter body [] pos) (Jg wi g tb):=by
 intro pins s σ H D I h;refine wpAny_For (thn (hi pins s σ H _ I h) fun v s1 h1=>thn h1 fun itv s2 h2=>?_) hs;obtain ⟨it,fp,tn,J,H2,e,I2,T,st2,f2,W,⟨m0,w0⟩,turn⟩:=h2;subst e
 -- what stays true of the iterator's objects through the loop
 have stat:∀ {H':Hp},(∀ b∈fp,H' b=none)->∀ b∈fp,rp X pins H' b:=fun hn b hb=>⟨hn b hb,(f2 b hb).2⟩
 refine codeAny_forLoop_any (fun n s'=>∃ i σ' H',Inv X pins σ' H' s'/\tn i s'.heap/\(∀ b∈fp,H' b=none)/\W i n σ' H') ?_ m0 ⟨0,σ,H2,I2,st2,fun b hb=>(f2 b hb).1,w0⟩
 rintro n s3 ⟨i,σ3,H3,I3,st3,fr3,w3⟩
 rcases turn i n σ3 H3 w3 with ⟨stop,qn⟩ | ⟨go,N,hN,step⟩
 ·refine wpAny_passesOwn hp (thn (T.done X rfl rfl rfl hc i pins s3 σ3 H3 X.xe I3 (stat fr3) st3 stop) fun r s4 rz2=>?_);obtain ⟨hr,I4⟩:=rz2;subst hr;exact wpAny_execs_nil ⟨σ3,H3,I4,qn⟩
 ·refine wpAny_passesOwn hp (thn (T.item X rfl rfl rfl hc i pins s3 σ3 H3 X.xe I3 (stat fr3) st3 go) fun r s4 rz2=>?_);obtain ⟨u,hr,h4⟩:=rz2;subst hr;refine wpAny_passesOwn hp (thn h4 fun _ s5 rz2=>?_);obtain ⟨x,H5,I5,r5,y5,st5,fr5⟩:=rz2;have I5':=I5.pinned (stat fr5) (T.obj _ _ st5);refine wpAny_passesOwn hp (thn (hg _ s5 σ3 H5 x u _ I5' r5 (step x H5 y5)) fun _ s6 rz2=>?_);obtain ⟨σ6,H6,I6,q6⟩:=rz2;refine wpAny_passesOwn hp (thn (hb _ s6 σ6 H6 _ I6 q6) fun f s7 q7=>?_);have again:∀ {σ7:St} {H7:Hp},Inv X (pins++qX fp s5.heap) σ7 H7 s7->N σ7 H7->∃ m,m<n/\∃ i σ' H',Inv X pins σ' H' s7/\tn i s7.heap/\(∀ b∈fp,H' b=none)/\W i m σ' H':=fun {σ7 H7} I7 n7=>by obtain ⟨m',hm,w7⟩:=hN σ7 H7 n7;refine ⟨m',hm,i+1,σ7,H7,I7.unpinned,T.keep _ _ _ st5 fun b hb o e=>(I7.pin (b,o) (List.mem_append_right _ (List.mem_append_right _ (jr hb e)))).1,fun b hb=>?_,w7⟩;obtain ⟨o,e,d⟩:=T.obj _ _ st5 b hb;exact (I7.pin (b,o) (List.mem_append_right _ (List.mem_append_right _ (jr hb e)))).2.1
  cases f with
  | next=>obtain ⟨σ7,H7,I7,n7⟩:=q7;exact again I7 n7
  | cont=>obtain ⟨σ7,H7,I7,n7⟩:=q7;exact again I7 n7
  | brk=>obtain ⟨σ7,H7,I7,q7⟩:=q7;exact ⟨σ7,H7,I7.unpinned,q7⟩
  | ret v=>obtain ⟨x7,σ7,H7,I7,r7,q7⟩:=q7;exact ⟨x7,σ7,H7,I7.unpinned,r7,q7⟩
end
abbrev R2:=V->V->Hp->VK->Prop
def OpR (X:Cx) (f:Value->Value->Sem Value) (r:R2):Prop :=
 ∀ (pins:List (Addr×Obj)) (s:Shared) (σ:St) (H:Hp) (x y:V) (v u:Value) (Q:VK),Inv X pins σ H s->RelV x v->RelV y u->r x y H Q ->
  wpAny (model X.prog X.w) X.A (f v u) (EP X pins σ Q) X.xe s
def UnR (X:Cx) (f:Value->Sem Value) (r:V->Hp->VK->Prop):Prop :=
 ∀ (pins:List (Addr×Obj)) (s:Shared) (σ:St) (H:Hp) (x:V) (v:Value) (Q:VK),Inv X pins σ H s->RelV x v->r x H Q ->
  wpAny (model X.prog X.w) X.A (f v) (EP X pins σ Q) X.xe s
def kA (X:Cx) (f:Value) (r:List V->Hp->VK->Prop):Prop :=
 ∀ (pins:List (Addr×Obj)) (s:Shared) (σ:St) (H:Hp) (xs:List V) (us:List Value) (Q:VK),Inv X pins σ H s->Vals xs us->r xs H Q ->
  wpAny (model X.prog X.w) X.A (call f us) (EP X pins σ Q) X.xe s
def tOp (r:R2) (ta tb:TE):TE:=fun σ H Q=>ta σ H fun x H1=>tb σ H1 fun y H2=>r x y H2 Q
def tUn (r:V->Hp->VK->Prop) (ta:TE):TE:=fun σ H Q=>ta σ H fun x H1=>r x H1 Q
def rI (C:Int->Int->Prop) (g:Int->Int->V):R2:=fun x y H Q=>∃ i j,x=.int i/\y=.int j/\C i j/\Q (g i j) H
def rI0 (g:Int->Int->V):R2:=fun x y H Q=>∃ i j,x=.int i/\y=.int j/\Q (g i j) H
def rU (g:Int->V):V->Hp->VK->Prop:=fun x H Q=>∃ i,x=.int i/\Q (g i) H
section
variable {X:Cx} {a b c:Expr} {ta tb tc:TE} {pos:Pos}
theorem Gr (ha:PE X a ta) (hb:PE X b tb) {pins:List (Addr×Obj)} {s:Shared} {σ:St} {H:Hp} {R:V->V->Hp->Prop} (I:Inv X pins σ H s)
  (h:ta σ H fun x H1=>tb σ H1 fun y H2=>R x y H2) {Q:Value->Shared->Prop} {f:Value->Value->Sem Value}
  (hf:∀ v u s2 x y H2,Inv X pins σ H2 s2->RelV x v->RelV y u->R x y H2->wpAny (model X.prog X.w) X.A (f v u) Q X.xe s2) :
  wpAny (model X.prog X.w) X.A (eval a X.env) (fun v s₁=>wpAny (model X.prog X.w) X.A (eval b X.env) (fun u s₂=>wpAny (model X.prog X.w) X.A (f v u) Q X.xe s₂) X.xe s₁) X.xe s:=by
 refine thn (ha pins s σ H _ I h) fun v s1 rz2=>?_
 obtain ⟨x,H1,I1,r1,q1⟩:=rz2;refine thn (hb pins s1 σ H1 _ I1 q1) fun u s2 rz2=>?_
 obtain ⟨y,H2,I2,r2,q2⟩:=rz2;exact hf v u s2 x y H2 I2 r1 r2 q2
theorem fh {op:Operator} {r:R2} (ho:OpR X (binaryOp op) r) (ha:PE X a ta) (hb:PE X b tb):PE X (.BinOp a op b pos) (tOp r ta tb):=by intro pins s σ H Q I h;exact wpAny_BinOp (Gr ha hb I h fun v u s2 x y H2 I2 rx ry q=>ho pins s2 σ H2 x y v u Q I2 rx ry q)
theorem Iq {op:UnaryOp} {r:V->Hp->VK->Prop} (ho:UnR X (unaryOp op) r) (ha:PE X a ta):PE X (.UnaryOp op a pos) (tUn r ta):=by intro pins s σ H Q I h;exact UnaryOp_ (thn (ha pins s σ H _ I h) fun v s1 qz2=>(by obtain ⟨x,H1,I1,r1,q1⟩:=qz2;exact ho pins s1 σ H1 x v Q I1 r1 q1))
theorem opI {f:Value->Value->Sem Value} {C:Int->Int->Prop} {g:Int->Int->Int}
  (rule:∀ (i j:Int) (t u:Tok) (s:Shared) (Q:Value->Shared->Prop) (E:Value->Shared->Prop),C i j->Q (.int (g i j) s.toks) { s with toks:=s.toks+1 }->wpAny (model X.prog X.w) X.A (f (.int i t) (.int j u)) Q E s) :
  OpR X f (rI C fun i j=>.int (g i j)):=by
 intro pins s σ H x y v u Q I rx ry h;obtain ⟨i,j,rfl,rfl,hc,q⟩:=h;obtain ⟨t,rfl⟩:=rx;obtain ⟨t',rfl⟩:=ry;exact rule i j t t' s _ _ hc ⟨.int (g i j),H,I.tok _,⟨_,rfl⟩,q⟩
theorem HD {f:Value->Value->Sem Value} {g:Int->Int->Int}
  (rule:∀ (i j:Int) (t u:Tok) (s:Shared) (Q:Value->Shared->Prop) (E:Value->Shared->Prop),Q (.int (g i j) s.toks) { s with toks:=s.toks+1 }->wpAny (model X.prog X.w) X.A (f (.int i t) (.int j u)) Q E s) :
  OpR X f (rI0 fun i j=>.int (g i j)):=by
 intro pins s σ H x y v u Q I rx ry h;obtain ⟨i,j,rfl,rfl,q⟩:=h;obtain ⟨t,rfl⟩:=rx;obtain ⟨t',rfl⟩:=ry;exact rule i j t t' s _ _ ⟨.int (g i j),H,I.tok _,⟨_,rfl⟩,q⟩
theorem DX {f:Value->Value->Sem Value} {g:Int->Int->Bool}
  (rule:∀ (i j:Int) (t u:Tok) (s:Shared) (Q:Value->Shared->Prop) (E:Value->Shared->Prop),Q (.bool (g i j)) s->wpAny (model X.prog X.w) X.A (f (.int i t) (.int j u)) Q E s) :
  OpR X f (rI0 fun i j=>.bl (g i j)):=by
 intro pins s σ H x y v u Q I rx ry h;obtain ⟨i,j,rfl,rfl,q⟩:=h;obtain ⟨t,rfl⟩:=rx;obtain ⟨t',rfl⟩:=ry;exact rule i j t t' s _ _ ⟨.bl (g i j),H,I,rfl,q⟩
def IL (i j:Int):Prop:=0<j/\j<1073741824
def Il (i j:Int):Prop:=0<=j/\j<=1000000/\i.natAbs<2 ^ 64
def Ez (i j:Int):Prop:=(-(2 ^ 64)<i/\i<2 ^ 64)\/(-(2 ^ 64)<j/\j<2 ^ 64)
theorem Ez.ok {i j:Int} (h:Ez i j):IntMulOk i j:=by
 rcases h with ⟨h1,h2⟩ | ⟨h1,h2⟩
 ·exact .of_left (intBits_le_64 h1 h2)
 ·exact .of_right (intBits_le_64 h1 h2)
theorem n9:OpR X (binaryOp .Add) (rI0 fun i j=>.int (i+j)):=HD fun _ _ _ _ _ _ _ q=>add_int q
theorem GX:OpR X (binaryOp .Sub) (rI0 fun i j=>.int (i-j)):=HD fun _ _ _ _ _ _ _ q=>sub_int q
theorem nz:OpR X (binaryOp .Mult) (rI Ez fun i j=>.int (i*j)):=opI fun _ _ _ _ _ _ _ hc q=>mul_int q hc.ok
theorem Ef:OpR X (binaryOp .FloorDiv) (rI IL fun i j=>.int (i / j)):=opI fun i j _ _ _ _ _ hc q=>by have h1:(0:Int)<j:=hc.1;have h2:j<1073741824:=hc.2;exact floordiv_int (by omega) (by rw [Int.fdiv_eq_ediv_of_nonneg i (by omega)];exact q) (.inl (PyProof.noPylong_small (by omega)))
theorem qU:OpR X (binaryOp .Mod) (rI (fun _ j=>0<j) fun i j=>.int (i % j)):=opI fun i j _ _ _ _ _ hc q=>by have h1:(0:Int)<j:=hc;exact mod_int' (by omega) (by rw [Int.fmod_eq_emod_of_nonneg i (by omega)];exact q)
theorem G8:OpR X (binaryOp .Pow) (rI Il fun i j=>.int (i ^ j.toNat)):=opI fun _ _ _ _ _ _ _ hc q=>pow_int_small hc.1 hc.2.1 hc.2.2 q
theorem unI {f:Value->Sem Value} {g:Int->Int}
  (rule:∀ (i:Int) (t:Tok) (s:Shared) (Q:Value->Shared->Prop) (E:Value->Shared->Prop),Q (.int (g i) s.toks) { s with toks:=s.toks+1 }->wpAny (model X.prog X.w) X.A (f (.int i t)) Q E s) :
  UnR X f (rU fun i=>.int (g i)):=by
 intro pins s σ H x v Q I rx h;obtain ⟨i,rfl,q⟩:=h;obtain ⟨t,rfl⟩:=rx;exact rule i t s _ _ ⟨.int (g i),H,I.tok _,⟨_,rfl⟩,q⟩
theorem FQ:UnR X (unaryOp .USub) (rU fun i=>.int (-i)):=unI fun _ _ _ _ _ q=>neg_int q
end
section
variable {X:Cx} {a b c:Expr} {ta tb tc:TE} {pos:Pos}
theorem Cv:OpR X (compareOp .Lt) (rI0 fun i j=>.bl (decide (i<j))):=DX fun _ _ _ _ _ _ _ q=>lt_int q
theorem yX:OpR X (compareOp .LtE) (rI0 fun i j=>.bl (decide (i<=j))):=DX fun _ _ _ _ _ _ _ q=>le_int q
theorem Hy:OpR X (compareOp .Gt) (rI0 fun i j=>.bl (decide (j<i))):=DX fun _ _ _ _ _ _ _ q=>gt_int q
theorem HV:OpR X (compareOp .GtE) (rI0 fun i j=>.bl (decide (j<=i))):=DX fun _ _ _ _ _ _ _ q=>ge_int q
theorem OpR.or {f:Value->Value->Sem Value} {r r':R2} (h:OpR X f r) (h':OpR X f r'):OpR X f (fun x y H Q=>r x y H Q\/r' x y H Q):=by
 intro pins s σ H x y v u Q I rx ry q;rcases q with q | q
 ·exact h pins s σ H x y v u Q I rx ry q
 ·exact h' pins s σ H x y v u Q I rx ry q
theorem ik (b:Expr) {op:CmpOp} (h:op≠.In:=by decide) (h2:op≠.NotIn:=by decide):behindInMarks op b=false:=by
 have e1:(op==CmpOp.In)=false:=by cases op <;> first | rfl | exact absurd rfl h
 have e2:(op==CmpOp.NotIn)=false:=by cases op <;> first | rfl | exact absurd rfl h2
 cases b <;> simp [behindInMarks,e1,e2]
theorem my {op:CmpOp} {r:R2} (ho:OpR X (compareOp op) r) (ha:PE X a ta) (hb:PE X b tb) (hm:behindInMarks op b=false):PE X (.Compare a [op] [b] pos) (tOp r ta tb):=by intro pins s σ H Q I h;exact wpAny_Compare1 (Gr ha hb I h fun v u s2 x y H2 I2 rx ry q=>ho pins s2 σ H2 x y v u Q I2 rx ry q) hm
def Fw (t:TE):TT:=fun σ H Q=>t σ H fun x H'=>∃ k,x=.bl k/\Q k H'
theorem jv {op:CmpOp} {r:R2} (ho:OpR X (compareOp op) r) (ha:PE X a ta) (hb:PE X b tb) (hm:behindInMarks op b=false):PT X (.Compare a [op] [b] pos) (Fw (tOp r ta tb)):=by
 intro pins s σ H Q I h;refine wpAny_isTrue_Compare1 (thn (ha pins s σ H _ I h) fun v s1 rz2=>?_) hm;obtain ⟨x,H1,I1,r1,q1⟩:=rz2;refine thn (hb pins s1 σ H1 _ I1 q1) fun u s2 rz2=>?_
 obtain ⟨y,H2,I2,r2,q2⟩:=rz2;refine thn (ho pins s2 σ H2 x y v u _ I2 r1 r2 q2) fun c s3 rz2=>?_
 obtain ⟨z,H3,I3,r3,k,e,q3⟩:=rz2;subst e;cases r3;exact wpAny_truthy_bool ⟨H3,I3,q3⟩
def GB (r r':R2) (ta tb tc:TE):TE:=fun σ H Q=>ta σ H fun x H1=>tb σ H1 fun y H2=>r x y H2 fun z H3=>∃ k,z=.bl k /\
 (if k=true then tc σ H3 fun w' H4=>r' y w' H4 Q else Q (.bl false) H3)
theorem Ci {op op':CmpOp} {r r':R2} (ho:OpR X (compareOp op) r) (ho':OpR X (compareOp op') r') (ha:PE X a ta) (hb:PE X b tb) (hc:PE X c tc)
  (hm:lastMarks [op,op'] [b,c]=false:=by with_unfolding_all rfl):PE X (.Compare a [op,op'] [b,c] pos) (GB r r' ta tb tc):=by
 intro pins s σ H Q I h;refine Compare_chain (thn (ha pins s σ H _ I h) fun v s1 rz2=>?_) hm;obtain ⟨x,H1,I1,r1,q1⟩:=rz2;refine chain_link (thn (hb pins s1 σ H1 _ I1 q1) fun u s2 rz2=>?_);obtain ⟨y,H2,I2,r2,q2⟩:=rz2;refine thn (ho pins s2 σ H2 x y v u _ I2 r1 r2 q2) fun d s3 rz2=>?_
 obtain ⟨z,H3,I3,r3,k,e,q3⟩:=rz2;subst e;cases r3;refine wpAny_truthy_bool ?_;cases k with
 | false=>exact ite_ff ⟨.bl false,H3,I3,rfl,q3⟩
 | true=>exact ite_tt (chain_last (thn (hc pins s3 σ H3 _ I3 q3) fun w' s4 qz2=>(by obtain ⟨z',H4,I4,r4,q4⟩:=qz2;exact ho' pins s4 σ H4 y z' u w' Q I4 r2 r4 q4)))
theorem u9:(sizeLine:Nat)<2 ^ 63:=by rw [sizeLine_eq];decide
theorem vals1 {x:V} {us:List Value} (r:Vals [x] us):∃ u,us=[u]/\RelV x u:=by
 cases r with
 | cons r1 r2=>cases r2;exact ⟨_,rfl,r1⟩
theorem vals2 {x y:V} {us:List Value} (r:Vals [x,y] us):∃ u w',us=[u,w']/\RelV x u/\RelV y w':=by
 cases r with
 | cons r1 r2 =>
  cases r2 with
  | cons r3 r4=>cases r4;exact ⟨_,_,rfl,r1,r3⟩
theorem Ad (hc:X.calm=true):kA X (.builtin "max") (fun xs H Q=>∃ i j,xs=[.int i,.int j]/\Q (.int (if j>i then j else i)) H):=by
 intro pins s σ H xs us Q I r h;obtain ⟨i,j,rfl,q⟩:=h;obtain ⟨u,w',rfl,⟨t,rfl⟩,⟨t',rfl⟩⟩:=vals2 r;refine max_two_ints (I.ok.hd hc) fun h' tk k=>⟨_,H,I.kept k,?_,q⟩
 by_cases hj:j>i
 ·rw [if_pos hj,if_pos hj];exact ⟨_,rfl⟩
 ·rw [if_neg hj,if_neg hj];exact ⟨_,rfl⟩
theorem zG (hc:X.calm=true):kA X (.builtin "min") (fun xs H Q=>∃ i j,xs=[.int i,.int j]/\Q (.int (if j<i then j else i)) H):=by
 intro pins s σ H xs us Q I r h;obtain ⟨i,j,rfl,q⟩:=h;obtain ⟨u,w',rfl,⟨t,rfl⟩,⟨t',rfl⟩⟩:=vals2 r;refine min_two_ints (I.ok.hd hc) fun h' tk k=>⟨_,H,I.kept k,?_,q⟩
 by_cases hj:j<i
 ·rw [if_pos hj,if_pos hj];exact ⟨_,rfl⟩
 ·rw [if_neg hj,if_neg hj];exact ⟨_,rfl⟩
theorem zV:kA X (.type "int") (fun xs H Q=>(∃ i,xs=[.int i]/\Q (.int i) H)\/∃ k,xs=[.bl k]/\Q (.int (if k then 1 else 0)) H):=by
 intro pins s σ H xs us Q I r h;rcases h with ⟨i,rfl,q⟩ | ⟨k,rfl,q⟩
 ·obtain ⟨u,rfl,t,rfl⟩:=vals1 r;exact call_int_int ⟨.int i,H,I,⟨_,rfl⟩,q⟩
 ·obtain ⟨u,rfl,r1⟩:=vals1 r;cases r1;exact call_int_bool ⟨.int (if k then 1 else 0),H,I.tok _,⟨_,rfl⟩,q⟩
end
structure xN (h:Heap) (x dx C:Addr) (mA:Str->Option Value):Prop where
 obj:h.get? x=some (PySem.W.instObj C dx)
 ns:h.Ns1 dx mA
 ne:dx≠x
theorem Aw {h:Heap} {dx:Addr} {mA:Str->Option Value} (n:h.Ns1 dx mA):∃ od,h.get? dx=some od/\∀ name,PySem.W.lookIn name od=some (mA name):=by
 obtain ⟨o,es,ep,ho,hd,hk,_,hm⟩:=n;refine ⟨o,ho,fun name=>?_⟩;have e:=hm name;unfold nsFind findBy at e;rw [<-Array.find?_toList] at e;unfold PySem.W.lookIn;rw [hd];dsimp only;split
 ·rename_i y q;rw [q] at e;exact congrArg some e
 ·rename_i q;rw [q] at e;have a:es.toList.any (·.refKey)=false:=by rw [List.any_eq_false];intro y hy;obtain ⟨z,t,hkey⟩:=hk y (Array.mem_toList_iff.mp hy);simp [DictEntry.refKey,hkey]
  have a':¬ es.toList.any (·.refKey)=true:=by rw [a];exact Bool.false_ne_true
  rw [if_neg a'];exact congrArg some e
theorem xN.look {h:Heap} {x dx C:Addr} {mA:Str->Option Value} (I:xN h x dx C mA):∃ od,PySem.W.InstAt h x (PySem.W.instObj C dx) C (some od)/\∀ name,PySem.W.lookIn name od=some (mA name) :=
 let ⟨od,ho,hl⟩:=Aw I.ns
 ⟨od,⟨I.obj,rfl,rfl,ho⟩,hl⟩
section
variable {prog:Program} {w:World} {A:Around} {E:Value->Shared->Prop} {s:Shared} {K:PySem.W.Frag} {x dx C f:Addr} {mA:Str->Option Value} {name:Str} {v:Value}
theorem get_map {expr:Bool} {Q:Value->Shared->Prop} (X:K.In s.heap) (I:xN s.heap x dx C mA) (hg:PySem.W.plainGet K C name=true) (hh:PySem.W.hasDictIn K C=true)
  (ha:PySem.W.findIn K (.ref C) name=some none) (hv:mA name=some v) (hv':PySem.W.handedIn v=true) (h:Q v { s with toks:=s.toks+1 }) :
  wpAny (model prog w) A (getAttr (.ref x) name expr) Q E s:=by
 obtain ⟨od,J,hl⟩:=I.look;exact PySem.W.get_value X J (PySem.W.plainGet_of hg).1 (PySem.W.findObj_own hh ha rfl (by rw [hl,hv])) hv' h
theorem Ca {pl:Sem Bool} {Q:Value×List Value->Shared->Prop} (X:K.In s.heap) (I:xN s.heap x dx C mA) (hg:PySem.W.plainGet K C name=true)
  (hf:PySem.W.findIn K (.ref C) name=some (some (.ref f))) (ht:PySem.W.isFn K (.ref f)=true) (hv:mA name=none) (h:Q (.ref f,[.ref x]) s) :
  wpAny (model prog w) A (getMethod (.ref x) name pl) Q E s:=by
 obtain ⟨od,J,hl⟩:=I.look;exact PySem.W.method_fn X J (PySem.W.plainGet_of hg).1 (PySem.W.plainGet_of hg).2 hf (beq_iff_eq.mp ht) (by show (PySem.W.lookIn name od).map (·.isSome)=some false;rw [hl,hv];rfl) h
theorem DW {ns:List Str} {Q:Unit->Shared->Prop} (X:K.In s.heap) (I:xN s.heap x dx C mA)
  (hs:PySem.W.findIn K (.ref C) "__setattr__"=some (some (.builtin "object.__setattr__"))) (hp:PySem.W.plainOver K C=true) (ht:PySem.W.takerIn K C name=some none) (hh:PySem.W.hasDictIn K C=true)
  (hw:PySem.Within mA ns) (hsz:ns.length<=sizeLine)
  (h:∀ h',xN h' x dx C (fun y=>if y=name then some v else mA y)->Heap.SameBut dx s.heap h'->Q () { s with heap:=h',toks:=s.toks+2 }) :
  wpAny (model prog w) A (setAttr (.ref x) name v) Q E s:=by
 obtain ⟨od,J,hl⟩:=I.look;refine PySem.W.set_plain X J hs (PySem.W.osa_open (s:={ s with toks:=s.toks+1 }) (r:=none) X J hp ht fun b=>?_);obtain ⟨cd,hc,hd'⟩:=PySem.W.any_some hh;have hx:s.heap.get? x=some ⟨.ref C,some dx,.plain,#[]⟩:=I.obj;refine wpAny_bind (wpAny_pure (wpAny_bind (wpAny_bind (wpAny_loadPart hx (wpAny_bind (PySem.W.Looks.here (s:={ s with toks:=s.toks+1 }) (PySem.W.looks_clsIn X hc) ?_))))));rw [hd'];refine wpAny_pure (a:=some dx) (wpAny_bind (wpAny_pure (wpAny_bind ?_)));refine wpAny_nsSet1 (s:={ s with toks:=s.toks+1 }) I.ns fun h' hn2 hs2=>?_
 obtain ⟨oD,esD,epD,hoD,hdD,hcD⟩:=hn2.count (PySem.Within.cons name v hw);refine wpAny_bind (wpAny_lookBehind hoD (by rw [hdD];exact pastItsLine_dict (Nat.le_trans hcD (by rw [List.length_cons];omega))) ?_);exact wpAny_pure (h _ ⟨(hs2.2 _ (Ne.symm I.ne)).trans I.obj,hn2,I.ne⟩ hs2)
theorem Cf {R:Result->Shared->Prop} {vs:List Value} {kw:List (Str×Value)} (X:K.In s.heap) (hm:PySem.W.makesIn K C=true)
  (hi:PySem.W.findIn K (.ref C) "__init__"=some (some (.ref f))) (hf:PySem.W.typeIn K (.ref f)=some (.type "function"))
  (h:codeAny (model prog w) (A.under (.builtin "type.__call__" ⟨.ref C::vs,kw⟩)) (.call (.ref f) ⟨.ref (s.heap.objs.size+1)::vs,kw⟩) (PySem.W.InitBack (s.heap.objs.size+1) R)
   { s with heap:=(s.heap.push PySem.W.emptyDict).push (PySem.W.instObj C s.heap.objs.size) }) :
  codeAny (model prog w) A (.call (.ref C) ⟨vs,kw⟩) R s:=by
 obtain ⟨hh,g,d,t,os⟩:=s;exact PySem.W.make_core (PySem.W.makes_of X hm) (PySem.W.looks_findIn X hi) (fun self=>PySem.W.bind_fn X self hf) (.inl rfl) h
end
def iO (f:Str) (v:V):List (Str×V)->List (Str×V)
 | []=>[(f,v)]
 | (g,x)::r=>if g=f then (g,v)::r else (g,x)::iO f v r
theorem j9 (f g:Str) (v:V):∀ fs:List (Str×V),(iO f v fs).lookup g=if g=f then some v else fs.lookup g
 | []=>by
  show List.lookup g [(f,v)]=_;by_cases h:g=f
  ·have hb:(g==f)=true:=beq_iff_eq.mpr h;simp only [List.lookup,hb,if_pos h]
  ·have hb:(g==f)=false:=beq_eq_false_iff_ne.mpr h;simp only [List.lookup,hb,if_neg h]
 | (k,x)::r=>by
  have ih:=j9 f g v r;rw [show iO f v ((k,x)::r)=(if k=f then (k,v)::r else (k,x)::iO f v r) from rfl];by_cases hk:k=f
  ·rw [if_pos hk];by_cases h:g=k
   ·have hb:(g==k)=true:=beq_iff_eq.mpr h;simp only [List.lookup,hb,if_pos (h.trans hk)]
   ·have hb:(g==k)=false:=beq_eq_false_iff_ne.mpr h;simp only [List.lookup,hb,if_neg (fun e:g=f=>h (e.trans hk.symm))]
  ·rw [if_neg hk];by_cases h:g=k
   ·have hb:(g==k)=true:=beq_iff_eq.mpr h;simp only [List.lookup,hb,if_neg (fun e:g=f=>hk (h.symm.trans e))]
   ·have hb:(g==k)=false:=beq_eq_false_iff_ne.mpr h;simp only [List.lookup,hb];exact ih
theorem nk (f:Str) (v:V):∀ fs:List (Str×V),f∈(iO f v fs).map (·.1)/\∀ g,g∈fs.map (·.1)->g∈(iO f v fs).map (·.1)
 | []=>⟨by simp [iO],fun g h=>by simp at h⟩
 | (k,x)::r=>by
  obtain ⟨i1,i2⟩:=nk f v r;rw [show iO f v ((k,x)::r)=(if k=f then (k,v)::r else (k,x)::iO f v r) from rfl];by_cases hk:k=f
  ·rw [if_pos hk];subst hk;exact ⟨by simp,fun g h=>by simpa using h⟩
  ·rw [if_neg hk];refine ⟨?_,fun g h=>?_⟩
   ·rw [List.map_cons];exact List.mem_cons_of_mem _ i1
   ·rw [List.map_cons] at h ⊢;rcases List.mem_cons.mp h with e | e
    ·exact List.mem_cons.mpr (.inl e)
    ·exact List.mem_cons_of_mem _ (i2 g e)
theorem om (f:Str) (v:V):∀ fs:List (Str×V),(iO f v fs).length<=fs.length+1
 | []=>by simp [iO]
 | (k,x)::r=>by
  have ih:=om f v r;rw [show iO f v ((k,x)::r)=(if k=f then (k,v)::r else (k,x)::iO f v r) from rfl];by_cases hk:k=f
  ·rw [if_pos hk,List.length_cons,List.length_cons];omega
  ·rw [if_neg hk,List.length_cons,List.length_cons];omega
theorem kS.some_of {v:V} {o:Option Value} (r:kS (some v) o):∃ u,o=some u/\RelV v u:=by
 cases o with
 | none=>exact (show False from r).elim
 | some u=>exact ⟨u,rfl,r⟩
theorem kS.none_of {o:Option Value} (r:kS none o):o=none:=by
 cases o with
 | none=>rfl
 | some u=>exact (show False from r).elim
theorem Av {v:V} {u:Value} (r:RelV v u):PySem.W.handedIn u=true:=by
 cases v with
 | non=>cases (show u=Value.none from r);rfl
 | bl b=>cases (show u=Value.bool b from r);rfl
 | int i=>obtain ⟨t,e⟩:=(show ∃ t,u=Value.int i t from r);cases e;rfl
 | str x=>obtain ⟨t,e⟩:=(show ∃ t,u=Value.str x t from r);cases e;rfl
 | byt b=>obtain ⟨t,e⟩:=(show ∃ t,u=Value.bytes b t from r);cases e;rfl
 | flt b=>obtain ⟨t,e⟩:=(show ∃ t,u=Value.float b t from r);cases e;rfl
 | ref a=>cases (show u=Value.ref a from r);rfl
 | ty n=>cases (show u=Value.type n from r);rfl
section
variable {P:Program} {w:World} {H H':Hp} {h h':Heap} {a C dx:Addr} {fs fs':List (Str×V)}
theorem uD (hok:HOk P w H h) (e:H a=some (.ins C dx fs)):∃ mA,xN h a dx C mA/\(∀ f,kS (fs.lookup f) (mA f))/\PySem.Within mA (fs.map (·.1))/\fs.length<=1000/\H dx=some (.own a):=by
 obtain ⟨d,z,ne,ob,mA,n,r,q⟩:=(show dD P w H h a (.ins C dx fs) from hok a _ e)
 exact ⟨mA,⟨ob,n,ne⟩,r,q,z,d⟩
end
structure Cls (K:PySem.W.Frag) (C:Addr):Prop where
 pg:PySem.W.plainGet K C Str.empty=true
 hd:PySem.W.hasDictIn K C=true
 po:PySem.W.plainOver K C=true
 sa:PySem.W.findIn K (.ref C) "__setattr__"=some (some (.builtin "object.__setattr__"))
theorem Cls.get {K:PySem.W.Frag} {C:Addr} (c:Cls K C) (f:Str):PySem.W.plainGet K C f=true:=c.pg
def dW (K:PySem.W.Frag) (C:Addr) (f:Str):Prop:=PySem.W.findIn K (.ref C) f=some none
theorem dW.taker {K:PySem.W.Frag} {C:Addr} {f:Str} (n:dW K C f):PySem.W.takerIn K C f=some none:=by unfold PySem.W.takerIn;rw [show PySem.W.findIn K (.ref C) f=some none from n];rfl
structure Meth (K:PySem.W.Frag) (C:Addr) (m:Str) (f:Addr):Prop where
 at_:PySem.W.findIn K (.ref C) m=some (some (.ref f))
 fn:PySem.W.isFn K (.ref f)=true
 kp:PySem.W.keepIn K (.ref f)=true
section
variable {X:Cx} {pins:List (Addr×Obj)} {σ:St} {H:Hp} {s:Shared} {a C dx:Addr} {fs:List (Str×V)} {f:Str} {v:V} {A:Around} {E:Value->Shared->Prop}
theorem qM {b:Bool} {Q:Value->Shared->Prop} (I:Inv X pins σ H s) (e:H a=some (.ins C dx fs)) (c:Cls X.K C) (n:dW X.K C f) (l:fs.lookup f=some v)
  (h:∀ u s',Inv X pins σ H s'->RelV v u->Q u s'):wpAny (model X.prog X.w) A (getAttr (.ref a) f b) Q E s:=by
 obtain ⟨mA,O,r,_,_,_⟩:=uD I.hok e;obtain ⟨u,hu,ru⟩:=kS.some_of (v:=v) (o:=mA f) (by rw [<-l];exact r f);exact get_map I.kIn O (c.get f) c.hd n hu (Av ru) (h u _ (I.tok _) ru)
theorem rB {m:Str} {g:Addr} {pl:Sem Bool} {Q:Value×List Value->Shared->Prop} (I:Inv X pins σ H s) (e:H a=some (.ins C dx fs)) (c:Cls X.K C) (k:Meth X.K C m g) (l:fs.lookup m=none)
  (h:Q (.ref g,[.ref a]) s):wpAny (model X.prog X.w) A (getMethod (.ref a) m pl) Q E s:=by
 obtain ⟨mA,O,r,_,_,_⟩:=uD I.hok e;have hn:mA m=none:=kS.none_of (by rw [<-l];exact r m);exact Ca I.kIn O (c.get m) k.at_ k.fn hn h
theorem rE {y:V} {u:Value} {Q:Unit->Shared->Prop} (I:Inv X pins σ H s) (e:H a=some (.ins C dx fs)) (c:Cls X.K C) (n:dW X.K C f) (hl:fs.length<1000) (ry:RelV y u)
  (h:∀ s',Inv X pins σ (upd H a (.ins C dx (iO f y fs))) s'->Q () s'):wpAny (model X.prog X.w) A (setAttr (.ref a) f u) Q E s:=by
 obtain ⟨mA,O,r,wi,_,ho⟩:=uD I.hok e;have hz:(fs.map (·.1)).length<=sizeLine:=by rw [List.length_map,sizeLine_eq];omega
 refine DW I.kIn O c.sa c.po n.taker c.hd wi hz fun h' O' sb=>h _ ?_
 have hd:∃ o,h'.get? dx=some o:=let ⟨o,_,_,e',_⟩:=O'.ns;⟨o,e'⟩;refine I.write (x:=a) (e:=dx) (by rw [e];exact True.intro) (.inr ho) (fun b q hb z=>(sb.2 b hb).trans z) hd ?_;refine ⟨by rw [aI O.ne];exact ho,?_,O.ne,O'.obj,_,O'.ns,fun g=>?_,fun g hg=>?_⟩
 ·have:=om f y fs;omega
 ·show kS ((iO f y fs).lookup g) (if g=f then some u else mA g);rw [j9];by_cases q:g=f
  ·rw [if_pos q,if_pos q];exact ry
  ·rw [if_neg q,if_neg q];exact r g
 ·by_cases q:g=f
  ·rw [q];exact (nk f y fs).1
  ·refine (nk f y fs).2 g (wi g fun z=>hg ?_);show (if g=f then some u else mA g)=none;rw [if_neg q];exact z
theorem Inv.made (I:Inv X pins σ H s):Inv X pins σ (upd (upd H s.heap.objs.size (.own (s.heap.objs.size+1))) (s.heap.objs.size+1) (.ins C s.heap.objs.size []))
  { s with heap:=(s.heap.push PySem.W.emptyDict).push (PySem.W.instObj C s.heap.objs.size) }:=by
 have e1:(s.heap.push PySem.W.emptyDict).get? s.heap.objs.size=some PySem.W.emptyDict:=Heap.get?_push_size s.heap rfl;have e2:((s.heap.push PySem.W.emptyDict).push (PySem.W.instObj C s.heap.objs.size)).get? (s.heap.objs.size+1)=some (PySem.W.instObj C s.heap.objs.size):=by
  have:=Heap.get?_push_size (s.heap.push PySem.W.emptyDict) (o:=PySem.W.instObj C s.heap.objs.size) rfl
  rwa [Heap.size_push] at this
 have e3:(s.heap.push PySem.W.emptyDict).Ns s.heap.objs.size (fun _=>none):=⟨PySem.W.emptyDict,#[],_,e1,rfl,(fun e he=>absurd he (by simp)),fun _=>rfl⟩
 have I1:=I.laid (a:=s.heap.objs.size) (o:=.own (s.heap.objs.size+1)) (h':=s.heap.push PySem.W.emptyDict) (t':=s.toks) (fun b u q=>Heap.get?_push_of_some _ q) (Nat.le_refl _) ⟨_,e1⟩;refine I1.laid (a:=s.heap.objs.size+1) (o:=.ins C s.heap.objs.size []) (t':=s.toks) (fun b u q=>Heap.get?_push_of_some _ q) (Nat.le_of_eq (Heap.size_push _ _)) ?_;have ne:s.heap.objs.size≠s.heap.objs.size+1:=Nat.ne_of_lt (Nat.lt_succ_self _);refine ⟨by rw [aI ne,aR],Nat.zero_le _,ne,e2,fun _=>none,(Heap.Ns1.of_empty e3).at fun o q=>Heap.get?_push_of_some _ q,fun _=>True.intro,fun y hy=>absurd rfl hy⟩
theorem EX {prog:Program} {w:World} {env:Env} {e:Expr} {f:Str} {pos:Pos} {s:Shared} {Q:Value->Shared->Prop} (hb:attributeBase e f env (eval e env)=eval e env)
  (h:wpAny (model prog w) A (eval e env) (fun o s₁=>wpAny (model prog w) A (getAttr o f true) Q E s₁) E s):wpAny (model prog w) A (eval (.Attribute e f pos) env) Q E s :=
 Attribute_any_ h (by rw [arm_eval_Attribute,hb])
end
def IY (K:PySem.W.Frag) (ta:TE) (f:Str):TE:=fun σ H Q=>ta σ H fun x H1=>∃ a C dx fs v,x=.ref a/\H1 a=some (.ins C dx fs)/\Cls K C/\dW K C f/\fs.lookup f=some v/\Q v H1
def Ju (K:PySem.W.Frag) (ta tv:TE) (f:Str):TS:=fun D σ H=>tv σ H fun y H1=>ta σ H1 fun x H2=>∃ a C dx fs,x=.ref a/\H2 a=some (.ins C dx fs)/\Cls K C/\dW K C f/\fs.length<1000 /\
 D.nx σ (upd H2 a (.ins C dx (iO f y fs)))
def Io (X:Cx) (op:Operator) (rd:V->V->Hp->VK->Prop):Prop :=
 ∀ (pins:List (Addr×Obj)) (s:Shared) (σ:St) (H:Hp) (x y:V) (u v:Value) (Q:VK),Inv X pins σ H s->RelV x u->RelV y v->rd x y H Q->wpAny (model X.prog X.w) X.A (inplaceOp op u v) (EP X pins σ Q) X.xe s
def DG (K:PySem.W.Frag) (ta tv:TE) (rd:V->V->Hp->VK->Prop) (f:Str):TS:=fun D σ H=>ta σ H fun x H1=>∃ a C dx fs v,x=.ref a/\H1 a=some (.ins C dx fs)/\Cls K C/\dW K C f/\fs.lookup f=some v /\
 tv σ H1 fun y H2=>rd v y H2 fun z H3=>∃ dx' fs',H3 a=some (.ins C dx' fs')/\fs'.length<1000/\D.nx σ (upd H3 a (.ins C dx' (iO f z fs')))
section
variable {X:Cx} {o e value:Expr} {f:Str} {pos pos' tpos:Pos} {ta tv:TE}
theorem GA (he:PE X e ta) (hb:attributeBase e f X.env (eval e X.env)=eval e X.env):PE X (.Attribute e f pos) (IY X.K ta f):=by intro pins s σ H Q I h;refine EX hb (thn (he pins s σ H _ I h) fun u s1 rz2=>?_);obtain ⟨x,H1,I1,rx,a,C,dx,fs,v,ex,ea,c,n,l,q⟩:=rz2;subst ex;obtain rfl:u=Value.ref a:=rx;exact qM I1 ea c n l fun u' s2 I2 ru=>⟨v,H1,I2,ru,q⟩
theorem kC (ha:PE X o ta) (hv:PE X value tv) (hs:swapsWith value (some (.Attribute o f pos')) pos.line X.env=pure false):PS X (.Assign [.Attribute o f pos'] value pos) (Ju X.K ta tv f):=by
 intro pins s σ H D I h;refine plainObj_wpAny_Assign_Attribute (thn (hv pins s σ H _ I h) fun u s1 rz2=>?_) hs;obtain ⟨y,H1,I1,ry,q⟩:=rz2;refine thn (ha pins s1 σ H1 _ I1 q) fun ov s2 rz2=>?_
 obtain ⟨x,H2,I2,rx,a,C,dx,fs,ex,ea,c,n,l,q2⟩:=rz2;subst ex;obtain rfl:ov=Value.ref a:=rx;exact rE I2 ea c n l ry fun s3 I3=>⟨σ,_,I3,q2⟩
theorem zP {op:Operator} {rd:V->V->Hp->VK->Prop} (ha:PE X o ta) (hv:PE X value tv) (hop:Io X op rd):PS X (.AugAssign (.Attribute o f tpos) op value pos) (DG X.K ta tv rd f):=by
 intro pins s σ H D I h;refine wpAny_AugAssign_AttributeAny (thn (ha pins s σ H _ I h) fun ov s1 rz2=>?_);obtain ⟨x,H1,I1,rx,a,C,dx,fs,v,ex,ea,c,n,l,q⟩:=rz2;subst ex;obtain rfl:ov=Value.ref a:=rx;refine qM I1 ea c n l fun u s2 I2 ru=>thn (hv pins s2 σ H1 _ I2 q) fun w3 s3 rz2=>?_
 obtain ⟨y,H2,I3,ry,q3⟩:=rz2;refine thn (hop pins s3 σ H2 v y u w3 _ I3 ru ry q3) fun w4 s4 rz2=>?_
 obtain ⟨z,H3,I4,rz,dx',fs',ea',l',q4⟩:=rz2;exact rE I4 ea' c n l' rz fun s5 I5=>⟨σ,_,I5,q4⟩
def IW:V->V->Hp->VK->Prop:=fun x y H Q=>∃ i j,x=.int i/\y=.int j/\Q (.int (i+j)) H
theorem FI:Io X .Add IW:=by
 rintro pins s σ H x y u v Q I rx ry ⟨i,j,rfl,rfl,q⟩
 obtain ⟨t,rfl⟩:=(show ∃ t,u=Value.int i t from rx)
 obtain ⟨t',rfl⟩:=(show ∃ t',v=Value.int j t' from ry)
 exact PyProof.Rows.iadd_int ⟨.int (i+j),H,I.tok _,⟨_,rfl⟩,q⟩
end
section
variable {X:Cx} {pins:List (Addr×Obj)} {σ:St} {H:Hp} {s:Shared} {A:Around} {E:Value->Shared->Prop} {Q:Value->Shared->Prop} {c:Value} {b:Bool}
inductive qW (K:PySem.W.Frag) (H:Hp):V->Value->Prop where
 | non:qW K H .non (.type "NoneType")
 | bl (x:Bool):qW K H (.bl x) (.type "bool")
 | int (i:Int):qW K H (.int i) (.type "int")
 | str (x:Str):qW K H (.str x) (.type "str")
 | flt (x:UInt64):qW K H (.flt x) (.type "float")
 | lst {a:Addr} {xs:List V} (e:H a=some (.lst xs)):qW K H (.ref a) (.type "list")
 | frz {a:Addr} {o:Obj} {xs:List V} (e:H a=some (.frz o (.lst xs))):qW K H (.ref a) (.type "list")
 | tup {a:Addr} {xs:List V} (e:H a=some (.tup xs)):qW K H (.ref a) (.type "tuple")
 | dK {a:Addr} {kvs:List (Key×V)} (e:H a=some (.dK kvs)):qW K H (.ref a) (.type "dict")
 | dT {a:Addr} {kvs:List (List Key×V)} (e:H a=some (.dT kvs)):qW K H (.ref a) (.type "dict")
 | ins {a C dx:Addr} {fs:List (Str×V)} (e:H a=some (.ins C dx fs)) (cl:Cls K C) (ha:PySem.W.findIn K (.ref C) "__class__"=some (some (.builtin "object.__class__")))
  (hn:PySem.W.specialIn K (.builtin "object.__class__") "__get__"=some (some (.builtin "getset_descriptor.__get__"))) (htk:PySem.W.takesIn K (.builtin "object.__class__")=some true)
  (hm:PySem.W.mroIn K C (.type "object")=some true):qW K H (.ref a) (.ref C)
end
structure cC (k:Nat) (A:Around):Prop where
 hd:A.handled=none
 dp:A.depth+3*k+5<recursionLimit
 un:A.units+16*k+200<cLine
theorem cC.mono {j k:Nat} {A:Around} (r:cC k A) (h:j<=k):cC j A:=⟨r.hd,by have:=r.dp;omega,by have:=r.un;omega⟩
theorem cC.deeper {k:Nat} {A:Around} (r:cC (k+1) A) (env:Env):cC k (A.deeper env) :=
 ⟨r.hd,by have:=r.dp;show A.depth+1+3*k+5<_;omega,by have:=r.un;show A.units+3+16*k+200<_;omega⟩
theorem cC.in1 {k:Nat} {A:Around} (r:cC (k+1) A):cC k A.in1 :=
 ⟨r.hd,by have:=r.dp;show A.depth+3*k+5<_;omega,by have:=r.un;show A.units+1+16*k+200<_;omega⟩
theorem yw {A:Around} {C:Addr} {us:List Value} {kw:List (Str×Value)}:(A.under (.builtin "type.__call__" ⟨.ref C::us,kw⟩)).depth=A.depth+1:=by first | rfl | simp [Around.under,Code.weight,Code.isCreation,Code.isGuard,Code.isCaller,Code.frames,Code.isFrame,guardIds]
theorem xm {A:Around} {C:Addr} {us:List Value} {kw:List (Str×Value)}:(A.under (.builtin "type.__call__" ⟨.ref C::us,kw⟩)).units=A.units+1:=by first | rfl | simp [Around.under,Code.cUnits,Code.frames,Code.isFrame]
theorem cC.make {k:Nat} {A:Around} (r:cC (k+1) A) (C:Addr) (us:List Value) (kw:List (Str×Value)):cC k (A.under (.builtin "type.__call__" ⟨.ref C::us,kw⟩)) :=
 ⟨r.hd,by have:=r.dp;rw [yw];omega,by have:=r.un;rw [xm];omega⟩
theorem cC.depth {k:Nat} {A:Around} (r:cC k A):A.depth<recursionLimit:=by have:=r.dp;omega
theorem cC.units {k:Nat} {A:Around} (r:cC k A):A.units+64<cLine:=by have:=r.un;omega
def F5:TA:=fun _ H Q=>Q [] H
def Fq (ta:TE) (tr:TA):TA:=fun σ H Q=>ta σ H fun x H1=>tr σ H1 fun xs H2=>Q (x::xs) H2
section
variable {X:Cx} {e:Expr} {es:List Expr} {te:TE} {t:TA} {pos:Pos}
theorem ip:PA X [] F5:=fun _ _ _ _ H Q I h=>Calls.spliced_nil ⟨[],H,I,.nil,h⟩
theorem eO (ha:PE X e te) (hr:PA X es t) (hs:starEach (e::es) X.env=(false,eval e X.env)::starEach es X.env:=by rfl):PA X (e::es) (Fq te t):=by intro pos pins s σ H Q I h;rw [hs];show wpAny _ _ (spliced ((false,eval e X.env)::backTo pos (starEach es X.env))) _ _ s;refine Calls.spliced_cons (thn (ha pins s σ H _ I h) fun u s1 rz2=>?_);obtain ⟨x,H1,I1,r1,q1⟩:=rz2;exact thn (hr pos pins s1 σ H1 _ I1 q1) fun us s2 qz2=>(by obtain ⟨xs,H2,I2,r2,q2⟩:=qz2;exact ⟨x::xs,H2,I2,.cons r1 r2,q2⟩)
def Jc (t:TA):TE:=fun σ H Q=>t σ H fun xs H1=>xs.length<=sizeLine/\∀ p,H1 p=none->Q (.ref p) (upd H1 p (.tup xs))
def Jh (t:TA):TE:=fun σ H Q=>t σ H fun xs H1=>xs.length<=sizeLine/\∀ p,H1 p=none->Q (.ref p) (upd H1 p (.lst xs))
theorem F9 {x1} (h:PA X es t):PE X (.Tuple es x1 pos) (Jc t):=by intro pins s σ H Q I hq;refine wpAny_Tuple_spliced (thn (h pos pins s σ H _ I hq) fun us s1 rz2=>?_);obtain ⟨xs,H1,I1,r,z,q⟩:=rz2;refine ⟨by rw [<-r.length];exact z,?_⟩;have hf:H1 s1.heap.objs.size=none:=I1.hok.fresh (Nat.le_refl _);refine ⟨.ref s1.heap.objs.size,upd H1 s1.heap.objs.size (.tup xs),I1.laid (t':=s1.toks) (fun b u e=>Heap.get?_push_of_some _ e) (Nat.le_refl _) ?_,rfl,q _ hf⟩;exact ⟨z,us,r,⟨_,Heap.get?_push_size _ rfl,rfl,rfl,_,rfl⟩⟩
theorem xv (h:PA X es t):PE X (.List es pos) (Jh t):=by intro pins s σ H Q I hq;refine wpAny_List_spliced (thn (h pos pins s σ H _ I hq) fun us s1 rz2=>?_);obtain ⟨xs,H1,I1,r,z,q⟩:=rz2;refine ⟨by rw [<-r.length];exact z,?_⟩;have hf:H1 s1.heap.objs.size=none:=I1.hok.fresh (Nat.le_refl _);refine ⟨.ref s1.heap.objs.size,upd H1 s1.heap.objs.size (.lst xs),I1.laid (t':=s1.toks) (fun b u e=>Heap.get?_push_of_some _ e) (Nat.le_refl _) ?_,rfl,q _ hf⟩;exact ⟨z,us,0,r,Heap.get?_push_size _ rfl⟩
end
abbrev Sp:=List V->Hp->VK->XK->Prop
abbrev CXT:=List Env->Hp->Shared->XK->Value->Shared->Prop
structure u6 (P:Program) (w:World) (K:PySem.W.Frag) (mg:Str->Option Value) (base:Heap) (A:Around) (outer:List Env) (s:Shared) (H:Hp):Prop where
 frames:A.frames=some outer
 mod:Mod K mg base
 bs:∀ b o,base.get? b=some o->s.heap.get? b=some o/\H b=none
 bsz:base.objs.size<=s.heap.objs.size
 funs:s.heap.FunFrames base outer
 frf:∀ b∈frs outer,H b=none
 hok:HOk P w H s.heap
 bare:AllBare s.gens
 tab:∀ P q,TabOf K P q->H P=some (.tbl q)
def CE (outer:List Env) (P:Program) (w:World) (H:Hp) (s:Shared) (Q:VK) (u:Value) (s':Shared):Prop :=
 ∃ v H',s'.os=s.os/\AllBare s'.gens/\Un (frs outer) [] H H' s.heap s'.heap/\HOk P w H' s'.heap/\RelV v u/\Q v H'
def CR (CX:CXT) (outer:List Env) (P:Program) (w:World) (H:Hp) (s:Shared) (Q:VK) (E:XK) (r:Result) (s':Shared):Prop :=
 match r with
 | .ok (.ret u)=>CE outer P w H s Q u s'
 | .ok _=>False
 | .error e=>CX outer H s E e s'
structure hU (P:Program) (w:World) (K:PySem.W.Frag) (mg:Str->Option Value) (base:Heap) (CX:CXT) (k:Nat) (f:Addr) (fd:FuncData) (ps:List Str) (sp:Sp):Prop where
 len:∀ vs H Q E,sp vs H Q E->vs.length=ps.length
 run:∀ (A:Around) (outer:List Env) (s:Shared) (H:Hp) (args:Args) (us:List Value) (vs:List V) (Q:VK) (E:XK),cC k A->u6 P w K mg base A outer s H->BindsTo s fd args (ps.zip us)->Vals vs us->sp vs H Q E ->
  codeAny (model P w) A (.call (.ref f) args) (CR CX outer P w H s Q E) s
theorem u6.make {P:Program} {w:World} {K:PySem.W.Frag} {mg:Str->Option Value} {base:Heap} {A:Around} {outer:List Env} {s:Shared} {H:Hp} (e:u6 P w K mg base A outer s H) (C:Addr) (us:List Value) (kw:List (Str×Value)) :
 u6 P w K mg base (A.under (.builtin "type.__call__" ⟨.ref C::us,kw⟩)) outer s H:=⟨by first | exact e.frames | (simpa [Around.under,Code.envs,Code.isFrame,pushEnvs] using e.frames),e.mod,e.bs,e.bsz,e.funs,e.frf,e.hok,e.bare,e.tab⟩
section
variable {X:Cx} {pins:List (Addr×Obj)} {σ:St} {H:Hp} {s s':Shared}
theorem Inv.env0 (I:Inv X pins σ H s):u6 X.prog X.w X.K X.mg X.base X.A X.stack s H :=
 ⟨I.ok.frames,I.ok.mod,I.bs,Nat.le_trans I.ok.bsz I.sz,I.stack,I.stkFree,I.hok,I.bare,I.tab⟩
theorem Inv.after {Q:VK} {u:Value} (I:Inv X pins σ H s) (h:CE X.stack X.prog X.w H s Q u s'):EP X pins σ Q u s':=by obtain ⟨v,H',os,bare,un,hok,r,q⟩:=h;obtain ⟨hh,g,d,t,os'⟩:=s';obtain rfl:os'=s.os:=os;exact ⟨v,H',I.call (h':=hh) (g':=g) (d':=d) (t':=t) (ch:=[]) un hok bare (fun b z=>absurd z (by simp)),r,q⟩
end
def HK (sp:Sp) (dvs:List V) (E:XK) (t:TA):TE:=fun σ H Q=>t σ H fun vs H1=>sp (vs++dvs) H1 Q E
def zA (C:Addr) (m:Str) (sp:Sp) (dvs:List V) (E:XK) (ta:TE) (t:TA):TE:=fun σ H Q=>ta σ H fun x H1=>∃ a dx fs,x=.ref a/\H1 a=some (.ins C dx fs)/\fs.lookup m=none /\
 t σ H1 fun vs H2=>sp (x::(vs++dvs)) H2 Q E
def Ij (C:Addr) (sp:Sp) (dvs:List V) (E:XK) (t:TA):TE:=fun σ H Q=>t σ H fun vs H1=>∀ x dx,H1 x=none->H1 dx=none->dx≠x ->
 sp (.ref x::(vs++dvs)) (upd (upd H1 dx (.own x)) x (.ins C dx [])) (fun v H2=>v=.non/\Q (.ref x) H2) E
def Binds (K:PySem.W.Frag) (fd:FuncData) (ps:List Str) (ds:List Value):Prop :=
 ∀ (s:Shared) (us:List Value),K.In s.heap->(us++ds).length=ps.length->BindsTo s fd ⟨us,[]⟩ (ps.zip (us++ds))
theorem Binds.all {K:PySem.W.Frag} {fd:FuncData} {ps:List Str} (h:∀ us:List Value,us.length=ps.length->bindArgs fd ⟨us,[]⟩=pure (ps.zip us)):Binds K fd ps []:=fun s us _ hl=>by rw [List.append_nil] at hl ⊢;exact .of_eq (h us hl)
def Passes (CX:CXT) (X:Cx) (E:XK):Prop:=∀ (pins:List (Addr×Obj)) (σ:St) (H:Hp) (s:Shared) (e:Value) (s':Shared),Inv X pins σ H s->CX X.stack H s E e s'->X.xe e s'
section
variable {X:Cx} {CX:CXT} {k:Nat} {f C:Addr} {fd:FuncData} {ps:List Str} {sp:Sp} {dvs:List V} {ds:List Value} {E:XK} {x m:Str} {p pos apos:Pos} {e o:Expr} {es:List Expr} {ta:TE} {t:TA}
theorem ym {pins:List (Addr×Obj)} {σ:St} {H:Hp} {s:Shared} {Q:VK} {us:List Value} {vs:List V} (F:hU X.prog X.w X.K X.mg X.base CX k f fd ps sp) (hr:cC k X.A) (hb:Binds X.K fd ps ds) (hd:Vals dvs ds) (hx:Passes CX X E)
  (I:Inv X pins σ H s) (r:Vals vs us) (h:sp (vs++dvs) H Q E):wpAny (model X.prog X.w) X.A (call (.ref f) us) (EP X pins σ Q) X.xe s:=by
 have r2:Vals (vs++dvs) (us++ds):=r.append hd;have hl:(us++ds).length=ps.length:=by rw [<-r2.length];exact F.len _ _ _ _ h
 refine wpAny_call (codeAny_mono (F.run X.A X.stack s H ⟨us,[]⟩ (us++ds) (vs++dvs) Q E hr I.env0 (hb s us I.kIn hl) r2 h) fun r s' hq=>?_);cases r with
 | error e=>exact hx pins σ H s e s' I hq
 | ok fl =>
  cases fl with
  | ret u=>exact I.after hq
  | next=>exact False.elim hq
  | brk=>exact False.elim hq
  | cont=>exact False.elim hq
theorem yQ (F:hU X.prog X.w X.K X.mg X.base CX k f fd ps sp) (hr:cC k X.A) (hg:Gl X x) (hm:X.mg x=some (.ref f)) (hk:PySem.W.keepIn X.K (.ref f)=true) (hb:Binds X.K fd ps ds) (hd:Vals dvs ds) (hx:Passes CX X E)
  (ha:PA X (e::es) t) (hdb:(x==("__debug__":Str))=false:=by decide) (he:starEach (e::es) X.env=(false,eval e X.env)::starEach es X.env:=by rfl) (hpl:(backTo pos (starEach es X.env)).any (·.1)=false:=by rfl) :
  PE X (.Call (.Name x p) (e::es) [] pos) (HK sp dvs E t):=by
 intro pins s σ H Q I h;refine wpAny_Call_Name_kw (pj I hg hm ?_ hdb);refine PySem.W.callWith_K (h₀:=X.base) I.ok.mod.kin hk (thn (ha pos pins s σ H _ I h) fun us s1 rz2=>?_) he hpl;obtain ⟨vs,H1,I1,r,q⟩:=rz2;refine ⟨I1.kIn,?_⟩;exact ym F hr hb hd hx I1 r q
theorem EK {pl:Sem Bool} (he:PE X o ta) (c:Cls X.K C) (hm:Meth X.K C m f) (F:hU X.prog X.w X.K X.mg X.base CX k f fd ps sp) (hr:cC k X.A) (hb:Binds X.K fd ps ds) (hd:Vals dvs ds) (hx:Passes CX X E) (ha:PA X (e::es) t)
  (hst:starEach (e::es) X.env=(false,eval e X.env)::starEach es X.env:=by rfl) (hpl:(backTo pos (starEach es X.env)).any (·.1)=false:=by rfl)
  (ht:eval (.Call (.Attribute o m apos) (e::es) [] pos) X.env=(do
   let ov <-eval o X.env
   standAt apos.atName
   let (f,first) <-holding [ov] (getMethod ov m pl)
   callWith pos f first (backTo pos (starEach (e::es) X.env)) (backToKw pos (keywordEach [] X.env))):=by rfl) :
  PE X (.Call (.Attribute o m apos) (e::es) [] pos) (zA C m sp dvs E ta t):=by
 intro pins s σ H Q I h;refine PySem.W.methodCall_KW (pl:=pl) (thn (he pins s σ H _ I h) fun u s1 rz2=>?_) ht;obtain ⟨x,H1,I1,rx,a,dx,fs,ex,ea,l,q⟩:=rz2;subst ex;obtain rfl:u=Value.ref a:=rx;refine rB I1 ea c hm l ?_;refine PySem.W.callWith_K (first:=[.ref a]) (h₀:=X.base) I.ok.mod.kin hm.kp (thn (ha pos pins s1 σ H1 _ I1 q) fun us s2 rz2=>?_) hst hpl;obtain ⟨vs,H2,I2,r,q2⟩:=rz2;refine ⟨I2.kIn,?_⟩;exact ym (us:=.ref a::us) (vs:=.ref a::vs) F hr hb hd hx I2 (.cons rfl r) q2
theorem wJ {pl:Sem Bool} (he:PE X o ta) (c:Cls X.K C) (hm:Meth X.K C m f) (F:hU X.prog X.w X.K X.mg X.base CX k f fd ps sp) (hr:cC k X.A) (hb:Binds X.K fd ps ds) (hd:Vals dvs ds) (hx:Passes CX X E)
  (ht:eval (.Call (.Attribute o m apos) [] [] pos) X.env=(do
   let ov <-eval o X.env
   standAt apos.atName
   let (f,first) <-holding [ov] (getMethod ov m pl)
   callWith pos f first (backTo pos (starEach [] X.env)) (backToKw pos (keywordEach [] X.env))):=by rfl) :
  PE X (.Call (.Attribute o m apos) [] [] pos) (zA C m sp dvs E ta F5):=by
 intro pins s σ H Q I h;refine PySem.W.methodCall_KW (pl:=pl) (thn (he pins s σ H _ I h) fun u s1 rz2=>?_) ht;obtain ⟨x,H1,I1,rx,a,dx,fs,ex,ea,l,q⟩:=rz2;subst ex;obtain rfl:u=Value.ref a:=rx;refine rB I1 ea c hm l ?_;exact PySem.W.callWith_K0 (first:=[.ref a]) I1.kIn hm.kp (ym (us:=[.ref a]) (vs:=[.ref a]) F hr hb hd hx I1 (.cons rfl .nil) q)
structure Mk (K:PySem.W.Frag) (C f:Addr):Prop where
 makes:PySem.W.makesIn K C=true
 init:PySem.W.findIn K (.ref C) "__init__"=some (some (.ref f))
 fn:PySem.W.isFn K (.ref f)=true
 kp:PySem.W.keepIn K (.ref C)=true
theorem Bl {pins:List (Addr×Obj)} {σ:St} {H:Hp} {s:Shared} {Q:VK} {us:List Value} {vs:List V} (M:Mk X.K C f) (F:hU X.prog X.w X.K X.mg X.base CX k f fd ps sp) (hr:cC (k+1) X.A) (hb:Binds X.K fd ps ds) (hd:Vals dvs ds)
  (hx:Passes CX X E) (I:Inv X pins σ H s) (r:Vals vs us)
  (h:∀ x dx,H x=none->H dx=none->dx≠x->sp (.ref x::(vs++dvs)) (upd (upd H dx (.own x)) x (.ins C dx [])) (fun v H2=>v=.non/\Q (.ref x) H2) E) :
  wpAny (model X.prog X.w) X.A (call (.ref C) us) (EP X pins σ Q) X.xe s:=by
 have hq:=h (s.heap.objs.size+1) s.heap.objs.size (I.hok.fresh (Nat.le_succ _)) (I.hok.fresh (Nat.le_refl _)) (Nat.ne_of_lt (Nat.lt_succ_self _));have I2:=Inv.made (C:=C) I;have r2:Vals (V.ref (s.heap.objs.size+1)::(vs++dvs)) (Value.ref (s.heap.objs.size+1)::(us++ds)):=.cons rfl (r.append hd);have hl:(Value.ref (s.heap.objs.size+1)::us++ds).length=ps.length:=by have e:=r2.length;rw [F.len _ _ _ _ hq] at e;exact e.symm
 refine wpAny_call (Cf (f:=f) I.kIn M.makes M.init (beq_iff_eq.mp M.fn) (codeAny_mono (F.run _ X.stack _ _ ⟨Value.ref (s.heap.objs.size+1)::us,[]⟩ (Value.ref (s.heap.objs.size+1)::(us++ds)) _ _ E (hr.make C us [])
  (I2.env0.make C us []) (hb _ (Value.ref (s.heap.objs.size+1)::us) I2.kIn hl) r2 hq) fun r s' hq'=>?_))
 cases r with
 | error e=>exact hx pins σ _ _ e s' I2 hq'
 | ok fl =>
  cases fl with
  | ret u =>obtain ⟨v,H',I3,rv,ev,q3⟩:=I2.after hq';subst ev;exact ⟨rv,⟨V.ref (s.heap.objs.size+1),H',I3,rfl,q3⟩⟩
  | next=>exact False.elim hq'
  | brk=>exact False.elim hq'
  | cont=>exact False.elim hq'
theorem DS (M:Mk X.K C f) (F:hU X.prog X.w X.K X.mg X.base CX k f fd ps sp) (hr:cC (k+1) X.A) (hg:Gl X x) (hm:X.mg x=some (.ref C)) (hb:Binds X.K fd ps ds) (hd:Vals dvs ds) (hx:Passes CX X E)
  (ha:PA X (e::es) t) (hdb:(x==("__debug__":Str))=false:=by decide) (he:starEach (e::es) X.env=(false,eval e X.env)::starEach es X.env:=by rfl) (hpl:(backTo pos (starEach es X.env)).any (·.1)=false:=by rfl) :
  PE X (.Call (.Name x p) (e::es) [] pos) (Ij C sp dvs E t):=by
 intro pins s σ H Q I h;refine wpAny_Call_Name_kw (pj I hg hm ?_ hdb);refine PySem.W.callWith_K (h₀:=X.base) I.ok.mod.kin M.kp (thn (ha pos pins s σ H _ I h) fun us s1 rz2=>?_) he hpl;obtain ⟨vs,H1,I1,r,q⟩:=rz2;refine ⟨I1.kIn,?_⟩;exact Bl M F hr hb hd hx I1 r q
end
def PK (X:Cx) (kws:List Keyword) (t:TA):Prop :=
 ∀ (pos:Pos) (pins:List (Addr×Obj)) (s:Shared) (σ:St) (H:Hp) (Q:List V->Hp->Prop),Inv X pins σ H s->t σ H Q->wpAny (model X.prog X.w) X.A (evalAll ((backToKw pos (keywordEach kws X.env)).map (·.2))) (AP X pins σ Q) X.xe s
section
variable {X:Cx} {CX:CXT} {k:Nat} {f C:Addr} {fd:FuncData} {ps ks:List Str} {sp:Sp} {E:XK} {x m:Str} {p pos apos kpos:Pos} {e o:Expr} {es:List Expr} {kws:List Keyword} {te ta:TE} {t tk:TA} {nm:Option Str}
theorem G3:PK X [] F5:=fun _ _ _ _ H Q I h=>wpAny_evalAll_nil ⟨[],H,I,.nil,h⟩
theorem Dx (ha:PE X e te) (hr:PK X kws t):PK X (⟨nm,e,kpos⟩::kws) (Fq te t):=by intro pos pins s σ H Q I h;show wpAny _ _ (evalAll ((do let v <-eval e X.env;standAt pos;pure v)::(backToKw pos (keywordEach kws X.env)).map (·.2))) _ _ s;refine wpAny_evalAll_cons (wpAny_bind (thn (ha pins s σ H _ I h) fun u s1 rz2=>?_));obtain ⟨x,H1,I1,r1,q1⟩:=rz2;refine wpAny_bind (wpAny_standAt (wpAny_pure ?_));exact thn (hr pos pins s1 σ H1 _ I1 q1) fun us s2 qz2=>(by obtain ⟨xs,H2,I2,r2,q2⟩:=qz2;exact ⟨x::xs,H2,I2,.cons r1 r2,q2⟩)
variable {g:List Value->List Value->List Value} {gV:List V->List V->List V}
end
structure a9 (N P:List Str) (sc:Scope):Prop where
 kind:sc.kind=.function
 co:sc.isCoroutine=false
 gen:sc.isGenerator=false
 nd:N.Nodup
 pre:N.take P.length=P
 par:∀ x∈P,sc.names.lookup x=some .local\/sc.names.lookup x=some .cell
 nofree:∀ y∈sc.names,y.2≠.free
theorem sE {kindOf:Str->Option NameKind} {x:Str}:∀ {binds:List (Str×Value)} {m:Str->Option Value},(∀ v,(x,v)∉binds)->bindL kindOf binds m x=m x
 | [],_,_=>rfl
 | (n,v)::r,m,h=>by
  unfold bindL;rw [sE fun w hw=>h w (List.mem_cons_of_mem _ hw)];split
  ·have:x≠n:=by rintro rfl;exact h v List.mem_cons_self
   simp [this]
  ·rfl
theorem sI {kindOf:Str->Option NameKind} {x:Str}:∀ {binds:List (Str×Value)} {m:Str->Option Value},(∀ v,(x,v)∉binds)->bindC kindOf binds m x=m x
 | [],_,_=>rfl
 | (n,v)::r,m,h=>by
  unfold bindC;rw [sI fun w hw=>h w (List.mem_cons_of_mem _ hw)];split
  ·rfl
  ·have:x≠n:=by rintro rfl;exact h v List.mem_cons_self
   simp [this]
theorem sy {kindOf:Str->Option NameKind} {x:Str} {v:Value}:∀ {P:List Str} {vs:List Value} {i:Nat} {m:Str->Option Value},P.Nodup->P[i]?=some x->vs[i]?=some v->kindOf x=some .local ->
  bindL kindOf (P.zip vs) m x=some v
 | [],_,_,_,_,h,_,_=>by simp at h
 | _::_,[],_,_,_,_,h,_=>by simp at h
 | p::P,w::vs,0,m,nd,h1,h2,hk=>by simp at h1 h2;subst h1;subst h2;show bindL kindOf ((p,w)::P.zip vs) m p=_;unfold bindL;rw [sE fun v hv=>(List.nodup_cons.mp nd).1 (List.of_mem_zip hv).1,if_pos hk];simp
 | p::P,w::vs,i+1,m,nd,h1,h2,hk=>by show bindL kindOf ((p,w)::P.zip vs) m x=_;unfold bindL;exact sy (i:=i) (List.nodup_cons.mp nd).2 (by simpa using h1) (by simpa using h2) hk
theorem tV {kindOf:Str->Option NameKind} {x:Str} {v:Value}:∀ {P:List Str} {vs:List Value} {i:Nat} {m:Str->Option Value},P.Nodup->P[i]?=some x->vs[i]?=some v->kindOf x≠some .local ->
  bindC kindOf (P.zip vs) m x=some v
 | [],_,_,_,_,h,_,_=>by simp at h
 | _::_,[],_,_,_,_,h,_=>by simp at h
 | p::P,w::vs,0,m,nd,h1,h2,hk=>by simp at h1 h2;subst h1;subst h2;show bindC kindOf ((p,w)::P.zip vs) m p=_;unfold bindC;rw [sI fun v hv=>(List.nodup_cons.mp nd).1 (List.of_mem_zip hv).1,if_neg hk];simp
 | p::P,w::vs,i+1,m,nd,h1,h2,hk=>by show bindC kindOf ((p,w)::P.zip vs) m x=_;unfold bindC;exact tV (i:=i) (List.nodup_cons.mp nd).2 (by simpa using h1) (by simpa using h2) hk
def start (N:List Str) (vs:List V):St:=vs.map some++List.replicate (N.length-vs.length) none
def d6 (CX:CXT) (P:Program) (w:World) (K:PySem.W.Frag) (mg:Str->Option Value) (base:Heap) (N:List Str) (qual:Str) (scope:Scope) (f:Addr) (cd:Value) (A:Around) (outer:List Env) (s:Shared) (H:Hp) (E:XK):Cx where
 prog:=P
 w:=w
 K:=K
 mg:=mg
 base:=base
 A:=A.deeper (envOfC qual scope s.heap.objs.size f cd)
 N:=N
 s₀:=s
 H₀:=H
 env:=envOfC qual scope s.heap.objs.size f cd
 outer:=outer
 stack:=envOfC qual scope s.heap.objs.size f cd::outer
 ex:=[]
 calm:=true
 fn:=fun _=>true
 pn:=[]
 xe:=fun e s'=>wpAny (model P w) (A.deeper (envOfC qual scope s.heap.objs.size f cd)) (leaving (envOfC qual scope s.heap.objs.size f cd) e) (fun _ s''=>CX outer H s E e s'') (fun e' s''=>CX outer H s E e' s'') s'
theorem pK {sc:Scope} {n:Nat} {x:Str} (h:sc.names.lookup x=some .cell):∃ c,(cellsFrom n sc.names []).lookup x=some c:=by have q:=PySem.W.cellsFrom_some sc.names n [] (.inl h);exact Option.isSome_iff_exists.mp q
theorem zE {CX:CXT} {P:Program} {w:World} {K:PySem.W.Frag} {mg:Str->Option Value} {base:Heap} {N ps:List Str} {qual:Str} {scope:Scope} {f:Addr} {cd:Value} {A:Around} {outer:List Env} {s s1:Shared} {H:Hp} {E:XK} {us:List Value} {vs:List V}
  (S:a9 N ps scope) (hd:A.handled=none) (e0:u6 P w K mg base A outer s H) (hl:vs.length=ps.length) (r:Vals vs us)
  (x:InCallC s s.heap.objs.size (bindL (envOfC qual scope s.heap.objs.size f cd).kindOf (ps.zip us) fun _=>none) (cellsFrom (s.heap.objs.size+1) scope.names []) (bindC (envOfC qual scope s.heap.objs.size f cd).kindOf (ps.zip us) fun _=>none) s1) :
  Inv (d6 CX P w K mg base N qual scope f cd A outer s H E) [] (start N vs) H s1:=by
 have hpl:ps.length<=N.length:=by have:=congrArg List.length S.pre;rw [List.length_take] at this;omega
 obtain ⟨h1,tk,rfl,hk⟩:=x.done;have noA:∀ b:Addr,b∉(d6 CX P w K mg base N qual scope f cd A outer s H E).ex:=fun b z=>absurd (show b∈([]:List Addr) from z) (by simp)
 refine ⟨⟨e0.mod,S.kind,rfl,rfl,Nat.le_refl _,fun y z c h1 h2=>?_,fun y hy=>?_,fun y c _ h=>?_,fun _=>hd,Around.frames_deeper e0.frames,.inr ⟨rfl,rfl⟩,fun b z=>absurd z (noA b),e0.bs,e0.bsz,fun b _ _=>noA b,fun b z=>absurd z (noA b),e0.funs,e0.frf⟩,
  rfl,e0.bare,Un.kept hk,⟨_,x.toInCall.ns,fun i y v h1 h2 h3=>?_⟩,fun y c h=>⟨_,x.cell y c h⟩,e0.hok.fresh (Nat.le_refl _),fun y c h=>?_,fun p hp=>absurd (show p∈([]:List (Addr×Obj)) from hp) (by simp),e0.hok.kept hk,?_,e0.tab⟩
 ·exact name_of_addr x.apart (PySem.mem_of_lookup h1) (PySem.mem_of_lookup h2)
 ·have hy:scope.names.lookup y=some .cell\/scope.names.lookup y=some .free:=hy;rcases hy with hy | hy
  ·exact pK hy
  ·exact absurd rfl (S.nofree _ (PySem.mem_of_lookup hy))
 ·exact Nat.le_of_lt (x.above y c (PySem.mem_of_lookup h))
 ·have hi:i<vs.length:=by
   unfold start at h2;by_cases hi:i<vs.length
   ·exact hi
   ·rw [List.getElem?_append_right (by simpa using hi)] at h2;rw [List.getElem?_replicate] at h2;split at h2 <;> cases h2
  have ha:vs[i]?=some v:=by
   unfold start at h2;rw [List.getElem?_append_left (by simpa using hi),List.getElem?_map] at h2;cases e:vs[i]? with
   | none=>rw [e] at h2;cases h2
   | some a=>rw [e] at h2;cases h2;rfl
  obtain ⟨u,hu,rv⟩:=r.get ha;have hp:ps[i]?=some y:=by rw [<-S.pre,List.getElem?_take_of_lt (by omega)];exact h1
  have ndP:ps.Nodup:=by rw [<-S.pre];exact S.nd.sublist (List.take_sublist _ _)
  refine ⟨u,rv,?_⟩;rcases S.par y (List.mem_of_getElem? hp) with k | k
  ·exact .inl ⟨k,sy ndP hp hu k⟩
  ·obtain ⟨c,e⟩:=pK (n:=s.heap.objs.size+1) k;refine .inr ⟨.inl k,c,e,?_⟩;have q:=x.cell y c e;rw [tV ndP hp hu (by show scope.names.lookup y≠_;rw [k];decide)] at q;exact q
 ·exact e0.hok.fresh (Nat.le_of_lt (x.above y c (PySem.mem_of_lookup h)))
 ·unfold start;show _=N.length;rw [List.length_append,List.length_map,List.length_replicate];omega
theorem Cc {CX:CXT} {P:Program} {w:World} {K:PySem.W.Frag} {mg:Str->Option Value} {base:Heap} {k:Nat} {f:Addr} {name qual:Str} {params:Arguments} {body:List Stmt} {scope:Scope} {dV kV doc pm cdv ct oc:Value} {an od:Option Addr}
  {osl:Array (Option Value)} {N ps:List Str} {sp:Sp} (lk:K.lookup f=some ⟨oc,od,.func (PySem.W.fnOf name qual params body scope dV kV doc pm an cdv ct),osl⟩) (hcd:PySem.W.codeIn K cdv qual=true) (S:a9 N ps scope)
  (len:∀ vs H Q E,sp vs H Q E->vs.length=ps.length)
  (hbody:∀ (A:Around) (outer:List Env) (s:Shared) (H:Hp) (vs:List V) (Q:VK) (E:XK),cC k (A.deeper (envOfC qual scope s.heap.objs.size f cdv))->sp vs H Q E ->
   ∃ t,PSs (d6 CX P w K mg base N qual scope f cdv A outer s H E) body t/\t { nx:=fun _ H'=>Q .non H',rt:=Q } (start N vs) H) :
  hU P w K mg base CX (k+1) f (PySem.W.fnOf name qual params body scope dV kV doc pm an cdv ct) ps sp:=by
 refine ⟨len,fun A outer s H args us vs Q E hr e0 hb r hsp=>?_⟩;have hl:=len _ _ _ _ hsp;have KX:K.In s.heap:=e0.mod.kin.keeps fun b o e=>(e0.bs b o e).1
 have lim:s.heap.NoLimit:=e0.mod.nolimit.keeps fun b o e=>(e0.bs b o e).1
 have hkind:∀ y∈ps.zip us,scope.names.lookup y.1=some .local\/(scope.names.lookup y.1=some .cell/\((cellsFrom (s.heap.objs.size+1) scope.names []).lookup y.1).isSome=true):=fun pz0 hy=>by
  obtain ⟨n,v⟩:=pz0;rcases S.par n (List.of_mem_zip hy).1 with q | q
  ·exact .inl q
  ·exact .inr ⟨q,PySem.W.cellsFrom_some _ _ _ (.inl q)⟩
 refine codeAny_call_function hr.depth (KX _ _ lk) rfl S.co S.gen rfl (PySem.W.codeRec_of KX hcd) (hb _ _ _ _ ?_);refine wpAny_newFunctionEnv_cells S.kind hkind fun env he s1 x=>?_
 subst he;refine ⟨lim.keeps x.toInCall.keep,codeAny_func ?_⟩;obtain ⟨t,ht,hq⟩:=hbody A outer s H vs Q E (hr.deeper _) hsp;have I:Inv (d6 CX P w K mg base N qual scope f cdv A outer s H E) [] (start N vs) H s1:=zE S hr.hd e0 hl r x;refine wpAny_mono (ht [] s1 (start N vs) H _ I hq) (fun fl s' hs=>?_) fun e s' hs=>hs
 have fin:∀ {σ':St} {H':Hp} {v:V} {u:Value},Inv (d6 CX P w K mg base N qual scope f cdv A outer s H E) [] σ' H' s'->RelV v u->Q v H'->CE outer P w H s Q u s' :=
  fun {σ' H' v u} J rv q=>⟨v,H',J.os,J.bare,J.base,J.hok,rv,q⟩
 cases fl with
 | ret u =>obtain ⟨v,σ',H',J,rv,q⟩:=hs;exact fin J rv q
 | next =>obtain ⟨σ',H',J,q⟩:=hs;exact fin (v:=V.non) (u:=Value.none) J rfl q
 | brk =>obtain ⟨_,_,_,q⟩:=hs;exact False.elim q
 | cont =>obtain ⟨_,_,_,q⟩:=hs;exact False.elim q
section
variable {X:Cx} {x:Str} {p pos:Pos} {e:Expr} {es:List Expr} {t:TA} {id T:String} {r:List V->Hp->VK->Prop}
def tCB (r:List V->Hp->VK->Prop) (t:TA):TE:=fun σ H Q=>t σ H fun vs H1=>r vs H1 Q
theorem gp (hc:kA X (.builtin id) r) (hg:Gl X x) (hm:X.mg x=none) (hv:bootBuiltins x=some (.builtin id)) (ha:PA X (e::es) t) (hn:x≠"__name__":=by decide) (hdb:(x==("__debug__":Str))=false:=by decide)
  (he:starEach (e::es) X.env=(false,eval e X.env)::starEach es X.env:=by rfl) (hpl:(backTo pos (starEach es X.env)).any (·.1)=false:=by rfl):PE X (.Call (.Name x p) (e::es) [] pos) (tCB r t):=by
 intro pins s σ H Q I h;refine wpAny_Call_Name_kw (hV I hg hm hv ?_ hn hdb);exact PyProof.Rows.callWith_builtin1 (thn (ha pos pins s σ H _ I h) fun us s1 qz2=>(by obtain ⟨vs,H1,I1,r1,q1⟩:=qz2;exact hc pins s1 σ H1 vs us Q I1 r1 q1)) he hpl
theorem mT (hc:kA X (.type T) r) (hg:Gl X x) (hm:X.mg x=none) (hv:bootBuiltins x=some (.type T)) (ha:PA X (e::es) t) (hn:x≠"__name__":=by decide) (hdb:(x==("__debug__":Str))=false:=by decide)
  (he:starEach (e::es) X.env=(false,eval e X.env)::starEach es X.env:=by rfl) (hpl:(backTo pos (starEach es X.env)).any (·.1)=false:=by rfl):PE X (.Call (.Name x p) (e::es) [] pos) (tCB r t):=by
 intro pins s σ H Q I h;refine wpAny_Call_Name_kw (hV I hg hm hv ?_ hn hdb);exact PyProof.Rows.callWith_type1 (thn (ha pos pins s σ H _ I h) fun us s1 qz2=>(by obtain ⟨vs,H1,I1,r1,q1⟩:=qz2;exact hc pins s1 σ H1 vs us Q I1 r1 q1)) he hpl
end
end L2
namespace HT
open PySem PyProof.Rows
def lexLt:List Int->List Int->Bool
 | [],[]=>false
 | [],_::_=>true
 | _::_,[]=>false
 | x::xs,y::ys=>if x=y then lexLt xs ys else decide (x<y)
theorem qO (x y:Int) (xs ys:List Int):lexLt (x::xs) (y::ys)=if x=y then lexLt xs ys else decide (x<y):=rfl
theorem kT:lexLt [] []=false:=rfl
theorem qD (y:Int) (ys:List Int):lexLt [] (y::ys)=true:=rfl
theorem qL (x:Int) (xs:List Int):lexLt (x::xs) []=false:=rfl
theorem Ct (A:Around) (s:Shared) (a:Int) (t:Tok) (c:Int) (u:Tok):∃ e,SeqAt.EqAt A s (.int a t) (.int c u) e/\(e=true↔a=c) :=
 ⟨(a==c),SeqAt.EqAt.int_int a t c u,by simp⟩
theorem BA (A:Around) (s:Shared) (a:Int) (t:Tok) (c:Int) (u:Tok) (prog:Program) (w:World) (E:Value->Shared->Prop) (Q:Value->Shared->Prop) (h:Q (.bool (decide (a<c))) s) :
  wpAny (model prog w) A (richCompare .Lt (.int a t) (.int c u)) Q E s :=
 (PyProof.Rows.lt_int h:wpAny (model prog w) A (compareOp .Lt (.int a t) (.int c u)) Q E s)
section
open PySem.SeqAt
open PySem.AutoSeq1 (wpAny_loadPart')
open PySem.MeetsSeq PySem.MeetsSeq2 PySem.MeetsSeq3
theorem rX (l b:Addr) (items items2:Array Value) (n n2:Nat) (dd dd2:Option Addr) (sl sl2:Array (Option Value)) (ns ms:List Int) (hi:IntsAre items.toList ns) (hj:IntsAre items2.toList ms) :
  Meets (Builtin.«tuple.__lt__» ⟨[.ref l,.ref b],[]⟩)
   (fun _ R s=>s.heap.get? l=some { cls:=.type "tuple",dict:=dd,data:=.seq items n,slots:=sl }/\s.heap.get? b=some { cls:=.type "tuple",dict:=dd2,data:=.seq items2 n2,slots:=sl2 } /\
    R (.ok (.ret (.bool (lexLt ns ms)))) s) :=
 .of_wp fun prog w A R s h=>by
  obtain ⟨hp,g,d,tk,os⟩:=s;obtain ⟨hl,hb,h⟩:=h;have f2:=AutoSeq1.sub_tuple_tuple;have z1:items.size=ns.length:=by rw [<-hi.length];simp
  have z2:items2.size=ms.length:=by rw [<-hj.length];simp
  wp_walk using wpAny_loadPart' hl,wpAny_loadPart' hb,wpAny_forIn_list _ (fun rest b s'=>b.1=none/\s'=⟨hp,g,d,tk,os⟩/\∃ (vs ws:List Value) (ns' ms':List Int),rest=vs.zip ws /\
   IntsAre vs ns'/\IntsAre ws ms'/\ns'.length+items2.size=ms'.length+items.size/\R (.ok (.ret (.bool (lexLt ns' ms')))) ⟨hp,g,d,tk,os⟩) _
  case turn =>
   rintro ⟨y,x⟩ rest b s' ⟨hb',rfl,vs,ws,ns',ms',hz,hvi,hwi,hlen,hR⟩
   cases hvi with
   | nil=>rw [List.zip_nil_left] at hz;cases hz
   | cons a t hvi' =>
    cases hwi with
    | nil=>rw [List.zip_nil_right] at hz;cases hz
    | cons c u hwi' =>
     rw [List.zip_cons_cons] at hz;injection hz with hyx hrest
     injection hyx with hy hx
     subst hy hx;rw [qO] at hR;simp only [List.length_cons] at hlen;obtain ⟨e,he,hiff⟩:=Ct A.in1 ⟨hp,g,d,tk,os⟩ a t c u;refine wpAny_bind (he prog w _ _ ?_);cases e with
     | true =>
      rw [if_pos (hiff.mp rfl)] at hR
      wp_walk
      exact ⟨rfl,rfl,_,_,_,_,hrest,hvi',hwi',by omega,hR⟩
     | false =>
      rw [if_neg (fun q=>absurd (hiff.mpr q) Bool.false_ne_true)] at hR;have hri:=BA A.in1 ⟨hp,g,d,tk,os⟩ a t c u prog w
      wp_walk using hri
      exact ⟨_,rfl,by simpa using hR⟩
  case fin =>
   rintro ⟨b1,b2⟩ s' ⟨hb',rfl,vs,ws,ns',ms',hz,hvi,hwi,hlen,hR⟩
   simp only at hb';subst hb';have hv:lexLt ns' ms'=decide (items.size<items2.size):=by
    cases hvi with
    | nil =>
     cases hwi with
     | nil =>simp only [List.length_nil] at hlen;rw [kT];exact (decide_eq_false (by omega)).symm
     | cons c u hw =>simp only [List.length_nil,List.length_cons] at hlen;rw [qD];exact (decide_eq_true (by omega)).symm
    | cons a t hv =>
     cases hwi with
     | nil =>simp only [List.length_nil,List.length_cons] at hlen;rw [qL];exact (decide_eq_false (by omega)).symm
     | cons c u hw =>rw [List.zip_cons_cons] at hz;cases hz
   rw [hv] at hR
   wp_walk
   exact ⟨_,rfl,by simpa [Builtin.Tuple.tupleCompareSizes] using hR⟩
  case h =>exact ⟨rfl,rfl,items.toList,items2.toList,ns,ms,rfl,hi,hj,by omega,h⟩
end
section
variable {prog:Program} {w:World} {A:Around} {E:Value->Shared->Prop} {s:Shared}
theorem xU {l b:Addr} {items items2:Array Value} {ns ms:List Int} {Q:Value->Shared->Prop} (hl:IsTup s.heap l items) (hb:IsTup s.heap b items2) (hi:IntsAre items.toList ns) (hj:IntsAre items2.toList ms)
  (hu:A.units<cLine) (h:Q (.bool (lexLt ns ms)) s):wpAny (model prog w) A (compareOp .Lt (.ref l) (.ref b)) Q E s:=by
 obtain ⟨⟨cls,dd,data,sl⟩,ho,hc,n,hd⟩:=id hl;obtain ⟨⟨cls2,dd2,data2,sl2⟩,ho2,hc2,n2,hd2⟩:=id hb;simp only at hc hd hc2 hd2;subst hc hd hc2 hd2;exact richCompare_meets_room (op:=.Lt) ⟨_,ho,rfl⟩ ⟨_,ho2,rfl⟩ PySem.F.slot_tuple_lt PySem.F.entry_tuple_lt (PySem.F.args_tuple_lt_2 _ _) (rX l b items items2 n n2 dd dd2 sl sl2 ns ms hi hj)
  ⟨ho,ho2,show Value.bool (lexLt ns ms)≠Value.notImplemented/\Q (.bool (lexLt ns ms)) s from ⟨(fun x=>nomatch x),h⟩⟩ hu
theorem EV {t b:Addr} {vs ws:List Value} {Q:Value->Shared->Prop} (ht:IsTup s.heap t vs.toArray) (hb:IsTup s.heap b ws.toArray) (hv:vs≠[])
  (h1:ws=[]->Q (.ref t) s) (h2:ws≠[]->Q (.ref s.heap.objs.size) { s with heap:=s.heap.push { cls:=.type "tuple",data:=.seq (vs++ws).toArray } })
  (hsz:vs.length+ws.length<=sizeLine):wpAny (model prog w) A (binaryOp .Add (.ref t) (.ref b)) Q E s:=by
 obtain ⟨⟨cls,dd,data,sl⟩,ho,hc,n,hd⟩:=id ht;obtain ⟨⟨cls2,dd2,data2,sl2⟩,ho2,hc2,n2,hd2⟩:=id hb;simp only at hc hd hc2 hd2;subst hc hd hc2 hd2;have e:vs.toArray++ws.toArray=(vs++ws).toArray:=by simp
 by_cases hw:ws=[]
 ·exact concat_meets ⟨_,ho,rfl⟩ ⟨_,ho2,rfl⟩ noFill_tuple_add seq_tuple_add PySem.F.slot_tuple_add PySem.F.entry_tuple_add (PySem.F.args_tuple_add_2 _ _)
   (tuple_addW1 t b vs.toArray ws.toArray n n2 dd dd2 sl sl2 (by simpa using hv) (by simp [hw])) ⟨ho,ho2,h1 hw⟩
 ·refine concat_meets ⟨_,ho,rfl⟩ ⟨_,ho2,rfl⟩ noFill_tuple_add seq_tuple_add PySem.F.slot_tuple_add PySem.F.entry_tuple_add (PySem.F.args_tuple_add_2 _ _)
   (tuple_addW2 t b vs.toArray ws.toArray n n2 dd dd2 sl sl2 (by simpa using hv) (by simpa using hw) (by rw [List.size_toArray,List.size_toArray];exact hsz)) ⟨ho,ho2,?_⟩
  rw [e];exact h2 hw
def sIx (n d:Nat):Option Int->Nat
 | none=>d
 | some v=>if v<0 then (v+(n:Int)).toNat else min v.toNat n
theorem FX (n d:Nat) (hd:d<=n) (o:Option Int):sIx n d o<=n:=by
 cases o with
 | none=>exact hd
 | some v =>
  show (if v<0 then (v+(n:Int)).toNat else min v.toNat n)<=n;by_cases hv:v<0
  ·rw [if_pos hv];omega
  ·rw [if_neg hv];exact Nat.min_le_right _ _
theorem yI (v:Int) (n d:Nat):(if v<0 then max (v+(n:Int)) 0 else min v (n:Int))=((sIx n d (some v):Nat):Int):=by
 show (if v<0 then max (v+(n:Int)) 0 else min v (n:Int))=(((if v<0 then (v+(n:Int)).toNat else min v.toNat n):Nat):Int)
 by_cases hv:v<0
 ·simp only [if_pos hv];omega
 ·simp only [if_neg hv];omega
theorem yA (lo hi:Option Int) (n:Nat):Builtin.Slice.sliceAdjust lo hi 1 (n:Int)=(((sIx n 0 lo:Nat):Int),((sIx n n hi:Nat):Int)):=by
 have h1:¬ ((1:Int)<0):=by omega
 unfold Builtin.Slice.sliceAdjust;simp only [h1,if_false];refine Prod.ext ?_ ?_
 ·cases lo with
  | none=>rfl
  | some v=>exact yI v n 0
 ·cases hi with
  | none=>rfl
  | some v=>exact yI v n n
theorem xp (i j:Nat):Builtin.Slice.slicePlaces (i:Int) (j:Int) 1=j-i:=by
 unfold Builtin.Slice.slicePlaces;have h1:(1:Int)>0:=by omega
 simp only [h1,if_true,Int.ediv_one];split <;> omega
theorem p8 {v:Value} {o:Option Int} {Q:Option Int->Shared->Prop} (p:IsPart v o) (h:Q o s):wpAny (model prog w) A (Builtin.Slice.slicePartIndex v) Q E s:=by
 cases p with
 | none=>exact slicePart_none h
 | int i t=>exact slicePart_int h
theorem i9 {sl:Addr} {vl vu:Value} {lo hi:Option Int} {n:Nat} {Q:Int×Int×Nat->Shared->Prop} (hs:s.heap.IsSliceOf sl vl vu .none) (pl:IsPart vl lo) (pu:IsPart vu hi)
  (h:Q (((sIx n 0 lo:Nat):Int),1,sIx n n hi-sIx n 0 lo) s):wpAny (model prog w) A (Builtin.Slice.sliceApplied (.ref sl) (pure (n:Int))) Q E s:=by
 obtain ⟨os,hos,hcs,hds⟩:=id hs;unfold Builtin.Slice.sliceApplied Builtin.Slice.sliceFields;refine wpAny_bind (wpAny_bind (wpAny_field hos hds (x:=vl) rfl (wpAny_bind (wpAny_field hos hds (x:=vu) rfl (wpAny_bind (wpAny_field hos hds (x:=.none) rfl (wpAny_pure ?_)))))));refine wpAny_bind (slicePart_none ?_);show wpAny _ _ (if ((1:Int)==0)=true then _ else _) _ _ s;rw [if_neg (by decide)];refine wpAny_bind (p8 pl (wpAny_bind (p8 pu (wpAny_bind (wpAny_pure ?_)))));show wpAny _ _ (match Builtin.Slice.sliceAdjust lo hi 1 (n:Int) with | (lo,hi)=>pure (lo,(1:Int),Builtin.Slice.slicePlaces lo hi 1)) _ _ s;rw [yA lo hi n];show wpAny _ _ (pure (((sIx n 0 lo:Nat):Int),(1:Int),Builtin.Slice.slicePlaces ((sIx n 0 lo:Nat):Int) ((sIx n n hi:Nat):Int) 1)) _ _ s;rw [xp];exact wpAny_pure h
theorem BB (xs:Array Value) (i k:Nat):((List.range k).filterMap fun (m:Nat)=>xs[((i:Int)+(m:Int)*1).toNat]?).toArray=((xs.toList.drop i).take k).toArray:=by
 have e:(fun (m:Nat)=>xs[((i:Int)+(m:Int)*1).toNat]?)=fun m=>xs[i+m]?:=by
  funext m;have:((i:Int)+(m:Int)*1).toNat=i+m:=by omega
  rw [this]
 rw [e];have:=pick_run xs i k;rw [List.filterMap_map] at this;have e2:((fun x=>xs[x]?)∘fun x=>i+x)=fun m=>xs[i+m]?:=rfl
 rw [e2] at this;rw [this]
theorem mi {t sl:Addr} {items:Array Value} {vl vu:Value} {lo hi:Option Int} {Q:Value->Shared->Prop} (ht:IsTup s.heap t items) (hs:s.heap.IsSliceOf sl vl vu .none) (pl:IsPart vl lo) (pu:IsPart vu hi)
  (hw:¬ (sIx items.size 0 lo=0/\sIx items.size items.size hi=items.size))
  (h:Q (.ref s.heap.objs.size) { s with heap:=s.heap.push { cls:=.type "tuple",data:=.seq ((items.toList.drop (sIx items.size 0 lo)).take (sIx items.size items.size hi-sIx items.size 0 lo)).toArray } })
  (hsz:items.size<=sizeLine):wpAny (model prog w) A (getItem (.ref t) (.ref sl)) Q E s:=by
 have htake:sizeOk (.seq ((items.toList.drop (sIx items.size 0 lo)).take (sIx items.size items.size hi-sIx items.size 0 lo)).toArray):=by show ((items.toList.drop (sIx items.size 0 lo)).take (sIx items.size items.size hi-sIx items.size 0 lo)).toArray.size<=sizeLine;rw [List.size_toArray,List.length_take,List.length_drop,Array.length_toList];omega
 have hj:sIx items.size items.size hi<=items.size:=FX _ _ (Nat.le_refl _) hi;obtain ⟨os,hos,hcs,hds⟩:=id hs;have hTs:s.TypeIs (.ref sl) "slice":=⟨os,hos,hcs⟩
 unfold getItem
 try with_reducible refine wpAny_holding ?_
 first | refine wpAny_bind (wpAny_pure ?_) | skip
 refine wpAny_bind (wpAny_sequenceKey ht.typeIs (by decide) ?_);refine wpAny_bind (wpAny_callSpecial?_slot (name:=Str.ofString "__getitem__") ht.typeIs PyProof.Rows.slot_tuple_getitem
  (wpAny_call_entry PyProof.Rows.slot_tuple_getitem ht.typeIs entry_tuple_getitem ?_ (args_tuple_getitem _ _)))
 show wpAny _ _ (Builtin.Tuple.tupleItemsOf (.ref t) >>= _) _ _ s;refine wpAny_bind (tupleItemsOf_ ht ?_);refine wpAny_bind (wpAny_typeOf hTs ?_);rw [if_pos (by decide)];refine wpAny_bind (i9 hs pl pu ?_);have hno:¬ ((((sIx items.size 0 lo:Nat):Int)==0&&(1:Int)==1&&(sIx items.size items.size hi-sIx items.size 0 lo)==items.size)=true):=by intro q;rw [Bool.and_eq_true,Bool.and_eq_true] at q;have q1:((sIx items.size 0 lo:Nat):Int)=0:=eq_of_beq q.1.1;have q2:sIx items.size items.size hi-sIx items.size 0 lo=items.size:=eq_of_beq q.2;exact hw ⟨by omega,by omega⟩
 show wpAny _ _ (if (((sIx items.size 0 lo:Nat):Int)==0&&(1:Int)==1&&(sIx items.size items.size hi-sIx items.size 0 lo)==items.size)=true then _ else _) _ _ s;rw [if_neg hno,BB]
 first
  | exact wpAny_bind (m:=Builtin.Tuple.tupleExact _) (wpAny_newObj_type (wpAny_pure ⟨_,rfl,wpAny_pure h⟩) htake)
  | exact wpAny_bind (m:=Builtin.Tuple.tupleExact _) (wpAny_newObj_type (wpAny_bind (wpAny_pure (wpAny_pure ⟨_,rfl,wpAny_pure h⟩))) htake)
  | exact wpAny_bind (wpAny_bind (m:=Builtin.Tuple.tupleExact _) (wpAny_newObj_type (wpAny_pure (wpAny_pure ⟨_,rfl,wpAny_pure h⟩)) htake))
  | exact wpAny_bind (wpAny_bind (m:=Builtin.Tuple.tupleExact _) (wpAny_newObj_type (wpAny_pure ⟨_,rfl,wpAny_pure h⟩) htake))
end
end HT
namespace L2
open PySem PySem.Spec PyProof.Rows
abbrev TO:=St->Hp->(Option Int->Hp->Prop)->Prop
def PO (X:Cx) (e:Option Expr) (t:TO):Prop :=
 ∀ (pins:List (Addr×Obj)) (s:Shared) (σ:St) (H:Hp) (Q:Option Int->Hp->Prop),Inv X pins σ H s->t σ H Q ->
  wpAny (model X.prog X.w) X.A (evalPart e X.env) (fun u s'=>∃ o H',Inv X pins σ H' s'/\IsPart u o/\Q o H') X.xe s
def Fd:TO:=fun _ H Q=>Q none H
def IM (t:TE):TO:=fun σ H Q=>t σ H fun x H1=>∃ i,x=.int i/\Q (some i) H1
theorem intsAre_of {ns:List Int}:∀ {us:List Value},Vals (ns.map V.int) us->IntsAre us ns:=by
 induction ns with
 | nil=>intro us r;rw [List.map_nil] at r;cases r;exact .nil
 | cons n ns ih =>
  intro us r;rw [List.map_cons] at r;cases r with
  | cons r1 r2 =>obtain ⟨t,e⟩:=r1;subst e;exact .cons n t (ih r2)
section
variable {X:Cx} {e:Expr} {te:TE} {lo hi:Option Expr} {tl th:TO} {pos p2:Pos}
theorem Eu:PO X none Fd:=by intro pins s σ H Q I h;rw [evalPart_none];exact wpAny_pure ⟨none,H,I,.none,h⟩
theorem Eh (h:PE X e te):PO X (some e) (IM te):=by
 intro pins s σ H Q I hw;rw [evalPart_some];refine thn (h pins s σ H _ I hw) fun u s1 rz2=>?_
 obtain ⟨x,H1,I1,r1,q1⟩:=rz2;obtain ⟨i,rfl,q⟩:=q1;obtain ⟨t,rfl⟩:=r1;exact ⟨some i,H1,I1,.int i t,q⟩
def SlR (X:Cx) (r:V->Option Int->Option Int->Hp->VK->Prop):Prop :=
 ∀ (pins:List (Addr×Obj)) (s:Shared) (σ:St) (H:Hp) (x:V) (v vl vu:Value) (lo hi:Option Int) (sl:Addr) (Q:VK),Inv X pins σ H s->RelV x v->s.heap.IsSliceOf sl vl vu .none->IsPart vl lo->IsPart vu hi->r x lo hi H Q ->
  ∃ T id,typeLookup (.type T) "__getitem__"=pure (some (.builtin id))/\s.TypeIs v T/\wpAny (model X.prog X.w) X.A (getItem v (.ref sl)) (EP X pins σ Q) X.xe s
theorem SlR.or {r r':V->Option Int->Option Int->Hp->VK->Prop} (h:SlR X r) (h':SlR X r'):SlR X (fun x lo hi H Q=>r x lo hi H Q\/r' x lo hi H Q):=by
 intro pins s σ H x v vl vu lo hi sl Q I rx hs pl pu q;rcases q with q | q
 ·exact h pins s σ H x v vl vu lo hi sl Q I rx hs pl pu q
 ·exact h' pins s σ H x v vl vu lo hi sl Q I rx hs pl pu q
def tSl (r:V->Option Int->Option Int->Hp->VK->Prop) (te:TE) (tl th:TO):TE:=fun σ H Q=>te σ H fun x H1=>tl σ H1 fun l H2=>th σ H2 fun u H3=>r x l u H3 Q
theorem Dh {r:V->Option Int->Option Int->Hp->VK->Prop} (hr:SlR X r) (he:PE X e te) (hl:PO X lo tl) (hu:PO X hi th):PE X (.Subscript e (.Slice lo hi none p2) pos) (tSl r te tl th):=by
 intro pins s σ H Q I h;refine Subscript_ (thn (he pins s σ H _ I h) fun v s1 rz2=>?_);obtain ⟨x,H1,I1,r1,q1⟩:=rz2;refine wpAny_Slice (thn (hl pins s1 σ H1 _ I1 q1) fun vl s2 rz2=>?_);obtain ⟨l,H2,I2,pl,q2⟩:=rz2;refine thn (hu pins s2 σ H2 _ I2 q2) fun vu s3 rz2=>?_
 obtain ⟨u,H3,I3,pu,q3⟩:=rz2;rw [evalPart_none];refine wpAny_pure ?_;have I4:Inv X pins σ H3 { s3 with heap:=s3.heap.push { cls:=.type "slice",data:=.fields #[vl,vu,.none] } }:=I3.kept (t':=s3.toks) fun b ob q=>Heap.get?_push_of_some _ q
 obtain ⟨T,id,hT,ht,hg⟩:=hr pins { s3 with heap:=s3.heap.push { cls:=.type "slice",data:=.fields #[vl,vu,.none] } } σ H3 x v vl vu l u s3.heap.objs.size Q I4 r1 (Heap.IsSliceOf.new ..) pl pu q3;show wpAny (model X.prog X.w) X.A (subscriptTail e (.Slice lo hi none p2) v (.ref s3.heap.objs.size)) (EP X pins σ Q) X.xe { s3 with heap:=s3.heap.push { cls:=.type "slice",data:=.fields #[vl,vu,.none] } };exact tail_any (ops:=[.ref s3.heap.objs.size,v]) ht hT hg (by with_unfolding_all rfl)
def vM (xs:List V) (lo hi:Option Int):List V:=(xs.drop (HT.sIx xs.length 0 lo)).take (HT.sIx xs.length xs.length hi-HT.sIx xs.length 0 lo)
theorem oN (xs:List V) (lo hi:Option Int):(vM xs lo hi).length<=xs.length:=by unfold vM;rw [List.length_take,List.length_drop];omega
def Jz (K:PySem.W.Frag):V->Option Int->Option Int->Hp->VK->Prop:=fun x lo hi H Q=>∃ a xs,x=.ref a/\SqT K H a xs /\
 ¬ (HT.sIx xs.length 0 lo=0/\HT.sIx xs.length xs.length hi=xs.length)/\∀ p,H p=none->Q (.ref p) (upd H p (.tup (vM xs lo hi)))
theorem Hl:SlR X (Jz X.K):=by
 intro pins s σ H x v vl vu lo hi sl Q I rx hs pl pu h;obtain ⟨a,xs,rfl,hx,hw,q⟩:=h;cases rx;obtain ⟨its,r,ht,hz⟩:=I.tuple hx;have hlen:its.toArray.size=xs.length:=by rw [List.size_toArray];exact r.length.symm
 refine ⟨"tuple",_,PyProof.Rows.slot_tuple_getitem.lookup,ht.typeIs,?_⟩;refine HT.mi ht hs pl pu (by rw [hlen];exact hw) ?_ (by rw [hlen];exact hz);rw [hlen];refine ⟨.ref s.heap.objs.size,_,I.laid (t':=s.toks) (o:=.tup (vM xs lo hi)) (fun b ob q=>Heap.get?_push_of_some _ q) (Nat.le_refl _) ?_,rfl,q _ (I.hok.fresh (Nat.le_refl _))⟩;exact ⟨Nat.le_trans (oN xs lo hi) hz,_,(r.drop (HT.sIx xs.length 0 lo)).take (HT.sIx xs.length xs.length hi-HT.sIx xs.length 0 lo),uL.new _ _⟩
def Jl (K:PySem.W.Frag):R2:=fun x y H Q=>∃ a b ns ms,x=.ref a/\y=.ref b/\SqT K H a (ns.map V.int)/\SqT K H b (ms.map V.int)/\Q (.bl (HT.lexLt ns ms)) H
theorem G5 (hu:X.A.units<cLine):OpR X (compareOp .Lt) (Jl X.K):=by intro pins s σ H x y v u Q I rx ry h;obtain ⟨a,b,ns,ms,rfl,rfl,ha,hb,q⟩:=h;cases rx;cases ry;obtain ⟨its,r1,p1,_⟩:=I.tuple ha;obtain ⟨its2,r2,p2,_⟩:=I.tuple hb;have i1:IntsAre its.toArray.toList ns:=intsAre_of r1;have i2:IntsAre its2.toArray.toList ms:=intsAre_of r2;exact HT.xU p1 p2 i1 i2 hu ⟨.bl (HT.lexLt ns ms),H,I,rfl,q⟩
def HW (K:PySem.W.Frag):R2:=fun x y H Q=>∃ a b xs ys,x=.ref a/\y=.ref b/\SqT K H a xs/\SqT K H b ys/\xs≠[]/\xs.length+ys.length<=sizeLine /\
 (ys=[]->Q (.ref a) H)/\(ys≠[]->∀ p,H p=none->Q (.ref p) (upd H p (.tup (xs++ys))))
theorem Vals.nil_iff {xs:List V} {us:List Value} (r:Vals xs us):us=[]↔xs=[]:=by
 cases r with
 | nil=>simp
 | cons _ _=>simp
theorem Fm:OpR X (binaryOp .Add) (HW X.K):=by intro pins s σ H x y v u Q I rx ry h;obtain ⟨a,b,xs,ys,rfl,rfl,ha,hb,hx,hz,q1,q2⟩:=h;cases rx;cases ry;obtain ⟨its,r1,p1,_⟩:=I.tuple ha;obtain ⟨its2,r2,p2,_⟩:=I.tuple hb;refine HT.EV p1 p2 (fun z=>hx (r1.nil_iff.mp z)) (fun z=>⟨.ref a,H,I,rfl,q1 (r2.nil_iff.mp z)⟩) (fun z=>?_) (by rw [<-r1.length,<-r2.length];exact hz);refine ⟨.ref s.heap.objs.size,_,I.laid (t':=s.toks) (o:=.tup (xs++ys)) (fun b ob q=>Heap.get?_push_of_some _ q) (Nat.le_refl _) ?_,rfl,q2 (fun w=>z (r2.nil_iff.mpr w)) _ (I.hok.fresh (Nat.le_refl _))⟩;exact ⟨by rw [List.length_append];exact hz,_,r1.append r2,uL.new _ _⟩
end
def ixN (n:Nat) (i:Int):Option Nat:=if 0<=i then (if i<n then some i.toNat else none) else if -(n:Int)<=i then some (i+n).toNat else none
def atI {α:Type} (xs:List α) (i:Int):Option α:=(ixN xs.length i).bind fun j=>xs[j]?
theorem uM {n:Nat} {i:Int} {j:Nat} (h:ixN n i=some j):seqIndex? i n=some j/\j<n/\-(n:Int)<=i/\i<n:=by
 unfold ixN at h;by_cases h0:0<=i
 ·rw [if_pos h0] at h;by_cases h1:i<n
  ·rw [if_pos h1] at h;have e:i.toNat=j:=Option.some.inj h;exact ⟨by rw [seqIndex_of h0 h1,e],by omega,by omega,h1⟩
  ·rw [if_neg h1] at h;cases h
 ·rw [if_neg h0] at h;by_cases h1:-(n:Int)<=i
  ·rw [if_pos h1] at h;have e:(i+n).toNat=j:=Option.some.inj h;exact ⟨by rw [seqIndex_neg (by omega) h1,e],by omega,h1,by omega⟩
  ·rw [if_neg h1] at h;cases h
theorem zu {α:Type} {xs:List α} {i:Int} {v:α} (h:atI xs i=some v):∃ j,seqIndex? i xs.length=some j/\xs[j]?=some v/\j<xs.length/\-(xs.length:Int)<=i/\i<xs.length:=by
 unfold atI at h;cases e:ixN xs.length i with
 | none=>rw [e] at h;cases h
 | some j =>rw [e] at h;obtain ⟨h1,h2,h3,h4⟩:=uM e;exact ⟨j,h1,h,h2,h3,h4⟩
theorem oV {α:Type} {xs:List α} {j:Nat} {v:α} (h:xs[j]?=some v):atI xs (j:Int)=some v:=by
 have hj:j<xs.length:=(List.getElem?_eq_some_iff.mp h).1;have e:ixN xs.length (j:Int)=some j:=by unfold ixN;rw [if_pos (by omega),if_pos (by omega)];simp
 unfold atI;rw [e];exact h
def zf (b:Expr):Prop:=∀ o i,subscripted b false o i=operate [o,i] (getItem o i)
def IxR (X:Cx) (r:R2):Prop :=
 ∀ (value slice:Expr) (pins:List (Addr×Obj)) (s:Shared) (σ:St) (H:Hp) (x y:V) (v u:Value) (Q:VK),Inv X pins σ H s->RelV x v->RelV y u->r x y H Q ->
  subscripted slice false v u=operate [v,u] (getItem v u)->wpAny (model X.prog X.w) X.A (subscriptTail value slice v u) (EP X pins σ Q) X.xe s
def MtR (X:Cx) (id:String) (r:V->List V->Hp->VK->Prop):Prop :=
 ∀ (pins:List (Addr×Obj)) (s:Shared) (σ:St) (H:Hp) (x:V) (xs:List V) (v:Value) (us:List Value) (Q:VK),Inv X pins σ H s->RelV x v->Vals xs us->r x xs H Q ->
  wpAny (model X.prog X.w) X.A (call (.builtin id) (v::us)) (EP X pins σ Q) X.xe s
section
variable {X:Cx} {a b:Expr} {ta tb:TE} {pos:Pos}
theorem IxR.or {r r':R2} (h:IxR X r) (h':IxR X r'):IxR X (fun x y H Q=>r x y H Q\/r' x y H Q):=by
 intro value slice pins s σ H x y v u Q I rx ry q hs;rcases q with q | q
 ·exact h value slice pins s σ H x y v u Q I rx ry q hs
 ·exact h' value slice pins s σ H x y v u Q I rx ry q hs
theorem B1 {r:R2} (hr:IxR X r) (ha:PE X a ta) (hb:PE X b tb) (hs:zf b):PE X (.Subscript a b pos) (tOp r ta tb):=by intro pins s σ H Q I h;exact Subscript_ (Gr ha hb I h fun v u s2 x y H2 I2 rx ry q=>hr a b pins s2 σ H2 x y v u Q I2 rx ry q (hs _ _))
def Ia (K:PySem.W.Frag):R2:=fun x y H Q=>∃ p xs i v,x=.ref p/\y=.int i/\SqL K H p xs/\atI xs i=some v/\Q v H
def Hu (K:PySem.W.Frag):R2:=fun x y H Q=>∃ p xs i v,x=.ref p/\y=.int i/\SqT K H p xs/\atI xs i=some v/\Q v H
theorem uq:IxR X (Ia X.K):=by
 intro value slice pins s σ H x y v u Q I rx ry h hs;obtain ⟨p,xs,i,z,rfl,rfl,hq,he,q⟩:=h;cases rx;obtain ⟨t,rfl⟩:=ry;obtain ⟨its,r,pl,hz⟩:=I.list hq;obtain ⟨j,h1,h2,h3,h4,h5⟩:=zu he;obtain ⟨w,ew,rw'⟩:=r.get h2;have hl:=r.length;have hn:=u9;have fin:EP X pins σ Q w s:=⟨z,H,I,rw',q⟩
 by_cases h0:0<=i
 ·have hj:i.toNat=j:=by rw [seqIndex_of h0 h5] at h1;exact Option.some.inj h1
  exact item_listR pl.isList h0 (by omega) (by rw [hj];simpa using ew) fin hs
 ·have hj:(i+(its.toArray.size:Int)).toNat=j:=by rw [seqIndex_neg (by omega) h4] at h1;rw [List.size_toArray,<-hl];exact Option.some.inj h1
  exact subscriptTail_builtinR (x:=w) pl.isList.typeIs slot_list_getitem.lookup
   (wpAny_getItem_list_neg (Q:=fun r s'=>r=w/\EP X pins σ Q r s') pl.isList (by omega) (by rw [List.size_toArray] <;> omega) (by omega) (by rw [hj];simpa using ew) ⟨rfl,fin⟩) hs
theorem GV:IxR X (Hu X.K):=by
 intro value slice pins s σ H x y v u Q I rx ry h hs;obtain ⟨p,xs,i,z,rfl,rfl,hq,he,q⟩:=h;cases rx;obtain ⟨t,rfl⟩:=ry;obtain ⟨its,r,pl,hz⟩:=I.tuple hq;obtain ⟨j,h1,h2,h3,h4,h5⟩:=zu he;obtain ⟨w,ew,rw'⟩:=r.get h2;have hl:=r.length;have hn:=u9;have fin:EP X pins σ Q w s:=⟨z,H,I,rw',q⟩
 exact subscriptTail_builtinR (x:=w) pl.typeIs slot_tuple_getitem.lookup
  (getItem_tuple (j:=j) (Q:=fun r s'=>r=w/\EP X pins σ Q r s') pl (by omega) (by omega) (by rw [List.size_toArray,<-hl];exact h1) (by simpa using ew) ⟨rfl,fin⟩) hs
theorem yd (its:List Value) (n j:Nat) (u:Value):Obj.mapSeq (·.setIfInBounds j u) { cls:=.type "list",data:=.seq its.toArray n }={ cls:=.type "list",data:=.seq (its.set j u).toArray n }:=by simp [Obj.mapSeq]
theorem Inv.lst {pins:List (Addr×Obj)} {σ:St} {H:Hp} {s:Shared} {p:Addr} {xs:List V} (I:Inv X pins σ H s) (h:H p=some (.lst xs)) :
  ∃ (its:List Value) (n:Nat),Vals xs its/\s.heap.get? p=some { cls:=.type "list",data:=.seq its.toArray n }/\xs.length<=sizeLine:=by
 obtain ⟨z,its,n,r,e⟩:=I.hok p _ h;exact ⟨its,n,r,e,z⟩
theorem Inv.lstUpd {pins:List (Addr×Obj)} {σ:St} {H:Hp} {s:Shared} {p:Addr} {xs ys:List V} {its its':List Value} {n n':Nat} {f:Obj->Obj} (I:Inv X pins σ H s) (h:H p=some (.lst xs))
  (ho:s.heap.get? p=some { cls:=.type "list",data:=.seq its.toArray n }) (hf:f { cls:=.type "list",data:=.seq its.toArray n }={ cls:=.type "list",data:=.seq its'.toArray n' }) (r:Vals ys its') (hz:ys.length<=sizeLine) (t:Nat) :
  Inv X pins σ (upd H p (.lst ys)) { s with heap:=s.heap.update p f,toks:=t }:=by
 have e:(s.heap.update p f).get? p=some { cls:=.type "list",data:=.seq its'.toArray n' }:=by rw [Heap.get?_update_self f ho (by rw [hf] <;> rfl),hf]
 refine I.write (x:=p) (e:=p) (by rw [h];trivial) (.inl rfl) (fun b u hb q=>(Heap.get?_update_other _ _ (Ne.symm hb)).trans q) ⟨_,e⟩ ?_;exact ⟨hz,its',n',r,e⟩
def IJ:V->V->V->Hp->(Hp->Prop)->Prop:=fun o i v H Q=>∃ p xs k j,o=.ref p/\i=.int k/\H p=some (.lst xs)/\ixN xs.length k=some j/\Q (upd H p (.lst (xs.set j v)))
theorem set_list:HY X IJ:=by
 intro pins s σ H o i v ov iv u Q I ro ri rv h;obtain ⟨p,xs,k,j,rfl,rfl,hp,hj,q⟩:=h;cases ro;obtain ⟨t,rfl⟩:=ri;obtain ⟨its,n,r,ho,hz⟩:=I.lst hp;obtain ⟨h1,h2,h3,h4⟩:=uM hj;have hl:=r.length;have hn:=u9;have I':Inv X pins σ (upd H p (.lst (xs.set j v))) { s with heap:=s.heap.update p (Obj.mapSeq (·.setIfInBounds j u)) } :=
  I.lstUpd hp ho (yd its n j u) (r.set rv j) (by rw [List.length_set];exact hz) s.toks
 by_cases h0:0<=k
 ·have hk:k.toNat=j:=by rw [seqIndex_of h0 h4] at h1;exact Option.some.inj h1
  exact PySem.W.ki_setAt ho h0 (by omega) (by rw [List.size_toArray,<-hl];exact h4) (by rw [hk];exact ⟨_,I',q⟩)
 ·have hk:(k+(its.toArray.size:Int)).toNat=j:=by rw [seqIndex_neg (by omega) h3] at h1;rw [List.size_toArray,<-hl];exact Option.some.inj h1
  exact PySem.W.ki_setBack ho (by omega) (by rw [List.size_toArray,<-hl];exact h3) (by omega) (by rw [hk];exact ⟨_,I',q⟩)
theorem uo (lo hi:Option Int) (n:Nat):(sliceBounds lo hi none n).1=((HT.sIx n 0 lo:Nat):Int)/\(sliceBounds lo hi none n).2.1=((HT.sIx n n hi:Nat):Int)/\(sliceBounds lo hi none n).2.2=1:=by
 refine ⟨?_,?_,rfl⟩
 ·cases lo with
  | none=>simp [sliceBounds,HT.sIx]
  | some i =>
   simp only [sliceBounds,HT.sIx,Option.getD_none,show (1:Int)>0 by decide,if_true];by_cases h:i<0
   ·simp only [h,if_true] <;> omega
   ·simp only [h,if_false] <;> omega
 ·cases hi with
  | none=>simp [sliceBounds,HT.sIx]
  | some i =>
   simp only [sliceBounds,HT.sIx,Option.getD_none,show (1:Int)>0 by decide,if_true];by_cases h:i<0
   ·simp only [h,if_true] <;> omega
   ·simp only [h,if_false] <;> omega
theorem rZ (its:List Value) (lo hi:Option Int):slicePick its.toArray lo hi none=((its.drop (HT.sIx its.length 0 lo)).take (HT.sIx its.length its.length hi-HT.sIx its.length 0 lo)).toArray:=by obtain ⟨h1,h2,h3⟩:=uo lo hi its.toArray.size;unfold slicePick;rw [h1,h2,h3];simp only [sliceRange_one,pick_run,List.size_toArray] <;> rfl
def JB (K:PySem.W.Frag):V->Option Int->Option Int->Hp->VK->Prop:=fun x lo hi H Q=>∃ a xs,x=.ref a/\SqL K H a xs/\∀ p,H p=none->Q (.ref p) (upd H p (.lst (vM xs lo hi)))
theorem E9:SlR X (JB X.K):=by intro pins s σ H x v vl vu lo hi sl Q I rx hs pl pu h;obtain ⟨a,xs,rfl,hx,q⟩:=h;cases rx;obtain ⟨its,r,ht,hz⟩:=I.list hx;have hlen:=r.length;refine ⟨"list",_,slot_list_getitem.lookup,ht.isList.typeIs,?_⟩;refine wpAny_getItem_list_slice ht.isList hs pl pu .none (by simp) ?_ (by rw [List.size_toArray] <;> omega);rw [rZ,<-hlen];refine ⟨.ref s.heap.objs.size,_,I.laid (t':=s.toks) (o:=.lst (vM xs lo hi)) (fun b ob q=>Heap.get?_push_of_some _ q) (Nat.le_refl _) ?_,rfl,q _ (I.hok.fresh (Nat.le_refl _))⟩;exact ⟨Nat.le_trans (oN xs lo hi) hz,_,0,(r.drop (HT.sIx xs.length 0 lo)).take (HT.sIx xs.length xs.length hi-HT.sIx xs.length 0 lo),Heap.get?_push_size _ rfl⟩
def jH:V->Bool
 | .non=>true
 | .bl _=>true
 | .int _=>true
 | .str _=>true
 | _=>false
def eqV:V->V->Bool
 | .non,.non=>true
 | .bl a,.bl b=>a==b
 | .bl a,.int b=>(if a then 1 else 0)==b
 | .int a,.bl b=>a==(if b then 1 else 0)
 | .int a,.int b=>a==b
 | .str a,.str b=>a==b
 | _,_=>false
theorem F6 {A:Around} {s:Shared} {y x:V} {u v:Value} (ry:RelV y u) (rx:RelV x v) (fy:jH y=true) (fx:jH x=true):SeqAt.EqAt A s u v (eqV y x):=by
 cases y with
 | non =>
  cases ry;cases x with
  | non=>cases rx;exact SeqAt.EqAt.same _
  | bl b=>cases rx;exact SeqAt.EqAt.none_bool b
  | int b=>obtain ⟨t,rfl⟩:=rx;exact SeqAt.EqAt.none_int b t
  | str b=>obtain ⟨t,rfl⟩:=rx;exact SeqAt.EqAt.none_str b t
  | _=>exact absurd (show false=true from fx) Bool.false_ne_true
 | bl a =>
  cases ry;cases x with
  | non=>cases rx;exact SeqAt.EqAt.bool_none a
  | bl b=>cases rx;exact SeqAt.EqAt.bool_bool a b
  | int b=>obtain ⟨t,rfl⟩:=rx;exact SeqAt.EqAt.bool_int a b t
  | str b=>obtain ⟨t,rfl⟩:=rx;exact SeqAt.EqAt.bool_str a b t
  | _=>exact absurd (show false=true from fx) Bool.false_ne_true
 | int a =>
  obtain ⟨t',rfl⟩:=ry;cases x with
  | non=>cases rx;exact SeqAt.EqAt.int_none a t'
  | bl b=>cases rx;exact SeqAt.EqAt.int_bool a t' b
  | int b=>obtain ⟨t,rfl⟩:=rx;exact SeqAt.EqAt.int_int a t' b t
  | str b=>obtain ⟨t,rfl⟩:=rx;exact SeqAt.EqAt.int_str a t' b t
  | _=>exact absurd (show false=true from fx) Bool.false_ne_true
 | str a =>
  obtain ⟨t',rfl⟩:=ry;cases x with
  | non=>cases rx;exact SeqAt.EqAt.str_none a t'
  | bl b=>cases rx;exact SeqAt.EqAt.str_bool a t' b
  | int b=>obtain ⟨t,rfl⟩:=rx;exact SeqAt.EqAt.str_int a t' b t
  | str b=>obtain ⟨t,rfl⟩:=rx;exact SeqAt.EqAt.str_str a t' b t
  | _=>exact absurd (show false=true from fx) Bool.false_ne_true
 | _=>exact absurd (show false=true from fy) Bool.false_ne_true
def eqU (x:V) (u:Value):Bool:=match u with
 | .none=>eqV .non x
 | .bool b=>eqV (.bl b) x
 | .int i _=>eqV (.int i) x
 | .str z _=>eqV (.str z) x
 | _=>false
theorem xw {x y:V} {u:Value} (r:RelV y u) (f:jH y=true):eqU x u=eqV y x:=by
 cases y with
 | non=>cases r;rfl
 | bl b=>cases r;rfl
 | int i=>obtain ⟨t,rfl⟩:=r;rfl
 | str z=>obtain ⟨t,rfl⟩:=r;rfl
 | _=>exact absurd (show false=true from f) Bool.false_ne_true
theorem uP {x:V}:∀ {xs:List V} {us:List Value},Vals xs us->xs.all jH=true->us.any (eqU x)=xs.any fun y=>eqV y x
 | _,_,.nil,_=>rfl
 | y::xs,u::us,.cons r t,f=>by rw [List.all_cons,Bool.and_eq_true] at f;rw [List.any_cons,List.any_cons,xw r f.1,uP t f.2]
theorem mF {A:Around} {s:Shared} {x:V} {v:Value} (rx:RelV x v) (fx:jH x=true):∀ {xs:List V} {us:List Value},Vals xs us->xs.all jH=true->∀ u∈us,SeqAt.EqAt A s u v (eqU x u)
 | _,_,.nil,_=>fun u hu=>by cases hu
 | y::xs,u::us,.cons r t,f=>fun u' hu=>by
  rw [List.all_cons,Bool.and_eq_true] at f;rcases List.mem_cons.mp hu with rfl | hu
  ·rw [xw r f.1];exact F6 r rx f.1 fx
  ·exact mF rx fx t f.2 u' hu
def inV (x:V) (xs:List V):Bool:=xs.any fun y=>eqV y x
def rIn (K:PySem.W.Frag) (neg:Bool):R2:=fun x y H Q=>∃ p xs,y=.ref p/\(SqL K H p xs\/SqT K H p xs)/\jH x=true/\xs.all jH=true/\Q (.bl (if neg then !inV x xs else inV x xs)) H
theorem z0:OpR X (compareOp .In) (rIn X.K false):=by
 intro pins s σ H x y v u Q I rx ry h;obtain ⟨p,xs,rfl,hq,fx,fs,q⟩:=h;cases ry;rcases hq with hq | hq
 ·obtain ⟨its,r,pl,hz⟩:=I.list hq;refine SeqAt.in_listAt (eqU x) pl.isList (fun w hw=>mF rx fx r fs w (by simpa using hw)) ⟨.bl _,H,I,rfl,?_⟩;rw [show its.toArray.any (eqU x)=its.any (eqU x) by simp,uP r fs];exact q
 ·obtain ⟨its,r,pl,hz⟩:=I.tuple hq;refine SeqAt.in_tupleAt (eqU x) pl (fun w hw=>mF rx fx r fs w (by simpa using hw)) ⟨.bl _,H,I,rfl,?_⟩;rw [show its.toArray.any (eqU x)=its.any (eqU x) by simp,uP r fs];exact q
theorem jz:kA X (.builtin "len") (fun xs H Q=>∃ p ys,xs=[.ref p]/\(SqL X.K H p ys\/SqT X.K H p ys)/\Q (.int ys.length) H):=by
 intro pins s σ H xs us Q I r h;obtain ⟨p,ys,rfl,hq,q⟩:=h;obtain ⟨u,rfl,rx⟩:=vals1 r;cases rx;have hn:=u9;rcases hq with hq | hq
 ·obtain ⟨its,r',pl,hz⟩:=I.list hq;have hlen:=r'.length;exact Calls.call_len_list pl.isList (by simp only [List.size_toArray] <;> omega) ⟨.int ys.length,H,I.tok _,⟨s.toks+1,by rw [List.size_toArray,hlen]⟩,q⟩
 ·obtain ⟨its,r',pl,hz⟩:=I.tuple hq;have hlen:=r'.length;exact len_tuple pl (by simp only [List.size_toArray] <;> omega) ⟨.int ys.length,H,I.tok _,⟨s.toks+1,by rw [List.size_toArray,hlen]⟩,q⟩
theorem vb:kA X (.type "list") (fun xs H Q=>∃ p ys,xs=[.ref p]/\(SqL X.K H p ys\/SqT X.K H p ys)/\∀ l,H l=none->Q (.ref l) (upd H l (.lst ys))):=by
 intro pins s σ H xs us Q I r h;obtain ⟨p,ys,rfl,hq,q⟩:=h;obtain ⟨u,rfl,rx⟩:=vals1 r;cases rx;have fin:∀ (its:List Value),Vals ys its->ys.length<=sizeLine->∀ (h':Heap) (c':Nat),(∀ b o',s.heap.get? b=some o'->h'.get? b=some o') ->
   h'.get? s.heap.objs.size=some { cls:=.type "list",dict:=none,data:=.seq its.toArray c',slots:=#[] }->EP X pins σ Q (.ref s.heap.objs.size) { s with heap:=h' }:=fun its r' hz h' c' kp e =>
  ⟨.ref s.heap.objs.size,_,I.laid (t':=s.toks) kp (Nat.le_refl _) (show dD X.prog X.w _ h' _ (.lst ys) from ⟨hz,its,c',r',e⟩),rfl,q _ (I.hok.fresh (Nat.le_refl _))⟩
 rcases hq with hq | hq
 ·obtain ⟨its,r',pl,hz⟩:=I.list hq;have hlen:=r'.length;obtain ⟨o,ho,hc,n,hd⟩:=pl.isList;exact call_list_seq p (.inl rfl) ho hc hd (fun h' c' kp e=>fin its r' hz h' c' kp e) (by simp only [List.size_toArray] <;> omega)
 ·obtain ⟨its,r',pl,hz⟩:=I.tuple hq;have hlen:=r'.length;obtain ⟨o,ho,hc,n,hd⟩:=pl;exact call_list_seq p (.inr rfl) ho hc hd (fun h' c' kp e=>fin its r' hz h' c' kp e) (by simp only [List.size_toArray] <;> omega)
theorem sf:kA X (.type "tuple") (fun xs H Q=>∃ p ys,xs=[.ref p]/\((SqL X.K H p ys/\∀ l,H l=none->Q (.ref l) (upd H l (.tup ys)))\/(SqT X.K H p ys/\Q (.ref p) H))):=by
 intro pins s σ H xs us Q I r h;obtain ⟨p,ys,rfl,h⟩:=h;obtain ⟨u,rfl,rx⟩:=vals1 r;cases rx;rcases h with ⟨hq,q⟩ | ⟨hq,q⟩
 ·obtain ⟨its,r',pl,hz⟩:=I.list hq;have hlen:=r'.length;refine call_tuple_list pl.isList (fun h' kp=>?_) (by simp only [List.size_toArray] <;> omega);have I1:Inv X pins σ H { s with heap:=h' }:=I.kept (t':=s.toks) kp;have I2:Inv X pins σ (upd H h'.objs.size (.tup ys)) { s with heap:=h'.push { cls:=.type "tuple",data:=.seq its.toArray } } :=
   I1.laid (t':=s.toks) (fun b o e=>Heap.get?_push_of_some _ e) (Nat.le_refl _) (show dD X.prog X.w _ _ _ (.tup ys) from ⟨hz,its,r',uL.new _ _⟩)
  exact ⟨.ref h'.objs.size,_,I2,rfl,q _ (I1.hok.fresh (Nat.le_refl _))⟩
 ·obtain ⟨its,r',pl,hz⟩:=I.tuple hq;exact call_tuple_same pl ⟨.ref p,H,I,rfl,q⟩
def tyV (K:PySem.W.Frag) (T:String) (x:V) (H:Hp):Prop:=match x with
 | .str _=>T="str"
 | .int _=>T="int"
 | .ref p=>(T="list"/\∃ xs,SqL K H p xs)\/(T="tuple"/\∃ o,K.lookup p=some o/\o.cls=.type "tuple"/\o.dict=none) \/
  (T="dict"/\((∃ kvs,H p=some (.dK kvs))\/∃ kvs,H p=some (.dT kvs)))\/(T="set"/\∃ S n,H p=some (.set S n))
 | _=>False
theorem Ha {pins:List (Addr×Obj)} {σ:St} {H:Hp} {s:Shared} {T:String} {x:V} {v:Value} (I:Inv X pins σ H s) (r:RelV x v) (ty:tyV X.K T x H) :
  s.TypeIs v T/\∀ a,v=.ref a->∃ ob,s.heap.get? a=some ob/\ob.dict=none:=by
 cases x with
 | str z =>obtain ⟨t,rfl⟩:=r;cases (show T="str" from ty);exact ⟨typeIs_str s z t,fun _ e=>nomatch e⟩
 | int i =>obtain ⟨t,rfl⟩:=r;cases (show T="int" from ty);exact ⟨typeIs_int s i t,fun _ e=>nomatch e⟩
 | ref p =>
  cases r;rcases ty with ⟨rfl,xs,hq⟩ | ⟨rfl,o,hk,hc,hd⟩ | ⟨rfl,hk⟩ | ⟨rfl,S,n,hk⟩
  ·obtain ⟨its,_,pl,_⟩:=I.list hq;refine ⟨pl.isList.typeIs,fun a e=>?_⟩;cases e;obtain ⟨o,n,e,c,hd,_⟩:=pl;exact ⟨o,e,hd⟩
  ·refine ⟨⟨o,I.kIn p o hk,hc⟩,fun a e=>?_⟩;cases e;exact ⟨o,I.kIn _ o hk,hd⟩
  ·have z:∃ o,s.heap.get? p=some o/\o.ExactDict:=by
    rcases hk with ⟨kvs,hk⟩ | ⟨kvs,hk⟩
    ·obtain ⟨_,_,_,_,o,_,_,e,ex,_⟩:=I.hok p _ hk;exact ⟨o,e,ex⟩
    ·obtain ⟨_,_,_,_,o,_,_,e,ex,_⟩:=I.hok p _ hk;exact ⟨o,e,ex⟩
   obtain ⟨o,e,ex⟩:=z;refine ⟨⟨o,e,ex.1⟩,fun a e2=>?_⟩;cases e2;exact ⟨o,e,ex.2.1⟩
  ·obtain ⟨o,_,_,_,e,ex,_⟩:=I.hok p _ hk;refine ⟨⟨o,e,ex.1⟩,fun a e2=>?_⟩;cases e2;exact ⟨o,e,ex.2.1⟩
 | _=>exact False.elim ty
def tBM (K:PySem.W.Frag) (T:String) (r:V->List V->Hp->VK->Prop) (to:TE) (t:TA):TE:=fun σ H Q=>to σ H fun x H1=>tyV K T x H1/\t σ H1 fun xs H2=>r x xs H2 Q
variable {o e:Expr} {es:List Expr} {to:TE} {t:TA} {name:Str} {apos cpos:Pos} {T id:String} {r:V->List V->Hp->VK->Prop}
theorem B3 (pa:PlainAttrs T) (slot:Slot T name id) (hty:typeOf (.builtin id)=pure (.type "method_descriptor")) (hm:MtR X id r) (ho:PE X o to) (ha:PA X (e::es) t)
  (hbase:attributeBase o name X.env (eval o X.env)=eval o X.env:=by rfl)
  (hfew:((backTo cpos (starEach (e::es) X.env)).all (fun x=>!x.1)&&(backToKw cpos (keywordEach [] X.env)).all (fun x=>x.1.isSome)
  &&decide ((e::es).length+([]:List Keyword).length+(if ([]:List Keyword).isEmpty then 0 else 1)<30))=true:=by rfl)
  (hline:(apos.endLine==cpos.line)=true:=by rfl) (hs:starEach (e::es) X.env=(false,eval e X.env)::starEach es X.env:=by rfl) (hplain:(backTo cpos (starEach es X.env)).any (·.1)=false:=by rfl) :
  PE X (.Call (.Attribute o name apos) (e::es) [] cpos) (tBM X.K T r to t):=by
 intro pins s σ H Q I h;refine wpAny_Call_method_late hbase hfew hline rfl (thn (ho pins s σ H _ I h) fun v s1 rz2=>?_);obtain ⟨x,H1,I1,r1,ty,q1⟩:=rz2;obtain ⟨h1,h2⟩:=Ha I1 r1 ty;refine ⟨T,id,pa,slot,hty,h1,h2,?_⟩;have hA:=ha cpos pins s1 σ H1 _ I1 q1;rw [hs] at hA ⊢;refine Calls.callWith_builtin (by show (false || (backTo cpos (starEach es X.env)).any (·.1))=false;rw [hplain] <;> rfl) (Calls.evalArgs_plain ?_);exact thn hA fun us s2 qz2=>(by obtain ⟨vs,H2,I2,r2,q2⟩:=qz2;exact hm pins s2 σ H2 x vs v us Q I2 r1 r2 q2)
end
def MtM (X:Cx) (id:String) (r:V->List V->Hp->VK->Prop):Prop :=
 ∀ (pins:List (Addr×Obj)) (s:Shared) (σ:St) (H:Hp) (x:V) (xs:List V) (v:Value) (us:List Value) (Q:VK),Inv X pins σ H s->RelV x v->Vals xs us->r x xs H Q ->
  wpAny (model X.prog X.w) X.A (call (.builtin id) (v::us)) (EP X pins σ Q) X.xe s
theorem Vals.one {x:V} {us:List Value} (h:Vals [x] us):∃ u,us=[u]/\RelV x u:=by
 cases h with
 | cons r t=>cases t;exact ⟨_,rfl,r⟩
theorem Vals.eraseIdx:∀ {xs:List V} {us:List Value} (i:Nat),Vals xs us->Vals (xs.eraseIdx i) (us.eraseIdx i)
 | _,_,_,.nil=>.nil
 | _,_,0,.cons _ t=>t
 | _,_,i+1,.cons r t=>.cons r (Vals.eraseIdx i t)
theorem Vals.rep {xs:List V} {us:List Value} (h:Vals xs us):∀ k:Nat,Vals (List.replicate k xs).flatten (List.replicate k us).flatten
 | 0=>.nil
 | k+1=>by rw [List.replicate_succ,List.replicate_succ,List.flatten_cons,List.flatten_cons];exact Vals.append h (Vals.rep h k)
theorem tH {α:Type}:∀ (l:List α) (i:Nat),(l.eraseIdx i).length<=l.length
 | [],_=>Nat.le_refl _
 | _::_,0=>Nat.le_succ _
 | _::r,i+1=>Nat.succ_le_succ (tH r i)
theorem foldl_rep (its:List Value):∀ (k:Nat) (acc:List Value),
  List.foldl (fun x1 x2=>x1++x2) acc.toArray (List.replicate k its.toArray)=(acc++(List.replicate k its).flatten).toArray
 | 0,acc=>by simp
 | k+1,acc=>by
  have e:acc.toArray++its.toArray=(acc++its).toArray:=by simp
  have e2:(acc++its)++(List.replicate k its).flatten=acc++(List.replicate (k+1) its).flatten:=by rw [List.replicate_succ,List.flatten_cons,List.append_assoc]
  rw [<-e2,<-foldl_rep its k (acc++its),<-e,List.replicate_succ,List.foldl_cons]
section
variable {X:Cx} {pins:List (Addr×Obj)} {σ:St} {H:Hp} {s:Shared} {l b:Addr} {xs ys zs:List V}
theorem Inv.lset {its its':List Value} {n:Nat} {f:Array Value->Array Value} {t':Nat} (I:Inv X pins σ H s) (hH:H l=some (.lst xs))
  (e:s.heap.get? l=some { cls:=.type "list",data:=.seq its.toArray n }) (hf:f its.toArray=its'.toArray) (hv:Vals ys its') (hz:ys.length<=sizeLine) :
  Inv X pins σ (upd H l (.lst ys)) { s with heap:=s.heap.update l (Obj.mapSeq f),toks:=t' }:=by
 have q:=PySem.IsL.update e f;rw [hf] at q;refine I.write (x:=l) (e:=l) (by rw [hH];exact trivial) (.inl rfl) (fun b' u hb hu=>(Heap.get?_update_other s.heap (Obj.mapSeq f) (Ne.symm hb)).trans hu) ⟨_,q⟩ ?_;exact ⟨hz,its',_,hv,q⟩
theorem Inv.lnew {its:List Value} {t':Nat} (I:Inv X pins σ H s) (hv:Vals ys its) (hz:ys.length<=sizeLine) :
  Inv X pins σ (upd H s.heap.objs.size (.lst ys)) { s with heap:=s.heap.push { cls:=.type "list",data:=.seq its.toArray },toks:=t' } :=
 I.laid (fun _ _ q=>Heap.get?_push_of_some _ q) (Nat.le_refl _) ⟨hz,its,0,hv,Heap.get?_push_size _ rfl⟩
theorem Inv.fresh (I:Inv X pins σ H s):H s.heap.objs.size=none:=I.hok.fresh (Nat.le_refl _)
theorem Inv.lstM (I:Inv X pins σ H s) (hH:H l=some (.lst xs)):xs.length<=sizeLine/\∃ (its:List Value) (n:Nat),Vals xs its/\xs.length=its.length/\s.heap.get? l=some { cls:=.type "list",data:=.seq its.toArray n }:=by obtain ⟨z,its,n,r,e⟩:=I.hok l _ hH;exact ⟨z,its,n,r,r.length,e⟩
theorem Di {n:Nat} (h:n<=sizeLine):Builtin.List.listTooLong n=false:=by unfold Builtin.List.listTooLong;exact decide_eq_false (by omega)
end
section
variable {X:Cx}
def D5:V->List V->Hp->VK->Prop:=fun x vs H Q=>∃ l xs y,x=.ref l/\vs=[y]/\H l=some (.lst xs)/\xs.length<sizeLine/\Q .non (upd H l (.lst (xs++[y])))
theorem nX:MtM X "list.append" D5:=by intro pins s σ H x vs v us Q I rx rv h;obtain ⟨l,xs,y,rfl,rfl,hH,hz,q⟩:=h;cases rx;obtain ⟨u,rfl,ru⟩:=rv.one;obtain ⟨z,its,n,r,hl,e⟩:=I.lstM hH;refine call_meets F.slot_list_append ⟨_,e,rfl⟩ F.entry_list_append (F.args_list_append_2 _ _) (PySem.list_append l its.toArray n u (by rw [List.size_toArray];omega)) ⟨e,?_⟩;refine ⟨.non,_,I.lset (its':=its++[u]) hH e (by simp) (r.append (.cons ru .nil)) ?_,rfl,q⟩;rw [List.length_append,List.length_singleton];omega
def GN:V->List V->Hp->VK->Prop:=fun x vs H Q=>∃ l xs i k y,x=.ref l/\vs=[.int i]/\H l=some (.lst xs)/\-(2 ^ 63)<=i/\i<2 ^ 63/\seqIndex? i xs.length=some k/\xs[k]?=some y/\Q y (upd H l (.lst (xs.eraseIdx k)))
theorem Bi:MtM X "list.pop" GN:=by
 intro pins s σ H x vs v us Q I rx rv h;obtain ⟨l,xs,i,k,y,rfl,rfl,hH,h1,h2,hk,hy,q⟩:=h;cases rx;obtain ⟨u,rfl,ru⟩:=rv.one;obtain ⟨t,rfl⟩:=ru;obtain ⟨z,its,n,r,hl,e⟩:=I.lstM hH;obtain ⟨w,hw,rw'⟩:=r.get hy;refine call_meets F.slot_list_pop ⟨_,e,rfl⟩ F.entry_list_pop (F.args_list_pop_2 _ _)
  (MeetsSeq.list_pop_at l its.toArray n i t k w (fitsIndex_both h1 h2) (by rw [List.size_toArray,<-hl];exact hk) (by rw [<-Array.getElem?_toList];exact hw) (by rw [List.size_toArray];omega)) ⟨e,?_⟩
 refine ⟨y,_,I.lset (its':=its.eraseIdx k) hH e ?_ (r.eraseIdx k) ?_,rw',q⟩
 ·show its.toArray.eraseIdxIfInBounds k=(its.eraseIdx k).toArray;rw [List.eraseIdxIfInBounds_toArray]
 ·have:=tH xs k;omega
def HG:R2:=fun x y H Q=>∃ l b xs zs,x=.ref l/\y=.ref b/\H l=some (.lst xs)/\H b=some (.lst zs)/\xs.length+zs.length<=sizeLine/\∀ p,H p=none->Q (.ref p) (upd H p (.lst (xs++zs)))
theorem Hb:OpR X (binaryOp .Add) HG:=by
 intro pins s σ H x y v u Q I rx ry h;obtain ⟨l,b,xs,zs,rfl,rfl,hH,hB,hz,q⟩:=h;cases rx;cases ry;obtain ⟨z,its,n,r,hl,e⟩:=I.lstM hH;obtain ⟨z2,its2,n2,r2,hl2,e2⟩:=I.lstM hB;refine PySem.P.add_list e e2 ?_ (by rw [List.size_toArray,List.size_toArray];omega);have ea:its.toArray++its2.toArray=(its++its2).toArray:=by simp
 rw [ea];exact ⟨.ref _,_,I.lnew (t':=s.toks) (r.append r2) (by rw [List.length_append];omega),rfl,q _ I.fresh⟩
def HU:R2:=fun x y H Q=>∃ l k xs,x=.ref l/\y=.int k/\H l=some (.lst xs)/\-(2 ^ 63)<=k/\k<2 ^ 63/\xs.length*k.toNat<=sizeLine /\
 ∀ p,H p=none->Q (.ref p) (upd H p (.lst (List.replicate k.toNat xs).flatten))
theorem len_rep {α:Type} (xs:List α) (k:Nat):(List.replicate k xs).flatten.length=k*xs.length:=by
 induction k with
 | zero=>simp
 | succ k ih=>rw [List.replicate_succ,List.flatten_cons,List.length_append,ih,Nat.succ_mul,Nat.add_comm]
theorem Hg:OpR X (binaryOp .Mult) HU:=by
 intro pins s σ H x y v u Q I rx ry h;obtain ⟨l,k,xs,rfl,rfl,hH,h1,h2,hz,q⟩:=h;cases rx;obtain ⟨t,rfl⟩:=ry;obtain ⟨z,its,n,r,hl,e⟩:=I.lstM hH;have hlen:its.toArray.size*k.toNat<=sizeLine:=by rw [List.size_toArray,<-hl];exact hz
 have hcap:¬ its.toArray.size*k.toNat>(2 ^ 63-1) / 8:=by
  have:(sizeLine:Nat)<=(2 ^ 63-1) / 8:=by decide
  omega
 have hfit:¬ (!Builtin.List.listFitsIndex k)=true:=by rw [fitsIndex_both h1 h2];exact Bool.false_ne_true
 have hlong:¬ Builtin.List.listTooLong (its.toArray.size*k.toNat)=true:=by rw [Di hlen];exact Bool.false_ne_true
 have hnew:List.foldl (fun x1 x2=>x1++x2) #[] (List.replicate (if its.toArray.isEmpty=true then 0 else k.toNat) its.toArray)=(List.replicate k.toNat its).flatten.toArray:=by
  have f0:∀ m:Nat,List.foldl (fun x1 x2=>x1++x2) #[] (List.replicate m its.toArray)=(List.replicate m its).flatten.toArray:=fun m=>by have:=foldl_rep its m [];rw [List.nil_append] at this;exact this
  rw [f0];cases its with
  | nil=>simp
  | cons a r'=>rw [if_neg (by simp)]
 refine wpAny_binaryOp_repeat_ref (T:="list") (U:="int") (by decide) ⟨_,e,rfl⟩ (fun s'=>typeIs_int s' k t) noFill_list_mul F.fills_int_mul F.slot_int_rmul repeat_list F.slot_int_index.lookup
  (call_meets F.slot_int_rmul (typeIs_int s k t) F.entry_int_rmul (F.args_int_rmul_2 _ _) (int___rmul___int_list k t l its.toArray n)
   ⟨e,rfl,⟨_,e,rfl⟩,call_meets F.slot_list_mul ⟨_,e,rfl⟩ F.entry_list_mul (F.args_list_mul_2 _ _) (AutoListH.list___mul___list_int_3 l its.toArray n k t hfit hcap hlong) ⟨e,?_⟩⟩)
 rw [hnew];exact ⟨.ref _,_,I.lnew (t':=s.toks) (r.rep k.toNat) (by rw [len_rep,Nat.mul_comm];exact hz),rfl,q _ I.fresh⟩
end
section
variable {prog:Program} {w:World} {A:Around} {E:Value->Shared->Prop} {s:Shared}
end
section
variable {X:Cx}
end
end L2
namespace Att
open PySem PySem.W PySem.Calls PyProof.Rows
theorem oR {P:Params} {h:Heap}:∀ (ns:List Int) (vs:List Value),WellAll P h vs (ns.map WData.int)->IntsAre vs ns:=by
 intro ns
 induction ns with
 | nil =>intro vs w;rw [List.map_nil] at w;cases w;exact .nil
 | cons n ns ih =>
  intro vs w;rw [List.map_cons] at w;cases w with
  | cons a b =>cases a;exact .cons _ _ (ih _ b)
theorem AJ {l:OpenLaw} {n:Nat} (hn:l.most=some n) {P:Params} {h:Heap} {args:List WData} {vals:List Value}
  (hpre:l.row.toRowW.claim.pre args=true) (hwl:WellAll P h vals args) :
  ∃ a vs ns,vals=[Value.ref a]/\args=[WData.list (ns.map WData.int)]/\h.get? a=some { cls:=.type "list",data:=.seq vs.toArray }/\IntsAre vs ns/\ns.length<=n:=by
 have hsh:WShape.hasAll [] args [.list .int]=true:=(pre_splitW hpre).1;have hc:l.pre.holds [] { args:=args }=true:=(pre_splitW hpre).2;obtain ⟨d,r,rfl,h1,h2⟩:=hasAllW_cons hsh;obtain rfl:=hasAllW_nil h2;obtain ⟨xs,rfl,h3⟩:=hasW_list h1;obtain ⟨ns,rfl⟩:=items_int h3;have hlen:ns.length<=n:=by
  unfold OpenLaw.pre at hc;have h4:(WTm.not (.lt (.lit (.int (n:Int))) (.len (.arg 0)))).holds [] { args:=[.list (ns.map .int)] }=true:=by have h4:=(holds_andW hc).1;rw [hn] at h4;exact h4
  have h5:=condW_of h4 (w_not (w_lt w_lit (w_len_list (w_arg rfl))));rw [List.length_map] at h5;refine Nat.le_of_not_lt fun q=>?_
  have q':(n:Int)<((ns.length:Nat):Int):=by omega
  first
   | (rw [decide_eq_true q'] at h5;exact absurd h5 (by decide))
   | (simp at h5;omega)
 cases hwl with
 | cons w1 w2 =>
  cases w2;cases w1 with
  | list ho hall=>exact ⟨_,_,ns,rfl,rfl,ho,oR ns _ hall,hlen⟩
theorem Ay (l:OpenLaw) (args:List WData):l.row.toRowW.claim.post args (.bool true) args=true :=
 postW_of (r:=l.row.toRowW) (X:=(true==true))
  (show WShape.has [] (.bool true) .bool=true by first | rfl | decide | simp [WShape.has,WShape.arms,WShape.armsAll])
  (show (WTm.eq .res (.lit (.bool true))).value [] { args:=args,res:=some (.bool true),after:=args }=some (.bool (true==true)) from w_eq_bool (w_res rfl) w_lit) rfl
theorem wt {l:OpenLaw} {n:Nat} {q:Program} {loose:List Str} {XP:(Str->Option Value)->Heap->Prop} {YP:World->Heap->Prop} {d:DefRec}
  (hn:l.most=some n) (hdf:d.params.defaults=[])
  (call:∀ (w:World) (s₀ s₁:Shared) (mg mb:Str->Option Value) (fa:Addr) (o:Obj) (pm cd doc:Value) (a:Addr) (vs:List Value) (ns:List Int),
   Ground q loose [] XP w s₀ mg mb s₁.heap->YP w s₁.heap ->
   s₁.heap.get? fa=some o->o.data=.func (docDef d.name d.params d.body d.scope pm cd doc)->s₁.heap.CodeRec cd d.name->mg d.name=some (.ref fa) ->
   s₁.heap.get? a=some { cls:=.type "list",data:=.seq vs.toArray }->IntsAre vs ns->ns.length<=n->s₁.gens=#[] ->
   codeAny (model l.prog w) callerA (.call (.ref fa) ⟨[.ref a],[]⟩) (fun r s'=>r=.ok (.ret (.bool true))/\OldK s₁.heap s'.heap/\s'.os=s₁.os/\AllBare s'.gens) s₁) :
  WalkO q loose XP YP l.row.toRowW d [] (fun f vs=>PySem.call f vs):=by
 intro w s₀ s₁ mg mb G Y fa o pm cd doc dV kV ho hd hcd hD hmg hg args vals as hpre hlay hrd hwl hlo;obtain rfl:dV=.none:=Dflts.none hD hdf;obtain rfl:kV=.none:=Dflts.noKw hD;obtain ⟨a,vs,ns,rfl,rfl,hobj,hints,hlen⟩:=AJ hn hpre hwl;refine enter_call (codeAny_mono (call w s₀ s₁ mg mb fa o pm cd doc a vs ns G Y ho (fd_plain hd) hcd hmg hobj hints hlen hg) fun r s' hq=>?_);obtain ⟨rfl,h2,h3,h4⟩:=hq;exact ⟨.inl ⟨.bool true,.bool true,[],rfl,fun _=>rfl,.bool true,Ay l _,fun _=>⟨List.Pairwise.nil,fun _ hm=>(nomatch hm)⟩⟩,h2,h3,h4⟩
section
variable {prog:Program} {w:World} {A:Around} {E:Value->Shared->Prop} {s:Shared} {K:Frag}
end
end Att
namespace L2
open PySem PySem.Spec PyProof.Rows
theorem su:∀ {vs:List Value} {ns:List Int},IntsAre vs ns->Vals (ns.map V.int) vs
 | _,_,.nil=>.nil
 | _,_,.cons n t h=>.cons ⟨t,rfl⟩ (su h)
def FY (H:Hp):Prop:=∀ b,H b=none\/(∃ o xs,H b=some (.frz o (.lst xs)))\/∃ q,H b=some (.tbl q)
def nL (K:PySem.W.Frag) (h:Heap):Prop:=(∀ P q,TabOf K P q->h.get? P=some { cls:=.none,data:=.fields #[] }/\K.lookup P=none/\isCodeTable h P)/\∀ P q q',TabOf K P q->TabOf K P q'->q=q'
section
open Classical
def kY (K:PySem.W.Frag):Hp:=fun b=>if h:∃ q,TabOf K b q then some (.tbl h.choose) else none
theorem dE (K:PySem.W.Frag) (b:Addr):kY K b=none\/∃ q,TabOf K b q/\kY K b=some (.tbl q):=by
 unfold kY;split
 ·rename_i h;exact .inr ⟨_,h.choose_spec,rfl⟩
 ·exact .inl rfl
theorem tW {K:PySem.W.Frag} {h:Heap} (hT:nL K h) {P:Addr} {q:Str} (t:TabOf K P q):kY K P=some (.tbl q):=by
 rcases dE K P with e | ⟨q',t',e⟩
 ·unfold kY at e;rw [dif_pos ⟨q,t⟩] at e;cases e
 ·rw [e,hT.2 P q q' t t']
end
def oa (mg:Str->Option Value) (base:Heap):Prop:=∃ bm o,mg "__builtins__"=some (.ref bm)/\bm≠builtinsNs/\bm≠mainGlobals/\base.get? bm=some o/\o.cls=.type "module"/\o.dict=some builtinsNs/\o.data=.plain
theorem law_call {P:Program} {w:World} {K:PySem.W.Frag} {mg mb:Str->Option Value} {CX:CXT} {k:Nat} {fa a:Addr} {fd:FuncData} {x:Str} {sp:Sp} {s₁:Shared} {vs:List Value} {ns:List Int}
  (KX:K.In s₁.heap) (hns:s₁.heap.Ns mainGlobals mg) (hb:s₁.heap.Ns builtinsNs mb) (hbb:∀ x:Str,x≠"__name__"->mb x=bootBuiltins x) (hlim:s₁.heap.NoLimit) (hg:s₁.gens=#[])
  (ha:s₁.heap.get? a=some { cls:=.type "list",data:=.seq vs.toArray }) (hi:IntsAre vs ns) (hl:ns.length<=sizeLine) (hr:cC k callerA)
  (hBl:oa mg s₁.heap) (F:∀ base:Heap,K.In base->base.Ns mainGlobals mg->oa mg base->hU P w K mg base CX k fa fd [x] sp) (hbind:∀ (s:Shared) (u:Value),BindsTo s fd ⟨[u],[]⟩ [(x,u)])
  (hsp:∀ H:Hp,FY H->SqL K H a (ns.map V.int)->sp [.ref a] H (fun v _=>v=.bl true) fun _ _ _=>False)
  (hCX:∀ H e s',CX [] H s₁ (fun _ _ _=>False) e s'->False) (hT:nL K s₁.heap) :
  codeAny (model P w) callerA (.call (.ref fa) ⟨[.ref a],[]⟩) (fun r s'=>r=.ok (.ret (.bool true))/\OldK s₁.heap s'.heap/\s'.os=s₁.os/\AllBare s'.gens) s₁:=by
 have rv:=su hi;have lenV:=hi.length
 -- from an abstract heap in which nothing but the script may be tracked
 have core:∀ H:Hp,FY H->SqL K H a (ns.map V.int)->HOk P w H s₁.heap->(∀ b,H b≠none->b=a\/∃ q,TabOf K b q)->(H a≠none->K.lookup a=none)->(∀ P q,TabOf K P q->H P=some (.tbl q)) ->
   codeAny (model P w) callerA (.call (.ref fa) ⟨[.ref a],[]⟩) (fun r s'=>r=.ok (.ret (.bool true))/\OldK s₁.heap s'.heap/\s'.os=s₁.os/\AllBare s'.gens) s₁:=by
  intro H hO hS hok hA hK hTb;have base_of:∀ {b:Addr} {o:Obj},s₁.heap.get? b=some o->H b=none->(si s₁.heap H).get? b=some o:=fun e n=>CL e n
  have noA:∀ {b:Addr} {o:Obj} {es:Array DictEntry} {ep:Nat},s₁.heap.get? b=some o->o.data=.dict es ep->H b=none:=fun {b o es ep} e d=>by
   cases q:H b with
   | none=>rfl
   | some u =>
    rcases hA b (by rw [q];simp) with e' | ⟨qq,e'⟩
    case inr=>rw [(hT.1 b qq e').1] at e;cases e;cases d
    subst e';rw [ha] at e;cases e;have d':Data.seq vs.toArray _=Data.dict es ep:=d;cases d'
  have nsK:∀ {b:Addr} {m:Str->Option Value},s₁.heap.Ns b m->(si s₁.heap H).Ns b m:=fun {b m} qz2=>(by obtain ⟨o,es,ep,e,d,r⟩:=qz2;exact ⟨o,es,ep,base_of e (noA e d),d,r⟩)
  have hKb:K.In (si s₁.heap H):=fun b o e=>base_of (KX b o e) (by
   cases q:H b with
   | none=>rfl
   | some u =>
    rcases hA b (by rw [q];simp) with e' | ⟨qq,e'⟩
    case inr=>rw [(hT.1 b qq e').2.1] at e;cases e
    subst e';rw [hK (by rw [q];simp)] at e;cases e)
  have hM:Mod K mg (si s₁.heap H):=⟨hKb,nsK hns,⟨mb,nsK hb,hbb⟩,let ⟨mc,h1,h2⟩:=hlim;⟨mc,nsK h1,h2⟩⟩
  have e0:u6 P w K mg (si s₁.heap H) callerA [] s₁ H:=⟨rfl,hM,fun b o e=>ED e,Nat.le_of_eq (AD _ _),trivial,fun b hb=>absurd (show b∈([]:List Addr) from hb) (by simp),hok,.of_eq hg,hTb⟩
  have hBb:oa mg (si s₁.heap H):=by
   obtain ⟨bm,ob,b1,b2,b3,b4,b5,b6,b7⟩:=hBl;refine ⟨bm,ob,b1,b2,b3,base_of b4 ?_,b5,b6,b7⟩;cases q:H bm with
   | none=>rfl
   | some u =>
    rcases hA bm (by rw [q];simp) with e' | ⟨qq,e'⟩
    case inr=>rw [(hT.1 bm qq e').1] at b4;cases b4;cases b5
    subst e';rw [ha] at b4;cases b4;simp at b5
  refine codeAny_mono ((F _ hKb (nsK hns) hBb).run callerA [] s₁ H ⟨[.ref a],[]⟩ [.ref a] [.ref a] _ _ hr e0 (hbind s₁ (.ref a)) (.cons rfl .nil) (hsp H hO hS)) fun r s' h=>?_
  cases r with
  | error e=>exact (hCX H e s' h).elim
  | ok fl =>
   cases fl with
   | next=>exact False.elim h
   | brk=>exact False.elim h
   | cont=>exact False.elim h
   | ret u =>
    obtain ⟨v,H',os,bare,un,hok',r',q⟩:=h;have q':v=.bl true:=q;subst q';obtain rfl:u=Value.bool true:=r';have old:∀ b o,s₁.heap.get? b=some o->s'.heap.get? b=some o\/(isCodeTable s₁.heap b/\o.cls=.none/\∃ vs more,o.data=.fields vs/\s'.heap.get? b=some { o with data:=.fields (vs++more) }):=fun b o e=>?old
    case old =>
     cases q:H b with
     | none=>exact .inl <| un.keep b o e q (by intro z;exact absurd (show b∈([]:List Addr) from z) (by simp)) (by simp)
     | some u =>
      rcases hO b with z | ⟨ob,xs,z⟩ | ⟨qq,z⟩
      ·rw [q] at z;cases z
      ·have z2:=un.frzs b ob _ z;obtain ⟨e1,_⟩:=hok b _ z;obtain ⟨e2,_⟩:=hok' b _ z2;rw [e] at e1;cases e1;exact .inl e2
      ·have z2:=un.tbls b qq z;obtain ⟨ps,e2,_⟩:=hok' b _ z2;rcases hA b (by rw [z];simp) with e' | ⟨q2,e'⟩
       ·obtain ⟨ps0,e3,_⟩:=hok b _ z;rw [e'] at e3;rw [ha] at e3;cases e3
       ·obtain ⟨e3,_,e4⟩:=hT.1 b q2 e';rw [e] at e3;cases e3;exact .inr ⟨e4,rfl,#[],ps,rfl,by simpa using e2⟩
    exact ⟨rfl,⟨fun b o e=>(old b o e).imp id fun z=>.inl z,fun b o e=>by rcases old b o e with z | ⟨_,_,_,_,_,z⟩ <;> exact ⟨_,z⟩⟩,os,bare⟩
 have tok:∀ b q,TabOf K b q->dD P w (fun _=>none) s₁.heap b (.tbl q):=fun b q t=>⟨#[],(hT.1 b q t).1,trivial,fun pos cv z=>nomatch z⟩
 have tokH:∀ (H:Hp) b q,TabOf K b q->dD P w H s₁.heap b (.tbl q):=fun H b q t=>⟨#[],(hT.1 b q t).1,trivial,fun pos cv z=>nomatch z⟩
 have na:∀ q,¬ TabOf K a q:=fun q t=>by have:=(hT.1 a q t).1;rw [ha] at this;cases this
 cases hk:K.lookup a with
 | some o =>
  have e:=KX a o hk;rw [ha] at e;cases e;refine core (kY K) (fun b=>(dE K b).imp id fun qz0=>(by obtain ⟨q,_,e⟩:=qz0;exact .inr ⟨q,e⟩)) (.inr ⟨_,vs.toArray,_,hk,rfl,rfl,rfl,by rw [List.size_toArray,lenV];exact hl,by simpa using rv⟩) (fun b u z=>?_) (fun b z=>?_) (fun z=>?_) fun P q t=>tW hT t
  ·rcases dE K b with e | ⟨q,t,e⟩
   ·rw [z] at e;cases e
   ·rw [z] at e;cases e;exact tokH _ b q t
  ·rcases dE K b with e | ⟨q,t,e⟩
   ·exact absurd e z
   ·exact .inr ⟨q,t⟩
  ·rcases dE K a with e | ⟨q,t,e⟩
   ·exact absurd e z
   ·exact absurd t (na q)
 | none =>
  have eT:∀ b,b≠a->(fun b=>if b=a then some (HO.frz { cls:=.type "list",data:=.seq vs.toArray } (.lst (ns.map V.int))) else kY K b) b=kY K b:=fun b h=>if_neg h
  have eA:(fun b=>if b=a then some (HO.frz { cls:=.type "list",data:=.seq vs.toArray } (.lst (ns.map V.int))) else kY K b) a=some (HO.frz { cls:=.type "list",data:=.seq vs.toArray } (.lst (ns.map V.int))):=if_pos rfl;refine core (fun b=>if b=a then some (.frz { cls:=.type "list",data:=.seq vs.toArray } (.lst (ns.map V.int))) else kY K b) (fun b=>?_) (.inl (.inr ⟨{ cls:=.type "list",data:=.seq vs.toArray },if_pos rfl⟩)) (fun b u z=>?_) (fun b z=>?_) (fun _=>hk) fun P q t=>?_
  ·by_cases hb:b=a
   ·exact .inr (.inl ⟨_,_,if_pos hb⟩)
   ·rw [eT b hb];exact (dE K b).imp id fun qz0=>(by obtain ⟨q,_,e⟩:=qz0;exact .inr ⟨q,e⟩)
  ·by_cases hb:b=a
   ·subst hb;rw [eA] at z;cases z;exact ⟨ha,by rw [List.length_map];exact hl,vs,_,rv,ha⟩
   ·rw [eT b hb] at z;rcases dE K b with e | ⟨q,t,e⟩
    · rw [z] at e;cases e
    · rw [z] at e;cases e;exact tokH _ b q t
  ·by_cases hb:b=a
   ·exact .inl hb
   ·rcases dE K b with e | ⟨q,t,e⟩
    · exact absurd ((if_neg hb).trans e) z
    · exact .inr ⟨q,t⟩
  ·exact (if_neg (fun z=>na q (by rw [<-z];exact t))).trans (tW hT t)
abbrev KOf {K:PySem.W.Frag} {h:Heap} (_:K.In h):PySem.W.Frag:=K
theorem yO {l:PySem.W.OpenLaw} {n k:Nat} {q:Program} {loose:List Str} {XP:(Str->Option Value)->Heap->Prop} {YP:World->Heap->Prop} {d:DefRec} {K:Params->PySem.W.Frag} {CX:World->CXT} {sp:World->Sp} {x:Str}
  (hn:l.most=some n) (hn2:n<=sizeLine) (hdf:d.params.defaults=[]) (hr:cC k callerA)
  (hY:∀ (w:World) (h:Heap),YP w h->(K w.params).In h)
  (F:∀ (w:World) (mg:Str->Option Value) (fa:Addr) (h:Heap),(K w.params).In h->h.Ns mainGlobals mg->mg d.name=some (.ref fa) ->
   ∃ fd:FuncData,(∀ (s:Shared) (u:Value),BindsTo s fd ⟨[u],[]⟩ [(x,u)]) /\
    ∀ base:Heap,(K w.params).In base->base.Ns mainGlobals mg->oa mg base->hU l.prog w (K w.params) mg base (CX w) k fa fd [x] (sp w))
  (hsp:∀ (w:World) (H:Hp) (a:Addr) (ns:List Int),ns.length<=n->FY H->SqL (K w.params) H a (ns.map V.int)->sp w [.ref a] H (fun v _=>v=.bl true) fun _ _ _=>False)
  (hCX:∀ (w:World) (H:Hp) (s:Shared) (e:Value) (s':Shared),CX w [] H s (fun _ _ _=>False) e s'->False) (hTb:∀ (w:World) (h:Heap) (loose':List Str) (mean:ExcName->Option Value) (mg mb:Str->Option Value),PyProof.Rows.Top q loose' mean mg mb h->(K w.params).In h->nL (K w.params) h) :
  PySem.W.WalkO q loose XP YP l.row.toRowW d [] (fun f vs=>PySem.call f vs):=by
 refine Att.wt hn hdf fun w s₀ s₁ mg mb fa o pm cd doc a vs ns G Y ho hd hcd hmg hobj hints hlen hg=>?_
 have KX:=hY w _ Y;obtain ⟨fd,hb,hF⟩:=F w mg fa _ KX G.T.g hmg;exact law_call KX G.T.g G.T.b G.T.builtins G.T.nolimit hg hobj hints (Nat.le_trans hlen hn2) hr (by obtain ⟨bm,ob,M⟩:=PySem.W.bmod_of_top G.T;exact ⟨bm,ob,M.name,M.ne,(fun z=>by obtain ⟨o,es,ep,e1,e2,_⟩:=M.ns;rw [<-z,M.obj] at e1;cases e1;rw [M.data] at e2;cases e2),M.obj,M.cls,M.dict,M.data⟩) hF hb (fun H hO hS=>hsp w H a ns hlen hO hS) (fun H e s'=>hCX w H s₁ e s') (hTb w _ _ _ _ _ G.T KX)
def inClass (s:Stmt) (j:Nat):Stmt:=match s with
 | .ClassDef _ _ _ body _ _ _ _ _ _ _=>body.getD j (.Pass ⟨0,0,0,0⟩)
 | _=>.Pass ⟨0,0,0,0⟩
def fw (s:Stmt):Arguments:=match s with
 | .FunctionDef _ a _ _ _ _ _ _ _ _=>a
 | _=>{ posonlyargs:=[],args:=[],vararg:=none,kwonlyargs:=[],kw_defaults:=[],kwarg:=none,defaults:=[] }
def cX (s:Stmt):List Stmt:=match s with
 | .FunctionDef _ _ b _ _ _ _ _ _ _=>b
 | _=>[]
def ay (s:Stmt):Scope:=match s with
 | .FunctionDef _ _ _ _ _ _ sc _ _ _=>sc
 | _=>{ kind:=.function,names:=[],isGenerator:=false,isCoroutine:=false }
abbrev CX0:CXT:=fun _ _ _ _ _ _=>False
abbrev E0:XK:=fun _ _ _=>False
theorem HM {X:Cx}:Passes CX0 X E0:=fun _ _ _ _ _ _ _ h=>h.elim
structure Fun (K:PySem.W.Frag) (x qual:Str) (st:Stmt) (f:Addr) (fd:FuncData):Prop where
 ex:∃ (oc:Value) (od:Option Addr) (kV doc pm:Value) (an:Option Addr) (cdv ct:Value) (osl:Array (Option Value)),
  fd=PySem.W.fnOf x qual (fw st) (cX st) (ay st) .none kV doc pm an cdv ct/\K.lookup f=some ⟨oc,od,.func fd,osl⟩/\PySem.W.codeIn K cdv qual=true
 kp:PySem.W.keepIn K (.ref f)=true
section
variable {P:Program} {w:World} {K:PySem.W.Frag} {mg:Str->Option Value} {base:Heap}
theorem Fun.ok {x qual:Str} {st:Stmt} {f:Addr} {fd:FuncData} {N ps:List Str} {k:Nat} {sp:Sp} (F:Fun K x qual st f fd) (S:a9 N ps (ay st)) (len:∀ vs H Q E,sp vs H Q E->vs.length=ps.length)
  (hbody:∀ (cdv:Value) (A:Around) (outer:List Env) (s:Shared) (H:Hp) (vs:List V) (Q:VK) (E:XK),cC k (A.deeper (envOfC qual (ay st) s.heap.objs.size f cdv))->sp vs H Q E ->
   ∃ t,PSs (d6 CX0 P w K mg base N qual (ay st) f cdv A outer s H E).nox (cX st) t/\t { nx:=fun _ H'=>Q .non H',rt:=Q } (start N vs) H):hU P w K mg base CX0 (k+1) f fd ps sp:=by
 obtain ⟨oc,od,kV,doc,pm,an,cdv,ct,osl,rfl,lk,hcd⟩:=F.ex;refine Cc lk hcd S len fun A outer s H vs Q E hr hsp=>?_
 obtain ⟨t,h,q⟩:=hbody cdv A outer s H vs Q E hr hsp;exact ⟨t,h.nox,q⟩
theorem Fun.binds {x qual:Str} {st:Stmt} {f:Addr} {fd:FuncData} {ps:List Str} (F:Fun K x qual st f fd)
  (h:∀ (kV doc pm:Value) (an:Option Addr) (cdv ct:Value) (us:List Value),us.length=ps.length->bindArgs (PySem.W.fnOf x qual (fw st) (cX st) (ay st) .none kV doc pm an cdv ct) ⟨us,[]⟩=pure (ps.zip us)):Binds K fd ps []:=by
 obtain ⟨oc,od,kV,doc,pm,an,cdv,ct,osl,rfl,lk,hcd⟩:=F.ex;exact .all (h kV doc pm an cdv ct)
theorem yu {x qual:Str} {st:Stmt} {f:Addr} {oc:Value} {od an:Option Addr} {osl:Array (Option Value)} {kV doc pm cdv ct:Value} (l:K.lookup f=some ⟨oc,od,.func (PySem.W.fnOf x qual (fw st) (cX st) (ay st) .none kV doc pm an cdv ct),osl⟩)
 (c:PySem.W.codeIn K cdv qual=true) (k:PySem.W.keepIn K (.ref f)=true):Fun K x qual st f (PySem.W.fnOf x qual (fw st) (cX st) (ay st) .none kV doc pm an cdv ct):=⟨⟨oc,od,kV,doc,pm,an,cdv,ct,osl,rfl,l,c⟩,k⟩
end
section
variable {X:Cx}
theorem pv (i:Nat) {x:Str} {pos:Pos} (hN:X.N[i]?=some x:=by rfl) (hv:Vis X.env.scope x:=by first | exact Or.inl rfl | exact Or.inr (Or.inl rfl) | exact Or.inr (Or.inr rfl)) (hd:(x==("__debug__":Str))=false:=by decide)
 (hcd:(x==("__classdict__":Str))=false:=by decide):PE X (.Name x pos) (Ig i):=lI hN hv hd hcd
end
theorem HR {c A B:Prop} [Decidable c] (h1:c->A) (h2:¬ c->B):if c then A else B:=by
 by_cases h:c
 ·rw [if_pos h];exact h1 h
 ·rw [if_neg h];exact h2 h
def az (H H':Hp):Prop:=∀ b o,H b=some o->H' b=some o
theorem az.refl (H:Hp):az H H:=fun _ _ h=>h
theorem az.trans {H H1 H2:Hp} (a:az H H1) (b:az H1 H2):az H H2:=fun c o h=>b c o (a c o h)
theorem az.free {H H':Hp} (e:az H H') {l:Addr} (h:H' l=Option.none):H l=Option.none:=by
 cases q:H l with
 | none=>rfl
 | some o =>rw [e l o q] at h;cases h
theorem az.seq {K:PySem.W.Frag} {H H':Hp} {a:Addr} {xs:List V} (e:az H H') (h:SqL K H a xs):SqL K H' a xs:=by
 rcases h with (h | ⟨o,h⟩) | h
 ·exact .inl (.inl (e _ _ h))
 ·exact .inl (.inr ⟨o,e _ _ h⟩)
 ·exact .inr h
end L2
set_option maxHeartbeats 4000000
namespace L2
open PySem PySem.Spec PyProof.Rows
def tE (CX:CXT) (P:Program) (w:World) (K:PySem.W.Frag) (mg:Str->Option Value) (base:Heap) (N:List Str) (qual:Str) (scope:Scope) (f:Addr) (cd:Value) (cl:List (Str×Addr)) (A:Around) (outer:List Env) (s:Shared) (H:Hp) (E:XK):Cx where
 prog:=P
 w:=w
 K:=K
 mg:=mg
 base:=base
 A:=A.deeper (PySem.W.envX qual scope s.heap.objs.size f cd cl)
 N:=N
 s₀:=s
 H₀:=H
 env:=PySem.W.envX qual scope s.heap.objs.size f cd cl
 outer:=outer
 stack:=PySem.W.envX qual scope s.heap.objs.size f cd cl::outer
 ex:=[]
 calm:=true
 fn:=fun _=>false
 pn:=[]
 xe:=fun e s'=>wpAny (model P w) (A.deeper (PySem.W.envX qual scope s.heap.objs.size f cd cl)) (leaving (PySem.W.envX qual scope s.heap.objs.size f cd cl) e) (fun _ s''=>CX outer H s E e s'') (fun e' s''=>CX outer H s E e' s'') s'
theorem sY {α:Type} {y:Str} {u:α}:∀ {l:List (Str×α)},(l.map (·.1)).Nodup->(y,u)∈l->l.lookup y=some u
 | [],_,h=>by cases h
 | (z,w)::l,nd,h=>by
  rw [List.lookup_cons];rw [List.map_cons,List.nodup_cons] at nd;rcases List.mem_cons.mp h with h | h
  ·cases h;simp
  ·have m:y∈l.map (·.1):=List.mem_map_of_mem (f:=(·.1)) h;have:y≠z:=fun q=>nd.1 (by subst q;exact m)
   rw [show (y==z)=false by simpa using this];exact sY nd.2 h
theorem Ac {α:Type} {y:Str} {u:α} {ps:List Str} {us:List α} {i:Nat} (nd:ps.Nodup) (hl:us.length=ps.length) (h1:ps[i]?=some y) (h2:us[i]?=some u):(ps.zip us).reverse.lookup y=some u:=by
 refine sY ?_ ?_
 ·rw [List.map_reverse,List.map_fst_zip (by omega)];exact (List.reverse_perm ps).symm.nodup nd
 ·rw [List.mem_reverse];refine List.mem_of_getElem? (i:=i) ?_;rw [List.getElem?_zip_eq_some];exact ⟨h1,h2⟩
structure md (N ps:List Str) (sc:Scope):Prop where
 kind:sc.kind=.function
 co:sc.isCoroutine=false
 gen:sc.isGenerator=false
 nd:N.Nodup
 pre:N.take ps.length=ps
 par:∀ x∈ps,sc.names.lookup x=some .local
 nocell:∀ x∈sc.names,x.2≠.cell
structure FJ (s:Shared) (H:Hp) (cl:List (Str×Addr)) (sc:Scope) (N:List Str) (n:Nat) (ws:List (Option V)):Prop where
 inj:∀ x y c,cl.lookup x=some c->cl.lookup y=some c->x=y
 has:∀ x,sc.names.lookup x=some .free->∃ c,cl.lookup x=some c
 cell:∀ x c,cl.lookup x=some c->∃ v,s.heap.IsCell c v
 free:∀ x c,cl.lookup x=some c->H c=none
 len:N.length=n+ws.length
 val:∀ (i:Nat) (x:Str) (v:V),N[n+i]?=some x->ws[i]?=some (some v)->∃ u c,RelV v u/\sc.names.lookup x=some .free/\cl.lookup x=some c/\s.heap.IsCell c (some u)
theorem E7 {CX:CXT} {P:Program} {w:World} {K:PySem.W.Frag} {mg:Str->Option Value} {base:Heap} {N ps:List Str} {qual:Str} {scope:Scope} {f:Addr} {cd:Value} {cl:List (Str×Addr)} {A:Around} {outer:List Env} {s:Shared} {H:Hp} {E:XK} {us:List Value} {vs:List V} {ws:List (Option V)} {h1:Heap} {tk:Nat}
  (S:md N ps scope) (hd:A.handled=none) (e0:u6 P w K mg base A outer s H) (hl:vs.length=ps.length) (r:Vals vs us) (C:FJ s H cl scope N ps.length ws)
  (hns:h1.Ns s.heap.objs.size (fun x=>(ps.zip us).reverse.lookup x)) (hk:∀ b o,s.heap.get? b=some o->h1.get? b=some o) :
  Inv (tE CX P w K mg base N qual scope f cd cl A outer s H E) [] (vs.map some++ws) H { s with heap:=h1,toks:=tk }:=by
 have noA:∀ b:Addr,b∉(tE CX P w K mg base N qual scope f cd cl A outer s H E).ex:=fun b z=>absurd (show b∈([]:List Addr) from z) (by simp)
 have kc:∀ c v,s.heap.IsCell c v->h1.IsCell c v:=fun c v q=>by obtain ⟨o,e,d⟩:=q;exact ⟨o,hk _ _ e,d⟩
 refine ⟨⟨e0.mod,S.kind,rfl,rfl,Nat.le_refl _,fun y z c h1 h2=>C.inj y z c h1 h2,fun y hy=>?_,fun y c z _=>(by cases z),fun _=>hd,Around.frames_deeper e0.frames,.inr ⟨rfl,rfl⟩,fun b z=>absurd z (noA b),e0.bs,e0.bsz,fun b _ _=>noA b,fun b z=>absurd z (noA b),e0.funs,e0.frf⟩,
  rfl,e0.bare,Un.kept hk,⟨_,hns,fun i y v h1 h2 h3=>?_⟩,fun y c h=>?_,e0.hok.fresh (Nat.le_refl _),fun y c h=>C.free y c h,fun p hp=>absurd (show p∈([]:List (Addr×Obj)) from hp) (by simp),e0.hok.kept hk,?_,e0.tab⟩
 ·have hy:scope.names.lookup y=some .cell\/scope.names.lookup y=some .free:=hy;rcases hy with hy | hy
  ·exact absurd rfl (S.nocell _ (PySem.mem_of_lookup hy))
  ·exact C.has y hy
 ·have h1:N[i]?=some y:=h1;by_cases hi:i<vs.length
  ·have ha:vs[i]?=some v:=by
    rw [List.getElem?_append_left (by simpa using hi),List.getElem?_map] at h2;cases e:vs[i]? with
    | none=>rw [e] at h2;cases h2
    | some a=>rw [e] at h2;cases h2;rfl
   obtain ⟨u,hu,rv⟩:=r.get ha;have hp:ps[i]?=some y:=by rw [<-S.pre,List.getElem?_take_of_lt (by omega)];exact h1
   have ndP:ps.Nodup:=by rw [<-S.pre];exact S.nd.sublist (List.take_sublist _ _)
   refine ⟨u,rv,.inl ⟨S.par y (List.mem_of_getElem? hp),?_⟩⟩;exact Ac ndP (by rw [<-r.length,hl]) hp hu
  ·rw [List.getElem?_append_right (by simpa using hi),List.length_map] at h2;have e:N[ps.length+(i-vs.length)]?=some y:=by rw [<-hl,Nat.add_sub_cancel' (by omega)];exact h1
   obtain ⟨u,c,rv,k,l,q⟩:=C.val _ _ _ e h2;exact ⟨u,rv,.inr ⟨.inr k,c,l,kc _ _ q⟩⟩
 ·obtain ⟨v,q⟩:=C.cell y c h;exact ⟨v,kc _ _ q⟩
 ·show _=N.length;rw [List.length_append,List.length_map,hl,C.len]
theorem D8 {CX:CXT} {P:Program} {w:World} {K:PySem.W.Frag} {mg:Str->Option Value} {base:Heap} {N ps:List Str} {k:Nat} {name qual:Str} {params:Arguments} {body:Expr} {scope:Scope} {f c':Addr} {pm ctv:Value} {cl:List (Str×Addr)} {A:Around} {outer:List Env} {s:Shared} {H:Hp} {Q:VK} {E:XK} {us:List Value} {vs:List V} {ws:List (Option V)} {t:TE}
  (S:md N ps scope) (hr:cC (k+1) A) (e0:u6 P w K mg base A outer s H) (hl:vs.length=ps.length) (r:Vals vs us) (C:FJ s H cl scope N ps.length ws)
  (ho:s.heap.get? f=some (PySem.W.kla_obj name qual params body scope cl pm c' ctv)) (hcd:s.heap.CodeRec (.ref c') qual)
  (hb:bindArgs (PySem.W.kla_fn name qual params body scope cl pm (.ref c') ctv) ⟨us,[]⟩=pure (ps.zip us))
  (hbody:PE (tE CX P w K mg base N qual scope f (.ref c') cl A outer s H E) body t) (hq:t (vs.map some++ws) H Q) :
  codeAny (model P w) A (.call (.ref f) ⟨us,[]⟩) (CR CX outer P w H s Q E) s:=by
 have lim:s.heap.NoLimit:=e0.mod.nolimit.keeps fun b o e=>(e0.bs b o e).1
 refine PySem.W.kla_callFunE hr.depth ho rfl S.co S.gen rfl hcd ?_;rw [hb];refine wpAny_pure (wpAny_newFunctionEnv S.nocell (fun y hy=>S.par y.1 (List.of_mem_zip (a:=y.1) (b:=y.2) hy).1) (fun h₁ hns hsb=>⟨lim.fresh _ hsb,?_⟩) S.kind);have hk₁:∀ b o,s.heap.get? b=some o->h₁.get? b=some o:=fun b o e=>hsb.extBut b o (Nat.ne_of_lt (Heap.lt_size e)) (Heap.get?_push_of_some _ e)
 have I:=E7 (CX:=CX) (qual:=qual) (f:=f) (cd:=.ref c') (E:=E) (tk:=s.toks+(ps.zip us).length) S hr.hd e0 hl r C hns hk₁;exact PySem.W.kla_codeExpr (wpAny_mono (hbody [] _ _ H Q I hq) (fun u s' qz2=>(by obtain ⟨v,H',J,rv,q⟩:=qz2;exact ⟨v,H',J.os,J.bare,J.base,J.hok,rv,q⟩)) fun _ _ y=>y)
def mY:List (Str×NameKind)->List (Str×Addr)->List (Str×Addr)->List (Str×Addr)
 | [],_,acc=>acc
 | (n,k)::r,cells,acc=>mY r cells (if k==.free then (match cells.lookup n with | some c=>(n,c)::acc | none=>acc) else acc)
theorem jx (env:Env):∀ (names:List (Str×NameKind)) (acc:List (Str×Addr)),(∀ y∈names,y.2=.free->∃ c,env.cells.lookup y.1=some c) ->
  (forIn names acc (fun (x:Str×NameKind) (cs:List (Str×Addr))=>match x with
   | (name,kind)=>if (kind==NameKind.free)=true then do let c <-cellOf env name;pure (ForInStep.yield ((name,c)::cs)) else pure (ForInStep.yield cs)):Sem (List (Str×Addr)))=pure (mY names env.cells acc)
 | [],acc,_=>rfl
 | (n,k)::r,acc,h=>by
  rw [List.forIn_cons];have hr:∀ y∈r,y.2=.free->∃ c,env.cells.lookup y.1=some c:=fun y hy=>h y (List.mem_cons_of_mem _ hy)
  dsimp only [mY];by_cases hk:k=.free
  ·subst hk;obtain ⟨c,hc⟩:=h (n,.free) List.mem_cons_self rfl;have hc':env.cells.lookup n=some c:=hc;have e:cellOf env n=pure c:=by unfold cellOf;rw [hc']
   rw [if_pos (show (NameKind.free==NameKind.free)=true by decide),if_pos (show (NameKind.free==NameKind.free)=true by decide),e,hc'];exact jx env r ((n,c)::acc) hr
  ·have hb:¬ (k==NameKind.free)=true:=by simpa using hk
   rw [if_neg hb,if_neg hb];exact jx env r acc hr
theorem jF {scope:Scope} {env:Env} (h:∀ y∈scope.names,y.2=.free->∃ c,env.cells.lookup y.1=some c):closureFor scope env=pure (mY scope.names env.cells []):=by have e:=jx env scope.names [] h;unfold closureFor;rw [<-bind_pure (forIn scope.names [] _)] at e;exact e
theorem qJ:∀ (names:List (Str×NameKind)) (cells acc:List (Str×Addr)) (x:Str) (c:Addr),(∀ x c,acc.lookup x=some c->cells.lookup x=some c)->(mY names cells acc).lookup x=some c->cells.lookup x=some c
 | [],_,_,x,c,h,e=>h x c e
 | (n,k)::r,cells,acc,x,c,h,e=>by
  refine qJ r cells _ x c (fun y d hy=>?_) e;split at hy
  ·split at hy
   ·rename_i c' hc';rw [List.lookup_cons] at hy;by_cases hyn:(y==n)=true
    ·rw [hyn] at hy;have hy':y=n:=eq_of_beq hyn;subst hy';cases hy;exact hc'
    ·have:(y==n)=false:=by simpa using hyn
     rw [this] at hy;exact h y d hy
   ·exact h y d hy
  ·exact h y d hy
theorem tm:∀ (names:List (Str×NameKind)) (cells acc:List (Str×Addr)) (x:Str),(∃ c,acc.lookup x=some c)->∃ c,(mY names cells acc).lookup x=some c
 | [],_,_,_,h=>h
 | (n,k)::r,cells,acc,x,h=>by
  refine tm r cells _ x ?_;split
  ·split
   ·rw [List.lookup_cons];cases (x==n)
    ·exact h
    ·exact ⟨_,rfl⟩
   ·exact h
  ·exact h
theorem l8:∀ (names:List (Str×NameKind)) (cells acc:List (Str×Addr)) (x:Str) (c:Addr),(x,NameKind.free)∈names->cells.lookup x=some c->∃ c,(mY names cells acc).lookup x=some c
 | [],_,_,_,_,h,_=>by simp at h
 | (n,k)::r,cells,acc,x,c,h,e=>by
  rcases List.mem_cons.mp h with h | h
  ·injection h with h1 h2
   subst h1;subst h2;refine tm r cells _ x ?_;rw [if_pos (by decide),e];exact ⟨c,by simp [List.lookup_cons]⟩
  ·exact l8 r cells _ x c h e
def blk (X:Cx) (M:List Str) (scope:Scope) (own:List Str) (C:Addr) (s2:Shared) (H2:Hp) (fp:List Addr):Cx where
 prog:=X.prog
 w:=X.w
 K:=X.K
 mg:=X.mg
 base:=X.base
 A:=X.A
 N:=M++own
 s₀:=s2
 H₀:=H2
 env:=compEnvC scope (mY scope.names X.env.cells []) C X.env
 outer:=X.stack
 stack:=X.stack
 ex:=fp
 fn:=fun _=>false
 calm:=X.calm
 pn:=[]
 xe:=fun _ _=>False
structure jN (X:Cx) (M:List Str) (scope:Scope) (own:List Str):Prop where
 kind:scope.kind=.function
 nocell:∀ y∈scope.names,y.2≠.cell
 names:∀ y∈scope.names,y.2=.local->scope.names.lookup y.1=some .local
 free:∀ y∈scope.names,y.2=.free->Vis X.env.scope y.1/\X.env.scope.names.lookup y.1≠some .local
 own:∀ x∈own,scope.names.lookup x=some .local
 outer:∀ p∈X.N.zip M,(p.1=p.2/\scope.names.lookup p.2≠some .local)\/scope.names.lookup p.2=none
 len:M.length=X.N.length
def oy (N M:List Str) (osc scope:Scope) (own:List Str):Bool :=
 (scope.kind==.function)&&scope.names.all (fun y=>y.2 != .cell)&&scope.names.all (fun y=>y.2 != .local || scope.names.lookup y.1==some .local) &&
 scope.names.all (fun y=>y.2 != .free || (osc.names.lookup y.1==some .cell || osc.names.lookup y.1==some .free)) &&
 own.all (fun x=>scope.names.lookup x==some .local)&&(N.zip M).all (fun p=>(p.1==p.2&&scope.names.lookup p.2 != some .local) || scope.names.lookup p.2==none)&&(M.length==N.length)
theorem jN.of {X:Cx} {M:List Str} {scope:Scope} {own:List Str} (h:oy X.N M X.env.scope scope own=true):jN X M scope own:=by
 unfold oy at h;simp only [Bool.and_eq_true,List.all_eq_true,Bool.or_eq_true,bne_iff_ne,beq_iff_eq,ne_eq] at h;obtain ⟨⟨⟨⟨⟨⟨h1,h2⟩,h3⟩,h4⟩,h5⟩,h6⟩,h7⟩:=h;refine ⟨h1,h2,fun y hy e=>(h3 y hy).resolve_left fun z=>z e,fun y hy e=>?_,h5,h6,h7⟩;rcases (h4 y hy).resolve_left fun z=>z e with q | q
 ·exact ⟨.inr (.inl q),by rw [q];intro z;cases z⟩
 ·exact ⟨.inr (.inr q),by rw [q];intro z;cases z⟩
theorem ej {env:Env}:∀ {names:List (Str×NameKind)} {x:Str} {k:NameKind},
  (names.map fun (n,k)=>if (k==NameKind.free&&env.scope.kind==.function&&env.kindOf n==some .cell) then (n,NameKind.cell) else (n,k)).lookup x=some k->(k=.cell\/k=.free)->(∀ y∈names,y.2≠.cell)->(x,NameKind.free)∈names
 | [],_,_,h,_,_=>by simp at h
 | (n,k')::r,x,k,h,hk,hn=>by
  have hr:∀ y∈r,y.2≠NameKind.cell:=fun y hy=>hn y (List.mem_cons_of_mem _ hy)
  rw [List.map_cons,List.lookup_cons] at h;by_cases hc:(k'==NameKind.free&&env.scope.kind==.function&&env.kindOf n==some .cell)=true
  ·have hf:k'=.free:=by have:=hc;simp only [Bool.and_eq_true] at this;exact eq_of_beq this.1.1
   simp only [if_pos hc] at h;cases hx:x==n with
   | true =>have:x=n:=eq_of_beq hx;subst this;subst hf;exact List.mem_cons_self
   | false =>rw [hx] at h;exact List.mem_cons_of_mem _ (ej h hk hr)
  ·simp only [if_neg hc] at h;cases hx:x==n with
   | true =>
    rw [hx] at h;have e:k'=k:=Option.some.inj h;have:x=n:=eq_of_beq hx;subst this;subst e;rcases hk with hk | hk
    ·exact absurd hk (hn _ List.mem_cons_self)
    ·subst hk;exact List.mem_cons_self
   | false =>rw [hx] at h;exact List.mem_cons_of_mem _ (ej h hk hr)
theorem ee {env:Env}:∀ {names:List (Str×NameKind)} {x:Str} {k:NameKind},
  (names.map fun (n,k)=>if (k==NameKind.free&&env.scope.kind==.function&&env.kindOf n==some .cell) then (n,NameKind.cell) else (n,k)).lookup x=some k->(∃ k0,names.lookup x=some k0/\(k=k0\/(k=.cell/\k0=.free)))
 | [],_,_,h=>by simp at h
 | (n,k')::r,x,k,h=>by
  rw [List.map_cons,List.lookup_cons] at h;rw [List.lookup_cons];by_cases hc:(k'==NameKind.free&&env.scope.kind==.function&&env.kindOf n==some .cell)=true
  ·have hf:k'=.free:=by have:=hc;simp only [Bool.and_eq_true] at this;exact eq_of_beq this.1.1
   simp only [if_pos hc] at h;cases hx:x==n with
   | true =>rw [hx] at h;exact ⟨k',rfl,.inr ⟨(Option.some.inj h).symm,hf⟩⟩
   | false =>rw [hx] at h;exact ee h
  ·simp only [if_neg hc] at h;cases hx:x==n with
   | true =>rw [hx] at h;exact ⟨k',rfl,.inl (Option.some.inj h).symm⟩
   | false =>rw [hx] at h;exact ee h
section
variable {X:Cx} {M:List Str} {pins:List (Addr×Obj)} {σ:St} {H2:Hp} {s2:Shared} {scope:Scope} {own:List Str} {fp:List Addr}
theorem Inv.blk {h1:Heap} {t':Nat} {C D:Addr} (I:Inv X pins σ H2 s2) (B:jN X M scope own) (hf:∀ b∈fp,rp X pins H2 b) (hfs:∀ b∈fp,b<s2.heap.objs.size)
  (hD:D=s2.heap.objs.size) (hC:C=s2.heap.objs.size+1) (hl:h1.get? D=some { cls:=.type "list",data:=.seq ([]:List Value).toArray 0 })
  (hn:h1.Ns C (fun _=>none)) (hk:∀ b o,s2.heap.get? b=some o->h1.get? b=some o) :
  Inv (L2.blk X M scope own C s2 H2 fp) [] (σ++List.replicate own.length none) (upd H2 D (.lst [])) { s2 with heap:=h1,toks:=t' }:=by
 have hcl:∀ x c,(mY scope.names X.env.cells []).lookup x=some c->X.env.cells.lookup x=some c:=fun x c e=>qJ _ _ _ _ _ (fun _ _ z=>by simp at z) e
 have hlt:∀ x c,(mY scope.names X.env.cells []).lookup x=some c->c<s2.heap.objs.size:=fun x c e=>by obtain ⟨v,q⟩:=I.cell x c (hcl x c e);exact q.lt
 have freeD:H2 D=none:=I.hok.fresh (by rw [hD];exact Nat.le_refl _);have freeC:H2 C=none:=I.hok.fresh (by rw [hC];exact Nat.le_succ _);have hCD:C≠D:=by rw [hC,hD];exact Nat.succ_ne_self _
 have hu:Un (frs X.stack) fp H2 (upd H2 D (.lst [])) s2.heap h1:=Un.laid hk (by rw [hD];exact Nat.le_refl _) freeD;refine ⟨⟨I.ok.mod,?_,I.ok.glob,I.ok.blt,?_,?_,?_,?_,I.ok.hd,I.ok.frames,.inl rfl,?_,I.bs,Nat.le_trans I.ok.bsz I.sz,?_,?_,I.stack,I.stkFree⟩,rfl,I.bare,hu,?_,?_,?_,?_,?_,?_,?_,fun P q t=>hu.tbls P q (I.tab P q t)⟩
 ·exact B.kind
 ·show s2.heap.objs.size<=C;rw [hC];exact Nat.le_succ _
 ·intro x y c e1 e2;exact I.ok.inj x y c (hcl x c e1) (hcl y c e2)
 ·intro x hx;have hm:(x,NameKind.free)∈scope.names:=by
   rcases hx with hx | hx
   ·exact ej hx (.inl rfl) B.nocell
   ·exact ej hx (.inr rfl) B.nocell
  obtain ⟨hv,hnl⟩:=B.free _ hm rfl;have hh:X.env.kindOf x=some .cell\/X.env.kindOf x=some .free:=by
   rcases hv with z | z | z
   ·exact absurd z hnl
   ·exact .inl z
   ·exact .inr z
  obtain ⟨c,e⟩:=I.ok.has x hh;exact l8 _ _ _ x c hm e
 ·intro x c hfn _;exact absurd (show false=true from hfn) (by decide)
 ·intro b hb;refine ⟨?_,fun x c e z=>?_⟩
  ·show b≠C;rw [hC];exact Nat.ne_of_lt (Nat.lt_succ_of_lt (hfs b hb))
  ·exact (hf b hb).2.2.2.2.1 x c (hcl x c e) z
 ·intro b o e hb;obtain ⟨_,_,_,f3,_⟩:=hf b hb;rcases f3 with z | z
  ·exact I.ok.noex b o e z
  ·exact absurd (Nat.lt_of_lt_of_le (Heap.lt_size (I.ok.bs b o e).1) z) (Nat.lt_irrefl _)
 ·intro b hb hs;obtain ⟨_,f1,f2,_⟩:=hf b hb;rcases List.mem_cons.mp (I.stkSub b hs) with z | z
  ·exact f1 z
  ·exact f2 z
 ·refine ⟨_,hn,fun i x v e1 e2 e3=>?_⟩;have hi:i<σ.length:=by
   by_cases hi:i<σ.length
   ·exact hi
   ·rw [List.getElem?_append_right (by omega),List.getElem?_replicate] at e2;split at e2 <;> cases e2
  rw [List.getElem?_append_left hi] at e2;have hiN:i<X.N.length:=by rw [<-I.len];exact hi
  have hiM:i<M.length:=by rw [B.len];exact hiN
  have e1M:M[i]?=some x:=by
   have:(M++own)[i]?=some x:=e1
   rwa [List.getElem?_append_left hiM] at this
  obtain ⟨y,ey⟩:∃ y,X.N[i]?=some y:=⟨_,List.getElem?_eq_getElem hiN⟩
  have hz:(y,x)∈X.N.zip M:=List.mem_of_getElem? (i:=i) (by rw [List.getElem?_zip_eq_some];exact ⟨ey,e1M⟩);have hin:∃ k,scope.names.lookup x=some k:=by
   rcases e3 with z | z | z
   ·obtain ⟨k0,hk0,_⟩:=ee (show _=some NameKind.local from z);exact ⟨k0,hk0⟩
   ·obtain ⟨k0,hk0,_⟩:=ee (show _=some NameKind.cell from z);exact ⟨k0,hk0⟩
   ·obtain ⟨k0,hk0,_⟩:=ee (show _=some NameKind.free from z);exact ⟨k0,hk0⟩
  have hout:y=x/\scope.names.lookup x≠some .local:=by
   rcases B.outer _ hz with q | q
   ·exact q
   ·obtain ⟨k,hk⟩:=hin;rw [q] at hk;cases hk
  have e1':X.N[i]?=some x:=by rw [<-hout.1];exact ey
  have hx:(relabel scope X.env).names.lookup x=some .cell\/(relabel scope X.env).names.lookup x=some .free:=by
   rcases e3 with z | z
   ·obtain ⟨k0,hk0,hk⟩:=ee (show _=some NameKind.local from z);rcases hk with hk | ⟨hk,_⟩
    ·subst hk;exact absurd hk0 hout.2
    ·cases hk
   ·exact z
  have hm:(x,NameKind.free)∈scope.names:=by
   rcases hx with hx | hx
   ·exact ej hx (.inl rfl) B.nocell
   ·exact ej hx (.inr rfl) B.nocell
  obtain ⟨hv,hnl⟩:=B.free _ hm rfl;obtain ⟨m,_,hl'⟩:=I.loc;obtain ⟨u,r,l⟩:=hl' i x v e1' e2 hv;refine ⟨u,r,.inr ⟨hx,?_⟩⟩;rcases l with ⟨z,_⟩ | ⟨_,c,hc,z⟩
  ·exact absurd z hnl
  ·obtain ⟨c',hc'⟩:=l8 scope.names X.env.cells [] x c hm hc;have:=hcl x c' hc';rw [hc] at this;cases this;exact ⟨c,hc',z.keeps hk⟩
 ·intro x c e;obtain ⟨v,q⟩:=I.cell x c (hcl x c e);exact ⟨v,q.keeps hk⟩
 ·show upd H2 D (.lst []) C=none;rw [aI hCD];exact freeC
 ·intro x c e;have h1:=hlt x c e;rw [aI (by rw [hD];exact Nat.ne_of_lt h1)];exact I.freeC x c (hcl x c e)
 ·intro p hp;exact absurd (show p∈([]:List (Addr×Obj))++[] from hp) (by simp)
 ·exact I.hok.laid hk (by rw [hD];exact Nat.le_refl _) ⟨Nat.zero_le _,[],0,.nil,hl⟩
 ·show (σ++List.replicate own.length none).length=(M++own).length;rw [List.length_append,List.length_append,List.length_replicate,I.len,B.len]
theorem Inv.unblk {C:Addr} {σ':St} {H':Hp} {s':Shared} {h':Heap} (I:Inv X pins σ H2 s2) (hf:∀ b∈fp,rp X pins H2 b) (hCs:s2.heap.objs.size<=C)
  (J:Inv (L2.blk X M scope own C s2 H2 fp) [] σ' H' s') (hs:Heap.SameBut C s'.heap h'):Inv X pins σ H' { s' with heap:=h' }:=by
 have hC:H' C=none:=J.free;have k:∀ b o,b≠C->s'.heap.get? b=some o->h'.get? b=some o:=fun b o hb e=>(hs.2 b hb).trans e
 have old:∀ b o,s2.heap.get? b=some o->b≠C:=fun b o e=>Nat.ne_of_lt (Nat.lt_of_lt_of_le (Heap.lt_size e) hCs)
 have u:Un (frs X.stack) fp H2 H' s2.heap s'.heap:=J.base;refine I.call' (s':={ s' with heap:=h' }) (ch:=fp) J.os ?_ ?_ J.bare fun b hb=>?_
 ·refine ⟨fun b o e n h1 h2=>k b o (old b o e) (u.keep b o e n h1 h2),fun b o e n h1 h2=>?_,u.free,fun b o e h1=>?_,u.tups,u.frzs,u.tbls⟩
  ·obtain ⟨sl,q⟩:=u.slot b o e n h1 h2;exact ⟨sl,k b _ (old b o e) q⟩
  ·obtain ⟨o',q⟩:=u.there b o e h1;exact ⟨o',k b o' (old b o e) q⟩
 ·intro b o e;refine (J.hok b o e).stay (fun c v hc q=>k c v ?_ q) (fun _ q=>q) fun _ _ q=>q
  rintro rfl
  rcases hc with z | z
  ·subst z;rw [hC] at e;cases e
  ·rw [hC] at z;cases z
 ·obtain ⟨f0,f1,f2,f3,f4,f5⟩:=hf b hb;exact ⟨f3,f1,f4,f5⟩
end
section
variable {prog:Program} {w:World} {A:Around} {R:Result->Shared->Prop} {s:Shared}
theorem uu {elt target iter:Expr} {ifs:List Expr} {scope:Scope} {pos:Pos} {it acc:Value} {env:Env} (I:Nat->Shared->Prop)
  (turn:∀ n s,I n s->wpAny (model prog w) A (pyNext it) (fun r s₁=>match r with
   | none=>R (.ok .next) s₁
   | some v=>wpAny (model prog w) A (letOwnedTupleGo target it v) (fun _ s1'=>wpAny (model prog w) A (assign target env v) (fun _ s₂ =>
    wpAny (model prog w) A (forIn ifs true fun c r=>if r=true then do let ok <-isTrue c env (eval c env);pure (ForInStep.yield ok) else pure (ForInStep.yield r)) (fun ok s₃ =>
     if ok=true then wpAny (model prog w) A (eval elt env) (fun x s₄ =>
      wpAny (model prog w) A (call (.builtin "list.append") [acc,x]) (fun _ s₅=>∃ m,m<n/\I m s₅) (fun _ _=>False) s₄) (fun _ _=>False) s₃
     else ∃ m,m<n/\I m s₃) (fun _ _=>False) s₂) (fun _ _=>False) s1') (fun _ _=>False) s₁) (fun _ _=>False) s)
  (n:Nat) (h:I n s) :
  codeAny (model prog w) A (.compLoop (.ListComp elt [⟨target,iter,ifs,0⟩] scope pos) 0 it acc env) R s:=by
 refine codeAny_loop rfl I (fun n s hI=>?_) n h;show wpAny _ A ((compTurn (.ListComp elt [⟨target,iter,ifs,0⟩] scope pos) 0 it acc env).onRaise (fun x=>do noteFrame x env;theTreesLotGoes x)) _ _ s;refine wpAny_noted ?_;rw [compTurn_list];refine wpAny_bind (wpAny_standAt (wpAny_bind (wpAny_mono (turn n s hI) (fun r s₁ h₁=>?_) fun _ _ h'=>h'.elim)));cases r with
 | none=>exact wpAny_pure h₁
 | some v =>
  refine wpAny_bind (wpAny_mono h₁ (fun _ s1' h1'=>?_) fun _ _ h'=>h'.elim);refine wpAny_bind (wpAny_mono h1' (fun _ s₂ h₂=>wpAny_bind (wpAny_mono h₂ (fun ok s₃ h₃=>?_) fun _ _ h'=>h'.elim)) fun _ _ h'=>h'.elim);cases ok with
  | false=>exact wpAny_pure ⟨rfl,h₃⟩
  | true =>exact wpAny_bind (wpAny_bind (wpAny_mono h₃ (fun x s₄ h₄=>wpAny_bind (wpAny_mono h₄ (fun _ s₅ h₅=>wpAny_pure (wpAny_pure ⟨rfl,h₅⟩)) fun _ _ h'=>h'.elim)) fun _ _ h'=>h'.elim))
end
def zw:TT:=fun _ H Q=>Q true H
inductive PTs (X:Cx):List Expr->TT->Prop
 | nil:PTs X [] zw
 | one {c:Expr} {t:TT} (h:PT X c t):PTs X [c] t
theorem PTs.run {X:Cx} {ifs:List Expr} {t:TT} (h:PTs X ifs t) {pins:List (Addr×Obj)} {s:Shared} {σ:St} {H:Hp} {Q:Bool->Hp->Prop} (I:Inv X pins σ H s) (q:t σ H Q) :
  wpAny (model X.prog X.w) X.A (forIn ifs true fun c r=>if r=true then do let ok <-isTrue c X.env (eval c X.env);pure (ForInStep.yield ok) else pure (ForInStep.yield r)) (TP X pins σ Q) X.xe s:=by
 cases h with
 | nil=>exact wpAny_tests_nil ⟨H,I,q⟩
 | one h=>exact wpAny_tests_one (h pins s σ H Q I q)
def LCR (J:It) (n:Nat) (g:TG) (tt:TT) (te:TE) (σ:St) (H1:Hp) (Q:VK):Prop:=∀ D,H1 D=none->∃ W:Nat->Nat->List V->Hp->Prop,(∃ m,W 0 m [] (upd H1 D (.lst []))) /\
 ∀ i m ys H,W i m ys H->H D=some (.lst ys)/\((J.stop i H/\Q (.ref D) H)\/(J.go i H/\∀ x H' σ',σ'.length=n->J.yld i H x H'->g x (σ++σ') H' fun σ2 H2=>tt σ2 H2 fun b H3 =>
  if b=true then te σ2 H3 fun v H4=>H4 D=some (.lst ys)/\ys.length<sizeLine/\(∃ σ'',σ2=σ++σ''/\σ''.length=n)/\∃ m',m' < m/\W (i+1) m' (ys++[v]) (upd H4 D (.lst (ys++[v])))
  else (∃ σ'',σ2=σ++σ''/\σ''.length=n)/\∃ m',m' < m/\W (i+1) m' ys H3))
def tLC (n:Nat) (wi:TI) (g:TG) (tt:TT) (te:TE):TE:=fun σ H Q=>wi σ H fun J H1=>LCR J n g tt te σ H1 Q
theorem p6 {X:Cx} {M:List Str} {elt tg iter:Expr} {ifs:List Expr} {scope:Scope} {pos cpos:Pos} {own:List Str} {wi:TI} {g:TG} {tt:TT} {te:TE} {use:Option (Value->Sem Unit)} {Qf:Value->Shared->Prop} (hc:X.calm=true) (hi:PI X tg iter wi)
  (hg:∀ C s2 H2 fp,PG (blk X M scope own C s2 H2 fp) tg g) (ht:∀ C s2 H2 fp,PTs (blk X M scope own C s2 H2 fp) ifs tt) (he:∀ C s2 H2 fp,PE (blk X M scope own C s2 H2 fp) elt te)
  (hB:oy X.N M X.env.scope scope own=true) (hs:∀ x,foldedSetIterable iter X.env x=pure x) {pins:List (Addr×Obj)} {s:Shared} {σ:St} {H:Hp} {Q:VK} (I:Inv X pins σ H s) (h:tLC own.length wi g tt te σ H Q)
  (fin:∀ (C D:Addr) (s5:Shared) (H4:Hp),(∀ h',Heap.SameBut C s5.heap h'->Inv X pins σ H4 { s5 with heap:=h' })->(∃ m,s5.heap.Ns C m)->H4 C=none->C≠X.env.locals->(∀ x c,X.env.cells.lookup x=some c->c≠C)->(∀ p∈X.pn++pins,p.1≠C)->X.s₀.heap.objs.size<=C->Q (.ref D) H4 ->
   compPost (model X.prog X.w) X.A X.xe use Qf (.ref D) C (.ok .next) s5) :
  wpAny (model X.prog X.w) X.A (comprehension (.ListComp elt [⟨tg,iter,ifs,0⟩] scope pos) scope X.env cpos (newList []) false (eval iter X.env) use) Qf X.xe s:=by
 have B:jN X M scope own:=jN.of hB;have hclos:closureFor scope X.env=pure (mY scope.names X.env.cells []):=jF fun y hy hf=>by
  obtain ⟨hv,hnl⟩:=B.free y hy hf;have hh:X.env.kindOf y.1=some .cell\/X.env.kindOf y.1=some .free:=by
   rcases hv with z | z | z
   ·exact absurd z hnl
   ·exact .inl z
   ·exact .inr z
  exact I.ok.has y.1 hh
 refine wpAny_comprehension_free (use:=use) rfl hs hclos B.kind B.names (thn (hi pins s σ H _ I h) fun v s1 h1=>thn h1 fun itv s2 h2=>?_);obtain ⟨it,fp,tn,J,H2,e,I2,T,st2,f2,hD⟩:=h2;subst e;have ffs:∀ b∈fp,b<s2.heap.objs.size:=fun b hb=>by obtain ⟨o,q,_⟩:=T.obj _ _ st2 b hb;exact Heap.lt_size q
 obtain ⟨W,⟨m0,w0⟩,turn⟩:=hD s2.heap.objs.size (I2.hok.fresh (Nat.le_refl _));refine wpAny_newObj_type (wpAny_newFunctionEnv B.nocell (by intro y hy;simp at hy) (fun h₁ hns₁ hsb₁=>?_) B.kind);dsimp only at hns₁ hsb₁ ⊢;generalize hG:s2.heap.push { cls:=.type "list",dict:=none,data:=.seq ([]:List Value).toArray }=G at hns₁ hsb₁ ⊢;have hC:G.objs.size=s2.heap.objs.size+1:=by rw [<-hG,Heap.size_push]
 have hk:∀ b o,s2.heap.get? b=some o->h₁.get? b=some o:=fun b o e=>hsb₁.extBut b o (by rw [hC];exact Nat.ne_of_lt (Nat.lt_succ_of_lt (Heap.lt_size e))) (Heap.get?_push_of_some _ (hG▸Heap.get?_push_of_some _ e))
 have hDC:s2.heap.objs.size≠G.objs.size:=by rw [hC];exact Nat.ne_of_lt (Nat.lt_succ_self _)
 have hl:h₁.get? s2.heap.objs.size=some { cls:=.type "list",data:=.seq ([]:List Value).toArray 0 }:=hsb₁.extBut _ _ hDC (Heap.get?_push_of_some _ (hG▸Heap.get?_push_size _ rfl));have hns:h₁.Ns G.objs.size (fun _=>none):=by
  have e:(fun x=>([]:List (Str×Value)).reverse.lookup x)=fun _=>none:=by funext x;rfl
  rw [<-e];exact hns₁
 have I3:=fun t'=>I2.blk (t':=t') (C:=G.objs.size) (D:=s2.heap.objs.size) B f2 ffs rfl hC hl hns hk
 have stat:∀ {H':Hp},(∀ b∈fp,H' b=none)->∀ b∈fp,rp (blk X M scope own G.objs.size s2 H2 fp) [] H' b:=fun hn b hb=>by
  refine ⟨hn b hb,?_,?_,.inl hb,fun x c e z=>?_,fun p hp=>absurd (show p∈([]:List (Addr×Obj))++[] from hp) (by simp)⟩
  ·show b≠G.objs.size;rw [hC];exact Nat.ne_of_lt (Nat.lt_succ_of_lt (ffs b hb))
  ·exact (I3 0).ok.exfs b hb
  ·exact ((I3 0).ok.exf b hb).2 x c e z
 have loop:∀ s3:Shared,(∃ t',s3={ s2 with heap:=h₁,toks:=t' })->codeAny (model X.prog X.w) X.A (.compLoop (.ListComp elt [⟨tg,iter,ifs,0⟩] scope pos) 0 (.ref it) (.ref s2.heap.objs.size) (compEnvC scope (mY scope.names X.env.cells []) G.objs.size X.env))
   (compPost (model X.prog X.w) X.A X.xe use Qf (.ref s2.heap.objs.size) G.objs.size) s3:=by
  rintro s3 ⟨t',rfl⟩
  refine uu (fun n s'=>∃ i ys σ' H',σ'.length=own.length/\Inv (blk X M scope own G.objs.size s2 H2 fp) [] (σ++σ') H' s'/\tn i s'.heap/\(∀ b∈fp,H' b=none)/\W i n ys H') ?_ m0
   ⟨0,[],_,_,by simp,I3 t',T.keep _ _ _ st2 fun b hb o e=>hk b o e,fun b hb=>by rw [aI (Nat.ne_of_lt (ffs b hb))];exact (f2 b hb).1,w0⟩
  rintro n s4 ⟨i,ys,σ',H4,hl',I4,st4,fr4,w4⟩
  obtain ⟨hDl,alt⟩:=turn i n ys H4 w4;rcases alt with ⟨stop,qn⟩ | ⟨go,step⟩
  ·refine thn (T.done (blk X M scope own G.objs.size s2 H2 fp) rfl rfl rfl hc i [] s4 _ H4 _ I4 (stat fr4) st4 stop) fun r s5 rz2=>?_
   obtain ⟨hr,I5⟩:=rz2;subst hr;obtain ⟨m,hn,_⟩:=I5.loc;have cS:s2.heap.objs.size<=G.objs.size:=by rw [hC];exact Nat.le_succ _
   refine fin G.objs.size s2.heap.objs.size s5 H4 (fun h' hs'=>I2.unblk (C:=G.objs.size) f2 cS I5 hs') ⟨m,hn⟩ I5.free ?_ (fun x c e=>?_) (fun p hp=>?_) (Nat.le_trans I2.sz cS) qn
   ·obtain ⟨_,hl0,_⟩:=I2.loc;exact Nat.ne_of_gt (Nat.lt_of_lt_of_le hl0.lt cS)
   ·obtain ⟨_,q⟩:=I2.cell x c e;exact Nat.ne_of_lt (Nat.lt_of_lt_of_le q.lt cS)
   ·exact Nat.ne_of_lt (Nat.lt_of_lt_of_le (Heap.lt_size (I2.pin p hp).1) cS)
  ·refine thn (T.item (blk X M scope own G.objs.size s2 H2 fp) rfl rfl rfl hc i [] s4 _ H4 _ I4 (stat fr4) st4 go) fun r s5 rz2=>?_
   obtain ⟨u,hr,h5⟩:=rz2;subst hr;refine thn h5 fun _ s6 rz2=>?_
   obtain ⟨x,H6,I6,r6,y6,st6,fr6⟩:=rz2;have I6':=I6.pinned (stat fr6) (T.obj _ _ st6);have kp:∀ {σ7:St} {H7:Hp} {s7:Shared},Inv (blk X M scope own G.objs.size s2 H2 fp) ([]++qX fp s6.heap) σ7 H7 s7->tn (i+1) s7.heap/\∀ b∈fp,H7 b=none:=fun {σ7 H7 s7} I7=>by refine ⟨T.keep _ _ _ st6 fun b hb o e=>(I7.pin (b,o) (List.mem_append_right _ (List.mem_append_right _ (jr hb e)))).1,fun b hb=>?_⟩;obtain ⟨o,e,d⟩:=T.obj _ _ st6 b hb;exact (I7.pin (b,o) (List.mem_append_right _ (List.mem_append_right _ (jr hb e)))).2.1
   refine thn (hg _ _ _ _ _ s6 _ H6 x u _ I6' r6 (step x H6 σ' hl' y6)) fun _ s7 rz2=>?_
   obtain ⟨σ7,H7,I7,q7⟩:=rz2;refine thn ((ht _ _ _ _).run I7 q7) fun ok s8 rz2=>?_
   obtain ⟨H8,I8,q8⟩:=rz2;cases ok with
   | false =>
    obtain ⟨⟨σ'',e,l''⟩,m',hm,w8⟩:=(show if false=true then _ else _ from q8)
    subst e;obtain ⟨k1,k2⟩:=kp I8;exact ⟨m',hm,i+1,ys,σ'',H8,l'',I8.unpinned,k1,k2,w8⟩
   | true =>
    have q8:te σ7 H8 _:=q8;refine thn (he _ _ _ _ _ s8 σ7 H8 _ I8 q8) fun y s9 rz2=>?_
    obtain ⟨v,H9,I9,r9,d9,z9,⟨σ'',e,l''⟩,m',hm,w9⟩:=rz2;subst e;refine thn (nX (X:=blk X M scope own G.objs.size s2 H2 fp) _ s9 _ H9 (.ref s2.heap.objs.size) [v] (.ref s2.heap.objs.size) [y] (fun _ H'=>H'=upd H9 s2.heap.objs.size (.lst (ys++[v]))) I9 rfl (.cons r9 .nil) ⟨_,ys,v,rfl,rfl,d9,z9,rfl⟩) fun _ s10 rz2=>?_
    obtain ⟨_,H10,I10,_,e10⟩:=rz2;subst e10;obtain ⟨k1,k2⟩:=kp I10;exact ⟨m',hm,i+1,ys++[v],σ'',_,l'',I10.unpinned,k1,k2,w9⟩
 exact codeAny_compStart_list (loop _ ⟨_,rfl⟩) (T.self _ 0 _ _ _ (T.keep _ _ _ st2 fun b hb o e=>hk b o e) (loop _ ⟨_,rfl⟩))
theorem Bz {X:Cx} {M:List Str} {elt tg iter:Expr} {ifs:List Expr} {scope:Scope} {pos:Pos} {own:List Str} {wi:TI} {g:TG} {tt:TT} {te:TE} (hc:X.calm=true) (hi:PI X tg iter wi)
  (hg:∀ C s2 H2 fp,PG (blk X M scope own C s2 H2 fp) tg g) (ht:∀ C s2 H2 fp,PTs (blk X M scope own C s2 H2 fp) ifs tt) (he:∀ C s2 H2 fp,PE (blk X M scope own C s2 H2 fp) elt te)
  (hB:oy X.N M X.env.scope scope own=true:=by rfl) (hs:∀ x,foldedSetIterable iter X.env x=pure x:=by intro _;rfl):PE X (.ListComp elt [⟨tg,iter,ifs,0⟩] scope pos) (tLC own.length wi g tt te):=by
 intro pins s σ H Q I h;rw [eval_ListComp];refine p6 hc hi hg ht he hB hs I h fun C D s5 H4 k rz5 _ _ _ _ _ q=>?_
 obtain ⟨m,hn⟩:=rz5;exact ⟨m,hn,fun h' hs'=>⟨.ref D,H4,k h' hs',rfl,q⟩⟩
theorem qY {X:Cx} {M:List Str} {elt tg iter:Expr} {ifs:List Expr} {scope:Scope} {pos pos' spos:Pos} {own:List Str} {wi:TI} {g:TG} {tt:TT} {te:TE} {i:Nat} {x:Str} (hc:X.calm=true) (hN:X.N.Nodup) (hxi:X.N[i]?=some x) (hx:Loc X.env.scope x)
  (hsw:swapsWith (.ListComp elt [⟨tg,iter,ifs,0⟩] scope pos) (some (.Name x pos')) spos.line X.env=pure true) (hi:PI X tg iter wi)
  (hg:∀ C s2 H2 fp,PG (blk X M scope own C s2 H2 fp) tg g) (ht:∀ C s2 H2 fp,PTs (blk X M scope own C s2 H2 fp) ifs tt) (he:∀ C s2 H2 fp,PE (blk X M scope own C s2 H2 fp) elt te)
  (hB:oy X.N M X.env.scope scope own=true:=by rfl) (hs:∀ x,foldedSetIterable iter X.env x=pure x:=by intro _;rfl) (hf:X.fn x=true\/X.env.scope.names.lookup x=some .local:=by first | exact .inl rfl | exact .inr rfl | assumption) :
  PS X (.Assign [.Name x pos'] (.ListComp elt [⟨tg,iter,ifs,0⟩] scope pos) spos) (Bd (tLC own.length wi g tt te) (kg i)):=by
 intro pins s σ H D I h;show wpAny _ _ (exec _ X.env) _ _ s;rw [exec_Assign_Name_used _ _ _ _ hsw];refine wpAny_bind (wpAny_standAt (wpAny_bind ?_));rw [arm_evalThenUse_ListComp];refine wpAny_bind (thn (p6 (use:=some (assign (.Name x pos') X.env)) (Qf:=fun _ s'=>SP X pins D .next s') hc hi hg ht he hB hs I h fun C Dd s5 H4 k rz5 hC nl nc np ns q=>?_) fun _ s' hq=>wpAny_pure (wpAny_pure hq));obtain ⟨m,hn⟩:=rz5;have I5:=k s5.heap (Heap.SameBut.refl _ _);show wpAny _ _ (assign (.Name x pos') X.env (.ref Dd)) _ _ s5;refine wpAny_assign_Name (sR (v:=.ref Dd) I5 hN hxi hx rfl (fun s3 I3 rz2=>?_) hf);obtain ⟨a,sb,ha⟩:=rz2;have nCa:C≠a:=by
  rcases ha with rfl | ha
  ·exact nl
  ·exact fun z=>nc x a ha z.symm
 refine ⟨m,hn.sameBut sb nCa,fun h' hs'=>⟨_,H4,?_,q⟩⟩;have kk:∀ b o,b≠C->s3.heap.get? b=some o->h'.get? b=some o:=fun b o hb e=>(hs'.2 b hb).trans e
 refine I3.call' (s':={ s3 with heap:=h' }) (ch:=[C]) rfl ?_ ?_ I3.bare fun b hb=>?_
 ·refine ⟨fun b o e _ _ z=>kk b o (fun q=>z (by rw [q];exact List.mem_singleton.mpr rfl)) e,fun b o e _ _ z=>⟨o.slots,kk b o (fun q=>z (by rw [q];exact List.mem_singleton.mpr rfl)) e⟩,fun _ _ _ n _=>n,fun b o e z=>⟨o,kk b o (fun q=>z (by rw [q];exact List.mem_singleton.mpr rfl)) e⟩,fun _ _ q=>q,fun _ _ _ q=>q,fun _ _ q=>q⟩
 ·intro b o e;refine (I3.hok b o e).stay (fun c v hc q=>kk c v ?_ q) (fun _ q=>q) fun _ _ q=>q
  rintro rfl
  rcases hc with z | z
  ·subst z;rw [hC] at e;cases e
  ·rw [hC] at z;cases z
 ·rw [List.mem_singleton.mp hb];exact ⟨.inr ns,fun z=>nl z,nc,np⟩
mutual
def IsD (K:PySem.W.Frag) (H:Hp):PyData->V->Prop
 | .none,v=>v=.non
 | .bool b,v=>v=.bl b
 | .int i,v=>v=.int i
 | .str x,v=>v=.str x
 | .list ds,v=>∃ a xs,v=.ref a/\SqL K H a xs/\fj K H ds xs
 | .tuple ds,v=>∃ a xs,v=.ref a/\SqT K H a xs/\fj K H ds xs
 | .dict _,_=>False
def fj (K:PySem.W.Frag) (H:Hp):List PyData->List V->Prop
 | [],vs=>vs=[]
 | d::ds,vs=>∃ v r,vs=v::r/\IsD K H d v/\fj K H ds r
end
theorem az.tupS {K:PySem.W.Frag} {H H':Hp} {a:Addr} {xs:List V} (e:az H H') (h:SqT K H a xs):SqT K H' a xs:=by
 rcases h with (h | ⟨o,h⟩) | h
 ·exact .inl (.inl (e _ _ h))
 ·exact .inl (.inr ⟨o,e _ _ h⟩)
 ·exact .inr h
mutual
theorem IsD.same {K:PySem.W.Frag} {H H':Hp} (e:az H H'):∀ {d:PyData} {v:V},IsD K H d v->IsD K H' d v
 | .none,_,h=>by unfold IsD at h ⊢;exact h
 | .bool _,_,h=>by unfold IsD at h ⊢;exact h
 | .int _,_,h=>by unfold IsD at h ⊢;exact h
 | .str _,_,h=>by unfold IsD at h ⊢;exact h
 | .list ds,_,h=>by unfold IsD at h ⊢;obtain ⟨a,xs,e1,h1,h2⟩:=h;exact ⟨a,xs,e1,e.seq h1,fj.same e h2⟩
 | .tuple ds,_,h=>by unfold IsD at h ⊢;obtain ⟨a,xs,e1,h1,h2⟩:=h;exact ⟨a,xs,e1,e.tupS h1,fj.same e h2⟩
 | .dict _,_,h=>by unfold IsD at h;exact h.elim
theorem fj.same {K:PySem.W.Frag} {H H':Hp} (e:az H H'):∀ {ds:List PyData} {vs:List V},fj K H ds vs->fj K H' ds vs
 | [],_,h=>by unfold fj at h ⊢;exact h
 | d::ds,_,h=>by unfold fj at h ⊢;obtain ⟨v,r,e1,h1,h2⟩:=h;exact ⟨v,r,e1,IsD.same e h1,fj.same e h2⟩
end
section
variable {K:PySem.W.Frag} {H:Hp}
theorem uQ {i:Int}:IsD K H (.int i) (.int i):=by unfold IsD;rfl
theorem BL {b:Bool}:IsD K H (.bool b) (.bl b):=by unfold IsD;rfl
theorem BZ:IsD K H .none .non:=by unfold IsD;rfl
theorem EY {x:Str}:IsD K H (.str x) (.str x):=by unfold IsD;rfl
theorem Dp {ds:List PyData} {a:Addr} {xs:List V} (h:SqT K H a xs) (h2:fj K H ds xs):IsD K H (.tuple ds) (.ref a):=by unfold IsD;exact ⟨a,xs,rfl,h,h2⟩
theorem uh {ds:List PyData} {a:Addr} {xs:List V} (h:SqL K H a xs) (h2:fj K H ds xs):IsD K H (.list ds) (.ref a):=by unfold IsD;exact ⟨a,xs,rfl,h,h2⟩
theorem pX:fj K H [] []:=by unfold fj;rfl
theorem tD {d:PyData} {ds:List PyData} {v:V} {vs:List V} (h:IsD K H d v) (h2:fj K H ds vs):fj K H (d::ds) (v::vs):=by unfold fj;exact ⟨v,vs,rfl,h,h2⟩
theorem IsD.ofInt {i:Int} {v:V} (h:IsD K H (.int i) v):v=.int i:=by unfold IsD at h;exact h
theorem IsD.ofBool {i:Bool} {v:V} (h:IsD K H (.bool i) v):v=.bl i:=by unfold IsD at h;exact h
theorem IsD.ofNone {v:V} (h:IsD K H .none v):v=.non:=by unfold IsD at h;exact h
theorem IsD.ofStr {x:Str} {v:V} (h:IsD K H (.str x) v):v=.str x:=by unfold IsD at h;exact h
theorem IsD.ofTup {ds:List PyData} {v:V} (h:IsD K H (.tuple ds) v):∃ a xs,v=.ref a/\SqT K H a xs/\fj K H ds xs:=by unfold IsD at h;exact h
theorem IsD.ofLst {ds:List PyData} {v:V} (h:IsD K H (.list ds) v):∃ a xs,v=.ref a/\SqL K H a xs/\fj K H ds xs:=by unfold IsD at h;exact h
theorem fj.nil_of {vs:List V} (h:fj K H [] vs):vs=[]:=by unfold fj at h;exact h
theorem fj.cons_of {d:PyData} {ds:List PyData} {vs:List V} (h:fj K H (d::ds) vs):∃ v r,vs=v::r/\IsD K H d v/\fj K H ds r:=by unfold fj at h;exact h
theorem sM:∀ (ns:List Int),fj K H (ns.map PyData.int) (ns.map V.int)
 | []=>pX
 | _::r=>tD uQ (sM r)
end
section
variable {X:Cx} {pins:List (Addr×Obj)} {σ:St} {H:Hp} {s:Shared}
mutual
theorem Inv.reads (I:Inv X pins σ H s):∀ {d:PyData} {v:V} {u:Value},IsD X.K H d v->RelV v u->∃ as,Reads s.heap u d as
 | .none,_,_,h,r=>by rw [h.ofNone] at r;cases r;exact ⟨_,.none⟩
 | .bool _,_,_,h,r=>by rw [h.ofBool] at r;cases r;exact ⟨_,.bool _⟩
 | .int _,_,_,h,r=>by rw [h.ofInt] at r;obtain ⟨t,rfl⟩:=r;exact ⟨_,.int _ _⟩
 | .str _,_,_,h,r=>by rw [h.ofStr] at r;obtain ⟨t,rfl⟩:=r;exact ⟨_,.str _ _⟩
 | .list ds,_,_,h,r=>by obtain ⟨a,xs,e,h1,h2⟩:=h.ofLst;subst e;cases r;obtain ⟨its,rv,⟨o,n,g,c,_,d⟩,_⟩:=I.list h1;obtain ⟨as,ra⟩:=Inv.readsAll I h2 rv;exact ⟨_,.list g c d (by simpa using ra)⟩
 | .tuple ds,_,_,h,r=>by obtain ⟨a,xs,e,h1,h2⟩:=h.ofTup;subst e;cases r;obtain ⟨its,rv,⟨o,g,c,n,d⟩,_⟩:=I.tuple h1;obtain ⟨as,ra⟩:=Inv.readsAll I h2 rv;exact ⟨_,.tuple g c d (by simpa using ra)⟩
 | .dict _,_,_,h,_=>by unfold IsD at h;exact h.elim
theorem Inv.readsAll (I:Inv X pins σ H s):∀ {ds:List PyData} {vs:List V} {us:List Value},fj X.K H ds vs->Vals vs us->∃ as,ReadsAll s.heap us ds as
 | [],_,_,h,r=>by rw [h.nil_of] at r;cases r;exact ⟨_,.nil⟩
 | d::ds,_,_,h,r=>by
  obtain ⟨v,t,e,h1,h2⟩:=h.cons_of;subst e;cases r with
  | cons r1 r2 =>obtain ⟨as,q1⟩:=Inv.reads I h1 r1;obtain ⟨bs,q2⟩:=Inv.readsAll I h2 r2;exact ⟨_,.cons q1 q2⟩
end
open PySem.SeqAt in
theorem yi (hu:X.A.units+64<cLine):OpR X (compareOp .Eq) (fun x y H Q=>∃ d e,IsD X.K H d x/\IsD X.K H e y/\shaped d=true/\shaped e=true/\Q (.bl (PyData.eqv d e)) H):=by intro pins s σ H x y v u Q I rx ry h;obtain ⟨d,e,hd,he,sd,se,q⟩:=h;obtain ⟨as,ra⟩:=I.reads hd rx;obtain ⟨bs,rb⟩:=I.reads he ry;exact eq_dataH ra rb sd se hu ⟨.bl _,H,I,rfl,q⟩
open PySem.SeqAt in
theorem Bx (hu:X.A.units+64<cLine):OpR X (compareOp .NotEq) (fun x y H Q=>∃ d e,IsD X.K H d x/\IsD X.K H e y/\shaped d=true/\shaped e=true/\Q (.bl (!PyData.eqv d e)) H):=by intro pins s σ H x y v u Q I rx ry h;obtain ⟨d,e,hd,he,sd,se,q⟩:=h;obtain ⟨as,ra⟩:=I.reads hd rx;obtain ⟨bs,rb⟩:=I.reads he ry;exact ne_dataH ra rb sd se hu ⟨.bl _,H,I,rfl,q⟩
def tyD:PyData->String
 | .none=>"NoneType"
 | .bool _=>"bool"
 | .int _=>"int"
 | .str _=>"str"
 | .list _=>"list"
 | .tuple _=>"tuple"
 | .dict _=>"dict"
def uI (d:PyData) (T:String):Bool:=tyD d==T || (T=="int"&&tyD d=="bool")
theorem D0 (K:PySem.W.Frag) {a T:String} (ha:a∈["NoneType", "bool", "int", "str", "list", "tuple"]) (hT:T∈["bool", "int", "list", "tuple"]) :
  PySem.W.kitOne K (.type a) (.type T)=some (a==T || (T=="int"&&a=="bool")):=by
 simp only [List.mem_cons,List.not_mem_nil,or_false] at ha hT;rcases ha with rfl | rfl | rfl | rfl | rfl | rfl <;> rcases hT with rfl | rfl | rfl | rfl <;> rfl
theorem Dr {H:Hp} {K:PySem.W.Frag} {d:PyData} {v:V} (h:IsD K H d v):tyD d∈["NoneType", "bool", "int", "str", "list", "tuple"]:=by
 cases d with
 | dict _=>unfold IsD at h;exact h.elim
 | _=>simp [tyD]
theorem vF:kA X (.builtin "isinstance") (fun xs H Q=>∃ d v T,xs=[v,.ty T]/\IsD X.K H d v/\T∈["bool", "int", "list", "tuple"]/\Q (.bl (uI d T)) H):=by
 intro pins s σ H xs us Q I r h;obtain ⟨d,v,T,rfl,hd,hT,q⟩:=h;obtain ⟨u,c,rfl,r1,r2⟩:=vals2 r;cases r2;have e:PySem.W.kitOne X.K (.type (tyD d)) (.type T)=some (uI d T):=D0 X.K (Dr hd) hT;have fin:∀ tk,EP X pins σ Q (.bool (uI d T)) { s with toks:=tk }:=fun tk=>⟨.bl _,H,I.tok tk,rfl,q⟩
 cases d with
 | none=>rw [hd.ofNone] at r1;cases r1;exact PySem.W.kia_one PySem.W.kitx_none I.kIn True.intro e (fun z=>nomatch z) fin
 | bool b=>rw [hd.ofBool] at r1;cases r1;exact PySem.W.kia_one PySem.W.kitx_bool I.kIn True.intro e (fun z=>nomatch z) fin
 | int i=>rw [hd.ofInt] at r1;obtain ⟨t,rfl⟩:=r1;exact PySem.W.kia_one PySem.W.kitx_int I.kIn True.intro e (fun z=>nomatch z) fin
 | str x=>rw [hd.ofStr] at r1;obtain ⟨t,rfl⟩:=r1;exact PySem.W.kia_one PySem.W.kitx_str I.kIn True.intro e (fun z=>nomatch z) fin
 | list ds =>obtain ⟨a,xs,e1,h1,h2⟩:=hd.ofLst;subst e1;cases r1;obtain ⟨its,rv,⟨o,n,g,c,_,_⟩,_⟩:=I.list h1;exact PySem.W.kia_one PySem.W.kitx_list I.kIn ⟨o,g,c⟩ e (fun z=>nomatch z) fin
 | tuple ds =>obtain ⟨a,xs,e1,h1,h2⟩:=hd.ofTup;subst e1;cases r1;obtain ⟨its,rv,⟨o,g,c,n,_⟩,_⟩:=I.tuple h1;exact PySem.W.kia_one PySem.W.kitx_tuple I.kIn ⟨o,g,c⟩ e (fun z=>nomatch z) fin
 | dict _=>unfold IsD at hd;exact hd.elim
theorem qR:∀ {bs:List Bool} {us:List Value},Vals (bs.map V.bl) us->LSm.BoolsAre us bs
 | [],_,.nil=>.nil
 | b::r,_,.cons h t=>by cases (show _=Value.bool b from h);exact .cons b (qR t)
theorem CS (hc:X.calm=true):kA X (.builtin "all") (fun xs H Q=>∃ (a:Addr) (bs:List Bool),xs=[.ref a]/\SqL X.K H a (bs.map V.bl)/\Q (.bl (bs.all id)) H):=by
 intro pins s σ H xs us Q I r h;obtain ⟨a,bs,rfl,hS,q⟩:=h;obtain ⟨u,rfl,r1⟩:=vals1 r;cases r1;obtain ⟨its,rv,p,_⟩:=I.list hS;have hl:=p.isList;have hb:=qR rv;have hlt:a<s.heap.objs.size:=by obtain ⟨_,e,_⟩:=hl;exact Heap.lt_size e
 refine call_all_walk (wpAny_pyIter_list hl ?_);refine ⟨s.heap.objs.size,[s.heap.objs.size,a],[s.heap.objs.size],its.toArray.size,_,_,fun i=>(bs[i]?).getD true,rfl,Walks.list (A:=X.A.in1) (I.ok.hd hc) _ a (Nat.ne_of_lt hlt) its.toArray,
  ⟨⟨_,Heap.get?_push_size _ rfl,rfl,rfl⟩,hl.push _⟩,fun i v s' Q' E' hP hQ=>?_,fun h' tk hk=>?_⟩
 ·obtain ⟨b,e,rfl⟩:=hb.get i v (by simpa using hP);simp only [e,Option.getD_some] at hQ;exact wpAny_truthy_bool hQ
 ·have e:((List.range its.toArray.size).all fun i=>(bs[i]?).getD true)=bs.all id:=by rw [List.size_toArray,hb.length];exact LSm.range_all bs
  rw [e];exact ⟨.bl _,H,I.kept (LSm.kept_iter hk),rfl,q⟩
theorem BN (hc:X.calm=true):kA X (.builtin "sum") (fun xs H Q=>∃ (a:Addr) (ns:List Int),xs=[.ref a]/\SqL X.K H a (ns.map V.int)/\Q (.int ns.sum) H):=by
 intro pins s σ H xs us Q I r h;obtain ⟨a,ns,rfl,hS,q⟩:=h;obtain ⟨u,rfl,r1⟩:=vals1 r;cases r1;obtain ⟨its,rv,p,_⟩:=I.list hS;have hi:IntsAre its ns:=intsAre_of rv;obtain ⟨xs,hx⟩:=hi.allInts.items;have hl':s.heap.IsList a (intItems xs):=hx▸p.isList;refine sum_intListG (I.ok.hd hc) hl' fun h' tk t' hk=>?_
 have e1:ns=xs.toList.map (·.1):=by rw [<-nums_intItems,<-hx];exact (show numsOf its.toArray.toList=ns from hi.numsOf).symm
 have e2:preSum (numAt xs) xs.size=ns.sum:=by rw [preSum_eq,List.take_of_length_le (by simp),e1]
 rw [e2];exact ⟨.int _,H,I.kept hk,⟨_,rfl⟩,q⟩
end
structure Jr (P:Program) (w:World) (outer:List Env) (H:Hp) (s:Shared) (H':Hp) (B:Heap) (ea:Addr) (cls a0:Value) (s':Shared):Prop where
 os:s'.os=s.os
 bare:AllBare s'.gens
 hok:HOk P w H' B
 keep:∀ b o,s.heap.get? b=some o->H b=none->b∉frs outer->B.get? b=some o
 there:∀ b o,s.heap.get? b=some o->b∉frs outer->∃ o',B.get? b=some o'
 slot:∀ b o,s.heap.get? b=some o->b∈frs outer->∃ sl,s'.heap.get? b=some { o with slots:=sl }
 free:∀ b o,s.heap.get? b=some o->H b=none->H' b=none
 tups:∀ b xs,H b=some (.tup xs)->H' b=some (.tup xs)
 frzs:∀ b o u,H b=some (.frz o u)->H' b=some (.frz o u)
 tbls:∀ b q,H b=some (.tbl q)->H' b=some (.tbl q)
 fly:Heap.FlyingW B outer ea cls a0 s'.heap
def CXW (P:Program) (w:World):CXT:=fun outer H s E e s'=>∃ ea cls a0 H' B,e=.ref ea/\E cls none H'/\Jr P w outer H s H' B ea cls a0 s'
section
variable {P:Program} {w:World} {K:PySem.W.Frag} {mg:Str->Option Value} {base:Heap} {N:List Str} {qual:Str} {scope:Scope} {f:Addr} {cd:Value} {A:Around} {outer:List Env} {s:Shared} {H:Hp} {E:XK}
theorem v5 {env:Env} {L:Addr} (hf:env.frame=some L):frs (env::outer)=L::frs outer:=by unfold frs;rw [List.filterMap_cons,hf]
theorem xj {CX:CXT} {pins:List (Addr×Obj)} {σ:St} {H1:Hp} {s1:Shared} {h':Heap} {ea:Addr} {cls:Value} {vs:List Value}
  (I:Inv (d6 (CXW P w) P w K mg base N qual scope f cd A outer s H E) pins σ H1 s1) (hx:Heap.MadeExcOf s1.heap h' ea cls vs) (hE:E cls none H1) :
  (d6 (CXW P w) P w K mg base N qual scope f cd A outer s H E).xe (.ref ea) { s1 with heap:=h' }:=by
 have hst:=I.stack;have hfs:frs (d6 (CXW P w) P w K mg base N qual scope f cd A outer s H E).stack=s.heap.objs.size::frs outer:=v5 rfl;have hin:∀ env∈(d6 (CXW P w) P w K mg base N qual scope f cd A outer s H E).stack,∀ b,env.frame=some b->b∈frs (d6 (CXW P w) P w K mg base N qual scope f cd A outer s H E).stack:=fun env he b hb=>List.mem_filterMap.mpr ⟨env,he,hb⟩
 have out:∀ b o,s.heap.get? b=some o->b∉frs outer->b∉frs (d6 (CXW P w) P w K mg base N qual scope f cd A outer s H E).stack:=fun b o e n z=>by
  rw [hfs] at z;rcases List.mem_cons.mp z with z | z
  ·rw [z] at e;exact absurd (Heap.lt_size e) (Nat.lt_irrefl _)
  ·exact n z
 refine wpAny_leaves_madeW (base:=PySem.W.hideAll s1.heap (frs (d6 (CXW P w) P w K mg base N qual scope f cd A outer s H E).stack)) I.ok.frames rfl (fun b o q=>PySem.W.of_hideAll _ q) (PySem.W.funFrames_hide hst hin) hx fun h2 t x1 x2 x3 x4=>?_
 refine ⟨ea,cls,.ref t,H1,_,rfl,hE,⟨I.os,I.bare,?_,?_,?_,?_,?_,I.base.tups,I.base.frzs,I.base.tbls,x1⟩⟩
 ·intro a o e;refine (I.hok a o e).stay (fun b u hb q=>PySem.W.hideAll_get _ q fun z=>?_) (fun _ q=>q) fun _ _ q=>q
  have:=I.stkFree b z;rcases hb with hb | hb
  ·rw [hb,e] at this;cases this
  ·rw [hb] at this;cases this
 ·intro b o e n hb;exact PySem.W.hideAll_get _ (I.base.keep b o e n hb (List.not_mem_nil)) (out b o e hb)
 ·intro b o e hb;obtain ⟨o',q⟩:=I.base.there b o e (List.not_mem_nil);exact ⟨o',PySem.W.hideAll_get _ q (out b o e hb)⟩
 ·intro b o e hb;obtain ⟨sl,q⟩:=I.base.slot b o e (I.ok.frf b hb) hb (List.not_mem_nil);obtain ⟨_,o2,q2,d2⟩:=I.ok.funs.mem hb;have q2:s.heap.get? b=some o2:=q2;rw [e] at q2;cases q2;obtain ⟨sl2,q3⟩:=x4 b _ (hx.keeps b _ q) d2;exact ⟨sl2,q3⟩
 ·intro b o e n;exact I.base.free b o e n (List.not_mem_nil)
theorem a8:Passes (CXW P w) (d6 (CXW P w) P w K mg base N qual scope f cd A outer s H E) E:=by
 intro pins σ H1 s1 e s2 I hc;obtain ⟨ea,cls,a0,H2,B,rfl,hE,F⟩:=hc;have hfs:frs (d6 (CXW P w) P w K mg base N qual scope f cd A outer s H E).stack=s.heap.objs.size::frs outer:=v5 rfl;have out:∀ b o,s.heap.get? b=some o->b∉frs outer->b∉frs (d6 (CXW P w) P w K mg base N qual scope f cd A outer s H E).stack:=fun b o e n z=>by
  rw [hfs] at z;rcases List.mem_cons.mp z with z | z
  ·rw [z] at e;exact absurd (Heap.lt_size e) (Nat.lt_irrefl _)
  ·exact n z
 refine wpAny_leaves_onW I.ok.frames rfl F.fly fun h2 x1 x2=>⟨ea,cls,a0,H2,B,rfl,hE,⟨F.os.trans I.os,F.bare,F.hok,?_,?_,?_,?_,?_,?_,?_,x1⟩⟩
 ·intro b o e n hb;exact F.keep b o (I.base.keep b o e n hb (List.not_mem_nil)) (I.base.free b o e n (List.not_mem_nil)) (out b o e hb)
 ·intro b o e hb;obtain ⟨o',q⟩:=I.base.there b o e (List.not_mem_nil);exact F.there b o' q (out b o e hb)
 ·intro b o e hb;obtain ⟨sl,q⟩:=I.base.slot b o e (I.ok.frf b hb) hb (List.not_mem_nil);obtain ⟨_,o2,q2,d2⟩:=I.ok.funs.mem hb;have q2:s.heap.get? b=some o2:=q2;rw [e] at q2;cases q2;obtain ⟨sl1,q1⟩:=F.slot b _ q (by rw [hfs];exact List.mem_cons_of_mem _ hb);obtain ⟨sl2,q3⟩:=x2 b _ q1 d2;exact ⟨sl2,q3⟩
 ·intro b o e n;obtain ⟨o',q⟩:=I.base.there b o e (List.not_mem_nil);exact F.free b o' q (I.base.free b o e n (List.not_mem_nil))
 ·intro b xs e;exact F.tups b xs (I.base.tups b xs e)
 ·intro b o u e;exact F.frzs b o u (I.base.frzs b o u e)
 ·intro b ps e;exact F.tbls b ps (I.base.tbls b ps e)
end
theorem Es {K:PySem.W.Frag} {h:Heap} {C:Addr} {bmB:List Value} {newId:String} (X:K.In h) (q:PySem.W.excIn K C bmB newId=true) :
  ∃ bm N nm qn bs hdct sn sub ab col dd k0 k1 k2 k3 k5 mN,h.get? C=some (excClassObj nm qn C N bs bm hdct sn sub ab col dd k0 k1 k2 k3 k5 newId)/\h.Ns N mN/\mN "__init__"=none/\OwnTail h bmB bm:=by
 unfold PySem.W.excIn at q;split at q
 ·rename_i d1 c1 l1 g1;split at q
  ·rename_i C2 bm2 j0 j1 j2 j3 n2 j5 hm hs;simp only [Bool.and_eq_true,beq_iff_eq,Bool.not_eq_true'] at q;obtain ⟨⟨⟨⟨⟨q1,q2⟩,q3⟩,q4⟩,q5⟩,q6⟩:=q;subst q1;subst q2;obtain ⟨z1,z2,z3,z4,z5,z6,z7,z8,z9,z10,z11⟩:=c1;dsimp only at hm q3 q5 q6;subst hm;subst q3;have hl:l1=#[j0,j1,j2,j3,some (.builtin n2),j5]:=by obtain ⟨l⟩:=l1;have hs':l=_:=hs;rw [hs']
   subst hl;exact ⟨bm2,z4,z1,z5,z2,z6,z7,z8,z9,z10,d1,j0,j1,j2,j3,j5,_,X _ _ g1,.of_isNs (PySem.W.isNs_of_in X q5),PySem.W.nsMap_none_of_in X q5 q6,PySem.W.tail_of_in X q4⟩
  ·cases q
 ·cases q
def xK (X:Cx) (E:XK):Prop:=∀ (pins:List (Addr×Obj)) (σ:St) (H:Hp) (s:Shared) (h':Heap) (ea:Addr) (cls:Value) (vs:List Value),Inv X pins σ H s->Heap.MadeExcOf s.heap h' ea cls vs->E cls none H->X.xe (.ref ea) { s with heap:=h' }
def Gv (C:Addr) (E:XK) (t:TA):TS:=fun _ σ H=>t σ H fun vs H1=>vs.length<=sizeLine/\E (.ref C) none H1
theorem BI {X:Cx} {E:XK} {x:Str} {C:Addr} {B newId initId:String} {bm:List Value} {np cpos pos:Pos} {e:Expr} {es:List Expr} {t:TA} (hc:X.calm=true) (M:xK X E) (FB:ExcBaseFacts B newId initId bm) (hg:Gl X x) (hm:X.mg x=some (.ref C)) (hC:PySem.W.excIn X.K C bm newId=true)
  (ha:PA X (e::es) t) (hdb:(x==("__debug__":Str))=false:=by decide) (he:starEach (e::es) X.env=(false,eval e X.env)::starEach es X.env:=by rfl) (hpl:(backTo cpos (starEach es X.env)).any (·.1)=false:=by rfl) :
  PS X (.Raise (some (.Call (.Name x np) (e::es) [] cpos)) none pos) (Gv C E t):=by
 intro pins s σ H D I h;obtain ⟨tl,N,nm,q,bs,hdct,sn,sub,ab,col,dd,k0,k1,k2,k3,k5,mN,hC0,hN,hni,T⟩:=Es I.mod.kin hC;refine wpAny_Raise_call_subT (C:=C) (nm:=nm) (q:=q) (N:=N) (bs:=bs) (bm:=tl) (hdct:=hdct) (sn:=sn) (sub:=sub) (ab:=ab) (col:=col) (dd:=dd) (k0:=k0) (k1:=k1) (k2:=k2) (k3:=k3) (k5:=k5)
  FB (mN:=mN) (T.hasType FB.hasBase) (I.ok.hd hc) (by rw [he];show (false || (backTo cpos (starEach es X.env)).any (·.1))=false;rw [hpl];rfl) hni (pj I hg hm ⟨rfl,?_⟩ hdb)
 have q0:=ha cpos pins s σ H _ I h;rw [he] at q0 ⊢;refine Calls.evalArgs_plain (wpAny_mono q0 (fun us s2 h2=>?_) fun _ _ y=>y);obtain ⟨vs,H2,I2,rv,z,hE⟩:=h2;exact ⟨rfl,by rw [<-rv.length];exact z,I2.bk _ _ hC0,hN.keeps I2.bk,T.keeps I2.bk,fun h' ea hx=>M pins σ H2 s2 h' ea _ _ I2 hx hE⟩
theorem ib {H:Hp} {D:Addr} {o:HO} (h:H D=none):az H (upd H D o):=fun b u e=>by rw [aI (aT e h)];exact e
theorem az.put {H H':Hp} {D:Addr} {o:HO} (s:az H H') (h:H D=none):az H (upd H' D o):=fun b u e=>by rw [aI (aT e h)];exact s b u e
mutual
def fE:PyData->Bool
 | .list _=>false
 | .tuple ds=>lF ds
 | .dict _=>false
 | _=>true
def lF:List PyData->Bool
 | []=>true
 | d::ds=>fE d&&lF ds
end
theorem set_own (σ:St) (x:Option V) (v:V) (σ':St) (h:σ'.length=1):(σ++σ').set σ.length (some v)=σ++[some v]:=by obtain ⟨y,rfl⟩:=List.length_eq_one_iff.mp h;simp
structure Rows (H H':Hp) (D:Addr) (qs:List Addr) (rs:List (List Int)):Prop where
 d:H' D=some (.lst (qs.map V.ref))
 len:qs.length=rs.length
 at':∀ (i:Nat) q r,qs[i]?=some q->rs[i]?=some r->H' q=some (.lst (r.map V.int))
 new:∀ q∈qs,H q=none
 nd:qs.Nodup
 nD:D∉qs
section
variable {prog:Program} {w:World} {A:Around} {E:Value->Shared->Prop} {s:Shared}
theorem yh {it t:Addr} {i:Nat} {its:Array Value} {x:Value} {Q:Value->Shared->Prop} (hi:s.heap.IsTupleIter it t i) (ht:s.heap.IsTuple t its) (hx:its[i]?=some x)
  (hQ:∀ h',h'.IsTupleIter it t (i+1)->Heap.SameBut it s.heap h'->Q x { s with heap:=h' }):wpAny (model prog w) A (Builtin.SmallTypes.nextOf (.ref it)) Q E s:=by
 obtain ⟨oi,gi,ci,di⟩:=id hi;obtain ⟨ot,gt,_,nt,dt⟩:=ht;unfold Builtin.SmallTypes.nextOf;refine wpAny_bind (wpAny_callSpecial?_slot (name:=Str.ofString "__next__") hi.typeIs F.slot_tuple_iterator_next (wpAny_call_entry F.slot_tuple_iterator_next hi.typeIs F.entry_tuple_iterator_next ?_ (F.args_tuple_iterator_next_1 _)));refine wpAny_bind (m:=field (.ref it) 0) (wpAny_field gi di (x:=.ref t) rfl ?_);show wpAny (model prog w) _ (if (Value.ref t==Value.none)=true then _ else _) _ _ s;have nn:¬ (Value.ref t==Value.none)=true:=fun q=>Bool.false_ne_true q
 rw [if_neg nn];refine wpAny_bind (m:=field (.ref it) 1) (wpAny_field gi di (x:=.int i 0) rfl ?_);refine wpAny_bind (m:=seqItems? (.ref t)) (wpAny_seqItems gt dt ?_);simp only [Int.toNat_natCast,hx];refine wpAny_bind (wpAny_setField gi di (by simp) (wpAny_pure ⟨x,rfl,wpAny_pure (hQ _ ⟨_,Heap.get?_update_self _ gi (Obj.isFreed_of_fields (Obj.data_mapFields di _)),(Obj.cls_mapFields ..).trans ci,?_⟩ (Heap.SameBut.update ..))⟩));rw [Obj.data_mapFields di];simp [rawInt]
theorem ql {it t:Addr} {i:Nat} {its:Array Value} {Q:Value->Shared->Prop} (hh:A.handled=none) (hi:s.heap.IsTupleIter it t i) (ht:s.heap.IsTuple t its) (hx:its[i]?=none)
  (hE:∀ h' e,Heap.ExtBut it s.heap h'->(∃ o,h'.get? e=some o/\o.cls=.type "StopIteration")->E (.ref e) { s with heap:=h' }):wpAny (model prog w) A (Builtin.SmallTypes.nextOf (.ref it)) Q E s:=by
 obtain ⟨oi,gi,ci,di⟩:=id hi;obtain ⟨ot,gt,_,nt,dt⟩:=ht;unfold Builtin.SmallTypes.nextOf;refine wpAny_bind (wpAny_callSpecial?_slot (name:=Str.ofString "__next__") hi.typeIs F.slot_tuple_iterator_next (wpAny_call_entry F.slot_tuple_iterator_next hi.typeIs F.entry_tuple_iterator_next ?_ (F.args_tuple_iterator_next_1 _)));refine wpAny_bind (m:=field (.ref it) 0) (wpAny_field gi di (x:=.ref t) rfl ?_);show wpAny (model prog w) _ (if (Value.ref t==Value.none)=true then _ else _) _ _ s;have nn:¬ (Value.ref t==Value.none)=true:=fun q=>Bool.false_ne_true q
 rw [if_neg nn];refine wpAny_bind (m:=field (.ref it) 1) (wpAny_field gi di (x:=.int i 0) rfl ?_);refine wpAny_bind (m:=seqItems? (.ref t)) (wpAny_seqItems gt dt ?_);simp only [Int.toNat_natCast,hx];refine wpAny_bind (wpAny_rule (wpAny_bind (wpAny_setField gi di (by simp) ?_)));refine wpAny_bind (m:=newExc (.type "StopIteration") []) ?_;unfold newExc newTuple;refine wpAny_bind (wpAny_newObj_type ?_ (by size_fits ));refine wpAny_bind (m:=firstArgMember _ _) (wpAny_of_eq (a:=Value.none) (by first | rfl | (unfold firstArgMember;rfl)) ?_);refine wpAny_newObj_type ?_ (by size_fits );unfold raiseNew;refine wpAny_bind (wpAny_handled ?_)
 first | rw [show A.in1.handled=none from hh] | rw [hh]
 refine wpAny_bind (wpAny_pure (wpAny_throw ?_));refine hE _ _ (fun b o hb e=>?_) ⟨_,Heap.get?_push_size _ rfl,rfl⟩;exact Heap.get?_push_of_some _ (Heap.get?_push_of_some _ ((Heap.get?_update_other _ _ (Ne.symm hb)).trans e))
theorem nP (hh:A.handled=none) (it t:Addr) (hne:t≠it) (its:Array Value):Draws prog w A it [it,t] its.size (fun i v=>its[i]?=some v) (fun i h=>h.IsTupleIter it t i/\h.IsTuple t its) where
 live:=fun _ _ st=>by obtain ⟨⟨o,g,_⟩,_⟩:=st;exact ⟨o,g⟩
 frame:=fun _ _ _ st k=>by obtain ⟨⟨o,g,r⟩,⟨o2,g2,r2⟩⟩:=st;exact ⟨⟨o,k it (by simp) o g,r⟩,⟨o2,k t (by simp) o2 g2,r2⟩⟩
 item:=fun i s Q E hi st hQ=>yh st.1 st.2 (x:=its[i]) (by simp [hi]) fun h' i' sb=>by refine hQ _ h' s.toks (by simp [hi]) ⟨i',?_⟩ sb;obtain ⟨o2,g2,r2⟩:=st.2;exact ⟨o2,(sb.2 t hne).trans g2,r2⟩
 done:=fun s Q E st hE=>ql hh st.1 st.2 (by simp) hE
end
structure nj (z TI TO i1 i2:Addr) (f1 f2:List Addr):Prop where
 TIz:TI≠z
 TOz:TO≠z
 z1:i1≠z
 z2:i2≠z
 TIO:TI≠TO
 TI1:TI≠i1
 TI2:TI≠i2
 TO1:TO≠i1
 TO2:TO≠i2
 i12:i1≠i2
 a1:∀ b∈f1,b≠z/\b≠TO/\b≠i2
 a2:∀ b∈f2,b≠z/\b≠TO/\b≠i1
section
variable {prog:Program} {w:World} {A:Around} {E:Value->Shared->Prop} {s:Shared} {z TI TO i1 i2:Addr} {f1 f2:List Addr} {n1 n2 k:Nat} {P1 P2:Nat->Value->Prop} {S1 S2:Nat->Heap->Prop} {a b:Value}
theorem BG (D1:Draws prog w A i1 f1 n1 P1 S1) (D2:Draws prog w A i2 f2 n2 P2 S2) (Z:nj z TI TO i1 i2 f1 f2) {Q:Value->Shared->Prop} (hz:IsZip s.heap z TI TO .none) (hI:IsPair s.heap TI (.ref i1) (.ref i2)) (hO:IsPair s.heap TO a b)
  (st1:S1 k s.heap) (st2:S2 k s.heap) (k1:k<n1) (k2:k<n2)
  (hQ:∀ h' x y tk,P1 k x->P2 k y->IsZip h' z TI TO (rawInt s.heap.objs.size)->IsPair h' TO x y->S1 (k+1) h'->S2 (k+1) h'->IsPair h' s.heap.objs.size x y ->
   (∀ c o,c≠z->c≠TO->c≠i1->c≠i2->s.heap.get? c=some o->h'.get? c=some o)->Q (.ref s.heap.objs.size) { s with heap:=h',toks:=tk }) :
  wpAny (model prog w) A (Builtin.«zip.__next__» ⟨[.ref z],[]⟩) (fun fin s'=>∃ v,fin=.done (.ret v)/\Q v s') E s:=by
 refine wpAny_bind (m:=field (.ref z) 2) (wpAny_field hz rfl (x:=.bool false) rfl ?_);refine wpAny_bind (m:=field (.ref z) 3) (wpAny_field hz rfl (x:=.ref TI) rfl ?_);refine wpAny_bind (wpAny_seqItems hI rfl ?_);refine wpAny_bind (m:=Builtin.SmallTypes.ownedTupleIsFree (.ref z)) ?_;unfold Builtin.SmallTypes.ownedTupleIsFree;refine wpAny_bind (wpAny_field hz rfl (x:=.none) rfl (wpAny_pure ?_));rw [if_pos (by rfl)];refine wpAny_bind (wpAny_rule (wpAny_bind (wpAny_field hz rfl (x:=.ref TO) rfl (wpAny_bind (wpAny_setField_rec hz (by simp) fun g1 y1 e1=>?_)))));have y1:IsZip g1 z TI TO .ellipsis:=y1;refine wpAny_bind ?_;simp only [List.zipIdx_cons,List.zipIdx_nil,List.forIn_cons,List.forIn_nil];refine wpAny_bind (wpAny_bind (wpAny_onRaise (wpAny_bind (m:=Builtin.SmallTypes.nextOf (.ref i1)) ?_)));have u1:S1 k g1:=D1.frame _ _ _ st1 fun b hb o e=>(e1.2 b (Z.a1 b hb).1).trans e
 refine D1.item k { s with heap:=g1 } _ _ k1 u1 fun x g2 t2 px v1 e2=>wpAny_pure ?_
 have o2:IsPair g2 TO a b:=(e2.2 TO Z.TO1).trans ((e1.2 TO Z.TOz).trans hO);refine wpAny_bind (wpAny_seqItems (s:={ s with heap:=g2,toks:=t2 }) o2 rfl (wpAny_bind (wpAny_updateSeq_pair o2 fun g3 o3 e3=>?_)));have o3:IsPair g3 TO x b:=o3;refine wpAny_bind (wpAny_letGo (wpAny_pure (wpAny_bind (wpAny_bind (wpAny_onRaise (wpAny_bind (m:=Builtin.SmallTypes.nextOf (.ref i2)) ?_))))));have u2:S2 k g3:=D2.frame _ _ _ st2 fun b hb o e=>(e3.2 b (Z.a2 b hb).2.1).trans ((e2.2 b (Z.a2 b hb).2.2).trans ((e1.2 b (Z.a2 b hb).1).trans e))
 refine D2.item k { s with heap:=g3,toks:=t2 } _ _ k2 u2 fun y g4 t4 py v2 e4=>wpAny_pure ?_
 have o4:IsPair g4 TO x b:=(e4.2 TO Z.TO2).trans o3;refine wpAny_bind (wpAny_seqItems (s:={ s with heap:=g4,toks:=t4 }) o4 rfl (wpAny_bind (wpAny_updateSeq_pair o4 fun g5 o5 e5=>?_)));have o5:IsPair g5 TO x y:=o5;refine wpAny_bind (wpAny_letGo (wpAny_pure (wpAny_pure (wpAny_bind (wpAny_seqItems (s:={ s with heap:=g5,toks:=t4 }) o5 rfl (wpAny_bind (wpAny_newTuple ?_)))))));have sz:g5.objs.size=s.heap.objs.size:=by rw [e5.1,e4.1,e3.1,e2.1,e1.1]
 have y5:IsZip g5 z TI TO .ellipsis:=(e5.2 z Z.TOz.symm).trans ((e4.2 z Z.z2.symm).trans ((e3.2 z Z.TOz.symm).trans ((e2.2 z Z.z1.symm).trans y1)));have kp5:∀ c o,c≠z->c≠TO->c≠i1->c≠i2->s.heap.get? c=some o->g5.get? c=some o:=fun c o c1 c2 c3 c4 e =>
  (e5.2 c c2).trans ((e4.2 c c4).trans ((e3.2 c c2).trans ((e2.2 c c3).trans ((e1.2 c c1).trans e))))
 have w1:S1 (k+1) g5:=D1.frame _ _ _ v1 fun b hb o e=>(e5.2 b (Z.a1 b hb).2.1).trans ((e4.2 b (Z.a1 b hb).2.2).trans ((e3.2 b (Z.a1 b hb).2.1).trans e))
 have w2:S2 (k+1) g5:=D2.frame _ _ _ v2 fun b hb o e=>(e5.2 b (Z.a2 b hb).2.1).trans e
 have zl:z<g5.objs.size:=Heap.lt_size y5;refine wpAny_bind (m:=Builtin.SmallTypes.ownedTupleHandOut (.ref z) (.ref g5.objs.size)) ?_;unfold Builtin.SmallTypes.ownedTupleHandOut;have y6:IsZip (g5.push { cls:=.type "tuple",data:=.seq #[x,y] }) z TI TO .ellipsis:=Heap.get?_push_of_some _ y5;refine wpAny_bind (wpAny_setField_rec y6 (by simp) fun g7 y7 e7=>?_);have y7:IsZip g7 z TI TO (rawInt g5.objs.size):=y7;refine wpAny_setField_rec y7 (by simp) fun g8 y8 e8=>?_
 have y8:IsZip g8 z TI TO (rawInt g5.objs.size):=y8;have up:∀ c o,c≠z->g5.get? c=some o->g8.get? c=some o:=fun c o c1 e=>(e8.2 c c1).trans ((e7.2 c c1).trans (Heap.get?_push_of_some _ e))
 have pr:IsPair g8 g5.objs.size x y:=(e8.2 _ (Nat.ne_of_gt zl)).trans ((e7.2 _ (Nat.ne_of_gt zl)).trans (Heap.get?_push_size _ rfl));refine wpAny_pure ⟨_,rfl,?_⟩;rw [sz] at y8 pr;show Q (.ref g5.objs.size) _;rw [sz];exact hQ g8 x y t4 px py y8 (up _ _ Z.TOz o5) (D1.frame _ _ _ w1 fun b hb o e=>up b o (Z.a1 b hb).1 e) (D2.frame _ _ _ w2 fun b hb o e=>up b o (Z.a2 b hb).1 e) pr fun c o c1 c2 c3 c4 e=>up c o c1 (kp5 c o c1 c2 c3 c4 e)
theorem Dj (D1:Draws prog w A i1 f1 n1 P1 S1) (Z:nj z TI TO i1 i2 f1 f2) {Q:Fin->Shared->Prop} (hz:IsZip s.heap z TI TO .none) (hI:IsPair s.heap TI (.ref i1) (.ref i2)) (hO:IsPair s.heap TO a b) (st1:S1 n1 s.heap)
  (hE:∀ h' e,(∀ c o,c≠z->c≠TO->c≠i1->c≠i2->s.heap.get? c=some o->h'.get? c=some o)->(∃ o,h'.get? e=some o/\o.cls=.type "StopIteration")->E (.ref e) { s with heap:=h' }) :
  wpAny (model prog w) A (Builtin.«zip.__next__» ⟨[.ref z],[]⟩) Q E s:=by
 refine wpAny_bind (m:=field (.ref z) 2) (wpAny_field hz rfl (x:=.bool false) rfl ?_);refine wpAny_bind (m:=field (.ref z) 3) (wpAny_field hz rfl (x:=.ref TI) rfl ?_);refine wpAny_bind (wpAny_seqItems hI rfl ?_);refine wpAny_bind (m:=Builtin.SmallTypes.ownedTupleIsFree (.ref z)) ?_;unfold Builtin.SmallTypes.ownedTupleIsFree;refine wpAny_bind (wpAny_field hz rfl (x:=.none) rfl (wpAny_pure ?_));rw [if_pos (by rfl)];refine wpAny_bind (wpAny_rule (wpAny_bind (wpAny_field hz rfl (x:=.ref TO) rfl (wpAny_bind (wpAny_setField_rec hz (by simp) fun g1 y1 e1=>?_)))));have y1:IsZip g1 z TI TO .ellipsis:=y1;refine wpAny_bind ?_;simp only [List.zipIdx_cons,List.zipIdx_nil,List.forIn_cons,List.forIn_nil];refine wpAny_bind (wpAny_bind (wpAny_onRaise (wpAny_bind (m:=Builtin.SmallTypes.nextOf (.ref i1)) ?_)));have u1:S1 n1 g1:=D1.frame _ _ _ st1 fun b hb o e=>(e1.2 b (Z.a1 b hb).1).trans e
 refine D1.done { s with heap:=g1 } _ _ u1 fun g2 e x2 he=>?_
 obtain ⟨oe,ge,ce⟩:=he;have y2:IsZip g2 z TI TO .ellipsis:=x2 _ _ Z.z1.symm y1;have hez:e≠z:=fun q=>by subst q;rw [y2] at ge;cases ge;simp at ce
 refine wpAny_setField_rec y2 (by simp) fun g3 _ e3=>hE g3 e (fun c o c1 _ c3 _ q=>(e3.2 c c1).trans (x2 _ _ c3 ((e1.2 c c1).trans q))) ⟨oe,(e3.2 e hez).trans ge,ce⟩
theorem xI (D1:Draws prog w A.in1 i1 f1 n1 P1 S1) (D2:Draws prog w A.in1 i2 f2 n2 P2 S2) (Z:nj z TI TO i1 i2 f1 f2) {Q:Option Value->Shared->Prop} (hz:IsZip s.heap z TI TO .none) (hI:IsPair s.heap TI (.ref i1) (.ref i2)) (hO:IsPair s.heap TO a b)
  (st1:S1 k s.heap) (st2:S2 k s.heap) (k1:k<n1) (k2:k<n2)
  (hQ:∀ h' x y tk,P1 k x->P2 k y->IsZip h' z TI TO (rawInt s.heap.objs.size)->IsPair h' TO x y->S1 (k+1) h'->S2 (k+1) h'->IsPair h' s.heap.objs.size x y ->
   (∀ c o,c≠z->c≠TO->c≠i1->c≠i2->s.heap.get? c=some o->h'.get? c=some o)->Q (some (.ref s.heap.objs.size)) { s with heap:=h',toks:=tk }):wpAny (model prog w) A (pyNext (.ref z)) Q E s:=by
 have hT:s.TypeIs (.ref z) "zip":=⟨_,hz,rfl⟩
 unfold pyNext;refine wpAny_bind (wpAny_attempt (wpAny_callSpecial?_slot (name:=Str.ofString "__next__") hT F.slot_zip_next (wpAny_call_entry F.slot_zip_next hT F.entry_zip_next (BG D1 D2 Z hz hI hO st1 st2 k1 k2 fun h' x y tk p1 p2 c1 c2 c3 c4 c5 c6=>?_) (F.args_zip_next_1 _))));exact wpAny_pure (hQ h' x y tk p1 p2 c1 c2 c3 c4 c5 c6)
theorem rl (D1:Draws prog w A.in1 i1 f1 n1 P1 S1) (Z:nj z TI TO i1 i2 f1 f2) {Q:Option Value->Shared->Prop} (hz:IsZip s.heap z TI TO .none) (hI:IsPair s.heap TI (.ref i1) (.ref i2)) (hO:IsPair s.heap TO a b) (st1:S1 n1 s.heap)
  (hQ:∀ h',(∀ c o,c≠z->c≠TO->c≠i1->c≠i2->s.heap.get? c=some o->h'.get? c=some o)->Q none { s with heap:=h' }):wpAny (model prog w) A (pyNext (.ref z)) Q E s:=by
 have hT:s.TypeIs (.ref z) "zip":=⟨_,hz,rfl⟩
 unfold pyNext;refine wpAny_bind (wpAny_attempt (wpAny_callSpecial?_slot (name:=Str.ofString "__next__") hT F.slot_zip_next (wpAny_call_entry F.slot_zip_next hT F.entry_zip_next (Dj D1 Z hz hI hO st1 fun h' e k0 he=>?_) (F.args_zip_next_1 _))));obtain ⟨o,ho,hc⟩:=he;exact wpAny_bind (wpAny_isInstance (T:="StopIteration") (b:=true) ⟨o,ho,hc⟩ isSubtype_stop (wpAny_pure (hQ _ k0)))
abbrev zH1 (h:Heap) (t:Addr):Heap:=h.push { cls:=.type "tuple_iterator",data:=.fields #[.ref t,.int 0 0] }
abbrev zH2 (h:Heap) (t l:Addr):Heap:=(zH1 h t).push { cls:=.type "list_iterator",data:=.fields #[.ref l,.int 0 0] }
abbrev zH3 (h:Heap) (t l:Addr):Heap:=(zH2 h t l).push { cls:=.type "tuple",data:=.seq #[.ref h.objs.size,.ref (zH1 h t).objs.size] }
abbrev zH4 (h:Heap) (t l:Addr):Heap:=(zH3 h t l).push { cls:=.type "tuple",data:=.seq #[.none,.none] }
abbrev zH5 (h:Heap) (t l:Addr):Heap:=(zH4 h t l).push { cls:=.type "zip",data:=.fields #[.none,.bool false,.bool false,.ref (zH2 h t l).objs.size,.ref (zH3 h t l).objs.size] }
theorem vD (t l:Addr) (xs ys:Array Value):Meets (Builtin.«zip.__new__» ⟨[.type "zip",.ref t,.ref l],[]⟩) (fun _ R s=>s.heap.IsTuple t xs/\s.heap.IsList l ys/\R (.ok (.ret (.ref (zH4 s.heap t l).objs.size))) { s with heap:=zH5 s.heap t l }) :=
 .of_wp fun prog w A R s h=>by
  obtain ⟨hp,g,d,tk,os⟩:=s;obtain ⟨ht,hl,h⟩:=h;have sb:isSubtype (.type "zip") (.type "zip")=pure true:=by rw [isSubtype_type];kernel_rfl
  have hT1:Heap.IsTuple (Shared.heap ⟨hp,g,d,tk,os⟩) t xs:=ht;have hL2:Heap.IsList (Shared.heap ⟨hp.push { cls:=.type "tuple_iterator",data:=.fields #[.ref t,.int 0 0] },g,d,tk,os⟩) l ys:=Heap.IsList.push hl _
  wp_walk using wpAny_pyIter_tuple hT1,wpAny_pyIter_list hL2
  exact ⟨_,rfl,h⟩
theorem yc {t l:Addr} {xs ys:Array Value} {Q:Value->Shared->Prop} (ht:s.heap.IsTuple t xs) (hl:s.heap.IsList l ys) (h:Q (.ref (zH4 s.heap t l).objs.size) { s with heap:=zH5 s.heap t l }) :
  wpAny (model prog w) A (call (.type "zip") [.ref t,.ref l]) Q E s:=by
 refine callType_new F.called_zip (by decide) (F.typeCall_zip_2 _ _) (F.newCall_zip_2 _ _) (fun obj=>F.args_object_init_3 obj _ _) F.entry_zip_new (vD t l xs ys) ⟨ht,hl,?_⟩;exact ⟨⟨_,Heap.get?_push_size _ rfl,rfl⟩,h⟩
end
section
variable {X:Cx} {pins:List (Addr×Obj)} {σ:L2.St} {H:Hp} {s:Shared}
theorem Inv.turnLay {ch:List Addr} {h':Heap} {t':Nat} {T:Addr} {o:HO} (I:Inv X pins σ H s) (hf:∀ b∈ch,rp X pins H b) (hT:s.heap.objs.size<=T) (k:∀ b u,b∉ch->s.heap.get? b=some u->h'.get? b=some u)
  (new:dD X.prog X.w (upd H T o) h' T o):Inv X pins σ (upd H T o) { s with heap:=h',toks:=t' }:=by
 have hn:H T=none:=I.hok.fresh hT;have nch:∀ b u,H b=some u->b∉ch:=fun b u e z=>by rw [(hf b z).1] at e;cases e
 have neT:∀ b u,s.heap.get? b=some u->b≠T:=fun b u e=>Nat.ne_of_lt (Nat.lt_of_lt_of_le (Heap.lt_size e) hT)
 refine I.step (g':=s.gens) (d':=s.drawn) (ch:=ch) (fun b hb=>?_) (fun b u _ _ hc e _=>k b u hc e) (fun b u _ _ hc e _=>⟨u.slots,k b u hc e⟩) (fun b u _ e n=>by rw [aI (neT b u e)];exact n)
  (fun b u hc e=>⟨u,k b u hc e⟩) (fun b xs e=>by rw [aI (aT e hn)];exact e) (fun b u v e=>by rw [aI (aT e hn)];exact e) (fun b ps e=>by rw [aI (aT e hn)];exact e) (fun m hm=>?_) (fun b u e=>?_) I.bare
 ·obtain ⟨f0,f1,f2,f3,f4,f5⟩:=hf b hb;exact ⟨f3,f1,f4,f5⟩
 ·obtain ⟨o2,es,ep,ho,r⟩:=hm;exact ⟨o2,es,ep,k _ o2 (fun z=>(hf _ z).2.1 rfl) ho,r⟩
 ·by_cases hb:b=T
  ·subst hb;rw [aR] at e;cases e;exact new
  ·rw [aI hb] at e;refine (I.hok b u e).stay (fun c v hc q=>k c v ?_ q) (fun c q=>by rw [aI (aT q hn)];exact q) (fun c xs q=>by rw [aI (aT q hn)];exact q) fun c o' w' q=>by rw [aI (aT q hn)];exact q
   rcases hc with z | z
   ·rw [z];exact nch b u e
   ·exact nch c _ z
theorem Inv.turneds {ch:List Addr} {h':Heap} {t':Nat} (I:Inv X pins σ H s) (hf:∀ b∈ch,rp X pins H b) (k:∀ b u,b∉ch->s.heap.get? b=some u->h'.get? b=some u):Inv X pins σ H { s with heap:=h',toks:=t' }:=by
 have nch:∀ b u,H b=some u->b∉ch:=fun b u e z=>by rw [(hf b z).1] at e;cases e
 refine I.step (g':=s.gens) (d':=s.drawn) (ch:=ch) (fun b hb=>?_) (fun b u _ _ hc e _=>k b u hc e) (fun b u _ _ hc e _=>⟨u.slots,k b u hc e⟩) (fun b u _ e n=>n)
  (fun b u hc e=>⟨u,k b u hc e⟩) (fun b xs e=>e) (fun b u v e=>e) (fun b ps e=>e) (fun m hm=>?_) (fun b u e=>?_) I.bare
 ·obtain ⟨f0,f1,f2,f3,f4,f5⟩:=hf b hb;exact ⟨f3,f1,f4,f5⟩
 ·obtain ⟨o2,es,ep,ho,r⟩:=hm;exact ⟨o2,es,ep,k _ o2 (fun z=>(hf _ z).2.1 rfl) ho,r⟩
 ·refine (I.hok b u e).stay (fun c v hc q=>k c v ?_ q) (fun _ q=>q) fun _ _ q=>q
  rcases hc with z | z
  ·rw [z];exact nch b u e
  ·exact nch c _ z
end
def Itz (K:PySem.W.Frag) (a b:Addr) (n:Nat):It :=
 ⟨fun i H=>i<n/\∃ xs ys,SqT K H a xs/\SqL K H b ys/\xs.length=n/\ys.length=n,
  fun i H v H'=>∃ t x y,v=.ref t/\H t=none/\H'=upd H t (.tup [x,y])/\(∀ xs,SqT K H a xs->xs[i]?=some x)/\∀ ys,SqL K H b ys->ys[i]?=some y,
  fun i H=>i=n/\∃ xs ys,SqT K H a xs/\SqL K H b ys/\xs.length=n/\ys.length=n⟩
theorem C9 {P:Program} {w:World} {K:PySem.W.Frag} {elts:List Expr} {x1:Nat} {tp:Pos} {a b z TI TO i1 i2:Addr} {n:Nat} (Z:nj z TI TO i1 i2 [i1,a] [i2,b]) :
  Turn P w K (.Tuple elts x1 tp) (Itz K a b n) [z,TI,TO,i1,i2] z (fun i h=>IsZip h z TI TO .none/\IsPair h TI (.ref i1) (.ref i2)/\(∃ u v,IsPair h TO u v)/\h.IsTupleIter i1 a i/\h.IsListIter i2 b i) where
 mem:=by simp
 obj:=fun i h st c hc=>by
  obtain ⟨h1,h2,⟨u,v,h3⟩,⟨o4,g4,_,d4⟩,⟨o5,g5,_,d5⟩⟩:=st;simp only [List.mem_cons,List.not_mem_nil,or_false] at hc;rcases hc with rfl | rfl | rfl | rfl | rfl
  ·exact ⟨_,h1,fun v q=>by cases q⟩
  ·exact ⟨_,h2,fun v q=>by cases q⟩
  ·exact ⟨_,h3,fun v q=>by cases q⟩
  ·exact ⟨_,g4,fun v q=>by rw [d4] at q;cases q⟩
  ·exact ⟨_,g5,fun v q=>by rw [d5] at q;cases q⟩
 keep:=fun i h h' st k=>by obtain ⟨h1,h2,⟨u,v,h3⟩,⟨o4,g4,r4⟩,⟨o5,g5,r5⟩⟩:=st;exact ⟨k z (by simp) _ h1,k TI (by simp) _ h2,⟨u,v,k TO (by simp) _ h3⟩,⟨o4,k i1 (by simp) _ g4,r4⟩,⟨o5,k i2 (by simp) _ g5,r5⟩⟩
 item:=by
  intro X hP hw hK hc i pins s σ H E I hf st hg;subst hP hw hK;obtain ⟨hi,xs,ys,hx,hy,lx,ly⟩:=hg;obtain ⟨h1,h2,⟨u,v,h3⟩,h4,h5⟩:=st;obtain ⟨its,rv,p,_⟩:=I.tuple hx;obtain ⟨jts,rw',p',_⟩:=I.list hy;have la:=rv.length;have lb:=rw'.length;have hh:X.A.in1.handled=none:=I.ok.hd hc;have na:a≠i1:=fun q=>by obtain ⟨o,g,c,_⟩:=p;obtain ⟨o4,g4,c4,_⟩:=h4;rw [q,g4] at g;cases g;rw [c4] at c;exact absurd (Value.type.inj c) (by decide)
  have nb:b≠i2:=fun q=>by obtain ⟨o,n,g,c,_⟩:=p';obtain ⟨o5,g5,c5,_⟩:=h5;rw [q,g5] at g;cases g;rw [c5] at c;exact absurd (Value.type.inj c) (by decide)
  have pt:s.heap.IsTuple a its.toArray:=p;refine xI (nP hh i1 a na its.toArray) (Draws.list hh i2 b nb jts.toArray) Z h1 h2 h3 ⟨h4,pt⟩ ⟨h5,p'.isList⟩ (by simp;omega) (by simp;omega) fun h' x y tk px py c1 c2 c3 c4 c5 c6=>⟨_,rfl,?_⟩
  refine wpAny_letOwnedTupleGo_zip (s:={ s with heap:=h',toks:=tk }) c1 fun h2' d1 d2=>?_
  have zl:z<s.heap.objs.size:=Heap.lt_size h1;have up:∀ c o,c≠z->h'.get? c=some o->h2'.get? c=some o:=fun c o hc e=>(d2.2 c hc).trans e
  have nT:s.heap.objs.size≠z:=Nat.ne_of_gt zl;obtain ⟨x0,ex,rx⟩:∃ x0,xs[i]?=some x0/\RelV x0 x:=by
   have hil:i<xs.length:=by omega
   obtain ⟨u',e1,e2⟩:=rv.get (List.getElem?_eq_getElem hil);refine ⟨xs[i],List.getElem?_eq_getElem hil,?_⟩;have px':its[i]?=some x:=by simpa using px
   rw [e1] at px';cases px';exact e2
  obtain ⟨y0,ey,ry⟩:∃ y0,ys[i]?=some y0/\RelV y0 y:=by
   have hil:i<ys.length:=by omega
   obtain ⟨u',e1,e2⟩:=rw'.get (List.getElem?_eq_getElem hil);refine ⟨ys[i],List.getElem?_eq_getElem hil,?_⟩;have py':jts[i]?=some y:=by simpa using py
   rw [e1] at py';cases py';exact e2
  have fr:H s.heap.objs.size=none:=I.hok.fresh (Nat.le_refl _);refine ⟨.ref s.heap.objs.size,upd H s.heap.objs.size (.tup [x0,y0]),?_,rfl,⟨_,x0,y0,rfl,fr,rfl,fun xs' h=>by rw [I.tuple_inj h hx];exact ex,fun ys' h=>by rw [I.list_inj h hy];exact ey⟩,?_,fun c hc'=>?_⟩
  ·refine I.turnLay (t':=tk) (ch:=[z,TI,TO,i1,i2]) hf (Nat.le_refl _) (fun c o hn e=>?_) ⟨by show 2<=sizeLine;decide,[x,y],.cons rx (.cons ry .nil),⟨_,up _ _ nT c5,rfl,rfl,_,rfl⟩⟩;simp only [List.mem_cons,List.not_mem_nil,or_false,not_or] at hn;exact up c o hn.1 (c6 c o hn.1 hn.2.2.1 hn.2.2.2.1 hn.2.2.2.2 e)
  ·obtain ⟨⟨o4,g4,r4⟩,_⟩:=c3;obtain ⟨⟨o5,g5,r5⟩,_⟩:=c4;exact ⟨d1,up _ _ Z.TIz (c6 _ _ Z.TIz Z.TIO Z.TI1 Z.TI2 h2),⟨x,y,up _ _ Z.TOz c2⟩,⟨o4,up _ _ Z.z1 g4,r4⟩,⟨o5,up _ _ Z.z2 g5,r5⟩⟩
  ·have h0:=(hf c hc').1;obtain ⟨oc,gc⟩:∃ oc,s.heap.get? c=some oc:=by
    simp only [List.mem_cons,List.not_mem_nil,or_false] at hc';rcases hc' with rfl | rfl | rfl | rfl | rfl
    ·exact ⟨_,h1⟩
    ·exact ⟨_,h2⟩
    ·exact ⟨_,h3⟩
    ·obtain ⟨o4,g4,_⟩:=h4;exact ⟨_,g4⟩
    ·obtain ⟨o5,g5,_⟩:=h5;exact ⟨_,g5⟩
   rw [aI (Nat.ne_of_lt (Heap.lt_size gc))];exact h0
 done:=by
  intro X hP hw hK hc i pins s σ H E I hf st hg;subst hP hw hK;obtain ⟨hi,xs,ys,hx,hy,lx,ly⟩:=hg;obtain ⟨h1,h2,⟨u,v,h3⟩,h4,h5⟩:=st;obtain ⟨its,rv,p,_⟩:=I.tuple hx;have la:=rv.length;have hh:X.A.in1.handled=none:=I.ok.hd hc;have na:a≠i1:=fun q=>by obtain ⟨o,g,c,_⟩:=p;obtain ⟨o4,g4,c4,_⟩:=h4;rw [q,g4] at g;cases g;rw [c4] at c;exact absurd (Value.type.inj c) (by decide)
  have pt:s.heap.IsTuple a its.toArray:=p;have e:its.toArray.size=i:=by simp;omega
  refine rl (nP hh i1 a na its.toArray) Z h1 h2 h3 ⟨by rw [e];exact h4,pt⟩ fun h' k=>⟨rfl,?_⟩
  refine I.turneds (t':=s.toks) (ch:=[z,TI,TO,i1,i2]) hf fun c o hn q=>?_
  simp only [List.mem_cons,List.not_mem_nil,or_false,not_or] at hn;exact k c o hn.1 hn.2.2.1 hn.2.2.2.1 hn.2.2.2.2 q
 self:=fun _ _ _ _ _ st h=>wpAny_pyIter_zip st.1 h
theorem boot_zip:bootBuiltins "zip"=some (.type "zip"):=by decide +kernel
def Jq (K:PySem.W.Frag) (ta:TA):TI:=fun σ H R=>ta σ H fun vs H1=>∃ a b xs ys,vs=[.ref a,.ref b]/\SqT K H1 a xs/\SqL K H1 b ys/\ys.length=xs.length/\R (Itz K a b xs.length) H1
theorem GY {X:Cx} {elts:List Expr} {x1:Nat} {tp:Pos} {a b:Expr} {ta:TA} {p pos:Pos} (hg:Gl X "zip") (hm:X.mg "zip"=none) (ha:PA X [a,b] ta) (hs:starEach [a,b] X.env=[(false,eval a X.env),(false,eval b X.env)]:=by rfl) (hs2:starEach [b] X.env=[(false,eval b X.env)]:=by rfl) :
  PI X (.Tuple elts x1 tp) (.Call (.Name "zip" p) [a,b] [] pos) (Jq X.K ta):=by
 intro pins s σ H R I h;refine Call_ (hV I hg hm boot_zip (PyProof.Rows.callWith_type1 (thn (ha pos pins s σ H _ I h) fun us s1 rz2=>?_) (by rw [hs,hs2]) (by rw [hs2];rfl)));obtain ⟨vs,H1,I1,r1,q1⟩:=rz2;obtain ⟨aa,bb,xs,ys,e,hx,hy,hl,q⟩:=q1;subst e;obtain ⟨u1,u2,e1,r2,r3⟩:=vals2 r1;subst e1;cases r2;cases r3;obtain ⟨its,rv,pt,_⟩:=I1.tuple hx;obtain ⟨jts,rw',pl,_⟩:=I1.list hy;have pt':s1.heap.IsTuple aa its.toArray:=pt;have al:aa<s1.heap.objs.size:=by obtain ⟨_,g,_⟩:=pt';exact Heap.lt_size g
 have bl:bb<s1.heap.objs.size:=by obtain ⟨_,_,g,_⟩:=pl;exact Heap.lt_size g
 refine yc pt' pl.isList ?_;have z1:(zH1 s1.heap aa).objs.size=s1.heap.objs.size+1:=Heap.size_push ..;have z2:(zH2 s1.heap aa bb).objs.size=s1.heap.objs.size+2:=by rw [Heap.size_push,z1]
 have z3:(zH3 s1.heap aa bb).objs.size=s1.heap.objs.size+3:=by rw [Heap.size_push,z2]
 have z4:(zH4 s1.heap aa bb).objs.size=s1.heap.objs.size+4:=by rw [Heap.size_push,z3]
 have g5:IsZip (zH5 s1.heap aa bb) (zH4 s1.heap aa bb).objs.size (zH2 s1.heap aa bb).objs.size (zH3 s1.heap aa bb).objs.size .none:=Heap.get?_push_size _ rfl;have g4:IsPair (zH5 s1.heap aa bb) (zH3 s1.heap aa bb).objs.size .none .none:=Heap.get?_push_of_some _ (Heap.get?_push_size _ rfl);have g3:IsPair (zH5 s1.heap aa bb) (zH2 s1.heap aa bb).objs.size (.ref s1.heap.objs.size) (.ref (zH1 s1.heap aa).objs.size):=Heap.get?_push_of_some _ (Heap.get?_push_of_some _ (Heap.get?_push_size _ rfl));have g2:(zH5 s1.heap aa bb).IsListIter (zH1 s1.heap aa).objs.size bb 0:=⟨_,Heap.get?_push_of_some _ (Heap.get?_push_of_some _ (Heap.get?_push_of_some _ (Heap.get?_push_size _ rfl))),rfl,rfl⟩
 have g1:(zH5 s1.heap aa bb).IsTupleIter s1.heap.objs.size aa 0:=⟨_,Heap.get?_push_of_some _ (Heap.get?_push_of_some _ (Heap.get?_push_of_some _ (Heap.get?_push_of_some _ (Heap.get?_push_size _ rfl)))),rfl,rfl⟩
 have kk:∀ c o,s1.heap.get? c=some o->(zH5 s1.heap aa bb).get? c=some o:=fun c o e=>Heap.get?_push_of_some _ (Heap.get?_push_of_some _ (Heap.get?_push_of_some _ (Heap.get?_push_of_some _ (Heap.get?_push_of_some _ e))))
 have I2:Inv X pins σ H1 { s1 with heap:=zH5 s1.heap aa bb }:=I1.kept (t':=s1.toks) kk;have Z:nj (zH4 s1.heap aa bb).objs.size (zH2 s1.heap aa bb).objs.size (zH3 s1.heap aa bb).objs.size s1.heap.objs.size (zH1 s1.heap aa).objs.size [s1.heap.objs.size,aa] [(zH1 s1.heap aa).objs.size,bb]:=by
  rw [z1,z2,z3,z4];have nq:∀ i j:Nat,i≠j->s1.heap.objs.size+i≠s1.heap.objs.size+j:=fun i j h q=>h (Nat.add_left_cancel q)
  refine ⟨nq 2 4 (by decide),nq 3 4 (by decide),nq 0 4 (by decide),nq 1 4 (by decide),nq 2 3 (by decide),nq 2 0 (by decide),nq 2 1 (by decide),nq 3 0 (by decide),nq 3 1 (by decide),nq 0 1 (by decide),fun c hc=>?_,fun c hc=>?_⟩
  ·simp only [List.mem_cons,List.not_mem_nil,or_false] at hc;rcases hc with rfl | rfl
   ·exact ⟨nq 0 4 (by decide),nq 0 3 (by decide),nq 0 1 (by decide)⟩
   ·exact ⟨Nat.ne_of_lt (Nat.lt_of_lt_of_le al (Nat.le_add_right _ _)),Nat.ne_of_lt (Nat.lt_of_lt_of_le al (Nat.le_add_right _ _)),Nat.ne_of_lt (Nat.lt_of_lt_of_le al (Nat.le_add_right _ _))⟩
  ·simp only [List.mem_cons,List.not_mem_nil,or_false] at hc;rcases hc with rfl | rfl
   ·exact ⟨nq 1 4 (by decide),nq 1 3 (by decide),nq 1 0 (by decide)⟩
   ·exact ⟨Nat.ne_of_lt (Nat.lt_of_lt_of_le bl (Nat.le_add_right _ _)),Nat.ne_of_lt (Nat.lt_of_lt_of_le bl (Nat.le_add_right _ _)),Nat.ne_of_lt bl⟩
 have big:∀ c∈[(zH4 s1.heap aa bb).objs.size,(zH2 s1.heap aa bb).objs.size,(zH3 s1.heap aa bb).objs.size,s1.heap.objs.size,(zH1 s1.heap aa).objs.size],s1.heap.objs.size<=c:=fun c hc=>by
  simp only [List.mem_cons,List.not_mem_nil,or_false] at hc;rcases hc with rfl | rfl | rfl | rfl | rfl
  ·rw [z4];exact Nat.le_add_right _ _
  ·rw [z2];exact Nat.le_add_right _ _
  ·rw [z3];exact Nat.le_add_right _ _
  ·exact Nat.le_refl _
  ·rw [z1];exact Nat.le_add_right _ _
 refine wpAny_pyIter_zip g5 ⟨_,_,_,_,H1,rfl,I2,C9 Z,⟨g5,g3,⟨_,_,g4⟩,g1,g2⟩,fun c hc=>?_,q⟩;exact I1.fpOk (big c hc) (I1.hok.fresh (big c hc))
inductive Rs (α:Type) where
 | ok (a:α)
 | rz (C:Addr)
 | no
namespace Rs
def bind {α β:Type}:Rs α->(α->Rs β)->Rs β
 | ok a,f=>f a
 | rz C,_=>rz C
 | no,_=>no
def eZ {α:Type}:Option α->Rs α
 | some a=>ok a
 | none=>no
def calm {α:Type}:Rs α->Rs α
 | ok a=>ok a
 | _=>no
@[simp] theorem aj {α β:Type} (a:α) (f:α->Rs β):(ok a).bind f=f a:=rfl
@[simp] theorem eN {α β:Type} (C:Addr) (f:α->Rs β):(rz C).bind f=rz C:=rfl
@[simp] theorem bT {α β:Type} (f:α->Rs β):(no:Rs α).bind f=no:=rfl
@[simp] theorem ar {α:Type} (a:α):eZ (some a)=ok a:=rfl
@[simp] theorem Gn {α:Type}:eZ (none:Option α)=no:=rfl
@[simp] theorem dM {α:Type} (a:α):(ok a).calm=ok a:=rfl
end Rs
def del (H:Hp) (A:List Addr):Hp:=fun b=>if b∈A then none else H b
theorem yZ {H:Hp}:del H []=H:=by funext b;simp [del]
theorem ie {H:Hp} {A:List Addr} {b:Addr} (h:b∈A):del H A b=none:=by simp [del,h]
theorem aW {H:Hp} {A:List Addr} {b:Addr} (h:b∉A):del H A b=H b:=by simp [del,h]
theorem bE {H:Hp} {A:List Addr} {b:Addr} {o:HO} (h:del H A b=some o):b∉A/\H b=some o:=by
 by_cases z:b∈A
 ·rw [ie z] at h;cases h
 ·rw [aW z] at h;exact ⟨z,h⟩
theorem aH {H:Hp} {A:List Addr}:az (del H A) H:=fun _ _ e=>(bE e).2
theorem az.del {H H':Hp} {A:List Addr} (s:az H H'):az (del H A) (L2.del H' A):=fun b o e=>by obtain ⟨z,e⟩:=bE e;rw [aW z];exact s b o e
def G2:HO->Bool
 | .lst _=>true
 | .dK _=>true
 | _=>false
def Ls (H:Hp) (A:List Addr):Prop:=∀ a∈A,∃ o,H a=some o/\G2 o=true
theorem Ls.same {H H':Hp} {A:List Addr} (h:Ls H A) (s:az H H'):Ls H' A:=fun a ha=>by obtain ⟨o,e,q⟩:=h a ha;exact ⟨o,s _ _ e,q⟩
theorem Ls.nil {H:Hp}:Ls H []:=fun _ h=>by cases h
theorem Ls.new {H:Hp} {A:List Addr} {p:Addr} (h:Ls H A) (hp:H p=none):p∉A:=fun z=>by obtain ⟨xs,e,_⟩:=h p z;rw [hp] at e;cases e
def au (ns:List Int):PyData:=.dict [(.none,.list (ns.map .int))]
mutual
def Is (K:PySem.W.Frag) (H:Hp):PyData->V->Prop
 | .none,v=>v=.non
 | .bool b,v=>v=.bl b
 | .int i,v=>v=.int i
 | .str x,v=>v=.str x
 | .list ds,v=>∃ a xs,v=.ref a/\H a=some (.lst xs)/\Iss K H ds xs
 | .tuple ds,v=>∃ a xs,v=.ref a/\H a=some (.tup xs)/\Iss K H ds xs
 | .dict kvs,v=>((∃ a ns,v=.ref a/\kvs=[(PyData.none,PyData.list (List.map PyData.int ns))]/\SqL K H a (List.map V.int ns)) \/
  ∃ (a:Addr) (l:List (Int×Int)),v=.ref a/\kvs=l.map (fun p=>(PyData.int p.1,PyData.int p.2))/\H a=some (.dK (l.map fun p=>(.inl p.1,V.int p.2)))) \/
  ∃ (a C dx:Addr) (fs:List (Str×V)),v=.ref a/\H a=some (.ins C dx fs)/\fs.lookup ("@":Str)=none/\(Isk K H kvs (("",.int (C:Int))::fs)\/Isk K H kvs (("",.int (C:Int))::("@",.int (a:Int))::fs))
def Iss (K:PySem.W.Frag) (H:Hp):List PyData->List V->Prop
 | [],vs=>vs=[]
 | d::ds,vs=>∃ v r,vs=v::r/\Is K H d v/\Iss K H ds r
def Isk (K:PySem.W.Frag) (H:Hp):List (PyData×PyData)->List (Str×V)->Prop
 | [],fs=>fs=[]
 | (k,d)::r,fs=>∃ f v fs',fs=(f,v)::fs'/\k=.str f/\Is K H d v/\Isk K H r fs'
end
def cN (C a:Addr) (fds:List (Str×PyData)):PyData:=.dict ((.str "",.int (C:Int))::(.str "@",.int (a:Int))::fds.map fun p=>(.str p.1,p.2))
section
variable {K:PySem.W.Frag} {H H':Hp}
theorem cq {i:Int}:Is K H (.int i) (.int i):=by unfold Is;rfl
theorem is_bool {b:Bool}:Is K H (.bool b) (.bl b):=by unfold Is;rfl
theorem is_none:Is K H .none .non:=by unfold Is;rfl
theorem A5 {x:Str}:Is K H (.str x) (.str x):=by unfold Is;rfl
theorem iL {ds:List PyData} {a:Addr} {xs:List V} (h:H a=some (.tup xs)) (h2:Iss K H ds xs):Is K H (.tuple ds) (.ref a):=by unfold Is;exact ⟨a,xs,rfl,h,h2⟩
theorem kx {ds:List PyData} {a:Addr} {xs:List V} (h:H a=some (.lst xs)) (h2:Iss K H ds xs):Is K H (.list ds) (.ref a):=by unfold Is;exact ⟨a,xs,rfl,h,h2⟩
theorem zU {a:Addr} {ns:List Int} (h:SqL K H a (ns.map V.int)):Is K H (au ns) (.ref a):=by unfold au Is;exact .inl (.inl ⟨a,ns,rfl,rfl,h⟩)
theorem dk:Iss K H [] []:=by unfold Iss;rfl
theorem cW {d:PyData} {ds:List PyData} {v:V} {vs:List V} (h:Is K H d v) (h2:Iss K H ds vs):Iss K H (d::ds) (v::vs):=by unfold Iss;exact ⟨v,vs,rfl,h,h2⟩
theorem jt {d:PyData} {v:V} (h:Is K H d v):Iss K H [d] [v]:=cW h dk
theorem Is.ofInt {i:Int} {v:V} (h:Is K H (.int i) v):v=.int i:=by unfold Is at h;exact h
theorem Is.ofBool {i:Bool} {v:V} (h:Is K H (.bool i) v):v=.bl i:=by unfold Is at h;exact h
theorem Is.ofNone {v:V} (h:Is K H .none v):v=.non:=by unfold Is at h;exact h
theorem Is.ofStr {x:Str} {v:V} (h:Is K H (.str x) v):v=.str x:=by unfold Is at h;exact h
theorem Is.ofTup {ds:List PyData} {v:V} (h:Is K H (.tuple ds) v):∃ a xs,v=.ref a/\H a=some (.tup xs)/\Iss K H ds xs:=by unfold Is at h;exact h
theorem Is.ofLst {ds:List PyData} {v:V} (h:Is K H (.list ds) v):∃ a xs,v=.ref a/\H a=some (.lst xs)/\Iss K H ds xs:=by unfold Is at h;exact h
theorem Is.ofScript {ns:List Int} {v:V} (h:Is K H (au ns) v):∃ a,v=.ref a/\SqL K H a (ns.map V.int):=by
 unfold au Is at h;rcases h with (h | ⟨a,l,_,e,_⟩) | ⟨a,C,dx,fs,_,_,_,h | h⟩
 case inl.inr=>cases l <;> cases e
 case inr.inl=>unfold Isk at h;obtain ⟨f,_,_,_,h,_⟩:=h;cases h
 case inr.inr=>unfold Isk at h;obtain ⟨f,_,_,_,h,_⟩:=h;cases h
 obtain ⟨a,ms,e,e2,h⟩:=h;have e3:ns.map PyData.int=ms.map PyData.int:=by injection e2 with e2 _;injection e2 with _ e2;injection e2
 have e4:ns=ms:=by
  have inj:∀ (a b:List Int),a.map PyData.int=b.map PyData.int->a=b:=by
   intro a
   induction a with
   | nil=>intro b hb;cases b with | nil=>rfl | cons _ _=>simp at hb
   | cons x r ih =>
    intro b hb;cases b with
    | nil=>simp at hb
    | cons y s =>simp only [List.map_cons,List.cons.injEq,PyData.int.injEq] at hb;rw [hb.1,ih s hb.2]
  exact inj _ _ e3
 subst e4;exact ⟨a,e,h⟩
theorem Iss.nil_of {vs:List V} (h:Iss K H [] vs):vs=[]:=by unfold Iss at h;exact h
theorem Iss.cons_of {d:PyData} {ds:List PyData} {vs:List V} (h:Iss K H (d::ds) vs):∃ v r,vs=v::r/\Is K H d v/\Iss K H ds r:=by unfold Iss at h;exact h
theorem Iss.length:∀ {ds:List PyData} {vs:List V},Iss K H ds vs->vs.length=ds.length
 | [],_,h=>by rw [h.nil_of];rfl
 | _::_,_,h=>by obtain ⟨v,r,e,_,h2⟩:=h.cons_of;rw [e,List.length_cons,List.length_cons,Iss.length h2]
mutual
theorem Is.same (e:az H H'):∀ {d:PyData} {v:V},Is K H d v->Is K H' d v
 | .none,_,h=>by unfold Is at h ⊢;exact h
 | .bool _,_,h=>by unfold Is at h ⊢;exact h
 | .int _,_,h=>by unfold Is at h ⊢;exact h
 | .str _,_,h=>by unfold Is at h ⊢;exact h
 | .list ds,_,h=>by unfold Is at h ⊢;obtain ⟨a,xs,e1,h1,h2⟩:=h;exact ⟨a,xs,e1,e _ _ h1,Iss.same e h2⟩
 | .tuple ds,_,h=>by unfold Is at h ⊢;obtain ⟨a,xs,e1,h1,h2⟩:=h;exact ⟨a,xs,e1,e _ _ h1,Iss.same e h2⟩
 | .dict _,_,h=>by
  unfold Is at h ⊢;rcases h with (⟨a,ns,e1,e2,h2⟩ | ⟨a,l,e1,e2,h2⟩) | ⟨a,C,dx,fs,e1,h1,hn,h2 | h2⟩
  ·exact .inl (.inl ⟨a,ns,e1,e2,e.seq h2⟩)
  ·exact .inl (.inr ⟨a,l,e1,e2,e _ _ h2⟩)
  ·exact .inr ⟨a,C,dx,fs,e1,e _ _ h1,hn,.inl (Isk.same e h2)⟩
  ·exact .inr ⟨a,C,dx,fs,e1,e _ _ h1,hn,.inr (Isk.same e h2)⟩
theorem Iss.same (e:az H H'):∀ {ds:List PyData} {vs:List V},Iss K H ds vs->Iss K H' ds vs
 | [],_,h=>by unfold Iss at h ⊢;exact h
 | d::ds,_,h=>by unfold Iss at h ⊢;obtain ⟨v,r,e1,h1,h2⟩:=h;exact ⟨v,r,e1,Is.same e h1,Iss.same e h2⟩
theorem Isk.same (e:az H H'):∀ {ds:List (PyData×PyData)} {fs:List (Str×V)},Isk K H ds fs->Isk K H' ds fs
 | [],_,h=>by unfold Isk at h ⊢;exact h
 | (k,d)::ds,_,h=>by unfold Isk at h ⊢;obtain ⟨f,v,r,e1,e2,h1,h2⟩:=h;exact ⟨f,v,r,e1,e2,Is.same e h1,Isk.same e h2⟩
end
theorem pe:Isk K H [] []:=by unfold Isk;rfl
theorem eF {f:Str} {d:PyData} {r:List (PyData×PyData)} {v:V} {fs:List (Str×V)} (h:Is K H d v) (h2:Isk K H r fs):Isk K H ((.str f,d)::r) ((f,v)::fs):=by unfold Isk;exact ⟨f,v,fs,rfl,rfl,h,h2⟩
theorem CU {C a dx:Addr} {fds:List (Str×PyData)} {fs:List (Str×V)} (h:H a=some (.ins C dx fs)) (hn:fs.lookup ("@":Str)=none) (h2:Isk K H (fds.map fun p=>(.str p.1,p.2)) fs):Is K H (cN C a fds) (.ref a):=by unfold cN Is;exact .inr ⟨a,C,dx,fs,rfl,h,hn,.inr (eF cq (eF cq h2))⟩
theorem F0 {A:List Addr} (hA:Ls H A) {a:Addr} {xs:List V} (h:H a=some (.tup xs)):del H A a=some (.tup xs):=by rw [aW (fun q=>by obtain ⟨ys,e2,q2⟩:=hA a q;rw [h] at e2;cases e2;cases q2)];exact h
mutual
theorem Is.dl {A:List Addr} (hA:Ls H A):∀ {d:PyData} {v:V},fE d=true->Is K H d v->Is K (del H A) d v
 | .none,_,_,h=>by unfold Is at h ⊢;exact h
 | .bool _,_,_,h=>by unfold Is at h ⊢;exact h
 | .int _,_,_,h=>by unfold Is at h ⊢;exact h
 | .str _,_,_,h=>by unfold Is at h ⊢;exact h
 | .list _,_,n,_=>by unfold fE at n;cases n
 | .dict _,_,n,_=>by unfold fE at n;cases n
 | .tuple ds,_,n,h=>by unfold fE at n;obtain ⟨a,xs,e,h1,h2⟩:=h.ofTup;subst e;exact iL (F0 hA h1) (Iss.dl hA n h2)
theorem Iss.dl {A:List Addr} (hA:Ls H A):∀ {ds:List PyData} {vs:List V},lF ds=true->Iss K H ds vs->Iss K (del H A) ds vs
 | [],_,_,h=>by rw [h.nil_of];exact dk
 | d::ds,_,n,h=>by unfold lF at n;obtain ⟨n1,n2⟩:=Bool.and_eq_true_iff.mp n;obtain ⟨v,r,e,h1,h2⟩:=h.cons_of;subst e;exact cW (Is.dl hA n1 h1) (Iss.dl hA n2 h2)
end
mutual
def aN:PyData->Bool
 | .list ds=>dw ds
 | .tuple ds=>dw ds
 | .dict _=>false
 | _=>true
def dw:List PyData->Bool
 | []=>true
 | d::ds=>aN d&&dw ds
end
mutual
theorem Is.isd:∀ {d:PyData} {v:V},aN d=true->Is K H d v->IsD K H d v
 | .none,_,_,h=>by rw [h.ofNone];exact BZ
 | .bool _,_,_,h=>by rw [h.ofBool];exact BL
 | .int _,_,_,h=>by rw [h.ofInt];exact uQ
 | .str _,_,_,h=>by rw [h.ofStr];exact EY
 | .list ds,_,n,h=>by unfold aN at n;obtain ⟨a,xs,e,h1,h2⟩:=h.ofLst;subst e;exact uh (SqL.of h1) (Iss.isd n h2)
 | .tuple ds,_,n,h=>by unfold aN at n;obtain ⟨a,xs,e,h1,h2⟩:=h.ofTup;subst e;exact Dp (SqT.of h1) (Iss.isd n h2)
 | .dict _,_,n,_=>by unfold aN at n;cases n
theorem Iss.isd:∀ {ds:List PyData} {vs:List V},dw ds=true->Iss K H ds vs->fj K H ds vs
 | [],_,_,h=>by rw [h.nil_of];exact pX
 | d::ds,_,n,h=>by unfold dw at n;obtain ⟨n1,n2⟩:=Bool.and_eq_true_iff.mp n;obtain ⟨v,r,e,h1,h2⟩:=h.cons_of;subst e;exact tD (Is.isd n1 h1) (Iss.isd n2 h2)
end
def gH:PyData->Bool
 | .none=>true
 | .bool _=>true
 | .int _=>true
 | .str _=>true
 | _=>false
theorem IsD.is {d:PyData} {v:V} (n:gH d=true) (h:IsD K H d v):Is K H d v:=by
 cases d with
 | none=>rw [h.ofNone];exact is_none
 | bool _=>rw [h.ofBool];exact is_bool
 | int _=>rw [h.ofInt];exact cq
 | str _=>rw [h.ofStr];exact A5
 | _=>cases n
theorem xO {d:PyData} (n:gH d=true):fE d=true:=by
 cases d with
 | list _=>cases n
 | tuple _=>cases n
 | dict _=>cases n
 | _=>unfold fE;rfl
theorem Iss.get:∀ {ds:List PyData} {vs:List V} {i:Nat} {v:V},Iss K H ds vs->vs[i]?=some v->∃ d,ds[i]?=some d/\Is K H d v
 | [],_,i,v,h,e=>by rw [h.nil_of] at e;simp at e
 | d::ds,_,i,v,h,e=>by
  obtain ⟨w,r,e1,h1,h2⟩:=h.cons_of;subst e1;cases i with
  | zero=>simp at e;subst e;exact ⟨d,rfl,h1⟩
  | succ i=>simpa using Iss.get (i:=i) h2 (by simpa using e)
theorem Iss.getD:∀ {ds:List PyData} {vs:List V} {i:Nat} {d:PyData},Iss K H ds vs->ds[i]?=some d->∃ v,vs[i]?=some v/\Is K H d v
 | [],_,i,v,h,e=>by simp at e
 | d::ds,_,i,v,h,e=>by
  obtain ⟨w,r,e1,h1,h2⟩:=h.cons_of;subst e1;cases i with
  | zero=>simp at e;subst e;exact ⟨w,rfl,h1⟩
  | succ i=>simpa using Iss.getD (i:=i) h2 (by simpa using e)
theorem Iss.append:∀ {ds es:List PyData} {vs us:List V},Iss K H ds vs->Iss K H es us->Iss K H (ds++es) (vs++us)
 | [],_,_,_,h,h'=>by rw [h.nil_of];exact h'
 | d::ds,es,_,us,h,h'=>by obtain ⟨v,r,e,h1,h2⟩:=h.cons_of;subst e;exact cW h1 (Iss.append h2 h')
theorem Iss.take:∀ {ds:List PyData} {vs:List V} (n:Nat),Iss K H ds vs->Iss K H (ds.take n) (vs.take n)
 | [],_,n,h=>by rw [h.nil_of];simpa using dk
 | d::ds,_,0,h=>by simpa using dk
 | d::ds,_,n+1,h=>by obtain ⟨v,r,e,h1,h2⟩:=h.cons_of;subst e;exact cW h1 (Iss.take n h2)
theorem Iss.drop:∀ {ds:List PyData} {vs:List V} (n:Nat),Iss K H ds vs->Iss K H (ds.drop n) (vs.drop n)
 | [],_,n,h=>by rw [h.nil_of];simpa using dk
 | d::ds,_,0,h=>h
 | d::ds,_,n+1,h=>by obtain ⟨v,r,e,h1,h2⟩:=h.cons_of;subst e;exact Iss.drop n h2
theorem Iss.set {d:PyData} {v:V} (hv:Is K H d v):∀ {ds:List PyData} {vs:List V} (i:Nat),Iss K H ds vs->Iss K H (ds.set i d) (vs.set i v)
 | [],_,n,h=>by rw [h.nil_of];simpa using dk
 | e::ds,_,0,h=>by obtain ⟨u,r,z,h1,h2⟩:=h.cons_of;subst z;exact cW hv h2
 | e::ds,_,n+1,h=>by obtain ⟨u,r,z,h1,h2⟩:=h.cons_of;subst z;exact cW h1 (Iss.set hv n h2)
theorem Iss.eraseIdx:∀ {ds:List PyData} {vs:List V} (i:Nat),Iss K H ds vs->Iss K H (ds.eraseIdx i) (vs.eraseIdx i)
 | [],_,n,h=>by rw [h.nil_of];simpa using dk
 | e::ds,_,0,h=>by obtain ⟨u,r,z,h1,h2⟩:=h.cons_of;subst z;exact h2
 | e::ds,_,n+1,h=>by obtain ⟨u,r,z,h1,h2⟩:=h.cons_of;subst z;exact cW h1 (Iss.eraseIdx n h2)
theorem Iss.rep {ds:List PyData} {vs:List V} (h:Iss K H ds vs):∀ k:Nat,Iss K H (List.replicate k ds).flatten (List.replicate k vs).flatten
 | 0=>dk
 | k+1=>by rw [List.replicate_succ,List.replicate_succ,List.flatten_cons,List.flatten_cons];exact h.append (Iss.rep h k)
theorem wV:∀ (ns:List Int),Iss K H (ns.map PyData.int) (ns.map V.int)
 | []=>dk
 | _::r=>cW cq (wV r)
theorem Iss.ofInts:∀ {ns:List Int} {vs:List V},Iss K H (ns.map PyData.int) vs->vs=ns.map V.int
 | [],_,h=>h.nil_of
 | n::r,_,h=>by obtain ⟨v,t,e,h1,h2⟩:=h.cons_of;rw [e,h1.ofInt,Iss.ofInts h2];rfl
theorem Iss.ofBools:∀ {ns:List Bool} {vs:List V},Iss K H (ns.map PyData.bool) vs->vs=ns.map V.bl
 | [],_,h=>h.nil_of
 | n::r,_,h=>by obtain ⟨v,t,e,h1,h2⟩:=h.cons_of;rw [e,h1.ofBool,Iss.ofBools h2];rfl
theorem Is.isNone {d:PyData} {v:V} (h:Is K H d v):(v=.non)↔d=.none:=by
 cases d with
 | none=>simp [h.ofNone]
 | bool b=>simp [h.ofBool]
 | int i=>simp [h.ofInt]
 | str x=>simp [h.ofStr]
 | list ds=>obtain ⟨a,xs,e,_⟩:=h.ofLst;simp [e]
 | tuple ds=>obtain ⟨a,xs,e,_⟩:=h.ofTup;simp [e]
 | dict _=>unfold Is at h;rcases h with (⟨a,ns,e,_⟩ | ⟨a,l,e,_⟩) | ⟨a,C,dx,fs,e,_⟩ <;> simp [e]
theorem b8 {p:Addr} {o:HO} (h:H p=none):az H (upd H p o):=ib h
theorem kK {A:List Addr} {p:Addr} {o:HO} (h:p∈A):del (upd H p o) A=del H A:=by
 funext b;by_cases z:b∈A
 ·rw [ie z,ie z]
 ·rw [aW z,aW z,aI (by rintro rfl;exact z h)]
theorem lS {A:List Addr} {ds:List PyData} {xs:List V} {p:Addr} (hA:Ls H A) (hp:H p=none) (h:Iss K (del H A) ds xs):Is K (del (upd H p (.tup xs)) A) (.tuple ds) (.ref p) :=
 iL (by rw [aW (hA.new hp)];exact aR) (h.same (az.del (b8 hp)))
theorem kN {A:List Addr} {ds:List PyData} {xs:List V} {p:Addr} (hA:Ls H A) (hp:H p=none) (h:Iss K (del H A) ds xs):Is K (del (upd H p (.lst xs)) A) (.list ds) (.ref p) :=
 kx (by rw [aW (hA.new hp)];exact aR) (h.same (az.del (b8 hp)))
end
abbrev Ds:=List (Option PyData)
structure dJ (K:PySem.W.Frag) (H:Hp) (A:List Addr) (δ:Ds) (σ:St):Prop where
 ls:Ls H A
 len:δ.length=σ.length
 get:∀ (i:Nat) (d:PyData),δ[i]?=some (some d)->∃ v,σ[i]?=some (some v)/\Is K (del H A) d v
theorem dJ.same {K:PySem.W.Frag} {H H':Hp} {A:List Addr} {δ:Ds} {σ:St} (R:dJ K H A δ σ) (s:az H H'):dJ K H' A δ σ :=
 ⟨R.ls.same s,R.len,fun i d e=>by obtain ⟨v,e1,h⟩:=R.get i d e;exact ⟨v,e1,h.same s.del⟩⟩
def iA (K:PySem.W.Frag) (E:XK) (A:List Addr) (H:Hp) (r:Rs PyData) (Q:VK):Prop:=match r with
 | .ok d=>∀ v H',az H H'->Is K (del H' A) d v->Q v H'
 | .rz C=>∀ H',az H H'->E (.ref C) none H'
 | .no=>False
def JC (K:PySem.W.Frag) (E:XK) (A:List Addr) (H:Hp) (r:Rs (List PyData)) (Q:List V->Hp->Prop):Prop:=match r with
 | .ok d=>∀ v H',az H H'->Iss K (del H' A) d v->Q v H'
 | .rz C=>∀ H',az H H'->E (.ref C) none H'
 | .no=>False
def xk (E:XK) (H:Hp) (r:Rs Bool) (Q:Bool->Hp->Prop):Prop:=match r with
 | .ok d=>∀ H',az H H'->Q d H'
 | .rz C=>∀ H',az H H'->E (.ref C) none H'
 | .no=>False
def eD (K:PySem.W.Frag) (E:XK) (g:Ds->Rs PyData):TE:=fun σ H Q=>∃ A δ,dJ K H A δ σ/\iA K E A H (g δ) Q
def aD (K:PySem.W.Frag) (E:XK) (g:Ds->Rs (List PyData)):TA:=fun σ H Q=>∃ A δ,dJ K H A δ σ/\JC K E A H (g δ) Q
def cD (K:PySem.W.Frag) (E:XK) (g:Ds->Rs Bool):TT:=fun σ H Q=>∃ A δ,dJ K H A δ σ/\xk E H (g δ) Q
def PD (X:Cx) (E:XK) (e:Expr) (g:Ds->Rs PyData):Prop:=PE X e (eD X.K E g)
def PAD (X:Cx) (E:XK) (es:List Expr) (g:Ds->Rs (List PyData)):Prop:=PA X es (aD X.K E g)/\∀ δ ds,g δ=.ok ds->ds.length=es.length
def PCD (X:Cx) (E:XK) (e:Expr) (g:Ds->Rs Bool):Prop:=PT X e (cD X.K E g)
def PWD (X:Cx) (E:XK) (e:Expr) (g:Ds->Rs Bool):Prop:=PW X e (cD X.K E g)
theorem PE.imp {X:Cx} {e:Expr} {t t':TE} (h:PE X e t) (k:∀ σ H Q,t' σ H Q->t σ H Q):PE X e t':=fun pins s σ H Q I q=>h pins s σ H Q I (k σ H Q q)
theorem PT.imp {X:Cx} {e:Expr} {t t':TT} (h:PT X e t) (k:∀ σ H Q,t' σ H Q->t σ H Q):PT X e t':=fun pins s σ H Q I q=>h pins s σ H Q I (k σ H Q q)
theorem PW.imp {X:Cx} {e:Expr} {t t':TT} (h:PW X e t) (k:∀ σ H Q,t' σ H Q->t σ H Q):PW X e t':=fun w pins s σ H Q I q=>h w pins s σ H Q I (k σ H Q q)
theorem PA.imp {X:Cx} {e:List Expr} {t t':TA} (h:PA X e t) (k:∀ σ H Q,t' σ H Q->t σ H Q):PA X e t':=fun p pins s σ H Q I q=>h p pins s σ H Q I (k σ H Q q)
theorem PS.imp {X:Cx} {e:Stmt} {t t':TS} (h:PS X e t) (k:∀ D σ H,t' D σ H->t D σ H):PS X e t':=fun pins s σ H D I q=>h pins s σ H D I (k D σ H q)
theorem PSs.imp {X:Cx} {e:List Stmt} {t t':TS} (h:PSs X e t) (k:∀ D σ H,t' D σ H->t D σ H):PSs X e t':=fun pins s σ H D I q=>h pins s σ H D I (k D σ H q)
theorem iA.mono {K:PySem.W.Frag} {E:XK} {A:List Addr} {H H1:Hp} {r:Rs PyData} {Q:VK} (h:iA K E A H r Q) (s:az H H1):iA K E A H1 r Q:=by
 cases r with
 | ok d=>exact fun v H' s' q=>h v H' (s.trans s') q
 | rz C=>exact fun H' s'=>h H' (s.trans s')
 | no=>exact h
theorem xk.mono {E:XK} {H H1:Hp} {r:Rs Bool} {Q:Bool->Hp->Prop} (h:xk E H r Q) (s:az H H1):xk E H1 r Q:=by
 cases r with
 | ok d=>exact fun H' s'=>h H' (s.trans s')
 | rz C=>exact fun H' s'=>h H' (s.trans s')
 | no=>exact h
theorem eD.run {K:PySem.W.Frag} {E:XK} {g:Ds->Rs PyData} {σ:St} {H:Hp} {A:List Addr} {δ:Ds} {Q:VK} (R:dJ K H A δ σ)
  (ok:∀ d,g δ=.ok d->∀ v H',az H H'->dJ K H' A δ σ->Is K (del H' A) d v->Q v H') (rz:∀ C,g δ=.rz C->∀ H',az H H'->E (.ref C) none H') (no:g δ=.no->False):eD K E g σ H Q:=by
 refine ⟨A,δ,R,?_⟩;cases e:g δ with
 | ok d=>exact fun v H' s q=>ok d e v H' s (R.same s) q
 | rz C=>exact fun H' s=>rz C e H' s
 | no=>exact no e
theorem aD.run {K:PySem.W.Frag} {E:XK} {g:Ds->Rs (List PyData)} {σ:St} {H:Hp} {A:List Addr} {δ:Ds} {Q:List V->Hp->Prop} (R:dJ K H A δ σ)
  (ok:∀ d,g δ=.ok d->∀ v H',az H H'->dJ K H' A δ σ->Iss K (del H' A) d v->Q v H') (rz:∀ C,g δ=.rz C->∀ H',az H H'->E (.ref C) none H') (no:g δ=.no->False):aD K E g σ H Q:=by
 refine ⟨A,δ,R,?_⟩;cases e:g δ with
 | ok d=>exact fun v H' s q=>ok d e v H' s (R.same s) q
 | rz C=>exact fun H' s=>rz C e H' s
 | no=>exact no e
theorem cD.run {K:PySem.W.Frag} {E:XK} {g:Ds->Rs Bool} {σ:St} {H:Hp} {A:List Addr} {δ:Ds} {Q:Bool->Hp->Prop} (R:dJ K H A δ σ)
  (ok:∀ d,g δ=.ok d->∀ H',az H H'->dJ K H' A δ σ->Q d H') (rz:∀ C,g δ=.rz C->∀ H',az H H'->E (.ref C) none H') (no:g δ=.no->False):cD K E g σ H Q:=by
 refine ⟨A,δ,R,?_⟩;cases e:g δ with
 | ok d=>exact fun H' s=>ok d e H' s (R.same s)
 | rz C=>exact fun H' s=>rz C e H' s
 | no=>exact no e
structure D3 (X:Cx) (c P:Addr):Prop where
 tab:TabOf X.K P (X.env.qual++"<lambda>")
 code:X.env.code=.ref c
 hd:PySem.W.CodeHd X.base c P
 bl:∃ bm o,X.mg "__builtins__"=some (.ref bm)/\bm≠builtinsNs/\bm≠mainGlobals/\X.base.get? bm=some o/\o.cls=.type "module"/\o.dict=some builtinsNs/\o.data=.plain
theorem ml {a b:Int} {t u:Nat} {c:Value}:∀ {l:List Value},TriplesOk l->TriplesOk (l++[.int a t,.int b u,c])
 | [],_=>by simp [TriplesOk]
 | [_],h=>by simp [TriplesOk] at h
 | [x,y],h=>by cases x <;> cases y <;> (unfold TriplesOk at h;exact h.elim)
 | x::y::z::r,h=>by
  cases x <;> first | (unfold TriplesOk at h;exact h.elim) | skip
  cases y <;> first | (unfold TriplesOk at h;exact h.elim) | skip
  unfold TriplesOk at h;show TriplesOk (_::_::_::(r++_));unfold TriplesOk;exact ml h
theorem p3 {pos:Pos} {a b:Int} {t u:Nat} {c cv:Value}:∀ {l:List Value},TriplesOk l->codeAmong pos (l++[.int a t,.int b u,c])=some cv->codeAmong pos l=some cv\/cv=c
 | [],_,e=>by
  simp only [List.nil_append,codeAmong] at e;split at e
  ·cases e;exact .inr rfl
  ·cases e
 | [_],h,_=>by simp [TriplesOk] at h
 | [x,y],h,_=>by cases x <;> cases y <;> (unfold TriplesOk at h;exact h.elim)
 | x::y::z::r,h,e=>by
  cases x <;> first | (unfold TriplesOk at h;exact h.elim) | skip
  cases y <;> first | (unfold TriplesOk at h;exact h.elim) | skip
  unfold TriplesOk at h;simp only [List.cons_append,codeAmong] at e ⊢;split at e
  ·rename_i q;rw [if_pos q];exact .inl e
  ·rename_i q;rw [if_neg q];exact p3 h e
def Jt (qual:Str) (mk:Addr->Value->Obj):TE:=fun _ H Q=>∀ f c' ctv H',H f=none->H' f=some (.frz (mk c' ctv) (.own f))->az H H' ->
 (∃ o vs t,H' c'=some (.frz o (.own c'))/\o.data=.fields vs/\vs[1]?=some (.str qual t))->Q (.ref f) H'
theorem FK {X:Cx} {c P:Addr} {params:Arguments} {body:Expr} {scope:Scope} {clos:List (Str×Addr)} {pos:Pos} (T:D3 X c P) (hcl:closureFor scope X.env=pure clos) (hdef:defaultsOf params X.env=([],[]):=by rfl) :
  PE X (.Lambda params body scope pos) (Jt (X.env.qual++"<lambda>") fun c' ctv=>PySem.W.kla_obj "<lambda>" (X.env.qual++"<lambda>") params body scope clos ((X.mg "__name__").getD .none) c' ctv):=by
 intro pins s σ H Q I h;have hP:=I.tab P _ T.tab;obtain ⟨ps,hPs,ht,hc⟩:=I.hok P _ hP;obtain ⟨bm,ob,b1,b2,b3,b4,b5,b6,b7⟩:=T.bl;have nb:∀ b o,X.base.get? b=some o->b≠P:=fun b o e z=>by have:=(I.bs b o e).2;rw [z,hP] at this;cases this
 have hbA:s.heap.BuiltinsAt X.mg P:=⟨bm,ob,b1,b2,b3,nb _ _ b4,I.bk _ _ b4,b5,b6,b7⟩
 have hg:s.heap.Ns mainGlobals X.mg:=I.mod.glob.keeps I.bk;have hgP:mainGlobals≠P:=by obtain ⟨o,es,ep,e,_⟩:=I.mod.glob;exact nb _ _ e
 have hC:=T.hd.keeps I.bk;have fin:∀ {H1:Hp} {h1:Heap} {tk:Nat} {o:Obj},Inv X pins σ H1 { s with heap:=h1,toks:=tk }->o.isFreed=false->Inv X pins σ (upd H1 h1.objs.size (.frz o (.own h1.objs.size))) { s with heap:=h1.push o,toks:=tk }:=fun {H1 h1 tk o} J hcls =>
  J.laid (h':=h1.push o) (t':=tk) (fun b u q=>Heap.get?_push_of_some _ q) (Nat.le_refl _) ⟨Heap.get?_push_size _ hcls,o,Heap.get?_push_size _ hcls⟩
 refine PySem.W.kla_eval hdef ?_;cases hf:codeAmong pos ps.toList with
 | some cv =>
  obtain ⟨c',o,vs,t,rfl,hc',d1,d2⟩:=hc pos cv hf;refine PySem.W.kla_makeFunctionHit (mg:=X.mg) hcl I.ok.glob hg T.code hC hPs ht hf hbA fun ctv h' tk hk hsz=>?_
  have n:H h'.objs.size=none:=I.hok.fresh hsz;exact ⟨.ref _,_,fin (I.kept (h':=h') (t':=tk) hk) rfl,rfl,h _ c' ctv _ n aR (ib n) ⟨o,vs,t,by rw [aI (aT hc' n)];exact hc',d1,d2⟩⟩
 | none =>
  refine PySem.W.kla_makeFunction (mg:=X.mg) hcl I.ok.glob hg T.code hC hPs ht hf hgP hbA fun c' ctv h' tk hx hge hlt hrec htb=>?_
  obtain ⟨c₂,oc,vs,t,e2,hoc,hd,hv⟩:=hrec;cases e2;have hn:H c'=none:=I.hok.fresh hge;have cP:c'≠P:=fun z=>by rw [z,hP] at hn;cases hn
  have hne:∀ b u,H b=some u->b≠c':=fun b u e z=>by rw [z,hn] at e;cases e
  have J:Inv X pins σ (upd H c' (.frz oc (.own c'))) { s with heap:=h',toks:=tk }:=by
   refine I.step (g':=s.gens) (d':=s.drawn) (ch:=[]) (fun _ z=>nomatch z) (fun b o _ _ _ e n=>?_) (fun b o _ _ _ e n=>⟨o.slots,?_⟩) (fun b o _ e n=>?_) (fun b o _ e=>?_) (fun b xs e=>?_) (fun b o u e=>?_) (fun b qs e=>?_) (fun m hm=>?_) (fun b u e=>?_) I.bare
   ·exact hx b o (fun z=>by rw [z,hP] at n;cases n) e
   ·exact hx b o (fun z=>by rw [z,hP] at n;cases n) e
   ·rw [aI (Nat.ne_of_lt (Nat.lt_of_lt_of_le (Heap.lt_size e) hge))];exact n
   ·by_cases z:b=P
    ·subst z;exact ⟨_,htb⟩
    ·exact ⟨o,hx b o z e⟩
   ·rw [aI (hne b _ e)];exact e
   ·rw [aI (hne b _ e)];exact e
   ·rw [aI (hne b _ e)];exact e
   ·obtain ⟨o,es,ep,ho,r⟩:=hm;refine ⟨o,es,ep,hx _ o (fun z=>?_) ho,r⟩;have:=I.free;rw [z,hP] at this;cases this
   ·by_cases z:b=c'
    ·subst z;rw [aR] at e;cases e;exact ⟨hoc,oc,hoc⟩
    ·rw [aI z] at e;by_cases y:b=P
     ·subst y;rw [hP] at e;cases e;refine ⟨ps++#[rawInt pos.line,rawInt pos.col,.ref c'],htb,?_,fun pos' cv e=>?_⟩
      ·rw [Array.toList_append];exact ml ht
      ·rw [Array.toList_append] at e;rcases p3 ht e with e | rfl
       ·obtain ⟨c2,o,vs,t,rfl,q,d⟩:=hc pos' cv e;exact ⟨c2,o,vs,t,rfl,by rw [aI (hne _ _ q)];exact q,d⟩
       ·exact ⟨c',oc,vs,t,rfl,aR,hd,hv⟩
     ·refine (I.hok b u e).stay (fun b' v hb q=>hx b' v (fun y'=>?_) q) (fun b' q=>?_) (fun b' xs q=>?_) fun b' o' u' q=>?_
      ·subst y';rcases hb with hb | hb
       ·exact y hb.symm
       ·rw [hP] at hb;cases hb
      ·rw [aI (hne b' _ q)];exact q
      ·rw [aI (hne b' _ q)];exact q
      ·rw [aI (hne b' _ q)];exact q
  have n:upd H c' (.frz oc (.own c')) h'.objs.size=none:=J.hok.fresh (Nat.le_refl _);have n0:H h'.objs.size=none:=I.hok.fresh (Nat.le_trans hge (Nat.le_of_lt hlt));exact ⟨.ref _,_,fin J rfl,rfl,h _ c' ctv _ n0 aR ((ib hn).trans (ib n)) ⟨oc,vs,t,by rw [aI (aT aR n)];exact aR,hd,hv⟩⟩
abbrev Cx.in1 (X:Cx):Cx:={ X with A:=X.A.in1 }
section
variable {X:Cx} {pins:List (Addr×Obj)} {σ:St} {H:Hp} {s:Shared}
theorem Inv.in1 (I:Inv X pins σ H s):Inv X.in1 pins σ H s :=
 ⟨⟨I.ok.mod,I.ok.kind,I.ok.glob,I.ok.blt,I.ok.above,I.ok.inj,I.ok.has,I.ok.cab,I.ok.hd,I.ok.frames,I.ok.stk,I.ok.exf,I.ok.bs,I.ok.bsz,I.ok.noex,I.ok.exfs,I.ok.funs,I.ok.frf⟩,I.os,I.bare,I.base,I.loc,I.cell,I.free,I.freeC,I.pin,I.hok,I.len,I.tab⟩
theorem Inv.of1 (I:Inv X.in1 pins σ H s):Inv X pins σ H s :=
 ⟨⟨I.ok.mod,I.ok.kind,I.ok.glob,I.ok.blt,I.ok.above,I.ok.inj,I.ok.has,I.ok.cab,I.ok.hd,I.ok.frames,I.ok.stk,I.ok.exf,I.ok.bs,I.ok.bsz,I.ok.noex,I.ok.exfs,I.ok.funs,I.ok.frf⟩,I.os,I.bare,I.base,I.loc,I.cell,I.free,I.freeC,I.pin,I.hok,I.len,I.tab⟩
end
def bst (lt:Nat->Nat->Bool):Nat->Nat
 | 0=>0
 | j+1=>if lt (j+1) (bst lt j) then j+1 else bst lt j
theorem yB (lt:Nat->Nat->Bool):∀ j,bst lt j<=j
 | 0=>Nat.le_refl _
 | j+1=>by
  unfold bst;split
  ·exact Nat.le_refl _
  ·exact Nat.le_succ_of_le (yB lt j)
structure lT (X:Cx) (σ:St) (pins:List (Addr×Obj)) (q l:Addr) (xs:List V) (Φ:Hp->Prop) (κ:Nat->V->Hp->Prop) (lt:Nat->Nat->Bool):Prop where
 lst:∀ H,Φ H->H l=some (.lst xs)
 turn:∀ (i:Nat) (x:V),xs[i]?=some x->∀ (pins':List (Addr×Obj)) (H:Hp) (s:Shared) (u:Value),(∀ p∈pins,p∈pins')->Inv X.in1 pins' σ H s->Φ H->RelV x u ->
  wpAny (model X.prog X.w) X.A.in1 (call (.ref q) [u]) (EP X.in1 pins' σ fun v H'=>Φ H'/\κ i v H'/\∀ j v',κ j v' H->κ j v' H') (fun _ _=>False) s
 cmp:∀ (i j:Nat) (x y:V) (pins':List (Addr×Obj)) (H:Hp) (s:Shared) (u v:Value),Inv X.in1 pins' σ H s->Φ H->κ i x H->κ j y H->RelV x u->RelV y v ->
  wpAny (model X.prog X.w) X.A.in1 (richCompare .Lt u v) (fun r s'=>r=.bool (lt i j)/\Inv X.in1 pins' σ H s') (fun _ _=>False) s
section
variable {X:Cx} {pins:List (Addr×Obj)} {σ:St} {q l:Addr} {xs:List V} {Φ:Hp->Prop} {κ:Nat->V->Hp->Prop} {lt:Nat->Nat->Bool} {R:Result->Shared->Prop}
theorem Inv.turnPin {H:Hp} {s:Shared} {ps:List (Addr×Obj)} {it:Addr} {o o':Obj} {h':Heap} {t':Nat} (I:Inv X ((it,o)::ps) σ H s) (k:∀ b u,b≠it->s.heap.get? b=some u->h'.get? b=some u) (ho:h'.get? it=some o')
  (h1:X.s₀.heap.objs.size<=it) (h3:∀ p∈X.pn++ps,p.1≠it) (hc:∀ v,o'.data≠.cell v):Inv X ((it,o')::ps) σ H { s with heap:=h',toks:=t' }:=by
 obtain ⟨e,n,ne,nf,d⟩:=I.pin (it,o) (List.mem_append_right _ (.head _));have I0:Inv X ps σ H s:=I.pins_of fun p hp=>I.pin p (List.mem_append_right _ (.tail _ hp))
 have J:Inv X ps σ H { s with heap:=h',toks:=t' }:=I0.turned k n ne (.inr h1) (fun x c hl z=>by obtain ⟨v,o2,e2,d2⟩:=I.cell x c hl;subst z;rw [e] at e2;cases e2;exact d v d2) h3
 refine J.pins_of fun p hp=>?_
 rcases List.mem_cons.mp hp with rfl | hp
 ·exact ⟨ho,n,ne,nf,hc⟩
 ·exact J.pin p (List.mem_append_right _ hp)
theorem Inv.swap {H:Hp} {s:Shared} {ps:List (Addr×Obj)} {a b:Addr×Obj} (I:Inv X (a::b::ps) σ H s):Inv X (b::a::ps) σ H s:=I.pins_of fun p hp=>I.pin p (List.mem_append_right _ (by
 rcases List.mem_cons.mp hp with rfl | hp
 ·exact .tail _ (.head _)
 ·rcases List.mem_cons.mp hp with rfl | hp
  ·exact .head _
  ·exact .tail _ (.tail _ hp)))
theorem Eg (KK:lT X σ pins q l xs Φ κ lt) (hh:X.A.handled=none)
  (hR:∀ H' s' x u,xs[bst lt (xs.length-1)]?=some x->RelV x u->Inv X pins σ H' s'->Φ H'->R (.ok (.ret u)) s') :
  ∀ (r j:Nat) (H:Hp) (s:Shared) (ub uk:Value) (xb kb:V) (c:Nat) (It S:Addr) (oI:Obj),xs.length-(j+1)=r->j+1<=xs.length->X.s₀.heap.objs.size<=It->X.s₀.heap.objs.size<=S->S≠It ->
   (∀ p∈X.pn++pins,p.1≠It)->(∀ p∈X.pn++pins,p.1≠S) ->
   Inv X.in1 ((S,seqObj "list" #[ub,uk] c)::(It,oI)::pins) σ H s->oI.cls=.type "list_iterator"->oI.data=.fields #[.ref l,.int ((j+1:Nat):Int) 0]->Φ H->xs[bst lt j]?=some xb->RelV xb ub->κ (bst lt j) kb H->RelV kb uk ->
   codeAny (model X.prog X.w) X.A (.builtin "min.loop" ⟨[.ref It,.ref q,.ref S],[]⟩) R s:=by
 have hname:(toString "min"++toString ".loop":String)="min.loop":=by decide
 intro r
 induction r with
 | zero =>
  intro j H s ub uk xb kb c It S oI hr hj zI zS hSI nI nS I hc1 hd1 hΦ hb rb hκ rk;have hin:j+1=xs.length:=by omega
  have pS:=I.pin (S,seqObj "list" #[ub,uk] c) (List.mem_append_right _ (.head _));have pI:=I.pin (It,oI) (List.mem_append_right _ (.tail _ (.head _)));have hl:=KK.lst H hΦ;obtain ⟨its,n,rv,eL,_⟩:=I.lst hl;have hlI:l≠It:=aT hl pI.2.1;have hsz:its.toArray.size=xs.length:=by rw [List.size_toArray,<-rv.length]
  have W:=Walks.list (prog:=X.prog) (w:=X.w) (A:=X.A.in1) hh It l hlI its.toArray;refine codeAny_builtin PySem.F.entry_min_loop ?_;rw [Around.under_plainId PySem.F.plain_min_loop _];show wpAny _ X.A.in1 (seqItems? (.ref S) >>= _) _ _ _;refine wpAny_bind (wpAny_seqItems pS.1 rfl ?_);show wpAny _ X.A.in1 (tryCatch (pyNext (.ref It)) _ >>= _) _ _ _;refine wpAny_bind (wpAny_tryCatch (W.done _ _ _ ⟨by rw [hsz,<-hin];exact ⟨oI,pI.1,hc1,hd1⟩,⟨_,eL,rfl,n,rfl⟩⟩ fun h' tk' hk'=>?_));have I1:Inv X.in1 ((S,seqObj "list" #[ub,uk] c)::pins) σ H { s with heap:=h',toks:=tk' }:=by
   have I0:Inv X.in1 ((S,seqObj "list" #[ub,uk] c)::pins) σ H s:=I.pins_of fun p hp=>I.pin p (List.mem_append_right _ (by
    rcases List.mem_cons.mp hp with rfl | hp
    ·exact .head _
    ·exact .tail _ (.tail _ hp)))
   refine I0.turned (fun b o nb e=>hk' b o (by simpa using nb) e) pI.2.1 pI.2.2.1 (.inr zI) (fun x cc hcl z=>?_) fun p hp=>?_
   ·obtain ⟨v,o2,e2,d2⟩:=I.cell x cc hcl;subst z;rw [pI.1] at e2;cases e2;exact pI.2.2.2.2 v d2
   ·rcases List.mem_append.mp hp with hp | hp
    ·exact nI p (List.mem_append_left _ hp)
    ·rcases List.mem_cons.mp hp with rfl | hp
     ·exact hSI
     ·exact nI p (List.mem_append_right _ hp)
  have pS1:=I1.pin (S,seqObj "list" #[ub,uk] c) (List.mem_append_right _ (.head _));have s1:=Heap.SameBut.update h' S (Obj.mapSeq fun _=>(#[]:Array Value));show wpAny _ X.A.in1 (updateSeq S (fun _=>#[]) >>= _) _ _ _;refine wpAny_bind ?_;refine wpAny_updateSeq pS1.1 rfl (wpAny_bind (wpAny_letGo (wpAny_pure ?_)));have I2:Inv X.in1 pins σ H { s with heap:=h'.update S (Obj.mapSeq fun _=>(#[]:Array Value)),toks:=tk' }:=by
   have I0:Inv X.in1 pins σ H { s with heap:=h',toks:=tk' }:=I1.pins_of fun p hp=>I1.pin p (List.mem_append_right _ (.tail _ hp))
   refine I0.turned (h':=h'.update S (Obj.mapSeq fun _=>(#[]:Array Value))) (t':=tk') (fun b o nb e=>(s1.2 b nb).trans e) pS1.2.1 pS1.2.2.1 (.inr zS) (fun x cc hcl z=>?_) nS;obtain ⟨v,o2,e2,d2⟩:=I1.cell x cc hcl;subst z;rw [pS1.1] at e2;cases e2;exact pS1.2.2.2.2 v d2
  exact hR H _ xb ub (by rw [<-hin];exact hb) rb I2.of1 hΦ
 | succ r ih =>
  intro j H s ub uk xb kb c It S oI hr hj zI zS hSI nI nS I hc1 hd1 hΦ hb rb hκ rk;have hlt:j+1<xs.length:=by omega
  have pS:=I.pin (S,seqObj "list" #[ub,uk] c) (List.mem_append_right _ (.head _));have pI:=I.pin (It,oI) (List.mem_append_right _ (.tail _ (.head _)));have hl:=KK.lst H hΦ;obtain ⟨its,n,rv,eL,_⟩:=I.lst hl;have hlI:l≠It:=aT hl pI.2.1;have hsz:its.toArray.size=xs.length:=by rw [List.size_toArray,<-rv.length]
  have W:=Walks.list (prog:=X.prog) (w:=X.w) (A:=X.A.in1) hh It l hlI its.toArray;refine codeAny_builtin PySem.F.entry_min_loop ?_;rw [Around.under_plainId PySem.F.plain_min_loop _];show wpAny _ X.A.in1 (seqItems? (.ref S) >>= _) _ _ _;refine wpAny_bind (wpAny_seqItems pS.1 rfl ?_);show wpAny _ X.A.in1 (tryCatch (pyNext (.ref It)) _ >>= _) _ _ _;refine wpAny_bind (wpAny_tryCatch (W.item (j+1) _ _ _ (by rw [hsz];exact hlt) ⟨⟨oI,pI.1,hc1,hd1⟩,⟨_,eL,rfl,n,rfl⟩⟩ fun v h' tk' hP hst' hk'=>?_));have hv:its[j+1]?=some v:=by simpa using hP
  obtain ⟨x,hx⟩:∃ x,xs[j+1]?=some x:=⟨_,List.getElem?_eq_getElem hlt⟩
  obtain ⟨v',hv',rx⟩:=rv.get hx;rw [hv] at hv';cases hv';obtain ⟨oI',hoI',hoc,hod⟩:=id hst'.1;have J:Inv X.in1 ((It,oI')::(S,seqObj "list" #[ub,uk] c)::pins) σ H { s with heap:=h',toks:=tk' } :=
   I.swap.turnPin (fun b o nb e=>hk' b o (by simpa using nb) e) hoI' zI (fun p hp=>by
    rcases List.mem_append.mp hp with hp | hp
    ·exact nI p (List.mem_append_left _ hp)
    ·rcases List.mem_cons.mp hp with rfl | hp
     ·exact hSI
     ·exact nI p (List.mem_append_right _ hp)) fun vv z=>by rw [hod] at z;cases z
  show wpAny _ X.A.in1 (tryCatch (holding [v] (call (.ref q) [v])) _ >>= _) _ _ _;refine wpAny_bind (wpAny_tryCatch (wpAny_holding (wpAny_mono (KK.turn (j+1) x hx _ H _ v (fun p hp=>.tail _ (.tail _ hp)) J hΦ rx) (fun uk2 s2 he=>?_) fun _ _ hF=>hF.elim)));obtain ⟨kv,H2,J2,rk2,hΦ2,hκ2,hst⟩:=he;show wpAny _ X.A.in1 (tryCatch (holding [v,uk2] (richCompare .Lt uk2 uk >>= _)) _ >>= _) _ _ _;refine wpAny_bind (wpAny_tryCatch (wpAny_holding (wpAny_bind (wpAny_mono (KK.cmp (j+1) (bst lt j) kv kb _ H2 s2 uk2 uk J2 hΦ2 hκ2 (hst _ _ hκ) rk2 rk) (fun rr s3 hc3=>?_) fun _ _ hF=>hF.elim))));obtain ⟨rfl,J3⟩:=hc3;refine wpAny_bind (wpAny_holding (wpAny_truthy_bool ?_));refine wpAny_bind (wpAny_letGo (wpAny_pure ?_));have pS3:=J3.pin (S,seqObj "list" #[ub,uk] c) (List.mem_append_right _ (.tail _ (.head _)));cases hb':lt (j+1) (bst lt j) with
  | true =>
   have s1:=Heap.SameBut.update s3.heap S (Obj.mapSeq fun _=>#[v,uk2]);obtain ⟨c2,hc2⟩:∃ c2,(s3.heap.update S (Obj.mapSeq fun _=>#[v,uk2])).get? S=some (seqObj "list" #[v,uk2] c2):=⟨_,get?_update_seq pS3.1 fun _=>#[v,uk2]⟩
   simp only [if_true];refine wpAny_bind ?_;refine wpAny_updateSeq pS3.1 rfl (wpAny_bind (wpAny_letGo ?_));rw [hname];have J4:Inv X.in1 ((S,seqObj "list" #[v,uk2] c2)::(It,oI')::pins) σ H2 { s3 with heap:=s3.heap.update S (Obj.mapSeq fun _=>#[v,uk2]),toks:=s3.toks } :=
    J3.swap.turnPin (fun b o nb e=>(s1.2 b nb).trans e) hc2 zS (fun p hp=>by
     rcases List.mem_append.mp hp with hp | hp
     ·exact nS p (List.mem_append_left _ hp)
     ·rcases List.mem_cons.mp hp with rfl | hp
      ·exact hSI.symm
      ·exact nS p (List.mem_append_right _ hp)) fun vv z=>by cases z
   have eb:bst lt (j+1)=j+1:=by unfold bst;rw [if_pos hb']
   exact wpAny_pure ⟨plainId_quiet PySem.F.plain_min_loop _,ih (j+1) H2 _ v uk2 x kv c2 It S oI' (by omega) hlt zI zS hSI nI nS J4 hoc hod hΦ2 (by rw [eb];exact hx) rx (by rw [eb];exact hκ2) rk2⟩
  | false =>
   simp only [Bool.false_eq_true,if_false];refine wpAny_bind (wpAny_letGo ?_);rw [hname];have eb:bst lt (j+1)=bst lt j:=by rw [bst,if_neg (by rw [hb'];decide)]
   exact wpAny_pure ⟨plainId_quiet PySem.F.plain_min_loop _,ih (j+1) H2 _ ub uk xb kb c It S oI' (by omega) hlt zI zS hSI nI nS J3.swap hoc hod hΦ2 (by rw [eb];exact hb) rb (by rw [eb];exact hst _ _ hκ) rk⟩
theorem GH {H:Hp} {s:Shared} {Q:Value->Shared->Prop} {E:Value->Shared->Prop} (KK:lT X σ pins q l xs Φ κ lt) (hh:X.A.handled=none) (I:Inv X pins σ H s) (hΦ:Φ H) (hne:0<xs.length)
  (hQ:∀ H' s' x u,xs[bst lt (xs.length-1)]?=some x->RelV x u->Inv X pins σ H' s'->Φ H'->Q u s') :
  wpAny (model X.prog X.w) X.A (call (.builtin "min") [.ref l] [(Str.ofString "key",.ref q)]) Q E s:=by
 have hname:(toString "min"++toString ".loop":String)="min.loop":=by decide
 have hl:=KK.lst H hΦ;obtain ⟨its,n,rv,eL,_⟩:=I.lst hl;have hls:s.heap.IsList l its.toArray:=⟨_,eL,rfl,n,rfl⟩
 refine kmk_tree PySem.F.kind_min PySem.F.plain_min PySem.F.entry_min (kmk_min_key _ _) ?_;show wpAny _ X.A.in1 (Builtin.Builtins.bindParams "min" ["key", "default"] 0 ⟨[],[(Str.ofString "key",.ref q)]⟩ >>= _) _ _ s;refine wpAny_bind (wpAny_of_eq (show Builtin.Builtins.bindParams "min" ["key", "default"] 0 ⟨[],[(Str.ofString "key",.ref q)]⟩=pure [some (.ref q),none] from rfl) ?_);refine wpAny_bind (wpAny_pure ?_);refine wpAny_bind (wpAny_pyIter_list hls ?_);refine wpAny_bind (wpAny_newList ?_ (Nat.zero_le _));rw [hname];have hS:(s.heap.push { cls:=.type "list_iterator",data:=.fields #[.ref l,.int 0 0] }).objs.size=s.heap.objs.size+1:=size_push' ..;have hll:l<s.heap.objs.size:=Heap.lt_size eL;have hlI:l≠s.heap.objs.size:=Nat.ne_of_lt hll;have hSI:(s.heap.push { cls:=.type "list_iterator",data:=.fields #[.ref l,.int 0 0] }).objs.size≠s.heap.objs.size:=by rw [hS];exact Nat.ne_of_gt (Nat.lt_succ_self _)
 have nI:∀ p∈X.pn++pins,p.1≠s.heap.objs.size:=fun p hp=>Nat.ne_of_lt (Heap.lt_size (I.pin p hp).1)
 have nS:∀ p∈X.pn++pins,p.1≠(s.heap.push { cls:=.type "list_iterator",data:=.fields #[.ref l,.int 0 0] }).objs.size:=fun p hp=>by rw [hS];exact Nat.ne_of_lt (Nat.lt_succ_of_lt (Heap.lt_size (I.pin p hp).1))
 refine wpAny_pure ⟨plainId_quiet PySem.F.plain_min_loop _,?_⟩;have gI:((s.heap.push { cls:=.type "list_iterator",data:=.fields #[.ref l,.int 0 0] }).push (seqObj "list" #[] 0)).get? s.heap.objs.size=some { cls:=.type "list_iterator",data:=.fields #[.ref l,.int 0 0] } :=
  Heap.get?_push_of_some _ (Heap.get?_push_size _ rfl)
 have gS:((s.heap.push { cls:=.type "list_iterator",data:=.fields #[.ref l,.int 0 0] }).push (seqObj "list" #[] 0)).get? (s.heap.push { cls:=.type "list_iterator",data:=.fields #[.ref l,.int 0 0] }).objs.size=some (seqObj "list" #[] 0):=Heap.get?_push_size _ rfl;have zI:X.s₀.heap.objs.size<=s.heap.objs.size:=I.sz;have zS:X.s₀.heap.objs.size<=(s.heap.push { cls:=.type "list_iterator",data:=.fields #[.ref l,.int 0 0] }).objs.size:=by rw [hS];exact Nat.le_succ_of_le zI
 generalize eSa:(s.heap.push { cls:=.type "list_iterator",data:=.fields #[.ref l,.int 0 0] }).objs.size=S at *;generalize eIa:s.heap.objs.size=It at *;have I0:Inv X.in1 pins σ H { s with heap:=(s.heap.push { cls:=.type "list_iterator",data:=.fields #[.ref l,.int 0 0] }).push (seqObj "list" #[] 0),toks:=s.toks }:=I.in1.kept fun b u e=>Heap.get?_push_of_some _ (Heap.get?_push_of_some _ e)
 have hfI:s.heap.objs.size<=It:=Nat.le_of_eq eIa;have hfS:s.heap.objs.size<=S:=by omega
 have I1:Inv X.in1 ((S,seqObj "list" #[] 0)::(It,{ cls:=.type "list_iterator",data:=.fields #[.ref l,.int 0 0] })::pins) σ H { s with heap:=(s.heap.push { cls:=.type "list_iterator",data:=.fields #[.ref l,.int 0 0] }).push (seqObj "list" #[] 0),toks:=s.toks }:=by
  refine I0.pins_of fun p hp=>?_
  rcases List.mem_cons.mp hp with rfl | hp
  ·exact ⟨gS,I.hok.fresh hfS,Nat.ne_of_gt (Nat.lt_of_lt_of_le I.lt hfS),I.nofs hfS,fun v z=>by cases z⟩
  ·rcases List.mem_cons.mp hp with rfl | hp
   ·exact ⟨gI,I.hok.fresh hfI,Nat.ne_of_gt (Nat.lt_of_lt_of_le I.lt hfI),I.nofs hfI,fun v z=>by cases z⟩
   ·exact I0.pin p (List.mem_append_right _ hp)
 have hsz:its.toArray.size=xs.length:=by rw [List.size_toArray,<-rv.length]
 have W:=Walks.list (prog:=X.prog) (w:=X.w) (A:=X.A.in1) hh It l hlI its.toArray;refine codeAny_builtin PySem.F.entry_min_loop ?_;rw [Around.under_plainId PySem.F.plain_min_loop _];show wpAny _ X.A.in1 (seqItems? (.ref _) >>= _) _ _ _;refine wpAny_bind (wpAny_seqItems gS rfl ?_);show wpAny _ X.A.in1 (tryCatch (pyNext (.ref It)) _ >>= _) _ _ _;refine wpAny_bind (wpAny_tryCatch (W.item 0 _ _ _ (by rw [hsz];exact hne) ⟨⟨_,gI,rfl,rfl⟩,⟨_,Heap.get?_push_of_some _ (Heap.get?_push_of_some _ eL),rfl,n,rfl⟩⟩ fun v h' tk' hP hst' hk'=>?_));have hv:its[0]?=some v:=by simpa using hP
 obtain ⟨x,hx⟩:∃ x,xs[0]?=some x:=⟨_,List.getElem?_eq_getElem hne⟩
 obtain ⟨v',hv',rx⟩:=rv.get hx;rw [hv] at hv';cases hv';obtain ⟨oI',hoI',hoc,hod⟩:=id hst'.1;have J:Inv X.in1 ((It,oI')::(S,seqObj "list" #[] 0)::pins) σ H { s with heap:=h',toks:=tk' } :=
  I1.swap.turnPin (fun b o nb e=>hk' b o (by simpa using nb) e) hoI' zI (fun p hp=>by
   rcases List.mem_append.mp hp with hp | hp
   ·exact nI p (List.mem_append_left _ hp)
   ·rcases List.mem_cons.mp hp with rfl | hp
    ·exact hSI
    ·exact nI p (List.mem_append_right _ hp)) fun vv z=>by rw [hod] at z;cases z
 show wpAny _ X.A.in1 (tryCatch (holding [v] (call (.ref q) [v])) _ >>= _) _ _ _;refine wpAny_bind (wpAny_tryCatch (wpAny_holding (wpAny_mono (KK.turn 0 x hx _ H _ v (fun p hp=>.tail _ (.tail _ hp)) J hΦ rx) (fun uk2 s2 he=>?_) fun _ _ hF=>hF.elim)));obtain ⟨kv,H2,J2,rk2,hΦ2,hκ2,_⟩:=he;have pS2:=J2.pin (S,seqObj "list" #[] 0) (List.mem_append_right _ (.tail _ (.head _)));have s1:=Heap.SameBut.update s2.heap S (Obj.mapSeq fun _=>#[v,uk2]);obtain ⟨c2,hc2⟩:∃ c2,(s2.heap.update S (Obj.mapSeq fun _=>#[v,uk2])).get? S=some (seqObj "list" #[v,uk2] c2):=⟨_,get?_update_seq pS2.1 fun _=>#[v,uk2]⟩
 show wpAny _ X.A.in1 (updateSeq S (fun _=>#[v,uk2]) >>= _) _ _ _;refine wpAny_bind ?_;refine wpAny_updateSeq pS2.1 rfl ?_;rw [hname];have J4:Inv X.in1 ((S,seqObj "list" #[v,uk2] c2)::(It,oI')::pins) σ H2 { s2 with heap:=s2.heap.update S (Obj.mapSeq fun _=>#[v,uk2]),toks:=s2.toks } :=
  J2.swap.turnPin (fun b o nb e=>(s1.2 b nb).trans e) hc2 zS (fun p hp=>by
   rcases List.mem_append.mp hp with hp | hp
   ·exact nS p (List.mem_append_left _ hp)
   ·rcases List.mem_cons.mp hp with rfl | hp
    ·exact hSI.symm
    ·exact nS p (List.mem_append_right _ hp)) fun vv z=>by cases z
 exact wpAny_pure ⟨plainId_quiet PySem.F.plain_min_loop _,Eg KK hh (fun H' s' x u hx ru J hp=>hQ H' s' x u hx ru J hp) _ 0 H2 _ v uk2 x kv c2 It S oI' rfl hne zI zS hSI nI nS J4 hoc hod hΦ2 hx rx hκ2 rk2⟩
end
def af (i:Nat):Ds->Rs PyData:=fun δ=>match δ[i]? with
 | some (some d)=>.ok d
 | _=>.no
def gC (d:PyData):Ds->Rs PyData:=fun _=>.ok d
def g1 (f:PyData->Option PyData) (a:Ds->Rs PyData):Ds->Rs PyData:=fun δ=>(a δ).bind fun x=>Rs.eZ (f x)
def g2 (f:PyData->PyData->Option PyData) (a b:Ds->Rs PyData):Ds->Rs PyData:=fun δ=>(a δ).bind fun x=>(b δ).bind fun y=>Rs.eZ (f x y)
def gF (f:List PyData->Option PyData) (as:Ds->Rs (List PyData)):Ds->Rs PyData:=fun δ=>(as δ).bind fun ds=>Rs.eZ (f ds)
def ao:Ds->Rs (List PyData):=fun _=>.ok []
def ae (a:Ds->Rs PyData) (r:Ds->Rs (List PyData)):Ds->Rs (List PyData):=fun δ=>(a δ).bind fun x=>(r δ).bind fun xs=>.ok (x::xs)
def jA (as:Ds->Rs (List PyData)):Ds->Rs PyData:=fun δ=>(as δ).bind fun ds=>.ok (.tuple ds)
def kr (as:Ds->Rs (List PyData)):Ds->Rs PyData:=fun δ=>(as δ).bind fun ds=>.ok (.list ds)
def aF (gf:List PyData->Rs PyData) (as:Ds->Rs (List PyData)):Ds->Rs PyData:=fun δ=>(as δ).bind gf
def truth:PyData->Rs Bool
 | .bool b=>.ok b
 | _=>.no
def gT (a:Ds->Rs PyData):Ds->Rs Bool:=fun δ=>(a δ).bind truth
def g0 (a:Ds->Rs Bool):Ds->Rs Bool:=fun δ=>(a δ).bind fun b=>.ok (!b)
def Dq (a b:Ds->Rs Bool):Ds->Rs Bool:=fun δ=>(a δ).bind fun x=>if x=true then b δ else .ok false
def cOr (a b:Ds->Rs Bool):Ds->Rs Bool:=fun δ=>(a δ).bind fun x=>if x=true then .ok true else b δ
def An (a b:Ds->Rs PyData):Ds->Rs PyData:=fun δ=>(a δ).bind fun x=>(truth x).bind fun t=>if t=true then b δ else .ok (.bool false)
def gOr (a b:Ds->Rs PyData):Ds->Rs PyData:=fun δ=>(a δ).bind fun x=>(truth x).bind fun t=>if t=true then .ok (.bool true) else b δ
def Jv (a:Ds->Rs PyData):Ds->Rs PyData:=fun δ=>(a δ).bind fun x=>(truth x).bind fun t=>.ok (.bool (!t))
def gIf (c:Ds->Rs Bool) (a b:Ds->Rs PyData):Ds->Rs PyData:=fun δ=>(c δ).bind fun x=>if x=true then a δ else b δ
section
variable {X:Cx} {E:XK} {a b c e:Expr} {ga gb gc:Ds->Rs PyData} {pos:Pos}
theorem ah (i:Nat) {x:Str} {pos:Pos} (hN:X.N[i]?=some x:=by rfl) (hv:Vis X.env.scope x:=by first | exact Or.inl rfl | exact Or.inr (Or.inl rfl) | exact Or.inr (Or.inr rfl)) (hd:(x==("__debug__":Str))=false:=by decide)
  (hcd:(x==("__classdict__":Str))=false:=by decide):PD X E (.Name x pos) (af i) :=
 (lI hN hv hd hcd).imp fun σ H Q pz3=>by
  obtain ⟨A,δ,R,o⟩:=pz3;unfold af at o;split at o
  ·rename_i d e;obtain ⟨v,e1,h⟩:=R.get i d e;exact ⟨v,e1,o v H (az.refl H) h⟩
  ·exact o.elim
theorem Cm {v:V} {d:PyData} (h:PE X e (tC v)) (hi:∀ K H,Is K H d v):PD X E e (gC d):=h.imp fun σ H Q qz3=>(by obtain ⟨A,δ,R,o⟩:=qz3;exact o v H (az.refl H) (hi _ _))
theorem av {i j pos}:PD X E (.Constant (.int i) j pos) (gC (.int i)):=Cm gE fun _ _=>cq
theorem iF {i j pos}:PD X E (.Constant (.bool i) j pos) (gC (.bool i)):=Cm IB fun _ _=>is_bool
theorem iT {j pos}:PD X E (.Constant .none j pos) (gC .none):=Cm Ge fun _ _=>is_none
theorem iR {i j pos}:PD X E (.Constant (.str i) j pos) (gC (.str i)):=Cm G9 fun _ _=>A5
theorem fY {i:Int} {x:Str} {pos:Pos} (hm:∃ t,X.mg x=some (.int i t)) (hg:Gl X x:=by rfl) (hd:(x==("__debug__":Str))=false:=by decide):PD X E (.Name x pos) (gC (.int i)):=by obtain ⟨t,hm⟩:=hm;exact Cm (Ex (v:=.int i) hg hm ⟨_,rfl⟩ hd) fun _ _=>cq
def OpD (K:PySem.W.Frag) (f:PyData->PyData->Option PyData) (r:R2):Prop :=
 ∀ (d1 d2 d:PyData) (x y:V) (H:Hp) (A:List Addr) (Q:VK),f d1 d2=some d->Ls H A->Is K (del H A) d1 x->Is K (del H A) d2 y->(∀ v H',az H H'->Is K (del H' A) d v->Q v H')->r x y H Q
theorem g2.read {r:R2} {f:PyData->PyData->Option PyData} {σ:St} {H:Hp} {A:List Addr} {δ:Ds} {Q:VK} {K:PySem.W.Frag} (hr:OpD K f r) (R:dJ K H A δ σ) (o:iA K E A H (g2 f ga gb δ) Q) :
  tOp r (eD K E ga) (eD K E gb) σ H Q:=by
 unfold g2 at o;refine eD.run R (fun d1 e1 v H1 s1 R1 h1=>?_) (fun C e1 H' s'=>?_) (fun e1=>?_)
 ·rw [e1] at o;refine eD.run R1 (fun d2 e2 u H2 s2 R2 h2=>?_) (fun C e2 H' s'=>?_) (fun e2=>?_)
  ·simp only [Rs.aj,e2] at o;cases e3:f d1 d2 with
   | none=>rw [e3] at o;exact o.elim
   | some d =>rw [e3] at o;exact hr d1 d2 d v u H2 A Q e3 R2.ls (h1.same s2.del) h2 fun w H' s q=>o w H' (s1.trans (s2.trans s)) q
  ·simp only [Rs.aj,e2,Rs.eN] at o;exact o H' (s1.trans s')
  ·simp only [Rs.aj,e2,Rs.bT] at o;exact o
 ·rw [e1] at o;exact o H' s'
 ·rw [e1] at o;exact o
theorem gy {r:R2} {f:PyData->PyData->Option PyData} (hr:OpD X.K f r) (ha:PD X E a ga) (hb:PD X E b gb) (mk:∀ {ta tb:TE},PE X a ta->PE X b tb->PE X e (tOp r ta tb)):PD X E e (g2 f ga gb) :=
 (mk ha hb).imp fun σ H Q qz3=>(by obtain ⟨A,δ,R,o⟩:=qz3;exact g2.read hr R o)
theorem kL {r:R2} {f:PyData->PyData->Option PyData} (hr:OpD X.K f r) (ha:PD X E a ga) (hb:PD X E b gb) (mk:∀ {ta tb:TE},PE X a ta->PE X b tb->PT X e (Fw (tOp r ta tb))):PCD X E e (gT (g2 f ga gb)) :=
 (mk ha hb).imp fun σ H Q pz3=>by
  obtain ⟨A,δ,R,o⟩:=pz3;refine g2.read (Q:=fun x H'=>∃ k,x=.bl k/\Q k H') hr R ?_;unfold gT at o;cases q:g2 f ga gb δ with
  | no=>rw [q] at o;exact o
  | rz C=>rw [q] at o;exact o
  | ok d =>
   rw [q] at o;cases d with
   | bool k=>exact fun v H' s h=>⟨k,h.ofBool,o H' s⟩
   | _=>exact o.elim
def dI (f:Int->Int->Option PyData):PyData->PyData->Option PyData
 | .int i,.int j=>f i j
 | _,_=>none
theorem yE {f:Int->Int->Option PyData} {d1 d2 d:PyData} (h:dI f d1 d2=some d):∃ i j,d1=.int i/\d2=.int j/\f i j=some d:=by
 unfold dI at h;split at h
 ·exact ⟨_,_,rfl,rfl,h⟩
 ·cases h
def iy:=dI fun i j=>some (.int (i-j))
def eK:=dI fun i j=>if 0<j then some (.int (i % j)) else none
def gQ:=dI fun i j=>if 0<j/\j<1073741824 then some (.int (i / j)) else none
def Be:=dI fun i j=>if 0<=j/\j<=1000000/\i.natAbs<2 ^ 64 then some (.int (i ^ j.toNat)) else none
def dLt:=dI fun i j=>some (.bool (decide (i<j)))
def dLe:=dI fun i j=>some (.bool (decide (i<=j)))
def dGt:=dI fun i j=>some (.bool (decide (j<i)))
def dGe:=dI fun i j=>some (.bool (decide (j<=i)))
theorem jw {K:PySem.W.Frag} {f:Int->Int->PyData} {v:Int->Int->V} (hv:∀ i j K H,Is K H (f i j) (v i j)):OpD K (dI fun i j=>some (f i j)) (rI0 v):=fun d1 d2 d x y H A Q e hA h1 h2 k=>by obtain ⟨i,j,rfl,rfl,e⟩:=yE e;cases e;exact ⟨i,j,h1.ofInt,h2.ofInt,k _ H (az.refl H) (hv _ _ _ _)⟩
theorem De {K:PySem.W.Frag} {C C':Int->Int->Prop} [∀ i j,Decidable (C' i j)] {f:Int->Int->PyData} {v:Int->Int->V} (hc:∀ i j,C' i j->C i j) (hv:∀ i j K H,Is K H (f i j) (v i j)):OpD K (dI fun i j=>if C' i j then some (f i j) else none) (rI C v):=fun d1 d2 d x y H A Q e hA h1 h2 k=>by
 obtain ⟨i,j,rfl,rfl,e2⟩:=yE e;by_cases z:C' i j
 ·simp only [if_pos z] at e2;cases e2;exact ⟨i,j,h1.ofInt,h2.ofInt,hc i j z,k _ H (az.refl H) (hv _ _ _ _)⟩
 ·simp only [if_neg z] at e2;cases e2
theorem hW (ha:PD X E a ga) (hb:PD X E b gb):PD X E (.BinOp a .Sub b pos) (g2 iy ga gb):=gy (jw fun _ _ _ _=>cq) ha hb (fh GX)
theorem lQ (ha:PD X E a ga) (hb:PD X E b gb):PD X E (.BinOp a .Mod b pos) (g2 eK ga gb):=gy (De (fun _ _ h=>h) fun _ _ _ _=>cq) ha hb (fh qU)
theorem rG (ha:PD X E a ga) (hb:PD X E b gb):PD X E (.BinOp a .FloorDiv b pos) (g2 gQ ga gb):=gy (De (C:=IL) (fun _ _ h=>h) fun _ _ _ _=>cq) ha hb (fh Ef)
theorem Hh (ha:PD X E a ga) (hb:PD X E b gb):PD X E (.BinOp a .Pow b pos) (g2 Be ga gb):=gy (De (C:=Il) (fun _ _ h=>h) fun _ _ _ _=>cq) ha hb (fh G8)
theorem Ie (ha:PD X E a ga) (hb:PD X E b gb):PD X E (.Compare a [.Lt] [b] pos) (g2 dLt ga gb):=gy (jw fun _ _ _ _=>is_bool) ha hb fun h1 h2=>my Cv h1 h2 (ik _)
theorem IG (ha:PD X E a ga) (hb:PD X E b gb):PD X E (.Compare a [.LtE] [b] pos) (g2 dLe ga gb):=gy (jw fun _ _ _ _=>is_bool) ha hb fun h1 h2=>my yX h1 h2 (ik _)
theorem xQ (ha:PD X E a ga) (hb:PD X E b gb):PCD X E (.Compare a [.Lt] [b] pos) (gT (g2 dLt ga gb)):=kL (jw fun _ _ _ _=>is_bool) ha hb fun h1 h2=>jv Cv h1 h2 (ik _)
theorem GO (ha:PD X E a ga) (hb:PD X E b gb):PCD X E (.Compare a [.LtE] [b] pos) (gT (g2 dLe ga gb)):=kL (jw fun _ _ _ _=>is_bool) ha hb fun h1 h2=>jv yX h1 h2 (ik _)
theorem va (ha:PD X E a ga) (hb:PD X E b gb):PCD X E (.Compare a [.Gt] [b] pos) (gT (g2 dGt ga gb)):=kL (jw fun _ _ _ _=>is_bool) ha hb fun h1 h2=>jv Hy h1 h2 (ik _)
theorem Gw (ha:PD X E a ga) (hb:PD X E b gb):PCD X E (.Compare a [.GtE] [b] pos) (gT (g2 dGe ga gb)):=kL (jw fun _ _ _ _=>is_bool) ha hb fun h1 h2=>jv HV h1 h2 (ik _)
open PySem.SeqAt in
def dEq (x y:PyData):Option PyData:=if aN x&&aN y&&shaped x&&shaped y then some (.bool (PyData.eqv x y)) else none
open PySem.SeqAt in
def dNe (x y:PyData):Option PyData:=if aN x&&aN y&&shaped x&&shaped y then some (.bool (!PyData.eqv x y)) else none
open PySem.SeqAt in
theorem CH {K:PySem.W.Frag}:OpD K dEq (fun x y H Q=>∃ d e,IsD K H d x/\IsD K H e y/\shaped d=true/\shaped e=true/\Q (.bl (PyData.eqv d e)) H):=fun d1 d2 d x y H A Q e hA h1 h2 k=>by
 unfold dEq at e;split at e
 ·rename_i z;simp only [Bool.and_eq_true] at z;cases e;exact ⟨d1,d2,(h1.same aH).isd z.1.1.1,(h2.same aH).isd z.1.1.2,z.1.2,z.2,k _ H (az.refl H) is_bool⟩
 ·cases e
open PySem.SeqAt in
theorem CV {K:PySem.W.Frag}:OpD K dNe (fun x y H Q=>∃ d e,IsD K H d x/\IsD K H e y/\shaped d=true/\shaped e=true/\Q (.bl (!PyData.eqv d e)) H):=fun d1 d2 d x y H A Q e hA h1 h2 k=>by
 unfold dNe at e;split at e
 ·rename_i z;simp only [Bool.and_eq_true] at z;cases e;exact ⟨d1,d2,(h1.same aH).isd z.1.1.1,(h2.same aH).isd z.1.1.2,z.1.2,z.2,k _ H (az.refl H) is_bool⟩
 ·cases e
theorem Bo {k:Nat} (hr:cC k X.A) (ha:PD X E a ga) (hb:PD X E b gb):PD X E (.Compare a [.Eq] [b] pos) (g2 dEq ga gb):=gy CH ha hb fun h1 h2=>my (yi hr.units) h1 h2 (ik _)
theorem Ic {k:Nat} (hr:cC k X.A) (ha:PD X E a ga) (hb:PD X E b gb):PD X E (.Compare a [.NotEq] [b] pos) (g2 dNe ga gb):=gy CV ha hb fun h1 h2=>my (Bx hr.units) h1 h2 (ik _)
theorem jk {k:Nat} (hr:cC k X.A) (ha:PD X E a ga) (hb:PD X E b gb):PCD X E (.Compare a [.Eq] [b] pos) (gT (g2 dEq ga gb)):=kL CH ha hb fun h1 h2=>jv (yi hr.units) h1 h2 (ik _)
theorem qb {k:Nat} (hr:cC k X.A) (ha:PD X E a ga) (hb:PD X E b gb):PCD X E (.Compare a [.NotEq] [b] pos) (gT (g2 dNe ga gb)):=kL CV ha hb fun h1 h2=>jv (Bx hr.units) h1 h2 (ik _)
def eR:PyData->Bool
 | .none=>true
 | _=>false
def kn (x:PyData):Option PyData:=some (.bool (eR x))
def l5 (x:PyData):Option PyData:=some (.bool (!eR x))
theorem g1.read {tt:(VK)->VK} {f:PyData->Option PyData} {σ:St} {H:Hp} {A:List Addr} {δ:Ds} {Q:VK} {K:PySem.W.Frag} (R:dJ K H A δ σ) (o:iA K E A H (g1 f ga δ) Q)
  (hr:∀ d1 d x H',f d1=some d->Ls H' A->az H H'->Is K (del H' A) d1 x->(∀ v H2,az H' H2->Is K (del H2 A) d v->Q v H2)->tt Q x H'):eD K E ga σ H (tt Q):=by
 unfold g1 at o;refine eD.run R (fun d1 e1 v H1 s1 R1 h1=>?_) (fun C e1 H' s'=>?_) (fun e1=>?_)
 ·simp only [e1,Rs.aj] at o;cases e3:f d1 with
  | none=>rw [e3] at o;exact o.elim
  | some d=>rw [e3] at o;exact hr d1 d v H1 e3 R1.ls s1 h1 fun w H' s q=>o w H' (s1.trans s) q
 ·rw [e1] at o;exact o H' s'
 ·rw [e1] at o;exact o
theorem yx {K:PySem.W.Frag} {H:Hp} {d:PyData} {v:V} (h:Is K H d v):decide (v=.non)=eR d:=by
 by_cases z:v=.non
 ·rw [decide_eq_true z,h.isNone.mp z];rfl
 ·rw [decide_eq_false z];have:d≠.none:=fun q=>z (h.isNone.mpr q)
  cases d <;> first | (exact absurd rfl this) | rfl
theorem xW {j pos'} (ha:PD X E a ga):PD X E (.Compare a [.Is] [.Constant .none j pos'] pos) (g1 kn ga) :=
 (He (AZ ha)).imp fun σ H Q ⟨A,δ,R,o⟩=>g1.read (tt:=fun Q x H1=>Q (.bl (decide (x=.non))) H1) R o fun d1 d x H' e _ _ h k=>by cases e;rw [yx h];exact k _ H' (az.refl _) is_bool
theorem xu {t:TE} (h:PT X e (tB t)) (k:∀ σ H Q,eD X.K E ga σ H Q->t σ H Q):PCD X E e (gT ga):=h.imp fun σ H Q ⟨A,δ,R,o⟩=>k σ H _ ⟨A,δ,R,by
 unfold gT at o;cases q:ga δ with
 | no=>rw [q] at o;exact o
 | rz C=>rw [q] at o;exact o
 | ok d =>
  rw [q] at o;cases d with
  | bool c=>exact fun v H' s h=>⟨c,h.ofBool,o H' s⟩
  | _=>exact o.elim⟩
theorem cE (h:PD X E e ga) (he:∀ whole,isTrue e X.env whole=(do let v <-whole;standAt e.pos;holding [v] (truthy v)):=by intro _;rfl):PCD X E e (gT ga):=xu (F2 h he) fun _ _ _ h=>h
theorem uF {j pos'} (ha:PD X E a ga):PCD X E (.Compare a [.Is] [.Constant .none j pos'] pos) (gT (g1 kn ga)) :=
 xu (xl (AZ ha)) fun σ H Q ⟨A,δ,R,o⟩=>g1.read (tt:=fun Q x H1=>Q (.bl (decide (x=.non))) H1) R o fun d1 d x H' e _ _ h k=>by cases e;rw [yx h];exact k _ H' (az.refl _) is_bool
theorem vL {j pos'} (ha:PD X E a ga):PCD X E (.Compare a [.IsNot] [.Constant .none j pos'] pos) (gT (g1 l5 ga)) :=
 xu (xl (D4 ha)) fun σ H Q ⟨A,δ,R,o⟩=>g1.read (tt:=fun Q x H1=>Q (.bl (!decide (x=.non))) H1) R o fun d1 d x H' e _ _ h k=>by cases e;rw [yx h];exact k _ H' (az.refl _) is_bool
theorem CB {ca:Ds->Rs Bool} {f:Bool->Rs Bool} {σ:St} {H:Hp} {A:List Addr} {δ:Ds} {Q:Bool->Hp->Prop} {K:PySem.W.Frag} {t:Bool->Hp->Prop} (R:dJ K H A δ σ) (o:xk E H ((ca δ).bind f) Q)
  (k:∀ b H1,az H H1->dJ K H1 A δ σ->xk E H1 (f b) Q->t b H1):cD K E ca σ H t:=by
 refine cD.run R (fun b e H1 s1 R1=>?_) (fun C e H' s'=>?_) (fun e=>?_)
 ·rw [e] at o;exact k b H1 s1 R1 (xk.mono (show xk E H (f b) Q from o) s1)
 ·rw [e] at o;exact o H' s'
 ·rw [e] at o;exact o
variable {ca cb:Ds->Rs Bool} {rest:List Expr}
theorem dj (ha:PCD X E a ca):PCD X E (.UnaryOp .Not a pos) (g0 ca):=(F8 ha).imp fun σ H Q qz3=>(by obtain ⟨A,δ,R,o⟩:=qz3;exact CB R o fun b H1 s1 R1 o=>o H1 (az.refl _))
theorem Cj (ha:PCD X E a ca):PWD X E (.BoolOp .And [a] pos) ca:=E8 ha
theorem iE (ha:PCD X E a ca):PWD X E (.BoolOp .Or [a] pos) ca:=Gy ha
theorem DA (ha:PCD X E a ca) (hb:PWD X E (.BoolOp .And (b::rest) pos) cb):PWD X E (.BoolOp .And (a::b::rest) pos) (Dq ca cb):=PW.imp (F7 ha hb) fun σ H Q ⟨A,δ,R,o⟩=>CB R o fun b H1 s1 R1 o=>by
 cases b with
 | true=>exact ⟨A,δ,R1,o⟩
 | false=>exact o H1 (az.refl _)
theorem jO (ha:PCD X E a ca) (hb:PWD X E (.BoolOp .Or (b::rest) pos) cb):PWD X E (.BoolOp .Or (a::b::rest) pos) (cOr ca cb):=PW.imp (Ip ha hb) fun σ H Q ⟨A,δ,R,o⟩=>CB R o fun b H1 s1 R1 o=>by
 cases b with
 | false=>exact ⟨A,δ,R1,o⟩
 | true=>exact o H1 (az.refl _)
theorem mL (h:PWD X E e ca):PCD X E e ca:=PW.pt h
theorem Fy {f:PyData->Rs PyData} {σ:St} {H:Hp} {A:List Addr} {δ:Ds} {Q:VK} {K:PySem.W.Frag} {t:VK} (R:dJ K H A δ σ) (o:iA K E A H ((ga δ).bind f) Q)
  (k:∀ d v H1,az H H1->dJ K H1 A δ σ->Is K (del H1 A) d v->iA K E A H1 (f d) Q->t v H1):eD K E ga σ H t:=by
 refine eD.run R (fun d e v H1 s1 R1 h1=>?_) (fun C e H' s'=>?_) (fun e=>?_)
 ·rw [e] at o;exact k d v H1 s1 R1 h1 (iA.mono (show iA K E A H (f d) Q from o) s1)
 ·rw [e] at o;exact o H' s'
 ·rw [e] at o;exact o
theorem rh {K:PySem.W.Frag} {E:XK} {A:List Addr} {H:Hp} {d:PyData} {f:Bool->Rs PyData} {Q:VK} (o:iA K E A H ((truth d).bind f) Q):∃ t,d=.bool t/\iA K E A H (f t) Q:=by
 cases d with
 | bool t=>exact ⟨t,rfl,o⟩
 | _=>exact o.elim
theorem qi {op} (ha:PD X E a ga):PD X E (.BoolOp op [a] pos) ga:=Gu ha
theorem uJ (ha:PD X E a ga) (hb:PD X E (.BoolOp .And (b::rest) pos) gb):PD X E (.BoolOp .And (a::b::rest) pos) (An ga gb):=(GU ha hb).imp fun σ H Q ⟨A,δ,R,o⟩=>Fy R o fun d v H1 s1 R1 h1 o=>by
 obtain ⟨t,rfl,o⟩:=rh o;refine ⟨t,h1.ofBool,?_⟩;cases t with
 | true=>exact ⟨A,δ,R1,o⟩
 | false=>exact o _ H1 (az.refl _) is_bool
theorem HP (ha:PD X E a ga) (hb:PD X E (.BoolOp .Or (b::rest) pos) gb):PD X E (.BoolOp .Or (a::b::rest) pos) (gOr ga gb):=(HZ ha hb).imp fun σ H Q ⟨A,δ,R,o⟩=>Fy R o fun d v H1 s1 R1 h1 o=>by
 obtain ⟨t,rfl,o⟩:=rh o;refine ⟨t,h1.ofBool,?_⟩;cases t with
 | false=>exact ⟨A,δ,R1,o⟩
 | true=>exact o _ H1 (az.refl _) is_bool
theorem Cn (hc:PCD X E c ca) (ha:PD X E a ga) (hb:PD X E b gb):PD X E (.IfExp c a b pos) (gIf ca ga gb):=(Cz hc ha hb).imp fun σ H Q pz3=>by
 obtain ⟨A,δ,R,o⟩:=pz3;unfold gIf at o;refine cD.run R (fun t e H1 s1 R1=>?_) (fun C e H' s'=>?_) (fun e=>?_)
 ·rw [e] at o;have o:=iA.mono (show iA X.K E A H (if t=true then ga δ else gb δ) Q from o) s1;cases t with
  | true=>exact ⟨A,δ,R1,o⟩
  | false=>exact ⟨A,δ,R1,o⟩
 ·rw [e] at o;exact o H' s'
 ·rw [e] at o;exact o
def lA:PyData->Option PyData
 | .int i=>some (.int (-i))
 | _=>none
theorem pT (ha:PD X E a ga):PD X E (.UnaryOp .USub a pos) (g1 lA ga):=(Iq FQ ha).imp fun σ H Q ⟨A,δ,R,o⟩=>g1.read (tt:=fun Q x H1=>∃ i,x=.int i/\Q (.int (-i)) H1) R o fun d1 d x H' e _ _ h k=>by
 cases d1 with
 | int i=>cases e;exact ⟨i,h.ofInt,k _ H' (az.refl _) cq⟩
 | _=>cases e
variable {es:List Expr} {gs:Ds->Rs (List PyData)}
theorem aq:PAD X E [] ao:=⟨ip.imp fun σ H Q qz3=>(by obtain ⟨A,δ,R,o⟩:=qz3;exact o [] H (az.refl _) dk),fun δ ds e=>by cases e;rfl⟩
theorem ag (ha:PD X E a ga) (hr:PAD X E es gs) (hs:starEach (a::es) X.env=(false,eval a X.env)::starEach es X.env:=by rfl):PAD X E (a::es) (ae ga gs):=by
 refine ⟨(eO ha hr.1 hs).imp fun σ H Q ⟨A,δ,R,o⟩=>?_,fun δ ds e=>?_⟩
 ·unfold ae at o;refine eD.run R (fun d e v H1 s1 R1 h1=>?_) (fun C e H' s'=>?_) (fun e=>?_)
  ·simp only [e,Rs.aj] at o;refine aD.run R1 (fun ds e2 vs H2 s2 R2 h2=>?_) (fun C e2 H' s'=>?_) (fun e2=>?_)
   ·simp only [e2,Rs.aj] at o;exact o _ H2 (s1.trans s2) (cW (h1.same s2.del) h2)
   ·simp only [e2,Rs.eN] at o;exact o H' (s1.trans s')
   ·simp only [e2,Rs.bT] at o;exact o
  ·simp only [e,Rs.eN] at o;exact o H' s'
  ·simp only [e,Rs.bT] at o;exact o
 ·unfold ae at e;cases q:ga δ with
  | ok d =>
   cases q2:gs δ with
   | ok l =>simp only [q,q2,Rs.aj] at e;cases e;simp [hr.2 δ l q2]
   | rz C=>simp only [q,q2,Rs.aj,Rs.eN] at e;cases e
   | no=>simp only [q,q2,Rs.aj,Rs.bT] at e;cases e
  | rz C=>simp only [q,Rs.eN] at e;cases e
  | no=>simp only [q,Rs.bT] at e;cases e
theorem vk {f:List PyData->Rs PyData} {σ:St} {H:Hp} {A:List Addr} {δ:Ds} {Q:VK} {K:PySem.W.Frag} {t:List V->Hp->Prop} (R:dJ K H A δ σ) (o:iA K E A H ((gs δ).bind f) Q)
  (k:∀ ds vs H1,gs δ=.ok ds->az H H1->dJ K H1 A δ σ->Iss K (del H1 A) ds vs->iA K E A H1 (f ds) Q->t vs H1):aD K E gs σ H t:=by
 refine aD.run R (fun d e v H1 s1 R1 h1=>?_) (fun C e H' s'=>?_) (fun e=>?_)
 ·rw [e] at o;exact k d v H1 e s1 R1 h1 (iA.mono (show iA K E A H (f d) Q from o) s1)
 ·rw [e] at o;exact o H' s'
 ·rw [e] at o;exact o
theorem k8 {x1} (h:PAD X E es gs) (hl:es.length<=1000:=by decide):PD X E (.Tuple es x1 pos) (jA gs):=(F9 h.1).imp fun σ H Q ⟨A,δ,R,o⟩=>vk R o fun ds vs H1 e s1 R1 h1 o=>by have n:=h.2 δ ds e;have m:=h1.length;exact ⟨by rw [sizeLine_eq];omega,fun p hp=>o _ _ (b8 hp) (lS R1.ls hp h1)⟩
theorem pU (h:PAD X E es gs) (hl:es.length<=1000:=by decide):PD X E (.List es pos) (kr gs):=(xv h.1).imp fun σ H Q ⟨A,δ,R,o⟩=>vk R o fun ds vs H1 e s1 R1 h1 o=>by have n:=h.2 δ ds e;have m:=h1.length;exact ⟨by rw [sizeLine_eq];omega,fun p hp=>o _ _ (b8 hp) (kN R1.ls hp h1)⟩
def spD (K:PySem.W.Frag) (n:Nat) (gf:List PyData->Rs PyData):Sp:=fun vs H Q E=>∃ A ds,Ls H A/\Iss K (del H A) ds vs/\ds.length=n/\iA K E A H (gf ds) Q
structure bp (P:Program) (w:World) (K:PySem.W.Frag) (mg:Str->Option Value) (base:Heap) (k:Nat) (x:Str) (n:Nat) (gf:List PyData->Rs PyData):Prop where
 ex:∃ f fd ps,hU P w K mg base (CXW P w) k f fd ps (spD K n gf)/\mg x=some (.ref f)/\PySem.W.keepIn K (.ref f)=true/\Binds K fd ps []
theorem dh {X:Cx}:Passes (CXW X.prog X.w) X E0:=fun _ _ _ _ _ _ _ qz7=>(by obtain ⟨_,_,_,_,_,_,h,_⟩:=qz7;exact h.elim)
theorem aS {k j:Nat} {x:Str} {p:Pos} {gf:List PyData->Rs PyData} (D:bp X.prog X.w X.K X.mg X.base k x (e::es).length gf) (hr:cC j X.A) (hx:Passes (CXW X.prog X.w) X E) (ha:PAD X E (e::es) gs) (hk:k<=j:=by decide) (hg:Gl X x:=by rfl)
  (hdb:(x==("__debug__":Str))=false:=by decide) (he:starEach (e::es) X.env=(false,eval e X.env)::starEach es X.env:=by rfl) (hpl:(backTo pos (starEach es X.env)).any (·.1)=false:=by rfl) :
  PD X E (.Call (.Name x p) (e::es) [] pos) (aF gf gs):=by
 obtain ⟨f,fd,ps,F,hm,hkp,hb⟩:=D.ex;refine (yQ F (hr.mono hk) hg hm hkp hb .nil hx ha.1 hdb he hpl).imp fun σ H Q rz3=>?_
 obtain ⟨A,δ,R,o⟩:=rz3;refine vk R o fun ds vs H1 e s1 R1 h1 o=>?_
 refine ⟨A,ds,R1.ls,by simpa using h1,ha.2 δ ds e,o⟩
def FnD (K:PySem.W.Frag) (f:List PyData->Option PyData) (r:List V->Hp->VK->Prop):Prop :=
 ∀ (ds:List PyData) (d:PyData) (vs:List V) (H:Hp) (A:List Addr) (Q:VK),f ds=some d->Ls H A->Iss K (del H A) ds vs->(∀ v H',az H H'->Is K (del H' A) d v->Q v H')->r vs H Q
theorem gr {r:List V->Hp->VK->Prop} {f:List PyData->Option PyData} (hf:FnD X.K f r) (ha:PAD X E es gs) (mk:∀ {t:TA},PA X es t->PE X e (tCB r t)):PD X E e (gF f gs) :=
 (mk ha.1).imp fun σ H Q ⟨A,δ,R,o⟩=>vk R o fun ds vs H1 e s1 R1 h1 o=>by
  cases q:f ds with
  | none=>rw [q] at o;exact o.elim
  | some d=>rw [q] at o;exact hf ds d vs H1 A Q q R1.ls h1 o
end
section
variable {X:Cx} {E:XK} {a b c e:Expr} {ga gb gc:Ds->Rs PyData} {pos:Pos} {es:List Expr} {gs:Ds->Rs (List PyData)}
def Fz (K:PySem.W.Frag):R2:=fun x y H Q=>∃ a b xs ys,x=.ref a/\y=.ref b/\SqT K H a xs/\SqT K H b ys/\xs.length+ys.length<=sizeLine /\
 (xs=[]->Q (.ref b) H)/\(xs≠[]->ys=[]->Q (.ref a) H)/\(xs≠[]->ys≠[]->∀ p,H p=none->Q (.ref p) (upd H p (.tup (xs++ys))))
theorem Ea:OpR X (binaryOp .Add) (Fz X.K):=by
 intro pins s σ H x y v u Q I rx ry h;obtain ⟨a,b,xs,ys,rfl,rfl,ha,hb,hz,q0,q1,q2⟩:=h;by_cases hx:xs=[]
 ·cases rx;cases ry;obtain ⟨vs,r1,p1,_⟩:=I.tuple ha;obtain ⟨ws,r2,p2,_⟩:=I.tuple hb;obtain ⟨⟨cls,dd,data,sl⟩,ho,hc,n,hd⟩:=id p1;obtain ⟨⟨cls2,dd2,data2,sl2⟩,ho2,hc2,n2,hd2⟩:=id p2;simp only at hc hd hc2 hd2;subst hc hd hc2 hd2;have hv:vs=[]:=r1.nil_iff.mpr hx;exact concat_meets ⟨_,ho,rfl⟩ ⟨_,ho2,rfl⟩ noFill_tuple_add seq_tuple_add PySem.F.slot_tuple_add PySem.F.entry_tuple_add (PySem.F.args_tuple_add_2 _ _)
   (tuple_addW0 a b vs.toArray ws.toArray n n2 dd dd2 sl sl2 (by simp [hv])) ⟨ho,ho2,⟨.ref b,H,I,rfl,q0 hx⟩⟩
 ·exact Fm pins s σ H _ _ v u Q I rx ry ⟨a,b,xs,ys,rfl,rfl,ha,hb,hx,hz,q1 hx,q2 hx⟩
def bA:PyData->PyData->Option PyData
 | .int i,.int j=>some (.int (i+j))
 | .list x,.list y=>if x.length+y.length<=1000000 then some (.list (x++y)) else none
 | .tuple x,.tuple y=>if x.length+y.length<=1000000 then some (.tuple (x++y)) else none
 | _,_=>none
theorem Ew {K:PySem.W.Frag}:OpD K bA (fun x y H Q=>rI0 (fun i j=>.int (i+j)) x y H Q\/HG x y H Q\/Fz K x y H Q):=fun d1 d2 d x y H A Q e hA h1 h2 k=>by
 unfold bA at e;split at e
 ·cases e;exact .inl ⟨_,_,h1.ofInt,h2.ofInt,k _ H (az.refl _) cq⟩
 ·rename_i l1 l2;split at e
  ·rename_i hz;cases e;obtain ⟨p,xs,rfl,hp,hx⟩:=h1.ofLst;obtain ⟨q,ys,rfl,hq,hy⟩:=h2.ofLst;refine .inr (.inl ⟨p,q,xs,ys,rfl,rfl,aH _ _ hp,aH _ _ hq,by rw [hx.length,hy.length,sizeLine_eq];omega,fun r hr=>k _ _ (b8 hr) (kN hA hr (hx.append hy))⟩)
  ·cases e
 ·rename_i l1 l2;split at e
  ·rename_i hz;cases e;obtain ⟨p,xs,rfl,hp,hx⟩:=h1.ofTup;obtain ⟨q,ys,rfl,hq,hy⟩:=h2.ofTup;refine .inr (.inr ⟨p,q,xs,ys,rfl,rfl,SqT.of (aH _ _ hp),SqT.of (aH _ _ hq),by rw [hx.length,hy.length,sizeLine_eq];omega,fun z=>?_,fun _ z=>?_,fun _ _ r hr=>k _ _ (b8 hr) (lS hA hr (hx.append hy))⟩)
   ·subst z;have:l1=[]:=List.length_eq_zero_iff.mp (by rw [<-hx.length];rfl);subst this;exact k _ H (az.refl _) (iL hq hy)
   ·subst z;have:l2=[]:=List.length_eq_zero_iff.mp (by rw [<-hy.length];rfl);subst this;rw [List.append_nil] at k;exact k _ H (az.refl _) (iL hp hx)
  ·cases e
 ·cases e
theorem cj (ha:PD X E a ga) (hb:PD X E b gb):PD X E (.BinOp a .Add b pos) (g2 bA ga gb):=gy Ew ha hb (fh (n9.or (Hb.or Ea)))
def dIx:PyData->PyData->Option PyData
 | .list x,.int i=>atI x i
 | .tuple x,.int i=>atI x i
 | _,_=>none
theorem yH {K:PySem.W.Frag} {H:Hp} {ds:List PyData} {vs:List V} {i:Int} {d:PyData} (h:Iss K H ds vs) (e:atI ds i=some d):∃ v,atI vs i=some v/\Is K H d v:=by
 unfold atI at e ⊢;rw [h.length];cases q:ixN ds.length i with
 | none=>rw [q] at e;cases e
 | some j=>rw [q] at e;exact h.getD e
theorem Gg {K:PySem.W.Frag}:OpD K dIx (fun x y H Q=>Ia K x y H Q\/Hu K x y H Q):=fun d1 d2 d x y H A Q e hA h1 h2 k=>by
 unfold dIx at e;split at e
 ·obtain ⟨p,xs,rfl,hp,hx⟩:=h1.ofLst;obtain ⟨v,ev,hv⟩:=yH hx e;exact .inl ⟨p,xs,_,v,rfl,h2.ofInt,SqL.of (aH _ _ hp),ev,k _ H (az.refl _) hv⟩
 ·obtain ⟨p,xs,rfl,hp,hx⟩:=h1.ofTup;obtain ⟨v,ev,hv⟩:=yH hx e;exact .inr ⟨p,xs,_,v,rfl,h2.ofInt,SqT.of (aH _ _ hp),ev,k _ H (az.refl _) hv⟩
 ·cases e
theorem bQ (ha:PD X E a ga) (hb:PD X E b gb) (hs:zf b:=by intro _ _;rfl):PD X E (.Subscript a b pos) (g2 dIx ga gb):=gy Gg ha hb fun h1 h2=>B1 (uq.or GV) h1 h2 hs
def bY:List PyData->Option PyData
 | [.list x]=>some (.int x.length)
 | [.tuple x]=>some (.int x.length)
 | _=>none
theorem kR {K:PySem.W.Frag} {H:Hp} {d:PyData} {vs:List V} (h:Iss K H [d] vs):∃ v,vs=[v]/\Is K H d v:=by obtain ⟨v,r,rfl,h1,h2⟩:=h.cons_of;rw [h2.nil_of];exact ⟨v,rfl,h1⟩
theorem DP {K:PySem.W.Frag} {H:Hp} {d e:PyData} {vs:List V} (h:Iss K H [d,e] vs):∃ v u,vs=[v,u]/\Is K H d v/\Is K H e u:=by obtain ⟨v,r,rfl,h1,h2⟩:=h.cons_of;obtain ⟨u,rfl,h3⟩:=kR h2;exact ⟨v,u,rfl,h1,h3⟩
theorem Fb {K:PySem.W.Frag}:FnD K bY (fun xs H Q=>∃ p ys,xs=[.ref p]/\(SqL K H p ys\/SqT K H p ys)/\Q (.int ys.length) H):=fun ds d vs H A Q e hA h k=>by
 unfold bY at e;split at e
 ·cases e;obtain ⟨v,rfl,hh⟩:=kR h;obtain ⟨p,xs,rfl,hp,hx⟩:=hh.ofLst;exact ⟨p,xs,rfl,.inl (SqL.of (aH _ _ hp)),k _ H (az.refl _) (by rw [hx.length];exact cq)⟩
 ·cases e;obtain ⟨v,rfl,hh⟩:=kR h;obtain ⟨p,xs,rfl,hp,hx⟩:=hh.ofTup;exact ⟨p,xs,rfl,.inr (SqT.of (aH _ _ hp)),k _ H (az.refl _) (by rw [hx.length];exact cq)⟩
 ·cases e
theorem cZ {p:Pos} (hm:X.mg "len"=none) (ha:PAD X E (a::es) gs) (hg:Gl X "len":=by rfl) (he:starEach (a::es) X.env=(false,eval a X.env)::starEach es X.env:=by rfl) (hpl:(backTo pos (starEach es X.env)).any (·.1)=false:=by rfl) :
 PD X E (.Call (.Name "len" p) (a::es) [] pos) (gF bY gs):=gr Fb ha fun h=>gp jz hg hm PySem.boot_len h (by decide) (by decide) he hpl
theorem CD:bootBuiltins "int"=some (.type "int"):=by decide +kernel
theorem Dv:bootBuiltins "bool"=some (.type "bool"):=by decide +kernel
theorem vh:bootBuiltins "tuple"=some (.type "tuple"):=by decide +kernel
theorem pf:bootBuiltins "list"=some (.type "list"):=by decide +kernel
theorem zY:bootBuiltins "isinstance"=some (.builtin "isinstance"):=by decide +kernel
theorem Ho:bootBuiltins "all"=some (.builtin "all"):=by decide +kernel
theorem Gs:bootBuiltins "sum"=some (.builtin "sum"):=by decide +kernel
theorem GR:bootBuiltins "min"=some (.builtin "min"):=by decide +kernel
theorem GW:bootBuiltins "max"=some (.builtin "max"):=by decide +kernel
def f9:List PyData->Option (List Int)
 | []=>some []
 | .int i::r=>(f9 r).map (i::·)
 | _::_=>none
theorem eS:∀ {ds:List PyData} {ns:List Int},f9 ds=some ns->ds=ns.map PyData.int
 | [],_,h=>by cases h;rfl
 | .int i::r,ns,h=>by
  unfold f9 at h;cases q:f9 r with
  | none=>rw [q] at h;cases h
  | some l=>rw [q] at h;cases h;rw [eS q];rfl
 | .none::_,_,h=>by cases h
 | .bool _::_,_,h=>by cases h
 | .str _::_,_,h=>by cases h
 | .list _::_,_,h=>by cases h
 | .tuple _::_,_,h=>by cases h
 | .dict _::_,_,h=>by cases h
theorem fM:∀ (ns:List Int),f9 (ns.map PyData.int)=some ns
 | []=>rfl
 | n::r=>by rw [List.map_cons];unfold f9;rw [fM r];rfl
def iP:List PyData->Option (List Bool)
 | []=>some []
 | .bool i::r=>(iP r).map (i::·)
 | _::_=>none
theorem og:∀ {ds:List PyData} {ns:List Bool},iP ds=some ns->ds=ns.map PyData.bool
 | [],_,h=>by cases h;rfl
 | .bool i::r,ns,h=>by
  unfold iP at h;cases q:iP r with
  | none=>rw [q] at h;cases h
  | some l=>rw [q] at h;cases h;rw [og q];rfl
 | .none::_,_,h=>by cases h
 | .int _::_,_,h=>by cases h
 | .str _::_,_,h=>by cases h
 | .list _::_,_,h=>by cases h
 | .tuple _::_,_,h=>by cases h
 | .dict _::_,_,h=>by cases h
theorem qC:∀ (ns:List Bool),iP (ns.map PyData.bool)=some ns
 | []=>rfl
 | n::r=>by rw [List.map_cons];unfold iP;rw [qC r];rfl
def uz:List PyData->Option PyData
 | [.list x]=>(f9 x).map fun ns=>.int ns.sum
 | _=>none
def oT:List PyData->Option PyData
 | [.list x]=>(iP x).map fun ns=>.bool (ns.all id)
 | _=>none
theorem Dw {K:PySem.W.Frag}:FnD K uz (fun xs H Q=>∃ (a:Addr) (ns:List Int),xs=[.ref a]/\SqL K H a (ns.map V.int)/\Q (.int ns.sum) H):=fun ds d vs H A Q e hA h k=>by
 unfold uz at e;split at e
 ·rename_i x;cases q:f9 x with
  | none=>rw [q] at e;cases e
  | some ns =>rw [q] at e;cases e;obtain ⟨v,rfl,hh⟩:=kR h;obtain ⟨p,xs,rfl,hp,hx⟩:=hh.ofLst;rw [eS q] at hx;rw [hx.ofInts] at hp;exact ⟨p,ns,rfl,SqL.of (aH _ _ hp),k _ H (az.refl _) cq⟩
 ·cases e
theorem D7 {K:PySem.W.Frag}:FnD K oT (fun xs H Q=>∃ (a:Addr) (ns:List Bool),xs=[.ref a]/\SqL K H a (ns.map V.bl)/\Q (.bl (ns.all id)) H):=fun ds d vs H A Q e hA h k=>by
 unfold oT at e;split at e
 ·rename_i x;cases q:iP x with
  | none=>rw [q] at e;cases e
  | some ns =>rw [q] at e;cases e;obtain ⟨v,rfl,hh⟩:=kR h;obtain ⟨p,xs,rfl,hp,hx⟩:=hh.ofLst;rw [og q] at hx;rw [hx.ofBools] at hp;exact ⟨p,ns,rfl,SqL.of (aH _ _ hp),k _ H (az.refl _) is_bool⟩
 ·cases e
theorem G6 {p:Pos} (hc:X.calm=true) (hm:X.mg "sum"=none) (ha:PAD X E (a::es) gs) (hg:Gl X "sum":=by rfl) (he:starEach (a::es) X.env=(false,eval a X.env)::starEach es X.env:=by rfl) (hpl:(backTo pos (starEach es X.env)).any (·.1)=false:=by rfl) :
 PD X E (.Call (.Name "sum" p) (a::es) [] pos) (gF uz gs):=gr Dw ha fun h=>gp (BN hc) hg hm Gs h (by decide) (by decide) he hpl
theorem nB {p:Pos} (hc:X.calm=true) (hm:X.mg "all"=none) (ha:PAD X E (a::es) gs) (hg:Gl X "all":=by rfl) (he:starEach (a::es) X.env=(false,eval a X.env)::starEach es X.env:=by rfl) (hpl:(backTo pos (starEach es X.env)).any (·.1)=false:=by rfl) :
 PD X E (.Call (.Name "all" p) (a::es) [] pos) (gF oT gs):=gr D7 ha fun h=>gp (CS hc) hg hm Ho h (by decide) (by decide) he hpl
def kZ:List PyData->Option PyData
 | [.int i,.int j]=>some (.int (if j<i then j else i))
 | _=>none
def iY:List PyData->Option PyData
 | [.int i,.int j]=>some (.int (if j>i then j else i))
 | _=>none
theorem CO {K:PySem.W.Frag}:FnD K kZ (fun xs H Q=>∃ i j,xs=[.int i,.int j]/\Q (.int (if j<i then j else i)) H):=fun ds d vs H A Q e hA h k=>by
 unfold kZ at e;split at e
 ·cases e;obtain ⟨v,u,rfl,h1,h2⟩:=DP h;rw [h1.ofInt,h2.ofInt];exact ⟨_,_,rfl,k _ H (az.refl _) cq⟩
 ·cases e
theorem AY {K:PySem.W.Frag}:FnD K iY (fun xs H Q=>∃ i j,xs=[.int i,.int j]/\Q (.int (if j>i then j else i)) H):=fun ds d vs H A Q e hA h k=>by
 unfold iY at e;split at e
 ·cases e;obtain ⟨v,u,rfl,h1,h2⟩:=DP h;rw [h1.ofInt,h2.ofInt];exact ⟨_,_,rfl,k _ H (az.refl _) cq⟩
 ·cases e
theorem pA {p:Pos} (hc:X.calm=true) (hm:X.mg "min"=none) (ha:PAD X E (a::es) gs) (hg:Gl X "min":=by rfl) (he:starEach (a::es) X.env=(false,eval a X.env)::starEach es X.env:=by rfl) (hpl:(backTo pos (starEach es X.env)).any (·.1)=false:=by rfl) :
 PD X E (.Call (.Name "min" p) (a::es) [] pos) (gF kZ gs):=gr CO ha fun h=>gp (zG hc) hg hm GR h (by decide) (by decide) he hpl
theorem uv {p:Pos} (hc:X.calm=true) (hm:X.mg "max"=none) (ha:PAD X E (a::es) gs) (hg:Gl X "max":=by rfl) (he:starEach (a::es) X.env=(false,eval a X.env)::starEach es X.env:=by rfl) (hpl:(backTo pos (starEach es X.env)).any (·.1)=false:=by rfl) :
 PD X E (.Call (.Name "max" p) (a::es) [] pos) (gF iY gs):=gr AY ha fun h=>gp (Ad hc) hg hm GW h (by decide) (by decide) he hpl
def AM:List PyData->Option PyData
 | [.int i]=>some (.int i)
 | [.bool k]=>some (.int (if k then 1 else 0))
 | _=>none
theorem EJ {K:PySem.W.Frag}:FnD K AM (fun xs H Q=>(∃ i,xs=[.int i]/\Q (.int i) H)\/∃ k,xs=[.bl k]/\Q (.int (if k then 1 else 0)) H):=fun ds d vs H A Q e hA h k=>by
 unfold AM at e;split at e
 ·cases e;obtain ⟨v,rfl,h1⟩:=kR h;rw [h1.ofInt];exact .inl ⟨_,rfl,k _ H (az.refl _) cq⟩
 ·cases e;obtain ⟨v,rfl,h1⟩:=kR h;rw [h1.ofBool];exact .inr ⟨_,rfl,k _ H (az.refl _) cq⟩
 ·cases e
theorem Cp {p:Pos} (hm:X.mg "int"=none) (ha:PAD X E (a::es) gs) (hg:Gl X "int":=by rfl) (he:starEach (a::es) X.env=(false,eval a X.env)::starEach es X.env:=by rfl) (hpl:(backTo pos (starEach es X.env)).any (·.1)=false:=by rfl) :
 PD X E (.Call (.Name "int" p) (a::es) [] pos) (gF AM gs):=gr EJ ha fun h=>mT zV hg hm CD h (by decide) (by decide) he hpl
def j8:List PyData->Option PyData
 | [.list x]=>some (.tuple x)
 | [.tuple x]=>some (.tuple x)
 | _=>none
def vJ:List PyData->Option PyData
 | [.list x]=>some (.list x)
 | [.tuple x]=>some (.list x)
 | _=>none
theorem Ap {K:PySem.W.Frag}:FnD K j8 (fun xs H Q=>∃ p ys,xs=[.ref p]/\((SqL K H p ys/\∀ l,H l=none->Q (.ref l) (upd H l (.tup ys)))\/(SqT K H p ys/\Q (.ref p) H))):=fun ds d vs H A Q e hA h k=>by
 unfold j8 at e;split at e
 ·cases e;obtain ⟨v,rfl,hh⟩:=kR h;obtain ⟨p,xs,rfl,hp,hx⟩:=hh.ofLst;exact ⟨p,xs,rfl,.inl ⟨SqL.of (aH _ _ hp),fun l hl=>k _ _ (b8 hl) (lS hA hl hx)⟩⟩
 ·cases e;obtain ⟨v,rfl,hh⟩:=kR h;obtain ⟨p,xs,rfl,hp,hx⟩:=hh.ofTup;exact ⟨p,xs,rfl,.inr ⟨SqT.of (aH _ _ hp),k _ H (az.refl _) (iL hp hx)⟩⟩
 ·cases e
theorem B5 {K:PySem.W.Frag}:FnD K vJ (fun xs H Q=>∃ p ys,xs=[.ref p]/\(SqL K H p ys\/SqT K H p ys)/\∀ l,H l=none->Q (.ref l) (upd H l (.lst ys))):=fun ds d vs H A Q e hA h k=>by
 unfold vJ at e;split at e
 ·cases e;obtain ⟨v,rfl,hh⟩:=kR h;obtain ⟨p,xs,rfl,hp,hx⟩:=hh.ofLst;exact ⟨p,xs,rfl,.inl (SqL.of (aH _ _ hp)),fun l hl=>k _ _ (b8 hl) (kN hA hl hx)⟩
 ·cases e;obtain ⟨v,rfl,hh⟩:=kR h;obtain ⟨p,xs,rfl,hp,hx⟩:=hh.ofTup;exact ⟨p,xs,rfl,.inr (SqT.of (aH _ _ hp)),fun l hl=>k _ _ (b8 hl) (kN hA hl hx)⟩
 ·cases e
theorem lM {p:Pos} (hm:X.mg "tuple"=none) (ha:PAD X E (a::es) gs) (hg:Gl X "tuple":=by rfl) (he:starEach (a::es) X.env=(false,eval a X.env)::starEach es X.env:=by rfl) (hpl:(backTo pos (starEach es X.env)).any (·.1)=false:=by rfl) :
 PD X E (.Call (.Name "tuple" p) (a::es) [] pos) (gF j8 gs):=gr Ap ha fun h=>mT sf hg hm vh h (by decide) (by decide) he hpl
theorem zR {p:Pos} (hm:X.mg "list"=none) (ha:PAD X E (a::es) gs) (hg:Gl X "list":=by rfl) (he:starEach (a::es) X.env=(false,eval a X.env)::starEach es X.env:=by rfl) (hpl:(backTo pos (starEach es X.env)).any (·.1)=false:=by rfl) :
 PD X E (.Call (.Name "list" p) (a::es) [] pos) (gF vJ gs):=gr B5 ha fun h=>mT vb hg hm pf h (by decide) (by decide) he hpl
def k9 (T:String) (d:PyData):Option PyData:=if aN d then some (.bool (uI d T)) else none
theorem iZ {T:Str} {T':String} {p p':Pos} (hm:X.mg "isinstance"=none) (hmT:X.mg T=none) (hb:bootBuiltins T=some (.type T')) (hT:T'∈["bool", "int", "list", "tuple"]) (ha:PD X E a ga)
  (hg:Gl X "isinstance":=by rfl) (hgT:Gl X T:=by rfl) (hn:T≠"__name__":=by decide) (hdT:(T==("__debug__":Str))=false:=by decide) (hs:starEach [a,.Name T p'] X.env=(false,eval a X.env)::starEach [.Name T p'] X.env:=by rfl)
  (hs2:starEach [.Name T p'] X.env=(false,eval (.Name T p') X.env)::starEach [] X.env:=by rfl) (hpl:(backTo pos (starEach [.Name T p'] X.env)).any (·.1)=false:=by rfl) :
  PD X E (.Call (.Name "isinstance" p) [a,.Name T p'] [] pos) (g1 (k9 T') ga):=by
 refine (gp vF hg hm zY (eO ha (eO (DY (v:=.ty T') hgT hmT hb rfl hn hdT) ip hs2) hs) (by decide) (by decide) hs hpl).imp fun σ H Q rz3=>?_
 obtain ⟨A,δ,R,o⟩:=rz3;refine g1.read (tt:=fun Q x H1=>∃ d v T,[x,V.ty T']=[v,.ty T]/\IsD X.K H1 d v/\T∈["bool", "int", "list", "tuple"]/\Q (.bl (uI d T)) H1) R o fun d1 d x H' e _ _ h k=>?_
 unfold k9 at e;split at e
 ·rename_i z;cases e;exact ⟨d1,x,T',rfl,(h.same aH).isd z,hT,k _ H' (az.refl _) is_bool⟩
 ·cases e
end
def AA (K:PySem.W.Frag) (J:It) (ds:List PyData) (G:Hp):Prop:=∀ (H1:Hp) (B:List Addr),az G H1->Ls H1 B->(∀ b∈B,G b=none) ->
 (∀ i,i<ds.length->J.go i H1)/\J.stop ds.length H1/\∀ i x H2,i<ds.length->J.yld i H1 x H2->az H1 H2/\∃ d,ds[i]?=some d/\Is K (del H2 B) d x
def outI (K:PySem.W.Frag) (E:XK) (A:List Addr) (H:Hp) (r:Rs (List PyData)) (R:It->Hp->Prop):Prop:=match r with
 | .ok ds=>∀ J H',az H H'->AA K J ds (del H' A)->R J H'
 | .rz C=>∀ H',az H H'->E (.ref C) none H'
 | .no=>False
def iD (K:PySem.W.Frag) (E:XK) (g:Ds->Rs (List PyData)):TI:=fun σ H R=>∃ A δ,dJ K H A δ σ/\outI K E A H (g δ) R
def PID (X:Cx) (E:XK) (tg iter:Expr) (g:Ds->Rs (List PyData)):Prop:=PI X tg iter (iD X.K E g)
theorem PI.imp {X:Cx} {tg it:Expr} {t t':TI} (h:PI X tg it t) (k:∀ σ H R,t' σ H R->t σ H R):PI X tg it t':=fun pins s σ H R I q=>h pins s σ H R I (k σ H R q)
theorem PI.or {X:Cx} {tg it:Expr} {t t':TI} (h:PI X tg it t) (h':PI X tg it t'):PI X tg it (fun σ H R=>t σ H R\/t' σ H R):=fun pins s σ H R I q=>q.elim (h pins s σ H R I) (h' pins s σ H R I)
section
variable {X:Cx} {E:XK} {tg a:Expr} {ga:Ds->Rs PyData} {pos:Pos}
def yJ:PyData->Rs (List PyData)
 | .list ds=>.ok ds
 | .tuple ds=>.ok ds
 | _=>.no
theorem mn {G H1:Hp} {B:List Addr} (s:az G H1) (hB:∀ b∈B,G b=none):az G (del H1 B):=fun b o e=>by rw [aW (fun z=>by rw [hB b z] at e;cases e)];exact s b o e
theorem zM {K:PySem.W.Frag} {G:Hp} {p:Addr} {xs:List V} {ds:List PyData} (hp:G p=some (.lst xs)) (h:Iss K G ds xs):AA K (Itl K p) ds G:=fun H1 B s _ hB=>by have hl:=h.length;have hS:SqL K H1 p xs:=SqL.of (s _ _ hp);refine ⟨fun i hi=>⟨xs,xs[i]'(by omega),hS,List.getElem?_eq_getElem _⟩,⟨xs,hS,by omega⟩,fun i x H2 hi y=>?_⟩;obtain ⟨rfl,y⟩:=y;obtain ⟨d,e,hd⟩:=h.get (y xs hS);exact ⟨az.refl _,d,e,hd.same (mn s hB)⟩
theorem CA {K:PySem.W.Frag} {G:Hp} {p:Addr} {xs:List V} {ds:List PyData} (hp:G p=some (.tup xs)) (h:Iss K G ds xs):AA K (Itt K p) ds G:=fun H1 B s _ hB=>by have hl:=h.length;have hS:SqT K H1 p xs:=SqT.of (s _ _ hp);refine ⟨fun i hi=>⟨xs,xs[i]'(by omega),hS,List.getElem?_eq_getElem _⟩,⟨xs,hS,by omega⟩,fun i x H2 hi y=>?_⟩;obtain ⟨rfl,y⟩:=y;obtain ⟨d,e,hd⟩:=h.get (y xs hS);exact ⟨az.refl _,d,e,hd.same (mn s hB)⟩
def cu (g:Ds->Rs PyData):Ds->Rs (List PyData):=fun δ=>(g δ).bind yJ
theorem dz (h:PD X E a ga):PID X E tg a (cu ga):=(PI.or (EI h) (GP h)).imp fun σ H R pz3=>by
 obtain ⟨A,δ,Rp,o⟩:=pz3;unfold cu at o;cases q:ga δ with
 | no=>rw [q] at o;exact o.elim
 | rz C=>rw [q] at o;exact .inl (eD.run Rp (fun d e=>by rw [q] at e;cases e) (fun C' e H' s=>by rw [q] at e;cases e;exact o H' s) (fun e=>by rw [q] at e;cases e))
 | ok d =>
  rw [q] at o;cases d with
  | list ds =>refine .inl (eD.run Rp (fun d e v H1 s1 R1 h1=>?_) (fun C' e=>by rw [q] at e;cases e) (fun e=>by rw [q] at e;cases e));rw [q] at e;cases e;obtain ⟨p,xs,rfl,hp,hx⟩:=h1.ofLst;exact ⟨p,rfl,⟨xs,SqL.of (aH _ _ hp)⟩,o _ H1 s1 (zM hp hx)⟩
  | tuple ds =>refine .inr (eD.run Rp (fun d e v H1 s1 R1 h1=>?_) (fun C' e=>by rw [q] at e;cases e) (fun e=>by rw [q] at e;cases e));rw [q] at e;cases e;obtain ⟨p,xs,rfl,hp,hx⟩:=h1.ofTup;exact ⟨p,rfl,⟨xs,SqT.of (aH _ _ hp)⟩,o _ H1 s1 (CA hp hx)⟩
  | _=>exact o.elim
def bX (lo:Int) (n:Nat):List PyData:=(List.range n).map fun (i:Nat)=>PyData.int (lo+(i:Int))
theorem dq (lo:Int) (n:Nat):(bX lo n).length=n:=by simp [bX]
theorem yC {K:PySem.W.Frag} {G:Hp} {lo:Int} {n:Nat}:AA K (Itr lo n) (bX lo n) G:=fun H1 B s _ hB=>by refine ⟨fun i hi=>by rw [dq] at hi;exact hi,by rw [dq];exact Nat.le_refl _,fun i x H2 hi y=>?_⟩;obtain ⟨rfl,rfl⟩:=y;rw [dq] at hi;exact ⟨az.refl _,_,by simp [bX,hi],cq⟩
def DE:List PyData->Rs (List PyData)
 | [.int j]=>if -(2 ^ 62)<=j/\j<2 ^ 62 then .ok (bX 0 j.toNat) else .no
 | _=>.no
def HA:List PyData->Rs (List PyData)
 | [.int i,.int j]=>if -(2 ^ 62)<=i/\i<2 ^ 62/\-(2 ^ 62)<=j/\j<2 ^ 62 then .ok (bX i (j-i).toNat) else .no
 | _=>.no
def fG (g:Ds->Rs (List PyData)):Ds->Rs (List PyData):=fun δ=>(g δ).bind DE
def HL (g:Ds->Rs (List PyData)):Ds->Rs (List PyData):=fun δ=>(g δ).bind HA
theorem yz {gs:Ds->Rs (List PyData)} {f:List PyData->Rs (List PyData)} {σ:St} {H:Hp} {A:List Addr} {δ:Ds} {R:It->Hp->Prop} {K:PySem.W.Frag} {t:List V->Hp->Prop} (Rp:dJ K H A δ σ) (o:outI K E A H ((gs δ).bind f) R)
  (k:∀ ds vs H1,gs δ=.ok ds->az H H1->dJ K H1 A δ σ->Iss K (del H1 A) ds vs->outI K E A H1 (f ds) R->t vs H1):aD K E gs σ H t:=by
 refine aD.run Rp (fun d e v H1 s1 R1 h1=>?_) (fun C e H' s'=>?_) (fun e=>?_)
 ·rw [e] at o;refine k d v H1 e s1 R1 h1 ?_;have o:outI K E A H (f d) R:=o;cases q:f d with
  | ok ds=>rw [q] at o;exact fun J H' s j=>o J H' (s1.trans s) j
  | rz C=>rw [q] at o;exact fun H' s=>o H' (s1.trans s)
  | no=>rw [q] at o;exact o
 ·rw [e] at o;exact o H' s'
 ·rw [e] at o;exact o
theorem eY {gs:Ds->Rs (List PyData)} {p:Pos} (hm:X.mg "range"=none) (ha:PAD X E [a] gs) (hg:Gl X "range":=by rfl) (hs:starEach [a] X.env=[(false,eval a X.env)]:=by rfl) :
  PID X E tg (.Call (.Name "range" p) [a] [] pos) (fG gs):=(AK hg hm ha.1 hs).imp fun σ H R ⟨A,δ,Rp,o⟩=>yz Rp o fun ds vs H1 e s1 R1 h1 o=>by
 unfold DE at o;split at o
 ·split at o
  ·rename_i z;obtain ⟨v,rfl,h⟩:=kR h1;rw [h.ofInt];exact ⟨_,rfl,z.1,z.2,o _ H1 (az.refl _) yC⟩
  ·exact o.elim
 ·exact o.elim
def TgD (K:PySem.W.Frag) (n0 n:Nat) (tgt:PyData->Option Ds) (g:TG):Prop:=∀ (d:PyData) (v:V) (σ σ':St) (H:Hp) (A:List Addr) (Q:St->Hp->Prop) (own:Ds),σ.length=n0->σ'.length=n->Ls H A->Is K (del H A) d v->tgt d=some own ->
 own.length=n/\((∀ vs:St,vs.length=n->(∀ (i:Nat) e,own[i]?=some (some e)->∃ u,vs[i]?=some (some u)/\Is K (del H A) e u)->Q (σ++vs) H)->g v (σ++σ') H Q)
def aP:PyData->Option Ds:=fun d=>some [some d]
theorem cM {K:PySem.W.Frag} {n0:Nat}:TgD K n0 1 aP (kg n0):=fun d v σ σ' H A Q own h1 h2 hA hd e=>by
 cases e;refine ⟨rfl,fun k=>?_⟩;unfold kg;subst h1;rw [set_own σ none v σ' h2];refine k _ rfl fun i e z=>?_
 match i,z with
 | 0,z=>cases z;exact ⟨v,rfl,hd⟩
def jX:PyData->Option Ds
 | .tuple [x,y]=>some [some x,some y]
 | _=>none
theorem vS {K:PySem.W.Frag} {n0:Nat}:TgD K n0 2 jX (L2.Hd K 2 (L2.zg (kg n0) (L2.zg (kg (n0+1)) L2.FO))):=fun d v σ σ' H A Q own h1 h2 hA hd e=>by
 unfold jX at e;split at e
 ·rename_i x y;cases e;refine ⟨rfl,fun k=>?_⟩;obtain ⟨p,xs,rfl,hp,hx⟩:=hd.ofTup;obtain ⟨u,w,rfl,hu,hw⟩:=DP hx;subst h1;refine ⟨p,_,rfl,SqT.of (aH _ _ hp),rfl,u,[w],rfl,w,[],rfl,rfl,?_⟩
  match σ',h2 with
  | [s1,s2],_ =>
   have:((σ++[s1,s2]).set σ.length (some u)).set (σ.length+1) (some w)=σ++[some u,some w]:=by rw [List.set_append_right _ _ (Nat.le_refl _),List.set_append_right _ _ (by omega)];simp
   rw [this];refine k _ rfl fun i e z=>?_
   match i,z with
   | 0,z=>cases z;exact ⟨u,rfl,hu⟩
   | 1,z=>cases z;exact ⟨w,rfl,hw⟩
 ·cases e
def fc (cond:Ds->Rs Bool) (elt:Ds->Rs PyData) (tgt:PyData->Option Ds) (δ:Ds):List PyData->Rs (List PyData)
 | []=>.ok []
 | d::r=>match tgt d with
  | none=>.no
  | some own=>(cond (δ++own)).calm.bind fun b=>if b=true then (elt (δ++own)).calm.bind fun x=>(fc cond elt tgt δ r).bind fun xs=>.ok (x::xs) else fc cond elt tgt δ r
def bF (n0:Nat) (src:Ds->Rs (List PyData)) (cond:Ds->Rs Bool) (elt:Ds->Rs PyData) (tgt:PyData->Option Ds):Ds->Rs (List PyData):=fun δ=>if δ.length=n0 then (src δ).bind fun ds=>if ds.length<=1000000 then fc cond elt tgt δ ds else .no else .no
def bu:Ds->Rs Bool:=fun _=>.ok true
def Ee (K:PySem.W.Frag) (E:XK) (A:List Addr) (H:Hp) (r:Rs (List PyData)) (Q:VK):Prop:=match r with
 | .ok ds=>∀ a xs H',H a=none->az H H'->H' a=some (.lst xs)->Iss K (del H' (a::A)) ds xs->Q (.ref a) H'
 | .rz C=>∀ H',az H H'->E (.ref C) none H'
 | .no=>False
def lD (K:PySem.W.Frag) (E:XK) (g:Ds->Rs (List PyData)):TE:=fun σ H Q=>∃ A δ,dJ K H A δ σ/\Ee K E A H (g δ) Q
def PLD (X:Cx) (E:XK) (e:Expr) (g:Ds->Rs (List PyData)):Prop:=PE X e (lD X.K E g)
def gL (g:Ds->Rs (List PyData)):Ds->Rs PyData:=fun δ=>(g δ).bind fun ds=>.ok (.list ds)
theorem nh {H:Hp} {a:Addr} {A:List Addr}:az (del H (a::A)) (del H A):=fun b o e=>by obtain ⟨z,e⟩:=bE e;rw [aW (fun q=>z (List.mem_cons_of_mem _ q))];exact e
theorem fV {e:Expr} {g:Ds->Rs (List PyData)} (h:PLD X E e g):PD X E e (gL g):=PE.imp h fun σ H Q ⟨A,δ,R,o⟩=>⟨A,δ,R,by
 unfold gL at o;cases q:g δ with
 | no=>rw [q] at o;exact o
 | rz C=>rw [q] at o;exact o
 | ok ds =>rw [q] at o;intro a xs H' hn s hl hi;exact o _ H' s (kx (by rw [aW (R.ls.new hn)];exact hl) (hi.same nh))⟩
theorem pw {es:List Expr} {gs:Ds->Rs (List PyData)} (h:PAD X E es gs) (hl:es.length<=1000:=by decide):PLD X E (.List es pos) gs:=(xv h.1).imp fun σ H Q pz3=>by
 obtain ⟨A,δ,R,o⟩:=pz3;refine aD.run R (fun ds e vs H1 s1 R1 h1=>?_) (fun C e H' s'=>by rw [e] at o;exact o H' s') (fun e=>by rw [e] at o;exact o);rw [e] at o;have n:=h.2 δ ds e;have m:=h1.length;refine ⟨by rw [sizeLine_eq];omega,fun p hp=>o p vs _ (s1.free hp) (s1.trans (b8 hp)) aR (h1.same ?_)⟩;refine fun b o e=>?_
 obtain ⟨z,e⟩:=bE e;have:b≠p:=aT e hp;rw [aW (by simp [this,z]),aI this];exact e
theorem C3 {K:PySem.W.Frag} {own:List Str} {gi:Ds->Rs (List PyData)} {g:TG} {tt:TT} {cond:Ds->Rs Bool} {ge:Ds->Rs PyData} {tgt:PyData->Option Ds} {n0:Nat} (hT:TgD K n0 own.length tgt g) (htt:∀ σ H Q,cD K E0 cond σ H Q->tt σ H Q) :
  ∀ σ H Q,lD K E (bF n0 gi cond ge tgt) σ H Q->tLC own.length (iD K E gi) g tt (eD K E0 ge) σ H Q:=by
 intro σ H Q ⟨A,δ,R,o⟩;unfold bF at o;by_cases hn0:δ.length=n0
 case neg=>rw [if_neg hn0] at o;exact o.elim
 rw [if_pos hn0] at o;have hσ:σ.length=n0:=by rw [<-R.len];exact hn0
 refine ⟨A,δ,R,?_⟩;cases q:gi δ with
 | no=>rw [q] at o;exact o
 | rz C=>rw [q] at o;exact o
 | ok ds =>
  rw [q] at o;have o:Ee K E A H (if ds.length<=1000000 then fc cond ge tgt δ ds else .no) Q:=o;by_cases hz:ds.length<=1000000
  case neg=>rw [if_neg hz] at o;exact o.elim
  rw [if_pos hz] at o;intro J H1 s1 hJ D hD;have R1:=R.same s1;have nD:D∉A:=R1.ls.new hD;cases qo:fc cond ge tgt δ ds with
  | rz C =>
   exfalso;have:∀ l,fc cond ge tgt δ l≠.rz C:=by
    intro l
    induction l with
    | nil=>intro z;cases z
    | cons d r ih =>
     intro z;unfold fc at z;split at z
     ·cases z
     ·rename_i own' _;cases c1:cond (δ++own') with
      | ok b =>
       simp only [c1,Rs.dM,Rs.aj] at z;split at z
       ·cases c2:ge (δ++own') with
        | ok x =>
         simp only [c2,Rs.dM,Rs.aj] at z;cases c3:fc cond ge tgt δ r with
         | ok l=>simp only [c3,Rs.aj] at z;cases z
         | rz C'=>simp only [c3,Rs.eN] at z;cases z;exact ih c3
         | no=>simp only [c3,Rs.bT] at z;cases z
        | rz C'=>simp only [c2,Rs.calm,Rs.bT] at z;cases z
        | no=>simp only [c2,Rs.calm,Rs.bT] at z;cases z
       ·exact ih z
      | rz C'=>simp only [c1,Rs.calm,Rs.bT] at z;cases z
      | no=>simp only [c1,Rs.calm,Rs.bT] at z;cases z
   exact this ds qo
  | no=>rw [qo] at o;exact o.elim
  | ok out =>
   rw [qo] at o;have base:az (del H1 A) (del (upd H1 D (.lst [])) (D::A)):=fun b o e=>by obtain ⟨z,e⟩:=bE e;have nb:b≠D:=aT e hD;rw [aW (by simp [nb,z]),aI nb];exact e
   refine ⟨fun i m ys H'=>m=ds.length-i/\i<=ds.length/\az H1 H'/\H' D=some (.lst ys)/\ys.length<=i/\∃ dn rest,fc cond ge tgt δ (ds.drop i)=.ok rest/\out=dn++rest/\Iss K (del H' (D::A)) dn ys,
    ⟨ds.length,by simp,Nat.zero_le _,b8 hD,aR,Nat.le_refl _,[],out,qo,rfl,dk⟩,?_⟩
   rintro i m ys H' ⟨rfl,hi,sm,hl,hy,dn,rest,c1,c2,c3⟩
   refine ⟨hl,?_⟩;have sG:az (del H1 A) H':=aH.trans sm;have hBn:∀ b∈D::A,(del H1 A) b=none:=fun b hb=>by
    rcases List.mem_cons.mp hb with z | z
    ·rw [z,aW nD];exact hD
    ·exact ie z
   obtain ⟨jg,js,jy⟩:=hJ H' (D::A) sG (fun b hb=>by
    rcases List.mem_cons.mp hb with z | z
    ·exact ⟨_,by rw [z];exact hl,rfl⟩
    ·exact (R1.ls.same sm) b z) hBn
   by_cases hlt:i<ds.length
   ·refine .inr ⟨jg i hlt,fun x H2 σ' hσ' y=>?_⟩;obtain ⟨s2,d,ed,hd⟩:=jy i x H2 hlt y;have edr:ds.drop i=d::ds.drop (i+1):=by
     rw [List.drop_eq_getElem_cons hlt];have:ds[i]=d:=by have:=List.getElem?_eq_getElem hlt;rw [this] at ed;exact Option.some.inj ed
     rw [this]
    rw [edr] at c1;unfold fc at c1;cases et:tgt d with
    | none=>rw [et] at c1;cases c1
    | some ow =>
     rw [et] at c1;have l2:H2 D=some (.lst ys):=s2 _ _ hl;have LsD:Ls H2 (D::A):=fun b hb=>by
      rcases List.mem_cons.mp hb with z | z
      ·exact ⟨_,by rw [z];exact l2,rfl⟩
      ·exact (R1.ls.same (sm.trans s2)) b z
     obtain ⟨hol,hgo⟩:=hT d x σ σ' H2 (D::A) (fun σ2 H2=>tt σ2 H2 fun b H3 =>
      if b=true then eD K E0 ge σ2 H3 fun v H4=>H4 D=some (.lst ys)/\ys.length<sizeLine/\(∃ σ'',σ2=σ++σ''/\σ''.length=own.length)/\∃ m',m' < ds.length-i/\_
      else (∃ σ'',σ2=σ++σ''/\σ''.length=own.length)/\∃ m',m' < ds.length-i/\_) ow hσ hσ' LsD hd et
     refine hgo fun vs hvs hown=>?_
     have sAll:az (del H1 A) (del H2 (D::A)):=mn (sG.trans s2) hBn;have RE:dJ K H2 (D::A) (δ++ow) (σ++vs):=by
      refine ⟨LsD,by rw [List.length_append,List.length_append,R.len,hvs,hol],fun k e ek=>?_⟩;by_cases hk:k<δ.length
      ·rw [List.getElem?_append_left hk] at ek;obtain ⟨u,e1,hu⟩:=R1.get k e ek;exact ⟨u,by rw [List.getElem?_append_left (by rw [<-R.len];exact hk)];exact e1,hu.same sAll⟩
      ·rw [List.getElem?_append_right (by omega)] at ek;obtain ⟨u,e1,hu⟩:=hown _ e ek;exact ⟨u,by rw [List.getElem?_append_right (by rw [<-R.len];omega),<-R.len];exact e1,hu⟩
     have bad:∀ r:Rs Bool,r=.rz 0->r.calm=.no:=fun r e=>by rw [e];rfl
     refine htt _ _ _ (cD.run RE (fun b eb H3 s3 R3=>?_) (fun C eb=>?_) (fun eb=>?_))
     ·simp only [eb,Rs.dM,Rs.aj] at c1;cases b with
      | true =>
       simp only [if_true] at c1;refine eD.run R3 (fun xd ex v H4 s4 R4 hv=>?_) (fun C ex=>?_) (fun ex=>?_)
       ·simp only [ex,Rs.dM,Rs.aj] at c1;cases cr:fc cond ge tgt δ (ds.drop (i+1)) with
        | ok rs =>
         simp only [cr,Rs.aj] at c1;cases c1;have l4:H4 D=some (.lst ys):=s4 _ _ (s3 _ _ l2);have dU:del (upd H4 D (.lst (ys++[v]))) (D::A)=del H4 (D::A):=kK (List.mem_cons_self);refine ⟨l4,by rw [sizeLine_eq];omega,⟨vs,rfl,hvs⟩,ds.length-(i+1),by omega,rfl,hlt,?_,aR,by simp;omega,dn++[xd],rs,cr,by rw [c2];simp,?_⟩
         ·exact az.put (((sm.trans s2).trans s3).trans s4) hD
         ·rw [dU];exact (c3.same (az.del (s2.trans (s3.trans s4)))).append (jt hv)
        | rz C=>simp only [cr,Rs.eN] at c1;cases c1
        | no=>simp only [cr,Rs.bT] at c1;cases c1
       ·simp only [ex,Rs.calm,Rs.bT] at c1;cases c1
       ·simp only [ex,Rs.calm,Rs.bT] at c1;cases c1
      | false =>simp only [Bool.false_eq_true,if_false] at c1;exact ⟨⟨vs,rfl,hvs⟩,ds.length-(i+1),by omega,rfl,hlt,(sm.trans s2).trans s3,s3 _ _ l2,by omega,dn,rest,c1,c2,c3.same (az.del (s2.trans s3))⟩
     ·simp only [eb,Rs.calm,Rs.bT] at c1;cases c1
     ·simp only [eb,Rs.calm,Rs.bT] at c1;cases c1
   ·have e:i=ds.length:=by omega
    subst e;rw [List.drop_length] at c1;cases c1;rw [List.append_nil] at c2;subst c2;exact .inl ⟨js,o D ys H' (s1.free hD) (s1.trans sm) hl c3⟩
theorem dA {M:List Str} {elt iter:Expr} {ifs:List Expr} {scope:Scope} {own:List Str} {gi:Ds->Rs (List PyData)} {g:TG} {tt:TT} {cond:Ds->Rs Bool} {ge:Ds->Rs PyData} {tgt:PyData->Option Ds} {n0:Nat} (hc:X.calm=true) (hi:PID X E tg iter gi)
  (hT:TgD X.K n0 own.length tgt g) (hg:∀ C s2 H2 fp,PG (blk X M scope own C s2 H2 fp) tg g) (ht:∀ C s2 H2 fp,PTs (blk X M scope own C s2 H2 fp) ifs tt) (htt:∀ σ H Q,cD X.K E0 cond σ H Q->tt σ H Q) (he:∀ C s2 H2 fp,PD (blk X M scope own C s2 H2 fp) E0 elt ge)
  (hB:oy X.N M X.env.scope scope own=true:=by rfl) (hs:∀ x,foldedSetIterable iter X.env x=pure x:=by intro _;rfl):PLD X E (.ListComp elt [⟨tg,iter,ifs,0⟩] scope pos) (bF n0 gi cond ge tgt) :=
 (Bz (own:=own) (te:=eD X.K E0 ge) hc hi hg ht (fun C s2 H2 fp=>he C s2 H2 fp) hB hs).imp (C3 hT htt)
def PLS (X:Cx) (E:XK) (i:Nat) (st:Stmt) (gl:Ds->Rs (List PyData)):Prop:=PS X st (Bd (lD X.K E gl) (kg i))
theorem rn {M:List Str} {elt iter:Expr} {ifs:List Expr} {scope:Scope} {own:List Str} {gi:Ds->Rs (List PyData)} {g:TG} {tt:TT} {cond:Ds->Rs Bool} {ge:Ds->Rs PyData} {tgt:PyData->Option Ds} {n0:Nat} {i:Nat} {x:Str} {pos' spos:Pos} (hc:X.calm=true) (hN:X.N.Nodup) (hi:PID X E tg iter gi)
  (hT:TgD X.K n0 own.length tgt g) (hg:∀ C s2 H2 fp,PG (blk X M scope own C s2 H2 fp) tg g) (ht:∀ C s2 H2 fp,PTs (blk X M scope own C s2 H2 fp) ifs tt) (htt:∀ σ H Q,cD X.K E0 cond σ H Q->tt σ H Q) (he:∀ C s2 H2 fp,PD (blk X M scope own C s2 H2 fp) E0 elt ge)
  (hxi:X.N[i]?=some x:=by rfl) (hx:Loc X.env.scope x:=by first | exact Or.inl rfl | exact Or.inr rfl) (hsw:swapsWith (.ListComp elt [⟨tg,iter,ifs,0⟩] scope pos) (some (.Name x pos')) spos.line X.env=pure true:=by rfl)
  (hB:oy X.N M X.env.scope scope own=true:=by rfl) (hs:∀ x,foldedSetIterable iter X.env x=pure x:=by intro _;rfl) (hf:X.fn x=true\/X.env.scope.names.lookup x=some .local:=by first | exact .inl rfl | exact .inr rfl | assumption) :
  PLS X E i (.Assign [.Name x pos'] (.ListComp elt [⟨tg,iter,ifs,0⟩] scope pos) spos) (bF n0 gi cond ge tgt) :=
 PS.imp (qY (own:=own) (te:=eD X.K E0 ge) hc hN hxi hx hsw hi hg ht (fun C s2 H2 fp=>he C s2 H2 fp) hB hs hf) fun D σ H h=>C3 hT htt σ H _ h
end
inductive Sr where
 | nx (δ:Ds)
 | rt (d:PyData)
 | rz (C:Addr)
 | bk (δ:Ds)
 | ct (δ:Ds)
 | no
def ic (K:PySem.W.Frag) (G:Hp):PyData->HO->Prop
 | .list ds,.lst xs=>Iss K G ds xs
 | .dict kvs,.dK l=>∃ m:List (Int×Int),kvs=m.map (fun p=>(PyData.int p.1,PyData.int p.2))/\l=m.map fun p=>(.inl p.1,V.int p.2)
 | _,_=>False
theorem ic.same {K:PySem.W.Frag} {G G':Hp} {d:PyData} {o:HO} (h:ic K G d o) (s:az G G'):ic K G' d o:=by
 unfold ic at h ⊢;split at h
 ·exact Iss.same s h
 ·exact h
 ·exact h.elim
theorem ic.is {K:PySem.W.Frag} {G:Hp} {d:PyData} {o:HO} {a:Addr} (h:ic K G d o) (ha:G a=some o):Is K G d (.ref a):=by
 unfold ic at h;split at h
 ·exact kx ha h
 ·obtain ⟨m,rfl,rfl⟩:=h;unfold Is;exact .inl (.inr ⟨a,m,rfl,rfl,ha⟩)
 ·exact h.elim
theorem ic.lst {K:PySem.W.Frag} {G:Hp} {ds:List PyData} {o:HO} (h:ic K G (.list ds) o):∃ xs,o=.lst xs/\Iss K G ds xs:=by
 unfold ic at h;split at h
 ·rename_i e;cases e;exact ⟨_,rfl,h⟩
 ·rename_i e;cases e
 ·exact h.elim
structure cp (K:PySem.W.Frag) (H0:Hp) (A0:List Addr) (H:Hp) (A:List Addr) (O:List Nat) (δ:Ds) (σ:St):Prop where
 same:az H0 H
 ls0:Ls H0 A0
 new:∀ a∈A,H0 a=none
 ls:Ls H A
 len:δ.length=σ.length
 pl:∀ (i:Nat) d,i∉O->δ[i]?=some (some d)->∃ v,σ[i]?=some (some v)/\Is K (del H (A++A0)) d v
 own:∀ (i:Nat) d,i∈O->δ[i]?=some (some d)->∃ a o d',σ[i]?=some (some (.ref a))/\a∈A/\H a=some o/\d=d'/\ic K (del H (A++A0)) d' o
 inj:∀ (i j:Nat) d e a,i∈O->j∈O->δ[i]?=some (some d)->δ[j]?=some (some e)->σ[i]?=some (some (.ref a))->σ[j]?=some (some (.ref a))->i=j
def mask (O:List Nat) (δ:Ds):Ds:=if O=[] then δ else δ.mapIdx fun i d=>if i∈O then none else d
theorem wz (δ:Ds):mask [] δ=δ:=by simp [mask]
theorem Cy {O:List Nat} {δ:Ds} {i:Nat} {d:PyData} (h:(mask O δ)[i]?=some (some d)):i∉O/\δ[i]?=some (some d):=by
 unfold mask at h;split at h
 ·rename_i z;subst z;exact ⟨by simp,h⟩
 ·rw [List.getElem?_mapIdx] at h;cases q:δ[i]? with
  | none=>rw [q] at h;cases h
  | some x =>
   rw [q] at h;simp only [Option.map_some,Option.some.injEq] at h;by_cases z:i∈O
   ·rw [if_pos z] at h;cases h
   ·rw [if_neg z] at h;exact ⟨z,by rw [h]⟩
theorem wO {O:List Nat} {δ:Ds}:(mask O δ).length=δ.length:=by unfold mask;split <;> simp
theorem wx {H:Hp} {A B:List Addr}:az (del H (A++B)) (del H B):=fun b o e=>by obtain ⟨z,e⟩:=bE e;rw [aW (fun q=>z (List.mem_append_right _ q))];exact e
section
variable {K:PySem.W.Frag} {E:XK} {H0 H H1:Hp} {A0 A:List Addr} {O:List Nat} {δ:Ds} {σ:St}
theorem cp.lsA (R:cp K H0 A0 H A O δ σ):Ls H (A++A0):=fun a h=>(List.mem_append.mp h).elim (R.ls a) fun z=>(R.ls0.same R.same) a z
theorem cp.step (R:cp K H0 A0 H A O δ σ) (s:az H H1):cp K H0 A0 H1 A O δ σ where
 same:=R.same.trans s
 ls0:=R.ls0
 new:=R.new
 ls:=R.ls.same s
 len:=R.len
 pl:=fun i d h e=>by obtain ⟨v,e1,h1⟩:=R.pl i d h e;exact ⟨v,e1,h1.same s.del⟩
 own:=fun i d h e=>by obtain ⟨a,xs,ds,e1,h1,h2,h3,h4⟩:=R.own i d h e;exact ⟨a,xs,ds,e1,h1,s _ _ h2,h3,h4.same s.del⟩
 inj:=R.inj
theorem cp.apart (R:cp K H0 A0 H A O δ σ) {a:Addr} (h:a∈A):a∉A0:=fun z=>by obtain ⟨xs,e,_⟩:=R.ls0 a z;rw [R.new a h] at e;cases e
theorem cp.ownL {i:Nat} {ds:List PyData} (R:cp K H0 A0 H A O δ σ) (h:i∈O) (e:δ[i]?=some (some (.list ds))):∃ a xs ds',σ[i]?=some (some (.ref a))/\a∈A/\H a=some (.lst xs)/\PyData.list ds=.list ds'/\Iss K (del H (A++A0)) ds' xs:=by obtain ⟨a,o,d',e1,h1,h2,h3,h4⟩:=R.own i _ h e;subst h3;obtain ⟨xs,rfl,h5⟩:=h4.lst;exact ⟨a,xs,ds,e1,h1,h2,rfl,h5⟩
theorem cp.full (R:cp K H0 A0 H A O δ σ):dJ K H A0 δ σ where
 ls:=R.ls0.same R.same
 len:=R.len
 get:=fun i d e=>by
  by_cases h:i∈O
  ·obtain ⟨a,xs,ds,e1,h1,h2,h3,h4⟩:=R.own i d h e;subst h3;exact ⟨_,e1,(h4.same wx).is (by rw [aW (R.apart h1)];exact h2)⟩
  ·obtain ⟨v,e1,h1⟩:=R.pl i d h e;exact ⟨v,e1,h1.same wx⟩
theorem cp.part (R:cp K H0 A0 H A O δ σ):dJ K H (A++A0) (mask O δ) σ where
 ls:=R.lsA
 len:=by rw [wO];exact R.len
 get:=fun i d e=>by obtain ⟨h,e⟩:=Cy e;exact R.pl i d h e
theorem get_set {α:Type} {l:List α} {i j:Nat} {x y:α} (h:(l.set i x)[j]?=some y):(i=j/\y=x)\/(i≠j/\l[j]?=some y):=by
 by_cases z:i=j
 ·subst z;rw [List.getElem?_set_self'] at h;cases q:l[i]? with
  | none=>rw [q] at h;cases h
  | some w=>rw [q] at h;simp at h;exact .inl ⟨rfl,h.symm⟩
 ·rw [List.getElem?_set_ne z] at h;exact .inr ⟨z,h⟩
theorem kH {α:Type} {l:List α} {i j:Nat} {x y:α} (hn:i≠j) (h:l[j]?=some y):(l.set i x)[j]?=some y:=by rw [List.getElem?_set_ne hn];exact h
theorem cp.set {i:Nat} {d:PyData} {v:V} (R:cp K H0 A0 H A O δ σ) (hi:i∉O) (hl:i<δ.length) (h:Is K (del H (A++A0)) d v):cp K H0 A0 H A O (δ.set i (some d)) (σ.set i (some v)) where
 same:=R.same
 ls0:=R.ls0
 new:=R.new
 ls:=R.ls
 len:=by simp [R.len]
 pl:=fun j e hj q=>by
  rcases get_set q with ⟨z,q⟩ | ⟨z,q⟩
  ·cases q;subst z;exact ⟨v,by rw [List.getElem?_set_self (by rw [<-R.len];exact hl)],h⟩
  ·obtain ⟨u,e1,h1⟩:=R.pl j e hj q;exact ⟨u,kH z e1,h1⟩
 own:=fun j e hj q=>by
  rcases get_set q with ⟨z,q⟩ | ⟨z,q⟩
  ·subst z;exact absurd hj hi
  ·obtain ⟨a,xs,ds,e1,h1⟩:=R.own j e hj q;exact ⟨a,xs,ds,kH z e1,h1⟩
 inj:=fun j k d' e a hj hk q1 q2 p1 p2=>by
  have n1:i≠j:=fun z=>hi (z▸hj)
  have n2:i≠k:=fun z=>hi (z▸hk)
  rw [List.getElem?_set_ne n1] at q1 p1;rw [List.getElem?_set_ne n2] at q2 p2;exact R.inj j k d' e a hj hk q1 q2 p1 p2
theorem cp.setOwn {i:Nat} {ds:List PyData} {a:Addr} {xs:List V} (R:cp K H0 A0 H A O δ σ) (hi:i∈O) (hl:i<δ.length) (hn:H a=none) (s:az H H1) (ha:H1 a=some (.lst xs)) (h:Iss K (del H1 (a::(A++A0))) ds xs) :
  cp K H0 A0 H1 (a::A) O (δ.set i (some (.list ds))) (σ.set i (some (.ref a))) where
 same:=R.same.trans s
 ls0:=R.ls0
 new:=fun b hb=>by
  rcases List.mem_cons.mp hb with z | z
  ·rw [z];exact R.same.free hn
  ·exact R.new b z
 ls:=fun b hb=>by
  rcases List.mem_cons.mp hb with z | z
  ·exact ⟨_,by rw [z];exact ha,rfl⟩
  ·exact (R.ls.same s) b z
 len:=by simp [R.len]
 pl:=fun j e hj q=>by
  rcases get_set q with ⟨z,q⟩ | ⟨z,q⟩
  ·subst z;exact absurd hi hj
  ·obtain ⟨u,e1,h1⟩:=R.pl j e hj q;refine ⟨u,kH z e1,h1.same fun b o e=>?_⟩;obtain ⟨y,e⟩:=bE e;have nb:b≠a:=aT e hn;rw [aW (by simpa [nb] using y)];exact s _ _ e
 own:=fun j e hj q=>by
  have kk:∀ b o,del H (A++A0) b=some o->del H1 (a::A++A0) b=some o:=fun b o e=>by obtain ⟨y,e⟩:=bE e;have nb:b≠a:=aT e hn;rw [aW (by simpa [nb] using y)];exact s _ _ e
  rcases get_set q with ⟨z,q⟩ | ⟨z,q⟩
  ·cases q;subst z;exact ⟨a,_,_,by rw [List.getElem?_set_self (by rw [<-R.len];exact hl)],List.mem_cons_self,ha,rfl,h⟩
  ·obtain ⟨b,ys,es,e1,h1,h2,h3,h4⟩:=R.own j e hj q;exact ⟨b,ys,es,kH z e1,List.mem_cons_of_mem _ h1,s _ _ h2,h3,h4.same kk⟩
 inj:=fun j k d' e b hj hk q1 q2 p1 p2=>by
  have old:∀ k,k∈O->i≠k->∀ e,δ[k]?=some (some e)->σ[k]?=some (some (.ref a))->False:=fun k hk _ e q p=>by obtain ⟨b,ys,es,e1,h1,h2,_⟩:=R.own k e hk q;rw [p] at e1;cases e1;rw [hn] at h2;cases h2
  by_cases z1:i=j
  ·by_cases z2:i=k
   ·rw [<-z1,z2]
   ·subst z1;rw [List.getElem?_set_self (by rw [<-R.len];exact hl)] at p1;cases p1;rw [List.getElem?_set_ne z2] at q2 p2;exact (old k hk z2 e q2 p2).elim
  ·by_cases z2:i=k
   ·subst z2;rw [List.getElem?_set_self (by rw [<-R.len];exact hl)] at p2;cases p2;rw [List.getElem?_set_ne z1] at q1 p1;exact (old j hj z1 d' q1 p1).elim
   ·rw [List.getElem?_set_ne z1] at q1 p1;rw [List.getElem?_set_ne z2] at q2 p2;exact R.inj j k d' e b hj hk q1 q2 p1 p2
theorem cp.put {i:Nat} {ds:List PyData} {a:Addr} {ys:List V} {d0:PyData} (R:cp K H0 A0 H A O δ σ) (hi:i∈O) (hd:δ[i]?=some (some d0)) (hs:σ[i]?=some (some (.ref a))) (ha:a∈A) (h:Iss K (del H (A++A0)) ds ys) :
  cp K H0 A0 (upd H a (.lst ys)) A O (δ.set i (some (.list ds))) σ:=by
 have dU:del (upd H a (.lst ys)) (A++A0)=del H (A++A0):=kK (List.mem_append_left _ ha);have hl:i<δ.length:=(List.getElem?_eq_some_iff.mp hd).1;refine ⟨fun b o e=>?_,R.ls0,R.new,fun b hb=>?_,by simp [R.len],fun j e hj q=>?_,fun j e hj q=>?_,fun j k d' e b hj hk q1 q2 p1 p2=>?_⟩
 ·have nb:b≠a:=fun z=>by rw [z,R.new a ha] at e;cases e
  rw [aI nb];exact R.same b o e
 ·by_cases z:b=a
  ·exact ⟨_,by rw [z,aR],rfl⟩
  ·rw [aI z];exact R.ls b hb
 ·rcases get_set q with ⟨z,q⟩ | ⟨z,q⟩
  ·subst z;exact absurd hi hj
  ·rw [dU];exact R.pl j e hj q
 ·rcases get_set q with ⟨z,q⟩ | ⟨z,q⟩
  ·cases q;subst z;exact ⟨a,_,_,hs,ha,aR,rfl,by rw [dU];exact h⟩
  ·obtain ⟨b,zs,es,e1,h1,h2,h3,h4⟩:=R.own j e hj q;have nb:b≠a:=fun w=>z (R.inj i j _ _ a hi hj hd q hs (by rw [<-w];exact e1))
   exact ⟨b,zs,es,e1,h1,by rw [aI nb];exact h2,h3,by rw [dU];exact h4⟩
 ·rcases get_set q1 with ⟨z1,q1⟩ | ⟨z1,q1⟩ <;> rcases get_set q2 with ⟨z2,q2⟩ | ⟨z2,q2⟩
  ·rw [<-z1,z2]
  ·subst z1;exact R.inj i k d0 e b hi hk hd q2 p1 p2
  ·subst z2;exact R.inj j i d' d0 b hj hi q1 hd p1 p2
  ·exact R.inj j k d' e b hj hk q1 q2 p1 p2
def un (H0 G:Hp):Hp:=fun b=>match H0 b with | some o=>some o | none=>G b
theorem AS {H0 G:Hp}:az H0 (un H0 G):=fun b o e=>by unfold un;rw [e]
theorem Jp {H0 G:Hp} (h0:az H0 H) (hG:az G H):az G (un H0 G):=fun b o e=>by
 unfold un;cases q:H0 b with
 | none=>exact e
 | some o2=>have h2:=h0 b o2 q;rw [hG b o e] at h2;exact h2.symm
theorem Hx {H0 G:Hp} (h0:az H0 H) (hG:az G H):az (un H0 G) H:=fun b o e=>by
 unfold un at e;cases q:H0 b with
 | none=>rw [q] at e;exact hG b o e
 | some o2=>rw [q] at e;rw [<-Option.some.inj e];exact h0 b o2 q
theorem cp.more (R:cp K H0 A0 H A O δ σ):cp K (un H0 (del H (A++A0))) A0 H A O δ σ :=
 ⟨Hx R.same aH,R.ls0.same AS,fun a h=>by unfold un;rw [R.new a h];exact ie (List.mem_append_left _ h),R.ls,R.len,R.pl,R.own,R.inj⟩
theorem cp.less {H0':Hp} (R:cp K H0' A0 H A O δ σ) (s:az H0 H0') (l:Ls H0 A0):cp K H0 A0 H A O δ σ:=⟨s.trans R.same,l,fun a h=>s.free (R.new a h),R.ls,R.len,R.pl,R.own,R.inj⟩
end
def mU (K:PySem.W.Frag) (E:XK) (H0:Hp) (A0:List Addr) (O:List Nat) (r:Sr) (D:Ends):Prop:=match r with
 | .nx δ=>∀ A σ H,cp K H0 A0 H A O δ σ->D.nx σ H
 | .rt d=>∀ v H,az H0 H->Is K (del H A0) d v->D.rt v H
 | .rz C=>∀ H,az H0 H->E (.ref C) none H
 | .bk δ=>∀ A σ H,cp K H0 A0 H A O δ σ->D.bk σ H
 | .ct δ=>∀ A σ H,cp K H0 A0 H A O δ σ->D.ct σ H
 | .no=>False
def sD (K:PySem.W.Frag) (E:XK) (O:List Nat) (G:Ds->Sr):TS:=fun D σ H=>∃ H0 A0 A δ,cp K H0 A0 H A O δ σ/\mU K E H0 A0 O (G δ) D
def PSD (X:Cx) (E:XK) (O:List Nat) (s:Stmt) (G:Ds->Sr):Prop:=PS X s (sD X.K E O G)
def PBD (X:Cx) (E:XK) (O:List Nat) (ss:List Stmt) (G:Ds->Sr):Prop:=PSs X ss (sD X.K E O G)
def bt:Ds->Sr:=fun δ=>.nx δ
def aK (a b:Ds->Sr):Ds->Sr:=fun δ=>match a δ with
 | .nx δ'=>b δ'
 | r=>r
def ofR {α:Type} (r:Rs α) (k:α->Sr):Sr:=match r with
 | .ok a=>k a
 | .rz C=>.rz C
 | .no=>.no
@[simp] theorem aL {α:Type} (a:α) (k:α->Sr):ofR (.ok a) k=k a:=rfl
@[simp] theorem qu {α:Type} (C:Addr) (k:α->Sr):ofR (.rz C) k=.rz C:=rfl
@[simp] theorem qg {α:Type} (k:α->Sr):ofR (.no:Rs α) k=.no:=rfl
def sIf (c:Ds->Rs Bool) (a b:Ds->Sr):Ds->Sr:=fun δ=>ofR (c δ) fun t=>if t=true then a δ else b δ
def bS (g:Ds->Rs PyData):Ds->Sr:=fun δ=>ofR (g δ) .rt
def sS (g:Ds->Rs PyData):Ds->Sr:=fun δ=>ofR (g δ) fun _=>.nx δ
def bj (O:List Nat) (i:Nat) (g:Ds->Rs PyData):Ds->Sr:=fun δ=>if i<δ.length then ofR (g (mask O δ)) fun d=>.nx (δ.set i (some d)) else .no
def mE (i:Nat) (g:Ds->Rs PyData):Ds->Sr:=fun δ=>if i<δ.length then ofR (g δ) fun d=>if fE d then .nx (δ.set i (some d)) else .no else .no
def ia (O:List Nat) (i:Nat) (g:Ds->Rs (List PyData)):Ds->Sr:=fun δ=>if i<δ.length then ofR (g (mask O δ)) fun ds=>.nx (δ.set i (some (.list ds))) else .no
def lC (O:List Nat) (i:Nat) (g:Ds->Rs PyData):Ds->Sr:=fun δ=>match δ[i]? with
 | some (some (.list ds))=>ofR (g (mask O δ)) fun d=>if ds.length<1000000 then .nx (δ.set i (some (.list (ds++[d])))) else .no
 | _=>.no
section
variable {X:Cx} {E:XK} {O:List Nat} {st:Stmt} {ss:List Stmt} {G G':Ds->Sr} {e a b c:Expr} {ga gb:Ds->Rs PyData} {ca:Ds->Rs Bool} {pos:Pos}
theorem bR:PBD X E O [] bt:=vf.imp fun D σ H qz3=>(by obtain ⟨H0,A0,A,δ,R,o⟩:=qz3;exact o A σ H R)
theorem aw (h1:PSD X E O st G) (h2:PBD X E O ss G'):PBD X E O (st::ss) (aK G G'):=(dQ h1 h2).imp fun D σ H ⟨H0,A0,A,δ,R,o⟩=>⟨H0,A0,A,δ,R,by
 unfold aK at o;cases q:G δ with
 | nx δ'=>rw [q] at o;exact fun A' σ' H' R'=>⟨H0,A0,A',δ',R',o⟩
 | rt d=>rw [q] at o;exact o
 | rz C=>rw [q] at o;exact o
 | bk d=>rw [q] at o;exact o
 | ct d=>rw [q] at o;exact o
 | no=>rw [q] at o;exact o⟩
theorem aG (h1:PSD X E O st G):PBD X E O [st] G:=(jm h1).imp fun D σ H h=>h
theorem cw {ss':List Stmt} (hc:PCD X E c ca) (h1:PBD X E O ss G) (h2:PBD X E O ss' G'):PSD X E O (.If c ss ss' pos) (sIf ca G G'):=(yV hc h1 h2).imp fun D σ H pz3=>by
 obtain ⟨H0,A0,A,δ,R,o⟩:=pz3;unfold sIf at o;refine cD.run R.full (fun t et H1 s1 R1=>?_) (fun C et H' s'=>?_) (fun et=>?_)
 ·rw [et] at o;cases t with
  | true=>exact ⟨H0,A0,A,δ,R.step s1,o⟩
  | false=>exact ⟨H0,A0,A,δ,R.step s1,o⟩
 ·rw [et] at o;exact o H' (R.same.trans s')
 ·rw [et] at o;exact o
theorem aV (h:PD X E e ga):PSD X E O (.Return (some e) pos) (bS ga):=(qK h).imp fun D σ H pz3=>by
 obtain ⟨H0,A0,A,δ,R,o⟩:=pz3;unfold bS at o;refine eD.run R.full (fun d ed v H1 s1 R1 hv=>?_) (fun C et H' s'=>?_) (fun et=>?_)
 ·rw [ed] at o;exact o v H1 (R.same.trans s1) hv
 ·rw [et] at o;exact o H' (R.same.trans s')
 ·rw [et] at o;exact o
theorem rA (h:PD X E e ga) (hs:swapsWith e none pos.line X.env=pure false:=by rfl):PSD X E O (.Expr e pos) (sS ga):=(oZ h hs).imp fun D σ H pz3=>by
 obtain ⟨H0,A0,A,δ,R,o⟩:=pz3;unfold sS at o;refine eD.run R.full (fun d ed v H1 s1 R1 hv=>?_) (fun C et H' s'=>?_) (fun et=>?_)
 ·rw [ed] at o;exact o A σ H1 (R.step s1)
 ·rw [et] at o;exact o H' (R.same.trans s')
 ·rw [et] at o;exact o
theorem bD {i:Nat} {x:Str} {pos':Pos} (h:PD X E e ga) (hN:X.N.Nodup) (hO:i∉O:=by decide) (hi:X.N[i]?=some x:=by rfl) (hx:Loc X.env.scope x:=by first | exact Or.inl rfl | exact Or.inr rfl) (hs:swapsWith e (some (.Name x pos')) pos.line X.env=pure false:=by rfl)
  (hf:X.fn x=true\/X.env.scope.names.lookup x=some .local:=by first | exact .inl rfl | exact .inr rfl | assumption):PSD X E O (.Assign [.Name x pos'] e pos) (bj O i ga):=(qh hN hi hx h hs hf).imp fun D σ H pz3=>by
 obtain ⟨H0,A0,A,δ,R,o⟩:=pz3;unfold bj at o;split at o
 ·rename_i hl;refine eD.run R.part (fun d ed v H1 s1 R1 hv=>?_) (fun C et H' s'=>?_) (fun et=>?_)
  ·rw [ed] at o;exact o A _ H1 ((R.step s1).set hO hl hv)
  ·rw [et] at o;exact o H' (R.same.trans s')
  ·rw [et] at o;exact o
 ·exact o.elim
theorem vI {i:Nat} {x:Str} {pos':Pos} (h:PD X E e ga) (hN:X.N.Nodup) (hO:i∉O:=by decide) (hi:X.N[i]?=some x:=by rfl) (hx:Loc X.env.scope x:=by first | exact Or.inl rfl | exact Or.inr rfl) (hs:swapsWith e (some (.Name x pos')) pos.line X.env=pure false:=by rfl)
  (hf:X.fn x=true\/X.env.scope.names.lookup x=some .local:=by first | exact .inl rfl | exact .inr rfl | assumption):PSD X E O (.Assign [.Name x pos'] e pos) (mE i ga):=(qh hN hi hx h hs hf).imp fun D σ H pz3=>by
 obtain ⟨H0,A0,A,δ,R,o⟩:=pz3;unfold mE at o;split at o
 ·rename_i hl;refine eD.run R.full (fun d ed v H1 s1 R1 hv=>?_) (fun C et H' s'=>?_) (fun et=>?_)
  ·rw [ed] at o;have o:mU X.K E H0 A0 O (if fE d=true then .nx (δ.set i (some d)) else .no) D:=o;split at o
   ·rename_i hd;exact o A _ H1 ((R.step s1).set hO hl ((hv.same aH).dl (R.step s1).lsA hd))
   ·exact o.elim
  ·rw [et] at o;exact o H' (R.same.trans s')
  ·rw [et] at o;exact o
 ·exact o.elim
theorem l7 {i:Nat} {x:Str} {pos':Pos} {gl:Ds->Rs (List PyData)} (h:PLD X E e gl) (hN:X.N.Nodup) (hO:i∈O:=by decide) (hi:X.N[i]?=some x:=by rfl) (hx:Loc X.env.scope x:=by first | exact Or.inl rfl | exact Or.inr rfl) (hs:swapsWith e (some (.Name x pos')) pos.line X.env=pure false:=by rfl)
  (hf:X.fn x=true\/X.env.scope.names.lookup x=some .local:=by first | exact .inl rfl | exact .inr rfl | assumption):PSD X E O (.Assign [.Name x pos'] e pos) (ia O i gl):=(qh hN hi hx h hs hf).imp fun D σ H pz3=>by
 obtain ⟨H0,A0,A,δ,R,o⟩:=pz3;unfold ia at o;split at o
 ·rename_i hl;refine ⟨A++A0,mask O δ,R.part,?_⟩;cases q:gl (mask O δ) with
  | ok ds =>rw [q] at o;exact fun p xs H' hn s hp hi'=>o (p::A) _ H' (R.setOwn hO hl hn s hp hi')
  | rz C=>rw [q] at o;exact fun H' s'=>o H' (R.same.trans s')
  | no=>rw [q] at o;exact o
 ·exact o.elim
theorem Bt {i:Nat} {gl:Ds->Rs (List PyData)} (h:PLS X E i st gl) (hO:i∈O:=by decide):PSD X E O st (ia O i gl):=PS.imp h fun D σ H pz3=>by
 obtain ⟨H0,A0,A,δ,R,o⟩:=pz3;unfold ia at o;split at o
 ·rename_i hl;refine ⟨A++A0,mask O δ,R.part,?_⟩;cases q:gl (mask O δ) with
  | ok ds =>rw [q] at o;exact fun p xs H' hn s hp hi'=>o (p::A) _ H' (R.setOwn hO hl hn s hp hi')
  | rz C=>rw [q] at o;exact fun H' s'=>o H' (R.same.trans s')
  | no=>rw [q] at o;exact o
 ·exact o.elim
theorem vX {i:Nat} {gl:Ds->Rs (List PyData)} (h:PLS X E i st gl) (hO:i∉O:=by decide):PSD X E O st (bj O i (gL gl)):=PS.imp h fun D σ H pz3=>by
 obtain ⟨H0,A0,A,δ,R,o⟩:=pz3;unfold bj gL at o;split at o
 ·rename_i hl;have R1:=R.part;refine ⟨A++A0,mask O δ,R1,?_⟩;cases q:gl (mask O δ) with
  | ok ds =>rw [q] at o;intro p xs H' hn s hp hi';exact o A _ H' ((R.step s).set hO hl (kx (by rw [aW (R1.ls.new hn)];exact hp) (hi'.same nh)))
  | rz C=>rw [q] at o;exact fun H' s'=>o H' (R.same.trans s')
  | no=>rw [q] at o;exact o
 ·exact o.elim
theorem tyL {K:PySem.W.Frag} {H:Hp} {p:Addr} {xs:List V} (h:H p=some (.lst xs)):tyV K "list" (.ref p) H:=.inl ⟨rfl,xs,SqL.of h⟩
theorem oX {i:Nat} {x:Str} {pn pa pc:Pos} (h:PD X E e ga) (hO:i∈O:=by decide) (hi:X.N[i]?=some x:=by rfl) (hv:Vis X.env.scope x:=by first | exact Or.inl rfl | exact Or.inr (Or.inl rfl) | exact Or.inr (Or.inr rfl))
  (hd:(x==("__debug__":Str))=false:=by decide) (hcd:(x==("__classdict__":Str))=false:=by decide) (hst:starEach [e] X.env=(false,eval e X.env)::starEach [] X.env:=by rfl)
  (hbase:attributeBase (.Name x pn) "append" X.env (eval (.Name x pn) X.env)=eval (.Name x pn) X.env:=by rfl)
  (hfew:((backTo pc (starEach [e] X.env)).all (fun x=>!x.1)&&(backToKw pc (keywordEach [] X.env)).all (fun x=>x.1.isSome)&&decide (([e]:List Expr).length+([]:List Keyword).length+(if ([]:List Keyword).isEmpty then 0 else 1)<30))=true:=by rfl)
  (hline:(pa.endLine==pc.line)=true:=by rfl) (hs:swapsWith (.Call (.Attribute (.Name x pn) "append" pa) [e] [] pc) none pos.line X.env=pure false:=by rfl) :
  PSD X E O (.Expr (.Call (.Attribute (.Name x pn) "append" pa) [e] [] pc) pos) (lC O i ga) :=
 (oZ (B3 PySem.F.plainAttrs_list PySem.F.slot_list_append PySem.F.type_list_append nX (lI hi hv hd hcd) (eO h ip hst) hbase hfew hline hst rfl) hs).imp fun D σ H pz3=>by
  obtain ⟨H0,A0,A,δ,R,o⟩:=pz3;unfold lC at o;split at o
  ·rename_i ds q;obtain ⟨p,xs,ds',e1,hp,hl,e2,hx⟩:=R.ownL hO q;cases e2;refine ⟨_,e1,tyL hl,?_⟩;refine eD.run R.part (fun d ed v H1 s1 R1 hv=>?_) (fun C et H' s'=>?_) (fun et=>?_)
   ·rw [ed] at o;have o:mU X.K E H0 A0 O (if ds.length<1000000 then .nx (δ.set i (some (.list (ds++[d])))) else .no) D:=o;split at o
    ·rename_i hz;refine ⟨p,xs,v,rfl,rfl,s1 _ _ hl,by rw [hx.length,sizeLine_eq];omega,?_⟩;exact o A _ _ ((R.step s1).put hO q e1 hp ((hx.same s1.del).append (jt hv)))
    ·exact o.elim
   ·rw [et] at o;exact o H' (R.same.trans s')
   ·rw [et] at o;exact o
  ·exact o.elim
def TgS (K:PySem.W.Frag) (O:List Nat) (tgt:PyData->Ds->Option Ds) (g:TG):Prop:=∀ (d:PyData) (v:V) (H0:Hp) (A0:List Addr) (H:Hp) (A:List Addr) (δ δ':Ds) (σ:St) (Q:St->Hp->Prop),cp K H0 A0 H A O δ σ->Is K (del H (A++A0)) d v->tgt d δ=some δ' ->
 (∀ σ',cp K H0 A0 H A O δ' σ'->Q σ' H)->g v σ H Q
def bU (i:Nat):PyData->Ds->Option Ds:=fun d δ=>if i<δ.length then some (δ.set i (some d)) else none
theorem g6 {K:PySem.W.Frag} {i:Nat} (hi:i∉O):TgS K O (bU i) (kg i):=fun d v H0 A0 H A δ δ' σ Q R h e k=>by
 unfold bU at e;split at e
 ·rename_i hl;cases e;exact k _ (R.set hi hl h)
 ·cases e
def m9:List Nat->List PyData->Ds->Option Ds
 | [],[],δ=>some δ
 | i::is,d::ds,δ=>if i<δ.length then m9 is ds (δ.set i (some d)) else none
 | _,_,_=>none
def i6 (is:List Nat):PyData->Ds->Option Ds
 | .tuple ds,δ=>m9 is ds δ
 | _,_=>none
def yf:List Nat->TGs
 | []=>L2.FO
 | i::is=>L2.zg (kg i) (yf is)
theorem oA {K:PySem.W.Frag}:∀ (is:List Nat) (ds:List PyData) (vs:List V) (H0:Hp) (A0:List Addr) (H:Hp) (A:List Addr) (δ δ':Ds) (σ:St) (Q:St->Hp->Prop),(∀ i∈is,i∉O)->cp K H0 A0 H A O δ σ->Iss K (del H (A++A0)) ds vs->m9 is ds δ=some δ' ->
  (∀ σ',cp K H0 A0 H A O δ' σ'->Q σ' H)->yf is vs σ H Q
 | [],[],vs,H0,A0,H,A,δ,δ',σ,Q,_,R,h,e,k=>by cases e;exact ⟨h.nil_of,k σ R⟩
 | i::is,d::ds,vs,H0,A0,H,A,δ,δ',σ,Q,hO,R,h,e,k=>by
  obtain ⟨v,r,rfl,h1,h2⟩:=h.cons_of;unfold m9 at e;split at e
  ·rename_i hl;exact ⟨v,r,rfl,oA is ds r H0 A0 H A _ δ' _ Q (fun j hj=>hO j (List.mem_cons_of_mem _ hj)) (R.set (hO i List.mem_cons_self) hl h1) h2 e k⟩
  ·cases e
 | [],_::_,_,_,_,_,_,_,_,_,_,_,_,_,e,_=>by cases e
 | _::_,[],_,_,_,_,_,_,_,_,_,_,_,_,e,_=>by cases e
theorem pH:∀ {is:List Nat} {ds:List PyData} {δ δ':Ds},m9 is ds δ=some δ'->ds.length=is.length
 | [],[],_,_,_=>rfl
 | _::is,_::ds,δ,δ',e=>by
  unfold m9 at e;split at e
  ·simp [pH e]
  ·cases e
 | [],_::_,_,_,e=>by cases e
 | _::_,[],_,_,e=>by cases e
theorem uT {K:PySem.W.Frag} {is:List Nat} (hi:∀ i∈is,i∉O):TgS K O (i6 is) (L2.Hd K is.length (yf is)):=fun d v H0 A0 H A δ δ' σ Q R h e k=>by
 unfold i6 at e;split at e
 ·obtain ⟨p,xs,rfl,hp,hx⟩:=h.ofTup;exact ⟨p,xs,rfl,SqT.of (aH _ _ hp),by rw [hx.length,pH e],oA is _ xs H0 A0 H A δ δ' σ Q hi R hx e k⟩
 ·cases e
def forL (tgt:PyData->Ds->Option Ds) (body:Ds->Sr):List PyData->Ds->Sr
 | [],δ=>.nx δ
 | d::r,δ=>match tgt d δ with
  | none=>.no
  | some δ1=>match body δ1 with
   | .nx δ2=>forL tgt body r δ2
   | .ct δ2=>forL tgt body r δ2
   | .bk δ2=>.nx δ2
   | .rt v=>.rt v
   | .rz C=>.rz C
   | .no=>.no
def iz (O:List Nat) (src:Ds->Rs (List PyData)) (tgt:PyData->Ds->Option Ds) (body:Ds->Sr):Ds->Sr:=fun δ=>ofR (src (mask O δ)) fun ds=>forL tgt body ds δ
theorem gU {iter tg:Expr} {gi:Ds->Rs (List PyData)} {tgt:PyData->Ds->Option Ds} {g:TG} (hp:PassesOwn (model X.prog X.w) X.A X.env X.xe) (hc:X.calm=true) (hi:PID X E tg iter gi) (hT:TgS X.K O tgt g) (hg:PG X tg g) (hb:PBD X E O ss G)
  (hs:∀ x,foldedSetIterable iter X.env x=pure x:=by intro _;rfl):PSD X E O (.For tg iter ss [] pos) (iz O gi tgt G):=(FN hp hc hi hg hb hs).imp fun D σ H pz3=>by
 obtain ⟨H0,A0,A,δ,R,o⟩:=pz3;unfold iz at o;refine ⟨A++A0,mask O δ,R.part,?_⟩;cases q:gi (mask O δ) with
 | no=>rw [q] at o;exact o
 | rz C=>rw [q] at o;exact fun H' s'=>o H' (R.same.trans s')
 | ok ds =>
  rw [q] at o;intro J H1 s1 hJ;have R1:=(R.step s1).more;have o:mU X.K E H0 A0 O (forL tgt G ds δ) D:=o;refine ⟨fun i m σ' H'=>m=ds.length-i/\i<=ds.length/\∃ A' δ',cp X.K (un H0 (del H1 (A++A0))) A0 H' A' O δ' σ'/\mU X.K E H0 A0 O (forL tgt G (ds.drop i) δ') D,⟨ds.length,by simp,Nat.zero_le _,A,δ,R1,o⟩,?_⟩
  rintro i m σ' H' ⟨rfl,hi',A',δ',R',o'⟩
  have sG:az (del H1 (A++A0)) (un H0 (del H1 (A++A0))):=Jp (R.same.trans s1) aH;have hB:∀ b∈A'++A0,(del H1 (A++A0)) b=none:=fun b hb=>by
   rcases List.mem_append.mp hb with z | z
   ·exact sG.free (R'.new b z)
   ·exact ie (List.mem_append_right _ z)
  obtain ⟨jg,js,jy⟩:=hJ H' (A'++A0) (sG.trans R'.same) R'.lsA hB;by_cases hlt:i<ds.length
  ·refine .inr ⟨jg i hlt,?_⟩;have edr:ds.drop i=ds[i]::ds.drop (i+1):=List.drop_eq_getElem_cons hlt;rw [edr] at o';unfold forL at o';refine ⟨fun σ2 H2=>∃ A2 δ2,cp X.K (un H0 (del H1 (A++A0))) A0 H2 A2 O δ2 σ2/\mU X.K E H0 A0 O (forL tgt G (ds.drop (i+1)) δ2) D,fun σ2 H2 ⟨A2,δ2,R2,o2⟩=>⟨ds.length-(i+1),by omega,rfl,hlt,A2,δ2,R2,o2⟩,fun x H2 y=>?_⟩;obtain ⟨s2,d,ed,hd⟩:=jy i x H2 hlt y;have:ds[i]=d:=by have:=List.getElem?_eq_getElem hlt;rw [this] at ed;exact Option.some.inj ed
   rw [this] at o';cases et:tgt d δ' with
   | none=>rw [et] at o';exact o'.elim
   | some δ1 =>
    simp only [et] at o';refine hT d x _ _ _ _ _ _ _ _ (R'.step s2) hd et fun σ3 R3=>⟨_,_,_,_,R3,?_⟩
    cases eb:G δ1 with
    | nx δ2=>rw [eb] at o';exact fun A4 σ4 H4 R4=>⟨A4,δ2,R4,o'⟩
    | ct δ2=>rw [eb] at o';exact fun A4 σ4 H4 R4=>⟨A4,δ2,R4,o'⟩
    | bk δ2=>rw [eb] at o';exact fun A4 σ4 H4 R4=>o' A4 σ4 H4 (R4.less AS R.ls0)
    | rt v=>rw [eb] at o';exact fun v4 H4 s4 h4=>o' v4 H4 (AS.trans s4) h4
    | rz C=>rw [eb] at o';exact fun H4 s4=>o' H4 (AS.trans s4)
    | no=>rw [eb] at o';exact o'
  ·have e:i=ds.length:=by omega
   subst e;rw [List.drop_length] at o';exact .inl ⟨js,o' A' σ' H' (R'.less AS R.ls0)⟩
end
section
variable {X:Cx} {E:XK} {O:List Nat} {st:Stmt} {ss:List Stmt} {G G':Ds->Sr} {e a b c:Expr} {ga gb gk:Ds->Rs PyData} {ca:Ds->Rs Bool} {pos:Pos}
def cO (c:Ds->Rs Bool) (b:Ds->Sr):Nat->Ds->Sr
 | 0,_=>.no
 | n+1,δ=>ofR (c δ) fun t=>if t=true then (match b δ with
  | .nx δ2=>cO c b n δ2
  | .ct δ2=>cO c b n δ2
  | .bk δ2=>.nx δ2
  | .rt v=>.rt v
  | .rz C=>.rz C
  | .no=>.no) else .nx δ
theorem zC (fuel:Nat) (hp:PassesOwn (model X.prog X.w) X.A X.env X.xe) (hc:PCD X E c ca) (hb:PBD X E O ss G):PSD X E O (.While c ss [] pos) (fun δ=>cO ca G fuel δ):=(wU hp hc hb).imp fun D σ H pz3=>by
 obtain ⟨H0,A0,A,δ,R,o⟩:=pz3;refine ⟨fun m σ H=>∃ A δ,cp X.K H0 A0 H A O δ σ/\mU X.K E H0 A0 O (cO ca G m δ) D,⟨fuel,A,δ,R,o⟩,?_⟩
 rintro m σ H ⟨A,δ,R,o⟩
 cases m with
 | zero=>exact o.elim
 | succ m =>
  unfold cO at o;refine cD.run R.full (fun t et H1 s1 R1=>?_) (fun C et H' s'=>?_) (fun et=>?_)
  ·rw [et] at o;cases t with
   | false=>exact o A σ H1 (R.step s1)
   | true =>
    refine ⟨fun σ' H'=>∃ A δ,cp X.K H0 A0 H' A O δ σ'/\mU X.K E H0 A0 O (cO ca G m δ) D,fun σ' H' q=>⟨m,Nat.lt_succ_self m,q⟩,H0,A0,A,δ,R.step s1,?_⟩;have o:mU X.K E H0 A0 O (match G δ with
     | .nx δ2=>cO ca G m δ2
     | .ct δ2=>cO ca G m δ2
     | .bk δ2=>.nx δ2
     | .rt v=>.rt v
     | .rz C=>.rz C
     | .no=>.no) D:=o
    cases eb:G δ with
    | nx δ2=>rw [eb] at o;exact fun A4 σ4 H4 R4=>⟨A4,δ2,R4,o⟩
    | ct δ2=>rw [eb] at o;exact fun A4 σ4 H4 R4=>⟨A4,δ2,R4,o⟩
    | bk δ2=>rw [eb] at o;exact o
    | rt v=>rw [eb] at o;exact o
    | rz C=>rw [eb] at o;exact o
    | no=>rw [eb] at o;exact o
  ·rw [et] at o;exact o H' (R.same.trans s')
  ·rw [et] at o;exact o
def zJ (O:List Nat) (tgt:PyData->Ds->Option Ds) (g:Ds->Rs PyData):Ds->Sr:=fun δ=>ofR (g (mask O δ)) fun d=>match tgt d δ with
 | some δ'=>.nx δ'
 | none=>.no
theorem E1 {tg:Expr} {tgt:PyData->Ds->Option Ds} {g:TG} (h:PD X E e ga) (hT:TgS X.K O tgt g) (hg:PG X tg g) (hs:swapsWithSole [tg] e pos.line X.env=pure false:=by rfl) (hw:swappedStores [tg] e X.env=pure none:=by rfl)
  (h1:(assignEach [tg] X.env).map (·.2)=[assign tg X.env]:=by rfl):PSD X E O (.Assign [tg] e pos) (zJ O tgt ga):=(AR h hg hs hw h1).imp fun D σ H pz3=>by
 obtain ⟨H0,A0,A,δ,R,o⟩:=pz3;unfold zJ at o;refine eD.run R.part (fun d ed v H1 s1 R1 hv=>?_) (fun C et H' s'=>?_) (fun et=>?_)
 ·simp only [ed,aL] at o;cases q:tgt d δ with
  | none=>rw [q] at o;exact o.elim
  | some δ'=>rw [q] at o;exact hT d v H0 A0 H1 A δ δ' σ _ (R.step s1) hv q fun σ' R'=>o A σ' H1 R'
 ·rw [et] at o;exact o H' (R.same.trans s')
 ·rw [et] at o;exact o
def rV (i:Nat) (gk ge:Ds->Rs PyData):Ds->Sr:=fun δ=>match δ[i]? with
 | some (some (.list ds))=>ofR (ge δ) fun d=>ofR (gk δ) fun k=>match k with
  | .int k=>match ixN ds.length k with
   | some j=>if fE d then .nx (δ.set i (some (.list (ds.set j d)))) else .no
   | none=>.no
  | _=>.no
 | _=>.no
theorem zq {k:Expr} {i:Nat} {x:Str} {pn ps:Pos} (h:PD X E e ga) (hk:PD X E k gk) (hO:i∈O:=by decide) (hi:X.N[i]?=some x:=by rfl) (hv:Vis X.env.scope x:=by first | exact Or.inl rfl | exact Or.inr (Or.inl rfl) | exact Or.inr (Or.inr rfl))
  (hd:(x==("__debug__":Str))=false:=by decide) (hcd:(x==("__classdict__":Str))=false:=by decide)
  (ha:∀ v,assign (.Subscript (.Name x pn) k ps) X.env v=(do
   let ov <-holding [v] (eval (.Name x pn) X.env);let iv <-holding [v,ov] (eval k X.env)
   standAt ps
   holding [v,ov,iv] (setItem ov iv v)
   release [v,ov,iv] []):=by intro _;rfl)
  (hs:swapsWithSole [.Subscript (.Name x pn) k ps] e pos.line X.env=pure false:=by rfl) (hw:swappedStores [.Subscript (.Name x pn) k ps] e X.env=pure none:=by rfl)
  (h1:(assignEach [.Subscript (.Name x pn) k ps] X.env).map (·.2)=[assign (.Subscript (.Name x pn) k ps) X.env]:=by rfl):PSD X E O (.Assign [.Subscript (.Name x pn) k ps] e pos) (rV i gk ga) :=
 (AR h (Gj (lI hi hv hd hcd) hk set_list ha) hs hw h1).imp fun D σ H pz3=>by
  obtain ⟨H0,A0,A,δ,R,o⟩:=pz3;unfold rV at o;split at o
  ·rename_i ds q;obtain ⟨p,xs,ds',e1,hp,hl,e2,hx⟩:=R.ownL hO q;cases e2;refine eD.run R.full (fun d ed v H1 s1 R1 hv=>?_) (fun C et H' s'=>?_) (fun et=>?_)
   ·simp only [ed,aL] at o;refine ⟨_,e1,?_⟩;refine eD.run R1 (fun kd ek u H2 s2 R2 hu=>?_) (fun C et H' s'=>?_) (fun et=>?_)
    ·simp only [ek,aL] at o;split at o
     ·rename_i kk;split at o
      ·rename_i j hj;split at o
       ·rename_i hn;have s12:=s1.trans s2;refine ⟨p,xs,kk,j,rfl,hu.ofInt,s12 _ _ hl,by rw [hx.length];exact hj,?_⟩;exact o A _ _ ((R.step s12).put hO q e1 hp (Iss.set (((hv.same s2.del).same aH).dl (R.step s12).lsA hn) j (hx.same s12.del)))
       ·exact o.elim
      ·exact o.elim
     ·exact o.elim
    ·simp only [et,qu] at o;exact o H' (R.same.trans (s1.trans s'))
    ·simp only [et,qg] at o;exact o
   ·simp only [et,qu] at o;exact o H' (R.same.trans s')
   ·simp only [et,qg] at o;exact o
  ·exact o.elim
structure wW (K:PySem.W.Frag) (mg:Str->Option Value) (x:Str) (C:Addr):Prop where
 m:mg x=some (.ref C)
 e:PySem.W.excIn K C [.type "ValueError",.type "Exception",.type "BaseException",.type "object"] "ValueError.__new__"=true
def jP (C:Addr) (gs:Ds->Rs (List PyData)):Ds->Sr:=fun δ=>ofR (gs δ) fun _=>.rz C
theorem iW {x:Str} {C:Addr} {np cpos:Pos} {es:List Expr} {gs:Ds->Rs (List PyData)} (hc:X.calm=true) (M:xK X E) (EE:wW X.K X.mg x C) (ha:PAD X E (e::es) gs) (hl:(e::es).length<=1000:=by decide) (hg:Gl X x:=by rfl)
  (hdb:(x==("__debug__":Str))=false:=by decide) (he:starEach (e::es) X.env=(false,eval e X.env)::starEach es X.env:=by rfl) (hpl:(backTo cpos (starEach es X.env)).any (·.1)=false:=by rfl) :
  PSD X E O (.Raise (some (.Call (.Name x np) (e::es) [] cpos)) none pos) (jP C gs) :=
 (BI hc M PySem.F.excBase_ValueError hg EE.m EE.e ha.1 hdb he hpl).imp fun D σ H pz3=>by
  obtain ⟨H0,A0,A,δ,R,o⟩:=pz3;unfold jP at o;refine aD.run R.full (fun ds ed vs H1 s1 R1 hv=>?_) (fun C et H' s'=>?_) (fun et=>?_)
  ·simp only [ed,aL] at o;exact ⟨by rw [hv.length,ha.2 δ ds ed,sizeLine_eq];omega,o H1 (R.same.trans s1)⟩
  ·simp only [et,qu] at o;exact o H' (R.same.trans s')
  ·simp only [et,qg] at o;exact o
end
section
variable {P:Program} {w:World} {K:PySem.W.Frag} {mg:Str->Option Value} {base:Heap}
theorem pB {x qual:Str} {st:Stmt} {f:Addr} {fd:FuncData} {N ps:List Str} {k:Nat} {sp:Sp} {CX:CXT} (F:Fun K x qual st f fd) (S:a9 N ps (ay st)) (len:∀ vs H Q E,sp vs H Q E->vs.length=ps.length)
  (hbody:∀ (cdv:Value) (A:Around) (outer:List Env) (s:Shared) (H:Hp) (vs:List V) (Q:VK) (E:XK),cC k (A.deeper (envOfC qual (ay st) s.heap.objs.size f cdv))->sp vs H Q E ->
   ∃ t,PSs (d6 CX P w K mg base N qual (ay st) f cdv A outer s H E) (cX st) t/\t { nx:=fun _ H'=>Q .non H',rt:=Q } (start N vs) H):hU P w K mg base CX (k+1) f fd ps sp:=by
 obtain ⟨oc,od,kV,doc,pm,an,cdv,ct,osl,rfl,lk,hcd⟩:=F.ex;exact Cc lk hcd S len fun A outer s H vs Q E hr hsp=>hbody cdv A outer s H vs Q E hr hsp
def bB:Sr->Rs PyData
 | .rt d=>.ok d
 | .nx _=>.ok .none
 | .rz C=>.rz C
 | _=>.no
theorem qI {N:List Str} {qual:Str} {scope:Scope} {f:Addr} {cd:Value} {A:Around} {outer:List Env} {s:Shared} {H:Hp} {E:XK}:xK (d6 (CXW P w) P w K mg base N qual scope f cd A outer s H E) E :=
 fun _ _ _ _ _ _ _ _ I hx hE=>xj (CX:=CX0) I hx hE
theorem cp.start {N ps:List Str} {A0:List Addr} {H:Hp} {O:List Nat} {ds:List PyData} {vs:List V} (hA:Ls H A0) (hi:Iss K (del H A0) ds vs) (hl:ds.length=ps.length) (hO:∀ i∈O,ps.length<=i) :
  cp K H A0 H [] O (ds.map some++List.replicate (N.length-ps.length) none) (L2.start N vs):=by
 have hv:=hi.length;have at':∀ (i:Nat) d,(ds.map some++List.replicate (N.length-ps.length) none)[i]?=some (some d)->i<ds.length/\ds[i]?=some d:=fun i d e=>by
  by_cases h:i<ds.length
  ·rw [List.getElem?_append_left (by simpa using h),List.getElem?_map] at e;refine ⟨h,?_⟩;cases q:ds[i]? with
   | none=>rw [q] at e;cases e
   | some z=>rw [q] at e;simp at e;rw [e]
  ·rw [List.getElem?_append_right (by simpa using h),List.getElem?_replicate] at e;split at e <;> cases e
 refine ⟨az.refl _,hA,(fun a h=>by cases h),(fun a h=>by cases h),?_,fun i d _ e=>?_,fun i d h e=>?_,fun i j d e a h _ q _ _ _=>?_⟩
 ·unfold L2.start;simp [hv,hl]
 ·obtain ⟨hlt,e⟩:=at' i d e;obtain ⟨v,ev,hd⟩:=hi.getD e;refine ⟨v,?_,hd⟩;unfold L2.start;rw [List.getElem?_append_left (by simp;omega),List.getElem?_map,ev];rfl
 ·obtain ⟨hlt,_⟩:=at' i d e;exact absurd (hO i h) (by omega)
 ·obtain ⟨hlt,_⟩:=at' i d q;exact absurd (hO i h) (by omega)
theorem bp.of {x qual:Str} {st:Stmt} {f:Addr} {fd:FuncData} {N ps:List Str} {k:Nat} {O:List Nat} {G:Ds->Sr} {gf:List PyData->Rs PyData} (F:Fun K x qual st f fd) (S:a9 N ps (ay st)) (b:Binds K fd ps []) (m:mg x=some (.ref f)) (hO:∀ i∈O,ps.length<=i)
  (body:∀ (cdv:Value) (A:Around) (outer:List Env) (s:Shared) (H:Hp) (E:XK),cC k (A.deeper (envOfC qual (ay st) s.heap.objs.size f cdv))->PBD (d6 (CXW P w) P w K mg base N qual (ay st) f cdv A outer s H E) E O (cX st) G)
  (hg:∀ ds,ds.length=ps.length->gf ds≠.no->bB (G (ds.map some++List.replicate (N.length-ps.length) none))=gf ds):bp P w K mg base (k+1) x ps.length gf:=by
 refine ⟨f,fd,ps,pB F S (fun vs H Q E h=>?_) (fun cdv A outer s H vs Q E hr h=>?_),m,F.kp,b⟩
 ·obtain ⟨A,ds,hA,hi,hl,o⟩:=h;rw [hi.length,hl]
 ·obtain ⟨A0,ds,hA,hi,hl,o⟩:=h;refine ⟨_,body cdv A outer s H E hr,H,A0,[],_,cp.start hA hi hl hO,?_⟩;have hg':=hg ds hl (fun z=>by rw [z] at o;exact o);cases q:G (ds.map some++List.replicate (N.length-ps.length) none) with
  | rt d=>rw [q] at hg';rw [<-hg'] at o;exact fun v H' s' hv=>o v H' s' hv
  | nx δ=>rw [q] at hg';rw [<-hg'] at o;exact fun A' σ H' R'=>o .non H' R'.same is_none
  | rz C=>rw [q] at hg';rw [<-hg'] at o;exact fun H' s'=>o H' s'
  | bk δ=>rw [q] at hg';rw [<-hg'] at o;exact o.elim
  | ct δ=>rw [q] at hg';rw [<-hg'] at o;exact o.elim
  | no=>rw [q] at hg';rw [<-hg'] at o;exact o.elim
theorem bp.old {x:Str} {f:Addr} {fd:FuncData} {ps:List Str} {k:Nat} {sp:Sp} {gf:List PyData->Rs PyData} (F:hU P w K mg base CX0 k f fd ps sp) (m:mg x=some (.ref f)) (kp:PySem.W.keepIn K (.ref f)=true) (b:Binds K fd ps [])
  (h:∀ ds,ds.length=ps.length->gf ds≠.no->∃ d,gf ds=.ok d/\gH d=true/\∀ vs H Q,Iss K H ds vs->(∀ v H',az H H'->IsD K H' d v->Q v H')->sp vs H Q E0):bp P w K mg base k x ps.length gf:=by
 refine ⟨f,fd,ps,⟨fun vs H Q E h'=>?_,fun A outer s H args us vs Q E hr he hb hv h'=>?_⟩,m,kp,b⟩
 ·obtain ⟨A,ds,hA,hi,hl,o⟩:=h';rw [hi.length,hl]
 ·obtain ⟨A0,ds,hA,hi,hl,o⟩:=h';obtain ⟨d,e,nl,hsp⟩:=h ds hl (fun z=>by rw [z] at o;exact o);rw [e] at o;refine codeAny_mono (F.run A outer s H args us vs Q E0 hr he hb hv (hsp vs H Q (hi.same aH) fun v H' s' hd=>o v H' s' ((hd.is nl).dl (hA.same s') (xO nl)))) fun r s' hq=>?_
  cases r with
  | error ev=>exact False.elim hq
  | ok fl =>
   cases fl with
   | ret u=>exact hq
   | next=>exact False.elim hq
   | brk=>exact False.elim hq
   | cont=>exact False.elim hq
end
open AutoSeq1 (wpAny_loadPart')
theorem nR:fillsNumberSlot (.type "tuple") "mul"=pure false :=
 PySem.fillsNumberSlot_seq (id:="tuple.__mul__") (r:=some (.builtin "tuple.__rmul__")) PySem.F.slot_tuple_mul.lookup (by decide +kernel) PySem.F.slot_tuple_rmul.lookup (by decide +kernel)
theorem uw:seqRepeat? (.type "tuple")=pure (some (.builtin "tuple.__mul__")):=by unfold seqRepeat?;rw [PySem.seqSlot_of (T:="tuple") (name:="__mul__") (id:="tuple.__mul__") PySem.F.slot_tuple_mul.lookup (by decide +kernel),PySem.seqSlot_of (T:="tuple") (name:="__rmul__") (id:="tuple.__rmul__") PySem.F.slot_tuple_rmul.lookup (by decide +kernel)];rfl
theorem uX (a:Int) (t:Tok) (l:Addr) (items:Array Value) (n:Nat) (dd:Option Addr) (sl:Array (Option Value)) :
  Meets (Builtin.«int.__rmul__» ⟨[.int a t,.ref l],[]⟩) (fun _ R s=>s.heap.get? l=some { cls:=.type "tuple",dict:=dd,data:=.seq items n,slots:=sl }/\R (.ok (.ret Value.notImplemented)) s) :=
 .of_wp fun prog w A R s h=>by obtain ⟨hp,g,d,tk,os⟩:=s;obtain ⟨hl,h⟩:=h;wp_walk;exact ⟨_,rfl,h⟩
theorem Bc (l:Addr) (items:Array Value) (n:Nat) (x:Int) (u:Tok) (dd:Option Addr) (sl:Array (Option Value)) (h1:(decide (x < -(2 ^ 63)) || decide (x≥2 ^ 63))=false) (h2:(items.isEmpty || x==1)=false) (h3:(decide (x<=0) || items.isEmpty)=false)
  (h4:decide ((items.size:Int)*x>(2 ^ 63-1) / 8)=false) (h5:Builtin.Tuple.tupleTooMany ((items.size:Int)*x)=false) (hsz:(List.foldl (fun x1 x2=>x1++x2) #[] (List.replicate x.toNat items)).size<=sizeLine) :
  Meets (Builtin.«tuple.__mul__» ⟨[.ref l,.int x u],[]⟩) (fun _ R s=>s.heap.get? l=some { cls:=.type "tuple",dict:=dd,data:=.seq items n,slots:=sl }/\R (.ok (.ret (Value.ref s.heap.objs.size))) { s with heap:=s.heap.push { cls:=Value.type "tuple",data:=Data.seq (List.foldl (fun x1 x2=>x1++x2) #[] (List.replicate x.toNat items)) } }) :=
 .of_wp fun prog w A R s h=>by
  obtain ⟨hp,g,d,tk,os⟩:=s;obtain ⟨hl,h⟩:=h;have f1:=AutoSeq1.idx_int;have f2:=AutoSeq1.sub_tuple_tuple
  wp_walk using wpAny_loadPart' hl
  refine wpAny_ite_false (by rw [h1];rfl) ?_
  wp_walk using wpAny_loadPart' hl
  refine wpAny_ite_false h4 ?_
  wp_walk using wpAny_loadPart' hl
  exact ⟨_,rfl,h⟩
section
variable {X:Cx} {E:XK} {a b c e:Expr} {ga gb gc:Ds->Rs PyData} {pos:Pos} {es:List Expr} {gs:Ds->Rs (List PyData)}
def Fu (K:PySem.W.Frag):R2:=fun x y H Q=>∃ l k xs,x=.ref l/\y=.int k/\SqT K H l xs/\xs≠[]/\2<=k/\k<1000000/\xs.length*k.toNat<=1000000/\∀ p,H p=none->Q (.ref p) (upd H p (.tup (List.replicate k.toNat xs).flatten))
theorem Fl:OpR X (binaryOp .Mult) (Fu X.K):=by
 intro pins s σ H x y v u Q I rx ry h;obtain ⟨l,k,xs,rfl,rfl,hl,hne,hk1,hk2,hz,q⟩:=h;cases rx;obtain ⟨t,rfl⟩:=ry;obtain ⟨its,r,p1,_⟩:=I.tuple hl;obtain ⟨⟨cls,dd,data,sl⟩,ho,hc,n,hd⟩:=id p1;simp only at hc hd;subst hc hd;have hlen:=r.length;have hne':its≠[]:=fun z=>hne (r.nil_iff.mp z)
 have hpos:0<its.length:=List.length_pos_iff.mpr hne';have hfold:List.foldl (fun x1 x2=>x1++x2) #[] (List.replicate k.toNat its.toArray)=(List.replicate k.toNat its).flatten.toArray:=by have:=foldl_rep its k.toNat [];rw [List.nil_append] at this;exact this
 have hemp:its.toArray.isEmpty=false:=by simp [hne']
 have hmul:(its.length:Int)*k<=1000000:=by
  have e1:((its.length*k.toNat:Nat):Int)=(its.length:Int)*k:=by rw [Int.natCast_mul,Int.toNat_of_nonneg (by omega)]
  rw [<-e1,<-hlen];omega
 have hsz2:(List.replicate k.toNat its).flatten.length<=1000000:=by rw [len_rep,Nat.mul_comm,<-hlen];exact hz
 refine wpAny_binaryOp_repeat_ref (T:="tuple") (U:="int") (by decide) ⟨_,ho,rfl⟩ (fun s'=>typeIs_int s' k t) nR PySem.F.fills_int_mul PySem.F.slot_int_rmul uw PySem.F.slot_int_index.lookup
  (call_meets PySem.F.slot_int_rmul (typeIs_int s k t) PySem.F.entry_int_rmul (PySem.F.args_int_rmul_2 _ _) (uX k t l its.toArray n dd sl)
   ⟨ho,rfl,⟨_,ho,rfl⟩,call_meets PySem.F.slot_tuple_mul ⟨_,ho,rfl⟩ PySem.F.entry_tuple_mul (PySem.F.args_tuple_mul_2 _ _) (Bc l its.toArray n k t dd sl ?_ ?_ ?_ ?_ ?_ ?_) ⟨ho,?_⟩⟩)
 ·rw [decide_eq_false (by omega),decide_eq_false (by omega)];rfl
 ·rw [hemp,Bool.false_or];simp;omega
 ·rw [hemp,Bool.or_false];exact decide_eq_false (by omega)
 ·rw [List.size_toArray];exact decide_eq_false (by omega)
 ·rw [List.size_toArray];unfold Builtin.Tuple.tupleTooMany;rw [sizeLine_eq];exact decide_eq_false (by omega)
 ·rw [hfold,List.size_toArray,sizeLine_eq];omega
 ·rw [hfold];refine ⟨.ref s.heap.objs.size,_,I.laid (t':=s.toks) (o:=.tup (List.replicate k.toNat xs).flatten) (fun b ob q=>Heap.get?_push_of_some _ q) (Nat.le_refl _) ?_,rfl,q _ (I.hok.fresh (Nat.le_refl _))⟩;exact ⟨by rw [len_rep,Nat.mul_comm,sizeLine_eq];omega,_,r.rep k.toNat,uL.new _ _⟩
def dO:PyData->PyData->Option PyData
 | .int i,.int j=>if (-(2 ^ 64)<i/\i<2 ^ 64)\/(-(2 ^ 64)<j/\j<2 ^ 64) then some (.int (i*j)) else none
 | .list x,.int k=>if 0<=k/\k<1000000/\x.length*k.toNat<=1000000 then some (.list (List.replicate k.toNat x).flatten) else none
 | .tuple x,.int k=>if x≠[]/\2<=k/\k<1000000/\x.length*k.toNat<=1000000 then some (.tuple (List.replicate k.toNat x).flatten) else none
 | _,_=>none
theorem ET {K:PySem.W.Frag}:OpD K dO (fun x y H Q=>rI Ez (fun i j=>.int (i*j)) x y H Q\/HU x y H Q\/Fu K x y H Q):=fun d1 d2 d x y H A Q e hA h1 h2 k=>by
 unfold dO at e;split at e
 ·split at e
  ·rename_i z;cases e;exact .inl ⟨_,_,h1.ofInt,h2.ofInt,z,k _ H (az.refl _) cq⟩
  ·cases e
 ·split at e
  ·rename_i z;cases e;obtain ⟨p,xs,rfl,hp,hx⟩:=h1.ofLst;exact .inr (.inl ⟨p,_,xs,rfl,h2.ofInt,aH _ _ hp,by omega,by omega,by rw [hx.length,sizeLine_eq];omega,fun r hr=>k _ _ (b8 hr) (kN hA hr (hx.rep _))⟩)
  ·cases e
 ·split at e
  ·rename_i z;cases e;obtain ⟨p,xs,rfl,hp,hx⟩:=h1.ofTup;refine .inr (.inr ⟨p,_,xs,rfl,h2.ofInt,SqT.of (aH _ _ hp),fun q=>z.1 ?_,z.2.1,z.2.2.1,by rw [hx.length];exact z.2.2.2,fun r hr=>k _ _ (b8 hr) (lS hA hr (hx.rep _))⟩);exact List.length_eq_zero_iff.mp (by rw [<-hx.length,q];rfl)
  ·cases e
 ·cases e
theorem jZ (ha:PD X E a ga) (hb:PD X E b gb):PD X E (.BinOp a .Mult b pos) (g2 dO ga gb):=gy ET ha hb (fh (nz.or (Hg.or Fl)))
end
section
variable {prog:Program} {w:World} {A:Around} {E:Value->Shared->Prop} {s:Shared}
theorem kP {t sl:Addr} {items:Array Value} {vl vu:Value} {lo hi:Option Int} {Q:Value->Shared->Prop} (ht:IsTup s.heap t items) (hs:s.heap.IsSliceOf sl vl vu .none) (pl:IsPart vl lo) (pu:IsPart vu hi)
  (hw:HT.sIx items.size 0 lo=0/\HT.sIx items.size items.size hi=items.size) (h:Q (.ref t) s):wpAny (model prog w) A (getItem (.ref t) (.ref sl)) Q E s:=by
 obtain ⟨os,hos,hcs,hds⟩:=id hs;have hTs:s.TypeIs (.ref sl) "slice":=⟨os,hos,hcs⟩
 unfold getItem
 try with_reducible refine wpAny_holding ?_
 first | refine wpAny_bind (wpAny_pure ?_) | skip
 refine wpAny_bind (wpAny_sequenceKey ht.typeIs (by decide) ?_);refine wpAny_bind (wpAny_callSpecial?_slot (name:=Str.ofString "__getitem__") ht.typeIs PyProof.Rows.slot_tuple_getitem
  (wpAny_call_entry PyProof.Rows.slot_tuple_getitem ht.typeIs entry_tuple_getitem ?_ (args_tuple_getitem _ _)))
 show wpAny _ _ (Builtin.Tuple.tupleItemsOf (.ref t) >>= _) _ _ s;refine wpAny_bind (tupleItemsOf_ ht ?_);refine wpAny_bind (wpAny_typeOf hTs ?_);rw [if_pos (by decide)];refine wpAny_bind (HT.i9 hs pl pu ?_);have hyes:(((HT.sIx items.size 0 lo:Nat):Int)==0&&(1:Int)==1&&(HT.sIx items.size items.size hi-HT.sIx items.size 0 lo)==items.size)=true:=by rw [hw.1,hw.2];simp
 show wpAny _ _ (if (((HT.sIx items.size 0 lo:Nat):Int)==0&&(1:Int)==1&&(HT.sIx items.size items.size hi-HT.sIx items.size 0 lo)==items.size)=true then _ else _) _ _ s;rw [if_pos hyes];refine wpAny_bind (m:=Builtin.Tuple.tupleIsExact (.ref t)) (wpAny_bind (wpAny_typeOf ht.typeIs (wpAny_pure ?_)));rw [if_pos (by decide)]
 first
  | exact wpAny_bind (wpAny_rule (wpAny_pure ⟨_,rfl,wpAny_pure h⟩))
  | (refine wpAny_bind (wpAny_rule ?_);trace_state;exact wpAny_pure ⟨_,rfl,wpAny_pure h⟩)
end
end L2
namespace L2
open PySem PySem.Spec PyProof.Rows
section
variable {X:Cx} {E:XK} {a b c e:Expr} {ga gb gc:Ds->Rs PyData} {pos:Pos} {es:List Expr} {gs:Ds->Rs (List PyData)}
def Hv (K:PySem.W.Frag):V->Option Int->Option Int->Hp->VK->Prop:=fun x lo hi H Q=>∃ a xs,x=.ref a/\SqT K H a xs/\(HT.sIx xs.length 0 lo=0/\HT.sIx xs.length xs.length hi=xs.length)/\Q (.ref a) H
theorem Ey:SlR X (Hv X.K):=by
 intro pins s σ H x v vl vu lo hi sl Q I rx hs pl pu h;obtain ⟨a,xs,rfl,hx,hw,q⟩:=h;cases rx;obtain ⟨its,r,ht,hz⟩:=I.tuple hx;have hlen:its.toArray.size=xs.length:=by rw [List.size_toArray,r.length]
 refine ⟨"tuple",_,PyProof.Rows.slot_tuple_getitem.lookup,ht.typeIs,?_⟩;exact kP ht hs pl pu (by rw [hlen];exact hw) ⟨.ref a,H,I,rfl,q⟩
def cutD (xs:List PyData) (lo hi:Option Int):List PyData:=(xs.drop (HT.sIx xs.length 0 lo)).take (HT.sIx xs.length xs.length hi-HT.sIx xs.length 0 lo)
def DZ:PyData->Option Int->Option Int->Option PyData
 | .list x,lo,hi=>some (.list (cutD x lo hi))
 | .tuple x,lo,hi=>some (.tuple (cutD x lo hi))
 | _,_,_=>none
def Bb:PyData->Rs (Option Int)
 | .int i=>.ok (some i)
 | _=>.no
def mG:Ds->Rs (Option Int):=fun _=>.ok none
def sZ (g:Ds->Rs PyData):Ds->Rs (Option Int):=fun δ=>(g δ).bind Bb
def IX (E:XK) (H:Hp) (r:Rs (Option Int)) (Q:Option Int->Hp->Prop):Prop:=match r with
 | .ok o=>∀ H',az H H'->Q o H'
 | .rz C=>∀ H',az H H'->E (.ref C) none H'
 | .no=>False
def oD (K:PySem.W.Frag) (E:XK) (g:Ds->Rs (Option Int)):TO:=fun σ H Q=>∃ A δ,dJ K H A δ σ/\IX E H (g δ) Q
def POD (X:Cx) (E:XK) (e:Option Expr) (g:Ds->Rs (Option Int)):Prop:=PO X e (oD X.K E g)
theorem PO.imp {e:Option Expr} {t t':TO} (h:PO X e t) (k:∀ σ H Q,t' σ H Q->t σ H Q):PO X e t':=fun pins s σ H Q I q=>h pins s σ H Q I (k σ H Q q)
theorem BE:POD X E none mG:=Eu.imp fun σ H Q qz3=>(by obtain ⟨A,δ,R,o⟩:=qz3;exact o H (az.refl _))
theorem AV (h:PD X E e ga):POD X E (some e) (sZ ga):=(Eh h).imp fun σ H Q ⟨A,δ,R,o⟩=>⟨A,δ,R,by
 unfold sZ at o;cases q:ga δ with
 | no=>rw [q] at o;exact o
 | rz C=>rw [q] at o;exact o
 | ok d =>
  rw [q] at o;cases d with
  | int i=>exact fun v H' s h=>⟨i,h.ofInt,o H' s⟩
  | _=>exact o.elim⟩
theorem oD.run {K:PySem.W.Frag} {g:Ds->Rs (Option Int)} {σ:St} {H:Hp} {A:List Addr} {δ:Ds} {Q:Option Int->Hp->Prop} (R:dJ K H A δ σ)
  (ok:∀ d,g δ=.ok d->∀ H',az H H'->dJ K H' A δ σ->Q d H') (rz:∀ C,g δ=.rz C->∀ H',az H H'->E (.ref C) none H') (no:g δ=.no->False):oD K E g σ H Q:=by
 refine ⟨A,δ,R,?_⟩;cases e:g δ with
 | ok d=>exact fun H' s=>ok d e H' s (R.same s)
 | rz C=>exact fun H' s=>rz C e H' s
 | no=>exact no e
def mQ (g:Ds->Rs PyData) (lo hi:Ds->Rs (Option Int)):Ds->Rs PyData:=fun δ=>(g δ).bind fun d=>(lo δ).bind fun l=>(hi δ).bind fun h=>Rs.eZ (DZ d l h)
theorem Iss.cut {K:PySem.W.Frag} {H:Hp} {ds:List PyData} {vs:List V} (h:Iss K H ds vs) (lo hi:Option Int):Iss K H (cutD ds lo hi) (vM vs lo hi):=by unfold cutD vM;rw [h.length];exact (h.drop _).take _
theorem CT {lo hi:Option Expr} {gl gh:Ds->Rs (Option Int)} {p2:Pos} (he:PD X E e ga) (hl:POD X E lo gl) (hh:POD X E hi gh):PD X E (.Subscript e (.Slice lo hi none p2) pos) (mQ ga gl gh) :=
 (Dh (E9.or (Hl.or Ey)) he hl hh).imp fun σ H Q pz3=>by
  obtain ⟨A,δ,R,o⟩:=pz3;unfold mQ at o;refine eD.run R (fun d ed v H1 s1 R1 hv=>?_) (fun C et H' s'=>by rw [et] at o;exact o H' s') (fun et=>by rw [et] at o;exact o);simp only [ed,Rs.aj] at o;refine oD.run R1 (fun l el H2 s2 R2=>?_) (fun C et H' s'=>by rw [et] at o;exact o H' (s1.trans s')) (fun et=>by rw [et] at o;exact o);simp only [el,Rs.aj] at o;refine oD.run R2 (fun h eh H3 s3 R3=>?_) (fun C et H' s'=>by rw [et] at o;exact o H' (s1.trans (s2.trans s'))) (fun et=>by rw [et] at o;exact o);simp only [eh,Rs.aj] at o;have hv3:=hv.same (s2.trans s3).del;have s13:=s1.trans (s2.trans s3);cases d with
  | list ds =>obtain ⟨p,xs,rfl,hp,hx⟩:=hv3.ofLst;exact .inl ⟨p,xs,rfl,SqL.of (aH _ _ hp),fun q hq=>o _ _ (s13.trans (b8 hq)) (kN R3.ls hq (hx.cut l h))⟩
  | tuple ds =>
   obtain ⟨p,xs,rfl,hp,hx⟩:=hv3.ofTup;by_cases hw:HT.sIx xs.length 0 l=0/\HT.sIx xs.length xs.length h=xs.length
   ·refine .inr (.inr ⟨p,xs,rfl,SqT.of (aH _ _ hp),hw,o _ _ s13 ?_⟩);have e:cutD ds l h=ds:=by unfold cutD;rw [<-hx.length,hw.1,hw.2];simp [hx.length]
    show Is X.K _ (.tuple (cutD ds l h)) _;rw [e];exact iL hp hx
   ·exact .inr (.inl ⟨p,xs,rfl,SqT.of (aH _ _ hp),hw,fun q hq=>o _ _ (s13.trans (b8 hq)) (lS R3.ls hq (hx.cut l h))⟩)
  | _=>exact o.elim
def toV:PyData->V
 | .none=>.non
 | .bool b=>.bl b
 | .int i=>.int i
 | .str x=>.str x
 | _=>.non
def inD (x:PyData) (xs:List PyData):Bool:=inV (toV x) (xs.map toV)
def AQ (neg:Bool):PyData->PyData->Option PyData
 | x,.list xs=>if gH x&&xs.all gH then some (.bool (if neg then !inD x xs else inD x xs)) else none
 | x,.tuple xs=>if gH x&&xs.all gH then some (.bool (if neg then !inD x xs else inD x xs)) else none
 | _,_=>none
theorem Is.flat {K:PySem.W.Frag} {H:Hp} {d:PyData} {v:V} (h:Is K H d v) (f:gH d=true):v=toV d/\jH v=true:=by
 cases d with
 | none=>rw [h.ofNone];exact ⟨rfl,rfl⟩
 | bool b=>rw [h.ofBool];exact ⟨rfl,rfl⟩
 | int i=>rw [h.ofInt];exact ⟨rfl,rfl⟩
 | str x=>rw [h.ofStr];exact ⟨rfl,rfl⟩
 | _=>cases f
theorem Iss.flat {K:PySem.W.Frag} {H:Hp}:∀ {ds:List PyData} {vs:List V},Iss K H ds vs->ds.all gH=true->vs=ds.map toV/\vs.all jH=true
 | [],_,h,_=>by rw [h.nil_of];exact ⟨rfl,rfl⟩
 | d::ds,_,h,f=>by rw [List.all_cons,Bool.and_eq_true] at f;obtain ⟨v,r,rfl,h1,h2⟩:=h.cons_of;obtain ⟨e1,f1⟩:=h1.flat f.1;obtain ⟨e2,f2⟩:=Iss.flat h2 f.2;exact ⟨by rw [e1,e2];rfl,by rw [List.all_cons,f1,f2];rfl⟩
theorem Ga {K:PySem.W.Frag} {neg:Bool}:OpD K (AQ neg) (rIn K neg):=fun d1 d2 d x y H A Q e hA h1 h2 k=>by
 unfold AQ at e;split at e
 ·split at e
  ·rename_i z;rw [Bool.and_eq_true] at z;cases e;obtain ⟨p,xs,rfl,hp,hx⟩:=h2.ofLst;obtain ⟨e1,f1⟩:=h1.flat z.1;obtain ⟨e2,f2⟩:=hx.flat z.2;refine ⟨p,xs,rfl,.inl (SqL.of (aH _ _ hp)),f1,f2,?_⟩;rw [e1,e2];exact k _ H (az.refl _) is_bool
  ·cases e
 ·split at e
  ·rename_i z;rw [Bool.and_eq_true] at z;cases e;obtain ⟨p,xs,rfl,hp,hx⟩:=h2.ofTup;obtain ⟨e1,f1⟩:=h1.flat z.1;obtain ⟨e2,f2⟩:=hx.flat z.2;refine ⟨p,xs,rfl,.inr (SqT.of (aH _ _ hp)),f1,f2,?_⟩;rw [e1,e2];exact k _ H (az.refl _) is_bool
  ·cases e
 ·cases e
theorem Im (ha:PD X E a ga) (hb:PD X E b gb) (hm:behindInMarks .In b=false:=by with_unfolding_all rfl):PD X E (.Compare a [.In] [b] pos) (g2 (AQ false) ga gb):=gy Ga ha hb fun h1 h2=>my z0 h1 h2 hm
def m8 (f f':PyData->PyData->Option PyData) (a b c:Ds->Rs PyData):Ds->Rs PyData:=fun δ=>(a δ).bind fun x=>(b δ).bind fun y=>(Rs.eZ (f x y)).bind fun z=>(truth z).bind fun t=>if t=true then (c δ).bind fun w=>Rs.eZ (f' y w) else .ok (.bool false)
theorem B9 {op op':CmpOp} {r r':R2} {f f':PyData->PyData->Option PyData} (ho:OpR X (compareOp op) r) (ho':OpR X (compareOp op') r') (hf:OpD X.K f r) (hf':OpD X.K f' r') (ha:PD X E a ga) (hb:PD X E b gb) (hc:PD X E c gc)
  (hm:lastMarks [op,op'] [b,c]=false:=by with_unfolding_all rfl):PD X E (.Compare a [op,op'] [b,c] pos) (m8 f f' ga gb gc):=(Ci ho ho' ha hb hc hm).imp fun σ H Q pz3=>by
 obtain ⟨A,δ,R,o⟩:=pz3;unfold m8 at o;refine eD.run R (fun d1 e1 v H1 s1 R1 h1=>?_) (fun C et H' s'=>by rw [et] at o;exact o H' s') (fun et=>by rw [et] at o;exact o);simp only [e1,Rs.aj] at o;refine eD.run R1 (fun d2 e2 u H2 s2 R2 h2=>?_) (fun C et H' s'=>by rw [et] at o;exact o H' (s1.trans s')) (fun et=>by rw [et] at o;exact o);simp only [e2,Rs.aj] at o;cases e3:f d1 d2 with
 | none=>rw [e3] at o;exact o.elim
 | some z =>
  simp only [e3,Rs.ar,Rs.aj] at o;refine hf d1 d2 z v u H2 A _ e3 R2.ls (h1.same s2.del) h2 fun w H3 s3 h3=>?_
  obtain ⟨t,rfl,o⟩:=rh o;refine ⟨t,h3.ofBool,?_⟩;cases t with
  | false=>exact o _ H3 (s1.trans (s2.trans s3)) is_bool
  | true =>
   have o:iA X.K E A H ((gc δ).bind fun w=>Rs.eZ (f' d2 w)) Q:=o;refine eD.run (R2.same s3) (fun d3 e4 w' H4 s4 R4 h4=>?_) (fun C et H' s'=>by rw [et] at o;exact o H' (s1.trans (s2.trans (s3.trans s')))) (fun et=>by rw [et] at o;exact o);simp only [e4,Rs.aj] at o;cases e5:f' d2 d3 with
   | none=>rw [e5] at o;exact o.elim
   | some d=>rw [e5] at o;exact hf' d2 d3 d u w' H4 A Q e5 R4.ls (h2.same (s3.trans s4).del) h4 fun x H5 s5 h5=>o x H5 (s1.trans (s2.trans (s3.trans (s4.trans s5)))) h5
theorem yK (ha:PD X E a ga) (hb:PD X E b gb) (hc:PD X E c gc) (hm:lastMarks [.LtE,.LtE] [b,c]=false:=by with_unfolding_all rfl):PD X E (.Compare a [.LtE,.LtE] [b,c] pos) (m8 dLe dLe ga gb gc):=B9 yX yX (jw fun _ _ _ _=>is_bool) (jw fun _ _ _ _=>is_bool) ha hb hc hm
end
section
variable {X:Cx} {E:XK} {tg a b c:Expr} {pos:Pos} {gs:Ds->Rs (List PyData)}
def Js (i j c:Int):Nat:=(Builtin.Range.rangeSize i j c).toNat
def GK (i j c:Int):Bool:=decide (-(1000000)<=i/\i<=1000000/\-(1000000)<=j/\j<=1000000/\-(1000000)<=c/\c<=1000000/\c≠0)&&Builtin.Range.small i j c
def G4 (lo c:Int) (n:Nat):List PyData:=(List.range n).map fun (i:Nat)=>PyData.int (lo+(i:Int)*c)
def HJ:List PyData->Rs (List PyData)
 | [.int i,.int j,.int c]=>if GK i j c then .ok (G4 i c (Js i j c)) else .no
 | _=>.no
def IP (g:Ds->Rs (List PyData)):Ds->Rs (List PyData):=fun δ=>(g δ).bind HJ
def tLR (ta:TA):TE:=fun σ H Q=>ta σ H fun vs H1=>∃ j:Int,vs=[.int j]/\0<=j/\j<=1000000/\∀ p,H1 p=none->Q (.ref p) (upd H1 p (.lst ((List.range j.toNat).map fun (i:Nat)=>V.int (i:Int))))
theorem Gk {pins:List (Addr×Obj)} {σ:St} {H1:Hp} {s2:Shared} {Q:VK} {j:Int} {h':Heap} {tk:Nat} {acc':Array Value} {c':Nat} (I2:Inv X pins σ H1 s2) (kk:∀ b o,s2.heap.get? b=some o->h'.get? b=some o)
 (hl:h'.get? s2.heap.objs.size=some { cls:=.type "list",dict:=none,data:=.seq acc' c',slots:=#[] }) (hi:ItemsOf (fun i v=>∃ t,v=.int ((0:Int)+(i:Int)*1) t) acc' j.toNat) (q1:0<=j) (q2:j<=1000000)
 (q:∀ p,H1 p=none->Q (.ref p) (upd H1 p (.lst ((List.range j.toNat).map fun (i:Nat)=>V.int (i:Int))))):EP X pins σ Q (.ref s2.heap.objs.size) { s2 with heap:=h',toks:=tk }:=by
 have hv:Vals ((List.range j.toNat).map fun (i:Nat)=>V.int (i:Int)) acc'.toList:=by
  have aux:∀ (l:List Value) (k:Nat),(∀ (m:Nat) v,l[m]?=some v->∃ t,v=.int ((0:Int)+((k+m:Nat):Int)*1) t)->Vals ((List.range' k l.length).map fun (i:Nat)=>V.int (i:Int)) l:=by
   intro l
   induction l with
   | nil=>intro k _;exact .nil
   | cons x r ih =>
    intro k hk;rw [List.length_cons,List.range'_succ,List.map_cons];refine .cons ?_ (ih (k+1) fun m v hm=>?_)
    ·obtain ⟨t,e⟩:=hk 0 x rfl;exact ⟨t,by rw [e];simp⟩
    ·obtain ⟨t,e⟩:=hk (m+1) v (by simpa using hm);exact ⟨t,by rw [e,show k+(m+1)=k+1+m by omega]⟩
  have h1:=aux acc'.toList 0 (fun m v hm=>by obtain ⟨t,e⟩:=hi.2 m v (by rw [<-Array.getElem?_toList];exact hm);exact ⟨t,by rw [e];simp⟩)
  rw [Array.length_toList,hi.1] at h1;rw [List.range_eq_range'];exact h1
 exact ⟨.ref s2.heap.objs.size,_,I2.laid (t':=tk) kk (Nat.le_refl _) (show dD X.prog X.w _ h' _ (.lst ((List.range j.toNat).map fun (i:Nat)=>V.int (i:Int))) from ⟨by rw [List.length_map,List.length_range,sizeLine_eq];omega,acc'.toList,c',hv,by simpa using hl⟩),rfl,q _ (I2.hok.fresh (Nat.le_refl _))⟩
theorem ug {ta:TA} {p p2 pos2:Pos} (hc:X.calm=true) (hg:Gl X "range") (hm:X.mg "range"=none) (hgl:Gl X "list") (hml:X.mg "list"=none) (ha:PA X [a] ta) (hs:starEach [a] X.env=[(false,eval a X.env)]:=by rfl)
  (hs2:starEach [.Call (.Name "range" p) [a] [] pos] X.env=[(false,eval (.Call (.Name "range" p) [a] [] pos) X.env)]:=by rfl) :
  PE X (.Call (.Name "list" p2) [.Call (.Name "range" p) [a] [] pos] [] pos2) (tLR ta):=by
 intro pins s σ H Q I h;refine Call_ (hV I hgl hml pf (PyProof.Rows.callWith_type1 ?_ hs2 rfl));rw [hs2];show wpAny _ _ (spliced ((false,eval (.Call (.Name "range" p) [a] [] pos) X.env)::backTo pos2 [])) _ _ s;refine Calls.spliced_cons (Call_ (hV I hg hm boot_range (PyProof.Rows.callWith_type1 (thn (ha pos pins s σ H _ I h) fun us s1 rz2=>?_) hs rfl)));obtain ⟨vs,H1,I1,r1,q1⟩:=rz2;obtain ⟨j,e,q1,q2,q⟩:=q1;subst e;cases r1 with
 | cons r rr =>
  cases rr;obtain ⟨t,rfl⟩:=r;refine call_range_1 (Calls.spliced_nil ?_);have e2:Builtin.Range.rangeSize 0 j 1=((j.toNat:Nat):Int):=by rw [rangeSize_one];split <;> omega
  refine call_list_range (n:=j.toNat) (I1.ok.hd hc) (IsRange.new ..) (small_one (by omega) (by omega) (by omega) (by omega)) e2 (by omega) fun h' tk acc' c' kk hl hi=>?_
  exact Gk (I1.kept fun b o e=>Heap.get?_push_of_some _ e) kk hl hi q1 q2 q
def uK:List PyData->Rs (List PyData)
 | [.int j]=>if 0<=j/\j<=1000000 then .ok (bX 0 j.toNat) else .no
 | _=>.no
def gLR (g:Ds->Rs (List PyData)):Ds->Rs (List PyData):=fun δ=>(g δ).bind uK
theorem zH {p p2 pos2:Pos} (hc:X.calm=true) (hm:X.mg "range"=none) (hml:X.mg "list"=none) (ha:PAD X E [a] gs) (hg:Gl X "range":=by rfl) (hgl:Gl X "list":=by rfl) (hs:starEach [a] X.env=[(false,eval a X.env)]:=by rfl)
  (hs2:starEach [.Call (.Name "range" p) [a] [] pos] X.env=[(false,eval (.Call (.Name "range" p) [a] [] pos) X.env)]:=by rfl):PLD X E (.Call (.Name "list" p2) [.Call (.Name "range" p) [a] [] pos] [] pos2) (gLR gs) :=
 (ug hc hg hm hgl hml ha.1 hs hs2).imp fun σ H Q pz3=>by
  obtain ⟨A,δ,R,o⟩:=pz3;unfold gLR at o;refine aD.run R (fun ds e vs H1 s1 R1 h1=>?_) (fun C e H' s'=>by rw [e] at o;exact o H' s') (fun e=>by rw [e] at o;exact o);simp only [e,Rs.aj] at o;unfold uK at o;split at o
  ·split at o
   ·rename_i j z;obtain ⟨v,rfl,h⟩:=kR h1;rw [h.ofInt];refine ⟨j,rfl,z.1,z.2,fun q hq=>o q _ _ (s1.free hq) (s1.trans (b8 hq)) aR ?_⟩;have:bX 0 j.toNat=((List.range j.toNat).map fun (i:Nat)=>(i:Int)).map PyData.int:=by unfold bX;rw [List.map_map];congr 1;funext i;simp
    rw [this,show ((List.range j.toNat).map fun (i:Nat)=>V.int (i:Int))=((List.range j.toNat).map fun (i:Nat)=>(i:Int)).map V.int by rw [List.map_map];rfl];exact wV _
   ·exact o.elim
  ·exact o.elim
end
theorem we (t:Addr) (xs:Array Value):Meets (Builtin.«enumerate.__new__» ⟨[.type "enumerate",.ref t],[]⟩) (fun _ R s=>s.heap.IsTuple t xs /\
   R (.ok (.ret (.ref (s.heap.push { cls:=.type "tuple_iterator",data:=.fields #[.ref t,.int 0 0] }).objs.size)))
    { s with heap:=(s.heap.push { cls:=.type "tuple_iterator",data:=.fields #[.ref t,.int 0 0] }).push { cls:=.type "enumerate",data:=.fields #[.none,.bool false,.ref s.heap.objs.size,rawInt 0,.none,.none] } }) :=
 .of_wp fun prog w A R s h=>by
  obtain ⟨hp,g,d,tk,os⟩:=s;obtain ⟨hl,h⟩:=h;have hsub:=sub_enumerate;have hL:Heap.IsTuple (Shared.heap ⟨hp,g,d,tk,os⟩) t xs:=hl
  wp_walk
  refine wpAny_stack_any fun st=>wpAny_pure ?_
  split
  ·rename_i c _ _ _ _ _;cases (c==Value.type "enumerate")
   ·wp_walk using wpAny_pyIter_tuple hL
    exact ⟨_,rfl,h⟩
   ·wp_walk using wpAny_pyIter_tuple hL
    exact ⟨_,rfl,h⟩
  ·wp_walk using wpAny_pyIter_tuple hL
   exact ⟨_,rfl,h⟩
theorem ye {prog:Program} {w:World} {A:Around} {E:Value->Shared->Prop} {s:Shared} {l:Addr} {items:Array Value} {Q:Value->Shared->Prop} (hL:s.heap.IsTuple l items)
  (h:∀ h',IsEnum h' (s.heap.objs.size+1) s.heap.objs.size 0 .none->h'.IsTupleIter s.heap.objs.size l 0->(∀ b o,s.heap.get? b=some o->h'.get? b=some o)->Q (.ref (s.heap.objs.size+1)) { s with heap:=h' }) :
  wpAny (model prog w) A (call (.type "enumerate") [.ref l]) Q E s:=by
 refine callType_new PySem.F.called_enumerate (by decide) (PySem.F.typeCall_enumerate_1 _) (PySem.F.newCall_enumerate_1 _) (fun obj=>PySem.F.args_object_init_2 obj _) PySem.F.entry_enumerate_new (we l items) ⟨hL,?_⟩;have hz:(s.heap.push { cls:=.type "tuple_iterator",data:=.fields #[.ref l,.int 0 0] }).objs.size=s.heap.objs.size+1:=Heap.size_push ..;show _/\_;rw [hz];have he:IsEnum ((s.heap.push { cls:=.type "tuple_iterator",data:=.fields #[.ref l,.int 0 0] }).push
   { cls:=.type "enumerate",data:=.fields #[.none,.bool false,.ref s.heap.objs.size,rawInt 0,.none,.none] }) (s.heap.objs.size+1) s.heap.objs.size 0 .none:=by
  have:=Heap.get?_push_size (s.heap.push { cls:=.type "tuple_iterator",data:=.fields #[.ref l,.int 0 0] })
   (o:={ cls:=.type "enumerate",data:=.fields #[.none,.bool false,.ref s.heap.objs.size,rawInt 0,.none,.none] }) rfl
  rw [hz] at this;exact this
 refine ⟨⟨_,he,rfl⟩,h _ he ⟨_,Heap.get?_push_of_some _ (Heap.get?_push_size _ rfl),rfl,rfl⟩ fun b o e=>Heap.get?_push_of_some _ (Heap.get?_push_of_some _ e)⟩
def Ite (P:Hp->List V->Prop) (n:Nat):It :=
 ⟨fun i H=>i<n/\∃ xs,P H xs/\xs.length=n,
  fun i H v H'=>∃ t x,v=.ref t/\H t=none/\H'=upd H t (.tup [.int i,x])/\∀ xs,P H xs->xs[i]?=some x,
  fun i H=>i=n/\∃ xs,P H xs/\xs.length=n⟩
theorem sr {P:Program} {w:World} {K:PySem.W.Frag} {elts:List Expr} {x1:Nat} {tp:Pos} {a e it:Addr} {n:Nat} {Pv:Hp->List V->Prop} {S:Nat->Heap->Prop} {B:Heap->Array Value->Prop} (hne:e≠it) (hea:e≠a)
  (hD:∀ (A:Around),A.handled=none->∀ its:Array Value,Draws P w A it [it,a] its.size (fun i v=>its[i]?=some v) (fun i h=>S i h/\B h its))
  (hB:∀ (X:Cx),X.prog=P->X.w=w->X.K=K->∀ {pins:List (Addr×Obj)} {s:Shared} {σ:St} {H:Hp} {xs:List V},Inv X pins σ H s->Pv H xs->∃ its:List Value,Vals xs its/\B s.heap its.toArray)
  (hI:∀ (X:Cx),X.prog=P->X.w=w->X.K=K->∀ {pins:List (Addr×Obj)} {s:Shared} {σ:St} {H:Hp} {xs ys:List V},Inv X pins σ H s->Pv H xs->Pv H ys->xs=ys)
  (hO:∀ i h,S i h->∃ o,h.get? it=some o/\∀ v,o.data≠.cell v) (hK:∀ i h h',S i h->(∀ o,h.get? it=some o->h'.get? it=some o)->S i h') :
  Turn P w K (.Tuple elts x1 tp) (Ite Pv n) [e,it] e (fun i h=>(∃ old,IsEnum h e it i old)/\S i h) where
 mem:=by simp
 obj:=fun i h st c hc=>by
  obtain ⟨⟨old,h1⟩,h2⟩:=st;simp only [List.mem_cons,List.not_mem_nil,or_false] at hc;rcases hc with rfl | rfl
  ·exact ⟨_,h1,fun v q=>by cases q⟩
  ·exact hO i h h2
 keep:=fun i h h' st k=>by obtain ⟨⟨old,h1⟩,h2⟩:=st;exact ⟨⟨old,k e (by simp) _ h1⟩,hK i h h' h2 fun o q=>k it (by simp) o q⟩
 item:=by
  intro X hP hw hKK hc i pins s σ H E I hf st hg;subst hP hw hKK;obtain ⟨hi,xs,hx,lx⟩:=hg;obtain ⟨⟨old,h1⟩,h2⟩:=st;obtain ⟨its,rv,hb⟩:=hB X rfl rfl rfl I hx;have la:=rv.length;refine wpAny_pyNext_enum_itemD (hD X.A.in1 (I.ok.hd hc) its.toArray) h1 ⟨h2,hb⟩ (by simp;omega) hne (by simp [hne,hea]) fun x h' tk px ho hs hT hsz hk=>⟨_,rfl,?_⟩
  refine wpAny_letOwnedTupleGo_enum (s:={ s with heap:=h',toks:=tk+1 }) ho fun h2' d1 d2=>?_
  have el:e<s.heap.objs.size:=Heap.lt_size h1;have il:it<s.heap.objs.size:=by obtain ⟨o,q,_⟩:=hO i _ h2;exact Heap.lt_size q
  have up:∀ c o,c≠e->h'.get? c=some o->h2'.get? c=some o:=fun c o hc q=>(d2.2 c hc).trans q
  obtain ⟨x0,ex,rx⟩:∃ x0,xs[i]?=some x0/\RelV x0 x:=by
   have hil:i<xs.length:=by omega
   obtain ⟨u',e1,e2⟩:=rv.get (List.getElem?_eq_getElem hil);refine ⟨xs[i],List.getElem?_eq_getElem hil,?_⟩;have px':its[i]?=some x:=by simpa using px
   rw [e1] at px';cases px';exact e2
  have fr:H s.heap.objs.size=none:=I.hok.fresh (Nat.le_refl _);refine ⟨.ref s.heap.objs.size,upd H s.heap.objs.size (.tup [.int i,x0]),?_,rfl,⟨_,x0,rfl,fr,rfl,fun ys h=>by rw [hI X rfl rfl rfl I h hx];exact ex⟩,?_,fun c hc'=>?_⟩
  ·refine I.turnLay (t':=tk+1) (ch:=[e,it]) hf (Nat.le_refl _) (fun c o hn q=>?_) ⟨by show 2<=sizeLine;decide,[.int i tk,x],.cons ⟨tk,rfl⟩ (.cons rx .nil),⟨_,up _ _ (Nat.ne_of_gt el) hT,rfl,rfl,_,rfl⟩⟩;simp only [List.mem_cons,List.not_mem_nil,or_false,not_or] at hn;exact up c o hn.1 (hk c o hn.1 hn.2 q)
  ·exact ⟨⟨x,by simpa using d1⟩,hK _ _ _ hs.1 fun o q=>up it o hne.symm q⟩
  ·have h0:=(hf c hc').1;simp only [List.mem_cons,List.not_mem_nil,or_false] at hc';rcases hc' with rfl | rfl
   ·rw [aI (Nat.ne_of_lt el)];exact h0
   ·rw [aI (Nat.ne_of_lt il)];exact h0
 done:=by
  intro X hP hw hKK hc i pins s σ H E I hf st hg;subst hP hw hKK;obtain ⟨hi,xs,hx,lx⟩:=hg;obtain ⟨⟨old,h1⟩,h2⟩:=st;obtain ⟨its,rv,hb⟩:=hB X rfl rfl rfl I hx;have la:=rv.length;have e':its.toArray.size=i:=by simp;omega
  refine wpAny_pyNext_enum_endD (hD X.A.in1 (I.ok.hd hc) its.toArray) h1 ⟨by rw [e'];exact h2,hb⟩ fun h' k=>⟨rfl,?_⟩
  refine I.turneds (t':=s.toks) (ch:=[e,it]) hf fun c o hn q=>?_
  simp only [List.mem_cons,List.not_mem_nil,or_false,not_or] at hn;exact k c o hn.2 q
 self:=fun _ _ _ _ _ st h=>by obtain ⟨⟨old,h1⟩,_⟩:=st;exact wpAny_pyIter_enum h1 h
theorem Em:bootBuiltins "enumerate"=some (.type "enumerate"):=by decide +kernel
def HB (K:PySem.W.Frag) (ta:TA):TI:=fun σ H R=>ta σ H fun vs H1=>∃ a xs,vs=[.ref a]/\((SqT K H1 a xs/\R (Ite (fun H ys=>SqT K H a ys) xs.length) H1)\/(SqL K H1 a xs/\R (Ite (fun H ys=>SqL K H a ys) xs.length) H1))
theorem EW {X:Cx} {elts:List Expr} {x1:Nat} {tp:Pos} {a:Expr} {ta:TA} {p pos:Pos} (hg:Gl X "enumerate") (hm:X.mg "enumerate"=none) (ha:PA X [a] ta) (hs:starEach [a] X.env=[(false,eval a X.env)]:=by rfl) :
  PI X (.Tuple elts x1 tp) (.Call (.Name "enumerate" p) [a] [] pos) (HB X.K ta):=by
 intro pins s σ H R I h;refine Call_ (hV I hg hm Em (PyProof.Rows.callWith_type1 (thn (ha pos pins s σ H _ I h) fun us s1 rz2=>?_) hs rfl));obtain ⟨vs,H1,I1,r1,q1⟩:=rz2;obtain ⟨aa,xs,e,q⟩:=q1;subst e;obtain ⟨u1,e1,r2⟩:=vals1 r1;subst e1;cases r2;have big:∀ c∈[s1.heap.objs.size+1,s1.heap.objs.size],s1.heap.objs.size<=c:=fun c hc=>by
  simp only [List.mem_cons,List.not_mem_nil,or_false] at hc;rcases hc with rfl | rfl
  ·exact Nat.le_succ _
  ·exact Nat.le_refl _
 have nes:s1.heap.objs.size+1≠s1.heap.objs.size:=Nat.succ_ne_self _;rcases q with ⟨hx,q⟩ | ⟨hx,q⟩
 ·obtain ⟨its,rv,pt,_⟩:=I1.tuple hx;have pt':s1.heap.IsTuple aa its.toArray:=pt;have al:aa<s1.heap.objs.size:=by obtain ⟨_,g,_⟩:=pt';exact Heap.lt_size g
  refine ye pt' fun h' he hit kk=>wpAny_pyIter_enum he ?_
  have I2:Inv X pins σ H1 { s1 with heap:=h' }:=I1.kept (t':=s1.toks) kk;refine ⟨_,_,_,_,H1,rfl,I2,sr (a:=aa) (S:=fun i h=>h.IsTupleIter s1.heap.objs.size aa i) (B:=fun h its=>h.IsTuple aa its) nes (Nat.ne_of_gt (Nat.lt_succ_of_lt al)) (fun A hh its=>nP hh s1.heap.objs.size aa (Nat.ne_of_lt al) its)
   (fun X' _ _ hK {_ _ _ _ _} I h=>?_) (fun X' _ _ hK {_ _ _ _ _ _} I h1 h2=>?_) (fun i h st=>?_) (fun i h h'' st k=>?_),⟨⟨_,he⟩,hit⟩,fun c hc=>I1.fpOk (big c hc) (I1.hok.fresh (big c hc)),q⟩
  ·rw [<-hK] at h;obtain ⟨its,rv,p,_⟩:=I.tuple h;exact ⟨its,rv,p⟩
  ·rw [<-hK] at h1 h2;exact I.tuple_inj h1 h2
  ·obtain ⟨o,g,_,d⟩:=st;exact ⟨o,g,fun v q=>by rw [d] at q;cases q⟩
  ·obtain ⟨o,g,r⟩:=st;exact ⟨o,k o g,r⟩
 ·obtain ⟨its,rv,pl,_⟩:=I1.list hx;have al:aa<s1.heap.objs.size:=by obtain ⟨_,_,g,_⟩:=pl;exact Heap.lt_size g
  refine call_enumerate_list pl.isList fun h' he hit hz kk=>wpAny_pyIter_enum he ?_
  have I2:Inv X pins σ H1 { s1 with heap:=h' }:=I1.kept (t':=s1.toks) kk;refine ⟨_,_,_,_,H1,rfl,I2,sr (a:=aa) (S:=fun i h=>h.IsListIter s1.heap.objs.size aa i) (B:=fun h its=>h.IsList aa its) nes (Nat.ne_of_gt (Nat.lt_succ_of_lt al)) (fun A hh its=>Draws.list hh s1.heap.objs.size aa (Nat.ne_of_lt al) its)
   (fun X' _ _ hK {_ _ _ _ _} I h=>?_) (fun X' _ _ hK {_ _ _ _ _ _} I h1 h2=>?_) (fun i h st=>?_) (fun i h h'' st k=>?_),⟨⟨_,he⟩,hit⟩,fun c hc=>I1.fpOk (big c hc) (I1.hok.fresh (big c hc)),q⟩
  ·rw [<-hK] at h;obtain ⟨its,rv,p,_⟩:=I.list h;exact ⟨its,rv,p.isList⟩
  ·rw [<-hK] at h1 h2;exact I.list_inj h1 h2
  ·obtain ⟨o,g,_,d⟩:=st;exact ⟨o,g,fun v q=>by rw [d] at q;cases q⟩
  ·obtain ⟨o,g,r⟩:=st;exact ⟨o,k o g,r⟩
def ja (ds:List PyData):List PyData:=ds.mapIdx fun i d=>.tuple [.int i,d]
theorem kJ (ds:List PyData):(ja ds).length=ds.length:=by simp [ja]
theorem tw {K:PySem.W.Frag} {G:Hp} {Pv:Hp->List V->Prop} {xs:List V} {ds:List PyData} (h:Iss K G ds xs) (hp:∀ H1,az G H1->Pv H1 xs):AA K (Ite Pv xs.length) (ja ds) G:=fun H1 B s lB hB=>by have hl:=h.length;rw [kJ];refine ⟨fun i hi=>⟨by omega,xs,hp H1 s,rfl⟩,⟨hl.symm,xs,hp H1 s,rfl⟩,fun i x H2 hi y=>?_⟩;obtain ⟨t,x0,rfl,ht,rfl,hx⟩:=y;obtain ⟨d,e,hd⟩:=h.get (hx xs (hp H1 s));refine ⟨b8 ht,.tuple [.int i,d],by unfold ja;rw [List.getElem?_mapIdx,e];rfl,?_⟩;have nb:t∉B:=lB.new ht;exact iL (by rw [aW nb];exact aR) (cW cq (jt (hd.same (fun b o q=>by have q1:=s b o q;have nt:b≠t:=aT q1 ht;rw [aW (fun z=>by rw [hB b z] at q;cases q),aI nt];exact q1))))
section
variable {X:Cx} {E:XK} {a b c e k:Expr} {ga gb gk:Ds->Rs PyData} {pos:Pos} {es:List Expr} {gs:Ds->Rs (List PyData)} {O:List Nat}
def rN:List PyData->Rs (List PyData)
 | [.list ds]=>.ok (ja ds)
 | [.tuple ds]=>.ok (ja ds)
 | _=>.no
def lU (g:Ds->Rs (List PyData)):Ds->Rs (List PyData):=fun δ=>(g δ).bind rN
theorem rM {elts:List Expr} {x1:Nat} {tp p:Pos} (hm:X.mg "enumerate"=none) (ha:PAD X E [a] gs) (hg:Gl X "enumerate":=by rfl) (hs:starEach [a] X.env=[(false,eval a X.env)]:=by rfl) :
  PID X E (.Tuple elts x1 tp) (.Call (.Name "enumerate" p) [a] [] pos) (lU gs):=(EW hg hm ha.1 hs).imp fun σ H R ⟨A,δ,Rp,o⟩=>yz Rp o fun ds vs H1 e s1 R1 h1 o=>by
 unfold rN at o;split at o
 ·obtain ⟨v,rfl,h⟩:=kR h1;obtain ⟨p,xs,rfl,hp,hx⟩:=h.ofLst;exact ⟨p,xs,rfl,.inr ⟨SqL.of (aH _ _ hp),o _ H1 (az.refl _) (tw hx fun H2 s2=>SqL.of (s2 _ _ hp))⟩⟩
 ·obtain ⟨v,rfl,h⟩:=kR h1;obtain ⟨p,xs,rfl,hp,hx⟩:=h.ofTup;exact ⟨p,xs,rfl,.inl ⟨SqT.of (aH _ _ hp),o _ H1 (az.refl _) (tw hx fun H2 s2=>SqT.of (s2 _ _ hp))⟩⟩
 ·exact o.elim
def ji (y x:Nat) (gk:Ds->Rs PyData):Ds->Sr:=fun δ=>match δ[y]?,δ[x]? with
 | some (some (.list ys)),some (some (.list xs))=>ofR (gk δ) fun k=>match k with
  | .int k=>if -(1000000)<=k/\k<=1000000/\ys.length<1000000 then (match ixN xs.length k with
   | some j=>match xs[j]? with
    | some d=>.nx ((δ.set x (some (.list (xs.eraseIdx j)))).set y (some (.list (ys++[d]))))
    | none=>.no
   | none=>.no) else .no
  | _=>.no
 | _,_=>.no
theorem xH {y x:Nat} {ny nx:Str} {py pa pc px pb pd:Pos} (hk:PD X E k gk) (hyx:x≠y:=by decide) (hOy:y∈O:=by decide) (hOx:x∈O:=by decide) (hiy:X.N[y]?=some ny:=by rfl) (hix:X.N[x]?=some nx:=by rfl)
  (hvy:Vis X.env.scope ny:=by first | exact Or.inl rfl | exact Or.inr (Or.inl rfl) | exact Or.inr (Or.inr rfl)) (hvx:Vis X.env.scope nx:=by first | exact Or.inl rfl | exact Or.inr (Or.inl rfl) | exact Or.inr (Or.inr rfl))
  (hdy:(ny==("__debug__":Str))=false:=by decide) (hcdy:(ny==("__classdict__":Str))=false:=by decide) (hdx:(nx==("__debug__":Str))=false:=by decide) (hcdx:(nx==("__classdict__":Str))=false:=by decide)
  (hst:starEach [k] X.env=(false,eval k X.env)::starEach [] X.env:=by rfl) (hst2:starEach [.Call (.Attribute (.Name nx px) "pop" pb) [k] [] pd] X.env=(false,eval (.Call (.Attribute (.Name nx px) "pop" pb) [k] [] pd) X.env)::starEach [] X.env:=by rfl)
  (hbase:attributeBase (.Name nx px) "pop" X.env (eval (.Name nx px) X.env)=eval (.Name nx px) X.env:=by rfl) (hbase2:attributeBase (.Name ny py) "append" X.env (eval (.Name ny py) X.env)=eval (.Name ny py) X.env:=by rfl)
  (hfew:((backTo pd (starEach [k] X.env)).all (fun x=>!x.1)&&(backToKw pd (keywordEach [] X.env)).all (fun x=>x.1.isSome)&&decide (([k]:List Expr).length+([]:List Keyword).length+(if ([]:List Keyword).isEmpty then 0 else 1)<30))=true:=by rfl)
  (hfew2:((backTo pc (starEach [.Call (.Attribute (.Name nx px) "pop" pb) [k] [] pd] X.env)).all (fun x=>!x.1)&&(backToKw pc (keywordEach [] X.env)).all (fun x=>x.1.isSome)&&decide (([.Call (.Attribute (.Name nx px) "pop" pb) [k] [] pd]:List Expr).length+([]:List Keyword).length+(if ([]:List Keyword).isEmpty then 0 else 1)<30))=true:=by rfl)
  (hline:(pb.endLine==pd.line)=true:=by rfl) (hline2:(pa.endLine==pc.line)=true:=by rfl)
  (hs:swapsWith (.Call (.Attribute (.Name ny py) "append" pa) [.Call (.Attribute (.Name nx px) "pop" pb) [k] [] pd] [] pc) none pos.line X.env=pure false:=by rfl) :
  PSD X E O (.Expr (.Call (.Attribute (.Name ny py) "append" pa) [.Call (.Attribute (.Name nx px) "pop" pb) [k] [] pd] [] pc) pos) (ji y x gk) :=
 (oZ (B3 PySem.F.plainAttrs_list PySem.F.slot_list_append PySem.F.type_list_append nX (lI hiy hvy hdy hcdy) (eO (B3 PySem.F.plainAttrs_list PySem.F.slot_list_pop PySem.F.type_list_pop Bi (lI hix hvx hdx hcdx) (eO hk ip hst) hbase hfew hline hst rfl) ip hst2) hbase2 hfew2 hline2 hst2 rfl) hs).imp fun D σ H pz3=>by
  obtain ⟨H0,A0,A,δ,R,o⟩:=pz3;unfold ji at o;split at o
  ·rename_i ys xs qy qx;obtain ⟨p,vy,dy,e1,hp,hl,e2,hx⟩:=R.ownL hOy qy;cases e2;obtain ⟨r,vx,dx,f1,hr,hm,f2,hz⟩:=R.ownL hOx qx;cases f2;have npr:p≠r:=fun z=>hyx (R.inj x y _ _ p hOx hOy qx qy (by rw [z];exact f1) e1)
   refine ⟨_,e1,tyL hl,_,f1,tyL hm,?_⟩;refine eD.run R.full (fun kd ek u H1 s1 R1 hu=>?_) (fun C et H' s'=>by rw [et] at o;exact o H' (R.same.trans s')) (fun et=>by rw [et] at o;exact o);simp only [ek,aL] at o;split at o
   ·rename_i kk;split at o
    ·rename_i hb;split at o
     ·rename_i j hj;split at o
      ·rename_i d hd;obtain ⟨w,hw,hwd⟩:=hz.getD hd;have hj':=hj;obtain ⟨g1,g2,g3,g4⟩:=uM hj;have RS:=R.step s1;have RS2:=RS.put (ds:=xs.eraseIdx j) (ys:=vx.eraseIdx j) hOx qx f1 hr ((hz.same s1.del).eraseIdx j);refine ⟨r,vx,kk,j,w,rfl,by rw [hu.ofInt],s1 _ _ hm,by omega,by omega,by rw [hz.length];exact g1,hw,?_⟩;have dU:del (upd H1 r (.lst (vx.eraseIdx j))) (A++A0)=del H1 (A++A0):=kK (List.mem_append_left _ hr);refine ⟨p,vy,w,rfl,rfl,by rw [aI npr];exact s1 _ _ hl,by rw [hx.length,sizeLine_eq];omega,?_⟩;refine o A _ _ (RS2.put (ds:=ys++[d]) hOy (by rw [List.getElem?_set_ne hyx];exact qy) e1 hp ?_);rw [dU];exact (hx.same s1.del).append (jt (hwd.same s1.del))
      ·exact o.elim
     ·exact o.elim
    ·exact o.elim
   ·exact o.elim
  ·exact o.elim
end
theorem wN:isSubtype (.type "tuple") (.type "set")=pure false:=by rw [isSubtype_type];kernel_rfl
theorem vE:isSubtype (.type "tuple") (.type "frozenset")=pure false:=by rw [isSubtype_type];kernel_rfl
section
variable {prog:Program} {w:World} {A:Around} {E:Value->Shared->Prop} {s:Shared}
def seen (ns:List Int) (n:Nat):List Int:=firstMet (fun i=>ns.getD i 0) n
theorem AE {tu:Addr} {its:Array Value} {ns:List Int} {Q:Value->Shared->Prop} (hh:A.handled=none) (ht:s.heap.IsTuple tu its) (hi:IntsAre its.toList ns) (hb:its.size+1<scanBound)
  (hQ:∀ (h':Heap) (tk:Nat),h'.SetOf (intKind prog w) s.heap.objs.size (fun k=>(seen ns its.size).any (·==k)) (seen ns its.size).length->(∀ b o,b<s.heap.objs.size->s.heap.get? b=some o->h'.get? b=some o)->Q (.ref s.heap.objs.size) { s with heap:=h',toks:=tk }) :
  wpAny (model prog w) A (call (.type "set") [.ref tu]) Q E s:=by
 obtain ⟨c,tl,mro⟩:=PySem.F.called_set.mro;have m1:=PySem.F.called_set.made;have m2:=PySem.F.called_set.sub;refine wpAny_call (codeAny_of_tree ?_);show wpAny _ _ (callAny (.type "set") _) _ _ _;refine wpAny_pure ⟨Code.quiet_builtin _ (by decide +kernel),codeAny_builtin PySem.F.entry_type_call ?_⟩;rw [Around.under_plain (weight_type_call_type "set" [.ref tu] []) rfl];have m3:=PySem.F.called_set.notType;have m4:=PySem.F.called_set.canCreate;have m5:=PySem.F.typeCall_set_1 (.ref tu)
 repeat (any_goals (first | assumption | wp_step))
 refine codeAny_mono (PySem.code_set_new_1 (.ref tu) (E:=E) (Q₁:=fun ob s1=>∃ led:Bool,ob=.ref s.heap.objs.size/\s1={ s with heap:=s.heap.push { cls:=.type "set",dict:=none,data:=.set #[] 0 (.fresh 0 0 led) } }) fun led=>⟨led,rfl,rfl⟩) fun r s1 hr=>?_
 cases r with
 | error ev=>exact hr
 | ok fl =>
  cases fl with
  | ret ob =>
   obtain ⟨led,rfl,rfl⟩:=hr;have gS:(s.heap.push { cls:=.type "set",dict:=none,data:=.set #[] 0 (.fresh 0 0 led) }).get? s.heap.objs.size=some { cls:=.type "set",dict:=none,data:=.set #[] 0 (.fresh 0 0 led) }:=Heap.get?_push_size _ rfl;have tS:Shared.TypeIs { s with heap:=s.heap.push { cls:=.type "set",dict:=none,data:=.set #[] 0 (.fresh 0 0 led) } } (.ref s.heap.objs.size) "set":=⟨_,gS,rfl⟩
   have m6:=PySem.F.called_set.init.lookup;have m7:=PySem.F.called_set.init.bind (.ref s.heap.objs.size)
   repeat (any_goals (first | assumption | wp_step))
   refine codeAny_mono (codeAny_call_builtin (R:=wants (fun rv s2=>rv=.none/\∃ h' tk,s2={ s with heap:=h',toks:=tk }/\h'.SetOf (intKind prog w) s.heap.objs.size (fun k=>(seen ns its.size).any (·==k)) (seen ns its.size).length /\
     (∀ b o,b<s.heap.objs.size->s.heap.get? b=some o->h'.get? b=some o)) E) PySem.F.called_set.init.plain PySem.F.entry_set_init (PySem.check_set_init_1 tS ?_)) fun r2 s2 hr2=>?_
   ·obtain ⟨⟨oc,od,oda,osl⟩,go,gc,gn,gd⟩:=ht;simp only at gc gd;subst gc;subst gd;have go':(s.heap.push { cls:=.type "set",dict:=none,data:=.set #[] 0 (.fresh 0 0 led) }).get? tu=some { cls:=.type "tuple",dict:=od,data:=.seq its gn,slots:=osl }:=Heap.get?_push_of_some _ go;have n1:=wN;have n2:=vE;have n3:(Value.type "tuple"==Value.type "dict")=false:=by decide
    have t1:(s.heap.push { cls:=.type "set",dict:=none,data:=.set #[] 0 (.fresh 0 0 led) }).IsTuple tu its:=⟨_,go',rfl,gn,rfl⟩
    unfold Builtin.«set.__init__» noKeywords Builtin.Frozenset.updateFrom;generalize zz:pyIter=PI
    wp_walk
    subst zz;refine wpAny_pyIter_tuple t1 (wpAny_bind (wpAny_runValue ?_));have tl':tu<s.heap.objs.size:=Heap.lt_size go;have h3:A.in1.in1.in1.handled=none:=by simp [hh]
    have ne1:tu≠(s.heap.push { cls:=.type "set",dict:=none,data:=.set #[] 0 (.fresh 0 0 led) }).objs.size:=by rw [Heap.size_push];exact Nat.ne_of_lt (Nat.lt_succ_of_lt tl')
    have nSf:s.heap.objs.size∉[(s.heap.push { cls:=.type "set",dict:=none,data:=.set #[] 0 (.fresh 0 0 led) }).objs.size,tu]:=by rw [Heap.size_push];simp only [List.mem_cons,List.mem_singleton,List.not_mem_nil,or_false,not_or];exact ⟨Nat.ne_of_lt (Nat.lt_succ_self _),Nat.ne_of_gt tl'⟩
    have vv:∀ (i:Nat) (v:Value),its[i]?=some v->∃ t,v=.int ((fun i=>ns.getD i 0) i) t:=fun i v hv=>IntsAre.int_at hi i v (by rw [Array.getElem?_toList];exact hv)
    refine codeAny_set_update_loopS ((Walks.tuple h3 _ tu ne1 its).toS) s.heap.objs.size nSf (fun i=>ns.getD i 0) vv hb (its.size-0) 0 _ (by omega) (Nat.zero_le _) ⟨⟨_,Heap.get?_push_size _ rfl,rfl,rfl⟩,⟨_,Heap.get?_push_of_some _ go',rfl,gn,rfl⟩⟩ ?_ ?_
    ·have gg:((s.heap.push { cls:=.type "set",dict:=none,data:=.set #[] 0 (.fresh 0 0 led) }).push { cls:=.type "tuple_iterator",data:=.fields #[.ref tu,.int 0 0] }).get? s.heap.objs.size=some { cls:=.type "set",dict:=none,data:=.set #[] 0 (.fresh 0 0 led) }:=Heap.get?_push_of_some _ gS;exact SetOf_congr ((setObjOf_fresh (knd:=intKind prog w) led).setOf gg (by unfold scanBound;omega)) (fun _=>rfl) rfl
    ·intro s' mv hS';obtain ⟨h',g',d',tk',os'⟩:=s';have e1:g'=s.gens:=mv.gens;have e2:d'=s.drawn:=mv.drawn;have e3:os'=s.os:=mv.os;subst e1;subst e2;subst e3;show wpAny _ _ _ _ _ _;refine wpAny_pure ?_;show wpAny _ _ (ret Value.none) _ _ _;refine wpAny_pure ⟨rfl,h',tk',rfl,hS',fun b o hb e=>?_⟩;have b2:b≠(s.heap.push { cls:=.type "set",dict:=none,data:=.set #[] 0 (.fresh 0 0 led) }).objs.size:=by rw [Heap.size_push];exact Nat.ne_of_lt (Nat.lt_succ_of_lt hb)
     exact mv.heap b o (by simp only [List.mem_cons,List.mem_singleton,List.not_mem_nil,or_false,not_or];exact ⟨Nat.ne_of_lt hb,b2⟩) (Heap.get?_push_of_some _ (Heap.get?_push_of_some _ e))
   ·cases r2 with
    | error ev=>exact hr2
    | ok fl2 =>
     cases fl2 with
     | ret rv =>
      obtain ⟨rfl,h',tk,rfl,hS',kk⟩:=hr2
      repeat (any_goals (first | assumption | wp_step))
      exact hQ _ _ hS' kk
     | _=>exact hr2.elim
  | _=>exact hr.elim
end
section
variable {X:Cx} {E:XK} {a b c e:Expr} {ga gb gc:Ds->Rs PyData} {pos:Pos} {es:List Expr} {gs:Ds->Rs (List PyData)}
theorem FG:bootBuiltins "set"=some (.type "set"):=by decide +kernel
def tLS (K:PySem.W.Frag) (ta:TA):TE:=fun σ H Q=>ta σ H fun vs H1=>∃ (p:Addr) (ns:List Int),vs=[.ref p]/\SqT K H1 p (ns.map V.int)/\ns.length<=1000/\Q (.int (seen ns ns.length).length) H1
theorem zL {ta:TA} {p p2 pos2:Pos} (hc:X.calm=true) (hg:Gl X "set") (hm:X.mg "set"=none) (hgl:Gl X "len") (hml:X.mg "len"=none) (ha:PA X [a] ta) (hs:starEach [a] X.env=[(false,eval a X.env)]:=by rfl)
  (hs2:starEach [.Call (.Name "set" p) [a] [] pos] X.env=(false,eval (.Call (.Name "set" p) [a] [] pos) X.env)::starEach [] X.env:=by rfl) (hpl:(backTo pos2 (starEach [] X.env)).any (·.1)=false:=by rfl) :
  PE X (.Call (.Name "len" p2) [.Call (.Name "set" p) [a] [] pos] [] pos2) (tLS X.K ta):=by
 intro pins s σ H Q I h;refine wpAny_Call_Name_kw (hV I hgl hml PySem.boot_len ?_);refine PyProof.Rows.callWith_builtin1 ?_ hs2 hpl;rw [hs2];show wpAny _ _ (spliced ((false,eval (.Call (.Name "set" p) [a] [] pos) X.env)::backTo pos2 [])) _ _ s;refine Calls.spliced_cons (Call_ (hV I hg hm FG (PyProof.Rows.callWith_type1 (thn (ha pos pins s σ H _ I h) fun us s1 rz2=>?_) hs rfl)));obtain ⟨vs,H1,I1,r1,q1⟩:=rz2;obtain ⟨q,ns,e,hq,hz,fin⟩:=q1;subst e;obtain ⟨u,rfl,ru⟩:=vals1 r1;cases ru;obtain ⟨its,rv,pt,_⟩:=I1.tuple hq;have hl:=rv.length;rw [List.length_map] at hl;refine AE (I1.ok.hd hc) (show s1.heap.IsTuple q its.toArray from pt) (intsAre_of rv) (by rw [List.size_toArray];unfold scanBound;omega) fun h' tk hS kk=>Calls.spliced_nil ?_
 have I2:Inv X pins σ H1 { s1 with heap:=h',toks:=tk }:=I1.kept fun b o e=>kk b o (Heap.lt_size e) e
 have esz:its.toArray.size=ns.length:=by rw [List.size_toArray];exact hl.symm
 rw [esz] at hS;obtain ⟨o,es',ep,t,ho,ex,hd,_,_,hb,hf,hsz⟩:=hS;refine PySem.call_len_set ho ex hd hf (by unfold scanBound at hb;omega) ⟨.int (seen ns ns.length).length,H1,I2.tok _,⟨_,by rw [hsz]⟩,fin⟩
def l0:List PyData->Option PyData
 | [.tuple x]=>(f9 x).bind fun ns=>if ns.length<=1000 then some (.int (seen ns ns.length).length) else none
 | _=>none
theorem AF {p p2 pos2:Pos} (hc:X.calm=true) (hm:X.mg "set"=none) (hml:X.mg "len"=none) (ha:PAD X E [a] gs) (hg:Gl X "set":=by rfl) (hgl:Gl X "len":=by rfl) (hs:starEach [a] X.env=[(false,eval a X.env)]:=by rfl)
  (hs2:starEach [.Call (.Name "set" p) [a] [] pos] X.env=(false,eval (.Call (.Name "set" p) [a] [] pos) X.env)::starEach [] X.env:=by rfl) (hpl:(backTo pos2 (starEach [] X.env)).any (·.1)=false:=by rfl) :
  PD X E (.Call (.Name "len" p2) [.Call (.Name "set" p) [a] [] pos] [] pos2) (gF l0 gs):=(zL hc hg hm hgl hml ha.1 hs hs2 hpl).imp fun σ H Q ⟨A,δ,R,o⟩=>vk R o fun ds vs H1 e s1 R1 h1 o=>by
 unfold l0 at o;split at o
 ·rename_i x;cases q:f9 x with
  | none=>rw [q] at o;exact o.elim
  | some ns =>
   rw [q] at o;obtain ⟨v,rfl,hh⟩:=kR h1;obtain ⟨p,xs,rfl,hp,hx⟩:=hh.ofTup;rw [eS q] at hx;rw [hx.ofInts] at hp;by_cases z:ns.length<=1000
   ·simp only [Option.bind_some,if_pos z] at o;exact ⟨p,ns,rfl,SqT.of (aH _ _ hp),z,o _ H1 (az.refl _) cq⟩
   ·simp only [Option.bind_some,if_neg z] at o;exact o.elim
 ·exact o.elim
end
open AutoSeq1 (wpAny_loadPart')
open SeqAt (EqAt)
theorem wD {prog:Program} {w:World} {A:Around} {E:Value->Shared->Prop} {s:Shared} {its:Array Value} {x:Value} {e:Value->Bool} {j:Nat} {Q:Option PySem.Fin×Unit->Shared->Prop} (hj:j<its.size) (hit:e its[j]=true) (hno:∀ m (hm:m<its.size),m<j->e its[m]=false)
  (he:∀ y,y∈its->EqAt A s y x (e y)) (hQ:Q (some (.done (.ret (.int j s.toks))),()) { s with toks:=s.toks+1 }):∀ (k i m:Nat),i+k=j->j<i+m ->
  wpAny (model prog w) A (forIn (List.range' i m) ((none:Option PySem.Fin),()) fun (i:Nat) _=>match its[i]? with
   | some y=>do
    let b <-eqBool y x
    if b=true then do
      let r <-retInt (i:Int)
      pure (ForInStep.done (some r,()))
     else pure (ForInStep.yield (none,()))
   | _=>pure (ForInStep.yield (none,()))) Q E s
 | 0,i,0,h1,h2=>by omega
 | 0,i,m+1,h1,h2=>by
  have:i=j:=by omega
  subst this;rw [List.range'_succ,List.forIn_cons];have q:its[i]?=some its[i]:=by simp [hj]
  simp only [q];refine wpAny_bind (wpAny_bind (he _ (Array.getElem_mem hj) prog w _ _ ?_));rw [hit,if_pos rfl];unfold retInt;exact wpAny_bind (wpAny_bind (wpAny_mkInt (wpAny_pure (wpAny_pure (wpAny_pure hQ)))))
 | k+1,i,0,h1,h2=>by omega
 | k+1,i,m+1,h1,h2=>by
  have hi:i<its.size:=by omega
  rw [List.range'_succ,List.forIn_cons];have q:its[i]?=some its[i]:=by simp [hi]
  simp only [q];refine wpAny_bind (wpAny_bind (he _ (Array.getElem_mem hi) prog w _ _ ?_));rw [hno i hi (by omega),if_neg Bool.false_ne_true];exact wpAny_pure (wD hj hit hno he hQ k (i+1) m (by omega) (by omega))
theorem zF (tu:Addr) (its:Array Value) (n:Nat) (dd:Option Addr) (sl:Array (Option Value)) (x:Value) (e:Value->Bool) (j:Nat) (hj:j<its.size) (hit:e its[j]=true) (hno:∀ m (hm:m<its.size),m<j->e its[m]=false) :
  Meets (Builtin.«tuple.index» ⟨[.ref tu,x],[]⟩)
   (fun A R s=>s.heap.get? tu=some { cls:=.type "tuple",dict:=dd,data:=.seq its n,slots:=sl }/\(∀ y,y∈its->EqAt A.in1 s y x (e y))/\R (.ok (.ret (.int j s.toks))) { s with toks:=s.toks+1 }):=by
 intro prog w A R s hs;obtain ⟨hp,g,d,tk,os⟩:=s;obtain ⟨hl,he,hR⟩:=hs;unfold Builtin.«tuple.index»;simp only [Std.Legacy.Range.forIn_eq_forIn_range',Std.Legacy.Range.size];generalize hF:(@forIn Sem (List Nat))=F
 wp_walk using wpAny_loadPart' hl
 subst hF;refine wD hj hit hno he ?_ j 0 _ (by omega) (by simp;omega);exact wpAny_pure hR
section
variable {X:Cx} {E:XK} {a o e:Expr} {ga go:Ds->Rs PyData} {pos:Pos} {es:List Expr} {gs:Ds->Rs (List PyData)}
def G1:V->List V->Hp->VK->Prop:=fun x vs H Q=>∃ l xs y j,x=.ref l/\vs=[y]/\H l=some (.tup xs)/\jH y=true/\xs.all jH=true/\(xs.findIdx? fun z=>eqV z y)=some j/\Q (.int j) H
def tIx (to:TE) (t:TA):TE:=fun σ H Q=>to σ H fun x H1=>(∃ l xs,x=.ref l/\H1 l=some (.tup xs))/\t σ H1 fun vs H2=>G1 x vs H2 Q
theorem CK {to:TE} {t:TA} {apos cpos:Pos} (ho:PE X o to) (ha:PA X [e] t) (hbase:attributeBase o "index" X.env (eval o X.env)=eval o X.env:=by rfl)
  (hfew:((backTo cpos (starEach [e] X.env)).all (fun x=>!x.1)&&(backToKw cpos (keywordEach [] X.env)).all (fun x=>x.1.isSome)&&decide (([e]:List Expr).length+([]:List Keyword).length+(if ([]:List Keyword).isEmpty then 0 else 1)<30))=true:=by rfl)
  (hline:(apos.endLine==cpos.line)=true:=by rfl) (hs:starEach [e] X.env=(false,eval e X.env)::starEach [] X.env:=by rfl) (hplain:(backTo cpos (starEach [] X.env)).any (·.1)=false:=by rfl) :
  PE X (.Call (.Attribute o "index" apos) [e] [] cpos) (tIx to t):=by
 intro pins s σ H Q I h;refine wpAny_Call_method_late hbase hfew hline rfl (thn (ho pins s σ H _ I h) fun v s1 rz2=>?_);obtain ⟨x,H1,I1,r1,⟨l,xs,hx,hl⟩,q1⟩:=rz2;subst hx;cases r1;obtain ⟨hz,its,rv,ob,ge,gc,gd,n,gq⟩:=I1.hok l _ hl;refine ⟨"tuple", "tuple.index",PySem.F.plainAttrs_tuple,PySem.F.slot_tuple_index,PySem.F.type_tuple_index,⟨ob,ge,gc⟩,fun a ea=>by cases ea;exact ⟨ob,ge,gd⟩,?_⟩;have hA:=ha cpos pins s1 σ H1 _ I1 q1;rw [hs] at hA ⊢;refine Calls.callWith_builtin (by show (false || (backTo cpos (starEach [] X.env)).any (·.1))=false;rw [hplain];rfl) (Calls.evalArgs_plain ?_);refine thn hA fun us s2 rz2=>?_
 obtain ⟨vs,H2,I2,r2,q2⟩:=rz2;obtain ⟨l',xs',y,j,e1,e2,hl',fy,fs,hj,q⟩:=q2;cases e1;subst e2;obtain ⟨hz',its',rv',ob',ge',gc',gd',n',gq'⟩:=I2.hok l _ hl';obtain ⟨u,rfl,ru⟩:=vals1 r2;obtain ⟨oc,od,oda,osl⟩:=ob';simp only at gc' gd' gq';subst gc' gd' gq';have hlen:=rv'.length;obtain ⟨hjl,hjt,hjn⟩:=List.findIdx?_eq_some_iff_getElem.mp hj;have at':∀ (m:Nat) (hm:m<xs'.length),eqU y (its'[m]'(by omega))=eqV xs'[m] y:=fun m hm=>by
  obtain ⟨w',hw,rw'⟩:=rv'.get (List.getElem?_eq_getElem hm);have:its'[m]'(by omega)=w':=by have h2:=List.getElem?_eq_getElem (show m<its'.length by omega);rw [h2] at hw;exact Option.some.inj hw
  rw [this];exact xw rw' (List.all_eq_true.mp fs _ (List.getElem_mem hm))
 refine call_meets PySem.F.slot_tuple_index ⟨_,ge',rfl⟩ PySem.F.entry_tuple_index (PySem.F.args_tuple_index_2 _ _) (zF l its'.toArray n' none osl u (eqU y) j (by simp;omega) (by simpa [at' j hjl] using hjt) (fun m hm hmj=>?_)) ⟨ge',fun z hz=>mF ru fy rv' fs z (by simpa using hz),⟨.int j,H2,I2.tok _,⟨_,rfl⟩,q⟩⟩;have hm':m<xs'.length:=by simp at hm;omega
 have:=hjn m hmj;simpa [at' m hm'] using this
def n8 (xs:List PyData) (y:PyData):Option PyData:=if gH y&&xs.all gH then ((xs.map toV).findIdx? fun z=>eqV z (toV y)).map fun j=>.int j else none
def xy (go ga:Ds->Rs PyData):Ds->Rs PyData:=fun δ=>(go δ).bind fun d=>match d with
 | .tuple xs=>(ga δ).bind fun y=>Rs.eZ (n8 xs y)
 | _=>.no
theorem Bw {apos cpos:Pos} (ho:PD X E o go) (ha:PD X E e ga) (hbase:attributeBase o "index" X.env (eval o X.env)=eval o X.env:=by rfl)
  (hfew:((backTo cpos (starEach [e] X.env)).all (fun x=>!x.1)&&(backToKw cpos (keywordEach [] X.env)).all (fun x=>x.1.isSome)&&decide (([e]:List Expr).length+([]:List Keyword).length+(if ([]:List Keyword).isEmpty then 0 else 1)<30))=true:=by rfl)
  (hline:(apos.endLine==cpos.line)=true:=by rfl) (hs:starEach [e] X.env=(false,eval e X.env)::starEach [] X.env:=by rfl) (hplain:(backTo cpos (starEach [] X.env)).any (·.1)=false:=by rfl) :
  PD X E (.Call (.Attribute o "index" apos) [e] [] cpos) (xy go ga):=(CK ho (eO ha ip hs) hbase hfew hline hs hplain).imp fun σ H Q pz3=>by
 obtain ⟨A,δ,R,oo⟩:=pz3;unfold xy at oo;refine eD.run R (fun d1 e1 v H1 s1 R1 h1=>?_) (fun C et H' s'=>by rw [et] at oo;exact oo H' s') (fun et=>by rw [et] at oo;exact oo);simp only [e1,Rs.aj] at oo;cases d1 with
 | tuple xs =>
  obtain ⟨p,vs,rfl,hp,hx⟩:=h1.ofTup;refine ⟨⟨p,vs,rfl,aH _ _ hp⟩,?_⟩;have oo:iA X.K E A H ((ga δ).bind fun y=>Rs.eZ (n8 xs y)) Q:=oo;refine eD.run R1 (fun d2 e2 u H2 s2 R2 h2=>?_) (fun C et H' s'=>by rw [et] at oo;exact oo H' (s1.trans s')) (fun et=>by rw [et] at oo;exact oo);simp only [e2,Rs.aj] at oo;unfold n8 at oo;split at oo
  ·rename_i z;rw [Bool.and_eq_true] at z;obtain ⟨f1,f2⟩:=h2.flat z.1;obtain ⟨f3,f4⟩:=hx.flat z.2;cases q:((xs.map toV).findIdx? fun z=>eqV z (toV d2)) with
   | none=>rw [q] at oo;exact oo.elim
   | some j =>rw [q] at oo;exact ⟨p,vs,u,j,rfl,rfl,s2 _ _ (aH _ _ hp),f2,f4,by rw [f1,f3];exact q,oo _ H2 (s1.trans s2) cq⟩
  ·exact oo.elim
 | _=>exact oo.elim
end
end L2
namespace L2
open PySem PySem.Spec PyProof.Rows
section
variable {X:Cx} {E:XK} {a:Expr} {es:List Expr} {gs:Ds->Rs (List PyData)} {pos:Pos}
theorem Ec:bootBuiltins "min"=some (.builtin "min"):=by decide +kernel
end
section
variable {X:Cx} {E:XK} {O:List Nat} {K:PySem.W.Frag} {H0 H:Hp} {A0 A:List Addr} {δ:Ds} {σ:St}
end
section
variable {X:Cx} {E:XK} {a b c:Expr} {ga gb gc:Ds->Rs PyData} {pos:Pos}
end
section
variable {X:Cx} {E:XK} {a:Expr} {es:List Expr} {gs:Ds->Rs (List PyData)} {pos:Pos}
end
section
variable {X:Cx} {E:XK} {a:Expr} {gs:Ds->Rs (List PyData)} {pos:Pos}
end
end L2
namespace PyProof.Rows
open PySem
section
variable {prog:Program} {w:World} {A:Around} {E:Value->Shared->Prop} {s:Shared}
end
end PyProof.Rows
namespace L2
open PySem PySem.Spec PyProof.Rows
section
variable {X:Cx} {E:XK} {a:Expr} {es:List Expr} {gs:Ds->Rs (List PyData)} {pos:Pos}
end
end L2
namespace L2
open PySem PySem.Spec PySem.Calls PyProof.Rows PySem.W PySem.Builtin PySem.Builtin.ObjectAttr PySem.Builtin.Getset_descriptor
section
variable {prog:Program} {w:World} {A:Around} {E:Value->Shared->Prop} {s:Shared} {K:Frag} {x D:Addr} {ox:Obj}
structure Fo (h:Heap) (x:Addr) (D:Addr):Prop where
 ex:∃ o,h.get? x=some o/\o.cls=.ref D
theorem Fo.type {M:Model} {h:Heap} (I:Fo h x D):Looks M h (typeOf (.ref x)) (.ref D):=by obtain ⟨o,h1,h2⟩:=I.ex;exact h2▸(Looks.ld h1).andThen .now
end
end L2
namespace L2
open PySem PySem.Spec PyProof.Rows
section
variable {X:Cx} {E:XK} {ea:Addr} {oe:Obj} {C:Addr} {pos:Pos} {i:Nat}
end
section
variable {X:Cx} {E:XK} {ea:Addr} {oe:Obj} {C:Addr} {pos:Pos} {i:Nat}
end
section
variable {X:Cx} {E:XK} {O:List Nat} {e a b:Expr} {ga gb:Ds->Rs PyData} {es:List Expr} {gs:Ds->Rs (List PyData)} {pos:Pos}
def jJ (f:Str):List (PyData×PyData)->Option PyData
 | []=>none
 | (k,d)::r=>match k with
  | .str g=>if g=f then some d else jJ f r
  | _=>none
def b9 (C:Addr) (f:Str):PyData->Option PyData
 | .dict (k::r)=>match k with
  | (.str z,.int c)=>if z=""/\c=(C:Int) then jJ f r else none
  | _=>none
 | _=>none
theorem Isk.jJ {K:PySem.W.Frag} {H:Hp}:∀ {r:List (PyData×PyData)} {fs:List (Str×V)} {f:Str} {d:PyData},Isk K H r fs->L2.jJ f r=some d->∃ v,fs.lookup f=some v/\Is K H d v
 | [],_,f,d,_,l=>by simp [L2.jJ] at l
 | (k,x)::r,fs,f,d,h,l=>by
  unfold Isk at h;obtain ⟨g,v,fs',rfl,rfl,h1,h2⟩:=h;simp only [L2.jJ] at l;rw [List.lookup_cons];by_cases z:g=f
  ·subst z;rw [if_pos rfl] at l;cases l;exact ⟨v,by simp,h1⟩
  ·rw [if_neg z] at l;have:(f==g)=false:=by simpa using fun q=>z q.symm
   rw [this];exact Isk.jJ h2 l
theorem Fh {K:PySem.W.Frag} {H:Hp} {C:Addr} {f:Str} {d x:PyData} {v:V} (hf:f≠"@") (e:b9 C f d=some x) (h:Is K H d v):∃ a dx fs u,v=.ref a/\H a=some (.ins C dx fs)/\fs.lookup f=some u/\Is K H x u:=by
 unfold b9 at e;split at e
 ·rename_i k r;split at e
  ·rename_i z c;split at e
   ·rename_i q;obtain ⟨rfl,rfl⟩:=q;unfold Is at h;rcases h with (⟨a,ns,_,ek,_⟩ | ⟨a,l,_,ek,_⟩) | ⟨a,C',dx,fs,ev,h1,hn,h2 | h2⟩
    ·injection ek with ek _;cases ek
    ·cases l <;> simp at ek
    ·unfold Isk at h2;obtain ⟨g,u,fs',e1,e2,h3,h4⟩:=h2;cases e1;have e5:=h3.ofInt;injection e5 with e5
     obtain rfl:C'=C:=Int.ofNat.inj e5;obtain ⟨u,l,hu⟩:=h4.jJ e;exact ⟨a,dx,fs,u,ev,h1,l,hu⟩
    ·unfold Isk at h2;obtain ⟨g,u,fs',e1,e2,h3,h4⟩:=h2;cases e1;have e5:=h3.ofInt;injection e5 with e5
     obtain rfl:C'=C:=Int.ofNat.inj e5;obtain ⟨u,l,hu⟩:=h4.jJ e;rw [List.lookup_cons,show (f==("@":Str))=false by simpa using hf] at l;exact ⟨a,dx,fs,u,ev,h1,l,hu⟩
   ·cases e
  ·cases e
 ·cases e
theorem cx {C:Addr} {f:Str} (cl:Cls X.K C) (n:dW X.K C f) (ha:PD X E a ga) (hb:attributeBase a f X.env (eval a X.env)=eval a X.env:=by rfl) (hf:f≠"@":=by decide):PD X E (.Attribute a f pos) (g1 (b9 C f) ga) :=
 (GA ha hb).imp fun σ H Q ⟨A,δ,R,o⟩=>g1.read (tt:=fun Q x H1=>∃ a C dx fs v,x=.ref a/\H1 a=some (.ins C dx fs)/\Cls X.K C/\dW X.K C f/\fs.lookup f=some v/\Q v H1) R o fun d1 d x H' e _ _ h k=>by obtain ⟨p,dx,fs,u,rfl,hp,l,hu⟩:=Fh hf e h;exact ⟨p,C,dx,fs,u,rfl,aH _ _ hp,cl,n,l,k _ H' (az.refl _) hu⟩
theorem zc {K:PySem.W.Frag} {H:Hp}:∀ {names:List Str} {ds:List PyData} {vs:List V},Iss K H ds vs->Isk K H ((names.zip ds).map fun p=>(.str p.1,p.2)) (names.zip vs)
 | [],_,_,_=>by simpa using pe
 | _::_,[],_,h=>by rw [h.nil_of];simpa using pe
 | n::ns,d::ds,_,h=>by obtain ⟨v,r,rfl,h1,h2⟩:=h.cons_of;simp only [List.zip_cons_cons,List.map_cons];exact eF h1 (zc h2)
theorem BF {f:Str}:∀ {names:List Str} {vs:List V},f∉names->(names.zip vs).lookup f=none
 | [],_,_=>rfl
 | _::_,[],_=>rfl
 | n::ns,v::vs,h=>by rw [List.zip_cons_cons,List.lookup_cons,show (f==n)=false by simpa using fun q=>h (by rw [q];exact List.mem_cons_self)];exact BF fun q=>h (List.mem_cons_of_mem _ q)
end
section
variable {prog:Program} {w:World} {A:Around} {R:Result->Shared->Prop} {I:Addr} {fp wr:List Addr} {n:Nat} {T:Nat->Value->Prop} {St:Nat->Heap->Prop} {dv:Value}
variable {E:Value->Shared->Prop} {s:Shared} {l:Addr} {xs:Array (Int×Tok)}
end
section
variable {X:Cx} {E:XK} {O:List Nat} {e a b:Expr} {ga gb:Ds->Rs PyData} {es:List Expr} {gs:Ds->Rs (List PyData)} {pos:Pos}
theorem eD.weak {K:PySem.W.Frag} {g:Ds->Rs PyData} {σ:St} {H:Hp} {Q Q':VK} (h:eD K E g σ H Q) (k:∀ v H',Q v H'->Q' v H'):eD K E g σ H Q':=by
 obtain ⟨A,δ,R,o⟩:=h;refine ⟨A,δ,R,?_⟩;cases q:g δ with
 | ok d=>rw [q] at o;exact fun v H' s1 h1=>k v H' (o v H' s1 h1)
 | rz C=>rw [q] at o;exact o
 | no=>rw [q] at o;exact o
end
theorem EG {K:PySem.W.Frag} {qual:Str} {st:Stmt} {ps:List Str} {f C:Addr} {oc:Value} {od an:Option Addr} {sl:Array (Option Value)} {kV dc pm cd ct:Value}
  (hb:∀ (kV doc pm:Value) (an:Option Addr) (cdv ct:Value) (us:List Value),us.length=ps.length->bindArgs (PySem.W.fnOf "__init__" qual (fw st) (cX st) (ay st) .none kV doc pm an cdv ct) ⟨us,[]⟩=pure (ps.zip us))
  (a:PySem.W.findIn K (.ref C) "__init__"=some (some (.ref f))) (i:PySem.W.isFn K (.ref f)=true)
  (l:K.lookup f=some ⟨oc,od,.func (PySem.W.fnOf "__init__" qual (fw st) (cX st) (ay st) .none kV dc pm an cd ct),sl⟩)
  (c:PySem.W.codeIn K cd qual=true) (k:PySem.W.keepIn K (.ref f)=true) (mk:PySem.W.makesIn K C=true) (kc:PySem.W.keepIn K (.ref C)=true):∃ f fd,Mk K C f/\Fun K "__init__" qual st f fd/\Binds K fd ps [] :=
 have F:=yu (st:=st) l c k
 ⟨f,_,⟨mk,a,i,kc⟩,F,F.binds hb⟩
theorem uC {X:Cx} {e:Expr} {g:Ds->Rs Bool} (h:PCD X E0 e g):PTs X [e] (cD X.K E0 g):=.one h
theorem lT.more {X:Cx} {σ:St} {pins:List (Addr×Obj)} {q l:Addr} {xs:List V} {Φ:Hp->Prop} {κ:Nat->V->Hp->Prop} {lt:Nat->Nat->Bool} (K:lT X σ [] q l xs Φ κ lt):lT X σ pins q l xs Φ κ lt :=
 ⟨K.lst,fun i x hx pins' H s u _=>K.turn i x hx pins' H s u (fun _ h=>nomatch h),K.cmp⟩
def EB (X:Cx) (ta tb:TE):TE:=fun σ H Q=>ta σ H fun x H1=>tb σ H1 fun y H2=>∃ (l q:Addr) (xs:List V) (Φ:Hp->Prop) (κ:Nat->V->Hp->Prop) (lt:Nat->Nat->Bool),x=.ref l/\y=.ref q/\0<xs.length/\Φ H2/\lT X σ [] q l xs Φ κ lt /\
 ∀ H3 v,Φ H3->xs[bst lt (xs.length-1)]?=some v->Q v H3
section
variable {X:Cx} {a b:Expr} {ta tb:TE} {pos:Pos}
theorem zQ {p kp:Pos} (hc:X.calm=true) (hm:X.mg "min"=none) (ha:PE X a ta) (hb:PE X b tb) (hg:Gl X "min":=by rfl) (he:starEach [a] X.env=[(false,eval a X.env)]:=by rfl) (wk:∀ {σ H} {Q Q':VK},ta σ H Q->(∀ x H,Q x H->Q' x H)->ta σ H Q') (wk2:∀ {σ H} {Q Q':VK},tb σ H Q->(∀ x H,Q x H->Q' x H)->tb σ H Q') :
  PE X (.Call (.Name "min" p) [a] [⟨some "key",b,kp⟩] pos) (EB X ta tb):=by
 intro pins s σ H Q I h;refine wpAny_Call_Name_kw (hV I hg hm Ec ?_ (by decide) (by decide));refine callWith_kw ?_ (by rw [he];rfl) (by rw [he];rfl) rfl rfl;refine thn ((eO ha ip he) pos pins s σ H (fun vs H1=>∃ x,vs=[x]/\tb σ H1 fun y H2=>∃ (l q:Addr) (xs:List V) (Φ:Hp->Prop) (κ:Nat->V->Hp->Prop) (lt:Nat->Nat->Bool),x=.ref l/\y=.ref q/\0<xs.length/\Φ H2/\lT X σ [] q l xs Φ κ lt /\
   ∀ H3 v,Φ H3->xs[bst lt (xs.length-1)]?=some v->Q v H3) I
  (wk h fun x H1 q=>⟨x,rfl,q⟩)) fun us s1 ⟨vs,H1,I1,r1,x,q0,q1⟩=>?_
 subst q0;obtain ⟨u,rfl,ru⟩:=vals1 r1;refine thn ((Dx hb G3) pos pins s1 σ H1 (fun vs H2=>∃ y,vs=[y]/\∃ (l q:Addr) (xs:List V) (Φ:Hp->Prop) (κ:Nat->V->Hp->Prop) (lt:Nat->Nat->Bool),x=.ref l/\y=.ref q/\0<xs.length/\Φ H2/\lT X σ [] q l xs Φ κ lt /\
   ∀ H3 v,Φ H3->xs[bst lt (xs.length-1)]?=some v->Q v H3) I1
  (wk2 q1 fun y H2 q=>⟨y,rfl,q⟩)) fun ws s2 ⟨zs,H2,I2,r2,y,q2,l,q,xs,Φ,κ,lt,ex,ey,hn,hΦ,KK,hQ⟩=>?_
 subst q2;obtain ⟨v,rfl,rv⟩:=vals1 r2;subst ex ey;obtain rfl:u=Value.ref l:=ru;obtain rfl:v=Value.ref q:=rv;exact GH KK.more (I2.ok.hd hc) I2 hΦ hn fun H' s' x u hx ru J hp=>⟨x,H',J,ru,hQ H' x hp hx⟩
theorem AL {σ:St} {q l c':Addr} {xs:List V} {Φ:Hp->Prop} {κ:Nat->V->Hp->Prop} {lt:Nat->Nat->Bool} {k:Nat} {N:List Str} {p qual:Str} {params:Arguments} {body:Expr} {scope:Scope} {cl:List (Str×Addr)} {pm ctv:Value} {cap:List Nat} {t:TE}
  (S:md N [p] scope) (hr:cC (k+2) X.A) (hcl:∀ x c,cl.lookup x=some c->X.env.cells.lookup x=some c) (has:∀ x,scope.names.lookup x=some .free->∃ c,cl.lookup x=some c) (hN:N.length=1+cap.length)
  (hcap:∀ (i m:Nat) (x:Str),N[1+i]?=some x->cap[i]?=some m->X.N[m]?=some x/\scope.names.lookup x=some .free/\(X.env.kindOf x=some .cell\/X.env.kindOf x=some .free)/\Vis X.env.scope x)
  (hb:∀ u,bindArgs (PySem.W.kla_fn "<lambda>" qual params body scope cl pm (.ref c') ctv) ⟨[u],[]⟩=pure ([p].zip [u]))
  (hlst:∀ H,Φ H->H l=some (.lst xs)) (hfn:∀ H,Φ H->H q=some (.frz (PySem.W.kla_obj "<lambda>" qual params body scope cl pm c' ctv) (.own q))/\∃ o vs t,H c'=some (.frz o (.own c'))/\o.data=.fields vs/\vs[1]?=some (.str qual t))
  (hbody:∀ (s:Shared) (H:Hp),PE (tE (CXW X.prog X.w) X.prog X.w X.K X.mg X.base N qual scope q (.ref c') cl X.A.in1 X.stack s H E0) body t)
  (turn:∀ (i:Nat) (x:V) (H:Hp),xs[i]?=some x->Φ H->t (some x::cap.map fun m=>(σ[m]?).join) H fun v H'=>Φ H'/\κ i v H'/\∀ j v',κ j v' H->κ j v' H')
  (cmp:∀ (i j:Nat) (x y:V) (pins':List (Addr×Obj)) (H:Hp) (s:Shared) (u v:Value),Inv X.in1 pins' σ H s->Φ H->κ i x H->κ j y H->RelV x u->RelV y v ->
   wpAny (model X.prog X.w) X.A.in1 (richCompare .Lt u v) (fun r s'=>r=.bool (lt i j)/\Inv X.in1 pins' σ H s') (fun _ _=>False) s):lT X σ [] q l xs Φ κ lt:=by
 refine ⟨hlst,fun i x hx pins' H s u _ I hΦ ru=>?_,cmp⟩;obtain ⟨hq,oc,vs,tt,h1,h2,h3⟩:=hfn H hΦ;have C:FJ s H cl scope N [p].length (cap.map fun m=>(σ[m]?).join):=by
  refine ⟨fun a b c e1 e2=>I.ok.inj a b c (hcl a c e1) (hcl b c e2),has,fun a c e=>I.cell a c (hcl a c e),fun a c e=>I.freeC a c (hcl a c e),by rw [List.length_map];exact hN,fun j y v e1 e2=>?_⟩;rw [List.getElem?_map] at e2;cases hm:cap[j]? with
  | none=>rw [hm] at e2;cases e2
  | some m =>
   rw [hm] at e2;have e3:(σ[m]?).join=some v:=by simpa using e2
   obtain ⟨hX,hf,hk,hv⟩:=hcap j m y e1 hm;have e4:σ[m]?=some (some v):=by
    cases z:σ[m]? with
    | none=>rw [z] at e3;cases e3
    | some w=>rw [z] at e3;cases w with
     | none=>cases e3
     | some w=>cases e3;rfl
   obtain ⟨mm,hn,hl⟩:=I.loc;obtain ⟨u,rv,lk⟩:=hl m y v hX e4 hv;rcases lk with ⟨z,_⟩ | ⟨_,c,e5,e6⟩
   ·have z:X.env.kindOf y=some .local:=z;rcases hk with hk | hk <;> (rw [z] at hk;cases hk)
   ·obtain ⟨c2,e7⟩:=has y hf;have e8:=hcl y c2 e7;have e5:X.env.cells.lookup y=some c:=e5;rw [e5] at e8;cases e8;exact ⟨u,c,rv,hf,e7,e6⟩
 refine wpAny_call (codeAny_mono (D8 (CX:=CXW X.prog X.w) (E:=E0) S hr.in1 I.env0 rfl (.cons ru .nil) C (I.hok q _ hq).1 ⟨c',oc,vs,tt,rfl,(I.hok c' _ h1).1,h2,h3⟩ (hb u) (hbody s H) (turn i x H hx hΦ)) fun r s' hq=>?_);cases r with
 | error e=>obtain ⟨_,_,_,_,_,_,z,_⟩:=hq;exact z.elim
 | ok fl =>
  cases fl with
  | ret u=>exact I.after hq
  | next=>exact False.elim hq
  | brk=>exact False.elim hq
  | cont=>exact False.elim hq
end
section
variable {X:Cx} {E:XK} {a b:Expr} {gs:Ds->Rs (List PyData)} {pos:Pos}
end
section
variable {X:Cx} {E:XK} {O:List Nat} {K:PySem.W.Frag} {H0 H:Hp} {A0 A:List Addr} {δ:Ds} {σ:St} {pos:Pos}
end
structure fH (P:Program) (w:World) (K:PySem.W.Frag) (mg:Str->Option Value) (base:Heap) (k:Nat) (C:Addr) (m:Str) (n:Nat) (gf:List PyData->Rs PyData):Prop where
 ex:∃ f fd ps,Cls K C/\Meth K C m f/\hU P w K mg base (CXW P w) k f fd ps (spD K n gf)/\Binds K fd ps []
def jE (m:Str):List (PyData×PyData)->Bool
 | []=>true
 | (k,_)::r=>match k with
  | .str g=>decide (g≠m)&&jE m r
  | _=>false
def isC (C:Addr) (m:Str):PyData->Bool
 | .dict (k::r)=>match k with
  | (.str z,.int c)=>decide (z="")&&decide (c=(C:Int))&&jE m r
  | _=>false
 | _=>false
theorem Isk.jE {K:PySem.W.Frag} {H:Hp} {m:Str}:∀ {r:List (PyData×PyData)} {fs:List (Str×V)},Isk K H r fs->L2.jE m r=true->fs.lookup m=none
 | [],_,h,_=>by unfold Isk at h;rw [h];rfl
 | (k,d)::r,fs,h,n=>by unfold Isk at h;obtain ⟨f,v,fs',rfl,rfl,h1,h2⟩:=h;simp only [L2.jE,Bool.and_eq_true,decide_eq_true_eq] at n;rw [List.lookup_cons,show (m==f)=false by simpa using fun q=>n.1 q.symm];exact Isk.jE h2 n.2
theorem FU {K:PySem.W.Frag} {H:Hp} {C:Addr} {m:Str} {d:PyData} {v:V} (e:isC C m d=true) (h:Is K H d v):∃ a dx fs,v=.ref a/\H a=some (.ins C dx fs)/\fs.lookup m=none:=by
 unfold isC at e;split at e
 ·rename_i k r;split at e
  ·rename_i z c;simp only [Bool.and_eq_true,decide_eq_true_eq] at e;obtain ⟨⟨rfl,rfl⟩,n⟩:=e;unfold Is at h;rcases h with (⟨a,ns,_,ek,_⟩ | ⟨a,l,_,ek,_⟩) | ⟨a,C',dx,fs,ev,h1,hn,h2 | h2⟩
   ·injection ek with ek _;cases ek
   ·cases l <;> simp at ek
   ·unfold Isk at h2;obtain ⟨g,u,fs',e1,e2,h3,h4⟩:=h2;cases e1;have e5:=h3.ofInt;injection e5 with e5
    obtain rfl:C'=C:=Int.ofNat.inj e5;exact ⟨a,dx,fs,ev,h1,h4.jE n⟩
   ·unfold Isk at h2;obtain ⟨g,u,fs',e1,e2,h3,h4⟩:=h2;cases e1;have e5:=h3.ofInt;injection e5 with e5
    obtain rfl:C'=C:=Int.ofNat.inj e5;have l:=h4.jE n;rw [List.lookup_cons] at l;cases q:(m==("@":Str)) with
    | true=>rw [q] at l;cases l
    | false=>rw [q] at l;exact ⟨a,dx,fs,ev,h1,l⟩
  ·cases e
 ·cases e
def bO (C:Addr) (m:Str) (gf:List PyData->Rs PyData) (ga:Ds->Rs PyData) (gs:Ds->Rs (List PyData)):Ds->Rs PyData:=fun δ=>(ga δ).bind fun d=>if isC C m d then (gs δ).bind fun ds=>gf (d::ds) else .no
section
variable {X:Cx} {E:XK} {o e:Expr} {es:List Expr} {ga:Ds->Rs PyData} {gs:Ds->Rs (List PyData)} {pos apos:Pos}
theorem bO.read {C:Addr} {m:Str} {n:Nat} {gf:List PyData->Rs PyData} {σ:St} {H:Hp} {Q:VK} {A:List Addr} {δ:Ds} (hn:∀ δ ds,gs δ=.ok ds->ds.length+1=n) (R:dJ X.K H A δ σ) (ou:iA X.K E A H (bO C m gf ga gs δ) Q):zA C m (spD X.K n gf) [] E (eD X.K E ga) (aD X.K E gs) σ H Q:=by
 unfold bO at ou;refine eD.run R (fun d ed v H1 s1 R1 h1=>?_) (fun C et H' s'=>?_) (fun et=>?_)
 ·simp only [ed,Rs.aj] at ou;split at ou
  ·rename_i hc;obtain ⟨a,dx,fs,rfl,hp,l⟩:=FU hc h1;refine ⟨a,dx,fs,rfl,aH _ _ hp,l,?_⟩;refine aD.run R1 (fun ds e2 vs H2 s2 R2 h2=>?_) (fun C et H' s'=>?_) (fun et=>?_)
   ·simp only [e2,Rs.aj] at ou;refine ⟨A,d::ds,R2.ls,?_,hn δ ds e2,ou.mono (s1.trans s2)⟩;rw [List.append_nil];exact cW (h1.same s2.del) h2
   ·rw [et] at ou;exact ou H' (s1.trans s')
   ·rw [et] at ou;exact ou
  ·exact ou.elim
 ·rw [et] at ou;exact ou H' s'
 ·rw [et] at ou;exact ou
theorem El {k j:Nat} {C:Addr} {m:Str} {gf:List PyData->Rs PyData} {pl:Sem Bool} (D:fH X.prog X.w X.K X.mg X.base k C m (es.length+2) gf) (hr:cC j X.A) (hx:Passes (CXW X.prog X.w) X E) (ho:PD X E o ga) (ha:PAD X E (e::es) gs) (hk:k<=j:=by decide)
  (hst:starEach (e::es) X.env=(false,eval e X.env)::starEach es X.env:=by rfl) (hpl:(backTo pos (starEach es X.env)).any (·.1)=false:=by rfl)
  (ht:eval (.Call (.Attribute o m apos) (e::es) [] pos) X.env=(do
   let ov <-eval o X.env
   standAt apos.atName
   let (f,first) <-holding [ov] (getMethod ov m pl)
   callWith pos f first (backTo pos (starEach (e::es) X.env)) (backToKw pos (keywordEach [] X.env))):=by rfl) :
  PD X E (.Call (.Attribute o m apos) (e::es) [] pos) (bO C m gf ga gs):=by
 obtain ⟨f,fd,ps,cl,hm,F,hb⟩:=D.ex;exact (EK ho cl hm F (hr.mono hk) hb .nil hx ha.1 hst hpl ht).imp fun σ H Q ⟨A,δ,R,ou⟩=>bO.read (fun δ ds e=>by rw [ha.2 δ ds e];rfl) R ou
theorem kq {k j:Nat} {C:Addr} {m:Str} {gf:List PyData->Rs PyData} {pl:Sem Bool} (D:fH X.prog X.w X.K X.mg X.base k C m 1 gf) (hr:cC j X.A) (hx:Passes (CXW X.prog X.w) X E) (ho:PD X E o ga) (hk:k<=j:=by decide)
  (ht:eval (.Call (.Attribute o m apos) [] [] pos) X.env=(do
   let ov <-eval o X.env
   standAt apos.atName
   let (f,first) <-holding [ov] (getMethod ov m pl)
   callWith pos f first (backTo pos (starEach [] X.env)) (backToKw pos (keywordEach [] X.env))):=by rfl) :
  PD X E (.Call (.Attribute o m apos) [] [] pos) (bO C m gf ga ao):=by
 obtain ⟨f,fd,ps,cl,hm,F,hb⟩:=D.ex;refine (wJ ho cl hm F (hr.mono hk) hb .nil hx ht).imp fun σ H Q rz3=>?_
 obtain ⟨A,δ,R,ou⟩:=rz3;have h:=bO.read (gs:=ao) (X:=X) (n:=1) (fun δ ds e=>by cases e;rfl) R ou;unfold zA at h ⊢;exact h.weak fun v H1 ⟨a,dx,fs,e,hp,l,q⟩=>⟨a,dx,fs,e,hp,l,by obtain ⟨A',δ',R',o'⟩:=q;exact o' [] H1 (az.refl _) dk⟩
end
def intsOf:List PyData->Option (List Int)
 | []=>some []
 | .int a::r=>(intsOf r).map (a::·)
 | _::_=>none
def oQ:PyData->Option (Bool×List Int)
 | .int a=>some (false,[a])
 | .tuple ds=>(intsOf ds).map fun l=>(true,l)
 | _=>none
def ltD (a b:PyData):Bool:=match oQ a,oQ b with
 | some (_,l),some (_,m)=>HT.lexLt l m
 | _,_=>false
def keysOk (ks:List PyData):Bool:=ks.all (fun k=>match oQ k with | some (false,_)=>true | _=>false) || ks.all fun k=>match oQ k with | some (true,_)=>true | _=>false
def allR (g:PyData->Rs PyData):List PyData->Rs (List PyData)
 | []=>.ok []
 | d::r=>(g d).bind fun k=>(allR g r).bind fun ks=>.ok (k::ks)
theorem w5 {g:PyData->Rs PyData}:∀ {ds ks:List PyData},allR g ds=.ok ks->ks.length=ds.length/\∀ (i:Nat) (d:PyData),ds[i]?=some d->∃ k,ks[i]?=some k/\g d=.ok k
 | [],ks,h=>by cases h;exact ⟨rfl,fun i d e=>by simp at e⟩
 | d::r,ks,h=>by
  unfold allR at h;cases e1:g d with
  | rz _=>rw [e1] at h;cases h
  | no=>rw [e1] at h;cases h
  | ok k =>
   rw [e1] at h;cases e2:allR g r with
   | rz _=>rw [Rs.aj,e2] at h;cases h
   | no=>rw [Rs.aj,e2] at h;cases h
   | ok t =>
    rw [Rs.aj,e2] at h;cases h;obtain ⟨hl,hg⟩:=w5 e2;refine ⟨by simp [hl],fun i d' e=>?_⟩;cases i with
    | zero=>simp at e;subst e;exact ⟨k,rfl,e1⟩
    | succ i=>simpa using hg i d' (by simpa using e)
def uf (cap:List Nat) (δ:Ds):Ds:=cap.map fun m=>(δ[m]?).join
def okR:Rs (List PyData)->(List PyData->Rs PyData)->Rs PyData
 | .ok a,f=>f a
 | _,_=>.no
def jq (cap:List Nat) (ga gb:Ds->Rs PyData):Ds->Rs PyData:=fun δ=>(ga δ).bind fun d=>match d with
 | .list ds=>if 0<ds.length then okR (allR (fun x=>gb (some x::uf cap δ)) ds) fun ks=>if keysOk ks then .eZ (ds[bst (fun i j=>ltD (ks.getD i .none) (ks.getD j .none)) (ds.length-1)]?) else .no else .no
 | _=>.no
theorem y4 {K:PySem.W.Frag} {H:Hp} {d:PyData} {l:List Int} {v:V} (e:oQ d=some (false,l)) (h:Is K H d v):∃ n,l=[n]/\v=.int n:=by
 unfold oQ at e;split at e
 ·cases e;exact ⟨_,rfl,h.ofInt⟩
 ·rename_i ds;cases q:intsOf ds with
  | none=>rw [q] at e;cases e
  | some l=>rw [q] at e;cases e
 ·cases e
theorem ud:∀ {ds:List PyData} {l:List Int},intsOf ds=some l->ds=l.map PyData.int
 | [],l,e=>by cases e;rfl
 | d::r,l,e=>by
  cases d <;> first | (cases e;done) | skip
  rename_i a;unfold intsOf at e;cases q:intsOf r with
  | none=>rw [q] at e;cases e
  | some t=>rw [q] at e;cases e;rw [ud q];rfl
theorem wF {K:PySem.W.Frag} {H:Hp} {d:PyData} {l:List Int} {v:V} (e:oQ d=some (true,l)) (h:Is K H d v):∃ a,v=.ref a/\H a=some (.tup (l.map V.int)):=by
 unfold oQ at e;split at e
 ·cases e
 ·rename_i ds;cases q:intsOf ds with
  | none=>rw [q] at e;cases e
  | some l' =>rw [q] at e;cases e;obtain ⟨a,xs,ev,hp,hx⟩:=h.ofTup;rw [ud q] at hx;exact ⟨a,ev,by rw [hp,hx.ofInts]⟩
 ·cases e
section
variable {X:Cx}
theorem BD {ks:List PyData} {A:List Addr} {pins:List (Addr×Obj)} {σ:St} {H:Hp} {s:Shared} (hu:X.A.in1.units<cLine) (hk:keysOk ks=true) {i j:Nat} {x y:V} {u v:Value} {a b:PyData} (I:Inv X.in1 pins σ H s)
  (ea:ks[i]?=some a) (eb:ks[j]?=some b) (hx:Is X.K (del H A) a x) (hy:Is X.K (del H A) b y) (rx:RelV x u) (ry:RelV y v) :
  wpAny (model X.prog X.w) X.A.in1 (richCompare .Lt u v) (fun r s'=>r=.bool (ltD a b)/\Inv X.in1 pins σ H s') (fun _ _=>False) s:=by
 have J:=I.wish fun _ _=>False
 have ma:a∈ks:=List.mem_of_getElem? ea;have mb:b∈ks:=List.mem_of_getElem? eb;unfold keysOk at hk;rcases Bool.or_eq_true_iff.mp hk with hk | hk
 ·have fa:=List.all_eq_true.mp hk a ma;have fb:=List.all_eq_true.mp hk b mb;cases ka:oQ a with
  | none=>rw [ka] at fa;cases fa
  | some p=>obtain ⟨pa,la⟩:=p;cases pa with
   | true=>rw [ka] at fa;cases fa
   | false=>cases kb:oQ b with
    | none=>rw [kb] at fb;cases fb
    | some p=>obtain ⟨pb,lb⟩:=p;cases pb with
     | true=>rw [kb] at fb;cases fb
     | false =>
      obtain ⟨n,rfl,rfl⟩:=y4 ka hx;obtain ⟨m,rfl,rfl⟩:=y4 kb hy;have e:ltD a b=decide (n<m):=by
       unfold ltD;rw [ka,kb];show HT.lexLt [n] [m]=_;rw [HT.qO,HT.kT];by_cases z:n=m
       ·subst z;simp
       ·simp [z]
      rw [e];refine thn (Cv (X:=X.in1.wish fun _ _=>False) pins s σ H (.int n) (.int m) u v (fun r H'=>r=.bl (decide (n<m))/\H'=H) J rx ry ⟨n,m,rfl,rfl,rfl,rfl⟩) fun r s' rz2=>?_
      obtain ⟨v',H',J',rr,q1,q2⟩:=rz2;subst q1 q2;exact ⟨rr,J'.unwish⟩
 ·have fa:=List.all_eq_true.mp hk a ma;have fb:=List.all_eq_true.mp hk b mb;cases ka:oQ a with
  | none=>rw [ka] at fa;cases fa
  | some p=>obtain ⟨pa,la⟩:=p;cases pa with
   | false=>rw [ka] at fa;cases fa
   | true=>cases kb:oQ b with
    | none=>rw [kb] at fb;cases fb
    | some p=>obtain ⟨pb,lb⟩:=p;cases pb with
     | false=>rw [kb] at fb;cases fb
     | true =>
      obtain ⟨p,rfl,hp⟩:=wF ka hx;obtain ⟨q,rfl,hq⟩:=wF kb hy;have e:ltD a b=HT.lexLt la lb:=by unfold ltD;rw [ka,kb]
      rw [e];refine thn (G5 (X:=X.in1.wish fun _ _=>False) hu pins s σ H (.ref p) (.ref q) u v (fun r H'=>r=.bl (HT.lexLt la lb)/\H'=H) J rx ry ⟨p,q,la,lb,rfl,rfl,SqT.of (aH _ _ hp),SqT.of (aH _ _ hq),rfl,rfl⟩) fun r s' rz2=>?_
      obtain ⟨v',H',J',rr,q1,q2⟩:=rz2;subst q1 q2;exact ⟨rr,J'.unwish⟩
theorem Ah {E:XK} {a body:Expr} {ga gb:Ds->Rs PyData} {pos lpos kp p0:Pos} {params:Arguments} {scope:Scope} {clos:List (Str×Addr)} {c P:Addr} {k:Nat} {N:List Str} {p:Str} {cap:List Nat}
  (hc:X.calm=true) (hm:X.mg "min"=none) (hr:cC (k+2) X.A) (ha:PD X E a ga) (T:D3 X c P) (hcl:closureFor scope X.env=pure clos) (S:md N [p] scope)
  (hcl2:∀ x c,clos.lookup x=some c->X.env.cells.lookup x=some c) (has:∀ x,scope.names.lookup x=some .free->∃ c,clos.lookup x=some c) (hN:N.length=1+cap.length)
  (hcap:∀ (i m:Nat) (x:Str),N[1+i]?=some x->cap[i]?=some m->X.N[m]?=some x/\scope.names.lookup x=some .free/\(X.env.kindOf x=some .cell\/X.env.kindOf x=some .free)/\Vis X.env.scope x)
  (hb:∀ (c':Addr) (pm ctv u:Value),bindArgs (PySem.W.kla_fn "<lambda>" (X.env.qual++"<lambda>") params body scope clos pm (.ref c') ctv) ⟨[u],[]⟩=pure ([p].zip [u]))
  (hbody:∀ (q c':Addr) (s:Shared) (H:Hp),PD (tE (CXW X.prog X.w) X.prog X.w X.K X.mg X.base N (X.env.qual++"<lambda>") scope q (.ref c') clos X.A.in1 X.stack s H E0) E0 body gb)
  (hg:Gl X "min":=by rfl) (he:starEach [a] X.env=[(false,eval a X.env)]:=by rfl) (hdef:defaultsOf params X.env=([],[]):=by rfl) :
  PD X E (.Call (.Name "min" p0) [a] [⟨some "key",.Lambda params body scope lpos,kp⟩] pos) (jq cap ga gb):=by
 refine (zQ hc hm ha (FK T hcl hdef) hg he (fun h k=>eD.weak h k) (fun h k f c' ctv H' n e s c=>k _ _ (h f c' ctv H' n e s c))).imp fun σ H Q rz3=>?_
 obtain ⟨A,δ,R,ou⟩:=rz3;unfold jq at ou;refine eD.run R (fun d ed v H1 s1 R1 h1=>?_) (fun C et H' s'=>?_) (fun et=>?_)
 ·rw [ed,Rs.aj] at ou;cases d with
  | list ds =>
   by_cases hpos:0<ds.length
   case neg=>simp only [if_neg hpos] at ou;exact ou.elim
   simp only [if_pos hpos] at ou;cases ek:allR (fun x=>gb (some x::uf cap δ)) ds with
   | rz _=>rw [ek] at ou;exact ou.elim
   | no=>rw [ek] at ou;exact ou.elim
   | ok ks =>
    rw [ek] at ou;cases hko:keysOk ks with
    | false=>simp only [okR,hko] at ou;exact ou.elim
    | true =>
     simp only [okR,hko,if_true] at ou;intro f c' ctv H2 hn hf s2 hcode;obtain ⟨l,xs,rfl,hl,hx⟩:=h1.ofLst;have hlen:=hx.length;obtain ⟨hkl,hkg⟩:=w5 ek;refine ⟨l,f,xs,fun H=>az H2 H,fun i v H=>∃ kd,ks[i]?=some kd/\Is X.K (del H A) kd v,fun i j=>ltD (ks.getD i .none) (ks.getD j .none),rfl,rfl,by omega,az.refl _,?_,fun H3 v s3 ev=>?_⟩
     ·refine AL (t:=eD X.K E0 gb) (c':=c') (cap:=cap) S hr hcl2 has hN hcap (hb c' _ ctv) (fun H s=>s _ _ (s2 _ _ (aH _ _ hl))) (fun H s=>⟨s _ _ hf,?_⟩) (fun s H=>hbody f c' s H) (fun i x H ex s=>?_) (fun i j x y pins' H s u v I sΦ hx' hy' rx ry=>?_)
      ·obtain ⟨o,vs,t,e1,e2,e3⟩:=hcode;exact ⟨o,vs,t,s _ _ e1,e2,e3⟩
      ·obtain ⟨d,e1,hd⟩:=hx.get ex;obtain ⟨kd,e2,gk⟩:=hkg i d e1;have R':dJ X.K H A δ σ:=R.same (s1.trans (s2.trans s));refine ⟨A,some d::uf cap δ,⟨R'.ls,by simp [uf],fun n d' e=>?_⟩,?_⟩
       ·cases n with
        | zero =>have e:some (some d)=some (some d'):=e;cases e;exact ⟨x,rfl,hd.same (az.del (s2.trans s))⟩
        | succ n =>
         have e:(uf cap δ)[n]?=some (some d'):=by simpa using e
         unfold uf at e;rw [List.getElem?_map] at e;cases hm':cap[n]? with
         | none=>rw [hm'] at e;cases e
         | some m =>
          rw [hm'] at e;have e3:(δ[m]?).join=some d':=by simpa using e
          have e4:δ[m]?=some (some d'):=by
           cases z:δ[m]? with
           | none=>rw [z] at e3;cases e3
           | some w=>rw [z] at e3;cases w with
            | none=>cases e3
            | some w=>cases e3;rfl
          obtain ⟨v',e5,h5⟩:=R'.get m d' e4;exact ⟨v',by simp [hm',e5],h5⟩
       ·have gk':gb (some d::uf cap δ)=.ok kd:=gk;rw [gk'];exact fun v H' s' q=>⟨s.trans s',⟨kd,e2,q⟩,fun j v' qz2=>(by obtain ⟨kd',e3,e4⟩:=qz2;exact ⟨kd',e3,e4.same s'.del⟩)⟩
      ·obtain ⟨ka,e1,h1'⟩:=hx';obtain ⟨kb,e2,h2'⟩:=hy';have:=BD (X:=X) (by have:=hr.un;show X.A.units+1<_;omega) hko I e1 e2 h1' h2' rx ry;rw [List.getD_eq_getElem?_getD,List.getD_eq_getElem?_getD,e1,e2];exact this
     ·rw [hlen] at ev;obtain ⟨d,e1,hd⟩:=hx.get ev;rw [e1] at ou;exact ou v H3 (s1.trans (s2.trans s3)) (hd.same (az.del (s2.trans s3)))
  | _=>exact ou.elim
 ·rw [et] at ou;exact ou H' s'
 ·rw [et] at ou;exact ou
end
section
variable {K:PySem.W.Frag} {H:Hp} {a:Addr}
mutual
theorem Is.off {C dx:Addr} {fs:List (Str×V)} (ha:H a=some (.ins C dx fs)):∀ {d:PyData} {v:V},aN d=true->Is K H d v->Is K (del H [a]) d v
 | .none,_,_,h=>by unfold Is at h ⊢;exact h
 | .bool _,_,_,h=>by unfold Is at h ⊢;exact h
 | .int _,_,_,h=>by unfold Is at h ⊢;exact h
 | .str _,_,_,h=>by unfold Is at h ⊢;exact h
 | .dict _,_,n,_=>by unfold aN at n;cases n
 | .list ds,_,n,h=>by unfold aN at n;obtain ⟨b,xs,e,h1,h2⟩:=h.ofLst;subst e;exact kx (by rw [aW (fun z=>by rw [List.mem_singleton.mp z,ha] at h1;cases h1)];exact h1) (Iss.off ha n h2)
 | .tuple ds,_,n,h=>by unfold aN at n;obtain ⟨b,xs,e,h1,h2⟩:=h.ofTup;subst e;exact iL (by rw [aW (fun z=>by rw [List.mem_singleton.mp z,ha] at h1;cases h1)];exact h1) (Iss.off ha n h2)
theorem Iss.off {C dx:Addr} {fs:List (Str×V)} (ha:H a=some (.ins C dx fs)):∀ {ds:List PyData} {vs:List V},dw ds=true->Iss K H ds vs->Iss K (del H [a]) ds vs
 | [],_,_,h=>by rw [h.nil_of];exact dk
 | d::ds,_,n,h=>by unfold dw at n;obtain ⟨n1,n2⟩:=Bool.and_eq_true_iff.mp n;obtain ⟨v,r,e,h1,h2⟩:=h.cons_of;subst e;exact cW (Is.off ha n1 h1) (Iss.off ha n2 h2)
end
def lN:List (PyData×PyData)->Bool
 | []=>true
 | (_,d)::r=>aN d&&lN r
theorem Isk.off {C dx:Addr} {fs:List (Str×V)} (ha:H a=some (.ins C dx fs)):∀ {ds:List (PyData×PyData)} {gs:List (Str×V)},lN ds=true->Isk K H ds gs->Isk K (del H [a]) ds gs
 | [],_,_,h=>by unfold Isk at h ⊢;exact h
 | (k,d)::ds,_,n,h=>by unfold lN at n;obtain ⟨n1,n2⟩:=Bool.and_eq_true_iff.mp n;unfold Isk at h ⊢;obtain ⟨f,v,r,e1,e2,h1,h2⟩:=h;exact ⟨f,v,r,e1,e2,Is.off ha n1 h1,Isk.off ha n2 h2⟩
def jK:List (PyData×PyData)->Option Int
 | (.str x,.int _)::(.str y,.int b)::r=>if x=""/\y="@"/\lN r then some b else none
 | _=>none
mutual
def objs:PyData->Bool
 | .list ds=>kh ds
 | .tuple ds=>kh ds
 | .dict kvs=>(jK kvs).isSome
 | _=>true
def kh:List PyData->Bool
 | []=>true
 | d::ds=>objs d&&kh ds
end
mutual
def fF (a:Addr) (nd:PyData):PyData->PyData
 | .list ds=>.list (jB a nd ds)
 | .tuple ds=>.tuple (jB a nd ds)
 | .dict kvs=>if jK kvs=some (a:Int) then nd else .dict kvs
 | d=>d
def jB (a:Addr) (nd:PyData):List PyData->List PyData
 | []=>[]
 | d::ds=>fF a nd d::jB a nd ds
end
end
def lg (a:Addr) (nd:PyData) (δ:Ds):Ds:=δ.map fun d=>d.map (fF a nd)
theorem mz {a:Addr} {nd:PyData} {δ:Ds} {i:Nat} {d:PyData} (h:(lg a nd δ)[i]?=some (some d)):∃ d0,δ[i]?=some (some d0)/\d=fF a nd d0:=by
 unfold lg at h;rw [List.getElem?_map] at h;cases e:δ[i]? with
 | none=>rw [e] at h;cases h
 | some x=>cases x with
  | none=>rw [e] at h;cases h
  | some d0=>rw [e] at h;cases h;exact ⟨d0,rfl,rfl⟩
theorem wZ {H:Hp} {B:List Addr} {a:Addr} {o:HO} (h:a∉B):del (upd H a o) B=upd (del H B) a o:=by
 funext b;by_cases z:b=a
 ·subst z;rw [aW h,aR,aR]
 ·rw [aI z];by_cases y:b∈B
  ·rw [ie y,ie y]
  ·rw [aW y,aW y,aI z]
section
variable {K:PySem.W.Frag} {H H':Hp} {a:Addr}
theorem i5 {o:HO} {b:Addr} {C dx:Addr} {fs:List (Str×V)} (hS:az (del H [a]) H') (ha:H a=some (.ins C dx fs)) (hb:H b=some o) (hne:b≠a):H' b=some o :=
 hS _ _ (by rw [aW (fun z=>hne (List.mem_singleton.mp z))];exact hb)
mutual
theorem Is.mutH {C dx:Addr} {fs:List (Str×V)} {nd:PyData} (ha:H a=some (.ins C dx fs)) (hS:az (del H [a]) H') (hn:Is K H' nd (.ref a)):∀ {d:PyData} {v:V},objs d=true->Is K H d v->Is K H' (fF a nd d) v
 | .none,_,_,h=>by unfold fF;unfold Is at h ⊢;exact h
 | .bool _,_,_,h=>by unfold fF;unfold Is at h ⊢;exact h
 | .int _,_,_,h=>by unfold fF;unfold Is at h ⊢;exact h
 | .str _,_,_,h=>by unfold fF;unfold Is at h ⊢;exact h
 | .list ds,_,n,h=>by unfold objs at n;obtain ⟨b,xs,e,h1,h2⟩:=h.ofLst;subst e;unfold fF;exact kx (i5 hS ha h1 (fun z=>by rw [z,ha] at h1;cases h1)) (Iss.mutH ha hS hn n h2)
 | .tuple ds,_,n,h=>by unfold objs at n;obtain ⟨b,xs,e,h1,h2⟩:=h.ofTup;subst e;unfold fF;exact iL (i5 hS ha h1 (fun z=>by rw [z,ha] at h1;cases h1)) (Iss.mutH ha hS hn n h2)
 | .dict kvs,v,n,h=>by
  unfold objs at n;unfold fF;unfold jK at n ⊢;split at n
  case h_2=>cases n
  rename_i x cI y b r;split at n
  case isFalse=>cases n
  rename_i hh;obtain ⟨rfl,rfl,hr⟩:=hh;have hb:∃ (b':Addr) (C' dx':Addr) (gs:List (Str×V)),v=.ref b'/\b=(b':Int)/\cI=(C':Int)/\H b'=some (.ins C' dx' gs)/\gs.lookup ("@":Str)=none/\Isk K H r gs:=by
   unfold Is at h;rcases h with (⟨a',ns,_,e,_⟩ | ⟨a',l,_,e,_⟩) | ⟨a',C',dx',gs,e,h1,hn',h2 | h2⟩
   ·cases e
   ·cases l <;> cases e
   ·unfold Isk at h2;obtain ⟨f,u,r',e1,e2,h3,h4⟩:=h2;cases e1;unfold Isk at h4;obtain ⟨f,u,r',e1,e2,h5,h6⟩:=h4;injection e2 with e2
    subst e2 e1;rw [List.lookup_cons] at hn';simp at hn'
   ·unfold Isk at h2;obtain ⟨f,u,r',e1,e2,h3,h4⟩:=h2;cases e1;have e5:=h3.ofInt;injection e5 with e5
    unfold Isk at h4;obtain ⟨f,u,r',e1,e2,h5,h6⟩:=h4;cases e1;have e7:=h5.ofInt;injection e7 with e7
    exact ⟨a',C',dx',gs,e,e7.symm,e5.symm,h1,hn',h6⟩
  obtain ⟨b',C',dx',gs,rfl,rfl,rfl,h1,hl,h2⟩:=hb;simp only [hr,and_self,if_true];by_cases z:b'=a
  ·subst z;rw [if_pos rfl];exact hn
  ·have zz:¬ (some (b':Int)=some (a:Int)):=fun q=>z (Int.ofNat.inj (Option.some.inj q))
   rw [if_neg zz];unfold Is;refine .inr ⟨b',C',dx',gs,rfl,i5 hS ha h1 z,hl,.inr (eF cq (eF cq ?_))⟩;exact (Isk.off ha hr h2).same hS
theorem Iss.mutH {C dx:Addr} {fs:List (Str×V)} {nd:PyData} (ha:H a=some (.ins C dx fs)) (hS:az (del H [a]) H') (hn:Is K H' nd (.ref a)):∀ {ds:List PyData} {vs:List V},kh ds=true->Iss K H ds vs->Iss K H' (jB a nd ds) vs
 | [],_,_,h=>by rw [h.nil_of];unfold jB;exact dk
 | d::ds,_,n,h=>by unfold kh at n;obtain ⟨n1,n2⟩:=Bool.and_eq_true_iff.mp n;obtain ⟨v,r,e,h1,h2⟩:=h.cons_of;subst e;unfold jB;exact cW (Is.mutH ha hS hn n1 h1) (Iss.mutH ha hS hn n2 h2)
end
theorem E3 {B:List Addr}:az (del H [a]) H'->az (del (del H B) [a]) (del H' B):=fun hS b o e=>by obtain ⟨e1,e2⟩:=bE e;obtain ⟨e3,e4⟩:=bE e2;rw [aW e3];exact hS b o (by rw [aW e1];exact e4)
theorem cp.mutH {H0:Hp} {A0 A:List Addr} {O:List Nat} {δ:Ds} {σ:St} {C dx:Addr} {fs:List (Str×V)} {nd:PyData} (R:cp K H0 A0 H A O δ σ)
  (ha:H a=some (.ins C dx fs)) (h0:H0 a=none) (ho:∀ (i:Nat) d,δ[i]?=some (some d)->objs d=true) (hS:az (del H [a]) H') (hn:Is K (del H' (A++A0)) nd (.ref a)):cp K H0 A0 H' A O (lg a nd δ) σ:=by
 have hl0:Ls H A0:=R.ls0.same R.same;have na:a∉A++A0:=fun z=>by
  rcases List.mem_append.mp z with z | z
  ·obtain ⟨xs,e,q⟩:=R.ls a z;rw [ha] at e;cases e;cases q
  ·obtain ⟨xs,e,q⟩:=hl0 a z;rw [ha] at e;cases e;cases q
 have hd:del H (A++A0) a=some (.ins C dx fs):=by rw [aW na];exact ha
 have hS2:az (del (del H (A++A0)) [a]) (del H' (A++A0)):=E3 hS;refine ⟨fun b u e=>?_,R.ls0,R.new,fun b hb=>?_,?_,fun i d hi e=>?_,fun i d hi e=>?_,fun i j d e b hi hj e1 e2 e3 e4=>?_⟩
 ·exact i5 hS ha (R.same b u e) (fun z=>by rw [z,h0] at e;cases e)
 ·obtain ⟨xs,e,q⟩:=R.ls b hb;exact ⟨xs,i5 hS ha e (fun z=>by rw [z,ha] at e;cases e;cases q),q⟩
 ·unfold lg;rw [List.length_map];exact R.len
 ·obtain ⟨d0,e0,rfl⟩:=mz e;obtain ⟨v,e1,h1⟩:=R.pl i d0 hi e0;exact ⟨v,e1,Is.mutH hd hS2 hn (ho i d0 e0) h1⟩
 ·obtain ⟨d0,e0,rfl⟩:=mz e;obtain ⟨b,o',d1,e1,hb,hp,rfl,h1⟩:=R.own i d0 hi e0;have hoo:=ho i _ e0;obtain ⟨ds,xs,rfl,rfl⟩:∃ ds xs,d0=.list ds/\o'=.lst xs:=by
   unfold ic at h1;split at h1
   ·exact ⟨_,_,rfl,rfl⟩
   ·obtain ⟨m,rfl,_⟩:=h1;exfalso;unfold objs jK at hoo;cases m <;> simp at hoo
   ·exact h1.elim
  have h1:Iss K _ ds xs:=h1;have:=ho i _ e0;unfold objs at this;exact ⟨b,.lst xs,.list (jB a nd ds),e1,hb,i5 hS ha hp (fun z=>by rw [z,ha] at hp;cases hp),by unfold fF;rfl,Iss.mutH hd hS2 hn this h1⟩
 ·obtain ⟨d0,q1,_⟩:=mz e1;obtain ⟨d1,q2,_⟩:=mz e2;exact R.inj i j d0 d1 b hi hj q1 q2 e3 e4
end
def sDN (as:List Addr) (K:PySem.W.Frag) (E:XK) (O:List Nat) (G:Ds->Sr):TS:=fun D σ H=>∃ H0 A0 A δ,(∀ a∈as,H0 a=none)/\cp K H0 A0 H A O δ σ/\mU K E H0 A0 O (G δ) D
def PSN (as:List Addr) (X:Cx) (E:XK) (O:List Nat) (s:Stmt) (G:Ds->Sr):Prop:=PS X s (sDN as X.K E O G)
def PBN (as:List Addr) (X:Cx) (E:XK) (O:List Nat) (ss:List Stmt) (G:Ds->Sr):Prop:=PSs X ss (sDN as X.K E O G)
section
variable {as:List Addr} {X:Cx} {E:XK} {O:List Nat} {st:Stmt} {ss:List Stmt} {G G':Ds->Sr} {c:Expr} {ca:Ds->Rs Bool} {pos:Pos}
theorem nN (h:PSD X E O st G):PSN as X E O st G:=h.imp fun D σ H qz3=>(by obtain ⟨H0,A0,A,δ,_,R,o⟩:=qz3;exact ⟨H0,A0,A,δ,R,o⟩)
theorem GF (h:PBD X E O ss G):PBN as X E O ss G:=h.imp fun D σ H qz3=>(by obtain ⟨H0,A0,A,δ,_,R,o⟩:=qz3;exact ⟨H0,A0,A,δ,R,o⟩)
theorem zv:PBN as X E O [] bt:=GF bR
theorem fq (h1:PSN as X E O st G) (h2:PBN as X E O ss G'):PBN as X E O (st::ss) (aK G G'):=(dQ h1 h2).imp fun D σ H ⟨H0,A0,A,δ,hn,R,o⟩=>⟨H0,A0,A,δ,hn,R,by
 unfold aK at o;cases q:G δ with
 | nx δ'=>rw [q] at o;exact fun A' σ' H' R'=>⟨H0,A0,A',δ',hn,R',o⟩
 | rt d=>rw [q] at o;exact o
 | rz C=>rw [q] at o;exact o
 | bk d=>rw [q] at o;exact o
 | ct d=>rw [q] at o;exact o
 | no=>rw [q] at o;exact o⟩
theorem jn (h1:PSN as X E O st G):PBN as X E O [st] G:=(jm h1).imp fun D σ H h=>h
theorem xJ {ss':List Stmt} (hc:PCD X E c ca) (h1:PBN as X E O ss G) (h2:PBN as X E O ss' G'):PSN as X E O (.If c ss ss' pos) (sIf ca G G'):=(yV hc h1 h2).imp fun D σ H pz3=>by
 obtain ⟨H0,A0,A,δ,hn,R,o⟩:=pz3;unfold sIf at o;refine cD.run R.full (fun t et H1 s1 R1=>?_) (fun C et H' s'=>?_) (fun et=>?_)
 ·rw [et] at o;cases t with
  | true=>exact ⟨H0,A0,A,δ,hn,R.step s1,o⟩
  | false=>exact ⟨H0,A0,A,δ,hn,R.step s1,o⟩
 ·rw [et] at o;exact o H' (R.same.trans s')
 ·rw [et] at o;exact o
theorem Al (fuel:Nat) (hp:PassesOwn (model X.prog X.w) X.A X.env X.xe) (hc:PCD X E c ca) (hb:PBN as X E O ss G):PSN as X E O (.While c ss [] pos) (fun δ=>cO ca G fuel δ):=(wU hp hc hb).imp fun D σ H pz3=>by
 obtain ⟨H0,A0,A,δ,hn,R,o⟩:=pz3;refine ⟨fun m σ H=>∃ A δ,cp X.K H0 A0 H A O δ σ/\mU X.K E H0 A0 O (cO ca G m δ) D,⟨fuel,A,δ,R,o⟩,?_⟩
 rintro m σ H ⟨A,δ,R,o⟩
 cases m with
 | zero=>exact o.elim
 | succ m =>
  unfold cO at o;refine cD.run R.full (fun t et H1 s1 R1=>?_) (fun C et H' s'=>?_) (fun et=>?_)
  ·rw [et] at o;cases t with
   | false=>exact o A σ H1 (R.step s1)
   | true =>
    refine ⟨fun σ' H'=>∃ A δ,cp X.K H0 A0 H' A O δ σ'/\mU X.K E H0 A0 O (cO ca G m δ) D,fun σ' H' q=>⟨m,Nat.lt_succ_self m,q⟩,H0,A0,A,δ,hn,R.step s1,?_⟩;have o:mU X.K E H0 A0 O (match G δ with
     | .nx δ2=>cO ca G m δ2
     | .ct δ2=>cO ca G m δ2
     | .bk δ2=>.nx δ2
     | .rt v=>.rt v
     | .rz C=>.rz C
     | .no=>.no) D:=o
    cases eb:G δ with
    | nx δ2=>rw [eb] at o;exact fun A4 σ4 H4 R4=>⟨A4,δ2,R4,o⟩
    | ct δ2=>rw [eb] at o;exact fun A4 σ4 H4 R4=>⟨A4,δ2,R4,o⟩
    | bk δ2=>rw [eb] at o;exact o
    | rt v=>rw [eb] at o;exact o
    | rz C=>rw [eb] at o;exact o
    | no=>rw [eb] at o;exact o.elim
  ·rw [et] at o;exact o H' (R.same.trans s')
  ·rw [et] at o;exact o
end
def lO:List (PyData×PyData)->Option (List (Str×PyData))
 | []=>some []
 | (.str f,d)::r=>(lO r).map fun l=>(f,d)::l
 | _=>none
theorem tK:∀ {r:List (PyData×PyData)} {fds:List (Str×PyData)},lO r=some fds->r=fds.map fun p=>(.str p.1,p.2)
 | [],fds,e=>by cases e;rfl
 | (k,d)::r,fds,e=>by
  cases k <;> first | (cases e;done) | skip
  rename_i f;unfold lO at e;cases q:lO r with
  | none=>rw [q] at e;cases e
  | some l=>rw [q] at e;cases e;rw [tK q];rfl
theorem qc:∀ fds:List (Str×PyData),lO (fds.map fun p=>(.str p.1,p.2))=some fds
 | []=>rfl
 | p::r=>by rw [List.map_cons];unfold lO;rw [qc r];rfl
def objOf:PyData->Option (Addr×Addr×List (Str×PyData))
 | .dict ((.str x,.int c)::(.str y,.int b)::r)=>if x=""/\y="@"/\0<=c/\0<=b then (lO r).map fun l=>(c.toNat,b.toNat,l) else none
 | _=>none
theorem Cd {d:PyData} {C a:Addr} {fds:List (Str×PyData)} (e:objOf d=some (C,a,fds)):d=cN C a fds:=by
 unfold objOf at e;split at e
 ·rename_i x c y b r;split at e
  ·rename_i h;obtain ⟨rfl,rfl,h0,h1⟩:=h;obtain ⟨l,q,e⟩:=Option.map_eq_some_iff.mp e;cases e;rw [tK q];unfold cN;rw [Int.toNat_of_nonneg h0,Int.toNat_of_nonneg h1]
  ·cases e
 ·cases e
theorem ua (C a:Addr) (fds:List (Str×PyData)):objOf (cN C a fds)=some (C,a,fds):=by unfold cN objOf;simp only [Int.natCast_nonneg,and_self,if_true,qc,Option.map_some,Int.toNat_natCast]
def oE (f:Str):List (Str×PyData)->Option PyData
 | []=>none
 | (g,d)::r=>if g=f then some d else oE f r
def qA (f:Str) (v:PyData):List (Str×PyData)->List (Str×PyData)
 | []=>[(f,v)]
 | (g,x)::r=>if g=f then (g,v)::r else (g,x)::qA f v r
theorem Isk.put {K:PySem.W.Frag} {H:Hp} {f:Str} {d:PyData} {v:V} (hv:Is K H d v):∀ {fds:List (Str×PyData)} {gs:List (Str×V)},Isk K H (fds.map fun p=>(.str p.1,p.2)) gs->Isk K H ((qA f d fds).map fun p=>(.str p.1,p.2)) (iO f v gs)
 | [],gs,h=>by rw [List.map_nil] at h;unfold Isk at h;subst h;exact eF hv pe
 | (g,x)::r,gs,h=>by
  rw [List.map_cons] at h;unfold Isk at h;obtain ⟨g',u,gs',rfl,e,h1,h2⟩:=h;injection e with e
  subst e;show Isk K H ((if g=f then (g,d)::r else (g,x)::qA f d r).map _) (if g=f then (g,v)::gs' else (g,u)::iO f v gs');by_cases z:g=f
  ·rw [if_pos z,if_pos z];exact eF hv h2
  ·rw [if_neg z,if_neg z];exact eF h1 (Isk.put hv h2)
theorem Isk.look {K:PySem.W.Frag} {H:Hp} {f:Str} {d:PyData}:∀ {fds:List (Str×PyData)} {gs:List (Str×V)},Isk K H (fds.map fun p=>(.str p.1,p.2)) gs->oE f fds=some d->∃ v,gs.lookup f=some v/\Is K H d v
 | [],gs,h,e=>by cases e
 | (g,x)::r,gs,h,e=>by
  rw [List.map_cons] at h;unfold Isk at h;obtain ⟨g',u,gs',rfl,e2,h1,h2⟩:=h;injection e2 with e2
  subst e2;unfold oE at e;rw [List.lookup_cons];by_cases z:g=f
  ·rw [if_pos z] at e;cases e;subst z;simp only [beq_self_eq_true];exact ⟨u,rfl,h1⟩
  ·rw [if_neg z] at e;rw [show (f==g)=false by simpa using fun q=>z q.symm];exact Isk.look h2 e
theorem Isk.len {K:PySem.W.Frag} {H:Hp}:∀ {fds:List (PyData×PyData)} {gs:List (Str×V)},Isk K H fds gs->gs.length=fds.length
 | [],_,h=>by unfold Isk at h;rw [h];rfl
 | (k,d)::r,_,h=>by unfold Isk at h;obtain ⟨_,_,_,rfl,_,_,h2⟩:=h;rw [List.length_cons,List.length_cons,Isk.len h2]
theorem Is.atObj {K:PySem.W.Frag} {H:Hp} {C a:Addr} {fds:List (Str×PyData)} {v:V} (h:Is K H (cN C a fds) v):v=.ref a/\∃ dx gs,H a=some (.ins C dx gs)/\gs.lookup ("@":Str)=none/\Isk K H (fds.map fun p=>(.str p.1,p.2)) gs:=by
 unfold cN at h;unfold Is at h;rcases h with (⟨a',ns,_,e,_⟩ | ⟨a',l,_,e,_⟩) | ⟨a',C',dx',gs,e,h1,hn',h2 | h2⟩
 ·cases e
 ·cases l <;> cases e
 ·unfold Isk at h2;obtain ⟨f,u,r',e1,e2,h3,h4⟩:=h2;cases e1;unfold Isk at h4;obtain ⟨f,u,r',e1,e2,h5,h6⟩:=h4;injection e2 with e2
  subst e2 e1;rw [List.lookup_cons] at hn';simp at hn'
 ·unfold Isk at h2;obtain ⟨f,u,r',e1,e2,h3,h4⟩:=h2;cases e1;have e5:=h3.ofInt;injection e5 with e5
  obtain rfl:C'=C:=Int.ofNat.inj e5;unfold Isk at h4;obtain ⟨f,u,r',e1,e2,h5,h6⟩:=h4;cases e1;have e7:=h5.ofInt;injection e7 with e7
  obtain rfl:a'=a:=Int.ofNat.inj e7;exact ⟨e,dx',gs,h1,hn',h6⟩
def gJ (fds:List (Str×PyData)):Bool:=lN (fds.map fun p=>(.str p.1,p.2))
theorem vq (C a:Addr) (fds:List (Str×PyData)):objs (cN C a fds)=gJ fds:=by unfold cN objs jK gJ;cases h:lN (fds.map fun p=>(PyData.str p.1,p.2)) <;> simp [h]
def gP (δ:Ds):Bool:=δ.all fun o=>match o with | some d=>objs d | none=>true
theorem jS {δ:Ds} (h:gP δ=true) (i:Nat) (d:PyData) (e:δ[i]?=some (some d)):objs d=true:=by have:=List.all_eq_true.mp h _ (List.mem_of_getElem? e);exact this
theorem Cu {K:PySem.W.Frag} {H:Hp} {B:List Addr} {C a dx:Addr} {fds:List (Str×PyData)} {gs:List (Str×V)} {f:Str} {z:Int} (hB:a∉B) (ha:H a=some (.ins C dx gs)) (hl:gs.lookup ("@":Str)=none) (hf:f≠"@") (hk:gJ fds=true) (h:Isk K (del H B) (fds.map fun p=>(.str p.1,p.2)) gs) :
  Is K (del (upd H a (.ins C dx (iO f (.int z) gs))) B) (cN C a (qA f (.int z) fds)) (.ref a):=by
 rw [wZ hB];refine CU (dx:=dx) (fs:=iO f (.int z) gs) (aR) (by rw [j9,if_neg (fun q=>hf q.symm)];exact hl) (Isk.put cq ?_);have hd:del H B a=some (.ins C dx gs):=by rw [aW hB];exact ha
 refine (Isk.off hd hk h).same fun b o e=>?_
 obtain ⟨e1,e2⟩:=bE e;rw [aI (fun q=>e1 (by rw [q];exact List.mem_singleton.mpr rfl))];exact e2
theorem vT {H:Hp} {a:Addr} {o:HO}:az (del H [a]) (upd H a o):=fun b u e=>by obtain ⟨e1,e2⟩:=bE e;rw [aI (fun q=>e1 (by rw [q];exact List.mem_singleton.mpr rfl))];exact e2
def oz (as:List Addr) (C:Addr) (i:Nat) (δ:Ds):Option (Addr×List (Str×PyData)):=match δ[i]? with
 | some (some d)=>(match objOf d with
  | some (C',a,fds)=>if C'=C/\a∈as/\gP δ=true/\gJ fds=true/\fds.length<1000 then some (a,fds) else none
  | none=>none)
 | _=>none
theorem nu {as:List Addr} {C:Addr} {i:Nat} {δ:Ds} {a:Addr} {fds:List (Str×PyData)} (h:oz as C i δ=some (a,fds)):δ[i]?=some (some (cN C a fds))/\a∈as/\gP δ=true/\gJ fds=true/\fds.length<1000:=by
 unfold oz at h;split at h
 ·rename_i d e;split at h
  ·rename_i C' a' fds' q;split at h
   ·rename_i c;cases h;obtain ⟨rfl,c1,c2,c3,c4⟩:=c;rw [e,Cd q];exact ⟨rfl,c1,c2,c3,c4⟩
   ·cases h
  ·cases h
 ·cases h
def mI (as:List Addr) (C:Addr) (i:Nat) (f:Str) (g:Ds->Rs PyData):Ds->Sr:=fun δ=>match oz as C i δ with
 | some (a,fds)=>ofR (g δ) fun d=>match d with
  | .int z=>.nx (lg a (cN C a (qA f (.int z) fds)) δ)
  | _=>.no
 | none=>.no
def eP (as:List Addr) (C:Addr) (i:Nat) (f:Str) (g:Ds->Rs PyData):Ds->Sr:=fun δ=>match oz as C i δ with
 | some (a,fds)=>(match oE f fds with
  | some (.int n)=>ofR (g δ) fun d=>match d with
   | .int z=>.nx (lg a (cN C a (qA f (.int (n+z)) fds)) δ)
   | _=>.no
  | _=>.no)
 | none=>.no
section
variable {as:List Addr} {X:Cx} {E:XK} {O:List Nat} {o value:Expr} {g:Ds->Rs PyData} {pos pos' tpos:Pos} {C:Addr} {f:Str} {i:Nat}
theorem yT (ho:PD X E o (af i)) (hv:PD X E value g) (cl:Cls X.K C) (na:dW X.K C f) (hi:i∉O:=by decide) (hf:f≠"@":=by decide) (hs:swapsWith value (some (.Attribute o f pos')) pos.line X.env=pure false:=by rfl):PSN as X E O (.Assign [.Attribute o f pos'] value pos) (mI as C i f g):=(kC ho hv hs).imp fun D σ H pz3=>by
 obtain ⟨H0,A0,A,δ,hn,R,ou⟩:=pz3;unfold mI at ou;split at ou
 case h_2=>exact ou.elim
 rename_i a fds q;obtain ⟨e,ha,hob,hfl,hln⟩:=nu q;refine eD.run R.full (fun d ed v H1 s1 R1 hv=>?_) (fun C et H' s'=>?_) (fun et=>?_)
 ·rw [ed] at ou;cases d with
  | int z =>
   have hv':=hv.ofInt;subst hv';have e2:af i δ=.ok (cN C a fds):=by unfold af;rw [e]
   refine eD.run (R.step s1).full (fun d2 ed2 v2 H2 s2 R2 hv2=>?_) (fun C et H' s'=>?_) (fun et=>?_)
   ·rw [e2] at ed2;cases ed2;obtain ⟨rfl,dx,gs,hp,hl,hk⟩:=hv2.atObj;have R2':=R.step (s1.trans s2);obtain ⟨v3,e3,h3⟩:=R2'.pl i _ hi e;obtain ⟨rfl,dx',gs',hp',hl',hk'⟩:=h3.atObj;have hpH:H2 a=some (.ins C dx' gs'):=(bE hp').2;have hpA:a∉A++A0:=(bE hp').1;refine ⟨a,C,dx',gs',rfl,hpH,cl,na,by rw [hk'.len,List.length_map];exact hln,?_⟩;exact ou A σ _ (R2'.mutH hpH (hn a ha) (jS hob) vT (Cu hpA hpH hl' hf hfl hk'))
   ·rw [e2] at et;cases et
   ·rw [e2] at et;cases et
  | _=>exact ou.elim
 ·rw [et] at ou;exact ou H' (R.same.trans s')
 ·rw [et] at ou;exact ou
theorem lz (ho:PD X E o (af i)) (hv:PD X E value g) (cl:Cls X.K C) (na:dW X.K C f) (hi:i∉O:=by decide) (hf:f≠"@":=by decide):PSN as X E O (.AugAssign (.Attribute o f tpos) .Add value pos) (eP as C i f g):=(zP ho hv FI).imp fun D σ H pz3=>by
 obtain ⟨H0,A0,A,δ,hn,R,ou⟩:=pz3;unfold eP at ou;split at ou
 case h_2=>exact ou.elim
 rename_i a fds q;obtain ⟨e,ha,hob,hfl,hln⟩:=nu q;split at ou
 case h_2=>exact ou.elim
 rename_i n hlk;have e2:af i δ=.ok (cN C a fds):=by unfold af;rw [e]
 refine eD.run R.full (fun d2 ed2 v2 H1 s1 R1 hv2=>?_) (fun C et H' s'=>?_) (fun et=>?_)
 ·rw [e2] at ed2;cases ed2;obtain ⟨rfl,dx,gs,hp,hl,hk⟩:=hv2.atObj;obtain ⟨v,ev,hvi⟩:=hk.look hlk;have hv':=hvi.ofInt;subst hv';refine ⟨a,C,dx,gs,.int n,rfl,(bE hp).2,cl,na,ev,?_⟩;refine eD.run (R.step s1).full (fun d ed w H2 s2 R2 hw=>?_) (fun C et H' s'=>?_) (fun et=>?_)
  ·rw [ed] at ou;cases d with
   | int z =>have hw':=hw.ofInt;subst hw';refine ⟨n,z,rfl,rfl,?_⟩;have R2':=R.step (s1.trans s2);obtain ⟨v3,e3,h3⟩:=R2'.pl i _ hi e;obtain ⟨rfl,dx',gs',hp',hl',hk'⟩:=h3.atObj;have hpH:H2 a=some (.ins C dx' gs'):=(bE hp').2;have hpA:a∉A++A0:=(bE hp').1;refine ⟨dx',gs',hpH,by rw [hk'.len,List.length_map];exact hln,?_⟩;exact ou A σ _ (R2'.mutH hpH (hn a ha) (jS hob) vT (Cu hpA hpH hl' hf hfl hk'))
   | _=>exact ou.elim
  ·rw [et] at ou;exact ou H' (R.same.trans (s1.trans s'))
  ·rw [et] at ou;exact ou
 ·rw [e2] at et;cases et
 ·rw [e2] at et;cases et
end
def spM (K:PySem.W.Frag) (C:Addr) (g:List (Str×PyData)->Option (List (Str×PyData))):Sp:=fun vs H Q E=>∃ A a fds fds',vs=[.ref a]/\Ls H A/\Is K (del H A) (cN C a fds) (.ref a)/\gJ fds=true/\fds.length<1000/\g fds=some fds' /\
 ∀ H',az (del H [a]) H'->Is K (del H' A) (cN C a fds') (.ref a)->Q .non H'
structure sL (P:Program) (w:World) (K:PySem.W.Frag) (mg:Str->Option Value) (base:Heap) (k:Nat) (C:Addr) (m:Str) (g:List (Str×PyData)->Option (List (Str×PyData))):Prop where
 ex:∃ f fd ps,Cls K C/\Meth K C m f/\hU P w K mg base (CXW P w) k f fd ps (spM K C g)/\Binds K fd ps []
theorem rH {K:PySem.W.Frag} {H:Hp} {f:Str}:∀ {fds:List (Str×PyData)} {gs:List (Str×V)},Isk K H (fds.map fun p=>(.str p.1,p.2)) gs->oE f fds=none->gs.lookup f=none
 | [],gs,h,_=>by rw [List.map_nil] at h;unfold Isk at h;rw [h];rfl
 | (g,x)::r,gs,h,e=>by
  rw [List.map_cons] at h;unfold Isk at h;obtain ⟨g',u,gs',rfl,e2,h1,h2⟩:=h;injection e2 with e2
  subst e2;unfold oE at e;rw [List.lookup_cons];by_cases z:g=f
  ·rw [if_pos z] at e;cases e
  ·rw [if_neg z] at e;rw [show (f==g)=false by simpa using fun q=>z q.symm];exact rH h2 e
def nV (as:List Addr) (C:Addr) (m:Str) (i:Nat) (g:List (Str×PyData)->Option (List (Str×PyData))):Ds->Sr:=fun δ=>match oz as C i δ with
 | some (a,fds)=>if oE m fds=none then (match g fds with
  | some fds'=>.nx (lg a (cN C a fds') δ)
  | none=>.no) else .no
 | none=>.no
section
variable {as:List Addr} {X:Cx} {E:XK} {O:List Nat} {o:Expr} {pos apos spos:Pos} {C:Addr} {m:Str} {i:Nat} {g:List (Str×PyData)->Option (List (Str×PyData))}
theorem Dc {k j:Nat} {pl:Sem Bool} (D:sL X.prog X.w X.K X.mg X.base k C m g) (hr:cC j X.A) (hx:Passes (CXW X.prog X.w) X E) (ho:PD X E o (af i)) (hk:k<=j:=by decide) (hi:i∉O:=by decide)
  (ht:eval (.Call (.Attribute o m apos) [] [] pos) X.env=(do
   let ov <-eval o X.env
   standAt apos.atName
   let (f,first) <-holding [ov] (getMethod ov m pl)
   callWith pos f first (backTo pos (starEach [] X.env)) (backToKw pos (keywordEach [] X.env))):=by rfl)
  (hs:swapsWith (.Call (.Attribute o m apos) [] [] pos) none spos.line X.env=pure false:=by rfl) :
  PSN as X E O (.Expr (.Call (.Attribute o m apos) [] [] pos) spos) (nV as C m i g):=by
 obtain ⟨f,fd,ps,cl,hm,F,hb⟩:=D.ex;refine (oZ (wJ ho cl hm F (hr.mono hk) hb .nil hx ht) hs).imp fun D σ H rz3=>?_
 obtain ⟨H0,A0,A,δ,hn,R,ou⟩:=rz3;unfold nV at ou;split at ou
 case h_2=>exact ou.elim
 rename_i a fds q;obtain ⟨e,ha,hob,hfl,hln⟩:=nu q;split at ou
 case isFalse=>exact ou.elim
 rename_i hlm;split at ou
 case h_2=>exact ou.elim
 rename_i fds' hg;have e2:af i δ=.ok (cN C a fds):=by unfold af;rw [e]
 refine eD.run R.full (fun d2 ed2 v2 H1 s1 R1 hv2=>?_) (fun C et H' s'=>?_) (fun et=>?_)
 ·rw [e2] at ed2;cases ed2;obtain ⟨rfl,dx,gs,hp,hl,hk⟩:=hv2.atObj;have R1':=R.step s1;obtain ⟨v3,e3,h3⟩:=R1'.pl i _ hi e;obtain ⟨rfl,dx',gs',hp',hl',hk'⟩:=h3.atObj;refine ⟨a,dx,gs,rfl,(bE hp).2,rH hk hlm,?_⟩;refine ⟨A++A0,a,fds,fds',rfl,R1'.lsA,h3,hfl,hln,hg,fun H' hS hn'=>?_⟩;exact ou A σ H' (R1'.mutH (bE hp').2 (hn a ha) (jS hob) hS hn')
 ·rw [e2] at et;cases et
 ·rw [e2] at et;cases et
end
theorem sL.of {P:Program} {w:World} {K:PySem.W.Frag} {mg:Str->Option Value} {base:Heap} {C:Addr} {m qual:Str} {st:Stmt} {f:Addr} {fd:FuncData} {N:List Str} {p:Str} {k:Nat} {G:List Addr->Ds->Sr} {g:List (Str×PyData)->Option (List (Str×PyData))} (F:Fun K m qual st f fd) (S:a9 N [p] (ay st)) (b:Binds K fd [p] []) (cl:Cls K C) (hm:Meth K C m f)
  (body:∀ (as:List Addr) (cdv:Value) (A:Around) (outer:List Env) (s:Shared) (H:Hp) (E:XK),cC k (A.deeper (envOfC qual (ay st) s.heap.objs.size f cdv))->PBN as (d6 (CXW P w) P w K mg base N qual (ay st) f cdv A outer s H E) E [] (cX st) (G as))
  (hg:∀ a fds fds',gJ fds=true->fds.length<1000->g fds=some fds'->∃ δ,G [a] (some (cN C a fds)::List.replicate (N.length-1) none)=.nx δ/\δ[0]?=some (some (cN C a fds'))):sL P w K mg base (k+1) C m g:=by
 refine ⟨f,fd,[p],cl,hm,pB F S (fun vs H Q E h=>?_) (fun cdv A outer s H vs Q E hr h=>?_),b⟩
 ·obtain ⟨A,a,fds,fds',rfl,_⟩:=h;rfl
 ·obtain ⟨A0,a,fds,fds',rfl,hA,hi,hfl,hln,hgf,o⟩:=h;obtain ⟨_,dx,gs,hp,hl,hk⟩:=hi.atObj;have ha:=bE hp;obtain ⟨δ,e1,e2⟩:=hg a fds fds' hfl hln hgf;have R0:cp K H A0 H [] [] (some (cN C a fds)::List.replicate (N.length-1) none) (L2.start N [.ref a]):=cp.start (ps:=[p]) (ds:=[cN C a fds]) hA (cW hi dk) rfl (fun i h=>by cases h);have hA':Ls (del H [a]) A0:=fun b hb=>by
   obtain ⟨xs,e,q⟩:=hA b hb;exact ⟨xs,by
    have hne:b∉[a]:=fun z=>ha.1 (by rw [<-List.mem_singleton.mp z];exact hb)
    rw [aW hne];exact e,q⟩
  refine ⟨_,body [a] cdv A outer s H E hr,del H [a],A0,[],_,fun b hb=>by rw [List.mem_singleton.mp hb];exact ie (List.mem_singleton.mpr rfl),⟨aH,hA',fun b hb=>(List.not_mem_nil hb).elim,R0.ls,R0.len,R0.pl,R0.own,R0.inj⟩,?_⟩;rw [e1];intro A' σ' H' R';refine o H' R'.same ?_;obtain ⟨v,_,h2⟩:=R'.pl 0 _ (by simp) e2;have h3:=h2.same (H':=del H' A0) (fun b u e=>by obtain ⟨q1,q2⟩:=bE e;rw [aW (fun z=>q1 (List.mem_append_right _ z))];exact q2)
  rw [h3.atObj.1] at h3;exact h3
def JD (C:Addr) (names:List Str) (tl:List (Str×Int)):Sp:=fun vs H Q _=>∃ (x dx:Addr) (args:List V),vs=.ref x::args/\args.length=names.length/\H x=some (.ins C dx []) /\
 ∀ H':Hp,(∀ b,b≠x->H' b=H b)->H' x=some (.ins C dx (names.zip args++tl.map fun p=>(p.1,.int p.2)))->Q .non H'
structure MkD (P:Program) (w:World) (K:PySem.W.Frag) (mg:Str->Option Value) (base:Heap) (k:Nat) (x:Str) (C:Addr) (names:List Str) (tl:List (Str×Int)):Prop where
 ex:∃ f fd ps,Mk K C f/\hU P w K mg base (CXW P w) k f fd ps (JD C names tl)/\Binds K fd ps []/\mg x=some (.ref C)
def tlD (tl:List (Str×Int)):List (Str×PyData):=tl.map fun p=>(p.1,.int p.2)
theorem B7 {K:PySem.W.Frag} {H:Hp}:∀ tl:List (Str×Int),Isk K H ((tlD tl).map fun p=>(.str p.1,p.2)) (tl.map fun p=>(p.1,.int p.2))
 | []=>pe
 | p::r=>eF cq (B7 r)
theorem yM {K:PySem.W.Frag} {H:Hp} {e:List (PyData×PyData)} {gs:List (Str×V)} (h2:Isk K H e gs):∀ {d:List (PyData×PyData)} {fs:List (Str×V)},Isk K H d fs->Isk K H (d++e) (fs++gs)
 | [],fs,h=>by unfold Isk at h;subst h;exact h2
 | (k,x)::r,fs,h=>by unfold Isk at h;obtain ⟨f,v,fs',rfl,rfl,h1,h3⟩:=h;exact eF h1 (yM h2 h3)
theorem qr {f:Str} {b:List (Str×V)} (hb:b.lookup f=none):∀ {a:List (Str×V)},a.lookup f=none->(a++b).lookup f=none
 | [],_=>hb
 | (g,x)::r,h=>by
  rw [List.cons_append,List.lookup_cons];rw [List.lookup_cons] at h;cases q:(f==g) with
  | true=>rw [q] at h;cases h
  | false=>rw [q] at h;exact qr hb h
theorem Fx {f:Str}:∀ {tl:List (Str×Int)},(f∉tl.map (·.1))->(tl.map fun p=>((p.1,V.int p.2):Str×V)).lookup f=none
 | [],_=>rfl
 | p::r,h=>by rw [List.map_cons,List.lookup_cons,show (f==p.1)=false by simpa using fun q=>h (by rw [q];exact List.mem_cons_self)];exact Fx fun q=>h (List.mem_cons_of_mem _ q)
def eMk (K:PySem.W.Frag) (E:XK) (C:Addr) (names:List Str) (tl:List (Str×Int)) (gs:Ds->Rs (List PyData)):TE:=fun σ H Q=>∃ A δ,dJ K H A δ σ/\(match gs δ with
 | .ok ds=>ds.length=names.length/\∀ x H',H x=none->az H H'->Is K (del H' A) (cN C x (names.zip ds++tlD tl)) (.ref x)->Q (.ref x) H'
 | .rz C'=>∀ H',az H H'->E (.ref C') none H'
 | .no=>False)
section
variable {X:Cx} {E:XK} {e:Expr} {es:List Expr} {gs:Ds->Rs (List PyData)} {pos:Pos}
theorem Iu {k j:Nat} {x:Str} {C:Addr} {names:List Str} {tl:List (Str×Int)} {p:Pos} (D:MkD X.prog X.w X.K X.mg X.base k x C names tl) (hr:cC j X.A) (hx:Passes (CXW X.prog X.w) X E) (ha:PAD X E (e::es) gs) (hk:k+1<=j:=by decide) (hg:Gl X x:=by rfl)
  (hdb:(x==("__debug__":Str))=false:=by decide) (he:starEach (e::es) X.env=(false,eval e X.env)::starEach es X.env:=by rfl) (hpl:(backTo pos (starEach es X.env)).any (·.1)=false:=by rfl) (hn:("@":Str)∉names:=by decide) (hn2:("@":Str)∉tl.map (·.1):=by decide) :
  PE X (.Call (.Name x p) (e::es) [] pos) (eMk X.K E C names tl gs):=by
 obtain ⟨f,fd,ps,M,F,hb,hm⟩:=D.ex;refine (DS M F (hr.mono hk) hg hm hb .nil hx ha.1 hdb he hpl).imp fun σ H Q rz3=>?_
 obtain ⟨A,δ,R,o⟩:=rz3;refine aD.run R (fun ds e1 vs H1 s1 R1 h1=>?_) (fun C et H' s'=>?_) (fun et=>?_)
 ·rw [e1] at o;obtain ⟨hl,o⟩:=o;intro x dx nx ndx ne;refine ⟨x,dx,vs++[],rfl,by rw [List.append_nil,h1.length,hl],aR,fun H' k1 k2=>⟨rfl,?_⟩⟩;rw [List.append_nil] at k2;have sm:az H1 H':=fun b q eb=>by have n1:b≠x:=aT eb nx;rw [k1 b n1,aI n1,aI (aT eb ndx)];exact eb
  refine o x H' (s1.free nx) (s1.trans sm) (CU (dx:=dx) (fs:=names.zip vs++tl.map fun p=>(p.1,.int p.2)) ?_ (qr (Fx hn2) (BF hn)) ?_)
  ·rw [aW (R1.ls.new nx)];exact k2
  ·rw [List.map_append];exact yM (B7 tl) (zc (h1.same sm.del))
 ·rw [et] at o;exact o H' s'
 ·rw [et] at o;exact o
end
def k7 (C:Addr) (names:List Str) (tl:List (Str×Int)) (as:List Addr) (fss:List (List PyData)):List PyData:=(as.zip fss).map fun p=>cN C p.1 (names.zip p.2++tlD tl)
def lJ (K:PySem.W.Frag) (E:XK) (C:Addr) (names:List Str) (tl:List (Str×Int)) (n0:Nat) (gi gs:Ds->Rs (List PyData)) (tgt:PyData->Option Ds):TE:=fun σ H Q=>∃ A δ,dJ K H A δ σ/\δ.length=n0/\∃ ds fss,gi δ=.ok ds/\ds.length<=1000000/\fss.length=ds.length /\
 (∀ (i:Nat) d,ds[i]?=some d->∃ ow fs,tgt d=some ow/\fss[i]?=some fs/\gs (δ++ow)=.ok fs/\fs.length=names.length) /\
 ∀ (as:List Addr) (D:Addr) (H':Hp),as.length=ds.length->as.Nodup->(∀ a∈as,H a=none)->az H H'->Is K (del H' A) (.list (k7 C names tl as fss)) (.ref D)->Q (.ref D) H'
theorem FP {K:PySem.W.Frag} {E:XK} {C:Addr} {names:List Str} {tl:List (Str×Int)} {own:List Str} {gi gs:Ds->Rs (List PyData)} {g:TG} {tgt:PyData->Option Ds} {n0:Nat} (hT:TgD K n0 own.length tgt g) :
  ∀ σ H Q,lJ K E C names tl n0 gi gs tgt σ H Q->tLC own.length (iD K E gi) g zw (eMk K E0 C names tl gs) σ H Q:=by
 intro σ H Q ⟨A,δ,R,hn0,ds,fss,q,hz,hfl,hel,o⟩;have hσ:σ.length=n0:=by rw [<-R.len];exact hn0
 refine ⟨A,δ,R,?_⟩;rw [q];intro J H1 s1 hJ D hD;have R1:=R.same s1;have nD:D∉A:=R1.ls.new hD;refine ⟨fun i m ys H'=>m=ds.length-i/\i<=ds.length/\az H1 H'/\H' D=some (.lst ys)/\∃ as:List Addr,as.length=i/\ys=as.map V.ref/\as.Nodup/\(∀ a∈as,H1 a=none/\a≠D/\∃ u,H' a=some u)/\Iss K (del H' (D::A)) (k7 C names tl as (fss.take i)) ys,
  ⟨ds.length,by simp,Nat.zero_le _,b8 hD,aR,[],rfl,rfl,List.nodup_nil,fun a h=>(List.not_mem_nil h).elim,dk⟩,?_⟩
 rintro i m ys H' ⟨rfl,hi,sm,hl,as,hal,rfl,nd,hnew,c3⟩
 refine ⟨hl,?_⟩;have sG:az (del H1 A) H':=aH.trans sm;have hBn:∀ b∈D::A,(del H1 A) b=none:=fun b hb=>by
  rcases List.mem_cons.mp hb with z | z
  ·rw [z,aW nD];exact hD
  ·exact ie z
 obtain ⟨jg,js,jy⟩:=hJ H' (D::A) sG (fun b hb=>by
  rcases List.mem_cons.mp hb with z | z
  ·exact ⟨_,by rw [z];exact hl,rfl⟩
  ·exact (R1.ls.same sm) b z) hBn
 by_cases hlt:i<ds.length
 ·refine .inr ⟨jg i hlt,fun x H2 σ' hσ' y=>?_⟩;obtain ⟨s2,d,ed,hd⟩:=jy i x H2 hlt y;obtain ⟨ow,fs,et,ef,eg,hfs⟩:=hel i d ed;have l2:H2 D=some (.lst (as.map V.ref)):=s2 _ _ hl;have LsD:Ls H2 (D::A):=fun b hb=>by
   rcases List.mem_cons.mp hb with z | z
   ·exact ⟨_,by rw [z];exact l2,rfl⟩
   ·exact (R1.ls.same (sm.trans s2)) b z
  obtain ⟨hol,hgo⟩:=hT d x σ σ' H2 (D::A) (fun σ2 H2=>zw σ2 H2 fun b H3 =>
   if b=true then eMk K E0 C names tl gs σ2 H3 fun v H4=>H4 D=some (.lst (as.map V.ref))/\(as.map V.ref).length<sizeLine/\(∃ σ'',σ2=σ++σ''/\σ''.length=own.length)/\∃ m',m' < ds.length-i/\_
   else (∃ σ'',σ2=σ++σ''/\σ''.length=own.length)/\∃ m',m' < ds.length-i/\_) ow hσ hσ' LsD hd et
  refine hgo fun vs hvs hown=>?_
  have sAll:az (del H1 A) (del H2 (D::A)):=mn (sG.trans s2) hBn;have RE:dJ K H2 (D::A) (δ++ow) (σ++vs):=by
   refine ⟨LsD,by rw [List.length_append,List.length_append,R.len,hvs,hol],fun k e ek=>?_⟩;by_cases hk:k<δ.length
   ·rw [List.getElem?_append_left hk] at ek;obtain ⟨u,e1,hu⟩:=R1.get k e ek;exact ⟨u,by rw [List.getElem?_append_left (by rw [<-R.len];exact hk)];exact e1,hu.same sAll⟩
   ·rw [List.getElem?_append_right (by omega)] at ek;obtain ⟨u,e1,hu⟩:=hown _ e ek;exact ⟨u,by rw [List.getElem?_append_right (by rw [<-R.len];omega),<-R.len];exact e1,hu⟩
  unfold zw;have hI:∀ {p q:Prop},p->(if true=true then p else q):=fun h=>by rw [if_pos rfl];exact h
  refine hI ?_;refine ⟨D::A,δ++ow,RE,?_⟩;rw [eg];refine ⟨hfs,fun a H4 na s4 ha=>?_⟩;have l4:H4 D=some (.lst (as.map V.ref)):=s4 _ _ l2;have naD:a≠D:=fun z=>by rw [z,l2] at na;cases na
  have naA:a∉as:=fun z=>by obtain ⟨_,_,u,hu⟩:=hnew a z;rw [s2 _ _ hu] at na;cases na
  have dU:del (upd H4 D (.lst (as.map V.ref++[.ref a]))) (D::A)=del H4 (D::A):=kK (List.mem_cons_self);have h4a:∃ u,H4 a=some u:=by obtain ⟨_,dx,gs',hp,_⟩:=ha.atObj;exact ⟨_,(bE hp).2⟩
  have hex:k7 C names tl (as++[a]) (fss.take (i+1))=k7 C names tl as (fss.take i)++[cN C a (names.zip fs++tlD tl)]:=by
   have ht:fss.take (i+1)=fss.take i++[fs]:=by rw [List.take_add_one,ef];rfl
   unfold k7;rw [ht,List.zip_append (by rw [hal,List.length_take];omega),List.map_append];rfl
  refine ⟨l4,by rw [sizeLine_eq,List.length_map,hal];omega,⟨vs,rfl,hvs⟩,ds.length-(i+1),by omega,rfl,hlt,?_,aR,as++[a],by rw [List.length_append,hal];rfl,by rw [List.map_append];rfl,?_,fun b hb=>?_,?_⟩
  ·exact az.put ((sm.trans s2).trans s4) hD
  ·exact List.nodup_append.mpr ⟨nd,by simp,fun b hb c hc e=>by rw [List.mem_singleton.mp hc] at e;exact naA (e▸hb)⟩
  ·rcases List.mem_append.mp hb with z | z
   ·obtain ⟨h1,h2,u,hu⟩:=hnew b z;refine ⟨h1,h2,u,?_⟩;rw [aI h2];exact s4 _ _ (s2 _ _ hu)
   ·cases List.mem_singleton.mp z;obtain ⟨u,hu⟩:=h4a;refine ⟨(sm.trans s2).free na,naD,u,?_⟩;rw [aI naD];exact hu
  ·rw [dU,hex];exact (c3.same (az.del (s2.trans s4))).append (jt ha)
 ·have e:i=ds.length:=by omega
  subst e;rw [<-hfl,List.take_length] at c3;refine .inl ⟨js,o as D H' (by rw [hal]) nd (fun a ha=>s1.free (hnew a ha).1) (s1.trans sm) ?_⟩;have hs:az (del H' (D::A)) (del H' A):=fun b u eb=>by obtain ⟨q1,q2⟩:=bE eb;rw [aW (fun z=>q1 (List.mem_cons_of_mem _ z))];exact q2
  exact kx (by rw [aW nD];exact hl) (c3.same hs)
section
variable {X:Cx} {E:XK} {O:List Nat} {st:Stmt} {ss:List Stmt}
theorem ER {C:Addr} {names:List Str} {tl:List (Str×Int)} {n0 i:Nat} {gi gs:Ds->Rs (List PyData)} {tgt:PyData->Option Ds} {G:List Addr->Ds->Sr} {Gt:Ds->Sr} (hS:PS X st (Bd (lJ X.K E C names tl n0 gi gs tgt) (kg i))) (hss:∀ as,PBN as X E O ss (G as)) (hi:i∉O)
  (hGt:∀ δ,Gt δ≠.no->∃ d ds fss,Gt δ=.rt d/\i<δ.length/\δ.length=n0/\gi (mask O δ)=.ok ds/\ds.length<=1000000/\fss.length=ds.length/\(∀ (i:Nat) d,ds[i]?=some d->∃ ow fs,tgt d=some ow/\fss[i]?=some fs/\gs (mask O δ++ow)=.ok fs/\fs.length=names.length) /\
   ∀ as:List Addr,as.length=ds.length->as.Nodup->G as (δ.set i (some (.list (k7 C names tl as fss))))=.rt d):PBD X E O (st::ss) Gt:=by
 have h2:PSs X ss (fun D σ H=>∃ as,sDN as X.K E O (G as) D σ H):=fun pins s σ H D I qz6=>(by obtain ⟨as,h⟩:=qz6;exact hss as pins s σ H D I h)
 refine (dQ hS h2).imp fun D σ H rz3=>?_
 obtain ⟨H0,A0,A,δ,R,o⟩:=rz3;by_cases z:Gt δ=.no
 ·rw [z] at o;exact o.elim
 obtain ⟨d,ds,fss,e1,hl,hn,e2,hz,hf,hel,hG⟩:=hGt δ z;rw [e1] at o;have hml:(mask O δ).length=n0:=by rw [wO];exact hn
 refine ⟨A++A0,mask O δ,R.part,hml,ds,fss,e2,hz,hf,hel,fun as Dd H' hal nd hnew s1 hIs=>?_⟩;refine ⟨as,H0,A0,A,_,fun a ha=>R.same.free (hnew a ha),(R.step s1).set hi hl hIs,?_⟩;rw [hG as hal nd];exact o
end
section
variable {κ:Type} [DecidableEq κ]
def nG (kvs:List (κ×V)) (k:κ):Option V:=(kvs.find? fun kv=>decide (kv.1=k)).map (·.2)
def putK (kvs:List (κ×V)) (k:κ) (v:V):List (κ×V) :=
 if (kvs.any fun kv=>decide (kv.1=k))=true then kvs.map (fun kv=>if kv.1=k then (kv.1,v) else kv) else kvs++[(k,v)]
theorem q9 {p:κ×V} {r:List (κ×V)} {k:κ} (e:p.1=k):nG (p::r) k=some p.2:=by simp [nG,List.find?_cons,e]
theorem qe {p:κ×V} {r:List (κ×V)} {k:κ} (e:¬ p.1=k):nG (p::r) k=nG r k:=by simp [nG,List.find?_cons,e]
theorem wH (k:κ):∀ kvs:List (κ×V),(kvs.any fun kv=>decide (kv.1=k))=(nG kvs k).isSome
 | []=>rfl
 | p::r=>by
  rw [List.any_cons];by_cases e:p.1=k
  ·simp only [q9 e,decide_eq_true e,Bool.true_or,Option.isSome_some]
  ·rw [qe e,decide_eq_false e,Bool.false_or];exact wH k r
theorem oF (kvs:List (κ×V)) (k:κ) (v:V):(putK kvs k v).length<=kvs.length+1:=by
 unfold putK;split
 ·rw [List.length_map];omega
 ·rw [List.length_append,List.length_cons,List.length_nil];omega
theorem kS.isSome_eq {o:Option V} {u:Option Value} (r:kS o u):o.isSome=u.isSome:=by
 cases o with
 | none=>cases u with
  | none=>rfl
  | some _=>exact (show False from r).elim
 | some _=>cases u with
  | none=>exact (show False from r).elim
  | some _=>rfl
theorem kS.getD {o:Option V} {u:Option Value} {d:V} {d':Value} (r:kS o u) (rd:RelV d d'):RelV (o.getD d) (u.getD d'):=by
 cases o with
 | none=>cases u with
  | none=>exact rd
  | some _=>exact (show False from r).elim
 | some _=>cases u with
  | none=>exact (show False from r).elim
  | some _=>exact r
theorem KV.val {kvs:List (κ×V)} {vs:List (κ×Value)} (r:KV kvs vs) (k:κ):kS (nG kvs k) (valueAt vs k):=by
 unfold KV at r
 induction r with
 | nil=>exact True.intro
 | @cons p q ps qs h t ih =>
  obtain ⟨h1,h2⟩:=h;by_cases e:p.1=k
  ·have e':q.1=k:=h1.symm.trans e;have b:valueAt (q::qs) k=some q.2:=by simp [valueAt,List.find?_cons,e']
   rw [q9 e,b];exact h2
  ·have e':¬ q.1=k:=fun z=>e (h1.trans z)
   have b:valueAt (q::qs) k=valueAt qs k:=by simp [valueAt,List.find?_cons,e']
   rw [qe e,b];exact ih
theorem KV.any {kvs:List (κ×V)} {vs:List (κ×Value)} (r:KV kvs vs) (k:κ):(kvs.any fun kv=>decide (kv.1=k))=vs.any fun kv=>decide (kv.1=k):=by
 unfold KV at r
 induction r with
 | nil=>rfl
 | cons h t ih=>rw [List.any_cons,List.any_cons,ih,h.1]
theorem KV.repl {kvs:List (κ×V)} {vs:List (κ×Value)} (r:KV kvs vs) (k:κ) {y:V} {u:Value} (ry:RelV y u) :
  KV (kvs.map fun kv=>if kv.1=k then (kv.1,y) else kv) (vs.map fun kv=>if kv.1=k then (kv.1,u) else kv):=by
 unfold KV at r ⊢
 induction r with
 | nil=>exact .nil
 | @cons p q ps qs h t ih =>
  rw [List.map_cons,List.map_cons];refine .cons ?_ ih;obtain ⟨h1,h2⟩:=h;by_cases e:p.1=k
  ·rw [if_pos e,if_pos (h1.symm.trans e)];exact ⟨h1,ry⟩
  ·rw [if_neg e,if_neg (fun z=>e (h1.trans z))];exact ⟨h1,h2⟩
theorem KV.put {kvs:List (κ×V)} {vs:List (κ×Value)} (r:KV kvs vs) (k:κ) {y:V} {u:Value} (ry:RelV y u):KV (putK kvs k y) (stored vs k u):=by
 unfold putK stored;rw [r.any k];by_cases e:(vs.any fun kv=>decide (kv.1=k))=true
 ·rw [if_pos e,if_pos e];exact r.repl k ry
 ·rw [if_neg e,if_neg e];exact Paired.snoc r ⟨rfl,ry⟩
theorem KV.length {kvs:List (κ×V)} {vs:List (κ×Value)} (r:KV kvs vs):kvs.length=vs.length:=Paired.length r
end
theorem AU {P:Program} {w:World} {k:Key} {u:Value} (r:RelV (kV k) u):(dH P w).is k u=true:=by
 cases k with
 | inl i=>obtain ⟨t,e⟩:=(show ∃ t,u=Value.int i t from r);subst e;exact wc P w i t
 | inr x=>obtain ⟨t,e⟩:=(show ∃ t,u=Value.str x t from r);subst e;exact xc P w x t
theorem sq {P:Program} {w:World}:∀ {ks:List Key} {us:List Value},Vals (ks.map kV) us->ItemsAre (dH P w) ks us
 | [],_,r=>by rw [List.map_nil] at r;cases r;exact .nil
 | k::ks,_,r=>by
  rw [List.map_cons] at r;cases r with
  | cons h t=>exact .cons (AU h) (sq t)
abbrev KT (H:Hp):List (List Key×V)->List (List Key×Addr×Value)->Prop:=Paired fun p q=>p.1=q.1/\H q.2.1=some (.tup (p.1.map kV))/\RelV p.2 q.2.2
theorem KT.val {H:Hp} {kvs:List (List Key×V)} {xs:List (List Key×Addr×Value)} (r:KT H kvs xs) (k:List Key):kS (nG kvs k) ((atKey xs k).map (·.2)):=by
 induction r with
 | nil=>exact True.intro
 | @cons p q ps qs h t ih =>
  obtain ⟨h1,_,h2⟩:=h;by_cases e:p.1=k
  ·have e':q.1=k:=h1.symm.trans e;have b:atKey (q::qs) k=some q.2:=by simp [atKey,List.find?_cons,e']
   rw [q9 e,b];exact h2
  ·have e':¬ q.1=k:=fun z=>e (h1.trans z)
   have b:atKey (q::qs) k=atKey qs k:=by simp [atKey,List.find?_cons,e']
   rw [qe e,b];exact ih
theorem KT.repl {H:Hp} {kvs:List (List Key×V)} {xs:List (List Key×Addr×Value)} (r:KT H kvs xs) (k:List Key) {y:V} {u:Value} (ry:RelV y u) :
  KT H (kvs.map fun kv=>if kv.1=k then (kv.1,y) else kv) (xs.map (putAt k u)):=by
 induction r with
 | nil=>exact .nil
 | @cons p q ps qs h t ih =>
  rw [List.map_cons,List.map_cons];refine .cons ?_ ih;obtain ⟨h1,h2,h3⟩:=h;unfold putAt;by_cases e:p.1=k
  ·rw [if_pos e,if_pos (h1.symm.trans e)];exact ⟨h1,h2,ry⟩
  ·rw [if_neg e,if_neg (fun z=>e (h1.trans z))];exact ⟨h1,h2,h3⟩
theorem KT.put {H:Hp} {kvs:List (List Key×V)} {xs:List (List Key×Addr×Value)} (r:KT H kvs xs) (k:List Key) {b:Addr} {y:V} {u:Value} (hb:H b=some (.tup (k.map kV))) (ry:RelV y u) :
  KT H (putK kvs k y) (storedH xs k b u):=by
 have e:(kvs.any fun kv=>decide (kv.1=k))=(atKey xs k).isSome:=by rw [wH,(r.val k).isSome_eq,Option.isSome_map]
 unfold putK storedH;rw [e];by_cases q:(atKey xs k).isSome=true
 ·rw [if_pos q,if_pos q];exact r.repl k ry
 ·rw [if_neg q,if_neg q];exact Paired.snoc r ⟨rfl,hb,ry⟩
theorem KT.keeps {H H':Hp} {kvs:List (List Key×V)} {xs:List (List Key×Addr×Value)} (r:KT H kvs xs) (ht:∀ b ys,H b=some (.tup ys)->H' b=some (.tup ys)):KT H' kvs xs :=
 Paired.mapP r fun _ _ z=>⟨z.1,ht _ _ z.2.1,z.2.2⟩
section
variable {P:Program} {w:World} {H:Hp} {h:Heap} {a:Addr}
theorem FE {u:HO} (ok:HOk P w H h) (e:Rd H a u):dD P w H h a u:=e.ok ok
theorem Dl {kvs:List (Key×V)} (ok:HOk P w H h) (e:Rd H a (.dK kvs)):kvs.length<=sizeLine/\(a==sysModules)=false/\∃ vs,KV kvs vs/\h.DictOf (dH P w) a vs :=
 show dD P w H h a (.dK kvs) from FE ok e
theorem IC {kvs:List (Key×V)} (ok:HOk P w H h) (e:H a=some (.dK kvs)):kvs.length<=sizeLine/\(a==sysModules)=false/\∃ vs,KV kvs vs/\h.DictOf (dH P w) a vs:=Dl ok (.inl e)
theorem xR {ks:List Key} (ok:HOk P w H h) (e:H a=some (.tup (ks.map kV))):(tupleKind (dH P w)).is h ks a:=by
 obtain ⟨_,its,r,o,h1,h2,_,n,h3⟩:=(show dD P w H h a (.tup (ks.map kV)) from ok a _ e)
 exact ⟨o,its.toArray,n,h1,h2,h3,by simpa using sq r⟩
theorem CM {kvs:List (List Key×V)} (ok:HOk P w H h) (e:Rd H a (.dT kvs)):kvs.length<=sizeLine/\(a==sysModules)=false /\
  ∃ xs,KT H kvs xs/\h.DictOfH (tupleKind (dH P w)) a xs:=by
 obtain ⟨z,y,xs,r,o,es,ep,h1,h2,h3,h4,h5⟩:=(show dD P w H h a (.dT kvs) from FE ok e)
 refine ⟨z,y,xs,r,o,es,ep,h1,h2,h3,h4,fun x hx=>?_,h5⟩;have all:∀ {l:List (List Key×V)} {m:List (List Key×Addr×Value)},KT H l m->∀ x∈m,(tupleKind (dH P w)).is h x.1 x.2.1:=by
  intro l m q
  induction q with
  | nil=>intro x hx;exact nomatch hx
  | @cons p q ps qs hq t ih =>
   intro x hx;rcases List.mem_cons.mp hx with e | hx
   ·subst e;exact xR ok (by rw [<-hq.1];exact hq.2.1)
   ·exact ih x hx
 exact all r x hx
theorem HS {kvs:List (List Key×V)} (ok:HOk P w H h) (e:H a=some (.dT kvs)):kvs.length<=sizeLine/\(a==sysModules)=false /\
 ∃ xs,KT H kvs xs/\h.DictOfH (tupleKind (dH P w)) a xs:=CM ok (.inl e)
end
def Bj (H:Hp) (a:Addr) (y:V) (r:Option V):Prop :=
 (∃ kvs k,Rd H a (.dK kvs)/\y=kV k/\r=nG kvs k)\/∃ kvs k b,Rd H a (.dT kvs)/\y=.ref b/\H b=some (.tup (k.map kV))/\r=nG kvs k
def A3 (H:Hp) (a:Addr) (y v:V) (H':Hp):Prop :=
 (∃ kvs k,H a=some (.dK kvs)/\y=kV k/\kvs.length<sizeLine/\H'=upd H a (.dK (putK kvs k v))) \/
 ∃ kvs k b,H a=some (.dT kvs)/\y=.ref b/\H b=some (.tup (k.map kV))/\kvs.length<sizeLine/\H'=upd H a (.dT (putK kvs k v))
theorem Bj.k {H:Hp} {a:Addr} {kvs:List (Key×V)} {k:Key} (e:H a=some (.dK kvs)):Bj H a (kV k) (nG kvs k):=.inl ⟨kvs,k,.inl e,rfl,rfl⟩
theorem A3.k {H:Hp} {a:Addr} {kvs:List (Key×V)} {k:Key} {v:V} (e:H a=some (.dK kvs)) (hl:kvs.length<sizeLine):A3 H a (kV k) v (upd H a (.dK (putK kvs k v))):=.inl ⟨kvs,k,e,rfl,hl,rfl⟩
section
variable {X:Cx} {pins:List (Addr×Obj)} {σ:St} {H:Hp} {s:Shared} {a:Addr} {y v:V} {u r:Value} {o:Option V} {A:Around} {E:Value->Shared->Prop}
theorem Inv.big (I:Inv X pins σ H s):sysModules<s.heap.objs.size:=by have h:mainGlobals<s.heap.objs.size:=(I.mod.glob.keeps I.bk).lt;exact Nat.lt_trans (by decide) h
theorem zo {h':Heap} {t':Nat} {ob:HO} (I:Inv X pins σ H s) (mu:Mut (H a)) (hs:Heap.SameBut a s.heap h') (he:∃ q,h'.get? a=some q) (new:dD X.prog X.w (upd H a ob) h' a ob) :
  Inv X pins σ (upd H a ob) { s with heap:=h',toks:=t' } :=
 I.write (x:=a) (e:=a) mu (.inl rfl) (fun b q hb z=>(hs.2 b hb).trans z) he new
theorem Gm {P:Program} {w:World} {H':Hp} {h':Heap} {kvs:List (Key×V)} {vs:List (Key×Value)} (z:kvs.length<=sizeLine) (hd:(a==sysModules)=false) (rel:KV kvs vs) (dd:h'.DictOf (dH P w) a vs) :
 dD P w H' h' a (.dK kvs):=⟨z,hd,vs,rel,dd⟩
theorem Ak {H':Hp} {Q:Unit->Shared->Prop} (hu:A.units+1<cLine) (I:Inv X pins σ H s) (g:A3 H a y v H') (ry:RelV y u) (rv:RelV v r) (h:∀ s',Inv X pins σ H' s'->Q () s') :
  wpAny (model X.prog X.w) A (setItem (.ref a) u r) Q E s:=by
 rcases g with ⟨kvs,k,e,ey,l,eH⟩ | ⟨kvs,k,b,e,ey,eb,l,eH⟩
 ·subst ey eH;obtain ⟨z,hd,vs,rel,dd⟩:=IC I.hok e;have hz:vs.length<=sizeLine:=by rw [<-rel.length];exact z
  have hl:(putK kvs k v).length<=sizeLine:=by have:=oF kvs k v;omega
  refine wpAny_setItem_pairs (hsz:=hz) (AU ry) dd fun h' dd' hs=>h _ ?_
  have he:∃ q,h'.get? a=some q:=let ⟨q,_,_,hq,_⟩:=dd';⟨q,hq⟩;exact zo I (by rw [e];exact True.intro) hs he (Gm hl hd (rel.put k rv) dd')
 ·subst ey eH;cases (show u=Value.ref b from ry);obtain ⟨z,hd,xs,rel,dd⟩:=HS I.hok e;have hz:xs.length<=sizeLine:=by rw [<-Paired.length rel];exact z
  have hl:(putK kvs k v).length<=sizeLine:=by have:=oF kvs k v;omega
  refine wpAny_setItem_heap (hsz:=hz) (tupleKind_room_in1 hu) (xR I.hok eb) dd fun h' dd' hs=>h _ ?_
  obtain ⟨q,es,ep,hq,h2,h3,h4,_,h5⟩:=dd';refine zo I (by rw [e];exact True.intro) hs ⟨q,hq⟩ ⟨hl,hd,_,(rel.put k eb rv).keeps fun c ys ec=>?_,q,es,ep,hq,h2,h3,h4,h5⟩;rw [aI (II ec e (fun z=>nomatch z))];exact ec
end
section
variable {X:Cx} {pins:List (Addr×Obj)} {σ:St} {H:Hp} {s:Shared} {a:Addr} {kvs:List (Key×V)} {k:Key} {u:Value} {A:Around} {E:Value->Shared->Prop}
end
def IE (td ty tv:TE):TS:=fun D σ H=>tv σ H fun v H1=>td σ H1 fun x H2=>ty σ H2 fun y H3=>∃ a H4,x=.ref a/\A3 H3 a y v H4/\D.nx σ H4
section
variable {X:Cx} {o i e value:Expr} {pos pos' tpos:Pos} {td ty tv:TE}
theorem Dz (hu:X.A.units+1<cLine) (ho:PE X o td) (hi:PE X i ty) (hv:PE X value tv) (hs:swapsWith value (some (.Subscript o i pos')) pos.line X.env=pure false) :
  PS X (.Assign [.Subscript o i pos'] value pos) (IE td ty tv):=by
 intro pins s σ H D I h;refine wpAny_Assign_Subscript (thn (hv pins s σ H _ I h) fun r s1 rz2=>?_) hs;obtain ⟨v,H1,I1,rv,q1⟩:=rz2;refine thn (ho pins s1 σ H1 _ I1 q1) fun u s2 rz2=>?_
 obtain ⟨x,H2,I2,rx,q2⟩:=rz2;refine thn (hi pins s2 σ H2 _ I2 q2) fun iv s3 rz2=>?_
 obtain ⟨y,H3,I3,ry,a,H4,ex,g,q3⟩:=rz2;subst ex;obtain rfl:u=Value.ref a:=rx;exact Ak hu I3 g ry rv fun s4 I4=>⟨σ,H4,I4,q3⟩
end
theorem BV {P:Program} {w:World} {H:Hp} (h:Heap) (hb:sysModules<h.objs.size):dD P w H (h.push { cls:=.type "dict",data:=.dict #[] }) h.objs.size (.dK []) :=
 ⟨Nat.zero_le _,beq_eq_false_iff_ne.mpr (Ne.symm (Nat.ne_of_lt hb)),[],.nil,Heap.DictOf.new h⟩
def Hf:TE:=fun _ H Q=>∀ p,H p=none->Q (.ref p) (upd H p (.dK []))
section
variable {X:Cx} {pos:Pos}
theorem vP:PE X (.Dict [] [] pos) Hf:=fun pins s σ H Q I h =>
 wpAny_Dict_empty ⟨.ref s.heap.objs.size,_,I.laid (a:=s.heap.objs.size) (o:=.dK []) (t':=s.toks) (fun _ _ q=>Heap.get?_push_of_some _ q) (Nat.le_refl _) (BV s.heap I.big),rfl,h _ (I.hok.fresh (Nat.le_refl _))⟩
end
structure M2 (X:Cx) (o:Expr) (m:Str) (apos:Pos) (e f:Expr) (cpos:Pos):Prop where
 base:attributeBase o m X.env (eval o X.env)=eval o X.env
 few:((backTo cpos (starEach [e,f] X.env)).all (fun x=>!x.1)&&(backToKw cpos (keywordEach [] X.env)).all (fun x=>x.1.isSome)
 &&decide (([e,f]:List Expr).length+([]:List Keyword).length+(if ([]:List Keyword).isEmpty then 0 else 1)<30))=true
 line:(apos.endLine==cpos.line)=true
 trees:backTo cpos (starEach [e,f] X.env)=[(false,eval e X.env),(false,eval f X.env)]
def Iw (H:Hp) (a:Addr):Prop:=(∃ kvs,Rd H a (.dK kvs))\/∃ kvs,Rd H a (.dT kvs)
theorem Hk {X:Cx} {pins:List (Addr×Obj)} {σ:St} {H:Hp} {s:Shared} {a:Addr} (I:Inv X pins σ H s) (d:Iw H a) :
  s.TypeIs (.ref a) "dict"/\(∀ b,Value.ref a=.ref b->∃ ob,s.heap.get? b=some ob/\ob.dict=none)/\(a==sysModules)=false:=by
 rcases d with ⟨kvs,e⟩ | ⟨kvs,e⟩
 ·obtain ⟨_,hd,vs,_,dd⟩:=Dl I.hok e;refine ⟨dd.typeIs,fun b q=>?_,hd⟩;cases q;obtain ⟨ob,_,_,h1,h2,_⟩:=dd;exact ⟨ob,h1,h2.2.1⟩
 ·obtain ⟨_,hd,xs,_,dd⟩:=CM I.hok e;refine ⟨dd.typeIs,fun b q=>?_,hd⟩;cases q;obtain ⟨ob,_,_,h1,h2,_⟩:=dd;exact ⟨ob,h1,h2.2.1⟩
section
variable {X:Cx} {pins:List (Addr×Obj)} {σ:St} {H:Hp} {s:Shared} {a:Addr} {y d:V} {u r:Value} {o:Option V} {A:Around} {E:Value->Shared->Prop}
theorem FH {Q:Value->Shared->Prop} (hu:A.units+1<cLine) (I:Inv X pins σ H s) (g:Bj H a y o) (ry:RelV y u) (rd:RelV d r) (h:∀ w' s',Inv X pins σ H s'->RelV (o.getD d) w'->Q w' s') :
  wpAny (model X.prog X.w) A (call (.builtin "dict.get") [.ref a,u,r]) Q E s:=by
 rcases g with ⟨kvs,k,e,ey,l⟩ | ⟨kvs,k,b,e,ey,eb,l⟩
 ·subst ey;obtain ⟨z,hd,vs,rel,dd⟩:=Dl I.hok e;refine call_meetsIn PySem.F.slot_dict_get dd.typeIs PySem.F.entry_dict_get (PySem.F.args_dict_get_3 _ _ _) (meets_dict_get_default (dH X.prog X.w) a (AU ry) hd r) ⟨_,dd.mapOf,h _ _ (I.tok _) ?_⟩;rw [l];exact (rel.val k).getD rd
 ·subst ey;cases (show u=Value.ref b from ry);obtain ⟨z,hd,xs,rel,dd⟩:=CM I.hok e;refine call_meetsIn PySem.F.slot_dict_get dd.typeIs PySem.F.entry_dict_get (PySem.F.args_dict_get_3 _ _ _) (meetsH_dict_get_default (tupleKind (dH X.prog X.w)) a b hd r) ⟨tupleKind_room_in1 hu,k,xs,xR I.hok eb,dd,h _ _ (I.tok _) ?_⟩;rw [l];exact (rel.val k).getD rd
end
def Hc (td ty tx:TE):TE:=fun σ H Q=>td σ H fun x H1=>∃ a,x=.ref a/\Iw H1 a/\ty σ H1 fun y H2=>tx σ H2 fun z H3=>∃ o,Bj H3 a y o/\Q (o.getD z) H3
section
variable {X:Cx} {o e f:Expr} {apos cpos:Pos} {td ty tx:TE}
theorem Bm (hu:X.A.units+1<cLine) (ho:PE X o td) (he:PE X e ty) (hf:PE X f tx) (m:M2 X o "get" apos e f cpos):PE X (.Call (.Attribute o "get" apos) [e,f] [] cpos) (Hc td ty tx):=by intro pins s σ H Q I h;refine wpAny_Call_method m.base m.few m.line PySem.F.plainAttrs_dict PySem.F.slot_dict_get PySem.F.type_dict_get (thn (ho pins s σ H _ I h) fun u s1 rz2=>?_);obtain ⟨x,H1,I1,rx,a,ex,d,q1⟩:=rz2;subst ex;obtain rfl:u=Value.ref a:=rx;obtain ⟨t1,t2,_⟩:=Hk I1 d;refine ⟨t1,t2,?_⟩;rw [m.trees];refine Calls.callWith_builtin rfl (Calls.evalArgs_plain (Calls.spliced_cons (thn (he pins s1 σ H1 _ I1 q1) fun iv s2 rz2=>?_)));obtain ⟨y,H2,I2,ry,q2⟩:=rz2;refine Calls.spliced_cons (thn (hf pins s2 σ H2 _ I2 q2) fun fv s3 rz2=>?_);obtain ⟨z,H3,I3,rz,ov,g,q3⟩:=rz2;refine Calls.spliced_nil ?_;exact FH hu I3 g ry rz fun w' s4 I4 rw'=>⟨_,H3,I4,rw',q3⟩
end
section
variable {X:Cx} {pins:List (Addr×Obj)} {σ:St} {H:Hp} {s:Shared} {a:Addr} {kvs:List (Key×V)} {A:Around} {E:Value->Shared->Prop}
end
section
variable {X:Cx} {pins:List (Addr×Obj)} {σ:St} {H:Hp} {s:Shared} {a:Addr} {y:V} {u:Value} {A:Around} {E:Value->Shared->Prop}
end
section
variable {K:PySem.W.Frag} {H0 H:Hp} {A0 A:List Addr} {O:List Nat} {δ:Ds} {σ:St}
theorem cp.setOwnO {i:Nat} {d0:PyData} {o:HO} {a:Addr} {H1:Hp} (R:cp K H0 A0 H A O δ σ) (hi:i∈O) (hl:i<δ.length) (hn:H a=none) (s:az H H1) (ha:H1 a=some o) (hoo:G2 o=true) (h:ic K (del H1 (a::(A++A0))) d0 o) :
  cp K H0 A0 H1 (a::A) O (δ.set i (some d0)) (σ.set i (some (.ref a))) where
 same:=R.same.trans s
 ls0:=R.ls0
 new:=fun b hb=>by
  rcases List.mem_cons.mp hb with z | z
  ·rw [z];exact R.same.free hn
  ·exact R.new b z
 ls:=fun b hb=>by
  rcases List.mem_cons.mp hb with z | z
  ·exact ⟨_,by rw [z];exact ha,hoo⟩
  ·exact (R.ls.same s) b z
 len:=by simp [R.len]
 pl:=fun j e hj q=>by
  rcases get_set q with ⟨z,q⟩ | ⟨z,q⟩
  ·subst z;exact absurd hi hj
  ·obtain ⟨u,e1,h1⟩:=R.pl j e hj q;refine ⟨u,kH z e1,h1.same fun b o e=>?_⟩;obtain ⟨y,e⟩:=bE e;have nb:b≠a:=aT e hn;rw [aW (by simpa [nb] using y)];exact s _ _ e
 own:=fun j e hj q=>by
  have kk:∀ b o,del H (A++A0) b=some o->del H1 (a::A++A0) b=some o:=fun b o e=>by obtain ⟨y,e⟩:=bE e;have nb:b≠a:=aT e hn;rw [aW (by simpa [nb] using y)];exact s _ _ e
  rcases get_set q with ⟨z,q⟩ | ⟨z,q⟩
  ·cases q;subst z;exact ⟨a,_,_,by rw [List.getElem?_set_self (by rw [<-R.len];exact hl)],List.mem_cons_self,ha,rfl,h⟩
  ·obtain ⟨b,ys,es,e1,h1,h2,h3,h4⟩:=R.own j e hj q;exact ⟨b,ys,es,kH z e1,List.mem_cons_of_mem _ h1,s _ _ h2,h3,h4.same kk⟩
 inj:=fun j k d' e b hj hk q1 q2 p1 p2=>by
  have old:∀ k,k∈O->i≠k->∀ e,δ[k]?=some (some e)->σ[k]?=some (some (.ref a))->False:=fun k hk _ e q p=>by obtain ⟨b,ys,es,e1,h1,h2,_⟩:=R.own k e hk q;rw [p] at e1;cases e1;rw [hn] at h2;cases h2
  by_cases z1:i=j
  ·by_cases z2:i=k
   ·rw [<-z1,z2]
   ·subst z1;rw [List.getElem?_set_self (by rw [<-R.len];exact hl)] at p1;cases p1;rw [List.getElem?_set_ne z2] at q2 p2;exact (old k hk z2 e q2 p2).elim
  ·by_cases z2:i=k
   ·subst z2;rw [List.getElem?_set_self (by rw [<-R.len];exact hl)] at p2;cases p2;rw [List.getElem?_set_ne z1] at q1 p1;exact (old j hj z1 d' q1 p1).elim
   ·rw [List.getElem?_set_ne z1] at q1 p1;rw [List.getElem?_set_ne z2] at q2 p2;exact R.inj j k d' e b hj hk q1 q2 p1 p2
theorem cp.putO {i:Nat} {d1 d0:PyData} {a:Addr} {o:HO} (R:cp K H0 A0 H A O δ σ) (hi:i∈O) (hd:δ[i]?=some (some d0)) (hs:σ[i]?=some (some (.ref a))) (ha:a∈A) (hoo:G2 o=true) (h:ic K (del H (A++A0)) d1 o) :
  cp K H0 A0 (upd H a o) A O (δ.set i (some d1)) σ:=by
 have dU:del (upd H a (o)) (A++A0)=del H (A++A0):=kK (List.mem_append_left _ ha);have hl:i<δ.length:=(List.getElem?_eq_some_iff.mp hd).1;refine ⟨fun b o e=>?_,R.ls0,R.new,fun b hb=>?_,by simp [R.len],fun j e hj q=>?_,fun j e hj q=>?_,fun j k d' e b hj hk q1 q2 p1 p2=>?_⟩
 ·have nb:b≠a:=fun z=>by rw [z,R.new a ha] at e;cases e
  rw [aI nb];exact R.same b o e
 ·by_cases z:b=a
  ·exact ⟨_,by rw [z,aR],hoo⟩
  ·rw [aI z];exact R.ls b hb
 ·rcases get_set q with ⟨z,q⟩ | ⟨z,q⟩
  ·subst z;exact absurd hi hj
  ·rw [dU];exact R.pl j e hj q
 ·rcases get_set q with ⟨z,q⟩ | ⟨z,q⟩
  ·cases q;subst z;exact ⟨a,_,_,hs,ha,aR,rfl,by rw [dU];exact h⟩
  ·obtain ⟨b,zs,es,e1,h1,h2,h3,h4⟩:=R.own j e hj q;have nb:b≠a:=fun w=>z (R.inj i j _ _ a hi hj hd q hs (by rw [<-w];exact e1))
   exact ⟨b,zs,es,e1,h1,by rw [aI nb];exact h2,h3,by rw [dU];exact h4⟩
 ·rcases get_set q1 with ⟨z1,q1⟩ | ⟨z1,q1⟩ <;> rcases get_set q2 with ⟨z2,q2⟩ | ⟨z2,q2⟩
  ·rw [<-z1,z2]
  ·subst z1;exact R.inj i k d0 e b hi hk hd q2 p1 p2
  ·subst z2;exact R.inj j i d' d0 b hj hi q1 hd p1 p2
  ·exact R.inj j k d' e b hj hk q1 q2 p1 p2
end
def cY (l:List (Int×Int)):PyData:=.dict (l.map fun p=>(PyData.int p.1,PyData.int p.2))
def dkO (l:List (Int×Int)):HO:=.dK (l.map fun p=>(.inl p.1,V.int p.2))
theorem qk:∀ {l m:List (Int×Int)},l.map (fun p=>(PyData.int p.1,PyData.int p.2))=m.map (fun p=>(PyData.int p.1,PyData.int p.2))->l=m
 | [],[],_=>rfl
 | [],_::_,h=>by simp at h
 | _::_,[],h=>by simp at h
 | (a,b)::l,(c,d)::m,h=>by simp only [List.map_cons,List.cons.injEq,Prod.mk.injEq,PyData.int.injEq] at h;obtain ⟨⟨rfl,rfl⟩,h⟩:=h;rw [qk h]
theorem Is.ofDic {K:PySem.W.Frag} {H:Hp} {l:List (Int×Int)} {v:V} (h:Is K H (cY l) v):∃ a,v=.ref a/\H a=some (dkO l):=by
 unfold cY Is at h;rcases h with (⟨a,ns,_,e,_⟩ | ⟨a,m,e1,e,h2⟩) | ⟨a,C,dx,fs,_,_,_,h | h⟩
 ·cases l with
  | nil=>simp at e
  | cons p l=>simp at e
 ·rw [qk e];exact ⟨a,e1,h2⟩
 ·cases l with
  | nil=>unfold Isk at h;simp at h
  | cons p l=>rw [List.map_cons] at h;unfold Isk at h;obtain ⟨f,_,_,_,q,_⟩:=h;cases q
 ·cases l with
  | nil=>unfold Isk at h;simp at h
  | cons p l=>rw [List.map_cons] at h;unfold Isk at h;obtain ⟨f,_,_,_,q,_⟩:=h;cases q
theorem GQ {K:PySem.W.Frag} {H:Hp} {l:List (Int×Int)} {a:Addr} (h:H a=some (dkO l)):Is K H (cY l) (.ref a):=by unfold cY Is;exact .inl (.inr ⟨a,l,rfl,rfl,h⟩)
def ll:List (PyData×PyData)->Option (List (Int×Int))
 | []=>some []
 | (.int a,.int b)::r=>(ll r).map fun l=>(a,b)::l
 | _=>none
theorem sk:∀ {r:List (PyData×PyData)} {l:List (Int×Int)},ll r=some l->r=l.map fun p=>(PyData.int p.1,PyData.int p.2)
 | [],l,e=>by cases e;rfl
 | (a,b)::r,l,e=>by
  cases a <;> cases b <;> first | (cases e;done) | skip
  unfold ll at e;cases q:ll r with
  | none=>rw [q] at e;cases e
  | some m=>rw [q] at e;cases e;rw [sk q];rfl
theorem pN:∀ l:List (Int×Int),ll (l.map fun p=>(PyData.int p.1,PyData.int p.2))=some l
 | []=>rfl
 | p::r=>by rw [List.map_cons];unfold ll;rw [pN r];rfl
def wy:PyData->Option (List (Int×Int))
 | .dict kvs=>ll kvs
 | _=>none
theorem vp {d:PyData} {l:List (Int×Int)} (h:wy d=some l):d=cY l:=by
 unfold wy at h;split at h
 ·unfold cY;rw [sk h]
 ·cases h
theorem sF (l:List (Int×Int)):wy (cY l)=some l:=pN l
def mJ (l:List (Int×Int)) (k:Int):Option Int:=(l.find? fun p=>decide (p.1=k)).map (·.2)
def xE (l:List (Int×Int)) (k v:Int):List (Int×Int):=if (l.any fun p=>decide (p.1=k))=true then l.map (fun p=>if p.1=k then (p.1,v) else p) else l++[(k,v)]
theorem Cr (l:List (Int×Int)) (k:Int):nG (l.map fun p=>((.inl p.1,V.int p.2):Key×V)) (.inl k)=(mJ l k).map V.int:=by
 unfold nG mJ
 induction l with
 | nil=>rfl
 | cons p r ih =>
  rw [List.map_cons,List.find?_cons,List.find?_cons];by_cases z:p.1=k
  ·have h1:decide ((Sum.inl p.1:Key)=.inl k)=true:=decide_eq_true (by rw [z]);simp only [h1,decide_eq_true z];rfl
  ·have h1:decide ((Sum.inl p.1:Key)=.inl k)=false:=decide_eq_false fun q=>z (Sum.inl.inj q)
   simp only [h1,decide_eq_false z];exact ih
theorem D9 (l:List (Int×Int)) (k v:Int):putK (l.map fun p=>((.inl p.1,V.int p.2):Key×V)) (.inl k) (.int v)=(xE l k v).map fun p=>(.inl p.1,V.int p.2):=by
 have ha:((l.map fun p=>((.inl p.1,V.int p.2):Key×V)).any fun kv=>decide (kv.1=.inl k))=l.any fun p=>decide (p.1=k):=by
  rw [List.any_map];congr 1;funext p;by_cases z:p.1=k
  ·simp [z]
  ·have:¬ ((Sum.inl p.1:Key)=.inl k):=fun q=>z (Sum.inl.inj q)
   simp [z,this]
 unfold putK xE;rw [ha];split
 ·rw [List.map_map,List.map_map];refine List.map_congr_left fun p _=>?_
  by_cases z:p.1=k
  ·simp [z]
  ·have:¬ ((Sum.inl p.1:Key)=.inl k):=fun q=>z (Sum.inl.inj q)
   simp [z,this]
 ·rw [List.map_append];rfl
section
variable {X:Cx} {E:XK} {O:List Nat} {o e f i' value:Expr} {go ge gf:Ds->Rs PyData} {pos pos' apos cpos:Pos}
theorem E4:PD X E (.Dict [] [] pos) (gC (cY [])):=(vP).imp fun σ H Q ⟨A,δ,R,o⟩=>fun p hp=>o (.ref p) _ (b8 hp) (GQ (l:=[]) (by rw [aW (R.ls.new hp)];exact aR))
def lX (go ge gf:Ds->Rs PyData):Ds->Rs PyData:=fun δ=>(go δ).bind fun d=>match wy d with
 | some l=>(ge δ).bind fun k=>(gf δ).bind fun z=>(match k,z with
  | .int k,.int z=>.ok (.int ((mJ l k).getD z))
  | _,_=>.no)
 | none=>.no
end
section
variable {X:Cx} {E:XK} {O:List Nat} {o e f k value:Expr} {go ge gf gk gv:Ds->Rs PyData} {pos pos' apos cpos:Pos}
theorem yF (hu:X.A.units+1<cLine) (ho:PD X E o go) (he:PD X E e ge) (hf:PD X E f gf) (m:M2 X o "get" apos e f cpos):PD X E (.Call (.Attribute o "get" apos) [e,f] [] cpos) (lX go ge gf) :=
 (Bm hu ho he hf m).imp fun σ H Q pz3=>by
  obtain ⟨A,δ,R,ou⟩:=pz3;unfold lX at ou;refine eD.run R (fun d ed v H1 s1 R1 h1=>?_) (fun C et H' s'=>?_) (fun et=>?_)
  ·simp only [ed,Rs.aj] at ou;split at ou
   ·rename_i l hl;rw [vp hl] at h1;obtain ⟨a,rfl,ha⟩:=h1.ofDic;have ha1:H1 a=some (dkO l):=aH _ _ ha;refine ⟨a,rfl,.inl ⟨_,.inl ha1⟩,?_⟩;refine eD.run R1 (fun kd ek u H2 s2 R2 hu2=>?_) (fun C et H' s'=>?_) (fun et=>?_)
    ·simp only [ek,Rs.aj] at ou;refine eD.run R2 (fun zd ez z H3 s3 R3 hz=>?_) (fun C et H' s'=>?_) (fun et=>?_)
     ·simp only [ez,Rs.aj] at ou;split at ou
      ·rename_i kk zz;have e1:=hu2.ofInt;have e2:=hz.ofInt;subst e1 e2;refine ⟨_,Bj.k (k:=.inl kk) (s3 _ _ (s2 _ _ ha1)),?_⟩;rw [Cr];have:((mJ l kk).map V.int).getD (.int zz)=.int ((mJ l kk).getD zz):=by cases mJ l kk <;> rfl
       rw [this];exact ou _ H3 (s1.trans (s2.trans s3)) cq
      ·exact ou.elim
     ·simp only [et,Rs.eN] at ou;exact ou H' (s1.trans (s2.trans s'))
     ·simp only [et,Rs.bT] at ou;exact ou
    ·simp only [et,Rs.eN] at ou;exact ou H' (s1.trans s')
    ·simp only [et,Rs.bT] at ou;exact ou
   ·exact ou.elim
  ·simp only [et,Rs.eN] at ou;exact ou H' s'
  ·simp only [et,Rs.bT] at ou;exact ou
def wK (i:Nat):Ds->Sr:=fun δ=>if i<δ.length then .nx (δ.set i (some (cY []))) else .no
theorem Bf {i:Nat} {x:Str} (hN:X.N.Nodup) (hO:i∈O:=by decide) (hi:X.N[i]?=some x:=by rfl) (hx:Loc X.env.scope x:=by first | exact Or.inl rfl | exact Or.inr rfl) (hs:swapsWith (.Dict [] [] pos') (some (.Name x apos)) pos.line X.env=pure false:=by rfl)
  (hf:X.fn x=true\/X.env.scope.names.lookup x=some .local:=by first | exact .inl rfl | exact .inr rfl | assumption):PSD X E O (.Assign [.Name x apos] (.Dict [] [] pos') pos) (wK i):=(qh hN hi hx vP hs hf).imp fun D σ H pz3=>by
 obtain ⟨H0,A0,A,δ,R,o⟩:=pz3;unfold wK at o;split at o
 ·rename_i hl;intro p hp;exact o (p::A) _ _ (R.setOwnO (o:=dkO []) hO hl hp (b8 hp) aR rfl ⟨[],rfl,rfl⟩)
 ·exact o.elim
def qF (i:Nat) (gk gv:Ds->Rs PyData):Ds->Sr:=fun δ=>match δ[i]? with
 | some (some d)=>(match wy d with
  | some l=>ofR (gv δ) fun v=>ofR (gk δ) fun k=>(match k,v with
   | .int k,.int v=>if l.length<1000000 then .nx (δ.set i (some (cY (xE l k v)))) else .no
   | _,_=>.no)
  | none=>.no)
 | _=>.no
theorem BC {i:Nat} {x:Str} {pn:Pos} (hu:X.A.units+1<cLine) (h:PD X E value gv) (hk:PD X E k gk) (hO:i∈O:=by decide) (hi:X.N[i]?=some x:=by rfl) (hv:Vis X.env.scope x:=by first | exact Or.inl rfl | exact Or.inr (Or.inl rfl) | exact Or.inr (Or.inr rfl))
  (hd:(x==("__debug__":Str))=false:=by decide) (hcd:(x==("__classdict__":Str))=false:=by decide) (hs:swapsWith value (some (.Subscript (.Name x pn) k pos')) pos.line X.env=pure false:=by rfl):PSD X E O (.Assign [.Subscript (.Name x pn) k pos'] value pos) (qF i gk gv) :=
 (Dz hu (lI hi hv hd hcd) hk h hs).imp fun D σ H pz3=>by
  obtain ⟨H0,A0,A,δ,R,ou⟩:=pz3;unfold qF at ou;split at ou
  ·rename_i d q;split at ou
   ·rename_i l hl;rw [vp hl] at q;obtain ⟨p,o',d',e1,hp,hpl,e2,hx⟩:=R.own i _ hO q;subst e2;have ho':o'=dkO l:=by
     unfold cY ic at hx;split at hx
     ·rename_i e;cases e
     ·rename_i e;injection e with e
      obtain ⟨m,e3,rfl⟩:=hx;rw [<-e] at e3;rw [qk e3];rfl
     ·exact hx.elim
    subst ho';refine eD.run R.full (fun vd ed v H1 s1 R1 hv1=>?_) (fun C et H' s'=>?_) (fun et=>?_)
    ·simp only [ed,aL] at ou;refine ⟨_,e1,?_⟩;refine eD.run R1 (fun kd ek u H2 s2 R2 hu2=>?_) (fun C et H' s'=>?_) (fun et=>?_)
     ·simp only [ek,aL] at ou;split at ou
      ·rename_i kk vv;split at ou
       ·rename_i hlen;have e3:=hu2.ofInt;have e4:=hv1.ofInt;subst e3 e4;have s12:=s1.trans s2;refine ⟨p,_,rfl,A3.k (k:=.inl kk) (s12 _ _ hpl) (by rw [List.length_map,sizeLine_eq];omega),?_⟩;rw [D9];exact ou A _ _ ((R.step s12).putO (o:=dkO (xE l kk vv)) hO q e1 hp rfl ⟨_,rfl,rfl⟩)
       ·exact ou.elim
      ·exact ou.elim
     ·simp only [et,qu] at ou;exact ou H' (R.same.trans (s1.trans s'))
     ·simp only [et,qg] at ou;exact ou
    ·simp only [et,qu] at ou;exact ou H' (R.same.trans s')
    ·simp only [et,qg] at ou;exact ou
   ·exact ou.elim
  ·exact ou.elim
end
theorem cC.u1 {k:Nat} {A:Around} (r:cC k A):A.units+1<cLine:=by have:=r.un;omega
def Fs (XN N:List Str) (p:Str) (cap:List Nat) (osc sc:Scope):Bool :=
 (sc.kind==.function)&&!sc.isCoroutine&&!sc.isGenerator&&decide N.Nodup&&decide (N.take 1=[p])&&(sc.names.lookup p==some .local)&&sc.names.all (fun x=>x.2 != .cell) &&
 sc.names.all (fun y=>y.2 != .free || osc.names.lookup y.1==some .cell)&&decide (N.length=1+cap.length) &&
 (List.range cap.length).all (fun i=>match N[1+i]?,cap[i]? with
  | some x,some m=>(XN[m]?==some x)&&(sc.names.lookup x==some .free)&&(osc.names.lookup x==some .cell)
  | _,_=>false)
theorem oO {α:Type} {x:Str} {k:α}:∀ {l:List (Str×α)},l.lookup x=some k->(x,k)∈l
 | [],h=>by cases h
 | (y,j)::r,h=>by
  rw [List.lookup_cons] at h;cases q:(x==y) with
  | true=>rw [q] at h;cases h;rw [eq_of_beq q];exact List.mem_cons_self
  | false=>rw [q] at h;exact List.mem_cons_of_mem _ (oO h)
theorem rj {CX:CXT} {P:Program} {w:World} {K:PySem.W.Frag} {mg:Str->Option Value} {base:Heap} {XN:List Str} {qual:Str} {osc:Scope} {fa:Addr} {cd:Value} {A:Around} {outer:List Env} {s:Shared} {H:Hp} {E:XK}
  {E':XK} {a body:Expr} {ga gb:Ds->Rs PyData} {pos lpos kp p0:Pos} {params:Arguments} {scope:Scope} {c Pt:Addr} {k:Nat} {N:List Str} {p:Str} {cap:List Nat}
  (hm:mg "min"=none) (hr:cC (k+2) (d6 CX P w K mg base XN qual osc fa cd A outer s H E).A) (ha:PD (d6 CX P w K mg base XN qual osc fa cd A outer s H E) E' a ga) (T:D3 (d6 CX P w K mg base XN qual osc fa cd A outer s H E) c Pt)
  (hbody:∀ (q c':Addr) (s':Shared) (H':Hp),PD (tE (CXW P w) P w K mg base N ((d6 CX P w K mg base XN qual osc fa cd A outer s H E).env.qual++"<lambda>") scope q (.ref c') (mY scope.names (d6 CX P w K mg base XN qual osc fa cd A outer s H E).env.cells []) (d6 CX P w K mg base XN qual osc fa cd A outer s H E).A.in1 (d6 CX P w K mg base XN qual osc fa cd A outer s H E).stack s' H' E0) E0 body gb)
  (hok:Fs XN N p cap osc scope=true:=by decide +kernel)
  (hb:∀ (q:Str) (cl:List (Str×Addr)) (c':Addr) (pm ctv u:Value),bindArgs (PySem.W.kla_fn "<lambda>" q params body scope cl pm (.ref c') ctv) ⟨[u],[]⟩=pure ([p].zip [u]):=by intro _ _ _ _ _ _;rfl)
  (hg:Gl (d6 CX P w K mg base XN qual osc fa cd A outer s H E) "min":=by rfl) (he:starEach [a] (d6 CX P w K mg base XN qual osc fa cd A outer s H E).env=[(false,eval a (d6 CX P w K mg base XN qual osc fa cd A outer s H E).env)]:=by rfl) (hdef:defaultsOf params (d6 CX P w K mg base XN qual osc fa cd A outer s H E).env=([],[]):=by rfl) :
  PD (d6 CX P w K mg base XN qual osc fa cd A outer s H E) E' (.Call (.Name "min" p0) [a] [⟨some "key",.Lambda params body scope lpos,kp⟩] pos) (jq cap ga gb):=by
 unfold Fs at hok;simp only [Bool.and_eq_true,List.all_eq_true,decide_eq_true_eq,beq_iff_eq,bne_iff_ne,Bool.or_eq_true,Bool.not_eq_true'] at hok;obtain ⟨⟨⟨⟨⟨⟨⟨⟨⟨o1,o2⟩,o3⟩,o4⟩,o5⟩,o6⟩,o7⟩,o8⟩,o9⟩,o10⟩:=hok;have hcell:∀ x,osc.names.lookup x=some .cell->∃ c,(d6 CX P w K mg base XN qual osc fa cd A outer s H E).env.cells.lookup x=some c:=fun x hx=>pK hx
 refine Ah (cap:=cap) rfl hm hr ha T (jF fun y hy hf=>?_) ⟨o1,o2,o3,o4,o5,fun x hx=>by rw [List.mem_singleton.mp hx];exact o6,o7⟩ (fun x c h=>qJ _ _ _ x c (fun _ _ z=>by cases z) h) (fun x hx=>?_) o9 (fun i m x h1 h2=>?_) (hb _ _) (fun q c' s' H'=>hbody q c' s' H') hg he hdef
 ·rcases o8 y hy with z | z
  ·exact absurd hf z
  ·exact hcell y.1 z
 ·have hmem:=oO hx;rcases o8 (x,.free) hmem with z | z
  ·exact absurd rfl z
  ·obtain ⟨c,hc⟩:=hcell x z;exact l8 _ _ _ x c hmem hc
 ·have hlt:i<cap.length:=(List.getElem?_eq_some_iff.mp h2).1;have:=o10 i (List.mem_range.mpr hlt);rw [h1,h2] at this;simp only [Bool.and_eq_true,beq_iff_eq] at this;obtain ⟨⟨q1,q2⟩,q3⟩:=this;exact ⟨q1,q2,.inl q3,.inr (.inl q3)⟩
end L2
namespace RS
open PySem
set_option genInjectivity true in
structure Er where
 every:Int
 due:Int
 late:Int
 parts:List (Int×Option Int)
def dR:Option Int->PyData
 | none=>.none
 | some i=>.int i
def bI (p:Int×Option Int):PyData:=.tuple [.int p.1,dR p.2]
def Er.d (e:Er):PyData:=.tuple [.int e.every,.int e.due,.int e.late,.tuple (e.parts.map bI)]
def aU (es:List Er):PyData:=.tuple (es.map Er.d)
def isWhole (d:PyData) (lo hi:Int):Bool:=match d with
 | .int i=>decide (lo<=i)&&decide (i<=hi)
 | _=>false
def cA (d:PyData) (lo hi:Int):Bool:=match d with
 | .tuple ds=>decide (lo<=(ds.length:Int))&&decide ((ds.length:Int)<=hi)
 | _=>false
def dX (d:PyData):Bool:=match d with
 | .tuple [a,b]=>isWhole a 1 20&&(match b with | .none=>true | b=>isWhole b 0 3)
 | _=>false
def j6 (ds:List PyData):Bool:=match ds.getLast? with
 | some (.tuple [_,.none])=>true
 | _=>false
def eB (d:PyData):Bool:=match d with
 | .tuple ds=>decide (1<=ds.length)&&decide (ds.length<=4)&&ds.all dX&&j6 ds
 | _=>false
def cm (d:PyData):Bool:=match d with
 | .tuple [.int e,du,.int l,ps]=>decide (2<=e)&&decide (e<=60)&&(decide (0<=l)&&decide (l<=(if e-1<20 then e-1 else 20)))&&isWhole du 1 (e-l)&&eB ps
 | _=>false
def ff (d:PyData):Bool:=match d with
 | .tuple ds=>decide (1<=ds.length)&&decide (ds.length<=6)&&ds.all cm
 | _=>false
structure Er.Ok (e:Er):Prop where
 e1:2<=e.every
 e2:e.every<=60
 l1:0<=e.late
 l2:e.late<=20
 l3:e.late<e.every
 d1:1<=e.due
 d2:e.due<=e.every-e.late
 p1:e.parts≠[]
 p2:e.parts.length<=4
 pl:∀ p∈e.parts,1<=p.1/\p.1<=20/\∀ t,p.2=some t->0<=t/\t<=3
 la:∀ p,e.parts.getLast?=some p->p.2=none
theorem Ax {p:Int×Option Int} (h1:1<=p.1) (h2:p.1<=20) (h3:∀ t,p.2=some t->0<=t/\t<=3):dX (bI p)=true:=by
 obtain ⟨l,t⟩:=p;cases t with
 | none=>simp [dX,bI,dR,isWhole,h1,h2]
 | some t =>obtain ⟨a,b⟩:=h3 t rfl;simp [dX,bI,dR,isWhole,h1,h2,a,b]
theorem vZ {e:Er} (h:e.Ok):cm e.d=true:=by
 have hp:(e.parts.map bI).all dX=true:=by rw [List.all_eq_true];intro d hd;obtain ⟨p,hp,rfl⟩:=List.mem_map.mp hd;obtain ⟨a,b,c⟩:=h.pl p hp;exact Ax a b c
 have hl:j6 (e.parts.map bI)=true:=by
  unfold j6;rw [List.getLast?_map];cases q:e.parts.getLast? with
  | none=>exact absurd (List.getLast?_eq_none_iff.mp q) h.p1
  | some p =>obtain ⟨l,t⟩:=p;have:t=none:=h.la _ q;subst this;rfl
 have hn:1<=e.parts.length:=by
  cases q:e.parts with
  | nil=>exact absurd q h.p1
  | cons _ _=>simp
 have h1:=h.e1;have h2:=h.e2;have h3:=h.l1;have h4:=h.l2;have h5:=h.l3;have h6:=h.d1;have h7:=h.d2;have h8:=h.p2;have hl2:e.late<=if e.every-1<20 then e.every-1 else 20:=by split <;> omega
 simp [cm,Er.d,eB,isWhole,hp,hl,hn,h1,h2,h3,h6,h7,h8,hl2]
theorem uB {es:List Er} (h1:1<=es.length) (h2:es.length<=6) (h:∀ e∈es,e.Ok):ff (aU es)=true:=by
 have hp:(es.map Er.d).all cm=true:=by rw [List.all_eq_true];intro d hd;obtain ⟨e,he,rfl⟩:=List.mem_map.mp hd;exact vZ (h e he)
 simp [ff,aU,h1,h2,hp]
def cellAt (ns:List Int) (k:Int):Int :=
 if k<(ns.length:Int) then ns.getD k.toNat 0 else if ns=[] then 0 else ns.getD (k % (ns.length:Int)).toNat 0*31+k
def zT (ns:List Int) (k:Int):Int:=(cellAt ns k+7919*k+1)*48271 % 2147483647
def mixed (ns:List Int) (k many:Int):Int:=(zT ns k*zT ns k+7*zT ns k+k) % 2147483629 % many
theorem Fi (ns:List Int) (k:Int):0<=zT ns k:=Int.emod_nonneg _ (by decide)
theorem Fn (ns:List Int) (k:Int):zT ns k<2147483647:=Int.emod_lt_of_pos _ (by decide)
theorem cT (ns:List Int) (k:Int) {many:Int} (h:0<many):0<=mixed ns k many:=Int.emod_nonneg _ (by omega)
theorem df (ns:List Int) (k:Int) {many:Int} (h:0<many):mixed ns k many<many:=Int.emod_lt_of_pos _ h
def k6 (i:Int):Option Int:=if i=0 then some 0 else if i=1 then some 1 else if i=2 then some 1 else if i=3 then some 0 else none
def eW (ns:List Int) (j:Int) (tools:Bool):Int×Option Int:=(1+mixed ns j 40 % 4,if tools then k6 (mixed ns j 40 / 4 % 5) else none)
def iN (ns:List Int) (at' every:Int):Int :=
 if every-1<mixed ns (at' + 1) 4*(if mixed ns (at' + 2) 3=0 then 1 else 0) then every-1 else mixed ns (at' + 1) 4*(if mixed ns (at' + 2) 3=0 then 1 else 0)
def oJ (ns:List Int) (at' due:Int):Int:=if mixed ns (at' + 1) 3=0 then due-mixed ns (at' + 2) due else due
def mkE (ns:List Int) (at' top:Int) (tools:Bool):Er where
 every:=3+mixed ns at' top
 late:=iN ns at' (3+mixed ns at' top)
 due:=oJ ns at' (3+mixed ns at' top-iN ns at' (3+mixed ns at' top))
 parts:=((List.range (mixed ns (at' + 3) 3).toNat).map fun (k:Nat)=>eW ns (at' + 4+(k:Int)) tools)++[(1+mixed ns (at' + 6) 3,none)]
def oP (ns:List Int) (at' most top:Int) (tools:Bool):List Er:=(List.range (1+mixed ns at' most).toNat).map fun (k:Nat)=>mkE ns (at' + 1+7*(k:Int)) top tools
theorem wY (ns:List Int) (at' every:Int) (h:3<=every):0<=iN ns at' every/\iN ns at' every<=3/\iN ns at' every<every:=by
 have h1:=cT ns (at' + 1) (many:=4) (by decide);have h2:=df ns (at' + 1) (many:=4) (by decide);unfold iN;generalize mixed ns (at' + 1) 4=x at *;by_cases hc:mixed ns (at' + 2) 3=0
 ·simp only [hc,if_true,Int.mul_one];split <;> omega
 ·simp only [hc,if_false,Int.mul_zero];split <;> omega
theorem DU (ns:List Int) (at' due:Int) (h:1<=due):1<=oJ ns at' due/\oJ ns at' due<=due:=by have h1:=cT ns (at' + 2) (many:=due) (by omega);have h2:=df ns (at' + 2) (many:=due) (by omega);unfold oJ;split <;> omega
theorem Ed (i t:Int) (h:k6 i=some t):0<=t/\t<=1:=by
 unfold k6 at h
 repeat' split at h
 all_goals (first | (cases h;decide) | cases h)
theorem Bn (ns:List Int) (j:Int) (tools:Bool):1<=(eW ns j tools).1/\(eW ns j tools).1<=4/\∀ t,(eW ns j tools).2=some t->0<=t/\t<=1:=by
 have h1:0<=mixed ns j 40 % 4:=Int.emod_nonneg _ (by decide);have h2:mixed ns j 40 % 4<4:=Int.emod_lt_of_pos _ (by decide);refine ⟨by unfold eW;simp only;omega,by unfold eW;simp only;omega,fun t h=>?_⟩;unfold eW at h;simp only at h;cases tools with
 | false=>simp at h
 | true=>simp at h;exact Ed _ _ h
theorem Gd (ns:List Int) (at' top:Int) (tools:Bool) (h1:0<top) (h2:top<=58):(mkE ns at' top tools).Ok:=by
 have a1:=cT ns at' h1;have a2:=df ns at' h1;have l:=wY ns at' (3+mixed ns at' top) (by omega);have d:=DU ns at' (3+mixed ns at' top-iN ns at' (3+mixed ns at' top)) (by omega);have n1:=cT ns (at' + 3) (many:=3) (by decide);have n2:=df ns (at' + 3) (many:=3) (by decide);have n3:=cT ns (at' + 6) (many:=3) (by decide);have n4:=df ns (at' + 6) (many:=3) (by decide);refine ⟨?_,?_,l.1,?_,l.2.2,d.1,d.2,?_,?_,?_,?_⟩
 ·show 2<=3+mixed ns at' top;omega
 ·show 3+mixed ns at' top<=60;omega
 ·have:=l.2.1;show iN ns at' (3+mixed ns at' top)<=20;omega
 ·simp [mkE]
 ·simp only [mkE,List.length_append,List.length_map,List.length_range,List.length_singleton];omega
 ·intro p hp;simp only [mkE,List.mem_append,List.mem_map,List.mem_singleton] at hp;rcases hp with ⟨k,_,rfl⟩ | rfl
  ·have:=Bn ns (at' + 4+(k:Int)) tools;refine ⟨this.1,by omega,fun t ht=>?_⟩;have:=this.2.2 t ht;omega
  ·exact ⟨by simp only;omega,by simp only;omega,fun t ht=>by cases ht⟩
 ·intro p hp;simp only [mkE,List.getLast?_append,List.getLast?_singleton,Option.some_or] at hp;cases hp;rfl
theorem C4 (ns:List Int) (at' most top:Int) (tools:Bool) (h:0<most):1<=(oP ns at' most top tools).length/\((oP ns at' most top tools).length:Int)<=most:=by have h1:=cT ns at' h;have h2:=df ns at' h;simp only [oP,List.length_map,List.length_range];omega
theorem Ek (ns:List Int) (at' most top:Int) (tools:Bool) (h1:0<top) (h2:top<=58):∀ e∈oP ns at' most top tools,e.Ok:=by intro e he;simp only [oP,List.mem_map] at he;obtain ⟨k,_,rfl⟩:=he;exact Gd _ _ _ _ h1 h2
end RS
namespace RS
open PySem L2
structure Cs where
 RankError:Addr
 NoErrands:Addr
 NoRanks:Addr
 NoComings:Addr
 NoErrand:Addr
 NoNumber:Addr
 TooLong:Addr
 NoText:Addr
 Holding:Addr
 Jobs:Addr
abbrev Gf:=List PyData->Rs PyData
def bH (K:PySem.W.Frag) (mg:Str->Option Value) (x:Str) (st:Stmt) (ps:List Str):Prop:=∃ f fd,Fun K x x st f fd/\Binds K fd ps []/\mg x=some (.ref f)
def hZ (cs:Cs):Ds->Sr :=
 (aK (sIf (cOr (g0 (gT (g1 (k9 "int") (af 0)))) (gT (g1 (k9 "bool") (af 0)))) (bS (gC (.bool false))) bt)
  (bS (m8 dLe dLe (af 1) (af 0) (af 2))))
def ix (cs:Cs):Ds->Sr :=
 (bS (An (g1 (k9 "tuple") (af 0)) (m8 dLe dLe (af 1) (gF bY (ae (af 0) ao)) (af 2))))
def fK (cs:Cs) (aE aA:Gf):Ds->Sr :=
 (aK (sIf (cOr (g0 (gT (aF aA (ae (af 0) (ae (gC (.int 2)) (ae (gC (.int 2)) ao)))))) (g0 (gT (aF aE (ae (g2 dIx (af 0) (gC (.int 0))) (ae (gC (.int 1)) (ae (gC (.int 20)) ao))))))) (bS (gC (.bool false))) bt)
  (bS (gOr (g1 kn (g2 dIx (af 0) (gC (.int 1)))) (aF aE (ae (g2 dIx (af 0) (gC (.int 1))) (ae (gC (.int 0)) (ae (g2 iy (gC (.int 4)) (gC (.int 1))) ao)))))))
def fg (cs:Cs) (aA gf_is_part:Gf):Ds->Sr :=
 (aK (sIf (cOr (g0 (gT (aF aA (ae (af 0) (ae (gC (.int 1)) (ae (gC (.int 4)) ao)))))) (g0 (gT (gF oT (ae (gL (bF 1 (cu (af 0)) bu (aF gf_is_part (ae (af 1) ao)) aP)) ao))))) (bS (gC (.bool false))) bt)
  (bS (g1 kn (g2 dIx (g2 dIx (af 0) (g1 lA (gC (.int 1)))) (gC (.int 1))))))
def dC (cs:Cs) (aE gf_are_parts aA:Gf):Ds->Sr :=
 (aK (sIf (g0 (gT (aF aA (ae (af 0) (ae (gC (.int 4)) (ae (gC (.int 4)) ao)))))) (bS (gC (.bool false))) bt)
  (aK (bj [] 1 (g2 dIx (af 0) (gC (.int 0))))
  (aK (bj [] 2 (g2 dIx (af 0) (gC (.int 1))))
  (aK (bj [] 3 (g2 dIx (af 0) (gC (.int 2))))
  (aK (sIf (g0 (gT (aF aE (ae (af 1) (ae (gC (.int 2)) (ae (gC (.int 60)) ao)))))) (bS (gC (.bool false))) bt)
  (aK (sIf (g0 (gT (aF aE (ae (af 3) (ae (gC (.int 0)) (ae (gF kZ (ae (gC (.int 20)) (ae (g2 iy (af 1) (gC (.int 1))) ao))) ao)))))) (bS (gC (.bool false))) bt)
  (bS (An (aF aE (ae (af 2) (ae (gC (.int 1)) (ae (g2 iy (af 1) (af 3)) ao)))) (aF gf_are_parts (ae (g2 dIx (af 0) (gC (.int 3))) ao))))))))))
def gY (cs:Cs) (aA gf_is_errand:Gf):Ds->Sr :=
 (aK (sIf (cOr (g0 (gT (aF aA (ae (af 0) (ae (gC (.int 1)) (ae (gC (.int 6)) ao)))))) (g0 (gT (gF oT (ae (gL (bF 1 (cu (af 0)) bu (aF gf_is_errand (ae (af 1) ao)) aP)) ao))))) (jP cs.NoErrands (ae (gC (.str "errands are a tuple of 1 to 6 errands (every, due, late, parts)")) ao)) bt)
  (bS (af 0)))
def cG (cs:Cs) (aA aE:Gf):Ds->Sr :=
 (aK (bj [] 2 (g2 iy (gF bY (ae (af 0) ao)) (gC (.int 1))))
  (aK (sIf (cOr (g0 (gT (aF aA (ae (af 1) (ae (gF bY (ae (af 0) ao)) (ae (gF bY (ae (af 0) ao)) ao)))))) (g0 (gT (gF oT (ae (gL (bF 3 (cu (af 1)) bu (aF aE (ae (af 3) (ae (gC (.int 0)) (ae (af 2) ao)))) aP)) ao))))) (jP cs.NoRanks (ae (gC (.str "ranks are a tuple of the numbers of all errands")) ao)) bt)
  (aK (sIf (gT (g2 dLt (gF l0 (ae (af 1) ao)) (gF bY (ae (af 1) ao)))) (jP cs.NoRanks (ae (gC (.str "ranks have each errand's number once")) ao)) bt)
  (bS (af 1)))))
def ir (cs:Cs):Ds->Sr :=
 (bS (g2 (AQ false) (af 1) (gL (bF 2 (cu (g2 dIx (af 0) (gC (.int 3)))) bu (g2 dIx (af 2) (gC (.int 1))) aP))))
def jM (cs:Cs) (cf:Gf):Ds->Sr :=
 (aK (iz [] (lU (ae (af 1) ao)) (i6 [3,4]) (sIf (gT (aF cf (ae (g2 dIx (af 0) (af 4)) (ae (af 2) ao)))) (bS (af 3)) bt))
  (bS (gC .none)))
def fA (cs:Cs) (cF:Gf):Ds->Sr :=
 (bS (gL (bF 2 (fG (ae (gC (.int 4)) ao)) bu (aF cF (ae (af 0) (ae (af 1) (ae (af 2) ao)))) aP)))
def ft (cs:Cs) (ak:Gf):Ds->Sr :=
 (aK (bj [7] 4 (g2 bA (gC (.int 3)) (aF ak (ae (af 0) (ae (af 1) (ae (af 2) ao))))))
  (aK (bj [7] 5 (g2 dO (aF ak (ae (af 0) (ae (g2 bA (af 1) (gC (.int 1))) (ae (gC (.int 4)) ao)))) (gF AM (ae (g2 dEq (aF ak (ae (af 0) (ae (g2 bA (af 1) (gC (.int 2))) (ae (gC (.int 3)) ao)))) (gC (.int 0))) ao))))
  (aK (bj [7] 5 (gF kZ (ae (af 5) (ae (g2 iy (af 4) (gC (.int 1))) ao))))
  (aK (bj [7] 6 (g2 iy (af 4) (af 5)))
  (aK (sIf (gT (g2 dEq (aF ak (ae (af 0) (ae (g2 bA (af 1) (gC (.int 1))) (ae (gC (.int 3)) ao)))) (gC (.int 0)))) (bj [7] 6 (g2 iy (af 6) (aF ak (ae (af 0) (ae (g2 bA (af 1) (gC (.int 2))) (ae (af 6) ao)))))) bt)
  (aK (ia [7] 7 ao)
  (aK (iz [7] (fG (ae (aF ak (ae (af 0) (ae (g2 bA (af 1) (gC (.int 3))) (ae (gC (.int 3)) ao)))) ao)) (bU 8) (aK (bj [7] 9 (aF ak (ae (af 0) (ae (g2 bA (g2 bA (af 1) (gC (.int 4))) (af 8)) (ae (gC (.int 40)) ao)))))
  (aK (lC [7] 7 (jA (ae (g2 bA (gC (.int 1)) (g2 eK (af 9) (gC (.int 4)))) (ae (g2 dIx (kr (ae (gC (.int 0)) (ae (gC (.int 1)) (ae (gC (.int 1)) (ae (gC (.int 0)) (ae (gC .none) ao)))))) (g2 eK (g2 gQ (af 9) (gC (.int 4))) (gC (.int 5)))) ao))))
  (sIf (g0 (gT (af 3))) (rV 7 (g1 lA (gC (.int 1))) (jA (ae (g2 dIx (g2 dIx (af 7) (g1 lA (gC (.int 1)))) (gC (.int 0))) (ae (gC .none) ao)))) bt))))
  (bS (jA (ae (af 4) (ae (af 6) (ae (af 5) (ae (gF j8 (ae (g2 bA (af 7) (kr (ae (jA (ae (g2 bA (gC (.int 1)) (aF ak (ae (af 0) (ae (g2 bA (af 1) (gC (.int 6))) (ae (gC (.int 3)) ao))))) (ae (gC .none) ao))) ao))) ao)) ao)))))))))))))
def eG (cs:Cs) (bP ak:Gf):Ds->Sr :=
 (aK (bj [] 5 (g2 bA (gC (.int 1)) (aF ak (ae (af 0) (ae (af 1) (ae (af 2) ao))))))
  (bS (gF j8 (ae (gL (bF 6 (fG (ae (af 5) ao)) bu (aF bP (ae (af 0) (ae (g2 bA (g2 bA (af 1) (gC (.int 1))) (g2 dO (gC (.int 7)) (af 6))) (ae (af 3) (ae (af 4) ao))))) aP)) ao))))
def f6 (cs:Cs) (ak:Gf):Ds->Sr :=
 (aK (ia [3,4] 3 (gLR (ae (af 2) ao)))
  (aK (ia [3,4] 4 ao)
  (aK (iz [3,4] (fG (ae (af 2) ao)) (bU 5) (ji 4 3 (aF ak (ae (af 0) (ae (g2 bA (af 1) (af 5)) (ae (gF bY (ae (af 3) ao)) ao))))))
  (bS (gF j8 (ae (af 4) ao))))))
end RS
set_option maxHeartbeats 1000000
namespace RS
open PySem L2
theorem Fe {O:List Nat} {δ:Ds} {i:Nat} (h:i∉O):(mask O δ)[i]?=δ[i]?:=by
 unfold mask;by_cases z:O=[]
 ·rw [if_pos z]
 ·rw [if_neg z,List.getElem?_mapIdx];cases δ[i]? with
  | none=>rfl
  | some d=>simp [h]
theorem bW {O:List Nat} {δ:Ds} {i:Nat} (h:i∉O):af i (mask O δ)=af i δ:=by unfold af;rw [Fe h]
@[simp] theorem ax (d:PyData) (δ:Ds):af 0 (some d::δ)=.ok d:=rfl
@[simp] theorem aC (i:Nat) (x:Option PyData) (δ:Ds):af (i+1) (x::δ)=af i δ:=rfl
@[simp] theorem dB (d:PyData) (δ:Ds):gC d δ=.ok d:=rfl
@[simp] theorem gO (f:PyData->Option PyData) (a:Ds->Rs PyData) (δ:Ds):g1 f a δ=(a δ).bind fun x=>Rs.eZ (f x):=rfl
@[simp] theorem ck (f:PyData->PyData->Option PyData) (a b:Ds->Rs PyData) (δ:Ds):g2 f a b δ=(a δ).bind fun x=>(b δ).bind fun y=>Rs.eZ (f x y):=rfl
@[simp] theorem fU (f:List PyData->Option PyData) (a:Ds->Rs (List PyData)) (δ:Ds):gF f a δ=(a δ).bind fun x=>Rs.eZ (f x):=rfl
@[simp] theorem aQ (δ:Ds):ao δ=.ok []:=rfl
@[simp] theorem aM (a:Ds->Rs PyData) (r:Ds->Rs (List PyData)) (δ:Ds):ae a r δ=(a δ).bind fun x=>(r δ).bind fun xs=>.ok (x::xs):=rfl
@[simp] theorem mR (a:Ds->Rs (List PyData)) (δ:Ds):jA a δ=(a δ).bind fun ds=>.ok (.tuple ds):=rfl
@[simp] theorem pW (a:Ds->Rs (List PyData)) (δ:Ds):kr a δ=(a δ).bind fun ds=>.ok (.list ds):=rfl
@[simp] theorem cn (f:Gf) (a:Ds->Rs (List PyData)) (δ:Ds):aF f a δ=(a δ).bind f:=rfl
@[simp] theorem eU (a:Ds->Rs PyData) (δ:Ds):gT a δ=(a δ).bind truth:=rfl
@[simp] theorem bN (b:Bool):truth (.bool b)=.ok b:=rfl
@[simp] theorem ux (a:Ds->Rs Bool) (δ:Ds):g0 a δ=(a δ).bind fun b=>.ok (!b):=rfl
@[simp] theorem GI (a b:Ds->Rs Bool) (δ:Ds):Dq a b δ=(a δ).bind fun x=>if x=true then b δ else .ok false:=rfl
@[simp] theorem BM (a b:Ds->Rs Bool) (δ:Ds):cOr a b δ=(a δ).bind fun x=>if x=true then .ok true else b δ:=rfl
@[simp] theorem yt (a b:Ds->Rs PyData) (δ:Ds):An a b δ=(a δ).bind fun x=>(truth x).bind fun t=>if t=true then b δ else .ok (.bool false):=rfl
@[simp] theorem JE (a b:Ds->Rs PyData) (δ:Ds):gOr a b δ=(a δ).bind fun x=>(truth x).bind fun t=>if t=true then .ok (.bool true) else b δ:=rfl
@[simp] theorem Jy (a:Ds->Rs PyData) (δ:Ds):Jv a δ=(a δ).bind fun x=>(truth x).bind fun t=>.ok (.bool (!t)):=rfl
@[simp] theorem pO (a:Ds->Rs (List PyData)) (δ:Ds):gL a δ=(a δ).bind fun ds=>.ok (.list ds):=rfl
@[simp] theorem FW (a:Ds->Rs PyData) (δ:Ds):cu a δ=(a δ).bind yJ:=rfl
@[simp] theorem Je (ds:List PyData):yJ (.list ds)=.ok ds:=rfl
@[simp] theorem Ji (ds:List PyData):yJ (.tuple ds)=.ok ds:=rfl
@[simp] theorem kG (a:Ds->Rs (List PyData)) (δ:Ds):fG a δ=(a δ).bind DE:=rfl
@[simp] theorem IS (a:Ds->Rs (List PyData)) (δ:Ds):HL a δ=(a δ).bind HA:=rfl
@[simp] theorem IT (a:Ds->Rs (List PyData)) (δ:Ds):IP a δ=(a δ).bind HJ:=rfl
@[simp] theorem Hz (a:Ds->Rs (List PyData)) (δ:Ds):gLR a δ=(a δ).bind uK:=rfl
@[simp] theorem EM (a:Ds->Rs (List PyData)) (δ:Ds):lU a δ=(a δ).bind rN:=rfl
@[simp] theorem IU (ds:List PyData):rN [.list ds]=.ok (ja ds):=rfl
@[simp] theorem Ep (ds:List PyData):rN [.tuple ds]=.ok (ja ds):=rfl
@[simp] theorem Iy (f f':PyData->PyData->Option PyData) (a b c:Ds->Rs PyData) (δ:Ds):m8 f f' a b c δ=(a δ).bind fun x=>(b δ).bind fun y=>(Rs.eZ (f x y)).bind fun z=>(truth z).bind fun t=>if t=true then (c δ).bind fun w=>Rs.eZ (f' y w) else .ok (.bool false):=rfl
@[simp] theorem Am (δ:Ds):mG δ=.ok none:=rfl
@[simp] theorem EU (g:Ds->Rs PyData) (δ:Ds):sZ g δ=(g δ).bind Bb:=rfl
@[simp] theorem EL (i:Int):Bb (.int i)=.ok (some i):=rfl
@[simp] theorem CI (g:Ds->Rs PyData) (lo hi:Ds->Rs (Option Int)) (δ:Ds):mQ g lo hi δ=(g δ).bind fun d=>(lo δ).bind fun l=>(hi δ).bind fun h=>Rs.eZ (DZ d l h):=rfl
@[simp] theorem F4 (x:List PyData) (lo hi:Option Int):DZ (.list x) lo hi=some (.list (cutD x lo hi)):=rfl
@[simp] theorem IV (x:List PyData) (lo hi:Option Int):DZ (.tuple x) lo hi=some (.tuple (cutD x lo hi)):=rfl
@[simp] theorem ba (a b:Ds->Sr) (δ:Ds):aK a b δ=match a δ with | .nx δ'=>b δ' | r=>r:=rfl
@[simp] theorem fB (δ:Ds):bt δ=.nx δ:=rfl
@[simp] theorem d7 (c:Ds->Rs Bool) (a b:Ds->Sr) (δ:Ds):sIf c a b δ=ofR (c δ) fun t=>if t=true then a δ else b δ:=rfl
@[simp] theorem cU (g:Ds->Rs PyData) (δ:Ds):bS g δ=ofR (g δ) .rt:=rfl
@[simp] theorem zk (g:Ds->Rs PyData) (δ:Ds):sS g δ=ofR (g δ) fun _=>.nx δ:=rfl
@[simp] theorem kO (i:Nat) (g:Ds->Rs PyData) (δ:Ds):bj [] i g δ=if i<δ.length then ofR (g δ) fun d=>.nx (δ.set i (some d)) else .no:=by unfold bj;rw [wz]
@[simp] theorem HH (C:Addr) (gs:Ds->Rs (List PyData)) (δ:Ds):jP C gs δ=ofR (gs δ) fun _=>.rz C:=rfl
theorem p7 (O:List Nat) (src:Ds->Rs (List PyData)) (tgt:PyData->Ds->Option Ds) (body:Ds->Sr) (δ:Ds):iz O src tgt body δ=ofR (src (mask O δ)) fun ds=>forL tgt body ds δ:=rfl
@[simp] theorem bZ (d:PyData):bB (.rt d)=.ok d:=rfl
@[simp] theorem Hs (δ:Ds):bB (.nx δ)=.ok .none:=rfl
@[simp] theorem Ht (C:Addr):bB (.rz C)=.rz C:=rfl
@[simp] theorem Hr:bB .no=.no:=rfl
@[simp] theorem fi (a b:Int):bA (.int a) (.int b)=some (.int (a+b)):=rfl
@[simp] theorem wL (a b:Int):iy (.int a) (.int b)=some (.int (a-b)):=rfl
@[simp] theorem sP (a b:Int):eK (.int a) (.int b)=if 0<b then some (.int (a % b)) else none:=rfl
@[simp] theorem wG (a b:Int):gQ (.int a) (.int b)=if 0<b/\b<1073741824 then some (.int (a / b)) else none:=rfl
@[simp] theorem G0 (a b:Int):dLt (.int a) (.int b)=some (.bool (decide (a<b))):=rfl
@[simp] theorem HF (a b:Int):dLe (.int a) (.int b)=some (.bool (decide (a<=b))):=rfl
@[simp] theorem Dt (a b:Int):dGt (.int a) (.int b)=some (.bool (decide (b<a))):=rfl
@[simp] theorem IZ (a b:Int):dGe (.int a) (.int b)=some (.bool (decide (b<=a))):=rfl
@[simp] theorem Co (a:Int):lA (.int a)=some (.int (-a)):=rfl
@[simp] theorem vH (d:PyData):kn d=some (.bool (eR d)):=rfl
@[simp] theorem BS (d:PyData):l5 d=some (.bool (!eR d)):=rfl
@[simp] theorem vV:eR .none=true:=rfl
@[simp] theorem zW (i:Int):eR (.int i)=false:=rfl
@[simp] theorem FD (x:List PyData) (i:Int):dIx (.tuple x) (.int i)=atI x i:=rfl
@[simp] theorem B2 (x:List PyData) (i:Int):dIx (.list x) (.int i)=atI x i:=rfl
@[simp] theorem Bv (x:List PyData):bY [.tuple x]=some (.int x.length):=rfl
@[simp] theorem iK (x:List PyData):bY [.list x]=some (.int x.length):=rfl
@[simp] theorem yj (a b:Int):kZ [.int a,.int b]=some (.int (if b<a then b else a)):=rfl
@[simp] theorem CQ (a b:Int):iY [.int a,.int b]=some (.int (if b>a then b else a)):=rfl
@[simp] theorem Gz (b:Bool):AM [.bool b]=some (.int (if b then 1 else 0)):=rfl
@[simp] theorem Bp (x:List PyData):j8 [.list x]=some (.tuple x):=rfl
@[simp] theorem JA (x:List PyData):j8 [.tuple x]=some (.tuple x):=rfl
@[simp] theorem jC (a b:Int):dEq (.int a) (.int b)=some (.bool (a==b)):=by
 have h:∀ i:Int,PySem.SeqAt.shaped (.int i)=true:=fun i=>by simp [PySem.SeqAt.shaped,PyData.canLay0,PyData.depth]
 unfold dEq;rw [h,h];simp [aN,PyData.eqv]
@[simp] theorem Bu (a b:Int):dNe (.int a) (.int b)=some (.bool (!(a==b))):=by
 have h:∀ i:Int,PySem.SeqAt.shaped (.int i)=true:=fun i=>by simp [PySem.SeqAt.shaped,PyData.canLay0,PyData.depth]
 unfold dNe;rw [h,h];simp [aN,PyData.eqv]
theorem qB {α:Type} {xs:List α} {i:Int} {j:Nat} (h:i=j):atI xs i=xs[j]?:=by
 subst h;unfold atI ixN;by_cases z:(j:Int)<xs.length
 ·rw [if_pos (by omega),if_pos z];simp
 ·rw [if_pos (by omega),if_neg z];simp;omega
@[simp] theorem JI {α:Type} (xs:List α):atI xs 0=xs[0]?:=qB (j:=0) rfl
@[simp] theorem JF {α:Type} (xs:List α):atI xs 1=xs[1]?:=qB (j:=1) rfl
@[simp] theorem JG {α:Type} (xs:List α):atI xs 2=xs[2]?:=qB (j:=2) rfl
@[simp] theorem JH {α:Type} (xs:List α):atI xs 3=xs[3]?:=qB (j:=3) rfl
theorem nZ {α:Type} (xs:List α):atI xs (-1)=xs.getLast?:=by
 unfold atI ixN;rw [if_neg (by decide)];by_cases z:xs=[]
 ·subst z;rfl
 ·have:0<xs.length:=List.length_pos_iff.mpr z;rw [if_pos (by omega),List.getLast?_eq_getElem?];simp only [Option.bind_some];congr 1;omega
theorem i0 {α:Type} (g:α->Bool) (xs:List α):oT [.list (xs.map fun d=>.bool (g d))]=some (.bool (xs.all g)):=by
 have hb:iP (xs.map fun d=>PyData.bool (g d))=some (xs.map g):=by rw [show (xs.map fun d=>PyData.bool (g d))=(xs.map g).map PyData.bool by rw [List.map_map];rfl];exact qC _
 show (iP (xs.map fun d=>PyData.bool (g d))).map (fun ns=>PyData.bool (ns.all id))=_;rw [hb,Option.map_some,List.all_map];rfl
theorem AO {α:Type} (g:α->Int) (xs:List α):uz [.list (xs.map fun d=>.int (g d))]=some (.int (xs.map g).sum):=by
 have hb:f9 (xs.map fun d=>PyData.int (g d))=some (xs.map g):=by rw [show (xs.map fun d=>PyData.int (g d))=(xs.map g).map PyData.int by rw [List.map_map];rfl];exact fM _
 show (f9 (xs.map fun d=>PyData.int (g d))).map (fun ns=>PyData.int ns.sum)=_;rw [hb,Option.map_some]
theorem comp_map {elt:Ds->Rs PyData} {δ:Ds} {f:PyData->PyData}:∀ (ds:List PyData),(∀ d∈ds,elt (δ++[some d])=.ok (f d))->fc bu elt aP δ ds=.ok (ds.map f)
 | [],_=>rfl
 | d::r,h=>by unfold fc;simp only [aP,bu,Rs.dM,Rs.aj,if_true,h d List.mem_cons_self,comp_map r fun e he=>h e (List.mem_cons_of_mem _ he),List.map_cons]
theorem c9 {n0:Nat} {src:Ds->Rs (List PyData)} {elt:Ds->Rs PyData} {δ:Ds} {f:PyData->PyData} {ds:List PyData} (hn:δ.length=n0) (hs:src δ=.ok ds) (hl:ds.length<=1000000) (h:∀ d∈ds,elt (δ++[some d])=.ok (f d)) :
  bF n0 src bu elt aP δ=.ok (ds.map f):=by
 unfold bF;rw [if_pos hn,hs];simp only [Rs.aj,if_pos hl];exact comp_map ds h
theorem jf:∀ {ds:List PyData},dw ds=true->∀ d∈ds,aN d=true
 | [],_,d,hd=>by cases hd
 | e::r,h,d,hd=>by
  unfold dw at h;obtain ⟨h1,h2⟩:=Bool.and_eq_true_iff.mp h;rcases List.mem_cons.mp hd with z | z
  ·rw [z];exact h1
  ·exact jf h2 d z
theorem en {ds:List PyData} (h:aN (.tuple ds)=true):∀ d∈ds,aN d=true:=by unfold aN at h;exact jf h
def aE:Gf
 | [d,.int a,.int b]=>if aN d then .ok (.bool (isWhole d a b)) else .no
 | _=>.no
theorem pE {f:PyData->Int->Int->Rs PyData} {ds:List PyData} (h:(match ds with | [x0,.int x1,.int x2]=>f x0 x1 x2 | _=>.no)≠.no):∃ x0 x1 x2,ds=[x0,.int x1,.int x2]/\f x0 x1 x2≠.no:=by
 rcases ds with _ | ⟨x0,_ | ⟨x1,_ | ⟨x2,_ | ⟨y,ys⟩⟩⟩⟩
 ·exact absurd rfl h
 ·exact absurd rfl h
 ·first | exact absurd rfl h | (cases x1 <;> exact absurd rfl h)
 ·skip
  cases x1 with
  | int x1 =>
   cases x2 with
   | int x2 =>exact ⟨_,_,_,rfl,h⟩
   | _=>exact absurd rfl h
  | _=>first | exact absurd rfl h | (cases x2 <;> exact absurd rfl h)
 ·first | exact absurd rfl h | (cases x1 <;> first | exact absurd rfl h | (cases x2 <;> exact absurd rfl h))
theorem xF (cs:Cs):∀ ds,ds.length=3->aE ds≠.no->bB (hZ cs (ds.map some++List.replicate 0 none))=aE ds:=by
 intro ds hl hne;obtain ⟨d,a,b,ez,hz⟩:=pE hne;clear hne;subst ez;have hne:=hz;clear hz;unfold aE
 ·skip
  split at hne
  ·rename_i hd;simp only [hd,if_true];cases d with
   | int i=>by_cases h:a<=i <;> simp [hZ,k9,hd,uI,tyD,isWhole,h]
   | dict _=>simp [aN] at hd
   | _=>simp [hZ,k9,hd,uI,tyD,isWhole]
  ·exact absurd rfl hne
def aA:Gf
 | [d,.int a,.int b]=>if aN d then .ok (.bool (cA d a b)) else .no
 | _=>.no
theorem yy (cs:Cs):∀ ds,ds.length=3->aA ds≠.no->bB (ix cs (ds.map some++List.replicate 0 none))=aA ds:=by
 intro ds hl hne;obtain ⟨d,a,b,ez,hz⟩:=pE hne;clear hne;subst ez;have hne:=hz;clear hz;unfold aA
 ·skip
  split at hne
  ·rename_i hd;simp only [hd,if_true];cases d with
   | tuple x=>by_cases h:a<=(x.length:Int) <;> simp [ix,k9,hd,uI,tyD,cA,h]
   | dict _=>simp [aN] at hd
   | _=>simp [ix,k9,hd,uI,tyD,cA]
  ·exact absurd rfl hne
def gK (g:PyData->Bool):Gf
 | [d]=>if aN d then .ok (.bool (g d)) else .no
 | _=>.no
theorem rf {g:PyData->Bool} {ds:List PyData} (h:gK g ds≠.no):∃ d,ds=[d]/\aN d=true/\gK g ds=.ok (.bool (g d)):=by
 unfold gK at h ⊢;split at h
 ·rename_i d;split at h
  ·rename_i hd;exact ⟨d,rfl,hd,by simp [hd]⟩
  ·exact absurd rfl h
 ·exact absurd rfl h
theorem qf {g:PyData->Bool} {d:PyData} (h:aN d=true):gK g [d]=.ok (.bool (g d)):=by unfold gK;simp [h]
@[simp] theorem Hq {d:PyData} {a b:Int} (h:aN d=true):aA [d,.int a,.int b]=.ok (.bool (cA d a b)):=by unfold aA;simp [h]
@[simp] theorem xg {d:PyData} {a b:Int} (h:aN d=true):aE [d,.int a,.int b]=.ok (.bool (isWhole d a b)):=by unfold aE;simp [h]
theorem wI {d:PyData} (h:cA d 2 2=true):∃ a b,d=.tuple [a,b]:=by
 cases d with
 | tuple ds =>
  simp [cA] at h
  match ds,h with
  | [a,b],_=>exact ⟨a,b,rfl⟩
  | [],h=>simp at h
  | [_],h=>simp at h
  | _::_::_::_,h=>simp at h;omega
 | _=>cases h
theorem zZ (cs:Cs):∀ ds,ds.length=1->gK dX ds≠.no->bB (fK cs aE aA (ds.map some++List.replicate 0 none))=gK dX ds:=by
 intro ds hl hne;obtain ⟨d,rfl,hd,e⟩:=rf hne;rw [e];cases e1:cA d 2 2 with
 | false =>
  have:dX d=false:=by
   unfold dX;split
   ·simp [cA] at e1
   ·rfl
  simp [fK,hd,e1,this]
 | true =>
  obtain ⟨a,b,rfl⟩:=wI e1;have ha:=en hd a (by simp);have hb:=en hd b (by simp);cases e2:isWhole a 1 20 with
  | false=>simp [fK,hd,ha,e1,e2,dX]
  | true =>
   cases b with
   | none=>simp [fK,hd,ha,e1,e2,dX]
   | _=>simp [fK,hd,ha,hb,e1,e2,dX,eR]
theorem wj (cs:Cs):∀ ds,ds.length=1->gK eB ds≠.no->bB (fg cs aA (gK dX) (ds.map some++List.replicate 0 none))=gK eB ds:=by
 intro ds hl hne;obtain ⟨d,rfl,hd,e⟩:=rf hne;rw [e];cases e1:cA d 1 4 with
 | false =>
  have:eB d=false:=by
   cases d with
   | tuple ds =>simp only [cA,Bool.and_eq_false_iff,decide_eq_false_iff_not] at e1;simp only [eB,Bool.and_eq_false_iff,decide_eq_false_iff_not];refine .inl (.inl ?_);omega
   | _=>rfl
  simp [fg,hd,e1,this]
 | true =>
  obtain ⟨xs,rfl⟩:∃ ds,d=.tuple ds:=by cases d <;> first | exact ⟨_,rfl⟩ | cases e1
  have hn:1<=xs.length/\xs.length<=4:=by simp only [cA,Bool.and_eq_true,decide_eq_true_eq] at e1;omega
  have hc:bF 1 (cu (af 0)) bu (aF (gK dX) (ae (af 1) ao)) aP [some (.tuple xs)]=.ok (xs.map fun d=>.bool (dX d)) :=
   c9 rfl rfl (by omega) fun d hd'=>by simp [qf (en hd d hd')]
  have hf:=i0 dX xs;cases e2:xs.all dX with
  | false=>simp [fg,hd,e1,hc,hf,e2,eB]
  | true =>
   have hne:xs≠[]:=by intro z;subst z;simp at hn
   have hl2:xs.getLast?=some (xs.getLast hne):=List.getLast?_eq_some_getLast hne;have hp:=List.all_eq_true.mp e2 _ (List.getLast_mem hne);obtain ⟨a,b,eab⟩:∃ a b,xs.getLast hne=.tuple [a,b]:=by
    revert hp;generalize xs.getLast hne=z;intro hp;unfold dX at hp;split at hp
    ·exact ⟨_,_,rfl⟩
    ·cases hp
   rw [eab] at hl2;have hln:j6 xs=eR b:=by unfold j6;rw [hl2];cases b <;> rfl
   simp [fg,hd,e1,hc,hf,e2,eB,nZ,hl2,hln,hn.1,hn.2]
theorem u5 {d:PyData} (h:cA d 4 4=true):∃ a b c e,d=.tuple [a,b,c,e]:=by
 cases d with
 | tuple ds =>
  simp [cA] at h
  match ds,h with
  | [a,b,c,e],_=>exact ⟨a,b,c,e,rfl⟩
  | [],h=>simp at h
  | [_],h=>simp at h
  | [_,_],h=>simp at h
  | [_,_,_],h=>simp at h
  | _::_::_::_::_::_,h=>simp at h;omega
 | _=>cases h
theorem f7 {d:PyData} {a b:Int} (h:isWhole d a b=true):∃ i,d=.int i/\a<=i/\i<=b:=by
 cases d with
 | int i=>simp [isWhole] at h;exact ⟨i,rfl,h⟩
 | _=>cases h
theorem qH {a b c e:PyData} (h:isWhole a 2 60=false):cm (.tuple [a,b,c,e])=false:=by
 cases a with
 | int i =>
  cases c with
  | int l =>simp only [isWhole,Bool.and_eq_false_iff,decide_eq_false_iff_not] at h;simp only [cm,Bool.and_eq_false_iff,decide_eq_false_iff_not];omega
  | _=>rfl
 | _=>rfl
theorem rR {b c e:PyData} {i:Int} (h:isWhole c 0 (if i-1<20 then i-1 else 20)=false):cm (.tuple [.int i,b,c,e])=false:=by
 cases c with
 | int l =>simp only [isWhole,Bool.and_eq_false_iff,decide_eq_false_iff_not] at h;simp only [cm,Bool.and_eq_false_iff,decide_eq_false_iff_not];exact .inl (.inl (.inr h))
 | _=>rfl
theorem sg {b e:PyData} {i l:Int} (h1:2<=i/\i<=60) (h2:0<=l/\l<=if i-1<20 then i-1 else 20):cm (.tuple [.int i,b,.int l,e])=(isWhole b 1 (i-l)&&eB e):=by simp [cm,h1.1,h1.2,h2.1,h2.2]
theorem wM (cs:Cs):∀ ds,ds.length=1->gK cm ds≠.no->bB (dC cs aE (gK eB) aA (ds.map some++List.replicate 3 none))=gK cm ds:=by
 intro ds hl hne;obtain ⟨d,rfl,hd,e⟩:=rf hne;rw [e];cases e1:cA d 4 4 with
 | false =>
  have:cm d=false:=by
   unfold cm;split
   ·simp [cA] at e1
   ·rfl
  simp [dC,hd,e1,this]
 | true =>
  obtain ⟨a,b,c,q,rfl⟩:=u5 e1;have ha:=en hd a (by simp);have hb:=en hd b (by simp);have hc:=en hd c (by simp);have he:=en hd q (by simp);cases e2:isWhole a 2 60 with
  | false=>simp [dC,hd,ha,hb,hc,he,e1,e2,qH e2]
  | true =>
   obtain ⟨i,rfl,i1,i2⟩:=f7 e2;cases e3:isWhole c 0 (if i-1<20 then i-1 else 20) with
   | false=>simp [dC,hd,ha,hb,hc,he,e1,e2,e3,rR e3]
   | true =>
    obtain ⟨l,rfl,l1,l2⟩:=f7 e3;have er:=sg (b:=b) (e:=q) ⟨i1,i2⟩ ⟨l1,l2⟩;cases e4:isWhole b 1 (i-l) with
    | false=>simp [dC,hd,ha,hb,hc,he,e1,e2,e3,e4,er]
    | true=>simp [dC,hd,ha,hb,hc,he,e1,e2,e3,e4,er,qf he]
def bq (cs:Cs):Gf
 | [d]=>if aN d then (if ff d then .ok d else .rz cs.NoErrands) else .no
 | _=>.no
theorem zD (cs:Cs):∀ ds,ds.length=1->bq cs ds≠.no->bB (gY cs aA (gK cm) (ds.map some++List.replicate 0 none))=bq cs ds:=by
 intro ds hl hne;obtain ⟨d,rfl⟩:∃ d,ds=[d]:=by
  match ds,hl with
  | [d],_=>exact ⟨d,rfl⟩
 have hd:aN d=true:=by
  unfold bq at hne;by_cases z:aN d=true
  ·exact z
  ·simp [z] at hne
 have eg:bq cs [d]=if ff d then .ok d else .rz cs.NoErrands:=by unfold bq;simp [hd]
 rw [eg];cases e1:cA d 1 6 with
 | false =>
  have:ff d=false:=by
   cases d with
   | tuple ds =>simp only [cA,Bool.and_eq_false_iff,decide_eq_false_iff_not] at e1;simp only [ff,Bool.and_eq_false_iff,decide_eq_false_iff_not];refine .inl ?_;omega
   | _=>rfl
  simp [gY,hd,e1,this]
 | true =>
  obtain ⟨xs,rfl⟩:∃ ds,d=.tuple ds:=by cases d <;> first | exact ⟨_,rfl⟩ | cases e1
  have hn:1<=xs.length/\xs.length<=6:=by simp only [cA,Bool.and_eq_true,decide_eq_true_eq] at e1;omega
  have hc:bF 1 (cu (af 0)) bu (aF (gK cm) (ae (af 1) ao)) aP [some (.tuple xs)]=.ok (xs.map fun d=>.bool (cm d)) :=
   c9 rfl rfl (by omega) fun d hd'=>by simp [qf (en hd d hd')]
  have hf:=i0 cm xs;cases e2:xs.all cm with
  | false=>simp [gY,hd,e1,hc,hf,e2,ff]
  | true=>simp [gY,hd,e1,hc,hf,e2,ff,hn.1,hn.2]
theorem g9 {β:Type} {tgt:PyData->Ds->Option Ds} {body:Ds->Sr} (inv:Nat->Ds->Prop):∀ (ds:List PyData) (k:Nat),(∀ (i:Nat) d δ,ds[i]?=some d->inv (k+i) δ->∃ δ1 δ2,tgt d δ=some δ1/\body δ1=.nx δ2/\inv (k+i+1) δ2) ->
  ∀ δ,inv k δ->∃ δ',forL tgt body ds δ=.nx δ'/\inv (k+ds.length) δ'
 | [],k,_,δ,h=>⟨δ,rfl,h⟩
 | d::r,k,hs,δ,h=>by
  obtain ⟨δ1,δ2,e1,e2,h2⟩:=hs 0 d δ rfl h;obtain ⟨δ',e3,h3⟩:=g9 (β:=β) inv r (k+1) (fun i x δ hx hi=>by have:=hs (i+1) x δ (by simpa using hx) (by rw [show k+(i+1)=k+1+i by omega];exact hi);rw [show k+1+i+1=k+(i+1)+1 by omega];exact this) δ2 h2
  exact ⟨δ',by unfold forL;rw [e1];simp only [e2];exact e3,by rw [List.length_cons,show k+(r.length+1)=k+1+r.length by omega];exact h3⟩
def Dm:PyData->Option Int
 | .int i=>some i
 | _=>none
def dG:PyData->Int×Option Int
 | .tuple [.int l,t]=>(l,Dm t)
 | _=>(0,none)
def deE:PyData->Er
 | .tuple [.int e,.int d,.int l,.tuple ps]=>⟨e,d,l,ps.map dG⟩
 | _=>⟨0,0,0,[]⟩
theorem CC (e:Int) (d:Int) (l:Int) (ps:List PyData):deE (.tuple [.int e,.int d,.int l,.tuple ps])=⟨e,d,l,ps.map dG⟩:=rfl
def mf:PyData->List Er
 | .tuple ds=>ds.map deE
 | _=>[]
theorem yl (o:Option Int):Dm (dR o)=o:=by cases o <;> rfl
theorem j7 (p:Int×Option Int):dG (bI p)=p:=by obtain ⟨l,t⟩:=p;simp [bI,dG,yl]
theorem tX (e:Er):deE e.d=e:=by
 obtain ⟨a,b,c,ps⟩:=e;simp [Er.d,CC,List.map_map]
 conv=>rhs;rw [<-List.map_id ps]
 exact List.map_congr_left fun p _=>j7 p
theorem yg (es:List Er):mf (aU es)=es:=by
 simp [aU,mf,List.map_map]
 conv=>rhs;rw [<-List.map_id es]
 exact List.map_congr_left fun e _=>tX e
def deI:PyData->Int
 | .int i=>i
 | _=>0
def iw:PyData->List Int
 | .tuple ds=>ds.map deI
 | _=>[]
def bo (ns:List Int):PyData:=.tuple (ns.map .int)
theorem rg (ns:List Int):iw (bo ns)=ns:=by
 simp [bo,iw,List.map_map]
 conv=>rhs;rw [<-List.map_id ns]
 exact List.map_congr_left fun _ _=>rfl
def eQ (n:Nat):PyData->Bool
 | .tuple ds=>decide (ds.length=n)&&ds.all (fun d=>isWhole d 0 ((n:Int)-1))&&decide (ds.map deI).Nodup
 | _=>false
structure ku (n:Nat) (rs:List Int):Prop where
 len:rs.length=n
 rng:∀ r∈rs,0<=r/\r<n
 nd:rs.Nodup
theorem xa {n:Nat} {d:PyData} (h:eQ n d=true):bo (iw d)=d/\ku n (iw d):=by
 unfold eQ at h;split at h
 ·rename_i ds;simp only [Bool.and_eq_true,decide_eq_true_eq] at h;obtain ⟨⟨h1,h2⟩,h3⟩:=h;have pa:=List.all_eq_true.mp h2;refine ⟨?_,by simpa [iw] using h1,fun r hr=>?_,h3⟩
  ·simp only [iw,bo,List.map_map];congr 1
   conv=>rhs;rw [<-List.map_id ds]
   refine List.map_congr_left fun p hp=>?_
   obtain ⟨i,rfl,_⟩:=f7 (pa p hp);rfl
  ·obtain ⟨q,hq,rfl⟩:=List.mem_map.mp (show r∈ds.map deI from hr);obtain ⟨i,rfl,a,b⟩:=f7 (pa q hq);exact ⟨a,by show i<n;omega⟩
 ·cases h
theorem lL {n:Nat} {rs:List Int} (h:ku n rs):eQ n (bo rs)=true:=by
 have e:(rs.map PyData.int).map deI=rs:=by
  rw [List.map_map];conv=>rhs;rw [<-List.map_id rs]
  exact List.map_congr_left fun _ _=>rfl
 unfold eQ bo;simp only [List.length_map,h.len,decide_true,Bool.true_and,e,h.nd,Bool.and_true];rw [List.all_eq_true];intro d hd;obtain ⟨r,hr,rfl⟩:=List.mem_map.mp hd;have:=h.rng r hr;simp [isWhole,this.1];omega
theorem mZ:∀ (l acc:List Int),acc.Nodup->((l.foldl PyProof.Rows.step_dedup acc).length<=acc.length+l.length)/\((l.foldl PyProof.Rows.step_dedup acc).length=acc.length+l.length↔(acc++l).Nodup)
 | [],acc,h=>by simpa using h
 | x::r,acc,h=>by
  rw [List.foldl_cons];by_cases z:acc.any (·==x)=true
  ·have e:PyProof.Rows.step_dedup acc x=acc:=by unfold PyProof.Rows.step_dedup;rw [if_pos z]
   rw [e];have:=mZ r acc h;refine ⟨by rw [List.length_cons];omega,fun q=>?_,fun q=>?_⟩
   ·rw [List.length_cons] at q;omega
   ·exfalso;obtain ⟨y,hy,ey⟩:=List.any_eq_true.mp z;have:y=x:=by simpa using ey
    subst this;rw [List.nodup_append] at q;exact q.2.2 y hy y List.mem_cons_self rfl
  ·have e:PyProof.Rows.step_dedup acc x=acc++[x]:=by unfold PyProof.Rows.step_dedup;rw [if_neg z]
   have hx:x∉acc:=fun q=>z (List.any_eq_true.mpr ⟨x,q,by simp⟩)
   have hn:(acc++[x]).Nodup:=by rw [List.nodup_append];exact ⟨h,by simp,fun a ha b hb=>by rw [List.mem_singleton.mp hb];rintro rfl;exact hx ha⟩
   rw [e];have:=mZ r (acc++[x]) hn;rw [List.length_append,List.length_singleton,List.append_assoc] at this;refine ⟨by rw [List.length_cons];omega,?_⟩;rw [List.length_cons,show acc.length+(r.length+1)=acc.length+1+r.length by omega];exact this.2
theorem ya (ns:List Int):((seen ns ns.length).length:Int)<ns.length↔¬ ns.Nodup:=by
 have e:(List.range ns.length).map (fun i=>ns.getD i 0)=ns:=by
  apply List.ext_getElem?;intro i;rw [List.getElem?_map];by_cases h:i<ns.length
  ·rw [List.getElem?_range h,List.getElem?_eq_getElem h];simp [List.getD_eq_getElem?_getD,List.getElem?_eq_getElem h]
  ·rw [List.getElem?_eq_none (by simpa using h),List.getElem?_eq_none (by simpa using h)];rfl
 have:=mZ ns [] List.nodup_nil;unfold seen PyProof.Rows.firstMet;rw [e];simp only [List.length_nil,Nat.zero_add,List.nil_append] at this;constructor
 ·intro h q;have:=this.2.mpr q;omega
 ·intro h;have h1:=this.1;have h2:¬ (List.foldl PyProof.Rows.step_dedup [] ns).length=ns.length:=fun q=>h (this.2.mp q)
  omega
def bh (cs:Cs):Gf
 | [.tuple es,r]=>if aN r&&decide (es.length<=100) then (if eQ es.length r then .ok r else .rz cs.NoRanks) else .no
 | _=>.no
theorem Gi {f:List PyData->PyData->Rs PyData} {ds:List PyData} (h:(match ds with | [.tuple x0,x1]=>f x0 x1 | _=>.no)≠.no):∃ x0 x1,ds=[.tuple x0,x1]/\f x0 x1≠.no:=by
 rcases ds with _ | ⟨x0,_ | ⟨x1,_ | ⟨y,ys⟩⟩⟩
 ·exact absurd rfl h
 ·first | exact absurd rfl h | (cases x0 <;> exact absurd rfl h)
 ·skip
  cases x0 with
  | tuple x0 =>exact ⟨_,_,rfl,h⟩
  | _=>exact absurd rfl h
 ·first | exact absurd rfl h | (cases x0 <;> exact absurd rfl h)
theorem oS (cs:Cs):∀ ds,ds.length=2->bh cs ds≠.no->bB (cG cs aA aE (ds.map some++List.replicate 1 none))=bh cs ds:=by
 intro ds hl hne;obtain ⟨es,r,ez,hz⟩:=Gi hne;clear hne;subst ez;have hne:=hz;clear hz;unfold bh
 ·skip
  split at hne
  ·rename_i hh;simp only [hh,if_true];rw [Bool.and_eq_true,decide_eq_true_eq] at hh;obtain ⟨hd,h100⟩:=hh;cases e1:cA r es.length es.length with
   | false =>
    have:eQ es.length r=false:=by
     cases r with
     | tuple xs =>
      have:xs.length≠es.length:=fun q=>by simp [cA,q] at e1
      simp [eQ,this]
     | _=>rfl
    simp [cG,hd,e1,this]
   | true =>
    obtain ⟨xs,rfl⟩:∃ ds,r=.tuple ds:=by cases r <;> first | exact ⟨_,rfl⟩ | cases e1
    have hn:xs.length=es.length:=by simp only [cA,Bool.and_eq_true,decide_eq_true_eq] at e1;omega
    have hc:bF 3 (cu (af 1)) bu (aF aE (ae (af 3) (ae (gC (.int 0)) (ae (af 2) ao)))) aP [some (.tuple es),some (.tuple xs),some (.int ((es.length:Int)-1))]=.ok (xs.map fun d=>.bool (isWhole d 0 ((es.length:Int)-1))) :=
     c9 rfl rfl (by omega) fun d hd'=>by simp [en hd d hd']
    have hf:=i0 (fun d=>isWhole d 0 ((es.length:Int)-1)) xs;cases e2:xs.all (fun d=>isWhole d 0 ((es.length:Int)-1)) with
    | false=>simp [cG,hd,e1,hc,hf,e2,eQ]
    | true =>
     have pa:=List.all_eq_true.mp e2;have ei:xs=(xs.map deI).map PyData.int:=by
      rw [List.map_map]
      conv=>lhs;rw [<-List.map_id xs]
      refine List.map_congr_left fun p hp=>?_
      obtain ⟨i,rfl,_⟩:=f7 (pa p hp);rfl
     have hs:l0 [.tuple xs]=some (.int (seen (xs.map deI) (xs.map deI).length).length):=by
      unfold l0
      conv=>lhs;rw [ei]
      simp only [fM,Option.bind_some];rw [if_pos (by simp;omega)]
     have hsn:=ya (xs.map deI);have hml:(xs.map deI).length=es.length:=by rw [List.length_map];exact hn
     rw [hml] at hs hsn;by_cases hnd:(xs.map deI).Nodup
     ·have h2:¬ (seen (xs.map deI) es.length).length<es.length:=fun q=>hsn.mp (by omega) hnd
      simp [cG,hd,e1,hc,hf,e2,hs,hn,h2,eQ,hnd]
     ·have h2:(seen (xs.map deI) es.length).length<es.length:=by have:=hsn.mpr hnd;omega
      simp [cG,hd,e1,hc,hf,e2,hs,hn,h2,eQ,hnd]
  ·exact absurd rfl hne
def ky:PyData->Bool
 | .tuple [.int l,b]=>decide (0<=l)&&decide (l<=1000000)&&(match b with | .none=>true | .int t=>decide (0<=t)&&decide (t<=3) | _=>false)
 | _=>false
def w6:PyData->Bool
 | .tuple [.int e,.int _,.int l,.tuple ps]=>decide (1<=e)&&decide (e<1073741824)&&decide (-1000000000<=l)&&decide (l<=1000000000)&&decide (ps.length<=1000)&&ps.all ky
 | _=>false
def sX:PyData->Bool
 | .tuple ds=>decide (ds.length<=100)&&ds.all w6
 | _=>false
structure Er.Sh (e:Er):Prop where
 e1:1<=e.every
 e2:e.every<1073741824
 l1:-1000000000<=e.late
 l2:e.late<=1000000000
 pn:e.parts.length<=1000
 pl:∀ p∈e.parts,0<=p.1/\p.1<=1000000/\∀ t,p.2=some t->0<=t/\t<=3
theorem tJ {d:PyData} (h:ky d=true):bI (dG d)=d/\0<=(dG d).1/\(dG d).1<=1000000/\∀ t,(dG d).2=some t->0<=t/\t<=3:=by
 unfold ky at h;split at h
 ·rename_i l b;simp only [Bool.and_eq_true,decide_eq_true_eq] at h;obtain ⟨⟨h1,h2⟩,h3⟩:=h;cases b with
  | none=>exact ⟨rfl,h1,h2,fun t q=>by cases q⟩
  | int t =>simp only [Bool.and_eq_true,decide_eq_true_eq] at h3;exact ⟨rfl,h1,h2,fun t q=>by cases q;exact h3⟩
  | _=>cases h3
 ·cases h
theorem wu {d:PyData} (h:w6 d=true):(deE d).d=d/\(deE d).Sh:=by
 unfold w6 at h;split at h
 ·rename_i e du l ps;simp only [Bool.and_eq_true,decide_eq_true_eq] at h;obtain ⟨⟨⟨⟨⟨h1,h2⟩,hl1⟩,hl2⟩,h3⟩,h4⟩:=h;have pa:=List.all_eq_true.mp h4;have em:ps.map (bI∘dG)=ps:=by
   conv=>rhs;rw [<-List.map_id ps]
   exact List.map_congr_left fun p hp=>(tJ (pa p hp)).1
  refine ⟨by simp only [CC,Er.d,List.map_map,em],h1,h2,hl1,hl2,by simpa [CC] using h3,fun p hp=>?_⟩;obtain ⟨q,hq,rfl⟩:=List.mem_map.mp (show p∈ps.map dG from hp);exact (tJ (pa q hq)).2
 ·cases h
theorem pC {e:Er} (h:e.Sh):w6 e.d=true:=by
 unfold w6 Er.d;simp only [h.e1,h.e2,h.l1,h.l2,decide_true,Bool.true_and,List.length_map,h.pn];rw [List.all_eq_true];intro d hd;obtain ⟨p,hp,rfl⟩:=List.mem_map.mp hd;obtain ⟨a,b,c⟩:=h.pl p hp;obtain ⟨l,t⟩:=p;cases t with
 | none=>simp at a b;simp [ky,bI,dR,a,b]
 | some t=>have:=c t rfl;simp at a b;simp [ky,bI,dR,a,b,this.1,this.2]
theorem Er.Ok.sh {e:Er} (h:e.Ok):e.Sh:=⟨by have:=h.e1;omega,by have:=h.e2;omega,by have:=h.l1;omega,by have:=h.l2;omega,by have:=h.p2;omega,fun p hp=>by obtain ⟨a,b,c⟩:=h.pl p hp;exact ⟨by omega,by omega,c⟩⟩
theorem A1 {d:PyData} (h:sX d=true):aU (mf d)=d/\(mf d).length<=100/\∀ e∈mf d,e.Sh:=by
 unfold sX at h;split at h
 ·rename_i ds;simp only [Bool.and_eq_true,decide_eq_true_eq] at h;have pa:=List.all_eq_true.mp h.2;refine ⟨?_,by simpa [mf] using h.1,fun e he=>?_⟩
  ·simp only [mf,aU,List.map_map];congr 1
   conv=>rhs;rw [<-List.map_id ds]
   exact List.map_congr_left fun p hp=>(wu (pa p hp)).1
  ·obtain ⟨q,hq,rfl⟩:=List.mem_map.mp (show e∈ds.map deE from he);exact (wu (pa q hq)).2
 ·cases h
theorem vY {es:List Er} (h1:es.length<=100) (h:∀ e∈es,e.Sh):sX (aU es)=true:=by unfold sX aU;simp only [List.length_map,h1,decide_true,Bool.true_and];rw [List.all_eq_true];intro d hd;obtain ⟨e,he,rfl⟩:=List.mem_map.mp hd;exact pC (h e he)
def Er.has (e:Er) (t:Int):Bool:=e.parts.any fun p=>p.2==some t
def er0:Er:=⟨1,1,0,[]⟩
def iM (es:List Er) (n:Int):Er:=es.getD n.toNat er0
def hts (es:List Er):List Int->Int->Int->Option Int
 | [],_,_=>none
 | r::rs,k,t=>if (iM es r).has t then some k else hts es rs (k+1) t
def fD (es:List Er) (rs:List Int) (t:Int):Option Int:=hts es rs 0 t
def placeOf (rs:List Int) (n:Int):Nat:=rs.findIdx (·==n)
theorem mH {es:List Er} {n:Int} (h0:0<=n) (h1:n<es.length):es[n.toNat]?=some (iM es n):=by unfold iM;rw [List.getD_eq_getElem?_getD,List.getElem?_eq_getElem (by omega)];rfl
theorem km {es:List Er} {n:Int} (h0:0<=n) (h1:n<es.length):iM es n∈es:=List.mem_of_getElem? (mH h0 h1)
theorem u3 {es:List Er} {n:Int} (h0:0<=n) (h1:n<es.length):atI (es.map Er.d) n=some (iM es n).d:=by rw [qB (j:=n.toNat) (by omega),List.getElem?_map,mH h0 h1];rfl
theorem GS (p:Int×Option Int):dIx (bI p) (.int 0)=some (.int p.1):=rfl
theorem GJ (p:Int×Option Int):dIx (bI p) (.int 1)=some (dR p.2):=rfl
theorem Ir (e:Er):dIx e.d (.int 3)=some (.tuple (e.parts.map bI)):=rfl
theorem vt:∀ {l m:List Int},l.Nodup->(∀ x∈l,x∈m)->l.length<=m.length
 | [],m,_,_=>Nat.zero_le _
 | x::r,m,hn,hs=>by
  rw [List.nodup_cons] at hn;have hx:=hs x List.mem_cons_self;have:=vt (l:=r) (m:=m.erase x) hn.2 fun y hy=>by rw [List.mem_erase_of_ne (by rintro rfl;exact hn.1 hy)];exact hs y (List.mem_cons_of_mem _ hy)
  rw [List.length_erase_of_mem hx] at this;have hp:=List.length_pos_of_mem hx;rw [List.length_cons];omega
theorem ku.mem {k:Nat} {rs:List Int} (h:ku k rs) {n:Int} (h0:0<=n) (h1:n<k):n∈rs:=by
 have base:∀ x:Int,0<=x->x<k->x∈(List.range k).map fun (i:Nat)=>(i:Int):=fun x a b=>List.mem_map.mpr ⟨x.toNat,List.mem_range.mpr (by omega),by omega⟩
 by_cases z:n∈rs
 ·exact z
 ·exfalso;have:=vt (l:=n::rs) (m:=(List.range k).map fun (i:Nat)=>(i:Int)) (List.nodup_cons.mpr ⟨z,h.nd⟩) fun x hx=>by
   rcases List.mem_cons.mp hx with q | q
   ·rw [q];exact base n h0 h1
   ·have:=h.rng x q;exact base x this.1 this.2
  have hl:=h.len;simp at this;omega
theorem Au (ns:List Int):(ns.map PyData.int).all gH=true:=by rw [List.all_eq_true];intro d hd;obtain ⟨n,_,rfl⟩:=List.mem_map.mp hd;rfl
theorem mq (n:Int):∀ rs:List Int,n∈rs->(((rs.map PyData.int).map toV).findIdx? fun z=>eqV z (.int n))=some (placeOf rs n)
 | [],h=>by cases h
 | r::rs,h=>by
  have ev:eqV (.int r) (.int n)=(r==n):=rfl;rw [List.map_cons,List.map_cons,List.findIdx?_cons];unfold placeOf;rw [List.findIdx_cons];show (if eqV (.int r) (.int n)=true then some 0 else _)=_;rw [ev];cases hr:r==n with
  | true=>rfl
  | false =>
   have hne:r≠n:=by simpa using hr
   have:=mq n rs ((List.mem_cons.mp h).resolve_left fun q=>hne q.symm);rw [if_neg Bool.false_ne_true,this];rfl
theorem vN {rs:List Int} {n:Int} (h:n∈rs):n8 (rs.map .int) (.int n)=some (.int (placeOf rs n)):=by unfold n8;rw [Au,show gH (.int n)=true from rfl];simp only [Bool.and_self,if_true];rw [show toV (.int n)=.int n from rfl,mq n rs h];rfl
@[simp] theorem FV (go ga:Ds->Rs PyData) (δ:Ds):xy go ga δ=(go δ).bind fun d=>match d with | .tuple xs=>(ga δ).bind fun y=>Rs.eZ (n8 xs y) | _=>.no:=rfl
theorem vn (es:List Er) (t:Int):∀ (rs:List Int) (k:Int) (m:Int),m∈rs->(iM es m).has t=true->∃ h,hts es rs k t=some h
 | [],_,_,h,_=>by cases h
 | r::rs,k,m,h,ht=>by
  unfold hts;by_cases z:(iM es r).has t=true
  ·exact ⟨k,by rw [if_pos z]⟩
  ·rw [if_neg z];rcases List.mem_cons.mp h with q | q
   ·subst q;exact absurd ht z
   ·exact vn es t rs (k+1) m q ht
theorem yD {a b:Int} (h1:-(2 ^ 64)<b) (h2:b<2 ^ 64):dO (.int a) (.int b)=some (.int (a*b)):=by show (if _ then _ else _)=_;rw [if_pos (.inr ⟨h1,h2⟩)]
theorem u7 {a b:Int} (h1:-(2 ^ 64)<a) (h2:a<2 ^ 64):dO (.int a) (.int b)=some (.int (a*b)):=by show (if _ then _ else _)=_;rw [if_pos (.inl ⟨h1,h2⟩)]
def fz:PyData->Option (List Int)
 | .dict [(.none,.list l)]=>f9 l
 | _=>none
theorem fL (ns:List Int):fz (au ns)=some ns:=fM ns
def ak:Gf
 | [s,.int k,.int many]=>(match fz s with
  | some ns=>if 0<=k/\0<many then .ok (.int (mixed ns k many)) else .no
  | none=>.no)
 | _=>.no
theorem cJ {ns:List Int} {k many:Int} (h1:0<=k) (h2:0<many):ak [au ns,.int k,.int many]=.ok (.int (mixed ns k many)):=by unfold ak;simp [fL,h1,h2]
theorem nW (O:List Nat) (i:Nat) (g:Ds->Rs PyData) (δ:Ds):bj O i g δ=if i<δ.length then ofR (g (mask O δ)) fun d=>.nx (δ.set i (some d)) else .no:=rfl
def bP:Gf
 | [s,.int a,.int top,.bool tools]=>(match fz s with
  | some ns=>if 0<=a/\0<top/\top<=58 then .ok (mkE ns a top tools).d else .no
  | none=>.no)
 | _=>.no
theorem i7 {ns:List Int} {a top:Int} {tools:Bool} (h1:0<=a) (h2:0<top) (h3:top<=58):bP [au ns,.int a,.int top,.bool tools]=.ok (mkE ns a top tools).d:=by unfold bP;simp [fL,h1,h2,h3]
theorem zK (o:Option Int):fE (dR o)=true:=by cases o <;> (unfold dR fE;rfl)
theorem xo (p:Int×Option Int):fE (bI p)=true:=by unfold bI fE lF;rw [show fE (.int p.1)=true by unfold fE;rfl];unfold lF;rw [zK];unfold lF;rfl
theorem CZ {i:Int} (h0:0<=i) (h1:i<5):atI [PyData.int 0,PyData.int 1,PyData.int 1,PyData.int 0,PyData.none] i=some (dR (k6 i)):=by
 have:i=0\/i=1\/i=2\/i=3\/i=4:=by omega
 rcases this with rfl | rfl | rfl | rfl | rfl <;> rfl
theorem vC (ns:List Int) (a top:Int) (tools:Bool) (ev la du:PyData) (ha:0<=a) (L:List PyData) (hL:L.length<1000) (i:Nat) (x8 x9:Option PyData) :
   aK (bj [7] 9 (aF ak (ae (af 0) (ae (g2 bA (g2 bA (af 1) (gC (.int 4))) (af 8)) (ae (gC (.int 40)) ao)))))
   (aK (lC [7] 7 (jA (ae (g2 bA (gC (.int 1)) (g2 eK (af 9) (gC (.int 4)))) (ae (g2 dIx (kr (ae (gC (.int 0)) (ae (gC (.int 1)) (ae (gC (.int 1)) (ae (gC (.int 0)) (ae (gC .none) ao)))))) (g2 eK (g2 gQ (af 9) (gC (.int 4))) (gC (.int 5)))) ao))))
   (sIf (g0 (gT (af 3))) (rV 7 (g1 lA (gC (.int 1))) (jA (ae (g2 dIx (g2 dIx (af 7) (g1 lA (gC (.int 1)))) (gC (.int 0))) (ae (gC .none) ao)))) bt))
     [some (au ns),some (.int a),some (.int top),some (.bool tools),some ev,some la,some du,some (.list L),some (.int (0+(i:Int))),x9]
  =.nx [some (au ns),some (.int a),some (.int top),some (.bool tools),some ev,some la,some du,some (.list (L++[bI (eW ns (a+4+(i:Int)) tools)])),some (.int (0+(i:Int))),some (.int (mixed ns (a+4+(0+(i:Int))) 40))]:=by
 have hm:=cJ (ns:=ns) (k:=a+4+(0+(i:Int))) (many:=40) (by omega) (by decide);have m0:=cT ns (a+4+(0+(i:Int))) (many:=40) (by decide);have m1:=df ns (a+4+(0+(i:Int))) (many:=40) (by decide);have ek:a+4+(0+(i:Int))=a+4+(i:Int):=by omega
 generalize hc:mixed ns (a+4+(0+(i:Int))) 40=c at *;have q1:0<=c / 4 % 5:=Int.emod_nonneg _ (by decide);have q2:c / 4 % 5<5:=Int.emod_lt_of_pos _ (by decide);have t5:=CZ q1 q2;have hp:eW ns (a+4+(i:Int)) tools=(1+c % 4,if tools then k6 (c / 4 % 5) else none):=by unfold eW;rw [<-ek,hc]
 have s1:bj [7] 9 (aF ak (ae (af 0) (ae (g2 bA (g2 bA (af 1) (gC (.int 4))) (af 8)) (ae (gC (.int 40)) ao)))) [some (au ns),some (.int a),some (.int top),some (.bool tools),some ev,some la,some du,some (.list L),some (.int (0+(i:Int))),x9]
    =.nx [some (au ns),some (.int a),some (.int top),some (.bool tools),some ev,some la,some du,some (.list L),some (.int (0+(i:Int))),some (.int c)]:=by
   rw [nW,if_pos (by simp)];simp only [cn,aM,aQ,ck,bW (show 0∉[7] by decide),bW (show 1∉[7] by decide),bW (show 8∉[7] by decide),ax,aC,dB,Rs.aj,fi,Rs.ar,hm,aL];rfl
 have s2:lC [7] 7 (jA (ae (g2 bA (gC (.int 1)) (g2 eK (af 9) (gC (.int 4)))) (ae (g2 dIx (kr (ae (gC (.int 0)) (ae (gC (.int 1)) (ae (gC (.int 1)) (ae (gC (.int 0)) (ae (gC .none) ao)))))) (g2 eK (g2 gQ (af 9) (gC (.int 4))) (gC (.int 5)))) ao)))
     [some (au ns),some (.int a),some (.int top),some (.bool tools),some ev,some la,some du,some (.list L),some (.int (0+(i:Int))),some (.int c)]
    =.nx [some (au ns),some (.int a),some (.int top),some (.bool tools),some ev,some la,some du,some (.list (L++[bI (1+c % 4,k6 (c / 4 % 5))])),some (.int (0+(i:Int))),some (.int c)]:=by
   unfold lC;simp only [List.getElem?_cons_succ,List.getElem?_cons_zero];simp only [mR,pW,aM,aQ,ck,bW (show 9∉[7] by decide),ax,aC,dB,Rs.aj,fi,Rs.ar,sP,wG,if_pos (show (0:Int)<4 by decide),if_pos (show (0:Int)<5 by decide),if_pos (show (0:Int)<4/\(4:Int)<1073741824 by decide),B2,t5,aL,if_pos (show L.length<1000000 by omega)];rfl
 rw [ba,s1];simp only;rw [ba,s2];simp only;cases tools with
 | true =>rw [hp];simp
 | false =>
   rw [hp];have hl:atI (L++[bI (1+c % 4,k6 (c / 4 % 5))]) (-1)=some (bI (1+c % 4,k6 (c / 4 % 5))):=by rw [nZ];simp
   have hx:ixN (L++[bI (1+c % 4,k6 (c / 4 % 5))]).length (-1)=some L.length:=by unfold ixN;rw [if_neg (by decide),List.length_append,List.length_singleton,if_pos (by omega)];congr 1;omega
   have hs:(L++[bI (1+c % 4,k6 (c / 4 % 5))]).set L.length (.tuple [.int (1+c % 4),.none])=L++[bI (1+c % 4,none)]:=by rw [List.set_append_right _ _ (Nat.le_refl _)];simp;rfl
   have nl:fE (.tuple [.int (1+c % 4),.none])=true:=xo (1+c % 4,none);rw [d7];simp only [ux,eU,ax,aC,Rs.aj,bN,aL,Bool.not_false,if_true];unfold rV;simp only [List.getElem?_cons_succ,List.getElem?_cons_zero,mR,aM,aQ,ck,gO,ax,aC,dB,Rs.aj,Co,Rs.ar,B2,hl,GS,aL,hx,nl,if_true,hs];rfl
theorem kM {j:Int} (h0:0<=j) (h1:j<1000000):DE [.int j]=.ok (bX 0 j.toNat):=by show (if _ then _ else _)=_;rw [if_pos (by omega)]
theorem fS {lo:Int} {n i:Nat} {d:PyData} (h:(bX lo n)[i]?=some d):i<n/\d=.int (lo+(i:Int)):=by have hi:=(List.getElem?_eq_some_iff.mp h).1;rw [dq] at hi;unfold bX at h;rw [List.getElem?_map,List.getElem?_range hi] at h;exact ⟨hi,(Option.some.inj h).symm⟩
theorem qS {α:Type} (n:Nat) (g:Nat->α):(List.range (n+1)).map g=(List.range n).map g++[g n]:=by rw [List.range_succ,List.map_append];rfl
theorem Ce {f:PyData->Int->Int->Bool->Rs PyData} {ds:List PyData} (h:(match ds with | [x0,.int x1,.int x2,.bool x3]=>f x0 x1 x2 x3 | _=>.no)≠.no):∃ x0 x1 x2 x3,ds=[x0,.int x1,.int x2,.bool x3]/\f x0 x1 x2 x3≠.no:=by
 rcases ds with _ | ⟨x0,_ | ⟨x1,_ | ⟨x2,_ | ⟨x3,_ | ⟨y,ys⟩⟩⟩⟩⟩
 ·exact absurd rfl h
 ·exact absurd rfl h
 ·first | exact absurd rfl h | (cases x1 <;> exact absurd rfl h)
 ·first | exact absurd rfl h | (cases x1 <;> first | exact absurd rfl h | (cases x2 <;> exact absurd rfl h))
 ·skip
  cases x1 with
  | int x1 =>
   cases x2 with
   | int x2 =>
    cases x3 with
    | bool x3 =>exact ⟨_,_,_,_,rfl,h⟩
    | _=>exact absurd rfl h
   | _=>first | exact absurd rfl h | (cases x3 <;> exact absurd rfl h)
  | _=>first | exact absurd rfl h | (cases x2 <;> first | exact absurd rfl h | (cases x3 <;> exact absurd rfl h))
 ·first | exact absurd rfl h | (cases x1 <;> first | exact absurd rfl h | (cases x2 <;> first | exact absurd rfl h | (cases x3 <;> exact absurd rfl h)))
theorem uy (cs:Cs):∀ ds,ds.length=4->bP ds≠.no->bB (ft cs ak (ds.map some++List.replicate 6 none))=bP ds:=by
 intro ds hl hne;obtain ⟨s,a,top,tools,ez,hz⟩:=Ce hne;clear hne;subst ez;have hne:=hz;clear hz
 ·skip
  split at hne
  ·rename_i ns hs;have es:s=au ns:=by
    unfold fz at hs;split at hs
    ·rename_i l;rw [eS hs];rfl
    ·cases hs
   subst es;split at hne
   ·rename_i hc;obtain ⟨ha,ht,ht2⟩:=hc;rw [i7 ha ht ht2];show bB (ft cs ak [some (au ns),some (.int a),some (.int top),some (.bool tools),none,none,none,none,none,none])=_;have hm:∀ k many:Int,0<=k->0<many->ak [au ns,.int k,.int many]=.ok (.int (mixed ns k many)):=fun k many h1 h2=>cJ h1 h2
    have a1:=cT ns a ht;have lb:=wY ns a (3+mixed ns a top) (by omega);have b1:=cT ns (a+1) (many:=4) (by decide);have b2:=df ns (a+1) (many:=4) (by decide);have n1:=cT ns (a+3) (many:=3) (by decide);have n2:=df ns (a+3) (many:=3) (by decide);have c1:=cT ns (a+6) (many:=3) (by decide);have c2:=df ns (a+6) (many:=3) (by decide)
    -- every
    have s1:bj [7] 4 (g2 bA (gC (.int 3)) (aF ak (ae (af 0) (ae (af 1) (ae (af 2) ao))))) [some (au ns),some (.int a),some (.int top),some (.bool tools),none,none,none,none,none,none]
      =.nx [some (au ns),some (.int a),some (.int top),some (.bool tools),some (.int (3+mixed ns a top)),none,none,none,none,none]:=by
     rw [nW,if_pos (by simp)];simp only [cn,aM,aQ,ck,bW (show 0∉[7] by decide),bW (show 1∉[7] by decide),bW (show 2∉[7] by decide),ax,aC,dB,Rs.aj,hm a top ha ht,fi,Rs.ar,aL];rfl
    generalize hev:3+mixed ns a top=ev at *;have evp:3<=ev:=by omega
    have s2:bj [7] 5 (g2 dO (aF ak (ae (af 0) (ae (g2 bA (af 1) (gC (.int 1))) (ae (gC (.int 4)) ao)))) (gF AM (ae (g2 dEq (aF ak (ae (af 0) (ae (g2 bA (af 1) (gC (.int 2))) (ae (gC (.int 3)) ao)))) (gC (.int 0))) ao))) [some (au ns),some (.int a),some (.int top),some (.bool tools),some (.int ev),none,none,none,none,none]
      =.nx [some (au ns),some (.int a),some (.int top),some (.bool tools),some (.int ev),some (.int (mixed ns (a+1) 4*(if mixed ns (a+2) 3=0 then 1 else 0))),none,none,none,none]:=by
     rw [nW,if_pos (by simp)];simp only [cn,aM,aQ,ck,fU,bW (show 0∉[7] by decide),bW (show 1∉[7] by decide),ax,aC,dB,Rs.aj,fi,Rs.ar,hm (a+1) 4 (by omega) (by decide),hm (a+2) 3 (by omega) (by decide),jC,Gz];rw [u7 (by omega) (by omega)];simp only [Rs.ar,aL,beq_iff_eq];rfl
    have s3:bj [7] 5 (gF kZ (ae (af 5) (ae (g2 iy (af 4) (gC (.int 1))) ao))) [some (au ns),some (.int a),some (.int top),some (.bool tools),some (.int ev),some (.int (mixed ns (a+1) 4*(if mixed ns (a+2) 3=0 then 1 else 0))),none,none,none,none]
      =.nx [some (au ns),some (.int a),some (.int top),some (.bool tools),some (.int ev),some (.int (iN ns a ev)),none,none,none,none]:=by
     rw [nW,if_pos (by simp)];simp only [fU,aM,aQ,ck,bW (show 4∉[7] by decide),bW (show 5∉[7] by decide),ax,aC,dB,Rs.aj,wL,Rs.ar,yj,aL];rfl
    generalize hla:iN ns a ev=la at *;have s4:bj [7] 6 (g2 iy (af 4) (af 5)) [some (au ns),some (.int a),some (.int top),some (.bool tools),some (.int ev),some (.int la),none,none,none,none]
      =.nx [some (au ns),some (.int a),some (.int top),some (.bool tools),some (.int ev),some (.int la),some (.int (ev-la)),none,none,none]:=by
     rw [nW,if_pos (by simp)];simp only [ck,bW (show 4∉[7] by decide),bW (show 5∉[7] by decide),ax,aC,Rs.aj,wL,Rs.ar,aL];rfl
    have s5:sIf (gT (g2 dEq (aF ak (ae (af 0) (ae (g2 bA (af 1) (gC (.int 1))) (ae (gC (.int 3)) ao)))) (gC (.int 0)))) (bj [7] 6 (g2 iy (af 6) (aF ak (ae (af 0) (ae (g2 bA (af 1) (gC (.int 2))) (ae (af 6) ao)))))) bt
        [some (au ns),some (.int a),some (.int top),some (.bool tools),some (.int ev),some (.int la),some (.int (ev-la)),none,none,none]
      =.nx [some (au ns),some (.int a),some (.int top),some (.bool tools),some (.int ev),some (.int la),some (.int (oJ ns a (ev-la))),none,none,none]:=by
     rw [d7];simp only [eU,ck,cn,aM,aQ,ax,aC,dB,Rs.aj,fi,Rs.ar,hm (a+1) 3 (by omega) (by decide),jC,bN,aL];by_cases z:mixed ns (a+1) 3=0
     · rw [if_pos (by simp [z]),nW,if_pos (by simp)];simp only [cn,aM,aQ,ck,bW (show 0∉[7] by decide),bW (show 1∉[7] by decide),bW (show 6∉[7] by decide),ax,aC,dB,Rs.aj,fi,Rs.ar,hm (a+2) (ev-la) (by omega) (by omega),wL,aL];unfold oJ;rw [if_pos z];rfl
     · rw [if_neg (by simp [z])];unfold oJ;rw [if_neg z];rfl
    generalize hdu:oJ ns a (ev-la)=du at *;have s6:ia [7] 7 ao [some (au ns),some (.int a),some (.int top),some (.bool tools),some (.int ev),some (.int la),some (.int du),none,none,none]
      =.nx [some (au ns),some (.int a),some (.int top),some (.bool tools),some (.int ev),some (.int la),some (.int du),some (.list []),none,none]:=rfl
    have src:fG (ae (aF ak (ae (af 0) (ae (g2 bA (af 1) (gC (.int 3))) (ae (gC (.int 3)) ao)))) ao) (mask [7] [some (au ns),some (.int a),some (.int top),some (.bool tools),some (.int ev),some (.int la),some (.int du),some (.list []),none,none])=.ok (bX 0 (mixed ns (a+3) 3).toNat):=by simp only [kG,cn,aM,aQ,ck,bW (show 0∉[7] by decide),bW (show 1∉[7] by decide),ax,aC,dB,Rs.aj,fi,Rs.ar,hm (a+3) 3 (by omega) (by decide)];exact kM n1 (by omega)
    obtain ⟨δ',e,x8,x9,hδ⟩:=g9 (β:=Unit) (tgt:=bU 8) (body:=aK (bj [7] 9 (aF ak (ae (af 0) (ae (g2 bA (g2 bA (af 1) (gC (.int 4))) (af 8)) (ae (gC (.int 40)) ao)))))
  (aK (lC [7] 7 (jA (ae (g2 bA (gC (.int 1)) (g2 eK (af 9) (gC (.int 4)))) (ae (g2 dIx (kr (ae (gC (.int 0)) (ae (gC (.int 1)) (ae (gC (.int 1)) (ae (gC (.int 0)) (ae (gC .none) ao)))))) (g2 eK (g2 gQ (af 9) (gC (.int 4))) (gC (.int 5)))) ao))))
  (sIf (g0 (gT (af 3))) (rV 7 (g1 lA (gC (.int 1))) (jA (ae (g2 dIx (g2 dIx (af 7) (g1 lA (gC (.int 1)))) (gC (.int 0))) (ae (gC .none) ao)))) bt)))
     (fun i δ=>∃ x8 x9,δ=[some (au ns),some (.int a),some (.int top),some (.bool tools),some (.int ev),some (.int la),some (.int du),some (.list ((List.range i).map fun (k:Nat)=>bI (eW ns (a+4+(k:Int)) tools))),x8,x9])
     (bX 0 (mixed ns (a+3) 3).toNat) 0 (fun i d δ hi pz4=>by obtain ⟨x8,x9,hx⟩:=pz4;subst hx;rw [Nat.zero_add] at *;obtain ⟨hil,rfl⟩:=fS hi;refine ⟨[some (au ns),some (.int a),some (.int top),some (.bool tools),some (.int ev),some (.int la),some (.int du),some (.list ((List.range i).map fun (k:Nat)=>bI (eW ns (a+4+(k:Int)) tools))),some (.int (0+(i:Int))),x9],_,rfl,vC ns a top tools (.int ev) (.int la) (.int du) ha _ (by simp;omega) i none x9,some (.int (0+(i:Int))),some (.int (mixed ns (a+4+(0+(i:Int))) 40)),?_⟩;rw [qS]) [some (au ns),some (.int a),some (.int top),some (.bool tools),some (.int ev),some (.int la),some (.int du),some (.list []),none,none] ⟨none,none,rfl⟩
    subst hδ;rw [Nat.zero_add,dq] at e;have hd:(mkE ns a top tools).d=.tuple [.int ev,.int du,.int la,.tuple (((List.range (mixed ns (a+3) 3).toNat).map fun (k:Nat)=>bI (eW ns (a+4+(k:Int)) tools))++[bI (1+mixed ns (a+6) 3,none)])]:=by simp only [mkE,Er.d,List.map_append,List.map_map,hev,hla,hdu];rfl
    rw [hd];simp only [ft];rw [ba,s1];simp only;rw [ba,s2];simp only;rw [ba,s3];simp only;rw [ba,s4];simp only;rw [ba,s5];simp only;rw [ba,s6];simp only;rw [ba,p7,src,aL,e];simp only;simp only [cU,mR,pW,aM,aQ,ck,fU,cn,ax,aC,dB,Rs.aj,fi,Rs.ar,hm (a+6) 3 (by omega) (by decide)];have hcat:bA (.list ((List.range (mixed ns (a+3) 3).toNat).map fun (k:Nat)=>bI (eW ns (a+4+(k:Int)) tools))) (.list [.tuple [.int (1+mixed ns (a+6) 3),.none]])=some (.list (((List.range (mixed ns (a+3) 3).toNat).map fun (k:Nat)=>bI (eW ns (a+4+(k:Int)) tools))++[bI (1+mixed ns (a+6) 3,none)])):=by show (if _ then _ else _)=_;rw [if_pos (by simp;omega)];rfl
    rw [hcat];simp
   ·exact absurd rfl hne
  ·exact absurd rfl hne
def aZ:Gf
 | [s,.int a,.int most,.int top,.bool tools]=>(match fz s with
  | some ns=>if 0<=a/\0<most/\most<=6/\0<top/\top<=58 then .ok (aU (oP ns a most top tools)) else .no
  | none=>.no)
 | _=>.no
theorem iH {ns:List Int} {a most top:Int} {tools:Bool} (h1:0<=a) (h2:0<most) (h3:most<=6) (h4:0<top) (h5:top<=58):aZ [au ns,.int a,.int most,.int top,.bool tools]=.ok (aU (oP ns a most top tools)):=by unfold aZ;simp [fL,h1,h2,h3,h4,h5]
theorem iB {s:PyData} {ns:List Int} (hs:fz s=some ns):s=au ns:=by
 unfold fz at hs;split at hs
 ·rename_i l;rw [eS hs];rfl
 ·cases hs
theorem AG {f:PyData->Int->Int->Int->Bool->Rs PyData} {ds:List PyData} (h:(match ds with | [x0,.int x1,.int x2,.int x3,.bool x4]=>f x0 x1 x2 x3 x4 | _=>.no)≠.no):∃ x0 x1 x2 x3 x4,ds=[x0,.int x1,.int x2,.int x3,.bool x4]/\f x0 x1 x2 x3 x4≠.no:=by
 rcases ds with _ | ⟨x0,_ | ⟨x1,_ | ⟨x2,_ | ⟨x3,_ | ⟨x4,_ | ⟨y,ys⟩⟩⟩⟩⟩⟩
 ·exact absurd rfl h
 ·exact absurd rfl h
 ·first | exact absurd rfl h | (cases x1 <;> exact absurd rfl h)
 ·first | exact absurd rfl h | (cases x1 <;> first | exact absurd rfl h | (cases x2 <;> exact absurd rfl h))
 ·first | exact absurd rfl h | (cases x1 <;> first | exact absurd rfl h | (cases x2 <;> first | exact absurd rfl h | (cases x3 <;> exact absurd rfl h)))
 ·skip
  cases x1 with
  | int x1 =>
   cases x2 with
   | int x2 =>
    cases x3 with
    | int x3 =>
     cases x4 with
     | bool x4 =>exact ⟨_,_,_,_,_,rfl,h⟩
     | _=>exact absurd rfl h
    | _=>first | exact absurd rfl h | (cases x4 <;> exact absurd rfl h)
   | _=>first | exact absurd rfl h | (cases x3 <;> first | exact absurd rfl h | (cases x4 <;> exact absurd rfl h))
  | _=>first | exact absurd rfl h | (cases x2 <;> first | exact absurd rfl h | (cases x3 <;> first | exact absurd rfl h | (cases x4 <;> exact absurd rfl h)))
 ·first | exact absurd rfl h | (cases x1 <;> first | exact absurd rfl h | (cases x2 <;> first | exact absurd rfl h | (cases x3 <;> first | exact absurd rfl h | (cases x4 <;> exact absurd rfl h))))
theorem rO (cs:Cs):∀ ds,ds.length=5->aZ ds≠.no->bB (eG cs bP ak (ds.map some++List.replicate 1 none))=aZ ds:=by
 intro ds hl hne;obtain ⟨s,a,most,top,tools,ez,hz⟩:=AG hne;clear hne;subst ez;have hne:=hz;clear hz
 ·skip
  split at hne
  ·rename_i ns hs;have es:=iB hs;subst es;split at hne
   ·rename_i hc;obtain ⟨ha,hm1,hm2,ht,ht2⟩:=hc;rw [iH ha hm1 hm2 ht ht2];have hm:=cJ (ns:=ns) ha hm1;have m1:=cT ns a hm1;have m2:=df ns a hm1;have hcm:bF 6 (fG (ae (af 5) ao)) bu (aF bP (ae (af 0) (ae (g2 bA (g2 bA (af 1) (gC (.int 1))) (g2 dO (gC (.int 7)) (af 6))) (ae (af 3) (ae (af 4) ao))))) aP
      [some (au ns),some (.int a),some (.int most),some (.int top),some (.bool tools),some (.int (1+mixed ns a most))]=.ok ((bX 0 (1+mixed ns a most).toNat).map fun d=>(mkE ns (a+1+7*deI d) top tools).d) :=
     c9 rfl (by simp only [kG,aM,aQ,ax,aC,Rs.aj];exact kM (by omega) (by omega)) (by rw [dq];omega) fun d hd=>by obtain ⟨i,hi⟩:=List.getElem?_of_mem hd;obtain ⟨_,rfl⟩:=fS hi;simp only [List.cons_append,List.nil_append,cn,aM,aQ,ck,ax,aC,dB,Rs.aj,fi,Rs.ar];rw [u7 (by decide) (by decide)];simp only [Rs.ar,Rs.aj,fi];exact i7 (by omega) ht ht2
    have hds:aU (oP ns a most top tools)=.tuple ((bX 0 (1+mixed ns a most).toNat).map fun d=>(mkE ns (a+1+7*deI d) top tools).d):=by
     unfold aU oP bX;rw [List.map_map,List.map_map];congr 1;refine List.map_congr_left fun k _=>?_
     simp [deI]
    rw [hds];show bB (eG cs bP ak [some (au ns),some (.int a),some (.int most),some (.int top),some (.bool tools),none])=_;simp only [eG,ba,kO,List.length_cons,List.length_nil,Nat.reduceAdd,Nat.reduceLT,if_true,cn,aM,aQ,ck,ax,aC,dB,Rs.aj,hm,fi,Rs.ar,aL,List.set_cons_succ,List.set_cons_zero,cU,fU,pO,hcm,Bp,bZ]
   ·exact absurd rfl hne
  ·exact absurd rfl hne
end RS
namespace RS
open PySem PySem.Spec PyProof.Rows L2
section
variable {P:Program} {w:World} {K:PySem.W.Frag} {mg:Str->Option Value} {base:Heap}
theorem yN {x qual:Str} {st:Stmt} {f:Addr} {fd:FuncData} {N ps:List Str} {k:Nat} {O:List Nat} {G:Ds->Sr} {gf:List PyData->Rs PyData} (F:Fun K x qual st f fd) (S:a9 N ps (ay st)) (hO:∀ i∈O,ps.length<=i)
  (body:∀ (cdv:Value) (A:Around) (outer:List Env) (s:Shared) (H:Hp) (E:XK),cC k (A.deeper (envOfC qual (ay st) s.heap.objs.size f cdv))->PBD (d6 (CXW P w) P w K mg base N qual (ay st) f cdv A outer s H E) E O (cX st) G)
  (hg:∀ ds,ds.length=ps.length->gf ds≠.no->bB (G (ds.map some++List.replicate (N.length-ps.length) none))=gf ds):hU P w K mg base (CXW P w) (k+1) f fd ps (spD K ps.length gf):=by
 refine pB F S (fun vs H Q E h=>?_) (fun cdv A outer s H vs Q E hr h=>?_)
 ·obtain ⟨A,ds,hA,hi,hl,o⟩:=h;rw [hi.length,hl]
 ·obtain ⟨A0,ds,hA,hi,hl,o⟩:=h;refine ⟨_,body cdv A outer s H E hr,H,A0,[],_,cp.start hA hi hl hO,?_⟩;have hg':=hg ds hl (fun z=>by rw [z] at o;exact o);cases q:G (ds.map some++List.replicate (N.length-ps.length) none) with
  | rt d=>rw [q] at hg';rw [<-hg'] at o;exact fun v H' s' hv=>o v H' s' hv
  | nx δ=>rw [q] at hg';rw [<-hg'] at o;exact fun A' σ H' R'=>o .non H' R'.same is_none
  | rz C=>rw [q] at hg';rw [<-hg'] at o;exact fun H' s'=>o H' s'
  | bk δ=>rw [q] at hg';rw [<-hg'] at o;exact o.elim
  | ct δ=>rw [q] at hg';rw [<-hg'] at o;exact o.elim
  | no=>rw [q] at hg';rw [<-hg'] at o;exact o.elim
theorem bM {h:Heap} {x:Str} {st:Stmt} {ps:List Str} {f:Addr} {oc:Value} {od an:Option Addr} {sl:Array (Option Value)} {kV dc pm cd ct:Value} (X:K.In h) (G:h.Ns mainGlobals mg)
  (hb:∀ (kV doc pm:Value) (an:Option Addr) (cdv ct:Value) (us:List Value),us.length=ps.length->bindArgs (PySem.W.fnOf x x (fw st) (cX st) (ay st) .none kV doc pm an cdv ct) ⟨us,[]⟩=pure (ps.zip us))
  (a:PySem.W.nsIn K mainGlobals x=some (some (.ref f)))
  (l:K.lookup f=some ⟨oc,od,.func (PySem.W.fnOf x x (fw st) (cX st) (ay st) .none kV dc pm an cd ct),sl⟩)
  (c:PySem.W.codeIn K cd x=true) (k:PySem.W.keepIn K (.ref f)=true):bH K mg x st ps :=
 have F:=yu (st:=st) l c k
 ⟨f,_,F,F.binds hb,PySem.W.mg_of X G a⟩
theorem uE {h:Heap} {x:Str} {C:Addr} (X:K.In h) (G:h.Ns mainGlobals mg) (a:PySem.W.nsIn K mainGlobals x=some (some (.ref C)))
 (e:PySem.W.excIn K C [.type "ValueError",.type "Exception",.type "BaseException",.type "object"] "ValueError.__new__"=true):wW K mg x C:=⟨PySem.W.mg_of X G a,e⟩
theorem gR {h:Heap} {x:Str} {n:Int} {t:_} (X:K.In h) (G:h.Ns mainGlobals mg) (a:PySem.W.nsIn K mainGlobals x=some (some (.int n t))):∃ t,mg x=some (.int n t):=⟨t,PySem.W.mg_of X G a⟩
end
def fZ (n:Nat):Gf
 | [s]=>(match fz s with
  | some ns=>if ns.length<=n then .ok (.bool true) else .no
  | none=>.no)
 | _=>.no
theorem Ih {l:PySem.W.OpenLaw} {n k:Nat} {q:Program} {loose:List Str} {XP:(Str->Option Value)->Heap->Prop} {YP:World->Heap->Prop} {d:DefRec} {K:Params->PySem.W.Frag} {x:Str} {st:Stmt}
  (hn:l.most=some n) (hn2:n<=sizeLine) (hdf:d.params.defaults=[]) (hr:cC k callerA)
  (hY:∀ (w:World) (h:Heap),YP w h->(K w.params).In h)
  (hb:∀ (kV doc pm:Value) (an:Option Addr) (cdv ct:Value) (us:List Value),us.length=1->bindArgs (PySem.W.fnOf d.name d.name (fw st) (cX st) (ay st) .none kV doc pm an cdv ct) ⟨us,[]⟩=pure ([x].zip us))
  (F:∀ (w:World) (mg:Str->Option Value) (h:Heap),(K w.params).In h->h.Ns mainGlobals mg->
   bH (K w.params) mg d.name st [x]/\∀ f fd,Fun (K w.params) d.name d.name st f fd->∀ base:Heap,(K w.params).In base->base.Ns mainGlobals mg->L2.oa mg base->hU l.prog w (K w.params) mg base (CXW l.prog w) k f fd [x] (spD (K w.params) 1 (fZ n)))
  (hTb:∀ (w:World) (h:Heap) (loose':List Str) (mean:ExcName->Option Value) (mg mb:Str->Option Value),PyProof.Rows.Top q loose' mean mg mb h->(K w.params).In h->L2.nL (K w.params) h:=by exact fun _ _ _ _ _ _ _ _=>L2.tabsIn_nil rfl) :
  PySem.W.WalkO q loose XP YP l.row.toRowW d [] (fun f vs=>PySem.call f vs) :=
 L2.yO (n:=n) (k:=k) (x:=x) (CX:=fun w=>CXW l.prog w) (sp:=fun w=>spD (K w.params) 1 (fZ n)) hn hn2 hdf hr hY
  (fun w mg fa h X G hfa=>by obtain ⟨⟨f,fd,F1,b,m⟩,hF⟩:=F w mg h X G;have e:=hfa.symm.trans m;cases e;refine ⟨fd,fun s u=>?_,hF fa fd F1⟩;obtain ⟨oc,od,kV,doc,pm,an,cdv,ct,osl,rfl,lk,hcd⟩:=F1.ex;exact .of_eq (hb kV doc pm an cdv ct [u] rfl))
  (fun w H a ns hl hO hS=>by
   refine ⟨[],[au ns],?_,?_,rfl,?_⟩
   ·exact Ls.nil
   ·rw [yZ];exact ⟨_,[],rfl,zU hS,rfl⟩
   ·have eg:fZ n [au ns]=.ok (.bool true):=by unfold fZ;simp [fL,hl]
    rw [eg];intro v H' _ hv;rw [yZ] at hv;unfold Is at hv;exact hv)
  (fun w H s e s' qz5=>(by obtain ⟨_,_,_,_,_,_,z,_⟩:=qz5;exact z)) hTb
end RS
set_option maxHeartbeats 4000000
namespace L2
open PySem PySem.Spec PyProof.Rows
def Eo (K:PySem.W.Frag) (x:Str):Prop:=∃ f oc od fd sl c P o vs,PySem.W.nsIn K mainGlobals x=some (some (.ref f))/\K.lookup f=some ⟨oc,od,.func fd,sl⟩/\fd.code=.ref c/\K.lookup c=some o/\o.data=.fields vs/\vs[11]?=some (.ref P)/\PySem.W.codeHdIn K c P=true
section
variable {P:Program} {w:World} {K:PySem.W.Frag} {mg:Str->Option Value} {base:Heap}
theorem bp.ofL {x:Str} {st:Stmt} {f:Addr} {fd:FuncData} {N ps:List Str} {k:Nat} {O:List Nat} {G:Ds->Sr} {gf:List PyData->Rs PyData} (F:Fun K x x st f fd) (S:a9 N ps (ay st)) (b:Binds K fd ps []) (m:mg x=some (.ref f)) (hO:∀ i∈O,ps.length<=i)
  (hx:x∈pq) (hm:∀ g,PySem.W.nsIn K mainGlobals x=some (some (.ref g))->mg x=some (.ref g)) (hT:Eo K x) (hB:oa mg base) (hK:K.In base) (hq:∀ (L:Addr) (cdv:Value),(envOfC x (ay st) L f cdv).qual++"<lambda>"=x++".<locals>.<lambda>")
  (body:∀ (cdv:Value) (A:Around) (outer:List Env) (s:Shared) (H:Hp) (E:XK),cC k (A.deeper (envOfC x (ay st) s.heap.objs.size f cdv))->∀ c Pt,D3 (d6 (CXW P w) P w K mg base N x (ay st) f cdv A outer s H E) c Pt->PBD (d6 (CXW P w) P w K mg base N x (ay st) f cdv A outer s H E) E O (cX st) G)
  (hg:∀ ds,ds.length=ps.length->gf ds≠.no->bB (G (ds.map some++List.replicate (N.length-ps.length) none))=gf ds):bp P w K mg base (k+1) x ps.length gf:=by
 obtain ⟨oc,od,kV,doc,pm,an,cdv,ct,osl,rfl,lk,hcd⟩:=F.ex;obtain ⟨f',oc',od',fd',sl',c,Pt,o,vs,t1,t2,t3,t4,t5,t6,t7⟩:=hT;have hf:f'=f:=by have:=hm f' t1;rw [m] at this;cases this;rfl
 subst hf;rw [lk] at t2;have hcc:cdv=.ref c:=by cases t2;exact t3
 subst hcc;obtain ⟨bm,ob,b1,b2,b3,b4,b5,b6,b7⟩:=hB;refine ⟨f',_,ps,Cc lk hcd S (fun vs H Q E h=>?_) (fun A outer s H vs' Q E hr h=>?_),m,F.kp,b⟩
 ·obtain ⟨A,ds,hA,hi,hl,o⟩:=h;rw [hi.length,hl]
 ·obtain ⟨A0,ds,hA,hi,hl,ou⟩:=h;refine ⟨_,body (.ref c) A outer s H E hr c Pt ⟨?_,rfl,PySem.W.codeHd_of_K hK t7,bm,ob,b1,b2,b3,b4,b5,b6,b7⟩,H,A0,[],_,cp.start hA hi hl hO,?_⟩
  ·exact ⟨x,hx,f',_,_,_,_,c,t1,lk,rfl,⟨o,vs,t4,t5,t6⟩,hq _ _⟩
  ·have hg':=hg ds hl (fun z=>by rw [z] at ou;exact ou);cases q:G (ds.map some++List.replicate (N.length-ps.length) none) with
   | rt d=>rw [q] at hg';rw [<-hg'] at ou;exact fun v H' s' hv=>ou v H' s' hv
   | nx δ=>rw [q] at hg';rw [<-hg'] at ou;exact fun A' σ H' R'=>ou .non H' R'.same is_none
   | rz C=>rw [q] at hg';rw [<-hg'] at ou;exact fun H' s'=>ou H' s'
   | bk δ=>rw [q] at hg';rw [<-hg'] at ou;exact ou.elim
   | ct δ=>rw [q] at hg';rw [<-hg'] at ou;exact ou.elim
   | no=>rw [q] at hg';rw [<-hg'] at ou;exact ou.elim
end
def fR (cond:Ds->Rs Bool) (elt:Ds->Rs PyData) (tgt:PyData->Option Ds) (δ δ2:Ds):List PyData->Rs (List PyData)
 | []=>.ok []
 | d::r=>match tgt d with
  | none=>.no
  | some own=>(cond (δ2++own)).calm.bind fun b=>if b=true then (elt (δ++own)).calm.bind fun x=>(fR cond elt tgt δ δ2 r).bind fun xs=>.ok (x::xs) else fR cond elt tgt δ δ2 r
def nU (n0:Nat) (src:Ds->Rs (List PyData)) (cond:Ds->Rs Bool) (elt:Ds->Rs PyData) (tgt:PyData->Option Ds):Ds->Ds->Rs (List PyData):=fun δ δ2=>if δ.length=n0 then (src δ).bind fun ds=>if ds.length<=1000000 then fR cond elt tgt δ δ2 ds else .no else .no
theorem E2 {K:PySem.W.Frag} {E:XK} {own:List Str} {gi:Ds->Rs (List PyData)} {g:TG} {tt:TT} {cond:Ds->Rs Bool} {ge:Ds->Rs PyData} {tgt:PyData->Option Ds} {n0:Nat} (hT:TgD K n0 own.length tgt g) (htt:∀ σ H Q,cD K E0 cond σ H Q->tt σ H Q) {σ:St} {H:Hp} {Q:VK} {A A2:List Addr} {δ δ2:Ds} (R:dJ K H A δ σ) (Rf:dJ K H A2 δ2 σ) (hAA:∀ a∈A2,a∈A) (o:Ee K E A H (nU n0 gi cond ge tgt δ δ2) Q) :
  tLC own.length (iD K E gi) g tt (eD K E0 ge) σ H Q:=by
 unfold nU at o;by_cases hn0:δ.length=n0
 case neg=>rw [if_neg hn0] at o;exact o.elim
 rw [if_pos hn0] at o;have hσ:σ.length=n0:=by rw [<-R.len];exact hn0
 refine ⟨A,δ,R,?_⟩;cases q:gi δ with
 | no=>rw [q] at o;exact o
 | rz C=>rw [q] at o;exact o
 | ok ds =>
  rw [q] at o;have o:Ee K E A H (if ds.length<=1000000 then fR cond ge tgt δ δ2 ds else .no) Q:=o;by_cases hz:ds.length<=1000000
  case neg=>rw [if_neg hz] at o;exact o.elim
  rw [if_pos hz] at o;intro J H1 s1 hJ D hD;have R1:=R.same s1;have nD:D∉A:=R1.ls.new hD;cases qo:fR cond ge tgt δ δ2 ds with
  | rz C =>
   exfalso;have:∀ l,fR cond ge tgt δ δ2 l≠.rz C:=by
    intro l
    induction l with
    | nil=>intro z;cases z
    | cons d r ih =>
     intro z;unfold fR at z;split at z
     ·cases z
     ·rename_i own' _;cases c1:cond (δ2++own') with
      | ok b =>
       simp only [c1,Rs.dM,Rs.aj] at z;split at z
       ·cases c2:ge (δ++own') with
        | ok x =>
         simp only [c2,Rs.dM,Rs.aj] at z;cases c3:fR cond ge tgt δ δ2 r with
         | ok l=>simp only [c3,Rs.aj] at z;cases z
         | rz C'=>simp only [c3,Rs.eN] at z;cases z;exact ih c3
         | no=>simp only [c3,Rs.bT] at z;cases z
        | rz C'=>simp only [c2,Rs.calm,Rs.bT] at z;cases z
        | no=>simp only [c2,Rs.calm,Rs.bT] at z;cases z
       ·exact ih z
      | rz C'=>simp only [c1,Rs.calm,Rs.bT] at z;cases z
      | no=>simp only [c1,Rs.calm,Rs.bT] at z;cases z
   exact this ds qo
  | no=>rw [qo] at o;exact o.elim
  | ok out =>
   rw [qo] at o;have base:az (del H1 A) (del (upd H1 D (.lst [])) (D::A)):=fun b o e=>by obtain ⟨z,e⟩:=bE e;have nb:b≠D:=aT e hD;rw [aW (by simp [nb,z]),aI nb];exact e
   refine ⟨fun i m ys H'=>m=ds.length-i/\i<=ds.length/\az H1 H'/\H' D=some (.lst ys)/\ys.length<=i/\∃ dn rest,fR cond ge tgt δ δ2 (ds.drop i)=.ok rest/\out=dn++rest/\Iss K (del H' (D::A)) dn ys,
    ⟨ds.length,by simp,Nat.zero_le _,b8 hD,aR,Nat.le_refl _,[],out,qo,rfl,dk⟩,?_⟩
   rintro i m ys H' ⟨rfl,hi,sm,hl,hy,dn,rest,c1,c2,c3⟩
   refine ⟨hl,?_⟩;have sG:az (del H1 A) H':=aH.trans sm;have hBn:∀ b∈D::A,(del H1 A) b=none:=fun b hb=>by
    rcases List.mem_cons.mp hb with z | z
    ·rw [z,aW nD];exact hD
    ·exact ie z
   obtain ⟨jg,js,jy⟩:=hJ H' (D::A) sG (fun b hb=>by
    rcases List.mem_cons.mp hb with z | z
    ·exact ⟨_,by rw [z];exact hl,rfl⟩
    ·exact (R1.ls.same sm) b z) hBn
   by_cases hlt:i<ds.length
   ·refine .inr ⟨jg i hlt,fun x H2 σ' hσ' y=>?_⟩;obtain ⟨s2,d,ed,hd⟩:=jy i x H2 hlt y;have edr:ds.drop i=d::ds.drop (i+1):=by
     rw [List.drop_eq_getElem_cons hlt];have:ds[i]=d:=by have:=List.getElem?_eq_getElem hlt;rw [this] at ed;exact Option.some.inj ed
     rw [this]
    rw [edr] at c1;unfold fR at c1;cases et:tgt d with
    | none=>rw [et] at c1;cases c1
    | some ow =>
     rw [et] at c1;have l2:H2 D=some (.lst ys):=s2 _ _ hl;have LsD:Ls H2 (D::A):=fun b hb=>by
      rcases List.mem_cons.mp hb with z | z
      ·exact ⟨_,by rw [z];exact l2,rfl⟩
      ·exact (R1.ls.same (sm.trans s2)) b z
     obtain ⟨hol,hgo⟩:=hT d x σ σ' H2 (D::A) (fun σ2 H2=>tt σ2 H2 fun b H3 =>
      if b=true then eD K E0 ge σ2 H3 fun v H4=>H4 D=some (.lst ys)/\ys.length<sizeLine/\(∃ σ'',σ2=σ++σ''/\σ''.length=own.length)/\∃ m',m' < ds.length-i/\_
      else (∃ σ'',σ2=σ++σ''/\σ''.length=own.length)/\∃ m',m' < ds.length-i/\_) ow hσ hσ' LsD hd et
     refine hgo fun vs hvs hown=>?_
     have sAll:az (del H1 A) (del H2 (D::A)):=mn (sG.trans s2) hBn;have RE:dJ K H2 (D::A) (δ++ow) (σ++vs):=by
      refine ⟨LsD,by rw [List.length_append,List.length_append,R.len,hvs,hol],fun k e ek=>?_⟩;by_cases hk:k<δ.length
      ·rw [List.getElem?_append_left hk] at ek;obtain ⟨u,e1,hu⟩:=R1.get k e ek;exact ⟨u,by rw [List.getElem?_append_left (by rw [<-R.len];exact hk)];exact e1,hu.same sAll⟩
      ·rw [List.getElem?_append_right (by omega)] at ek;obtain ⟨u,e1,hu⟩:=hown _ e ek;exact ⟨u,by rw [List.getElem?_append_right (by rw [<-R.len];omega),<-R.len];exact e1,hu⟩
     have RE2:dJ K H2 (D::A2) (δ2++ow) (σ++vs):=by
      have hsub:az (del H2 (D::A)) (del H2 (D::A2)):=fun b u eb=>by
       obtain ⟨q1,q2⟩:=bE eb;rw [aW (fun z=>q1 (by
        rcases List.mem_cons.mp z with z | z
        ·rw [z];exact List.mem_cons_self
        ·exact List.mem_cons_of_mem _ (hAA b z)))];exact q2
      have Rf1:=Rf.same (s1.trans (sm.trans s2));have nD2:D∉A2:=fun z=>nD (hAA D z)
      have hD0:H D=none:=s1.free hD;refine ⟨fun b hb=>?_,by rw [List.length_append,List.length_append,Rf.len,hvs,hol],fun k e ek=>?_⟩
      ·rcases List.mem_cons.mp hb with z | z
       ·exact LsD b (by rw [z];exact List.mem_cons_self)
       ·exact LsD b (List.mem_cons_of_mem _ (hAA b z))
      ·by_cases hk:k<δ2.length
       ·rw [List.getElem?_append_left hk] at ek;obtain ⟨u,e1,hu⟩:=Rf.get k e ek;refine ⟨u,by rw [List.getElem?_append_left (by rw [<-Rf.len];exact hk)];exact e1,hu.same fun b u eb=>?_⟩;obtain ⟨q1,q2⟩:=bE eb;have nb:b≠D:=fun z=>by rw [z,hD0] at q2;cases q2
        rw [aW (by simp [nb,q1])];exact (s1.trans (sm.trans s2)) _ _ q2
       ·rw [List.getElem?_append_right (by omega)] at ek;obtain ⟨u,e1,hu⟩:=hown _ e ek;exact ⟨u,by rw [List.getElem?_append_right (by rw [<-Rf.len];omega),<-Rf.len];exact e1,hu.same hsub⟩
     have bad:∀ r:Rs Bool,r=.rz 0->r.calm=.no:=fun r e=>by rw [e];rfl
     refine htt _ _ _ (cD.run RE2 (fun b eb H3 s3 R3f=>?_) (fun C eb=>?_) (fun eb=>?_))
     ·simp only [eb,Rs.dM,Rs.aj] at c1;cases b with
      | true =>
       simp only [if_true] at c1;refine eD.run (RE.same s3) (fun xd ex v H4 s4 R4 hv=>?_) (fun C ex=>?_) (fun ex=>?_)
       ·simp only [ex,Rs.dM,Rs.aj] at c1;cases cr:fR cond ge tgt δ δ2 (ds.drop (i+1)) with
        | ok rs =>
         simp only [cr,Rs.aj] at c1;cases c1;have l4:H4 D=some (.lst ys):=s4 _ _ (s3 _ _ l2);have dU:del (upd H4 D (.lst (ys++[v]))) (D::A)=del H4 (D::A):=kK (List.mem_cons_self);refine ⟨l4,by rw [sizeLine_eq];omega,⟨vs,rfl,hvs⟩,ds.length-(i+1),by omega,rfl,hlt,?_,aR,by simp;omega,dn++[xd],rs,cr,by rw [c2];simp,?_⟩
         ·exact az.put (((sm.trans s2).trans s3).trans s4) hD
         ·rw [dU];exact (c3.same (az.del (s2.trans (s3.trans s4)))).append (jt hv)
        | rz C=>simp only [cr,Rs.eN] at c1;cases c1
        | no=>simp only [cr,Rs.bT] at c1;cases c1
       ·simp only [ex,Rs.calm,Rs.bT] at c1;cases c1
       ·simp only [ex,Rs.calm,Rs.bT] at c1;cases c1
      | false =>simp only [Bool.false_eq_true,if_false] at c1;exact ⟨⟨vs,rfl,hvs⟩,ds.length-(i+1),by omega,rfl,hlt,(sm.trans s2).trans s3,s3 _ _ l2,by omega,dn,rest,c1,c2,c3.same (az.del (s2.trans s3))⟩
     ·simp only [eb,Rs.calm,Rs.bT] at c1;cases c1
     ·simp only [eb,Rs.calm,Rs.bT] at c1;cases c1
   ·have e:i=ds.length:=by omega
    subst e;rw [List.drop_length] at c1;cases c1;rw [List.append_nil] at c2;subst c2;exact .inl ⟨js,o D ys H' (s1.free hD) (s1.trans sm) hl c3⟩
def tF (O:List Nat) (i n0:Nat) (gi:Ds->Rs (List PyData)) (cond:Ds->Rs Bool) (ge:Ds->Rs PyData) (tgt:PyData->Option Ds):Ds->Sr:=fun δ=>if i<δ.length then ofR (nU n0 gi cond ge tgt (mask O δ) δ) fun ds=>.nx (δ.set i (some (.list ds))) else .no
section
variable {X:Cx} {E:XK} {O:List Nat} {tg:Expr} {pos:Pos}
theorem By {M:List Str} {elt iter:Expr} {ifs:List Expr} {scope:Scope} {own:List Str} {gi:Ds->Rs (List PyData)} {g:TG} {tt:TT} {cond:Ds->Rs Bool} {ge:Ds->Rs PyData} {tgt:PyData->Option Ds} {n0:Nat} {i:Nat} {x:Str} {pos' spos:Pos} (hc:X.calm=true) (hN:X.N.Nodup) (hi:PID X E tg iter gi)
  (hT:TgD X.K n0 own.length tgt g) (hg:∀ C s2 H2 fp,PG (blk X M scope own C s2 H2 fp) tg g) (ht:∀ C s2 H2 fp,PTs (blk X M scope own C s2 H2 fp) ifs tt) (htt:∀ σ H Q,cD X.K E0 cond σ H Q->tt σ H Q) (he:∀ C s2 H2 fp,PD (blk X M scope own C s2 H2 fp) E0 elt ge) (hO:i∉O:=by decide)
  (hxi:X.N[i]?=some x:=by rfl) (hx:Loc X.env.scope x:=by first | exact Or.inl rfl | exact Or.inr rfl) (hsw:swapsWith (.ListComp elt [⟨tg,iter,ifs,0⟩] scope pos) (some (.Name x pos')) spos.line X.env=pure true:=by rfl)
  (hB:oy X.N M X.env.scope scope own=true:=by rfl) (hs:∀ x,foldedSetIterable iter X.env x=pure x:=by intro _;rfl) (hf:X.fn x=true\/X.env.scope.names.lookup x=some .local:=by first | exact .inl rfl | exact .inr rfl | assumption) :
  PSD X E O (.Assign [.Name x pos'] (.ListComp elt [⟨tg,iter,ifs,0⟩] scope pos) spos) (tF O i n0 gi cond ge tgt) :=
 PS.imp (qY (own:=own) (te:=eD X.K E0 ge) hc hN hxi hx hsw hi hg ht (fun C s2 H2 fp=>he C s2 H2 fp) hB hs hf) fun D σ H pz3=>by
  obtain ⟨H0,A0,A,δ,R,o⟩:=pz3;unfold tF at o;split at o
  ·rename_i hl;have R1:=R.part;refine E2 hT htt R1 R.full (fun a ha=>List.mem_append_right _ ha) ?_;cases q:nU n0 gi cond ge tgt (mask O δ) δ with
   | ok ds =>rw [q] at o;intro p xs H' hn s hp hi';exact o A _ H' ((R.step s).set hO hl (kx (by rw [aW (R1.ls.new hn)];exact hp) (hi'.same nh)))
   | rz C=>rw [q] at o;exact fun H' s'=>o H' (R.same.trans s')
   | no=>rw [q] at o;exact o
  ·exact o.elim
end
theorem fH.of {P:Program} {w:World} {K:PySem.W.Frag} {mg:Str->Option Value} {base:Heap} {C:Addr} {m qual:Str} {st:Stmt} {f:Addr} {fd:FuncData} {N ps:List Str} {k:Nat} {O:List Nat} {G:Ds->Sr} {gf:List PyData->Rs PyData} (F:Fun K m qual st f fd) (S:a9 N ps (ay st)) (b:Binds K fd ps []) (cl:Cls K C) (hm:Meth K C m f) (hO:∀ i∈O,ps.length<=i)
  (body:∀ (cdv:Value) (A:Around) (outer:List Env) (s:Shared) (H:Hp) (E:XK),cC k (A.deeper (envOfC qual (ay st) s.heap.objs.size f cdv))->PBD (d6 (CXW P w) P w K mg base N qual (ay st) f cdv A outer s H E) E O (cX st) G)
  (hg:∀ ds,ds.length=ps.length->gf ds≠.no->bB (G (ds.map some++List.replicate (N.length-ps.length) none))=gf ds):fH P w K mg base (k+1) C m ps.length gf :=
 ⟨f,fd,ps,cl,hm,RS.yN F S hO body hg,b⟩
def sj (xs ys:List PyData):List PyData:=List.zipWith (fun a b=>PyData.tuple [a,b]) xs ys
theorem CP {K:PySem.W.Frag} {G:Hp} {a b:Addr} {xs ys:List V} {ds es:List PyData} (h1:Iss K G ds xs) (h2:Iss K G es ys) (hl:ys.length=xs.length) (hp:∀ H1,az G H1->SqT K H1 a xs) (hq:∀ H1,az G H1->SqL K H1 b ys):AA K (Itz K a b xs.length) (sj ds es) G:=fun H1 B s lB hB=>by
 have l1:=h1.length;have l2:=h2.length;have hz:(sj ds es).length=xs.length:=by unfold sj;rw [List.length_zipWith];omega
 rw [hz];refine ⟨fun i hi=>⟨hi,xs,ys,hp H1 s,hq H1 s,rfl,hl⟩,⟨rfl,xs,ys,hp H1 s,hq H1 s,rfl,hl⟩,fun i x H2 hi y=>?_⟩;obtain ⟨t,x0,y0,rfl,ht,rfl,hx,hy⟩:=y;obtain ⟨d,e,hd⟩:=h1.get (hx xs (hp H1 s));obtain ⟨d',e',hd'⟩:=h2.get (hy ys (hq H1 s));refine ⟨b8 ht,.tuple [d,d'],by unfold sj;rw [List.getElem?_zipWith,e,e'],?_⟩;have nb:t∉B:=lB.new ht;have sm:az G (del (upd H1 t (.tup [x0,y0])) B):=fun b o q=>by have q1:=s b o q;have nt:b≠t:=aT q1 ht;rw [aW (fun z=>by rw [hB b z] at q;cases q),aI nt];exact q1
 exact iL (by rw [aW nb];exact aR) (cW (hd.same sm) (jt (hd'.same sm)))
section
variable {X:Cx} {E:XK} {a b:Expr} {pos:Pos} {gs:Ds->Rs (List PyData)}
def FA:List PyData->Rs (List PyData)
 | [.tuple xs,.list ys]=>if ys.length=xs.length then .ok (sj xs ys) else .no
 | _=>.no
def DL (g:Ds->Rs (List PyData)):Ds->Rs (List PyData):=fun δ=>(g δ).bind FA
theorem DC {elts:List Expr} {x1:Nat} {tp p:Pos} (hm:X.mg "zip"=none) (ha:PAD X E [a,b] gs) (hg:Gl X "zip":=by rfl) (hs:starEach [a,b] X.env=[(false,eval a X.env),(false,eval b X.env)]:=by rfl) (hs2:starEach [b] X.env=[(false,eval b X.env)]:=by rfl) :
  PID X E (.Tuple elts x1 tp) (.Call (.Name "zip" p) [a,b] [] pos) (DL gs):=(GY hg hm ha.1 hs hs2).imp fun σ H R ⟨A,δ,Rp,o⟩=>yz Rp o fun ds vs H1 e s1 R1 h1 o=>by
 unfold FA at o;split at o
 ·split at o
  ·rename_i hl;obtain ⟨v,u,rfl,h,h'⟩:=DP h1;obtain ⟨p,xs,rfl,hp,hx⟩:=h.ofTup;obtain ⟨q,ys,rfl,hq,hy⟩:=h'.ofLst;have l1:=hx.length;have l2:=hy.length;exact ⟨p,q,xs,ys,rfl,SqT.of (aH _ _ hp),SqL.of (aH _ _ hq),by omega,o _ H1 (az.refl _) (CP hx hy (by omega) (fun H2 s2=>SqT.of (s2 _ _ hp)) fun H2 s2=>SqL.of (s2 _ _ hq))⟩
  ·exact o.elim
 ·exact o.elim
end
end L2
namespace RS
open PySem L2
abbrev JN:List Str:=["number", "parts", "rank", "row"]
abbrev JT:List (Str×Int):=[("job",0),("part",0),("spent",0)]
def d8 (cs:Cs):Ds->Sr :=
 (aK (bj [] 2 (g2 dIx (af 0) (gC (.int 0))))
  (aK (bj [] 3 (g2 dIx (af 0) (gC (.int 2))))
  (aK (bj [] 4 (g2 iy (gC (.int 0)) (af 3)))
  (aK (iz [] (cu (af 1)) (bU 5) (aK (bj [] 6 (gF iY (ae (af 4) (ae (g2 iy (af 5) (af 3)) ao))))
  (aK (sIf (gT (g2 dGt (af 6) (af 5))) (bS (gC (.bool false))) bt)
  (bj [] 4 (g2 bA (af 6) (af 2))))))
  (bS (gC (.bool true)))))))
def jI (cs:Cs) (aE bL:Gf):Ds->Sr :=
 (aK (sIf (cOr (g0 (gT (g1 (k9 "list") (af 1)))) (gT (g2 dGt (gF bY (ae (af 1) ao)) (gC (.int 60))))) (bS (gC (.bool false))) bt)
  (bS (An (gF oT (ae (gL (bF 2 (cu (af 1)) bu (aF aE (ae (af 2) (ae (gC (.int 0)) (ae (gC (.int 9999)) ao)))) aP)) ao)) (aF bL (ae (af 0) (ae (af 1) ao))))))
def dm (cs:Cs) (cz bq:Gf):Ds->Sr :=
 (aK (sS (aF bq (ae (af 0) ao)))
  (aK (sIf (cOr (g0 (gT (g1 (k9 "list") (af 1)))) (gT (g2 dNe (gF bY (ae (af 1) ao)) (gF bY (ae (af 0) ao))))) (jP cs.NoComings (ae (gC (.str "comings are a list of one list for each errand")) ao)) bt)
  (aK (sIf (g0 (gT (gF oT (ae (gL (bF 2 (DL (ae (af 0) (ae (af 1) ao))) bu (aF cz (ae (af 2) (ae (af 3) ao))) jX)) ao)))) (jP cs.NoComings (ae (gC (.str "an errand can not come so")) ao)) bt)
  (bS (gL (bF 2 (cu (af 1)) bu (gF vJ (ae (af 2) ao)) aP))))))
def dN (cs:Cs):Ds->Sr :=
 (bS (g2 dEq (g1 (b9 cs.Jobs "job") (af 0)) (gF bY (ae (g1 (b9 cs.Jobs "row") (af 0)) ao))))
def eE (cs:Cs):Ds->Sr :=
 (bS (gIf (gT (g2 dEq (g1 (b9 cs.Jobs "spent") (af 0)) (gC (.int 0)))) (g2 dIx (g2 dIx (g1 (b9 cs.Jobs "parts") (af 0)) (g1 (b9 cs.Jobs "part") (af 0))) (gC (.int 1))) (gC .none)))
def gj (cs:Cs):Ds->Sr :=
 (bS (gIf (gT (g2 dGt (g1 (b9 cs.Jobs "spent") (af 0)) (gC (.int 0)))) (g2 dIx (g2 dIx (g1 (b9 cs.Jobs "parts") (af 0)) (g1 (b9 cs.Jobs "part") (af 0))) (gC (.int 1))) (gC .none)))
def kD (cs:Cs) (aJ:Gf):Ds->Sr :=
 (aK (sIf (gT (g1 kn (af 1))) (bS (gC .none)) bt)
  (aK (iz [] (cu (af 0)) (bU 2) (sIf (gT (g2 dEq (bO cs.Jobs "held" aJ (af 2) ao) (af 1))) (bS (af 2)) bt))
  (bS (gC .none))))
def gW (cs:Cs) (aB bf:Gf):Ds->Sr :=
 (aK (wK 1)
  (aK (iz [1] (cu (af 0)) (bU 2) (aK (bj [1] 3 (aF bf (ae (af 0) (ae (bO cs.Jobs "wanted" aB (af 2) ao) ao))))
  (sIf (gT (g1 l5 (af 3))) (qF 1 (g1 (b9 cs.Jobs "number") (af 3)) (gF kZ (ae (g1 (b9 cs.Jobs "rank") (af 2)) (ae (lX (af 1) (g1 (b9 cs.Jobs "number") (af 3)) (g1 (b9 cs.Jobs "rank") (af 3))) ao)))) bt)))
  (bS (af 1))))
def cy (cs:Cs) (aJ:Gf):Ds->Sr :=
 (aK (bj [] 2 (bO cs.Jobs "held" aJ (af 0) ao))
  (aK (sIf (gT (g1 kn (af 2))) (bS (jA (ae (g1 (b9 cs.Jobs "rank") (af 0)) (ae (gC (.int 1)) ao)))) bt)
  (bS (jA (ae (gF kZ (ae (g1 (b9 cs.Jobs "rank") (af 0)) (ae (g2 dIx (af 1) (af 2)) ao))) (ae (gC (.int 0)) ao))))))
def dP (cs:Cs):Ds->Sr :=
 (bS (An (g2 dLt (g1 (b9 cs.Jobs "job") (af 0)) (gF bY (ae (g1 (b9 cs.Jobs "row") (af 0)) ao))) (g2 dLe (g2 dIx (g1 (b9 cs.Jobs "row") (af 0)) (g1 (b9 cs.Jobs "job") (af 0))) (af 1))))
def wB (cs:Cs) (aY cQ bh bq:Gf):Ds->Sr :=
 (aK (sS (aF bq (ae (af 0) ao)))
  (aK (sS (aF bh (ae (af 0) (ae (af 1) ao))))
  (bS (aF cQ (ae (af 0) (ae (af 1) (ae (aF aY (ae (af 0) (ae (af 2) ao))) (ae (af 3) ao))))))))
def cR (cs:Cs) (ak:Gf):Ds->Sr :=
 (aK (bj [6] 4 (aF ak (ae (af 0) (ae (af 1) (ae (g2 Be (gC (.int 10)) (gC (.int 9))) ao)))))
  (aK (bj [6] 5 (g2 iy (g2 eK (af 4) (g2 bA (g2 dIx (af 2) (gC (.int 0))) (gC (.int 2)))) (g2 dIx (af 2) (gC (.int 2)))))
  (aK (ia [6] 6 ao)
  (aK (bj [6] 7 (gC (.int 0)))
  (aK (fun δ=>cO (Dq (gT (g2 dLt (g2 bA (af 5) (g2 dIx (af 2) (gC (.int 2)))) (af 3))) (gT (g2 dLt (gF bY (ae (af 6) ao)) (gC (.int 60))))) (aK (bj [6] 8 (g2 eK (g2 dO (g2 bA (g2 bA (af 4) (g2 dO (g2 dO (gC (.int 104729)) (af 7)) (af 7))) (g2 dO (gC (.int 7919)) (af 7))) (gC (.int 48271))) (gC (.int 2147483647))))
  (aK (bj [6] 9 (gF iY (ae (gC (.int 0)) (ae (g2 bA (af 5) (g2 eK (g2 gQ (af 8) (gC (.int 7))) (g2 bA (g2 dIx (af 2) (gC (.int 2))) (gC (.int 1))))) ao))))
  (aK (sIf (gT (g2 dNe (af 6) (kr ao))) (mE 9 (gF iY (ae (af 9) (ae (g2 bA (g2 dIx (af 6) (g1 lA (gC (.int 1)))) (gC (.int 1))) ao)))) bt)
  (aK (lC [6] 6 (af 9))
  (aK (bj [6] 5 (g2 bA (af 5) (g2 dIx (af 2) (gC (.int 0)))))
  (aK (sIf (gT (g2 dEq (g2 eK (g2 gQ (af 8) (gC (.int 61))) (gC (.int 3))) (gC (.int 0)))) (bj [6] 5 (g2 bA (af 5) (g2 eK (g2 gQ (af 8) (gC (.int 997))) (g2 dIx (af 2) (gC (.int 0)))))) bt)
  (bj [6] 7 (g2 bA (af 7) (gC (.int 1)))))))))) 1000000 δ)
  (bS (af 6)))))))
def dS (cs:Cs) (aX:Gf):Ds->Sr :=
 (bS (gL (bF 4 (fG (ae (gF bY (ae (af 2) ao)) ao)) bu (aF aX (ae (af 0) (ae (g2 bA (af 1) (af 4)) (ae (g2 dIx (af 2) (af 4)) (ae (af 3) ao))))) aP)))
def lu (cs:Cs) (br bg de aO:Gf) (gm_Jobs_go_on:List (Str×PyData)->Option (List (Str×PyData))) (as:List Addr):Ds->Sr :=
 (aK (ia [6] 6 ao)
  (aK (fun δ=>cO (g0 (gT (gF oT (ae (gL (bF 9 (cu (af 5)) bu (bO cs.Jobs "are_done" bg (af 9) ao) aP)) ao)))) (aK (tF [6] 7 9 (cu (af 5)) (gT (bO cs.Jobs "is_there" aO (af 9) (ae (gF bY (ae (af 6) ao)) ao))) (af 9) aP)
  (sIf (gT (g2 dEq (gF bY (ae (af 7) ao)) (gC (.int 0)))) (lC [6] 6 (gC .none)) (aK (bj [6] 8 (aF de (ae (af 7) (ae (af 4) (ae (af 3) ao)))))
  (aK (lC [6] 6 (jA (ae (g1 (b9 cs.Jobs "number") (af 8)) (ae (g1 (b9 cs.Jobs "job") (af 8)) ao))))
  (nV as cs.Jobs "go_on" 8 gm_Jobs_go_on))))) 1000000 δ)
  (bS (af 6))))
def fo (cs:Cs) (as:List Addr):Ds->Sr :=
 (aK (eP as cs.Jobs 0 "spent" (gC (.int 1)))
  (aK (sIf (gT (g2 dEq (g1 (b9 cs.Jobs "spent") (af 0)) (g2 dIx (g2 dIx (g1 (b9 cs.Jobs "parts") (af 0)) (g1 (b9 cs.Jobs "part") (af 0))) (gC (.int 0))))) (aK (mI as cs.Jobs 0 "spent" (gC (.int 0)))
  (eP as cs.Jobs 0 "part" (gC (.int 1)))) bt)
  (sIf (gT (g2 dEq (g1 (b9 cs.Jobs "part") (af 0)) (gF bY (ae (g1 (b9 cs.Jobs "parts") (af 0)) ao)))) (aK (mI as cs.Jobs 0 "part" (gC (.int 0)))
  (eP as cs.Jobs 0 "job" (gC (.int 1)))) bt)))
def jY (cs:Cs) (bV aB bf bz:Gf):Ds->Sr :=
 (aK (sIf (gT (g2 dEq (af 2) (gC (.str "high")))) (bS (jq [1] (af 0) (aF bz (ae (af 0) (ae (af 1) ao))))) bt)
  (aK (bj [] 3 (gL (bF 5 (cu (af 0)) (gT (g1 kn (aF bf (ae (af 0) (ae (bO cs.Jobs "wanted" aB (af 5) ao) ao))))) (af 5) aP)))
  (aK (bj [] 4 (gIf (gT (g2 dEq (af 2) (gC (.str "asked")))) (aF bV (ae (af 0) ao)) (gC (cY []))))
  (bS (jq [4] (af 3) (lX (af 1) (g1 (b9 cs.Jobs "number") (af 0)) (g1 (b9 cs.Jobs "rank") (af 0))))))))
end RS
set_option maxHeartbeats 1000000
namespace RS
open PySem L2
def cf:Gf
 | [d,.int t]=>if w6 d then .ok (.bool ((deE d).has t)) else .no
 | _=>.no
theorem jV {e:Er} {t:Int} (h:e.Sh):cf [e.d,.int t]=.ok (.bool (e.has t)):=by unfold cf;simp [pC h,tX]
theorem wm (t:Int):∀ ps:List (Int×Option Int),inD (.int t) ((ps.map bI).map fun d=>dR (dG d).2)=ps.any fun p=>p.2==some t
 | []=>rfl
 | p::r=>by
  have h1:eqV (toV (dR p.2)) (.int t)=(p.2==some t):=by
   rcases hp:p.2 with _ | z
   ·rfl
   ·show (z==t)=(some z==some t)
    simp
  have:=wm t r;unfold inD inV at this ⊢;rw [List.map_cons,List.map_cons,List.map_cons,List.any_cons,List.any_cons,this,j7];show (eqV (toV (dR p.2)) (.int t) || _)=_;rw [h1]
theorem AH (ps:List (Int×Option Int)):((ps.map bI).map fun d=>dR (dG d).2).all gH=true:=by rw [List.all_eq_true];intro d hd;obtain ⟨n,_,rfl⟩:=List.mem_map.mp hd;cases (dG n).2 <;> rfl
theorem Hm {f:PyData->Int->Rs PyData} {ds:List PyData} (h:(match ds with | [x0,.int x1]=>f x0 x1 | _=>.no)≠.no):∃ x0 x1,ds=[x0,.int x1]/\f x0 x1≠.no:=by
 rcases ds with _ | ⟨x0,_ | ⟨x1,_ | ⟨y,ys⟩⟩⟩
 ·exact absurd rfl h
 ·exact absurd rfl h
 ·skip
  cases x1 with
  | int x1 =>exact ⟨_,_,rfl,h⟩
  | _=>exact absurd rfl h
 ·first | exact absurd rfl h | (cases x1 <;> exact absurd rfl h)
theorem yk (cs:Cs):∀ ds,ds.length=2->cf ds≠.no->bB (ir cs (ds.map some++List.replicate 0 none))=cf ds:=by
 intro ds hl hne;obtain ⟨d,t,ez,hz⟩:=Hm hne;clear hne;subst ez;have hne:=hz;clear hz
 ·skip
  split at hne
  ·rename_i hd;obtain ⟨e1,sh⟩:=wu hd;rw [<-e1];generalize deE d=e at sh;rw [jV sh];have hc:bF 2 (cu (g2 dIx (af 0) (gC (.int 3)))) bu (g2 dIx (af 2) (gC (.int 1))) aP [some e.d,some (.int t)]=.ok ((e.parts.map bI).map fun d=>dR (dG d).2) :=
    c9 rfl (by simp [Ir]) (by have:=sh.pn;simp;omega) fun d hd'=>by obtain ⟨p,hp,rfl⟩:=List.mem_map.mp hd';simp [GJ,j7]
   have hi:AQ false (.int t) (.list ((e.parts.map bI).map fun d=>dR (dG d).2))=some (.bool (e.has t)):=by show (if (gH (.int t)&&_)=true then some (PyData.bool (if false=true then _ else inD _ _)) else none)=_;rw [AH,wm];rfl
   show bB (ir cs [some e.d,some (.int t)])=_;simp only [ir,cU,ck,ax,aC,pO,hc,Rs.aj,hi,Rs.ar,aL,bZ]
  ·exact absurd rfl hne
def cF:Gf
 | [d,r,.int t]=>if sX d&&eQ (mf d).length r then .ok (dR (fD (mf d) (iw r) t)) else .no
 | _=>.no
theorem mK {es:List Er} {rs:List Int} {t:Int} (h1:es.length<=100) (h:∀ e∈es,e.Sh) (hr:ku es.length rs):cF [aU es,bo rs,.int t]=.ok (dR (fD es rs t)):=by unfold cF;simp [vY h1 h,yg,lL hr,rg]
theorem oH (es:List Er) (hsh:∀ e∈es,e.Sh) (R:PyData) (t:Int):∀ (rs:List Int) (k:Nat) (x3 x4:Option PyData),(∀ m∈rs,0<=m/\m<es.length) ->
   (∃ i,hts es rs k t=some i/\forL (i6 [3,4]) (sIf (gT (aF cf (ae (g2 dIx (af 0) (af 4)) (ae (af 2) ao)))) (bS (af 3)) bt) ((rs.map PyData.int).mapIdx fun i d=>.tuple [.int ((k+i:Nat):Int),d]) [some (aU es),some R,some (.int t),x3,x4]=.rt (.int i))
  \/(hts es rs k t=none/\∃ δ,forL (i6 [3,4]) (sIf (gT (aF cf (ae (g2 dIx (af 0) (af 4)) (ae (af 2) ao)))) (bS (af 3)) bt) ((rs.map PyData.int).mapIdx fun i d=>.tuple [.int ((k+i:Nat):Int),d]) [some (aU es),some R,some (.int t),x3,x4]=.nx δ)
 | [],k,x3,x4,_=>.inr ⟨rfl,_,rfl⟩
 | m::r,k,x3,x4,hm=>by
   have h0:=hm m List.mem_cons_self;have a2:atI (es.map Er.d) m=some (iM es m).d:=u3 h0.1 h0.2;have ht:=jV (t:=t) (hsh _ (km h0.1 h0.2));rw [List.map_cons,List.mapIdx_cons];unfold forL;have e1:i6 [3,4] (PyData.tuple [.int ((k+0:Nat):Int),.int m]) [some (aU es),some R,some (.int t),x3,x4]=some [some (aU es),some R,some (.int t),some (.int (k:Int)),some (.int m)]:=rfl;rw [e1];simp only [d7,eU,cn,aM,aQ,ck,ax,aC,Rs.aj,aU,FD,a2,Rs.ar,ht,bN,aL,cU,fB];unfold hts;cases hh:(iM es m).has t with
   | true=>exact .inl ⟨k,rfl,rfl⟩
   | false =>
    simp only [Bool.false_eq_true,if_false];have ih:=oH es hsh R t r (k+1) (some (.int (k:Int))) (some (.int m)) (fun x hx=>hm x (List.mem_cons_of_mem _ hx));rw [show ((k+1:Nat):Int)=(k:Int)+1 by omega] at ih;have ef:(fun (i:Nat) (d:PyData)=>PyData.tuple [.int ((k+(i+1):Nat):Int),d])=fun i d=>.tuple [.int ((k+1+i:Nat):Int),d]:=by funext i d;rw [show k+(i+1)=k+1+i by omega]
    rw [ef];exact ih
theorem DF {f:PyData->PyData->Int->Rs PyData} {ds:List PyData} (h:(match ds with | [x0,x1,.int x2]=>f x0 x1 x2 | _=>.no)≠.no):∃ x0 x1 x2,ds=[x0,x1,.int x2]/\f x0 x1 x2≠.no:=by
 rcases ds with _ | ⟨x0,_ | ⟨x1,_ | ⟨x2,_ | ⟨y,ys⟩⟩⟩⟩
 ·exact absurd rfl h
 ·exact absurd rfl h
 ·exact absurd rfl h
 ·skip
  cases x2 with
  | int x2 =>exact ⟨_,_,_,rfl,h⟩
  | _=>exact absurd rfl h
 ·first | exact absurd rfl h | (cases x2 <;> exact absurd rfl h)
theorem CW (cs:Cs):∀ ds,ds.length=3->cF ds≠.no->bB (jM cs cf (ds.map some++List.replicate 2 none))=cF ds:=by
 intro ds hl hne;obtain ⟨d,r,t,ez,hz⟩:=DF hne;clear hne;subst ez;have hne:=hz;clear hz
 ·skip
  split at hne
  ·rename_i hc;simp only [Bool.and_eq_true] at hc;obtain ⟨c1,c2⟩:=hc;obtain ⟨e1,hlen,hsh⟩:=A1 c1;obtain ⟨e2,hr⟩:=xa c2;rw [<-e1,<-e2];generalize mf d=es at *;generalize iw r=rs at *;rw [mK hlen hsh hr];have loop:=oH es hsh (bo rs) t rs 0 none none hr.rng;show bB (jM cs cf [some (aU es),some (bo rs),some (.int t),none,none])=_;have src:lU (ae (af 1) ao) [some (aU es),some (bo rs),some (.int t),none,none]=.ok ((rs.map PyData.int).mapIdx fun i d=>.tuple [.int ((0+i:Nat):Int),d]):=by simp only [EM,aM,aQ,ax,aC,Rs.aj,bo,Ep,ja,Nat.zero_add]
   simp only [jM];rw [ba,p7,wz,src,aL];unfold fD;rcases loop with ⟨i,q1,q2⟩ | ⟨q1,δ,q2⟩
   ·rw [q2];have q1:hts es rs 0 t=some i:=q1;rw [q1];rfl
   ·rw [q2];have q1:hts es rs 0 t=none:=q1;rw [q1];rfl
  ·exact absurd rfl hne
def cg (es:List Er) (rs:List Int):PyData:=.list ((List.range 4).map fun (t:Nat)=>dR (fD es rs t))
def br:Gf
 | [d,r]=>if sX d&&eQ (mf d).length r then .ok (cg (mf d) (iw r)) else .no
 | _=>.no
theorem i3 {es:List Er} {rs:List Int} (h1:es.length<=100) (h:∀ e∈es,e.Sh) (hr:ku es.length rs):br [aU es,bo rs]=.ok (cg es rs):=by unfold br;simp [vY h1 h,yg,lL hr,rg]
theorem Gb {f:PyData->PyData->Rs PyData} {ds:List PyData} (h:(match ds with | [x0,x1]=>f x0 x1 | _=>.no)≠.no):∃ x0 x1,ds=[x0,x1]/\f x0 x1≠.no:=by
 rcases ds with _ | ⟨x0,_ | ⟨x1,_ | ⟨y,ys⟩⟩⟩
 ·exact absurd rfl h
 ·exact absurd rfl h
 ·skip
  exact ⟨_,_,rfl,h⟩
 ·exact absurd rfl h
theorem uZ (cs:Cs):∀ ds,ds.length=2->br ds≠.no->bB (fA cs cF (ds.map some++List.replicate 0 none))=br ds:=by
 intro ds hl hne;obtain ⟨d,r,ez,hz⟩:=Gb hne;clear hne;subst ez;have hne:=hz;clear hz
 ·skip
  split at hne
  ·rename_i hc;simp only [Bool.and_eq_true] at hc;obtain ⟨c1,c2⟩:=hc;obtain ⟨e1,hlen,hsh⟩:=A1 c1;obtain ⟨e2,hr⟩:=xa c2;rw [<-e1,<-e2];generalize mf d=es at *;generalize iw r=rs at *;rw [i3 hlen hsh hr];have hh:∀ t:Int,cF [aU es,bo rs,.int t]=.ok (dR (fD es rs t)):=fun t=>mK hlen hsh hr
   have hcm:bF 2 (fG (ae (gC (.int 4)) ao)) bu (aF cF (ae (af 0) (ae (af 1) (ae (af 2) ao)))) aP [some (aU es),some (bo rs)]=.ok ((bX 0 (4:Int).toNat).map fun x=>dR (fD es rs (deI x))) :=
    c9 rfl (by simp only [kG,aM,aQ,dB,Rs.aj];exact kM (by decide) (by decide)) (by rw [dq];decide) fun x hx=>by obtain ⟨i,hi⟩:=List.getElem?_of_mem hx;obtain ⟨_,rfl⟩:=fS hi;simp only [List.cons_append,List.nil_append,cn,aM,aQ,ax,aC,Rs.aj,hh];rfl
   have hd:cg es rs=.list ((bX 0 (4:Int).toNat).map fun x=>dR (fD es rs (deI x))):=by
    unfold cg bX;rw [List.map_map];congr 1
    try exact List.map_congr_left fun k _=>by simp [deI]
   rw [hd];show bB (fA cs cF [some (aU es),some (bo rs)])=_;simp only [fA,cU,pO,hcm,Rs.aj,aL,bZ]
  ·exact absurd rfl hne
def dZ (ns:List Int) (a:Int) (many:Nat):Nat->List Int×List Int
 | 0=>((List.range many).map fun (i:Nat)=>(i:Int),[])
 | i+1=>((dZ ns a many i).1.eraseIdx (mixed ns (a+(i:Int)) ((dZ ns a many i).1.length:Int)).toNat,(dZ ns a many i).2++[(dZ ns a many i).1.getD (mixed ns (a+(i:Int)) ((dZ ns a many i).1.length:Int)).toNat 0])
def pk (ns:List Int) (a:Int) (many:Nat):List Int:=(dZ ns a many many).2
theorem pR {α:Type}:∀ (l:List α) (j:Nat) (h:j<l.length),(l[j]::l.eraseIdx j).Perm l
 | [],j,h=>by simp at h
 | x::r,0,h=>by simp
 | x::r,j+1,h=>by
  simp only [List.getElem_cons_succ,List.eraseIdx_cons_succ];have h':j<r.length:=by simpa using h
  exact (List.Perm.swap _ _ _).trans ((pR r j h').cons x)
theorem sO {α β:Type} (f:α->β):∀ (l:List α) (j:Nat),(l.map f).eraseIdx j=(l.eraseIdx j).map f
 | [],j=>by simp
 | x::r,0=>by simp
 | x::r,j+1=>by simp [sO f r j]
theorem pV (ns:List Int) (a:Int) (many:Nat):∀ i,i<=many->(dZ ns a many i).1.length=many-i/\(dZ ns a many i).2.length=i/\((dZ ns a many i).1++(dZ ns a many i).2).Perm ((List.range many).map fun (i:Nat)=>(i:Int))
 | 0,_=>⟨by simp [dZ],rfl,by simp [dZ]⟩
 | i+1,h=>by
  obtain ⟨h1,h2,h3⟩:=pV ns a many i (by omega);simp only [dZ];generalize (dZ ns a many i).1=L at *;generalize (dZ ns a many i).2=M at *;have hL:0<(L.length:Int):=by omega
  have m0:=cT ns (a+(i:Int)) hL;have m1:=df ns (a+(i:Int)) hL;generalize mixed ns (a+(i:Int)) (L.length:Int)=z at *;have hz:z.toNat<L.length:=by omega
  refine ⟨by rw [List.length_eraseIdx_of_lt hz];omega,by simp [h2],?_⟩;refine List.Perm.trans ?_ h3;rw [List.getD_eq_getElem?_getD,List.getElem?_eq_getElem hz,Option.getD_some];have p1:(L[z.toNat]::L.eraseIdx z.toNat).Perm L:=pR L z.toNat hz;have p2:(L.eraseIdx z.toNat++(M++[L[z.toNat]])).Perm ((L[z.toNat]::L.eraseIdx z.toNat)++M):=by rw [<-List.append_assoc];exact (List.perm_append_singleton _ _)
  exact p2.trans (p1.append_right M)
theorem xn (ns:List Int) (a:Int) (many:Nat):ku many (pk ns a many):=by
 obtain ⟨h1,h2,h3⟩:=pV ns a many many (Nat.le_refl _);unfold pk;have e:(dZ ns a many many).1=[]:=List.length_eq_zero_iff.mp (by omega);rw [e,List.nil_append] at h3;refine ⟨h2,fun r hr=>?_,h3.nodup_iff.mpr ?_⟩
 ·obtain ⟨k,hk,rfl⟩:=List.mem_map.mp (h3.mem_iff.mp hr);have:=List.mem_range.mp hk;omega
 ·exact (List.nodup_range).map (f:=fun (i:Nat)=>(i:Int)) fun x y h=>by intro q;have q:(x:Int)=(y:Int):=q;exact h (by omega)
def bJ:Gf
 | [s,.int a,.int many]=>(match fz s with
  | some ns=>if 0<=a/\0<=many/\many<=100 then .ok (bo (pk ns a many.toNat)) else .no
  | none=>.no)
 | _=>.no
theorem jG {ns:List Int} {a many:Int} (h1:0<=a) (h2:0<=many) (h3:many<=100):bJ [au ns,.int a,.int many]=.ok (bo (pk ns a many.toNat)):=by unfold bJ;simp [fL,h1,h2,h3]
theorem Ab (ns:List Int) (a:Int) (n i:Nat) (L M:List Int) (ha:0<=a) (hL:0<(L.length:Int)) (hL2:L.length<=100) (hM:M.length<=100) :
   ji 4 3 (aF ak (ae (af 0) (ae (g2 bA (af 1) (af 5)) (ae (gF bY (ae (af 3) ao)) ao)))) [some (au ns),some (.int a),some (.int (n:Int)),some (.list (L.map .int)),some (.list (M.map .int)),some (.int (0+(i:Int)))]
  =.nx [some (au ns),some (.int a),some (.int (n:Int)),some (.list ((L.eraseIdx (mixed ns (a+(i:Int)) (L.length:Int)).toNat).map .int)),some (.list ((M++[L.getD (mixed ns (a+(i:Int)) (L.length:Int)).toNat 0]).map .int)),some (.int (0+(i:Int)))]:=by
 have hm':=cJ (ns:=ns) (k:=a+(0+(i:Int))) (many:=(L.length:Int)) (by omega) hL;have m0:=cT ns (a+(i:Int)) hL;have m1:=df ns (a+(i:Int)) hL;rw [show a+(0+(i:Int))=a+(i:Int) by omega] at hm';generalize mixed ns (a+(i:Int)) (L.length:Int)=z at *;have hz:z.toNat<L.length:=by omega
 have hg:aF ak (ae (af 0) (ae (g2 bA (af 1) (af 5)) (ae (gF bY (ae (af 3) ao)) ao))) [some (au ns),some (.int a),some (.int (n:Int)),some (.list (L.map .int)),some (.list (M.map .int)),some (.int (0+(i:Int)))]=.ok (.int z):=by simp only [cn,aM,aQ,ck,fU,ax,aC,Rs.aj,fi,Rs.ar,iK,List.length_map];rw [show a+(0+(i:Int))=a+(i:Int) by omega];exact hm'
 have hix:ixN (L.map PyData.int).length z=some z.toNat:=by unfold ixN;rw [if_pos m0,if_pos (by rw [List.length_map];omega)]
 have hat:(L.map PyData.int)[z.toNat]?=some (.int (L.getD z.toNat 0)):=by rw [List.getElem?_map,List.getElem?_eq_getElem hz,List.getD_eq_getElem?_getD,List.getElem?_eq_getElem hz];rfl
 unfold ji;simp only [List.getElem?_cons_succ,List.getElem?_cons_zero,hg,aL];rw [if_pos (by refine ⟨by omega,by omega,?_⟩;rw [List.length_map];omega)];simp only [hix,hat,List.set_cons_succ,List.set_cons_zero,List.map_append,List.map_cons,List.map_nil];rw [sO]
theorem Aq (ns:List Int) (a:Int) (n i:Nat) (ha:0<=a) (hi:i<n) (hn:n<=100) :
   ji 4 3 (aF ak (ae (af 0) (ae (g2 bA (af 1) (af 5)) (ae (gF bY (ae (af 3) ao)) ao)))) [some (au ns),some (.int a),some (.int (n:Int)),some (.list ((dZ ns a n i).1.map .int)),some (.list ((dZ ns a n i).2.map .int)),some (.int (0+(i:Int)))]
  =.nx [some (au ns),some (.int a),some (.int (n:Int)),some (.list ((dZ ns a n (i+1)).1.map .int)),some (.list ((dZ ns a n (i+1)).2.map .int)),some (.int (0+(i:Int)))]:=by
 obtain ⟨h1,h2,h3⟩:=pV ns a n i (by omega);simp only [dZ];exact Ab ns a n i _ _ ha (by omega) (by omega) (by omega)
theorem rk1 (ns:List Int) (a:Int) (n:Nat) (hm2:(n:Int)<=100):ia [3,4] 3 (gLR (ae (af 2) ao)) [some (au ns),some (.int a),some (.int (n:Int)),none,none,none]=.nx [some (au ns),some (.int a),some (.int (n:Int)),some (.list ((dZ ns a n 0).1.map .int)),none,none]:=by
 have hg:gLR (ae (af 2) ao) (mask [3,4] [some (au ns),some (.int a),some (.int (n:Int)),none,none,none])=.ok (bX 0 n):=by simp only [Hz,aM,aQ,bW (show 2∉[3,4] by decide),ax,aC,Rs.aj];unfold uK;simp only;rw [if_pos (by omega),Int.toNat_natCast]
 have he:(dZ ns a n 0).1.map PyData.int=bX 0 n:=by
  simp only [dZ,bX,List.map_map];refine List.map_congr_left fun k _=>?_
  simp
 rw [he];unfold ia;rw [hg,if_pos (by simp)];simp only [aL,List.set_cons_succ,List.set_cons_zero]
theorem rk2 (ns:List Int) (a:Int) (n:Nat):ia [3,4] 4 ao [some (au ns),some (.int a),some (.int (n:Int)),some (.list ((dZ ns a n 0).1.map .int)),none,none]=.nx [some (au ns),some (.int a),some (.int (n:Int)),some (.list ((dZ ns a n 0).1.map .int)),some (.list ((dZ ns a n 0).2.map .int)),none]:=by unfold ia;rw [if_pos (by simp)];simp only [aQ,aL,List.set_cons_succ,List.set_cons_zero];rfl
theorem rk3 (ns:List Int) (a:Int) (n:Nat) (hm2:(n:Int)<=100):fG (ae (af 2) ao) (mask [3,4] [some (au ns),some (.int a),some (.int (n:Int)),some (.list ((dZ ns a n 0).1.map .int)),some (.list ((dZ ns a n 0).2.map .int)),none])=.ok (bX 0 n):=by have hv:ae (af 2) ao (mask [3,4] [some (au ns),some (.int a),some (.int (n:Int)),some (.list ((dZ ns a n 0).1.map .int)),some (.list ((dZ ns a n 0).2.map .int)),none])=.ok [.int (n:Int)]:=rfl;have hr:=kM (j:=(n:Int)) (Int.natCast_nonneg n) (by omega);rw [Int.toNat_natCast] at hr;rw [kG,hv,Rs.aj,hr]
theorem vU (cs:Cs):∀ ds,ds.length=3->bJ ds≠.no->bB (f6 cs ak (ds.map some++List.replicate 3 none))=bJ ds:=by
 intro ds hl hne;obtain ⟨s,a,many,ez,hz⟩:=pE hne;clear hne;subst ez;have hne:=hz;clear hz
 ·skip
  split at hne
  ·rename_i ns hs;have es:=iB hs;subst es;split at hne
   ·rename_i hc;obtain ⟨ha,hm,hm2⟩:=hc;rw [jG ha hm hm2];obtain ⟨n,rfl⟩:∃ n:Nat,many=(n:Int):=⟨many.toNat,by omega⟩
    rw [Int.toNat_natCast];show bB (f6 cs ak [some (au ns),some (.int a),some (.int (n:Int)),none,none,none])=_;have s1:=rk1 ns a n hm2;have s2:=rk2 ns a n;have src:=rk3 ns a n hm2;obtain ⟨δ',e,x5,hδ⟩:=g9 (β:=Unit) (tgt:=bU 5) (body:=ji 4 3 (aF ak (ae (af 0) (ae (g2 bA (af 1) (af 5)) (ae (gF bY (ae (af 3) ao)) ao)))))
     (fun i δ=>∃ x5,δ=[some (au ns),some (.int a),some (.int (n:Int)),some (.list ((dZ ns a n i).1.map .int)),some (.list ((dZ ns a n i).2.map .int)),x5])
     (bX 0 n) 0 (fun i d δ hi pz4=>by obtain ⟨x5,hx⟩:=pz4;subst hx;rw [Nat.zero_add] at *;obtain ⟨hil,rfl⟩:=fS hi;refine ⟨[some (au ns),some (.int a),some (.int (n:Int)),some (.list ((dZ ns a n i).1.map .int)),some (.list ((dZ ns a n i).2.map .int)),some (.int (0+(i:Int)))],_,rfl,?_,some (.int (0+(i:Int))),rfl⟩;exact Aq ns a n i ha hil (by omega)) [some (au ns),some (.int a),some (.int (n:Int)),some (.list ((dZ ns a n 0).1.map .int)),some (.list ((dZ ns a n 0).2.map .int)),none] ⟨none,rfl⟩
    subst hδ;rw [Nat.zero_add,dq] at e;simp only [f6];rw [ba,s1];simp only;rw [ba,s2];simp only;rw [ba,p7,src,aL,e];simp only;simp only [cU,fU,aM,aQ,ax,aC,Rs.aj,Bp,Rs.ar,aL,bZ];rfl
   ·exact absurd rfl hne
  ·exact absurd rfl hne
def hvM (every late:Int):Int->List Int->Bool
 | _,[]=>true
 | m,c::r=>if c<(if c-late>m then c-late else m) then false else hvM every late ((if c-late>m then c-late else m)+every) r
def hvE (e:Er) (ns:List Int):Bool:=hvM e.every e.late (0-e.late) ns
def bL:Gf
 | [d,.list xs]=>if w6 d then (match f9 xs with | some ns=>.ok (.bool (hvE (deE d) ns)) | none=>.no) else .no
 | _=>.no
theorem iq {e:Er} {ns:List Int} (h:e.Sh):bL [e.d,.list (ns.map PyData.int)]=.ok (.bool (hvE e ns)):=by unfold bL;simp only [pC h,if_true,fM,tX]
def hvB:Ds->Sr:=(aK (bj [] 6 (gF iY (ae (af 4) (ae (g2 iy (af 5) (af 3)) ao))))
 (aK (sIf (gT (g2 dGt (af 6) (af 5))) (bS (gC (.bool false))) bt)
 (bj [] 4 (g2 bA (af 6) (af 2)))))
theorem zr (E L:PyData) (every late:Int):∀ (ns:List Int) (m:Int) (x5 x6:Option PyData),
   (hvM every late m ns=true/\∃ δ,forL (bU 5) hvB (ns.map PyData.int) [some E,some L,some (.int every),some (.int late),some (.int m),x5,x6]=.nx δ)
  \/(hvM every late m ns=false/\forL (bU 5) hvB (ns.map PyData.int) [some E,some L,some (.int every),some (.int late),some (.int m),x5,x6]=.rt (.bool false))
 | [],m,x5,x6=>.inl ⟨rfl,_,rfl⟩
 | c::r,m,x5,x6=>by
   have h1:bU 5 (.int c) [some E,some L,some (.int every),some (.int late),some (.int m),x5,x6]=some [some E,some L,some (.int every),some (.int late),some (.int m),some (.int c),x6]:=rfl;rw [List.map_cons];unfold forL;rw [h1];unfold hvM;by_cases hc:c<(if c-late>m then c-late else m)
   ·have hb:hvB [some E,some L,some (.int every),some (.int late),some (.int m),some (.int c),x6]=.rt (.bool false):=by simp [hvB,hc]
    refine .inr ⟨if_pos hc,?_⟩;simp only [hb]
   ·have hb:hvB [some E,some L,some (.int every),some (.int late),some (.int m),some (.int c),x6]=.nx [some E,some L,some (.int every),some (.int late),some (.int ((if c-late>m then c-late else m)+every)),some (.int c),some (.int (if c-late>m then c-late else m))]:=by simp [hvB,hc]
    rw [if_neg hc];simp only [hb];exact zr E L every late r _ _ _
theorem C5 {f:PyData->List PyData->Rs PyData} {ds:List PyData} (h:(match ds with | [x0,.list x1]=>f x0 x1 | _=>.no)≠.no):∃ x0 x1,ds=[x0,.list x1]/\f x0 x1≠.no:=by
 rcases ds with _ | ⟨x0,_ | ⟨x1,_ | ⟨y,ys⟩⟩⟩
 ·exact absurd rfl h
 ·exact absurd rfl h
 ·skip
  cases x1 with
  | list x1 =>exact ⟨_,_,rfl,h⟩
  | _=>exact absurd rfl h
 ·first | exact absurd rfl h | (cases x1 <;> exact absurd rfl h)
theorem qV (cs:Cs):∀ ds,ds.length=2->bL ds≠.no->bB (d8 cs (ds.map some++List.replicate 5 none))=bL ds:=by
 intro ds hl hne;obtain ⟨d,xs,ez,hz⟩:=C5 hne;clear hne;subst ez;have hne:=hz;clear hz
 ·skip
  split at hne
  ·rename_i hd;split at hne
   ·rename_i ns hx;have hx':=eS hx;subst hx';obtain ⟨e1,sh⟩:=wu hd;rw [<-e1,iq sh];generalize deE d=e at *;show bB (d8 cs [some e.d,some (.list (ns.map PyData.int)),none,none,none,none,none])=_;unfold d8;have a0:dIx e.d (.int 0)=some (.int e.every):=rfl;have a2:dIx e.d (.int 2)=some (.int e.late):=rfl;simp only [ba,kO,ck,ax,aC,dB,Rs.aj,a0,a2,Rs.ar,aL,wL];have hf:=zr e.d (.list (ns.map PyData.int)) e.every e.late ns (0-e.late) none none;have hs:iz [] (cu (af 1)) (bU 5) hvB [some e.d,some (.list (ns.map PyData.int)),some (.int e.every),some (.int e.late),some (.int (0-e.late)),none,none]=forL (bU 5) hvB (ns.map PyData.int) [some e.d,some (.list (ns.map PyData.int)),some (.int e.every),some (.int e.late),some (.int (0-e.late)),none,none]:=rfl;show bB (match iz [] (cu (af 1)) (bU 5) hvB [some e.d,some (.list (ns.map PyData.int)),some (.int e.every),some (.int e.late),some (.int (0-e.late)),none,none] with | .nx δ'=>bS (gC (.bool true)) δ' | r=>r)=_;rw [hs];rcases hf with ⟨h1,δ,h2⟩ | ⟨h1,h2⟩
    ·rw [h2];show Rs.ok _=_;unfold hvE;rw [h1]
    ·rw [h2];show Rs.ok _=_;unfold hvE;rw [h1]
   ·exact absurd rfl hne
  ·exact absurd rfl hne
structure p5 (ns:List Int):Prop where
 few:ns.length<=60
 lo:∀ c∈ns,0<=c
 hi:∀ c∈ns,c<=9999
def tQ (ns:List Int):Bool:=decide (ns.length<=60)&&ns.all fun c=>decide (0<=c)&&decide (c<=9999)
theorem tY {ns:List Int}:tQ ns=true↔p5 ns:=by
 unfold tQ;rw [Bool.and_eq_true,decide_eq_true_eq,List.all_eq_true];constructor
 ·rintro ⟨h1,h2⟩
  refine ⟨h1,fun c hc=>?_,fun c hc=>?_⟩
  ·have:=h2 c hc;rw [Bool.and_eq_true,decide_eq_true_eq,decide_eq_true_eq] at this;exact this.1
  ·have:=h2 c hc;rw [Bool.and_eq_true,decide_eq_true_eq,decide_eq_true_eq] at this;exact this.2
 ·rintro ⟨h1,h2,h3⟩
  refine ⟨h1,fun c hc=>?_⟩;rw [Bool.and_eq_true,decide_eq_true_eq,decide_eq_true_eq];exact ⟨h2 c hc,h3 c hc⟩
def cz:Gf
 | [d,.list xs]=>if w6 d then (match f9 xs with | some ns=>if tQ ns then .ok (.bool (hvE (deE d) ns)) else .no | none=>.no) else .no
 | _=>.no
theorem lW {e:Er} {ns:List Int} (h:e.Sh) (hr:p5 ns):cz [e.d,.list (ns.map PyData.int)]=.ok (.bool (hvE e ns)):=by unfold cz;simp only [pC h,if_true,fM,tX,tY.mpr hr]
theorem ke (ns:List Int):aN (.list (ns.map PyData.int))=true:=by
 induction ns with
 | nil=>rfl
 | cons a r ih =>
  have:aN (.list (PyData.int a::r.map PyData.int))=aN (.list (r.map PyData.int)):=by simp [aN,dw]
  rw [List.map_cons,this];exact ih
theorem CN (cs:Cs):∀ ds,ds.length=2->cz ds≠.no->bB (jI cs aE bL (ds.map some++List.replicate 0 none))=cz ds:=by
 intro ds hl hne;obtain ⟨d,xs,ez,hz⟩:=C5 hne;clear hne;subst ez;have hne:=hz;clear hz
 ·skip
  split at hne
  ·rename_i hd;split at hne
   ·rename_i ns hx;split at hne
    ·rename_i hr;have hx':=eS hx;subst hx';obtain ⟨e1,sh⟩:=wu hd;have R:=tY.mp hr;rw [<-e1,lW sh R];generalize deE d=e at *;show bB (jI cs aE bL [some e.d,some (.list (ns.map PyData.int))])=_;have hI:k9 "list" (.list (ns.map PyData.int))=some (.bool true):=by unfold k9;rw [if_pos (ke ns)];rfl
     have hc:bF 2 (cu (af 1)) bu (aF aE (ae (af 2) (ae (gC (.int 0)) (ae (gC (.int 9999)) ao)))) aP [some e.d,some (.list (ns.map PyData.int))]=.ok ((ns.map PyData.int).map fun d=>.bool (isWhole d 0 9999)) :=
      c9 rfl rfl (by have:=R.few;rw [List.length_map];omega) fun d hd'=>by obtain ⟨c,hc,rfl⟩:=List.mem_map.mp hd';simp only [cn,aM,aQ,List.cons_append,List.nil_append,ax,aC,dB,Rs.aj];exact xg rfl
     have hf:=i0 (fun d=>isWhole d 0 9999) (ns.map PyData.int);have ha:(ns.map PyData.int).all (fun d=>isWhole d 0 9999)=true:=by rw [List.all_eq_true];intro d hd';obtain ⟨c,hc,rfl⟩:=List.mem_map.mp hd';have h1:=R.lo c hc;have h2:=R.hi c hc;simp [isWhole,h1,h2]
     rw [ha] at hf;have hn:¬ ((60:Int)<((ns.map PyData.int).length:Int)):=by have:=R.few;rw [List.length_map];omega
     unfold jI;simp only [ba,d7,BM,ux,eU,gO,ck,fU,aM,aQ,ax,aC,dB,Rs.aj,hI,Rs.ar,bN,iK,Dt,Bool.not_true,Bool.false_eq_true,if_false,decide_eq_false hn,aL,fB,cU,yt,pO,hc,hf,cn,iq sh,if_true,bZ]
    ·exact absurd rfl hne
   ·exact absurd rfl hne
  ·exact absurd rfl hne
inductive Fa2 {α β:Type} (R:α->β->Prop):List α->List β->Prop where
 | nil:Fa2 R [] []
 | cons {a:α} {b:β} {l:List α} {m:List β} (h:R a b) (t:Fa2 R l m):Fa2 R (a::l) (b::m)
section
variable {es:List Er} {A B:List Int} {x y:Int}
end
section
variable {es:List Er} {rs ot:List Int} {n:Int}
end
theorem nA:∀ {ds:List PyData},(∀ d∈ds,aN d=true)->dw ds=true
 | [],_=>by unfold dw;rfl
 | d::r,h=>by unfold dw;rw [h d List.mem_cons_self,nA fun e he=>h e (List.mem_cons_of_mem _ he)];rfl
theorem ig {ds:List PyData} (h:∀ d∈ds,aN d=true):aN (.tuple ds)=true:=by unfold aN;exact nA h
theorem fO {ds:List PyData} (h:∀ d∈ds,aN d=true):aN (.list ds)=true:=by unfold aN;exact nA h
theorem i4 (i:Int):aN (.int i)=true:=by unfold aN;rfl
theorem sA (o:Option Int):aN (dR o)=true:=by cases o <;> (unfold dR aN;rfl)
theorem xB (p:Int×Option Int):aN (bI p)=true:=ig fun d hd=>by
 rcases List.mem_cons.mp hd with rfl | hd
 ·exact i4 _
 ·cases List.mem_singleton.mp hd;exact sA _
theorem BY (e:Er):aN e.d=true:=ig fun d hd=>by
 rcases List.mem_cons.mp hd with rfl | hd
 ·exact i4 _
 ·rcases List.mem_cons.mp hd with rfl | hd
  ·exact i4 _
  ·rcases List.mem_cons.mp hd with rfl | hd
   ·exact i4 _
   ·cases List.mem_singleton.mp hd;exact ig fun d hd=>by obtain ⟨p,_,rfl⟩:=List.mem_map.mp hd;exact xB p
theorem sT (es:List Er):aN (aU es)=true:=ig fun d hd=>by obtain ⟨p,_,rfl⟩:=List.mem_map.mp hd;exact BY p
theorem lh (rs:List Int):∀ d∈rs.map PyData.int,aN d=true:=fun d hd=>by obtain ⟨p,_,rfl⟩:=List.mem_map.mp hd;exact i4 p
theorem rK (rs:List Int):aN (bo rs)=true:=ig (lh rs)
end RS
namespace RS
open PySem PySem.Spec PyProof.Rows L2
section
variable {P:Program} {w:World} {K:PySem.W.Frag} {mg:Str->Option Value} {base:Heap}
theorem ue {α:Type} {xs:List α} {k:Int} {v:α} (h0:0<=k) (h:xs[k.toNat]?=some v):atI xs k=some v:=by
 have:=oV h
 rwa [Int.toNat_of_nonneg h0] at this
theorem depthAll_ints:∀ ns:List Int,PyData.depthAll (ns.map PyData.int)<=1
 | []=>by simp [PyData.depthAll]
 | n::r=>by have:=depthAll_ints r;simp only [List.map_cons,PyData.depthAll,PyData.depth];omega
theorem oB:∀ ns:List Int,PyData.canLayAll0 (ns.map PyData.int)=true
 | []=>by simp [PyData.canLayAll0]
 | n::r=>by simp [PyData.canLayAll0,PyData.canLay0,oB r]
theorem shaped_ints (ns:List Int):SeqAt.shaped (.list (ns.map PyData.int))=true:=by
 have:=depthAll_ints ns;have h2:(PyData.list (ns.map PyData.int)).depth<=64:=by simp only [PyData.depth];omega
 simp [SeqAt.shaped,PyData.canLay0,oB,h2]
theorem xV:SeqAt.shaped (.list [])=true:=shaped_ints []
theorem C1:∀ ns:List Int,PyData.eqv (.list (ns.map PyData.int)) (.list [])=decide (ns=[])
 | []=>by simp [PyData.eqv,PyData.eqvAll]
 | _::_=>by simp [PyData.eqv,PyData.eqvAll]
def C0 (K:PySem.W.Frag):Sp:=fun vs H Q _=>∃ (a:Addr) (ns:List Int) (k:Int),vs=[.ref a,.int k]/\SqL K H a (ns.map V.int)/\0<=k/\∀ H',az H H'->Q (.int (cellAt ns k)) H'
def Fv (K:PySem.W.Frag):Sp:=fun vs H Q _=>∃ (a:Addr) (ns:List Int) (k many:Int),vs=[.ref a,.int k,.int many]/\SqL K H a (ns.map V.int)/\0<=k/\0<many/\∀ H',az H H'->Q (.int (mixed ns k many)) H'
theorem DV (ds:List PyData) (hl:ds.length=3) (hne:ak ds≠.no):∃ d,ak ds=.ok d/\gH d=true/\∀ vs H Q,Iss K H ds vs->(∀ v H',az H H'->IsD K H' d v->Q v H')->Fv K vs H Q E0:=by
 obtain ⟨s,k,many,ez,hz⟩:=pE hne;clear hne;subst ez;have hne:=hz;clear hz
 ·skip
  split at hne
  ·rename_i ns hs;have es:=iB hs;subst es;split at hne
   ·rename_i hc;refine ⟨_,cJ hc.1 hc.2,rfl,fun vs H Q hi ho=>?_⟩;obtain ⟨v0,r0,rfl,h0,v1,r1,rfl,h1,v2,r2,rfl,h2,rfl⟩:=hi;obtain ⟨a,rfl,hS⟩:=h0.ofScript;rw [h1.ofInt,h2.ofInt];exact ⟨a,ns,k,many,rfl,hS,hc.1,hc.2,fun H' s'=>ho _ _ s' uQ⟩
   ·exact absurd rfl hne
  ·exact absurd rfl hne
end
end RS
namespace RS
open PySem L2
section
variable {es:List Er} {rs:List Int} {n:Int}
end
theorem oG {cond:Ds->Rs Bool} {elt:Ds->Rs PyData} {δ:Ds} {p:PyData->Bool}:∀ (ds:List PyData),(∀ d∈ds,cond (δ++[some d])=.ok (p d)/\elt (δ++[some d])=.ok d)->fc cond elt aP δ ds=.ok (ds.filter p)
 | [],_=>rfl
 | d::r,h=>by
  obtain ⟨h1,h2⟩:=h d List.mem_cons_self;have ih:=oG r fun e he=>h e (List.mem_cons_of_mem _ he)
  unfold fc;cases hp:p d with
  | true=>simp only [aP,h1,hp,Rs.dM,Rs.aj,if_true,h2,ih,List.filter_cons]
  | false=>simp only [aP,h1,hp,Rs.dM,Rs.aj,if_false,Bool.false_eq_true,ih,List.filter_cons]
theorem mw {n0:Nat} {src:Ds->Rs (List PyData)} {cond:Ds->Rs Bool} {elt:Ds->Rs PyData} {δ:Ds} {p:PyData->Bool} {ds:List PyData} (hn:δ.length=n0) (hs:src δ=.ok ds) (hl:ds.length<=1000000) (h:∀ d∈ds,cond (δ++[some d])=.ok (p d)/\elt (δ++[some d])=.ok d) :
  bF n0 src cond elt aP δ=.ok (ds.filter p):=by
 unfold bF;rw [if_pos hn,hs];simp only [Rs.aj,if_pos hl];exact oG ds h
theorem AN (ns:List Int) (a top:Int) (ha:0<=a) (ht:0<top) (ht2:top<=58):∃ es rs,oP ns a 4 top true=es/\1<=es.length/\es.length<=4/\(∀ e∈es,e.Ok)/\ku es.length rs/\aZ [au ns,.int a,.int 4,.int top,.bool true]=.ok (aU es)/\bJ [au ns,.int 0,.int (es.length:Int)]=.ok (bo rs):=by have hl:=C4 ns a 4 top true (by decide);have hok:=Ek ns a 4 top true ht ht2;have hes:aZ [au ns,.int a,.int 4,.int top,.bool true]=.ok (aU (oP ns a 4 top true)):=iH ha (by decide) (by decide) ht ht2;generalize oP ns a 4 top true=es at *;have hrs:=jG (ns:=ns) (a:=0) (many:=(es.length:Int)) (by decide) (by omega) (by omega);rw [Int.toNat_natCast] at hrs;exact ⟨es,_,rfl,hl.1,by omega,hok,xn ns 0 es.length,hes,hrs⟩
theorem Hn (es:List Er):bY [aU es]=some (.int (es.length:Int)):=by unfold aU;rw [Bv,List.length_map]
theorem lawT_of {n:Nat} {G:Ds->Sr} {k:Nat} (h:∀ ns:List Int,G (some (au ns)::List.replicate k none)=.rt (.bool true)):∀ ds,ds.length=1->fZ n ds≠.no->bB (G (ds.map some++List.replicate k none))=fZ n ds:=by
 intro ds hl hne
 match ds,hl with
 | [s],_ =>
  unfold fZ at hne ⊢;simp only at hne ⊢;split at hne
  ·rename_i ns hs;have es:=iB hs;subst es;split at hne
   ·rename_i hc;simp only [fL,if_pos hc];show bB (G (some (au ns)::List.replicate k none))=_;rw [h];rfl
   ·exact absurd rfl hne
  ·exact absurd rfl hne
theorem kX {es:List Er} (cs:Cs) (h1:1<=es.length) (h2:es.length<=6) (h:∀ e∈es,e.Ok):bq cs [aU es]=.ok (aU es):=by unfold bq;simp [sT,uB h1 h2 h]
theorem kQ {es:List Er} {rs:List Int} (cs:Cs) (h2:es.length<=6) (hr:ku es.length rs):bh cs [aU es,bo rs]=.ok (bo rs):=by unfold aU bh;simp only [List.length_map,rK,lL hr,Bool.true_and,if_true];rw [if_pos (by simp;omega)]
def c8 (r:List Int):PyData:=.list (r.map PyData.int)
def cmD (rows:List (List Int)):PyData:=.list (rows.map c8)
inductive Cms:List Er->List (List Int)->Prop
 | nil:Cms [] []
 | cons {e:Er} {r:List Int} {es:List Er} {rows:List (List Int)}:p5 r->hvE e r=true->Cms es rows->Cms (e::es) (r::rows)
theorem Cms.len {es:List Er} {rows:List (List Int)} (h:Cms es rows):rows.length=es.length:=by
 induction h with
 | nil=>rfl
 | cons _ _ _ ih=>simp [ih]
theorem Cms.tQ {es:List Er} {rows:List (List Int)} (h:Cms es rows):∀ r∈rows,p5 r:=by
 induction h with
 | nil=>intro r hr;cases hr
 | cons hr _ _ ih =>
  intro r' h';rcases List.mem_cons.mp h' with rfl | h'
  ·exact hr
  ·exact ih r' h'
structure xS (es:List Er):Prop where
 l1:1<=es.length
 l6:es.length<=6
 ok:∀ e∈es,e.Ok
open Classical in
def aY (cs:Cs):Gf:=fun ds=>if ∃ es rows,xS es/\Cms es rows/\ds=[aU es,cmD rows] then .ok (ds.getD 1 .none) else .no
theorem fI {cs:Cs} {es:List Er} {rows:List (List Int)} (h:xS es) (c:Cms es rows):aY cs [aU es,cmD rows]=.ok (cmD rows):=by unfold aY;rw [if_pos ⟨es,rows,h,c,rfl⟩];rfl
theorem BH {δ:Ds} (hδ:δ.length=2):∀ {es:List Er} {rows:List (List Int)},Cms es rows->(∀ e∈es,e.Sh)->fc bu (aF cz (ae (af 2) (ae (af 3) ao))) jX δ (sj (es.map Er.d) (rows.map c8))=.ok (rows.map fun _=>.bool true)
 | _,_,.nil,_=>rfl
 | _,_,.cons (e:=e) (r:=r) (es:=es) (rows:=rows) hr hv c,hs=>by
  obtain ⟨a,b,rfl⟩:∃ a b,δ=[a,b]:=by
   match δ,hδ with
   | [a,b],_=>exact ⟨a,b,rfl⟩
  have ih:=BH hδ c fun x hx=>hs x (List.mem_cons_of_mem _ hx)
  show fc _ _ _ _ (PyData.tuple [e.d,c8 r]::sj (es.map Er.d) (rows.map c8))=_;unfold fc;rw [show jX (PyData.tuple [e.d,c8 r])=some [some e.d,some (c8 r)] from rfl];have hg:aF cz (ae (af 2) (ae (af 3) ao)) ([a,b]++[some e.d,some (c8 r)])=.ok (.bool true):=by simp only [cn,aM,aQ,List.cons_append,List.nil_append,ax,aC,Rs.aj];rw [show c8 r=.list (r.map PyData.int) from rfl,lW (hs e List.mem_cons_self) hr,hv]
  simp only [bu,Rs.dM,Rs.aj,if_true,hg,ih,List.map_cons]
theorem qm (rows:List (List Int)):aN (cmD rows)=true:=by
 unfold cmD
 induction rows with
 | nil=>rfl
 | cons a r ih =>
  have h1:=ke a;have:aN (.list (c8 a::r.map c8))=(aN (c8 a)&&aN (.list (r.map c8))):=by simp [aN,dw]
  rw [List.map_cons,this,ih];simp only [Bool.and_true];exact h1
theorem me (cs:Cs):∀ ds,ds.length=2->aY cs ds≠.no->bB (dm cs cz (bq cs) (ds.map some++List.replicate 0 none))=aY cs ds:=by
 intro ds hl hne;by_cases h:∃ es rows,xS es/\Cms es rows/\ds=[aU es,cmD rows]
 ·obtain ⟨es,rows,ok,c,rfl⟩:=h;rw [fI ok c];have k1:=kX cs ok.l1 ok.l6 ok.ok;have hI:k9 "list" (cmD rows)=some (.bool true):=by unfold k9;rw [if_pos (qm rows)];rfl
  have hn:dNe (.int ((rows.map c8).length:Int)) (.int ((es.map Er.d).length:Int))=some (.bool false):=by have:=c.len;rw [List.length_map,List.length_map,this,Bu];simp
  have hz:bF 2 (DL (ae (af 0) (ae (af 1) ao))) bu (aF cz (ae (af 2) (ae (af 3) ao))) jX [some (aU es),some (cmD rows)]=.ok (rows.map fun _=>.bool true):=by
   unfold bF;rw [if_pos (show [some (aU es),some (cmD rows)].length=2 from rfl)];have hs:DL (ae (af 0) (ae (af 1) ao)) [some (aU es),some (cmD rows)]=.ok (sj (es.map Er.d) (rows.map c8)):=by show (if (rows.map c8).length=(es.map Er.d).length then Rs.ok (sj (es.map Er.d) (rows.map c8)) else Rs.no)=_;exact if_pos (by rw [List.length_map,List.length_map];exact c.len)
   rw [hs];simp only [Rs.aj];rw [if_pos (by unfold sj;rw [List.length_zipWith,List.length_map,List.length_map];have:=ok.l6;omega)];exact BH rfl c fun e he=>(ok.ok e he).sh
  have hf:=i0 (fun _:List Int=>true) rows;have ha:rows.all (fun _=>true)=true:=by rw [List.all_eq_true];intros;rfl
  rw [ha] at hf;have hl2:bF 2 (cu (af 1)) bu (gF vJ (ae (af 2) ao)) aP [some (aU es),some (cmD rows)]=.ok ((rows.map c8).map id) :=
   c9 rfl rfl (by have:=c.len;have:=ok.l6;rw [List.length_map];omega) fun d hd'=>by obtain ⟨r,hr,rfl⟩:=List.mem_map.mp hd';rfl
  show bB (dm cs cz (bq cs) [some (aU es),some (cmD rows)])=_;unfold dm;have hln:bY [cmD rows]=some (.int ((rows.map c8).length:Int)):=rfl;have hle:bY [aU es]=some (.int ((es.map Er.d).length:Int)):=rfl;simp only [ba,zk,cn,aM,aQ,ax,aC,Rs.aj,k1,aL,d7,BM,ux,eU,gO,ck,fU,hI,Rs.ar,bN,hln,hle,hn,Bool.not_true,Bool.false_eq_true,if_false,fB,pO,hz,hf,cU,hl2,List.map_id,bZ];rfl
 ·exfalso;apply hne;unfold aY;rw [if_neg h]
structure Jb where
 num:Int
 parts:List (Int×Option Int)
 rank:Int
 row:List Int
 job:Nat
 part:Nat
 spent:Nat
def Jb.fds (j:Jb):List (Str×PyData):=[("number",.int j.num),("parts",.tuple (j.parts.map bI)),("rank",.int j.rank),("row",c8 j.row),("job",.int j.job),("part",.int j.part),("spent",.int j.spent)]
def Jb.d (C a:Addr) (j:Jb):PyData:=cN C a j.fds
theorem lE {C a:Addr} {f:Str} {r:List (Str×PyData)} (h:("@":Str)≠f):b9 C f (cN C a r)=jJ f (r.map fun p=>(.str p.1,p.2)):=by show (if ("":Str)=""/\(C:Int)=(C:Int) then (if ("@":Str)=f then some (PyData.int (a:Int)) else jJ f (r.map fun p=>(.str p.1,p.2))) else none)=_;rw [if_pos ⟨rfl,rfl⟩,if_neg h]
section
variable {C a:Addr} {j:Jb}
theorem xt:b9 C "number" (j.d C a)=some (.int j.num):=by unfold Jb.d;rw [lE (by decide)];rfl
theorem mh:b9 C "parts" (j.d C a)=some (.tuple (j.parts.map bI)):=by unfold Jb.d;rw [lE (by decide)];rfl
theorem pD:b9 C "rank" (j.d C a)=some (.int j.rank):=by unfold Jb.d;rw [lE (by decide)];rfl
theorem xT:b9 C "row" (j.d C a)=some (c8 j.row):=by unfold Jb.d;rw [lE (by decide)];rfl
theorem uN:b9 C "job" (j.d C a)=some (.int j.job):=by unfold Jb.d;rw [lE (by decide)];rfl
theorem oW:b9 C "part" (j.d C a)=some (.int j.part):=by unfold Jb.d;rw [lE (by decide)];rfl
theorem jQ:b9 C "spent" (j.d C a)=some (.int j.spent):=by unfold Jb.d;rw [lE (by decide)];rfl
end
def gfG (n k:Nat) (G:Ds->Sr):Gf:=fun ds=>if ds.length=n then bB (G (ds.map some++List.replicate k none)) else .no
theorem kU {n k:Nat} {G:Ds->Sr}:∀ ds,ds.length=n->gfG n k G ds≠.no->bB (G (ds.map some++List.replicate k none))=gfG n k G ds:=by intro ds hl _;unfold gfG;rw [if_pos hl]
def bg (cs:Cs):Gf:=gfG 1 0 (dN cs)
def aB (cs:Cs):Gf:=gfG 1 0 (eE cs)
def aJ (cs:Cs):Gf:=gfG 1 0 (gj cs)
def aO (cs:Cs):Gf:=gfG 2 0 (dP cs)
theorem vR {cs:Cs} {a:Addr} {j:Jb}:bg cs [j.d cs.Jobs a]=.ok (.bool ((j.job:Int)==(j.row.length:Int))):=by
 have hl:bY [c8 j.row]=some (.int (j.row.length:Int)):=by unfold c8;rw [iK,List.length_map]
 show bB (dN cs [some (j.d cs.Jobs a)])=_;unfold dN;simp only [cU,ck,gO,ax,Rs.aj,uN,xT,Rs.ar,fU,aM,aQ,hl,jC,aL,bZ]
def Jb.tool (j:Jb):Option Int:=(j.parts[j.part]?.map (·.2)).getD none
theorem ui {j:Jb} {p:Int×Option Int} (h:j.parts[j.part]?=some p):dIx (.tuple (j.parts.map bI)) (.int (j.part:Int))=some (bI p):=by rw [FD];exact oV (by rw [List.getElem?_map,h];rfl)
theorem part1 (p:Int×Option Int):dIx (bI p) (.int 1)=some (dR p.2):=rfl
theorem tU {cs:Cs} {a:Addr} {j:Jb} (h:j.part<j.parts.length):aB cs [j.d cs.Jobs a]=.ok (dR (if j.spent=0 then j.tool else none)):=by
 show bB (eE cs [some (j.d cs.Jobs a)])=_;unfold eE;have hp:j.parts[j.part]?=some j.parts[j.part]:=List.getElem?_eq_getElem h;have ht:j.tool=j.parts[j.part].2:=by unfold Jb.tool;rw [hp];rfl
 by_cases z:j.spent=0
 ·have e:((j.spent:Int)==0)=true:=by rw [z];rfl
  rw [if_pos z,ht];simp only [cU,gIf,eU,ck,gO,ax,dB,Rs.aj,jQ,mh,oW,Rs.ar,jC,e,bN,if_true,ui hp,part1,aL,bZ]
 ·have e:((j.spent:Int)==0)=false:=by rw [beq_eq_false_iff_ne];omega
  rw [if_neg z];simp only [cU,gIf,eU,ck,gO,ax,dB,Rs.aj,jQ,Rs.ar,jC,e,bN,Bool.false_eq_true,if_false,aL,bZ];rfl
theorem zi {cs:Cs} {a:Addr} {j:Jb} (h:j.part<j.parts.length):aJ cs [j.d cs.Jobs a]=.ok (dR (if j.spent=0 then none else j.tool)):=by
 show bB (gj cs [some (j.d cs.Jobs a)])=_;unfold gj;have hp:j.parts[j.part]?=some j.parts[j.part]:=List.getElem?_eq_getElem h;have ht:j.tool=j.parts[j.part].2:=by unfold Jb.tool;rw [hp];rfl
 by_cases z:j.spent=0
 ·have e:decide ((0:Int)<(j.spent:Int))=false:=by rw [z];rfl
  rw [if_pos z];simp only [cU,gIf,eU,ck,gO,ax,dB,Rs.aj,jQ,Rs.ar,Dt,e,bN,Bool.false_eq_true,if_false,aL,bZ];rfl
 ·have e:decide ((0:Int)<(j.spent:Int))=true:=by rw [decide_eq_true_eq];omega
  rw [if_neg z,ht];simp only [cU,gIf,eU,ck,gO,ax,dB,Rs.aj,jQ,mh,oW,Rs.ar,Dt,e,bN,if_true,ui hp,part1,aL,bZ]
def Jb.there (j:Jb) (t:Int):Bool:=match j.row[j.job]? with
 | some c=>decide (c<=t)
 | none=>false
theorem wo {cs:Cs} {a:Addr} {j:Jb} {t:Int} (h:j.job<=j.row.length):aO cs [j.d cs.Jobs a,.int t]=.ok (.bool (j.there t)):=by
 have hl:bY [c8 j.row]=some (.int (j.row.length:Int)):=by unfold c8;rw [iK,List.length_map]
 show bB (dP cs [some (j.d cs.Jobs a),some (.int t)])=_;unfold dP Jb.there;by_cases z:j.job<j.row.length
 ·have hp:j.row[j.job]?=some j.row[j.job]:=List.getElem?_eq_getElem z;have e:decide ((j.job:Int)<(j.row.length:Int))=true:=by rw [decide_eq_true_eq];omega
  have hx:dIx (c8 j.row) (.int (j.job:Int))=some (.int j.row[j.job]):=by show atI (j.row.map PyData.int) _=_;exact oV (by rw [List.getElem?_map,hp];rfl)
  rw [hp];simp only [cU,yt,ck,gO,ax,aC,Rs.aj,uN,xT,Rs.ar,fU,aM,aQ,hl,G0,e,bN,if_true,hx,HF,aL,bZ]
 ·have hp:j.row[j.job]?=none:=List.getElem?_eq_none (by omega);have e:decide ((j.job:Int)<(j.row.length:Int))=false:=by rw [decide_eq_false_iff_not];omega
  rw [hp];simp only [cU,yt,ck,gO,ax,aC,Rs.aj,uN,xT,Rs.ar,fU,aM,aQ,hl,G0,e,bN,Bool.false_eq_true,if_false,aL,bZ]
def jD (C:Addr) (p:Addr×Jb):PyData:=p.2.d C p.1
def Jb.held (j:Jb):Option Int:=if j.spent=0 then none else j.tool
def Jb.wanted (j:Jb):Option Int:=if j.spent=0 then j.tool else none
def holdsT (t:Int) (p:Addr×Jb):Bool:=p.2.held==some t
theorem eq_none_int (x:Int):dEq .none (.int x)=some (.bool false):=by
 have h:PySem.SeqAt.shaped (.int x)=true:=by simp [PySem.SeqAt.shaped,PyData.canLay0,PyData.depth]
 unfold dEq;rw [h];simp [aN,PyData.eqv]
 first | done | rfl | decide
theorem Gx (o:Option Int) (t:Int):dEq (dR o) (.int t)=some (.bool (o==some t)):=by
 cases o with
 | none=>exact eq_none_int t
 | some i=>rw [show dR (some i)=.int i from rfl,jC];simp
theorem u0 {C a:Addr} {j:Jb} {m:Str} (h1:("@":Str)≠m) (h:jE m (j.fds.map fun p=>(.str p.1,p.2))=true):isC C m (j.d C a)=true:=by
 show (decide (("":Str)="")&&decide ((C:Int)=(C:Int))&&jE m ((.str "@",.int (a:Int))::(j.fds.map fun p=>(.str p.1,p.2))))=true;have:jE m ((.str "@",.int (a:Int))::(j.fds.map fun p=>(PyData.str p.1,p.2)))=true:=by unfold jE;simp only [h,Bool.and_true];simpa using h1
 rw [this];simp
theorem wg {C a:Addr} {j:Jb}:isC C "held" (j.d C a)=true:=u0 (by decide) rfl
theorem pF {C a:Addr} {j:Jb}:isC C "wanted" (j.d C a)=true:=u0 (by decide) rfl
theorem uO {C a:Addr} {j:Jb}:isC C "are_done" (j.d C a)=true:=u0 (by decide) rfl
theorem uY {C a:Addr} {j:Jb}:isC C "is_there" (j.d C a)=true:=u0 (by decide) rfl
def bf (cs:Cs):Gf:=gfG 2 1 (kD cs (aJ cs))
def jT (C:Addr) (ts:List (Addr×Jb)) (tool:Option Int):PyData:=match tool with
 | none=>.none
 | some t=>match ts.find? (holdsT t) with
  | none=>.none
  | some p=>jD C p
theorem oq {cs:Cs} {t:Int} {X:PyData}:∀ (ts:List (Addr×Jb)) (x2:Option PyData),(∀ p∈ts,p.2.part<p.2.parts.length) ->
   (∃ p,ts.find? (holdsT t)=some p/\forL (bU 2) (sIf (gT (g2 dEq (bO cs.Jobs "held" (aJ cs) (af 2) ao) (af 1))) (bS (af 2)) bt) (ts.map (jD cs.Jobs)) [some X,some (.int t),x2]=.rt (jD cs.Jobs p))
  \/(ts.find? (holdsT t)=none/\∃ δ,forL (bU 2) (sIf (gT (g2 dEq (bO cs.Jobs "held" (aJ cs) (af 2) ao) (af 1))) (bS (af 2)) bt) (ts.map (jD cs.Jobs)) [some X,some (.int t),x2]=.nx δ)
 | [],x2,_=>.inr ⟨rfl,_,rfl⟩
 | p::r,x2,h=>by
   have h1:bU 2 (jD cs.Jobs p) [some X,some (.int t),x2]=some [some X,some (.int t),some (jD cs.Jobs p)]:=rfl;have hm:bO cs.Jobs "held" (aJ cs) (af 2) ao [some X,some (.int t),some (jD cs.Jobs p)]=.ok (dR p.2.held):=by unfold bO;simp only [ax,aC,Rs.aj];rw [if_pos (show isC cs.Jobs "held" (jD cs.Jobs p)=true from wg)];simp only [aQ,Rs.aj];exact zi (h p List.mem_cons_self)
   have hc:gT (g2 dEq (bO cs.Jobs "held" (aJ cs) (af 2) ao) (af 1)) [some X,some (.int t),some (jD cs.Jobs p)]=.ok (holdsT t p):=by simp only [eU,ck,hm,ax,aC,Rs.aj,Gx,Rs.ar,bN];rfl
   rw [List.map_cons];unfold forL;rw [h1];cases z:holdsT t p with
   | true =>refine .inl ⟨p,by rw [List.find?_cons_of_pos z],?_⟩;simp only [d7,hc,z,aL,if_true,cU,ax,aC]
   | false =>simp only [d7,hc,z,aL,Bool.false_eq_true,if_false,fB];rw [List.find?_cons_of_neg (by rw [z];exact Bool.false_ne_true)];exact oq r _ fun q hq=>h q (List.mem_cons_of_mem _ hq)
theorem tG {cs:Cs} {ts:List (Addr×Jb)} {tool:Option Int} (h:∀ p∈ts,p.2.part<p.2.parts.length):bf cs [.list (ts.map (jD cs.Jobs)),dR tool]=.ok (jT cs.Jobs ts tool):=by
 show bB (kD cs (aJ cs) [some (.list (ts.map (jD cs.Jobs))),some (dR tool),none])=_;unfold kD jT;cases tool with
 | none=>rfl
 | some t =>
  have hn:gT (g1 kn (af 1)) [some (.list (ts.map (jD cs.Jobs))),some (.int t),none]=.ok false:=rfl;show bB (aK (sIf (gT (g1 kn (af 1))) (bS (gC .none)) bt) (aK (iz [] (cu (af 0)) (bU 2) (sIf (gT (g2 dEq (bO cs.Jobs "held" (aJ cs) (af 2) ao) (af 1))) (bS (af 2)) bt)) (bS (gC .none))) [some (.list (ts.map (jD cs.Jobs))),some (.int t),none])=_;have hs:iz [] (cu (af 0)) (bU 2) (sIf (gT (g2 dEq (bO cs.Jobs "held" (aJ cs) (af 2) ao) (af 1))) (bS (af 2)) bt) [some (.list (ts.map (jD cs.Jobs))),some (.int t),none]=forL (bU 2) (sIf (gT (g2 dEq (bO cs.Jobs "held" (aJ cs) (af 2) ao) (af 1))) (bS (af 2)) bt) (ts.map (jD cs.Jobs)) [some (.list (ts.map (jD cs.Jobs))),some (.int t),none]:=rfl;simp only [ba,d7,hn,aL,Bool.false_eq_true,if_false,fB,hs];rcases oq (cs:=cs) (t:=t) (X:=.list (ts.map (jD cs.Jobs))) ts none h with ⟨p,f1,f2⟩ | ⟨f1,δ,f2⟩
  ·rw [f1,f2];rfl
  ·rw [f1,f2];rfl
def bV (cs:Cs):Gf:=gfG 1 3 (gW cs (aB cs) (bf cs))
theorem Ff {C:Addr} {q:Addr×Jb}:l5 (jD C q)=some (.bool true):=rfl
def lrB (cs:Cs):Ds->Sr:=(aK (bj [1] 3 (aF (bf cs) (ae (af 0) (ae (bO cs.Jobs "wanted" (aB cs) (af 2) ao) ao))))
 (sIf (gT (g1 l5 (af 3))) (qF 1 (g1 (b9 cs.Jobs "number") (af 3)) (gF kZ (ae (g1 (b9 cs.Jobs "rank") (af 2)) (ae (lX (af 1) (g1 (b9 cs.Jobs "number") (af 3)) (g1 (b9 cs.Jobs "rank") (af 3))) ao)))) bt))
theorem DM (l:List (Int×Int)) (k v:Int):(xE l k v).length<=l.length+1:=by unfold xE;split <;> simp
def bz (cs:Cs):Gf:=gfG 2 1 (cy cs (aJ cs))
theorem tP {cs:Cs} {p:Addr×Jb} {x y:Option PyData} (h:p.2.part<p.2.parts.length):bO cs.Jobs "held" (aJ cs) (af 0) ao [some (jD cs.Jobs p),x,y]=.ok (dR p.2.held):=by unfold bO;simp only [ax,Rs.aj];rw [if_pos (show isC cs.Jobs "held" (jD cs.Jobs p)=true from wg)];simp only [aQ,Rs.aj];exact zi h
theorem BO {ts:List (Addr×Jb)} (h:ts≠[]) {C:Addr}:∃ p∈ts,jT C ts p.2.wanted=.none:=by
 by_cases z:∃ p∈ts,p.2.spent≠0
 ·obtain ⟨p,hp,hs⟩:=z;refine ⟨p,hp,?_⟩;unfold Jb.wanted;rw [if_neg hs];rfl
 ·have hz:∀ p∈ts,p.2.spent=0:=fun p hp=>by
   by_cases q:p.2.spent=0
   ·exact q
   ·exact absurd ⟨p,hp,q⟩ z
  obtain ⟨p,r,rfl⟩:=List.exists_cons_of_ne_nil h;refine ⟨p,List.mem_cons_self,?_⟩;unfold jT;cases p.2.wanted with
  | none=>rfl
  | some t =>
   have:(p::r).find? (holdsT t)=none:=by rw [List.find?_eq_none];intro q hq;unfold holdsT Jb.held;rw [if_pos (hz q hq)];exact Bool.false_ne_true
   simp only [this]
def de (cs:Cs):Gf:=gfG 3 2 (jY cs (bV cs) (aB cs) (bf cs) (bz cs))
theorem eq_str {s t:Str} (h1:PySem.SeqAt.shaped (.str s)=true) (h2:PySem.SeqAt.shaped (.str t)=true):dEq (.str s) (.str t)=some (.bool (s==t)):=by unfold dEq;rw [h1,h2];simp [aN,PyData.eqv]
def Cq (cs:Cs) (δ:Ds) (d:PyData):Bool:=match aF (bf cs) (ae (af 0) (ae (bO cs.Jobs "wanted" (aB cs) (af 5) ao) ao)) (δ++[some d]) with
 | .ok x=>eR x
 | _=>false
theorem zb {cs:Cs} {ts:List (Addr×Jb)} {q:Addr×Jb} {x1 x2 x3 x4:Option PyData} (h:∀ p∈ts,p.2.part<p.2.parts.length) (hq:q∈ts) :
  aF (bf cs) (ae (af 0) (ae (bO cs.Jobs "wanted" (aB cs) (af 5) ao) ao)) [some (.list (ts.map (jD cs.Jobs))),x1,x2,x3,x4,some (jD cs.Jobs q)]=.ok (jT cs.Jobs ts q.2.wanted):=by
 have h2:bO cs.Jobs "wanted" (aB cs) (af 5) ao [some (.list (ts.map (jD cs.Jobs))),x1,x2,x3,x4,some (jD cs.Jobs q)]=.ok (dR q.2.wanted):=by unfold bO;simp only [ax,aC,Rs.aj];rw [if_pos (show isC cs.Jobs "wanted" (jD cs.Jobs q)=true from pF)];simp only [aQ,Rs.aj];exact tU (h q hq)
 simp only [cn,aM,aQ,ax,h2,Rs.aj];exact tG h
structure rC (s:Str):Prop where
 sh:PySem.SeqAt.shaped (.str s)=true
theorem yS:PySem.SeqAt.shaped (.str "high")=true:=by decide +kernel
theorem xf:PySem.SeqAt.shaped (.str "asked")=true:=by decide +kernel
theorem uR (ps:List (Int×Option Int)):aN (.tuple (ps.map bI))=true:=by
 induction ps with
 | nil=>rfl
 | cons a r ih =>
  have h1:aN (bI a)=true:=by obtain ⟨x,o⟩:=a;cases o <;> rfl
  have:aN (.tuple (bI a::r.map bI))=(aN (bI a)&&aN (.tuple (r.map bI))):=by simp [aN,dw]
  rw [List.map_cons,this,h1,ih];rfl
theorem Jb.flat (j:Jb):gJ j.fds=true:=by have h1:=uR j.parts;have h2:aN (c8 j.row)=true:=ke j.row;unfold gJ Jb.fds;simp only [List.map_cons,List.map_nil,lN,h1,h2,Bool.and_true,Bool.true_and];rfl
theorem mx {C a:Addr} {j:Jb}:oz [a] C 0 [some (j.d C a)]=some (a,j.fds):=by
 unfold oz;have h1:gP [some (j.d C a)]=true:=by unfold gP Jb.d;simp only [List.all_cons,List.all_nil,Bool.and_true,vq];exact j.flat
 show (match objOf (j.d C a) with | some (C',a',fds)=>if C'=C/\a'∈[a]/\gP [some (j.d C a)]=true/\gJ fds=true/\fds.length<1000 then some (a',fds) else none | none=>none)=_;unfold Jb.d at *;rw [ua];exact if_pos ⟨rfl,List.mem_singleton.mpr rfl,h1,j.flat,show 7<1000 by decide⟩
theorem kz {C a:Addr} {fds:List (Str×PyData)} {nd:PyData} (hf:gJ fds=true):lg a nd [some (cN C a fds)]=[some nd]:=by show [some (fF a nd (cN C a fds))]=_;unfold cN fF;refine congrArg (fun x=>[some x]) (if_pos ?_);unfold jK;unfold gJ at hf;simp [hf]
section
variable {C a:Addr} {j:Jb}
theorem tN:eP [a] C 0 "spent" (gC (.int 1)) [some (j.d C a)]=.nx [some (Jb.d C a { j with spent:=j.spent+1 })]:=by unfold eP;rw [mx];show Sr.nx (lg a (cN C a (qA "spent" (.int ((j.spent:Int)+1)) j.fds)) [some (cN C a j.fds)])=_;rw [kz j.flat];rfl
theorem B8:eP [a] C 0 "part" (gC (.int 1)) [some (j.d C a)]=.nx [some (Jb.d C a { j with part:=j.part+1 })]:=by unfold eP;rw [mx];show Sr.nx (lg a (cN C a (qA "part" (.int ((j.part:Int)+1)) j.fds)) [some (cN C a j.fds)])=_;rw [kz j.flat];rfl
theorem DO:eP [a] C 0 "job" (gC (.int 1)) [some (j.d C a)]=.nx [some (Jb.d C a { j with job:=j.job+1 })]:=by unfold eP;rw [mx];show Sr.nx (lg a (cN C a (qA "job" (.int ((j.job:Int)+1)) j.fds)) [some (cN C a j.fds)])=_;rw [kz j.flat];rfl
theorem Aa:mI [a] C 0 "spent" (gC (.int 0)) [some (j.d C a)]=.nx [some (Jb.d C a { j with spent:=0 })]:=by unfold mI;rw [mx];show Sr.nx (lg a (cN C a (qA "spent" (.int 0) j.fds)) [some (cN C a j.fds)])=_;rw [kz j.flat];rfl
theorem A9:mI [a] C 0 "part" (gC (.int 0)) [some (j.d C a)]=.nx [some (Jb.d C a { j with part:=0 })]:=by unfold mI;rw [mx];show Sr.nx (lg a (cN C a (qA "part" (.int 0) j.fds)) [some (cN C a j.fds)])=_;rw [kz j.flat];rfl
end
def Jb.step1 (j:Jb) (n:Int):Jb:=if (j.spent:Int)+1=n then { j with spent:=0,part:=j.part+1 } else { j with spent:=j.spent+1 }
def Jb.step2 (j:Jb):Jb:=if j.part=j.parts.length then { j with part:=0,job:=j.job+1 } else j
def Jb.len (j:Jb):Int:=(j.parts[j.part]?.map (·.1)).getD 0
def Jb.next (j:Jb):Jb:=(j.step1 j.len).step2
theorem D6 {cs:Cs} {a:Addr} {j:Jb} (h:j.part<j.parts.length):fo cs [a] [some (j.d cs.Jobs a)]=.nx [some (j.next.d cs.Jobs a)]:=by
 have hp:j.parts[j.part]?=some j.parts[j.part]:=List.getElem?_eq_getElem h;have hn:j.len=j.parts[j.part].1:=by unfold Jb.len;rw [hp];rfl
 have second:∀ k:Jb,sIf (gT (g2 dEq (g1 (b9 cs.Jobs "part") (af 0)) (gF bY (ae (g1 (b9 cs.Jobs "parts") (af 0)) ao)))) (aK (mI [a] cs.Jobs 0 "part" (gC (.int 0))) (eP [a] cs.Jobs 0 "job" (gC (.int 1)))) bt [some (k.d cs.Jobs a)]=.nx [some (k.step2.d cs.Jobs a)]:=by
  intro k;have hc:gT (g2 dEq (g1 (b9 cs.Jobs "part") (af 0)) (gF bY (ae (g1 (b9 cs.Jobs "parts") (af 0)) ao))) [some (k.d cs.Jobs a)]=.ok ((k.part:Int)==(k.parts.length:Int)):=by simp only [eU,ck,gO,fU,aM,aQ,ax,Rs.aj,oW,mh,Rs.ar,Bv,List.length_map,jC,bN]
  unfold Jb.step2;by_cases z:k.part=k.parts.length
  ·have e:((k.part:Int)==(k.parts.length:Int))=true:=by rw [z];exact beq_self_eq_true _
   rw [if_pos z];simp only [d7,hc,e,aL,if_true,ba,A9,DO]
  ·have e:((k.part:Int)==(k.parts.length:Int))=false:=by rw [beq_eq_false_iff_ne];omega
   rw [if_neg z];simp only [d7,hc,e,aL,Bool.false_eq_true,if_false,fB]
 have hc:gT (g2 dEq (g1 (b9 cs.Jobs "spent") (af 0)) (g2 dIx (g2 dIx (g1 (b9 cs.Jobs "parts") (af 0)) (g1 (b9 cs.Jobs "part") (af 0))) (gC (.int 0)))) [some (Jb.d cs.Jobs a { j with spent:=j.spent+1 })]=.ok (((j.spent:Int)+1)==j.len):=by have q:=ui (j:={ j with spent:=j.spent+1 }) hp;have q0:dIx (bI j.parts[j.part]) (.int 0)=some (.int j.parts[j.part].1):=rfl;simp only [eU,ck,gO,ax,dB,Rs.aj,jQ,mh,oW,Rs.ar,q,q0,jC,bN,hn];rfl
 unfold fo Jb.next Jb.step1;by_cases z:(j.spent:Int)+1=j.len
 ·have e:(((j.spent:Int)+1)==j.len)=true:=by rw [z];exact beq_self_eq_true _
  rw [if_pos z];simp only [ba,tN];rw [d7,hc];simp only [e,aL,if_true,ba,Aa,B8];exact second _
 ·have e:(((j.spent:Int)+1)==j.len)=false:=by rw [beq_eq_false_iff_ne];exact z
  rw [if_neg z];simp only [ba,tN];rw [d7,hc];simp only [e,aL,Bool.false_eq_true,if_false,fB];exact second _
theorem C7 {a b:Option Int} (h:dR a=dR b):a=b:=by cases a <;> cases b <;> first | rfl | (injection h with h;rw [h]) | cases h
theorem Ag {p q:Int×Option Int} (h:bI p=bI q):p=q:=by
 obtain ⟨a,o⟩:=p;obtain ⟨b,u⟩:=q;unfold bI at h;injection h with h
 injection h with h1 h2
 injection h1 with h1
 injection h2 with h2 _
 have h3:=C7 h2;exact Prod.ext h1 h3
theorem qz {α β:Type} {f:α->β} (hf:∀ x y,f x=f y->x=y):∀ {l m:List α},l.map f=m.map f->l=m
 | [],[],_=>rfl
 | [],_::_,h=>by cases h
 | _::_,[],h=>by cases h
 | a::l,b::m,h=>by
  rw [List.map_cons,List.map_cons] at h;injection h with h1 h2
  rw [hf a b h1,qz hf h2]
theorem DK {j k:Jb} (h:j.fds=k.fds):j=k:=by
 obtain ⟨a1,a2,a3,a4,a5,a6,a7⟩:=j;obtain ⟨b1,b2,b3,b4,b5,b6,b7⟩:=k;unfold Jb.fds c8 at h;simp only [List.cons.injEq,Prod.mk.injEq,true_and,and_true,PyData.int.injEq,PyData.tuple.injEq,PyData.list.injEq] at h;obtain ⟨h1,h2,h3,h4,h5,h6,h7⟩:=h;have e2:=qz (fun x y=>Ag) h2;have e4:=qz (fun x y (q:PyData.int x=PyData.int y)=>by injection q) h4;have e5:a5=b5:=by omega
 have e6:a6=b6:=by omega
 have e7:a7=b7:=by omega
 subst h1 h3 e2 e4 e5 e6 e7;rfl
open Classical in
def gm:List (Str×PyData)->Option (List (Str×PyData)):=fun fds=>if h:∃ j:Jb,j.part<j.parts.length/\fds=j.fds then some (Classical.choose h).next.fds else none
theorem Fp {j:Jb} (h:j.part<j.parts.length):gm j.fds=some j.next.fds:=by
 have hx:∃ k:Jb,k.part<k.parts.length/\j.fds=k.fds:=⟨j,h,rfl⟩
 unfold gm;rw [dif_pos hx];have:=DK (Classical.choose_spec hx).2;rw [<-this]
theorem BP (cs:Cs):∀ a fds fds',gJ fds=true->fds.length<1000->gm fds=some fds'->∃ δ,fo cs [a] (some (cN cs.Jobs a fds)::List.replicate 0 none)=.nx δ/\δ[0]?=some (some (cN cs.Jobs a fds')):=by
 intro a fds fds' _ _ e;by_cases hx:∃ k:Jb,k.part<k.parts.length/\fds=k.fds
 ·obtain ⟨k,hk,rfl⟩:=hx;rw [Fp hk] at e;cases e;exact ⟨_,D6 hk,rfl⟩
 ·unfold gm at e;rw [dif_neg hx] at e;cases e
instance:Inhabited Jb:=⟨⟨0,[],0,[],0,0,0⟩⟩
def p4 (ks:List PyData):Nat:=bst (fun i j=>ltD (ks.getD i .none) (ks.getD j .none)) (ks.length-1)
def sW (key:Jb->PyData) (js:List Jb):Jb:=js.getD (p4 (js.map key)) default
theorem pJ {C:Addr} {g:PyData->Rs PyData} {key:Jb->PyData}:∀ {ts:List (Addr×Jb)},(∀ p∈ts,g (jD C p)=.ok (key p.2))->allR g (ts.map (jD C))=.ok ((ts.map (·.2)).map key)
 | [],_=>rfl
 | p::r,h=>by
  have ih:=pJ (ts:=r) fun x hx=>h x (List.mem_cons_of_mem _ hx)
  rw [List.map_cons];unfold allR;rw [h p List.mem_cons_self,Rs.aj,ih,Rs.aj];rfl
theorem mr {C:Addr} {cap:List Nat} {ga gb:Ds->Rs PyData} {δ:Ds} {ts:List (Addr×Jb)} {key:Jb->PyData} (hd:ga δ=.ok (.list (ts.map (jD C)))) (h0:ts≠[]) (hk:∀ p∈ts,gb (some (jD C p)::uf cap δ)=.ok (key p.2))
  (hK:(∀ p∈ts,∃ n:Int,key p.2=.int n)\/(∀ p∈ts,∃ a b:Int,key p.2=.tuple [.int a,.int b])):∃ q∈ts,q.2=sW key (ts.map (·.2))/\jq cap ga gb δ=.ok (jD C q):=by
 have hlen:0<ts.length:=List.length_pos_iff.mpr h0;have e:=pJ (C:=C) (g:=fun x=>gb (some x::uf cap δ)) (key:=key) hk;have q:keysOk ((ts.map (·.2)).map key)=true:=by
  unfold keysOk;rw [Bool.or_eq_true];rcases hK with hK | hK
  ·refine .inl (List.all_eq_true.mpr fun k hk=>?_);obtain ⟨j,hj,rfl⟩:=List.mem_map.mp hk;obtain ⟨p,hp,rfl⟩:=List.mem_map.mp hj;obtain ⟨n,hn⟩:=hK p hp;rw [hn];rfl
  ·refine .inr (List.all_eq_true.mpr fun k hk=>?_);obtain ⟨j,hj,rfl⟩:=List.mem_map.mp hk;obtain ⟨p,hp,rfl⟩:=List.mem_map.mp hj;obtain ⟨a,b,hn⟩:=hK p hp;rw [hn];rfl
 have hb:=yB (fun i j=>ltD (((ts.map (·.2)).map key).getD i .none) (((ts.map (·.2)).map key).getD j .none)) (ts.length-1);have hI:p4 ((ts.map (·.2)).map key)=bst (fun i j=>ltD (((ts.map (·.2)).map key).getD i .none) (((ts.map (·.2)).map key).getD j .none)) (ts.length-1):=by unfold p4;rw [List.length_map,List.length_map]
 have hlt:p4 ((ts.map (·.2)).map key)<ts.length:=by rw [hI];omega
 refine ⟨ts[p4 ((ts.map (·.2)).map key)],List.getElem_mem hlt,?_,?_⟩
 ·unfold sW;rw [List.getD_eq_getElem?_getD,List.getElem?_map,List.getElem?_eq_getElem hlt];rfl
 ·unfold jq;rw [hd];simp only [Rs.aj,List.length_map,if_pos hlen,e];show (if keysOk _=true then Rs.eZ _ else Rs.no)=_;rw [if_pos q,<-hI,List.getElem?_map,List.getElem?_eq_getElem hlt];rfl
def tZ (js:List Jb) (tool:Option Int):Option Jb:=tool.bind fun t=>js.find? fun j=>j.held==some t
theorem zp {C:Addr} {ts:List (Addr×Jb)} {tool:Option Int}:(tZ (ts.map (·.2)) tool=none/\jT C ts tool=.none)\/∃ q∈ts,tZ (ts.map (·.2)) tool=some q.2/\jT C ts tool=jD C q:=by
 unfold tZ jT;cases tool with
 | none=>exact .inl ⟨rfl,rfl⟩
 | some t =>
  have hm:(ts.map (·.2)).find? (fun j=>j.held==some t)=(ts.find? (holdsT t)).map (·.2):=by rw [List.find?_map];rfl
  simp only [Option.bind_some,hm];cases h:ts.find? (holdsT t) with
  | none=>exact .inl ⟨rfl,rfl⟩
  | some p=>exact .inr ⟨p,List.mem_of_find?_eq_some h,rfl,rfl⟩
def sU (js:List Jb) (l:List (Int×Int)) (j:Jb):List (Int×Int):=match tZ js j.wanted with
 | none=>l
 | some o=>xE l o.num (if (mJ l o.num).getD o.rank<j.rank then (mJ l o.num).getD o.rank else j.rank)
def zj (js:List Jb):List (Int×Int):=js.foldl (sU js) []
theorem BX {cs:Cs} {ts:List (Addr×Jb)} (h:∀ p∈ts,p.2.part<p.2.parts.length) {p:Addr×Jb} (hp:p∈ts) {l:List (Int×Int)} (hl:l.length<1000000) (x3:Option PyData) :
  ∃ x,lrB cs [some (.list (ts.map (jD cs.Jobs))),some (cY l),some (jD cs.Jobs p),x3]=.nx [some (.list (ts.map (jD cs.Jobs))),some (cY (sU (ts.map (·.2)) l p.2)),some (jD cs.Jobs p),x]:=by
 have hm:aF (bf cs) (ae (af 0) (ae (bO cs.Jobs "wanted" (aB cs) (af 2) ao) ao)) [some (.list (ts.map (jD cs.Jobs))),none,some (jD cs.Jobs p),x3]=.ok (jT cs.Jobs ts p.2.wanted):=by
  have h2:bO cs.Jobs "wanted" (aB cs) (af 2) ao [some (.list (ts.map (jD cs.Jobs))),none,some (jD cs.Jobs p),x3]=.ok (dR p.2.wanted):=by unfold bO;simp only [ax,aC,Rs.aj];rw [if_pos (show isC cs.Jobs "wanted" (jD cs.Jobs p)=true from pF)];simp only [aQ,Rs.aj];exact tU (h p hp)
  simp only [cn,aM,aQ,ax,h2,Rs.aj];exact tG h
 have hset:bj [1] 3 (aF (bf cs) (ae (af 0) (ae (bO cs.Jobs "wanted" (aB cs) (af 2) ao) ao))) [some (.list (ts.map (jD cs.Jobs))),some (cY l),some (jD cs.Jobs p),x3]=.nx [some (.list (ts.map (jD cs.Jobs))),some (cY l),some (jD cs.Jobs p),some (jT cs.Jobs ts p.2.wanted)]:=by show (if 3<4 then ofR (aF (bf cs) (ae (af 0) (ae (bO cs.Jobs "wanted" (aB cs) (af 2) ao) ao)) [some (.list (ts.map (jD cs.Jobs))),none,some (jD cs.Jobs p),x3]) _ else _)=_;rw [if_pos (by decide),hm];rfl
 unfold lrB sU;simp only [ba,hset];rcases zp (C:=cs.Jobs) (ts:=ts) (tool:=p.2.wanted) with ⟨e0,e⟩ | ⟨q,hq,e0,e⟩
 ·rw [e,e0];exact ⟨_,rfl⟩
 ·rw [e,e0];simp only [d7,eU,gO,ax,aC,Rs.aj,Ff,Rs.ar,bN,aL,if_true];have f1:b9 cs.Jobs "number" (jD cs.Jobs q)=some (.int q.2.num):=xt;have f2:b9 cs.Jobs "rank" (jD cs.Jobs q)=some (.int q.2.rank):=pD;have f3:b9 cs.Jobs "rank" (jD cs.Jobs p)=some (.int p.2.rank):=pD;refine ⟨some (jD cs.Jobs q),?_⟩;unfold qF;simp only [List.getElem?_cons_succ,List.getElem?_cons_zero,sF,fU,aM,aQ,gO,ax,aC,Rs.aj,f1,f2,f3,Rs.ar,lX,yj,aL,if_pos hl];rfl
theorem Ae (js:List Jb) (l:List (Int×Int)) (j:Jb):(sU js l j).length<=l.length+1:=by
 unfold sU;split
 ·exact Nat.le_succ _
 ·exact DM _ _ _
theorem xh {cs:Cs} {ts:List (Addr×Jb)} (h:∀ p∈ts,p.2.part<p.2.parts.length):∀ (us:List (Addr×Jb)) (l:List (Int×Int)) (x2 x3:Option PyData),(∀ p∈us,p∈ts)->l.length+us.length<1000000 ->
  ∃ y2 y3,forL (bU 2) (lrB cs) (us.map (jD cs.Jobs)) [some (.list (ts.map (jD cs.Jobs))),some (cY l),x2,x3]=.nx [some (.list (ts.map (jD cs.Jobs))),some (cY ((us.map (·.2)).foldl (sU (ts.map (·.2))) l)),y2,y3]
 | [],l,x2,x3,_,_=>⟨x2,x3,rfl⟩
 | p::r,l,x2,x3,hu,hl=>by have h1:bU 2 (jD cs.Jobs p) [some (.list (ts.map (jD cs.Jobs))),some (cY l),x2,x3]=some [some (.list (ts.map (jD cs.Jobs))),some (cY l),some (jD cs.Jobs p),x3]:=rfl;rw [List.length_cons] at hl;obtain ⟨x,e1⟩:=BX (cs:=cs) h (hu p List.mem_cons_self) (l:=l) (by omega) x3;have hl1:=Ae (ts.map (·.2)) l p.2;rw [List.map_cons];unfold forL;rw [h1];simp only [e1];exact xh h r _ _ _ (fun q hq=>hu q (List.mem_cons_of_mem _ hq)) (by omega)
theorem EH {cs:Cs} {ts:List (Addr×Jb)} (h:∀ p∈ts,p.2.part<p.2.parts.length) (hl:ts.length<=1000):bV cs [.list (ts.map (jD cs.Jobs))]=.ok (cY (zj (ts.map (·.2)))):=by obtain ⟨y2,y3,e⟩:=xh (cs:=cs) h ts [] none none (fun p hp=>hp) (by rw [List.length_nil];omega);show bB (gW cs (aB cs) (bf cs) [some (.list (ts.map (jD cs.Jobs))),none,none,none])=_;have ho:wK 1 [some (.list (ts.map (jD cs.Jobs))),none,none,none]=.nx [some (.list (ts.map (jD cs.Jobs))),some (cY []),none,none]:=rfl;have hs:iz [1] (cu (af 0)) (bU 2) (lrB cs) [some (.list (ts.map (jD cs.Jobs))),some (cY []),none,none]=forL (bU 2) (lrB cs) (ts.map (jD cs.Jobs)) [some (.list (ts.map (jD cs.Jobs))),some (cY []),none,none]:=rfl;show bB (aK (wK 1) (aK (iz [1] (cu (af 0)) (bU 2) (lrB cs)) (bS (af 1))) [some (.list (ts.map (jD cs.Jobs))),none,none,none])=_;simp only [ba,ho,hs,e];rfl
def EZ (tops:PyData) (t:Int):Int:=match dIx tops (.int t) with
 | some (.int n)=>n
 | _=>0
def xr (tops:PyData) (j:Jb):PyData:=match j.held with
 | none=>.tuple [.int j.rank,.int 1]
 | some t=>.tuple [.int (if EZ tops t<j.rank then EZ tops t else j.rank),.int 0]
theorem Fj {cs:Cs} {p:Addr×Jb} {tops:PyData} (h:p.2.part<p.2.parts.length) (ht:∀ t,p.2.held=some t->∃ n:Int,dIx tops (.int t)=some (.int n)):bz cs [jD cs.Jobs p,tops]=.ok (xr tops p.2):=by
 have fr:b9 cs.Jobs "rank" (jD cs.Jobs p)=some (.int p.2.rank):=pD;unfold xr;cases z:p.2.held with
 | none =>
  show bB (cy cs (aJ cs) [some (jD cs.Jobs p),some tops,none])=_;unfold cy;have hm:=tP (cs:=cs) (p:=p) (x:=some tops) (y:=none) h;rw [z] at hm;have hs:bj [] 2 (bO cs.Jobs "held" (aJ cs) (af 0) ao) [some (jD cs.Jobs p),some tops,none]=.nx [some (jD cs.Jobs p),some tops,some .none]:=by rw [kO,hm];rfl
  simp only [ba,hs,d7,eU,gO,ax,aC,Rs.aj,vH,vV,Rs.ar,bN,aL,if_true,cU,mR,aM,aQ,fr,dB,bZ]
 | some t =>
  obtain ⟨n,hn⟩:=ht t z;have hT:EZ tops t=n:=by unfold EZ;rw [hn]
  show bB (cy cs (aJ cs) [some (jD cs.Jobs p),some tops,none])=_;unfold cy;have hm:=tP (cs:=cs) (p:=p) (x:=some tops) (y:=none) h;rw [z] at hm;have hs:bj [] 2 (bO cs.Jobs "held" (aJ cs) (af 0) ao) [some (jD cs.Jobs p),some tops,none]=.nx [some (jD cs.Jobs p),some tops,some (.int t)]:=by rw [kO,hm];rfl
  simp only [ba,hs,d7,eU,gO,ck,ax,aC,Rs.aj,vH,zW,Rs.ar,bN,aL,Bool.false_eq_true,if_false,fB,cU,mR,aM,aQ,fr,hn,fU,yj,dB,bZ,hT]
def kW (js:List Jb) (j:Jb):Bool:=(tZ js j.wanted).isNone
def IQ (l:List (Int×Int)) (j:Jb):PyData:=.int ((mJ l j.num).getD j.rank)
def rD (tops:PyData) (len:Str) (js:List Jb):Jb:=if (len==("high":Str))=true then sW (xr tops) js else sW (IQ (if (len==("asked":Str))=true then zj js else [])) (js.filter (kW js))
theorem vB {C:Addr} {ts:List (Addr×Jb)} {tool:Option Int}:eR (jT C ts tool)=(tZ (ts.map (·.2)) tool).isNone:=by
 rcases zp (C:=C) (ts:=ts) (tool:=tool) with ⟨e0,e⟩ | ⟨q,_,e0,e⟩
 ·rw [e,e0];rfl
 ·rw [e,e0];rfl
theorem wd {ts:List (Addr×Jb)} (h:ts≠[]):ts.filter (fun p=>kW (ts.map (·.2)) p.2)≠[]:=by obtain ⟨p,hp,e⟩:=BO h (C:=0);refine List.ne_nil_of_mem (a:=p) (List.mem_filter.mpr ⟨hp,?_⟩);unfold kW;rw [<-vB (C:=0),e];rfl
theorem mj {C:Addr} {ts:List (Addr×Jb)} {f:PyData->Bool} {g:Jb->Bool}:∀ {us:List (Addr×Jb)},(∀ p∈us,f (jD C p)=g p.2)->(us.map (jD C)).filter f=(us.filter fun p=>g p.2).map (jD C)
 | [],_=>rfl
 | p::r,h=>by
  have ih:=mj (ts:=ts) (us:=r) fun x hx=>h x (List.mem_cons_of_mem _ hx)
  rw [List.map_cons,List.filter_cons,List.filter_cons,h p List.mem_cons_self,ih];cases g p.2 <;> rfl
theorem Ar {cs:Cs} {ts:List (Addr×Jb)} {tops:PyData} {len:Str} (h0:ts≠[]) (hl:ts.length<=1000) (h:∀ p∈ts,p.2.part<p.2.parts.length) (ht:∀ p∈ts,∀ t,p.2.held=some t->∃ n:Int,dIx tops (.int t)=some (.int n)) (hs:rC len) :
  ∃ q∈ts,q.2=rD tops len (ts.map (·.2))/\de cs [.list (ts.map (jD cs.Jobs)),tops,.str len]=.ok (jD cs.Jobs q):=by
 have q1:gT (g2 dEq (af 2) (gC (.str "high"))) [some (.list (ts.map (jD cs.Jobs))),some tops,some (.str len),none,none]=.ok (len=="high"):=by simp only [eU,ck,ax,aC,dB,Rs.aj,eq_str hs.sh yS,Rs.ar,bN]
 show ∃ q∈ts,q.2=_/\bB (jY cs (bV cs) (aB cs) (bf cs) (bz cs) [some (.list (ts.map (jD cs.Jobs))),some tops,some (.str len),none,none])=.ok _;unfold jY rD;cases z:(len==("high":Str)) with
 | true =>
  obtain ⟨q,hq,e2,e⟩:=mr (C:=cs.Jobs) (cap:=[1]) (ga:=af 0) (gb:=aF (bz cs) (ae (af 0) (ae (af 1) ao))) (δ:=[some (.list (ts.map (jD cs.Jobs))),some tops,some (.str len),none,none]) (key:=xr tops) rfl h0 (fun p hp=>Fj (h p hp) (ht p hp)) (.inr fun p hp=>by unfold xr;cases p.2.held <;> exact ⟨_,_,rfl⟩)
  refine ⟨q,hq,by rw [if_pos rfl];exact e2,?_⟩;simp only [ba,d7,q1,z,aL,if_true,cU,e,bZ]
 | false =>
  have hc:bF 5 (cu (af 0)) (gT (g1 kn (aF (bf cs) (ae (af 0) (ae (bO cs.Jobs "wanted" (aB cs) (af 5) ao) ao))))) (af 5) aP [some (.list (ts.map (jD cs.Jobs))),some tops,some (.str len),none,none]=.ok ((ts.filter fun p=>kW (ts.map (·.2)) p.2).map (jD cs.Jobs)):=by
   rw [<-mj (ts:=ts) (f:=Cq cs [some (.list (ts.map (jD cs.Jobs))),some tops,some (.str len),none,none]) (fun p hp=>by have hh:=zb (cs:=cs) (x1:=some tops) (x2:=some (.str len)) (x3:=none) (x4:=none) h hp;unfold Cq;simp only [List.cons_append,List.nil_append,hh];exact vB)]
   refine mw rfl rfl (by rw [List.length_map];omega) fun d hd=>?_
   obtain ⟨p,hp,rfl⟩:=List.mem_map.mp hd;refine ⟨?_,rfl⟩;have hh:=zb (cs:=cs) (x1:=some tops) (x2:=some (.str len)) (x3:=none) (x4:=none) h hp;unfold Cq;simp only [List.cons_append,List.nil_append,hh];simp only [eU,gO,hh,Rs.aj,vH,Rs.ar,bN]
  have hn:=wd h0;have hj:(ts.map (·.2)).filter (kW (ts.map (·.2)))=(ts.filter fun p=>kW (ts.map (·.2)) p.2).map (·.2):=by rw [List.filter_map];rfl
  have hfr:∀ p∈ts.filter (fun p=>kW (ts.map (·.2)) p.2),p∈ts:=fun p hp=>(List.mem_filter.mp hp).1
  rw [hj];generalize (ts.filter fun p=>kW (ts.map (·.2)) p.2)=fr at hc hn hfr;have hlent:gIf (gT (g2 dEq (af 2) (gC (.str "asked")))) (aF (bV cs) (ae (af 0) ao)) (gC (cY [])) [some (.list (ts.map (jD cs.Jobs))),some tops,some (.str len),some (.list (fr.map (jD cs.Jobs))),none]=.ok (cY (if (len==("asked":Str))=true then zj (ts.map (·.2)) else [])):=by
   have q2:gT (g2 dEq (af 2) (gC (.str "asked"))) [some (.list (ts.map (jD cs.Jobs))),some tops,some (.str len),some (.list (fr.map (jD cs.Jobs))),none]=.ok (len=="asked"):=by simp only [eU,ck,ax,aC,dB,Rs.aj,eq_str hs.sh xf,Rs.ar,bN]
   unfold gIf;rw [q2];simp only [Rs.aj];cases (len==("asked":Str)) with
   | true=>simp only [if_true,cn,aM,aQ,ax,Rs.aj,EH h hl]
   | false=>simp
  generalize (if (len==("asked":Str))=true then zj (ts.map (·.2)) else [])=l at hlent;obtain ⟨q,hq,e2,e⟩:=mr (C:=cs.Jobs) (cap:=[4]) (ga:=af 3) (gb:=lX (af 1) (g1 (b9 cs.Jobs "number") (af 0)) (g1 (b9 cs.Jobs "rank") (af 0))) (δ:=[some (.list (ts.map (jD cs.Jobs))),some tops,some (.str len),some (.list (fr.map (jD cs.Jobs))),some (cY l)]) (key:=IQ l) rfl hn (fun p hp=>by have f1:b9 cs.Jobs "number" (jD cs.Jobs p)=some (.int p.2.num):=xt;have f2:b9 cs.Jobs "rank" (jD cs.Jobs p)=some (.int p.2.rank):=pD;show lX (af 1) (g1 (b9 cs.Jobs "number") (af 0)) (g1 (b9 cs.Jobs "rank") (af 0)) [some (jD cs.Jobs p),some (cY l)]=_;unfold lX;simp only [ax,aC,Rs.aj,sF,gO,f1,f2,Rs.ar];rfl) (.inl fun p hp=>⟨_,rfl⟩)
  refine ⟨q,hfr q hq,by rw [if_neg Bool.false_ne_true];exact e2,?_⟩;have s3:bj [] 3 (gL (bF 5 (cu (af 0)) (gT (g1 kn (aF (bf cs) (ae (af 0) (ae (bO cs.Jobs "wanted" (aB cs) (af 5) ao) ao))))) (af 5) aP)) [some (.list (ts.map (jD cs.Jobs))),some tops,some (.str len),none,none]=.nx [some (.list (ts.map (jD cs.Jobs))),some tops,some (.str len),some (.list (fr.map (jD cs.Jobs))),none]:=by rw [kO,pO,hc];rfl
  have s4:bj [] 4 (gIf (gT (g2 dEq (af 2) (gC (.str "asked")))) (aF (bV cs) (ae (af 0) ao)) (gC (cY []))) [some (.list (ts.map (jD cs.Jobs))),some tops,some (.str len),some (.list (fr.map (jD cs.Jobs))),none]=.nx [some (.list (ts.map (jD cs.Jobs))),some tops,some (.str len),some (.list (fr.map (jD cs.Jobs))),some (cY l)]:=by rw [kO,hlent];rfl
  simp only [ba,d7,q1,z,aL,Bool.false_eq_true,if_false,fB,s3,s4,cU,e,bZ]
theorem wq {C:Addr} {p:Addr×Jb} {nd:PyData} {a:Addr}:fF a nd (jD C p)=if p.1=a then nd else jD C p:=by
 have hf:=p.2.flat;have hp:jK ((PyData.str "",PyData.int (C:Int))::(PyData.str "@",PyData.int (p.1:Int))::p.2.fds.map fun x=>(PyData.str x.1,x.2))=some (p.1:Int):=by unfold jK;unfold gJ at hf;simp [hf]
 unfold jD Jb.d cN fF;rw [hp];by_cases z:p.1=a
 ·rw [if_pos z,if_pos (by rw [z])]
 ·have hz:¬ (some (p.1:Int)=some (a:Int)):=fun e=>z (Int.ofNat.inj (Option.some.inj e))
  rw [if_neg z,if_neg hz]
theorem zh {C a:Addr} {j:Jb}:∀ ts:List (Addr×Jb),jB a (jD C (a,j)) (ts.map (jD C))=(ts.map fun p=>if p.1=a then (a,j) else p).map (jD C)
 | []=>rfl
 | p::r=>by
  rw [List.map_cons,List.map_cons,List.map_cons];unfold jB;rw [zh r,wq];by_cases z:p.1=a
  ·rw [if_pos z,if_pos z]
  ·rw [if_neg z,if_neg z]
theorem Ai {C a:Addr} {j:Jb} {ts:List (Addr×Jb)}:fF a (jD C (a,j)) (.list (ts.map (jD C)))=.list ((ts.map fun p=>if p.1=a then (a,j) else p).map (jD C)):=by unfold fF;rw [zh]
mutual
theorem nK {a:Addr} {nd:PyData}:∀ d:PyData,aN d=true->fF a nd d=d
 | .none,_=>by unfold fF;rfl
 | .bool _,_=>by unfold fF;rfl
 | .int _,_=>by unfold fF;rfl
 | .str _,_=>by unfold fF;rfl
 | .list ds,h=>by unfold fF;rw [uj ds (by simpa [aN] using h)]
 | .tuple ds,h=>by unfold fF;rw [uj ds (by simpa [aN] using h)]
 | .dict _,h=>by simp [aN] at h
theorem uj {a:Addr} {nd:PyData}:∀ ds:List PyData,dw ds=true->jB a nd ds=ds
 | [],_=>by unfold jB;rfl
 | d::r,h=>by unfold dw at h;rw [Bool.and_eq_true] at h;unfold jB;rw [nK d h.1,uj r h.2]
end
theorem pP {C:Addr} {elt:Ds->Rs PyData} {δ:Ds} {k:Jb->PyData}:∀ (ts:List (Addr×Jb)),(∀ p∈ts,elt (δ++[some (jD C p)])=.ok (k p.2))->fc bu elt aP δ (ts.map (jD C))=.ok ((ts.map (·.2)).map k)
 | [],_=>rfl
 | p::r,h=>by
  have ih:=pP r fun e he=>h e (List.mem_cons_of_mem _ he)
  rw [List.map_cons];unfold fc;simp only [aP,bu,Rs.dM,Rs.aj,if_true,h p List.mem_cons_self];rw [ih];rfl
def Jb.done (j:Jb):Bool:=(j.job:Int)==(j.row.length:Int)
def rnD (C:Addr) (E R W tops:PyData) (len:Str) (qs:List (Addr×Jb)) (told:List PyData) (x7 x8:Option PyData):Ds:=[some E,some R,some W,some (.str len),some tops,some (.list (qs.map (jD C))),some (.list told),x7,x8]
section
variable {cs:Cs} {E R W tops:PyData} {len:Str} {qs:List (Addr×Jb)} {told:List PyData} {x7 x8:Option PyData}
theorem cond_of (hl:qs.length<=1000):g0 (gT (gF oT (ae (gL (bF 9 (cu (af 5)) bu (bO cs.Jobs "are_done" (bg cs) (af 9) ao) aP)) ao))) (rnD cs.Jobs E R W tops len qs told x7 x8)=.ok (!((qs.map (·.2)).all Jb.done)):=by
 have hc:bF 9 (cu (af 5)) bu (bO cs.Jobs "are_done" (bg cs) (af 9) ao) aP (rnD cs.Jobs E R W tops len qs told x7 x8)=.ok ((qs.map (·.2)).map fun j=>.bool j.done):=by
  unfold bF;rw [if_pos (show (rnD cs.Jobs E R W tops len qs told x7 x8).length=9 from rfl)];rw [show cu (af 5) (rnD cs.Jobs E R W tops len qs told x7 x8)=.ok (qs.map (jD cs.Jobs)) from rfl];simp only [Rs.aj];rw [if_pos (by rw [List.length_map];omega)];refine pP qs fun p hp=>?_
  show bO cs.Jobs "are_done" (bg cs) (af 9) ao [some E,some R,some W,some (.str len),some tops,some (.list (qs.map (jD cs.Jobs))),some (.list told),x7,x8,some (jD cs.Jobs p)]=_;unfold bO;simp only [ax,aC,Rs.aj];rw [if_pos (show isC cs.Jobs "are_done" (jD cs.Jobs p)=true from uO)];simp only [aQ,Rs.aj];exact vR
 have hf:=i0 Jb.done (qs.map (·.2));simp only [ux,eU,fU,aM,aQ,pO,hc,Rs.aj,hf,Rs.ar,bN]
def c7 (told:List PyData) (p:Addr×Jb):Bool:=p.2.there (told.length:Int)
theorem oK (h:∀ p∈qs,p.2.job<=p.2.row.length) {x6:Option PyData}:∀ (us:List (Addr×Jb)),(∀ p∈us,p∈qs) ->
  fR (gT (bO cs.Jobs "is_there" (aO cs) (af 9) (ae (gF bY (ae (af 6) ao)) ao))) (af 9) aP [some E,some R,some W,some (.str len),some tops,some (.list (qs.map (jD cs.Jobs))),x6,x7,x8] (rnD cs.Jobs E R W tops len qs told x7 x8) (us.map (jD cs.Jobs))=.ok ((us.filter (c7 told)).map (jD cs.Jobs))
 | [],_=>rfl
 | p::r,hu=>by
  have ih:=oK h (x6:=x6) r fun q hq=>hu q (List.mem_cons_of_mem _ hq)
  have hc:gT (bO cs.Jobs "is_there" (aO cs) (af 9) (ae (gF bY (ae (af 6) ao)) ao)) (rnD cs.Jobs E R W tops len qs told x7 x8++[some (jD cs.Jobs p)])=.ok (c7 told p):=by show gT (bO cs.Jobs "is_there" (aO cs) (af 9) (ae (gF bY (ae (af 6) ao)) ao)) [some E,some R,some W,some (.str len),some tops,some (.list (qs.map (jD cs.Jobs))),some (.list told),x7,x8,some (jD cs.Jobs p)]=_;rw [eU];unfold bO;simp only [ax,aC,Rs.aj];rw [if_pos (show isC cs.Jobs "is_there" (jD cs.Jobs p)=true from uY)];simp only [aM,aQ,fU,ax,aC,iK,Rs.ar,Rs.aj];rw [show aO cs [jD cs.Jobs p,.int (told.length:Int)]=_ from wo (h p (hu p List.mem_cons_self))];rfl
  rw [List.map_cons];unfold fR;rw [show aP (jD cs.Jobs p)=some [some (jD cs.Jobs p)] from rfl];simp only [hc,Rs.dM,Rs.aj];rw [List.filter_cons];cases c7 told p with
  | true =>simp only [if_true];rw [show af 9 ([some E,some R,some W,some (.str len),some tops,some (.list (qs.map (jD cs.Jobs))),x6,x7,x8]++[some (jD cs.Jobs p)])=.ok (jD cs.Jobs p) from rfl];simp only [Rs.dM,Rs.aj,ih];rfl
  | false=>simp only [Bool.false_eq_true,if_false,ih]
end
mutual
theorem kI:∀ d:PyData,aN d=true->objs d=true
 | .none,_=>by unfold objs;rfl
 | .bool _,_=>by unfold objs;rfl
 | .int _,_=>by unfold objs;rfl
 | .str _,_=>by unfold objs;rfl
 | .list ds,h=>by unfold objs;exact pM ds (by simpa [aN] using h)
 | .tuple ds,h=>by unfold objs;exact pM ds (by simpa [aN] using h)
 | .dict _,h=>by simp [aN] at h
theorem pM:∀ ds:List PyData,dw ds=true->kh ds=true
 | [],_=>by unfold kh;rfl
 | d::r,h=>by unfold dw at h;rw [Bool.and_eq_true] at h;unfold kh;rw [kI d h.1,pM r h.2];rfl
end
theorem yY {C:Addr} {p:Addr×Jb}:objs (jD C p)=true:=by unfold jD Jb.d;rw [vq];exact p.2.flat
theorem sV {C:Addr}:∀ ts:List (Addr×Jb),kh (ts.map (jD C))=true
 | []=>by unfold kh;rfl
 | p::r=>by rw [List.map_cons];unfold kh;rw [yY,sV r];rfl
theorem xG {C:Addr} {ts:List (Addr×Jb)}:objs (.list (ts.map (jD C)))=true:=by unfold objs;exact sV ts
section
variable {cs:Cs} {E R W tops:PyData} {len:Str} {qs ts:List (Addr×Jb)} {told:List PyData} {q:Addr×Jb} {as:List Addr}
structure NoD (E R W tops:PyData) (told:List PyData):Prop where
 e:aN E=true
 r:aN R=true
 w:aN W=true
 t:aN tops=true
 o:aN (.list told)=true
theorem Af (n:NoD E R W tops told) (ha:q.1∈as):oz as cs.Jobs 8 (rnD cs.Jobs E R W tops len qs told (some (.list (ts.map (jD cs.Jobs)))) (some (jD cs.Jobs q)))=some (q.1,q.2.fds):=by
 have h1:gP (rnD cs.Jobs E R W tops len qs told (some (.list (ts.map (jD cs.Jobs)))) (some (jD cs.Jobs q)))=true:=by
  unfold gP rnD;have hs:objs (.str len)=true:=by unfold objs;rfl
  simp only [List.all_cons,List.all_nil,Bool.and_true,kI _ n.e,kI _ n.r,kI _ n.w,kI _ n.t,kI _ n.o,hs,xG,yY,Bool.and_self]
 show (match objOf (jD cs.Jobs q) with | some (C',a',fds)=>if C'=cs.Jobs/\a'∈as/\gP (rnD cs.Jobs E R W tops len qs told (some (.list (ts.map (jD cs.Jobs)))) (some (jD cs.Jobs q)))=true/\gJ fds=true/\fds.length<1000 then some (a',fds) else none | none=>none)=_;rw [show objOf (jD cs.Jobs q)=some (cs.Jobs,q.1,q.2.fds) from ua _ _ _];exact if_pos ⟨rfl,ha,h1,q.2.flat,show 7<1000 by decide⟩
end
def uW (a:Addr) (j:Jb) (qs:List (Addr×Jb)):List (Addr×Jb):=qs.map fun p=>if p.1=a then (a,j) else p
section
variable {cs:Cs} {E R W tops:PyData} {len:Str} {qs ts:List (Addr×Jb)} {told:List PyData} {q:Addr×Jb} {as:List Addr}
theorem GG (n:NoD E R W tops told) {j:Jb}:lg q.1 (jD cs.Jobs (q.1,j)) (rnD cs.Jobs E R W tops len qs told (some (.list (ts.map (jD cs.Jobs)))) (some (jD cs.Jobs q)))=rnD cs.Jobs E R W tops len (uW q.1 j qs) told (some (.list ((uW q.1 j ts).map (jD cs.Jobs)))) (some (jD cs.Jobs (q.1,j))):=by
 have hs:fF q.1 (jD cs.Jobs (q.1,j)) (.str len)=.str len:=by unfold fF;rfl
 have hb:fF q.1 (jD cs.Jobs (q.1,j)) (jD cs.Jobs q)=jD cs.Jobs (q.1,j):=by rw [wq,if_pos rfl]
 unfold lg rnD uW;simp only [List.map_cons,List.map_nil,Option.map_some,nK _ n.e,nK _ n.r,nK _ n.w,nK _ n.t,nK _ n.o,hs,Ai,hb]
theorem EA (n:NoD E R W tops told) (ha:q.1∈as) (hp:q.2.part<q.2.parts.length):nV as cs.Jobs "go_on" 8 gm (rnD cs.Jobs E R W tops len qs told (some (.list (ts.map (jD cs.Jobs)))) (some (jD cs.Jobs q)))=.nx (rnD cs.Jobs E R W tops len (uW q.1 q.2.next qs) told (some (.list ((uW q.1 q.2.next ts).map (jD cs.Jobs)))) (some (jD cs.Jobs (q.1,q.2.next)))):=by unfold nV;rw [Af n ha];have hk:oE "go_on" q.2.fds=none:=rfl;simp only [hk,if_true,Fp hp];exact congrArg Sr.nx (GG (cs:=cs) (len:=len) (qs:=qs) (ts:=ts) (q:=q) (j:=q.2.next) n)
end
section
variable {cs:Cs} {E R W tops:PyData} {len:Str} {qs:List (Addr×Jb)} {told:List PyData} {x7 x8:Option PyData}
theorem Bh (hl:qs.length<=1000) (h:∀ p∈qs,p.2.job<=p.2.row.length):tF [6] 7 9 (cu (af 5)) (gT (bO cs.Jobs "is_there" (aO cs) (af 9) (ae (gF bY (ae (af 6) ao)) ao))) (af 9) aP (rnD cs.Jobs E R W tops len qs told x7 x8)=.nx (rnD cs.Jobs E R W tops len qs told (some (.list ((qs.filter (c7 told)).map (jD cs.Jobs)))) x8):=by
 have hm:mask [6] (rnD cs.Jobs E R W tops len qs told x7 x8)=[some E,some R,some W,some (.str len),some tops,some (.list (qs.map (jD cs.Jobs))),none,x7,x8]:=rfl;have hc:nU 9 (cu (af 5)) (gT (bO cs.Jobs "is_there" (aO cs) (af 9) (ae (gF bY (ae (af 6) ao)) ao))) (af 9) aP (mask [6] (rnD cs.Jobs E R W tops len qs told x7 x8)) (rnD cs.Jobs E R W tops len qs told x7 x8)=.ok ((qs.filter (c7 told)).map (jD cs.Jobs)):=by rw [hm];unfold nU;rw [if_pos (show [some E,some R,some W,some (.str len),some tops,some (.list (qs.map (jD cs.Jobs))),none,x7,x8].length=9 from rfl)];rw [show cu (af 5) [some E,some R,some W,some (.str len),some tops,some (.list (qs.map (jD cs.Jobs))),none,x7,x8]=.ok (qs.map (jD cs.Jobs)) from rfl];simp only [Rs.aj];rw [if_pos (by rw [List.length_map];omega)];exact oK h qs fun p hp=>hp
 unfold tF;rw [if_pos (show 7<(rnD cs.Jobs E R W tops len qs told x7 x8).length from (by decide:7<9)),hc];rfl
end
def dY (told:List PyData) (js:List Jb):List Jb:=js.filter fun j=>j.there (told.length:Int)
def fu (b:Jb) (js:List Jb):List Jb:=js.map fun j=>if j.num=b.num then b.next else j
def eC (b:Jb):PyData:=.tuple [.int b.num,.int (b.job:Int)]
def gM (tops:PyData) (len:Str) (s:List Jb×List PyData):List Jb×List PyData :=
 if dY s.2 s.1=[] then (s.1,s.2++[.none]) else (fu (rD tops len (dY s.2 s.1)) s.1,s.2++[eC (rD tops len (dY s.2 s.1))])
structure QOk (as:List Addr) (qs:List (Addr×Jb)):Prop where
 few:qs.length<=1000
 pl:qs.map (·.1)=as
 nda:as.Nodup
 ndn:(qs.map (·.2.num)).Nodup
 pt:∀ p∈qs,p.2.part<p.2.parts.length
 jb:∀ p∈qs,p.2.job<=p.2.row.length
theorem nv {α β:Type} {f:α->β}:∀ {l:List α},(l.map f).Nodup->∀ x∈l,∀ y∈l,f x=f y->x=y
 | [],_,x,hx,_,_,_=>by cases hx
 | a::r,h,x,hx,y,hy,e=>by
  rw [List.map_cons,List.nodup_cons] at h;rcases List.mem_cons.mp hx with rfl | hx
  ·rcases List.mem_cons.mp hy with rfl | hy
   ·rfl
   ·exact (h.1 (List.mem_map.mpr ⟨y,by assumption,e.symm⟩)).elim
  ·rcases List.mem_cons.mp hy with rfl | hy
   ·exact (h.1 (List.mem_map.mpr ⟨x,by assumption,e⟩)).elim
   ·exact nv h.2 x hx y hy e
def rnB (cs:Cs) (as:List Addr):Ds->Sr:=(aK (tF [6] 7 9 (cu (af 5)) (gT (bO cs.Jobs "is_there" (aO cs) (af 9) (ae (gF bY (ae (af 6) ao)) ao))) (af 9) aP)
 (sIf (gT (g2 dEq (gF bY (ae (af 7) ao)) (gC (.int 0)))) (lC [6] 6 (gC .none)) (aK (bj [6] 8 (aF (de cs) (ae (af 7) (ae (af 4) (ae (af 3) ao)))))
 (aK (lC [6] 6 (jA (ae (g1 (b9 cs.Jobs "number") (af 8)) (ae (g1 (b9 cs.Jobs "job") (af 8)) ao))))
 (nV as cs.Jobs "go_on" 8 gm)))))
section
variable {cs:Cs} {E R W tops:PyData} {len:Str} {qs:List (Addr×Jb)} {told:List PyData} {as:List Addr}
theorem v8:(qs.filter (c7 told)).map (·.2)=dY told (qs.map (·.2)):=by unfold dY;rw [List.filter_map];rfl
theorem Ei (K:QOk as qs) {q:Addr×Jb} (hq:q∈qs) {j:Jb} (hj:j=q.2.next):(uW q.1 j qs).map (·.2)=fu q.2 (qs.map (·.2)):=by
 unfold uW fu;rw [List.map_map,List.map_map];refine List.map_congr_left fun p hp=>?_
 show (if p.1=q.1 then (q.1,j) else p).2=if p.2.num=q.2.num then q.2.next else p.2
 by_cases z:p.1=q.1
 ·have:p=q:=nv (f:=(·.1)) (by rw [K.pl];exact K.nda) p hp q hq z;rw [if_pos z,if_pos (by rw [this]),hj]
 ·have:p.2.num≠q.2.num:=fun e=>z (by rw [nv (f:=fun x:Addr×Jb=>x.2.num) K.ndn p hp q hq e])
  rw [if_neg z,if_neg this]
theorem Fg {a:Addr} {j:Jb}:(uW a j qs).map (·.1)=qs.map (·.1):=by
 unfold uW;rw [List.map_map];refine List.map_congr_left fun p hp=>?_
 show (if p.1=a then (a,j) else p).1=p.1;by_cases z:p.1=a
 ·rw [if_pos z,z]
 ·rw [if_neg z]
theorem DD (K:QOk as qs) (n:NoD E R W tops told) (hs:rC len) (ht:∀ p∈qs,∀ t,p.2.held=some t->∃ n:Int,dIx tops (.int t)=some (.int n)) (hl:told.length<1000000) (x7 x8:Option PyData) :
  ∃ qs' y7 y8,rnB cs as (rnD cs.Jobs E R W tops len qs told x7 x8)=.nx (rnD cs.Jobs E R W tops len qs' (gM tops len (qs.map (·.2),told)).2 y7 y8)/\qs'.map (·.1)=qs.map (·.1)/\qs'.map (·.2)=(gM tops len (qs.map (·.2),told)).1:=by
 have hset:=Bh (cs:=cs) (E:=E) (R:=R) (W:=W) (tops:=tops) (len:=len) (told:=told) (x7:=x7) (x8:=x8) K.few K.jb;have hc:gT (g2 dEq (gF bY (ae (af 7) ao)) (gC (.int 0))) (rnD cs.Jobs E R W tops len qs told (some (.list ((qs.filter (c7 told)).map (jD cs.Jobs)))) x8)=.ok (((qs.filter (c7 told)).length:Int)==0):=by unfold rnD;simp only [eU,ck,fU,aM,aQ,ax,aC,dB,Rs.aj,iK,List.length_map,Rs.ar,jC,bN]
 unfold rnB gM;simp only [ba,hset];have hth:=v8 (qs:=qs) (told:=told);by_cases z:qs.filter (c7 told)=[]
 ·have ez:(((qs.filter (c7 told)).length:Int)==0)=true:=by rw [z];rfl
  have hz:dY told (qs.map (·.2))=[]:=by rw [<-hth,z];rfl
  rw [if_pos hz,d7,hc];simp only [ez,aL,if_true];refine ⟨qs,some (.list ((qs.filter (c7 told)).map (jD cs.Jobs))),x8,?_,rfl,rfl⟩;show (if told.length<1000000 then Sr.nx _ else Sr.no)=_;rw [if_pos hl];rfl
 ·have ez:(((qs.filter (c7 told)).length:Int)==0)=false:=by rw [beq_eq_false_iff_ne];have:=List.length_pos_iff.mpr z;omega
  have hz:¬ dY told (qs.map (·.2))=[]:=fun e=>z (by rw [<-hth] at e;exact List.map_eq_nil_iff.mp e)
  have hsub:∀ p∈qs.filter (c7 told),p∈qs:=fun p hp=>(List.mem_filter.mp hp).1
  obtain ⟨q,hq,e2,e⟩:=Ar (cs:=cs) (tops:=tops) z (Nat.le_trans (List.length_filter_le _ _) K.few) (fun p hp=>K.pt p (hsub p hp)) (fun p hp=>ht p (hsub p hp)) hs;rw [hth] at e2;rw [if_neg hz,d7,hc];simp only [ez,aL,Bool.false_eq_true,if_false];have s8:bj [6] 8 (aF (de cs) (ae (af 7) (ae (af 4) (ae (af 3) ao)))) (rnD cs.Jobs E R W tops len qs told (some (.list ((qs.filter (c7 told)).map (jD cs.Jobs)))) x8)=.nx (rnD cs.Jobs E R W tops len qs told (some (.list ((qs.filter (c7 told)).map (jD cs.Jobs)))) (some (jD cs.Jobs q))):=by have hg:aF (de cs) (ae (af 7) (ae (af 4) (ae (af 3) ao))) (mask [6] (rnD cs.Jobs E R W tops len qs told (some (.list ((qs.filter (c7 told)).map (jD cs.Jobs)))) x8))=.ok (jD cs.Jobs q):=e;unfold bj;rw [if_pos (show 8<(rnD cs.Jobs E R W tops len qs told (some (.list ((qs.filter (c7 told)).map (jD cs.Jobs)))) x8).length from (by decide:8<9)),hg];rfl
  have f1:b9 cs.Jobs "number" (jD cs.Jobs q)=some (.int q.2.num):=xt;have f2:b9 cs.Jobs "job" (jD cs.Jobs q)=some (.int (q.2.job:Int)):=uN;have s6:lC [6] 6 (jA (ae (g1 (b9 cs.Jobs "number") (af 8)) (ae (g1 (b9 cs.Jobs "job") (af 8)) ao))) (rnD cs.Jobs E R W tops len qs told (some (.list ((qs.filter (c7 told)).map (jD cs.Jobs)))) (some (jD cs.Jobs q)))=.nx (rnD cs.Jobs E R W tops len qs (told++[eC q.2]) (some (.list ((qs.filter (c7 told)).map (jD cs.Jobs)))) (some (jD cs.Jobs q))):=by
   have hg:jA (ae (g1 (b9 cs.Jobs "number") (af 8)) (ae (g1 (b9 cs.Jobs "job") (af 8)) ao)) (mask [6] (rnD cs.Jobs E R W tops len qs told (some (.list ((qs.filter (c7 told)).map (jD cs.Jobs)))) (some (jD cs.Jobs q))))=.ok (eC q.2):=by show jA _ [some E,some R,some W,some (.str len),some tops,some (.list (qs.map (jD cs.Jobs))),none,some (.list ((qs.filter (c7 told)).map (jD cs.Jobs))),some (jD cs.Jobs q)]=_;simp only [mR,aM,aQ,gO,ax,aC,Rs.aj,f1,f2,Rs.ar];rfl
   show ofR (jA _ (mask [6] _)) (fun d=>if told.length<1000000 then Sr.nx _ else Sr.no)=_;rw [hg];show (if told.length<1000000 then Sr.nx _ else Sr.no)=_;rw [if_pos hl];rfl
  have n':NoD E R W tops (told++[eC q.2]):=⟨n.e,n.r,n.w,n.t,by
   have h1:=n.o;refine fO fun d hd=>?_
   rcases List.mem_append.mp hd with hd | hd
   ·exact jf (by simpa [aN] using h1) d hd
   ·rw [List.mem_singleton.mp hd];rfl⟩
  have ha:q.1∈as:=by rw [<-K.pl];exact List.mem_map.mpr ⟨q,hsub q hq,rfl⟩
  have s9:=EA (cs:=cs) (len:=len) (qs:=qs) (ts:=qs.filter (c7 told)) n' ha (K.pt q (hsub q hq));simp only [ba,s8,s6,s9];rw [<-e2];exact ⟨_,_,_,rfl,Fg,Ei K (hsub q hq) rfl⟩
end
structure JOk (tops:PyData) (j:Jb):Prop where
 pt:j.part<j.parts.length
 jb:j.job<=j.row.length
 ln:∀ p∈j.parts,1<=p.1
 sp:(j.spent:Int)<j.len
 tl:∀ p∈j.parts,∀ t,p.2=some t->∃ n:Int,dIx tops (.int t)=some (.int n)
theorem JOk.held {tops:PyData} {j:Jb} (h:JOk tops j):∀ t,j.held=some t->∃ n:Int,dIx tops (.int t)=some (.int n):=by
 intro t e;have hpt:=h.pt;have hp:j.parts[j.part]?=some j.parts[j.part]:=List.getElem?_eq_getElem h.pt;unfold Jb.held Jb.tool at e;rw [hp] at e;by_cases z:j.spent=0
 ·rw [if_pos z] at e;cases e
 ·rw [if_neg z] at e;exact h.tl _ (List.getElem_mem h.pt) t e
theorem len_pos {tops:PyData} {j:Jb} (h:∀ p∈j.parts,1<=p.1) (hp:j.part<j.parts.length):1<=j.len:=by unfold Jb.len;rw [List.getElem?_eq_getElem hp];exact h _ (List.getElem_mem hp)
theorem Ej {tops:PyData} {j:Jb} (h:JOk tops j) (hj:j.job<j.row.length):JOk tops j.next:=by
 have hpos:0<j.parts.length:=Nat.lt_of_le_of_lt (Nat.zero_le _) h.pt;have hsp:=h.sp;unfold Jb.next Jb.step1;by_cases z:(j.spent:Int)+1=j.len
 ·rw [if_pos z];unfold Jb.step2;by_cases y:j.part+1=j.parts.length
  ·rw [if_pos (show ({ j with spent:=0,part:=j.part+1 }:Jb).part=({ j with spent:=0,part:=j.part+1 }:Jb).parts.length from y)];refine ⟨hpos,hj,h.ln,?_,h.tl⟩;have:=len_pos (tops:=tops) (j:={ j with spent:=0,part:=0,job:=j.job+1 }) h.ln hpos;show (0:Int)<_;exact Int.lt_of_lt_of_le (by decide) this
  ·rw [if_neg (show ¬ ({ j with spent:=0,part:=j.part+1 }:Jb).part=({ j with spent:=0,part:=j.part+1 }:Jb).parts.length from y)];have hlt:j.part+1<j.parts.length:=by have:=h.pt;omega
   refine ⟨hlt,h.jb,h.ln,?_,h.tl⟩;have:=len_pos (tops:=tops) (j:={ j with spent:=0,part:=j.part+1 }) h.ln hlt;show (0:Int)<_;exact Int.lt_of_lt_of_le (by decide) this
 ·rw [if_neg z];unfold Jb.step2;rw [if_neg (show ¬ ({ j with spent:=j.spent+1 }:Jb).part=({ j with spent:=j.spent+1 }:Jb).parts.length from Nat.ne_of_lt h.pt)];refine ⟨h.pt,h.jb,h.ln,?_,h.tl⟩;show ((j.spent+1:Nat):Int)<j.len;omega
theorem tR {key:Jb->PyData} {js:List Jb} (h:js≠[]):sW key js∈js:=by
 have hl:0<js.length:=List.length_pos_iff.mpr h;have hb:=yB (fun i j=>ltD ((js.map key).getD i .none) ((js.map key).getD j .none)) (js.length-1);have hlt:p4 (js.map key)<js.length:=by unfold p4;rw [List.length_map];omega
 unfold sW;rw [List.getD_eq_getElem?_getD,List.getElem?_eq_getElem hlt];exact List.getElem_mem hlt
theorem tT {tops:PyData} {len:Str} {js:List Jb} (h:js≠[]):rD tops len js∈js:=by
 unfold rD;split
 ·exact tR h
 ·have hn:=wd (ts:=js.map fun j=>((0:Addr),j)) (by simpa using h);have hm:(js.map fun j=>((0:Addr),j)).map (·.2)=js:=by rw [List.map_map];exact List.map_id js
  rw [hm] at hn;have hf:js.filter (kW js)≠[]:=by
   obtain ⟨p,r,e⟩:=List.exists_cons_of_ne_nil hn;have hp:p∈(js.map fun j=>((0:Addr),j)).filter (fun p=>kW js p.2):=by rw [e];exact List.mem_cons_self
   obtain ⟨h1,h2⟩:=List.mem_filter.mp hp;obtain ⟨j,hj,rfl⟩:=List.mem_map.mp h1;exact List.ne_nil_of_mem (List.mem_filter.mpr ⟨hj,h2⟩)
  exact (List.mem_filter.mp (tR hf)).1
theorem lY {j:Jb} {t:Int} (h:j.there t=true):j.job<j.row.length:=by
 unfold Jb.there at h;by_cases z:j.job<j.row.length
 ·exact z
 ·rw [List.getElem?_eq_none (by omega)] at h;cases h
theorem xi (j:Jb):j.next.num=j.num:=by unfold Jb.next Jb.step1 Jb.step2;split <;> split <;> rfl
structure vc (tops:PyData) (js:List Jb):Prop where
 ok:∀ j∈js,JOk tops j
 nd:(js.map (·.num)).Nodup
theorem Ao {b:Jb} {js:List Jb}:(fu b js).map (·.num)=js.map (·.num):=by
 unfold fu;rw [List.map_map];refine List.map_congr_left fun j hj=>?_
 show (if j.num=b.num then b.next else j).num=j.num;by_cases z:j.num=b.num
 ·rw [if_pos z,xi,z]
 ·rw [if_neg z]
theorem uH {tops:PyData} {len:Str} {js:List Jb} {told:List PyData} (h:vc tops js):vc tops (gM tops len (js,told)).1:=by
 unfold gM;by_cases z:dY told js=[]
 ·rw [if_pos z];exact h
 ·rw [if_neg z];have hb:=tT (tops:=tops) (len:=len) z;obtain ⟨hm,ht⟩:=List.mem_filter.mp hb;refine ⟨fun j hj=>?_,by rw [Ao];exact h.nd⟩;obtain ⟨k,hk,rfl⟩:=List.mem_map.mp hj;by_cases y:k.num=(rD tops len (dY told js)).num
  ·simp only [y,if_true];exact Ej (h.ok _ hm) (lY ht)
  ·simp only [if_neg y];exact h.ok k hk
def vW (tops:PyData) (len:Str):Nat->List Jb×List PyData->Option (List PyData)
 | 0,_=>none
 | n+1,s=>if s.1.all Jb.done=true then some s.2 else vW tops len n (gM tops len s)
def rnC (cs:Cs):Ds->Rs Bool:=g0 (gT (gF oT (ae (gL (bF 9 (cu (af 5)) bu (bO cs.Jobs "are_done" (bg cs) (af 9) ao) aP)) ao)))
theorem BJ {tops:PyData} {len:Str} {s:List Jb×List PyData}:(gM tops len s).2.length=s.2.length+1:=by unfold gM;split <;> simp
theorem xZ {tops:PyData} {len:Str} {s:List Jb×List PyData} (h:aN (.list s.2)=true):aN (.list (gM tops len s).2)=true:=by
 have h1:∀ d∈s.2,aN d=true:=jf (by simpa [aN] using h);refine fO fun d hd=>?_
 unfold gM at hd;split at hd
 ·rcases List.mem_append.mp hd with hd | hd
  ·exact h1 d hd
  ·rw [List.mem_singleton.mp hd];rfl
 ·rcases List.mem_append.mp hd with hd | hd
  ·exact h1 d hd
  ·rw [List.mem_singleton.mp hd];rfl
section
variable {cs:Cs} {E R W tops:PyData} {len:Str} {as:List Addr}
theorem Hi {qs:List (Addr×Jb)} (hl:qs.length<=1000) (hp:qs.map (·.1)=as) (nd:as.Nodup) (h:vc tops (qs.map (·.2))):QOk as qs:=by
 have hm:∀ p∈qs,JOk tops p.2:=fun p hp=>h.ok _ (List.mem_map.mpr ⟨p,hp,rfl⟩)
 refine ⟨hl,hp,nd,?_,fun p hp=>(hm p hp).pt,fun p hp=>(hm p hp).jb⟩;have:=h.nd;rw [List.map_map] at this;exact this
theorem vK (hs:rC len) (nd:as.Nodup):∀ (n:Nat) (qs:List (Addr×Jb)) (told t:List PyData) (x7 x8:Option PyData),qs.length<=1000->qs.map (·.1)=as->vc tops (qs.map (·.2))->NoD E R W tops told->told.length+n<=1000000->vW tops len n (qs.map (·.2),told)=some t ->
  ∃ qs' y7 y8,cO (rnC cs) (rnB cs as) n (rnD cs.Jobs E R W tops len qs told x7 x8)=.nx (rnD cs.Jobs E R W tops len qs' t y7 y8)
 | 0,_,_,_,_,_,_,_,_,_,_,h=>by cases h
 | n+1,qs,told,t,x7,x8,hl,hp,hj,no,hn,h=>by
  have K:=Hi hl hp nd hj;have hc:rnC cs (rnD cs.Jobs E R W tops len qs told x7 x8)=.ok (!((qs.map (·.2)).all Jb.done)):=cond_of hl;unfold vW at h;unfold cO;rw [hc];simp only [aL];cases z:(qs.map (·.2)).all Jb.done with
  | true =>rw [if_pos z] at h;cases h;simp only [Bool.not_true,Bool.false_eq_true,if_false];exact ⟨qs,x7,x8,rfl⟩
  | false =>
   rw [if_neg (by rw [z];exact Bool.false_ne_true)] at h;simp only [Bool.not_false,if_true];obtain ⟨qs',y7,y8,e,f1,f2⟩:=DD (cs:=cs) K no hs (fun p hp=>(hj.ok _ (List.mem_map.mpr ⟨p,hp,rfl⟩)).held) (by omega) x7 x8;rw [e];have hl':qs'.length<=1000:=by have:=congrArg List.length f1;rw [List.length_map,List.length_map] at this;omega
   refine vK hs nd n qs' _ t y7 y8 hl' (by rw [f1];exact hp) (by rw [f2];exact uH hj) ⟨no.e,no.r,no.w,no.t,xZ (s:=(qs.map (·.2),told)) no.o⟩ (by rw [BJ];show told.length+1+n<=_;omega) ?_;rw [f2];exact h
end
def cK (ps:List (Int×Option Int)):Int:=(ps.map (·.1)).sum
theorem fN (p:Int×Option Int) (r:List (Int×Option Int)):cK (p::r)=p.1+cK r:=by unfold cK;rw [List.map_cons,List.sum_cons]
def Jb.work (j:Jb):Int:=cK j.parts
def Jb.cur (j:Jb):Int:=cK (j.parts.take j.part)+j.spent
def Jb.tot (j:Jb):Int:=j.job*j.work+j.cur
theorem ni:∀ {ps:List (Int×Option Int)} {k:Nat} (h:k<ps.length),cK (ps.take (k+1))=cK (ps.take k)+ps[k].1
 | [],k,h=>by cases h
 | p::r,0,_=>by rw [List.take_succ_cons,List.take_zero,fN];show p.1+cK []=cK []+p.1;omega
 | p::r,k+1,h=>by
  have hk:k<r.length:=by simpa using h
  have ih:=ni (ps:=r) (k:=k) hk;rw [List.take_succ_cons,List.take_succ_cons,fN,fN,ih];show p.1+(cK (r.take k)+r[k].1)=p.1+cK (r.take k)+r[k].1;omega
theorem qZ {tops:PyData} {j:Jb} (h:JOk tops j):j.next.tot=j.tot+1:=by
 have hpt:=h.pt;have hlen:j.len=j.parts[j.part].1:=by unfold Jb.len;rw [List.getElem?_eq_getElem h.pt];rfl
 have ht:=ni h.pt;unfold Jb.next Jb.step1;by_cases z:(j.spent:Int)+1=j.len
 ·rw [if_pos z];unfold Jb.step2;by_cases y:j.part+1=j.parts.length
  ·rw [if_pos (show ({ j with spent:=0,part:=j.part+1 }:Jb).part=({ j with spent:=0,part:=j.part+1 }:Jb).parts.length from y)];have hw:cK (j.parts.take (j.part+1))=cK j.parts:=by rw [y,List.take_length]
   show ((j.job+1:Nat):Int)*cK j.parts+(cK (j.parts.take 0)+((0:Nat):Int))=(j.job:Int)*cK j.parts+(cK (j.parts.take j.part)+(j.spent:Int))+1;have e0:cK (j.parts.take 0)=0:=rfl;have e1:((j.job+1:Nat):Int)*cK j.parts=(j.job:Int)*cK j.parts+cK j.parts:=by rw [Int.natCast_add,Int.add_mul];simp
   rw [e0,e1];omega
  ·rw [if_neg (show ¬ ({ j with spent:=0,part:=j.part+1 }:Jb).part=({ j with spent:=0,part:=j.part+1 }:Jb).parts.length from y)];show (j.job:Int)*cK j.parts+(cK (j.parts.take (j.part+1))+((0:Nat):Int))=(j.job:Int)*cK j.parts+(cK (j.parts.take j.part)+(j.spent:Int))+1;omega
 ·rw [if_neg z];unfold Jb.step2;rw [if_neg (show ¬ ({ j with spent:=j.spent+1 }:Jb).part=({ j with spent:=j.spent+1 }:Jb).parts.length from Nat.ne_of_lt h.pt)];show (j.job:Int)*cK j.parts+(cK (j.parts.take j.part)+((j.spent+1:Nat):Int))=(j.job:Int)*cK j.parts+(cK (j.parts.take j.part)+(j.spent:Int))+1;omega
theorem oh:∀ (a b:List (Int×Option Int)),cK (a++b)=cK a+cK b
 | [],b=>by show cK b=0+cK b;omega
 | p::r,b=>by rw [List.cons_append,fN,fN,oh r b];omega
theorem pz:∀ {ps:List (Int×Option Int)},(∀ p∈ps,1<=p.1)->0<=cK ps
 | [],_=>Int.le_refl 0
 | p::r,h=>by
  have:=h p List.mem_cons_self;have ih:=pz (ps:=r) fun q hq=>h q (List.mem_cons_of_mem _ hq)
  rw [fN];omega
theorem u4 {ps:List (Int×Option Int)} (h:∀ p∈ps,1<=p.1) (k:Nat):cK (ps.take k)<=cK ps:=by
 have e:=oh (ps.take k) (ps.drop k);rw [List.take_append_drop] at e;have:=pz (ps:=ps.drop k) fun q hq=>h q (List.mem_of_mem_drop hq)
 omega
theorem oC {tops:PyData} {j:Jb} (h:JOk tops j):0<=j.cur/\j.cur<j.work:=by
 have hpt:=h.pt;have hlen:j.len=j.parts[j.part].1:=by unfold Jb.len;rw [List.getElem?_eq_getElem h.pt];rfl
 have ht:=ni h.pt;have h1:=u4 h.ln (j.part+1);have h2:=pz (ps:=j.parts.take j.part) fun q hq=>h.ln q (List.mem_of_mem_take hq)
 have h3:=h.sp;unfold Jb.cur Jb.work;omega
theorem B6 {tops:PyData} {j:Jb} (h:JOk tops j) {k:Nat} (hj:j.job<k):j.tot<(k:Int)*j.work:=by obtain ⟨c0,c1⟩:=oC h;have:=Int.mul_le_mul_of_nonneg_right (a:=(j.job:Int)+1) (b:=(k:Int)) (c:=j.work) (by omega) (by omega);rw [Int.add_mul,Int.one_mul] at this;unfold Jb.tot;omega
theorem jL (j:Jb):j.next.row=j.row:=by unfold Jb.next Jb.step1 Jb.step2;split <;> split <;> rfl
theorem qT (j:Jb):j.next.parts=j.parts:=by unfold Jb.next Jb.step1 Jb.step2;split <;> split <;> rfl
def Jb.left (j:Jb):Nat:=((j.row.length:Int)*j.work-j.tot).toNat
theorem tj (j:Jb):j.next.work=j.work:=by unfold Jb.work;rw [qT]
theorem AI {tops:PyData} {j:Jb} (h:JOk tops j) (hj:j.job<j.row.length):j.next.left+1=j.left:=by have h1:=qZ h;have h2:=B6 h hj;unfold Jb.left;rw [jL,tj,h1];omega
theorem zt {b:Jb}:∀ {r:List Jb},(∀ k∈r,k.num≠b.num)->fu b r=r
 | [],_=>rfl
 | k::t,h=>by show (if k.num=b.num then b.next else k)::fu b t=_;rw [if_neg (h k List.mem_cons_self),zt fun x hx=>h x (List.mem_cons_of_mem _ hx)]
theorem nM {b:Jb} {j:Jb} {r:List Jb} (nd:((j::r).map (·.num)).Nodup) (hb:b∈j::r):(j=b/\fu b (j::r)=b.next::r)\/(j.num≠b.num/\b∈r/\fu b (j::r)=j::fu b r):=by
 rw [List.map_cons,List.nodup_cons] at nd;have e:fu b (j::r)=(if j.num=b.num then b.next else j)::fu b r:=rfl;by_cases z:j.num=b.num
 ·left;have hj:j=b:=by
   rcases List.mem_cons.mp hb with h | h
   ·exact h.symm
   ·exact (nd.1 (List.mem_map.mpr ⟨b,h,z.symm⟩)).elim
  refine ⟨hj,?_⟩;rw [e,if_pos z,zt fun k hk q=>nd.1 (List.mem_map.mpr ⟨k,hk,q.trans z.symm⟩)]
 ·right;refine ⟨z,?_,by rw [e,if_neg z]⟩;rcases List.mem_cons.mp hb with h | h
  ·exact (z (by rw [h])).elim
  ·exact h
theorem vG {f:Jb->Nat} {b:Jb}:∀ {js:List Jb},(js.map (·.num)).Nodup->b∈js->f b.next+1=f b->((fu b js).map f).sum+1=(js.map f).sum
 | [],_,hb,_=>by cases hb
 | j::r,nd,hb,hf=>by
  rcases nM nd hb with ⟨hj,e⟩ | ⟨_,hb',e⟩
  ·rw [e,List.map_cons,List.map_cons,List.sum_cons,List.sum_cons,hj];omega
  ·rw [List.map_cons,List.nodup_cons] at nd;have:=vG nd.2 hb' hf;rw [e,List.map_cons,List.map_cons,List.sum_cons,List.sum_cons];omega
def za (js:List Jb):Nat:=(js.map Jb.left).sum
theorem pQ {b k:Jb} {js:List Jb} (hb:b∈js) (hk:k∈fu b js):k∈js\/k=b.next:=by
 obtain ⟨j,hj,rfl⟩:=List.mem_map.mp hk;by_cases z:j.num=b.num
 ·right;exact if_pos z
 ·left;rw [if_neg z];exact hj
theorem mX {tops:PyData} {len:Str} {js:List Jb} {told:List PyData} (z:dY told js=[]):gM tops len (js,told)=(js,told++[.none]):=by unfold gM;exact if_pos z
theorem nH {tops:PyData} {len:Str} {js:List Jb} {told:List PyData} (z:dY told js≠[]):∃ b,b∈js/\b.there (told.length:Int)=true/\gM tops len (js,told)=(fu b js,told++[eC b]):=by obtain ⟨hm,ht⟩:=List.mem_filter.mp (tT (tops:=tops) (len:=len) z);refine ⟨_,hm,ht,?_⟩;unfold gM;exact if_neg z
theorem DQ {tops:PyData} {j:Jb} (h:JOk tops j) (hd:j.done=false):j.job<j.row.length:=by have:=h.jb;unfold Jb.done at hd;rw [beq_eq_false_iff_ne] at hd;omega
theorem pZ {tops:PyData} {len:Str} {B:Nat}:∀ (n:Nat) (js:List Jb) (told:List PyData),vc tops js->(∀ j∈js,∀ c∈j.row,c<(B:Int))->za js+(B-told.length)<n->∃ t,vW tops len n (js,told)=some t
 | 0,_,_,_,_,hn=>by omega
 | n+1,js,told,h,hr,hn=>by
  unfold vW;by_cases z:js.all Jb.done=true
  ·exact ⟨told,if_pos z⟩
  ·rw [if_neg (show ¬ ((js,told).1.all Jb.done=true) from z)];by_cases y:dY told js=[]
   ·rw [mX y];refine pZ n js _ h hr ?_;rw [List.all_eq_true] at z;obtain ⟨j,hj⟩:=Classical.not_forall.mp z;obtain ⟨hm,hd⟩:=Classical.not_imp.mp hj;have hlt:=DQ (h.ok j hm) (Bool.eq_false_iff.mpr hd);have hc:=hr j hm _ (List.getElem_mem hlt);have ht:¬ j.there (told.length:Int)=true:=fun e=>by have:j∈dY told js:=List.mem_filter.mpr ⟨hm,e⟩;rw [y] at this;cases this
    unfold Jb.there at ht;rw [List.getElem?_eq_getElem hlt] at ht;simp only [decide_eq_true_eq] at ht;rw [List.length_append,List.length_singleton];omega
   ·obtain ⟨b,hb,ht,e⟩:=nH (tops:=tops) (len:=len) y;have ok':=uH (len:=len) (told:=told) h;rw [e] at ok' ⊢;have hs:=vG (f:=Jb.left) h.nd hb (AI (h.ok _ hb) (lY ht));refine pZ (B:=B) n _ _ ok' (fun k hk=>?_) ?_
    ·rcases pQ hb hk with hk | rfl
     ·exact hr k hk
     ·rw [jL];exact hr b hb
    ·rw [List.length_append,List.length_singleton];unfold za at hn ⊢;omega
def iV (r:List Int) (t:Int):Nat:=(r.filter fun c=>decide (c<=t)).length
theorem fT (a:Int) (s:List Int) (t:Int):iV (a::s) t=(if a<=t then 1 else 0)+iV s t:=by
 unfold iV;rw [List.filter_cons];by_cases z:a<=t
 ·rw [if_pos (decide_eq_true z),if_pos z,List.length_cons];omega
 ·rw [if_neg (by simpa using z),if_neg z];omega
theorem vz (r:List Int) (t:Int):iV r t<=r.length:=List.length_filter_le _ _
theorem sN {t u:Int} (h:t<=u):∀ r:List Int,iV r t<=iV r u
 | []=>Nat.le_refl _
 | a::s=>by
  have ih:=sN h s;rw [fT,fT];by_cases z:a<=t
  ·rw [if_pos z,if_pos (by omega)];omega
  ·rw [if_neg z];omega
theorem tL {t:Int}:∀ {r:List Int},(∀ c∈r,t<c)->iV r t=0
 | [],_=>rfl
 | a::s,h=>by have:=h a List.mem_cons_self;rw [fT,if_neg (by omega),tL fun c hc=>h c (List.mem_cons_of_mem _ hc)]
theorem yW {t:Int}:∀ {r:List Int} {k:Nat} (hk:k<r.length),r.Pairwise (· < ·)->t<r[k]->iV r t<=k
 | [],_,hk,_,_=>by cases hk
 | a::s,0,_,hp,h=>by rw [List.pairwise_cons] at hp;have h:t<a:=h;have:=hp.1;rw [fT,if_neg (by omega),tL fun c hc=>Int.lt_trans h (this c hc)];exact Nat.le_refl _
 | a::s,k+1,hk,hp,h=>by
  rw [List.pairwise_cons] at hp;have hk':k<s.length:=by simpa using hk
  have ih:=yW hk' hp.2 (show t<s[k] from h);rw [fT];split <;> omega
theorem yR {t:Int}:∀ {r:List Int} {k:Nat} (hk:k<r.length),r.Pairwise (· < ·)->r[k]<=t->k<iV r t
 | [],_,hk,_,_=>by cases hk
 | a::s,0,_,hp,h=>by have h:a<=t:=h;rw [fT,if_pos h];omega
 | a::s,k+1,hk,hp,h=>by
  rw [List.pairwise_cons] at hp;have hk':k<s.length:=by simpa using hk
  have h:s[k]<=t:=h;have ih:=yR hk' hp.2 h;have:=hp.1 _ (List.getElem_mem hk');rw [fT,if_pos (by omega)];omega
def dF (t:Int) (j:Jb):Int:=(iV j.row t:Int)*j.work-j.tot
structure IvJ (tops:PyData) (t:Int) (js:List Jb):Prop where
 ok:vc tops js
 srt:∀ j∈js,j.row.Pairwise (· < ·)
 low:∀ j∈js,0<=dF t j
theorem rm {tops:PyData} {t:Int} {j:Jb} (h:JOk tops j) (hs:j.row.Pairwise (· < ·)) (ht:j.there t=true):0<dF t j:=by have hlt:=lY ht;unfold Jb.there at ht;rw [List.getElem?_eq_getElem hlt] at ht;have:=B6 h (yR hlt hs (of_decide_eq_true ht));unfold dF;omega
theorem Ck {tops:PyData} {t:Int} {j:Jb} (h:JOk tops j) (hs:j.row.Pairwise (· < ·)) (hl:0<=dF t j) (ht:j.there t=false):dF t j=0:=by
 have hc:iV j.row t<=j.job:=by
  by_cases z:j.job<j.row.length
  ·unfold Jb.there at ht;rw [List.getElem?_eq_getElem z] at ht;have:=of_decide_eq_false ht;exact yW z hs (by omega)
  ·have:=vz j.row t;omega
 obtain ⟨c0,c1⟩:=oC h;have:=Int.mul_le_mul_of_nonneg_right (a:=(iV j.row t:Int)) (b:=(j.job:Int)) (c:=j.work) (by omega) (by omega);unfold dF Jb.tot at hl ⊢;omega
theorem A8 {α:Type} (f:α->Int):∀ {l:List α},(∀ x∈l,0<=f x)->0<=(l.map f).sum
 | [],_=>Int.le_refl 0
 | a::r,h=>by
  have h1:=h a List.mem_cons_self;have ih:=A8 f (l:=r) fun x hx=>h x (List.mem_cons_of_mem _ hx)
  rw [List.map_cons,List.sum_cons];omega
theorem Bg {α:Type} (f:α->Int) {b:α}:∀ {l:List α},(∀ x∈l,0<=f x)->b∈l->f b<=(l.map f).sum
 | [],_,hb=>by cases hb
 | a::r,h,hb=>by
  have h1:=h a List.mem_cons_self;have h2:=A8 f (l:=r) fun x hx=>h x (List.mem_cons_of_mem _ hx)
  rw [List.map_cons,List.sum_cons];rcases List.mem_cons.mp hb with e | hb
  ·rw [e];omega
  ·have:=Bg f (fun x hx=>h x (List.mem_cons_of_mem _ hx)) hb;omega
theorem vi {α:Type} (f:α->Int):∀ {l:List α},(∀ x∈l,f x=0)->(l.map f).sum=0
 | [],_=>rfl
 | a::r,h=>by rw [List.map_cons,List.sum_cons,h a List.mem_cons_self,vi f fun x hx=>h x (List.mem_cons_of_mem _ hx)];rfl
theorem yq {tops:PyData} {told:List PyData} {js:List Jb} (h:IvJ tops (told.length:Int) js) (z:dY told js=[]):(js.map (dF (told.length:Int))).sum=0:=by
 refine vi _ fun j hj=>Ck (h.ok.ok j hj) (h.srt j hj) (h.low j hj) ?_
 cases e:j.there (told.length:Int) with
 | false=>rfl
 | true =>have:j∈dY told js:=List.mem_filter.mpr ⟨hj,e⟩;rw [z] at this;cases this
theorem yb {tops:PyData} {t:Int} {js:List Jb} {b:Jb} (h:IvJ tops t js) (hb:b∈js) (ht:b.there t=true):(js.map (dF t)).sum≠0:=by have h1:=Bg (dF t) h.low hb;have h2:=rm (h.ok.ok b hb) (h.srt b hb) ht;omega
theorem nF {tops:PyData} {t u:Int} (htu:t<=u) {j:Jb} (h:JOk tops j):dF t j<=dF u j:=by have h1:=sN htu j.row;have h2:=oC h;have:=Int.mul_le_mul_of_nonneg_right (a:=(iV j.row t:Int)) (b:=(iV j.row u:Int)) (c:=j.work) (by omega) (by omega);unfold dF;omega
theorem E5 {tops:PyData} {len:Str} {js:List Jb} {told:List PyData} (h:IvJ tops (told.length:Int) js):IvJ tops ((gM tops len (js,told)).2.length:Int) (gM tops len (js,told)).1:=by
 have ok':=uH (len:=len) (told:=told) h.ok;by_cases z:dY told js=[]
 ·rw [mX z] at ok' ⊢;refine ⟨ok',h.srt,fun j hj=>?_⟩;have:=h.low j hj;have:=nF (u:=(((told++[PyData.none]).length:Nat):Int)) (t:=(told.length:Int)) (by rw [List.length_append];omega) (h.ok.ok j hj);show 0<=dF (((told++[PyData.none]).length:Nat):Int) j;omega
 ·obtain ⟨b,hb,ht,e⟩:=nH (tops:=tops) (len:=len) z;rw [e] at ok' ⊢;refine ⟨ok',fun j hj=>?_,fun j hj=>?_⟩
  ·rcases pQ hb hj with hj | rfl
   ·exact h.srt j hj
   ·rw [jL];exact h.srt b hb
  ·show 0<=dF (((told++[eC b]).length:Nat):Int) j;rcases pQ hb hj with hj | rfl
   ·have:=h.low j hj;have:=nF (u:=(((told++[eC b]).length:Nat):Int)) (t:=(told.length:Int)) (by rw [List.length_append];omega) (h.ok.ok j hj);omega
   ·have h2:=rm (h.ok.ok b hb) (h.srt b hb) ht;have h3:=nF (u:=(((told++[eC b]).length:Nat):Int)) (t:=(told.length:Int)) (by rw [List.length_append];omega) (h.ok.ok b hb);have h4:=qZ (h.ok.ok b hb);unfold dF at h2 h3 ⊢;rw [jL,tj,h4];omega
theorem Ba {tops:PyData} {t:Int} {j:Jb} (h:JOk tops j) (hl:0<=dF t j) (hd:j.done=true):j.tot=(j.row.length:Int)*j.work:=by
 have e:(j.job:Int)=(j.row.length:Int):=by unfold Jb.done at hd;exact eq_of_beq hd
 have h1:=vz j.row t;obtain ⟨c0,c1⟩:=oC h;have:=Int.mul_le_mul_of_nonneg_right (a:=(iV j.row t:Int)) (b:=(j.row.length:Int)) (c:=j.work) (by omega) (by omega);unfold dF at hl;have e2:j.tot=(j.row.length:Int)*j.work+j.cur:=by unfold Jb.tot;rw [e]
 omega
theorem En {tops:PyData} {j:Jb} (h:JOk tops j):j.tot / j.work=(j.job:Int):=by obtain ⟨c0,c1⟩:=oC h;unfold Jb.tot;rw [Int.add_comm,Int.add_mul_ediv_right _ _ (by omega),Int.ediv_eq_zero_of_lt c0 c1];omega
def eI (j:Jb):Int×List (Int×Option Int)×List Int:=(j.num,j.parts,j.row)
theorem tO {b:Jb}:∀ {js:List Jb},(js.map (·.num)).Nodup->b∈js->(fu b js).map eI=js.map eI
 | [],_,hb=>by cases hb
 | j::r,nd,hb=>by
  rcases nM nd hb with ⟨hj,e⟩ | ⟨_,hb',e⟩
  ·rw [e,List.map_cons,List.map_cons,hj];unfold eI;rw [xi,qT,jL]
  ·rw [List.map_cons,List.nodup_cons] at nd;rw [e,List.map_cons,List.map_cons,tO nd.2 hb']
theorem tq {tops:PyData} {b:Jb}:∀ {js:List Jb},(js.map (·.num)).Nodup->b∈js->JOk tops b->∀ (i:Nat) (hi:i<js.length),js[i].num=b.num->(fu b js).map Jb.tot=(js.map Jb.tot).set i (b.tot+1)
 | [],_,hb,_,_,_,_=>by cases hb
 | j::r,nd,hb,hk,i,hi,hn=>by
  rcases nM nd hb with ⟨hj,e⟩ | ⟨hne,hb',e⟩
  ·rw [List.map_cons,List.nodup_cons] at nd;cases i with
   | zero=>rw [e,List.map_cons,List.map_cons,List.set_cons_zero,qZ hk]
   | succ i =>
    have hi':i<r.length:=by simpa using hi
    have hn:r[i].num=b.num:=hn;exact (nd.1 (List.mem_map.mpr ⟨r[i],List.getElem_mem hi',by rw [hn,hj]⟩)).elim
  ·cases i with
   | zero=>exact (hne hn).elim
   | succ i =>
    have hi':i<r.length:=by simpa using hi
    have hn:r[i].num=b.num:=hn;rw [List.map_cons,List.nodup_cons] at nd;rw [e,List.map_cons,List.map_cons,List.set_cons_succ,tq nd.2 hb' hk i hi' hn]
theorem eV {O:List Nat} {i:Nat} {g:Ds->Rs PyData} {δ:Ds} {d:PyData} (hi:i<δ.length) (hg:g (mask O δ)=.ok d):bj O i g δ=.nx (δ.set i (some d)):=by unfold bj;rw [if_pos hi,hg];rfl
def mkJ (es:List Er) (rs:List Int) (k:Nat) (row:List Int):Jb:=⟨(k:Int),(iM es (k:Int)).parts,(placeOf rs (k:Int):Int),row,0,0,0⟩
def startJ (es:List Er) (rs:List Int) (rows:List (List Int)):List Jb:=rows.mapIdx (mkJ es rs)
section
variable {es:List Er} {rs:List Int} {rows:List (List Int)}
theorem mP (i:Nat):(startJ es rs rows)[i]?=(rows[i]?).map (mkJ es rs i):=List.getElem?_mapIdx
theorem fe {j:Jb} (h:j∈startJ es rs rows):∃ (k:Nat) (row:List Int),k<rows.length/\row∈rows/\rows[k]?=some row/\j=mkJ es rs k row:=by obtain ⟨k,hk⟩:=List.mem_iff_getElem?.mp h;rw [mP] at hk;obtain ⟨row,hr,e⟩:=Option.map_eq_some_iff.mp hk;exact ⟨k,row,(List.getElem?_eq_some_iff.mp hr).1,List.mem_of_getElem? hr,hr,e.symm⟩
theorem e9:(startJ es rs rows).length=rows.length:=List.length_mapIdx
theorem yr:(startJ es rs rows).map (·.num)=(List.range rows.length).map fun (k:Nat)=>(k:Int) :=
 List.ext_getElem (by simp [startJ]) (fun i h1 h2=>by simp [startJ,mkJ])
theorem xC:(startJ es rs rows).map (·.row)=rows :=
 List.ext_getElem (by simp [startJ]) (fun i h1 h2=>by simp [startJ,mkJ])
theorem Et (n:Nat):((List.range n).map fun (k:Nat)=>(k:Int)).Nodup:=List.Pairwise.map _ (fun a b h e=>h (by omega)) List.nodup_range
theorem nE (k:Nat) (row:List Int):(mkJ es rs k row).tot=0:=by show ((0:Nat):Int)*_+(cK (List.take 0 _)+((0:Nat):Int))=0;rw [List.take_zero];have:cK []=0:=rfl;rw [this];simp
end
theorem uV:∀ {ps:List (Int×Option Int)},(∀ p∈ps,p.1<=20)->cK ps<=20*(ps.length:Int)
 | [],_=>Int.le_refl 0
 | p::r,h=>by
  have:=h p List.mem_cons_self;have ih:=uV (ps:=r) fun q hq=>h q (List.mem_cons_of_mem _ hq)
  rw [fN,List.length_cons];omega
theorem yP {α:Type} (f:α->Nat) {c:Nat}:∀ {l:List α},(∀ x∈l,f x<=c)->(l.map f).sum<=l.length*c
 | [],_=>Nat.zero_le _
 | a::r,h=>by
  have h1:=h a List.mem_cons_self;have ih:=yP f (l:=r) fun x hx=>h x (List.mem_cons_of_mem _ hx)
  rw [List.map_cons,List.sum_cons,List.length_cons,Nat.add_mul];omega
theorem xA {es:List Er} {rs:List Int} {t n:Int} (t0:0<=t) (t3:t<=3) (h:fD es rs t=some n):dIx (cg es rs) (.int t)=some (.int n):=by
 obtain ⟨m,rfl⟩:∃ m:Nat,t=(m:Int):=⟨t.toNat,by omega⟩
 show atI ((List.range 4).map fun (t:Nat)=>dR (fD es rs t)) (m:Int)=_;refine oV ?_;rw [List.getElem?_map,List.getElem?_range (by omega),Option.map_some,h];rfl
theorem r8 (es:List Er) (rs:List Int):aN (cg es rs)=true:=fO fun d hd=>by obtain ⟨t,_,rfl⟩:=List.mem_map.mp hd;exact sA _
structure Ran (es:List Er) (rs:List Int) (rows:List (List Int)) (len:Str):Prop where
 eok:xS es
 rok:ku es.length rs
 ln:rows.length=es.length
 le:rC len
def ng (es:List Er) (rs:List Int) (rows:List (List Int)) (len:Str):Option (List PyData):=vW (cg es rs) len 1000000 (startJ es rs rows,[])
section
variable {es:List Er} {rs:List Int} {rows:List (List Int)} {len:Str} {t:List PyData}
theorem mM (h:xS es) (hr:ku es.length rs) (hl:rows.length=es.length):vc (cg es rs) (startJ es rs rows):=by
 refine ⟨fun j hj=>?_,by rw [yr];exact Et _⟩;obtain ⟨k,row,hk,_,_,rfl⟩:=fe hj;have h0:(0:Int)<=(k:Int):=by omega
 have h1:(k:Int)<es.length:=by omega
 have ok:=h.ok _ (km h0 h1);have hpos:0<(iM es (k:Int)).parts.length:=List.length_pos_iff.mpr ok.p1;refine ⟨hpos,Nat.zero_le _,fun p hp=>(ok.pl p hp).1,?_,fun p hp u hu=>?_⟩
 ·have:=len_pos (tops:=.none) (j:=mkJ es rs k row) (fun p hp=>(ok.pl p hp).1) hpos;show (0:Int)<_;exact Int.lt_of_lt_of_le (by decide) this
 ·obtain ⟨t0,t3⟩:=(ok.pl p hp).2.2 u hu;have hh:(iM es (k:Int)).has u=true:=by unfold Er.has;rw [List.any_eq_true];exact ⟨p,hp,by rw [hu];exact beq_self_eq_true _⟩
  obtain ⟨n,hn⟩:=vn es u rs 0 (k:Int) (hr.mem h0 h1) hh;exact ⟨n,xA t0 t3 hn⟩
theorem BW (R:Ran es rs rows len) (C:Cms es rows):∃ t,ng es rs rows len=some t:=by
 have hri:=C.tQ;refine pZ (B:=10000) 1000000 _ [] (mM R.eok R.rok R.ln) (fun j hj c hc=>?_) ?_
 ·obtain ⟨k,row,_,hm,_,rfl⟩:=fe hj;have:=(hri row hm).hi c hc;omega
 ·have hs:za (startJ es rs rows)<=(startJ es rs rows).length*4800:=yP Jb.left fun j hj=>by
   obtain ⟨k,row,hk,hm,_,rfl⟩:=fe hj;have ok:=R.eok.ok _ (km (n:=(k:Int)) (by omega) (by have:=R.ln;omega));have h1:=uV fun p hp=>(ok.pl p hp).2.1
   have h2:=ok.p2;have h3:=(hri row hm).few;have h4:=pz fun p hp=>(ok.pl p hp).1
   unfold Jb.left;rw [nE];have h5:((mkJ es rs k row).row.length:Int)*(mkJ es rs k row).work<=60*80:=Int.mul_le_mul (by show (row.length:Int)<=60;omega) (by show cK (iM es (k:Int)).parts<=80;omega) h4 (by decide);omega
  rw [e9] at hs;have h6:=R.eok.l6;have h7:=R.ln;show za (startJ es rs rows)+(10000-0)<1000000;have h8:rows.length*4800<=6*4800:=Nat.mul_le_mul_right _ (by omega);omega
end
def fsJ (j:Jb):List PyData:=[.int j.num,.tuple (j.parts.map bI),.int j.rank,c8 j.row]
theorem yo {C:Addr} {as:List Addr} {js:List Jb} (h:∀ j∈js,j.job=0/\j.part=0/\j.spent=0):k7 C JN JT as (js.map fsJ)=(as.zip js).map (jD C):=by
 unfold k7;rw [List.zip_map_right,List.map_map];refine List.map_congr_left fun p hp=>?_
 obtain ⟨h1,h2,h3⟩:=h p.2 (List.of_mem_zip (a:=p.1) (b:=p.2) hp).2;show cN C p.1 (JN.zip (fsJ p.2)++tlD JT)=cN C p.1 p.2.fds;unfold Jb.fds;rw [h1,h2,h3];rfl
section
variable {cs:Cs} {es:List Er} {rs:List Int} {rows:List (List Int)} {len:Str} {t:List PyData}
theorem Fc (R:Ran es rs rows len) (hr:ng es rs rows len=some t) {as:List Addr} (hl:as.length=rows.length) (nd:as.Nodup) :
  lu cs br (bg cs) (de cs) (aO cs) gm as [some (aU es),some (bo rs),some (cmD rows),some (.str len),some (cg es rs),some (.list ((as.zip (startJ es rs rows)).map (jD cs.Jobs))),none,none,none]=.rt (.list t):=by
 have hz1:(as.zip (startJ es rs rows)).map (·.1)=as:=List.map_fst_zip (by rw [e9,hl];exact Nat.le_refl _);have hz2:(as.zip (startJ es rs rows)).map (·.2)=startJ es rs rows:=List.map_snd_zip (by rw [e9,hl];exact Nat.le_refl _);obtain ⟨qs',y7,y8,e⟩:=vK (cs:=cs) (E:=aU es) (R:=bo rs) (W:=cmD rows) (tops:=cg es rs) (len:=len) (as:=as) R.le nd 1000000 (as.zip (startJ es rs rows)) [] t none none
  (by rw [List.length_zip,e9];have:=R.eok.l6;have:=R.ln;omega) hz1 (by rw [hz2];exact mM R.eok R.rok R.ln) ⟨sT es,rK rs,qm rows,r8 es rs,fO fun d hd=>by cases hd⟩ (by rw [List.length_nil];omega) (by rw [hz2];exact hr)
 have s1:ia [6] 6 ao [some (aU es),some (bo rs),some (cmD rows),some (.str len),some (cg es rs),some (.list ((as.zip (startJ es rs rows)).map (jD cs.Jobs))),none,none,none]=.nx (rnD cs.Jobs (aU es) (bo rs) (cmD rows) (cg es rs) len (as.zip (startJ es rs rows)) [] none none):=rfl;show aK (ia [6] 6 ao) (aK (fun δ=>cO (rnC cs) (rnB cs as) 1000000 δ) (bS (af 6))) _=_;rw [ba,s1];show (match cO (rnC cs) (rnB cs as) 1000000 (rnD cs.Jobs (aU es) (bo rs) (cmD rows) (cg es rs) len (as.zip (startJ es rs rows)) [] none none) with
  | .nx δ'=>bS (af 6) δ'
  | r=>r)=_
 rw [e];rfl
end
def Cg:PyData->List Int
 | .list xs=>(f9 xs).getD []
 | _=>[]
def B4:PyData->List (List Int)
 | .list l=>l.map Cg
 | _=>[]
theorem C8 (rows:List (List Int)):B4 (cmD rows)=rows:=by
 show (rows.map c8).map Cg=rows;rw [List.map_map];have:∀ r∈rows,(Cg∘c8) r=id r:=fun r _=>by show (f9 (r.map PyData.int)).getD []=r;rw [fM];rfl
 rw [List.map_congr_left this,List.map_id]
def lenOf:PyData->Str
 | .str s=>s
 | _=>""
def A6 (d r c l:PyData):PyData:=match ng (mf d) (iw r) (B4 c) (lenOf l) with
 | some t=>.list t
 | none=>.none
theorem um {es:List Er} {rs:List Int} {rows:List (List Int)} {len:Str} {t:List PyData} (hr:ng es rs rows len=some t):A6 (aU es) (bo rs) (cmD rows) (.str len)=.list t:=by unfold A6;rw [yg,rg,C8,show lenOf (.str len)=len from rfl,hr]
def atD (δ:Ds) (i:Nat):PyData:=((δ[i]?).getD none).getD .none
open Classical in
def lr:Ds->Sr:=fun δ=>if ∃ es rs rows len t,Ran es rs rows len/\ng es rs rows len=some t/\δ=[some (aU es),some (bo rs),some (cmD rows),some (.str len),some (cg es rs),none,none,none,none] then .rt (A6 (atD δ 0) (atD δ 1) (atD δ 2) (atD δ 3)) else .no
theorem Ft {es:List Er} {rs:List Int} {rows:List (List Int)} {len:Str} {t:List PyData} (R:Ran es rs rows len) (hr:ng es rs rows len=some t):lr [some (aU es),some (bo rs),some (cmD rows),some (.str len),some (cg es rs),none,none,none,none]=.rt (.list t):=by unfold lr;rw [if_pos ⟨es,rs,rows,len,t,R,hr,rfl⟩];exact congrArg Sr.rt (um hr)
theorem DB (cs:Cs):∀ δ,lr δ≠.no->∃ d ds fss,lr δ=.rt d/\5<δ.length/\δ.length=9/\(lU (ae (af 2) ao)) (mask [6] δ)=.ok ds/\ds.length<=1000000/\fss.length=ds.length/\(∀ (i:Nat) d,ds[i]?=some d->∃ ow fs,jX d=some ow/\fss[i]?=some fs/\(ae (af 9) (ae (g2 dIx (g2 dIx (af 0) (af 9)) (gC (.int 3))) (ae (xy (af 1) (af 9)) (ae (af 10) ao)))) (mask [6] δ++ow)=.ok fs/\fs.length=JN.length) /\
   ∀ as:List Addr,as.length=ds.length->as.Nodup->lu cs br (bg cs) (de cs) (aO cs) gm as (δ.set 5 (some (.list (k7 cs.Jobs JN JT as fss))))=.rt d:=by
 intro δ hne;by_cases hx:∃ es rs rows len t,Ran es rs rows len/\ng es rs rows len=some t/\δ=[some (aU es),some (bo rs),some (cmD rows),some (.str len),some (cg es rs),none,none,none,none]
 ·obtain ⟨es,rs,rows,len,t,R,hr,rfl⟩:=hx;have hln:=R.ln;refine ⟨.list t,ja (rows.map c8),(startJ es rs rows).map fsJ,Ft R hr,(by decide:5<9),rfl,rfl,?_,?_,?_,?_⟩
  ·rw [kJ,List.length_map];have:=R.eok.l6;omega
  ·rw [kJ,List.length_map,List.length_map,e9]
  ·intro i d hd;unfold ja at hd;rw [List.getElem?_mapIdx,List.getElem?_map] at hd;cases q:rows[i]? with
   | none=>rw [q] at hd;cases hd
   | some row =>
    rw [q] at hd;have hd':some (PyData.tuple [.int (i:Int),c8 row])=some d:=hd;cases hd';have hi:=(List.getElem?_eq_some_iff.mp q).1;have h0:(0:Int)<=(i:Int):=by omega
    have h1:(i:Int)<es.length:=by omega
    refine ⟨[some (.int (i:Int)),some (c8 row)],fsJ (mkJ es rs i row),rfl,?_,?_,rfl⟩
    ·rw [List.getElem?_map,mP,q];rfl
    ·have a1:dIx (aU es) (.int (i:Int))=some (iM es (i:Int)).d:=u3 h0 h1;have a2:=Ir (iM es (i:Int));have a3:=vN (R.rok.mem h0 h1);show (ae (af 9) (ae (g2 dIx (g2 dIx (af 0) (af 9)) (gC (.int 3))) (ae (xy (af 1) (af 9)) (ae (af 10) ao)))) [some (aU es),some (bo rs),some (cmD rows),some (.str len),some (cg es rs),none,none,none,none,some (.int (i:Int)),some (c8 row)]=_;simp only [aM,aQ,ck,ax,aC,dB,FV,Rs.aj,a1,a2,Rs.ar,bo,a3];rfl
  ·intro as hal nd;rw [kJ,List.length_map] at hal;rw [yo fun j hj=>by obtain ⟨k,row,_,_,_,rfl⟩:=fe hj;exact ⟨rfl,rfl,rfl⟩];exact Fc R hr hal nd
 ·unfold lr at hne;rw [if_neg hx] at hne;exact absurd rfl hne
open Classical in
def cQ (cs:Cs):Gf:=fun ds=>if ∃ es rs rows len t,Ran es rs rows len/\ng es rs rows len=some t/\ds=[aU es,bo rs,cmD rows,.str len] then .ok (A6 (ds.getD 0 .none) (ds.getD 1 .none) (ds.getD 2 .none) (ds.getD 3 .none)) else .no
theorem lR {cs:Cs} {es:List Er} {rs:List Int} {rows:List (List Int)} {len:Str} {t:List PyData} (R:Ran es rs rows len) (hr:ng es rs rows len=some t):cQ cs [aU es,bo rs,cmD rows,.str len]=.ok (.list t):=by unfold cQ;rw [if_pos ⟨es,rs,rows,len,t,R,hr,rfl⟩];exact congrArg Rs.ok (um hr)
theorem Dk (cs:Cs):∀ ds,ds.length=4->cQ cs ds≠.no->bB (aK (bj [6] 4 (aF br (ae (af 0) (ae (af 1) ao)))) lr (ds.map some++List.replicate 5 none))=cQ cs ds:=by
 intro ds hl hne;by_cases hx:∃ es rs rows len t,Ran es rs rows len/\ng es rs rows len=some t/\ds=[aU es,bo rs,cmD rows,.str len]
 ·obtain ⟨es,rs,rows,len,t,R,hr,rfl⟩:=hx;rw [lR R hr];have hh:=i3 (es:=es) (rs:=rs) (by have:=R.eok.l6;omega) (fun e he=>(R.eok.ok e he).sh) R.rok;have s1:bj [6] 4 (aF br (ae (af 0) (ae (af 1) ao))) [some (aU es),some (bo rs),some (cmD rows),some (.str len),none,none,none,none,none]=.nx [some (aU es),some (bo rs),some (cmD rows),some (.str len),some (cg es rs),none,none,none,none]:=by have hg:aF br (ae (af 0) (ae (af 1) ao)) (mask [6] [some (aU es),some (bo rs),some (cmD rows),some (.str len),none,none,none,none,none])=.ok (cg es rs):=hh;exact eV (by decide:4<9) hg
  show bB (aK (bj [6] 4 (aF br (ae (af 0) (ae (af 1) ao)))) lr [some (aU es),some (bo rs),some (cmD rows),some (.str len),none,none,none,none,none])=_;rw [ba,s1];simp only;rw [Ft R hr];rfl
 ·exfalso;apply hne;unfold cQ;rw [if_neg hx]
open Classical in
def eo (cs:Cs):Gf:=fun ds=>if ∃ es rs rows len t,Ran es rs rows len/\Cms es rows/\ng es rs rows len=some t/\ds=[aU es,bo rs,cmD rows,.str len] then .ok (A6 (ds.getD 0 .none) (ds.getD 1 .none) (ds.getD 2 .none) (ds.getD 3 .none)) else .no
theorem sC {cs:Cs} {es:List Er} {rs:List Int} {rows:List (List Int)} {len:Str} {t:List PyData} (R:Ran es rs rows len) (C:Cms es rows) (hr:ng es rs rows len=some t):eo cs [aU es,bo rs,cmD rows,.str len]=.ok (.list t):=by unfold eo;rw [if_pos ⟨es,rs,rows,len,t,R,C,hr,rfl⟩];exact congrArg Rs.ok (um hr)
theorem Ii (cs:Cs):∀ ds,ds.length=4->eo cs ds≠.no->bB (wB cs (aY cs) (cQ cs) (bh cs) (bq cs) (ds.map some++List.replicate 0 none))=eo cs ds:=by
 intro ds hl hne;by_cases hx:∃ es rs rows len t,Ran es rs rows len/\Cms es rows/\ng es rs rows len=some t/\ds=[aU es,bo rs,cmD rows,.str len]
 ·obtain ⟨es,rs,rows,len,t,R,C,hr,rfl⟩:=hx;rw [sC R C hr];have k1:=kX cs R.eok.l1 R.eok.l6 R.eok.ok;have k2:=kQ cs R.eok.l6 R.rok;have k3:=fI (cs:=cs) R.eok C;have k4:=lR (cs:=cs) R hr;show bB (wB cs (aY cs) (cQ cs) (bh cs) (bq cs) [some (aU es),some (bo rs),some (cmD rows),some (.str len)])=_;unfold wB;simp only [ba,zk,cn,aM,aQ,ax,aC,Rs.aj,k1,k2,k3,k4,aL,cU,bZ]
 ·exfalso;apply hne;unfold eo;rw [if_neg hx]
end RS
namespace L2
open PySem PySem.Spec PyProof.Rows
end L2
namespace RS
open PySem L2
theorem vQ:∀ a b:List Int,PyData.eqvAll (a.map PyData.int) (b.map PyData.int)=decide (a=b)
 | [],[]=>by simp [PyData.eqvAll]
 | [],_::_=>by simp [PyData.eqvAll]
 | _::_,[]=>by simp [PyData.eqvAll]
 | x::a,y::b=>by
  have h:(x==y)=decide (x=y):=by by_cases z:x=y <;> simp [z]
  simp [PyData.eqvAll,PyData.eqv,vQ a b,h]
theorem E6 (a b:List Int):dNe (.list (a.map PyData.int)) (.list (b.map PyData.int))=some (.bool (!decide (a=b))):=by unfold dNe;rw [fO (lh a),fO (lh b),shaped_ints,shaped_ints];simp [PyData.eqv,vQ]
def hvS (every late m:Int) (row:List Int):Int:=row.foldl (fun m c=>(if c-late>m then c-late else m)+every) m
theorem yG (every late:Int):∀ (row:List Int) (m c:Int),hvM every late m row=true->¬ c<(if c-late>hvS every late m row then c-late else hvS every late m row)->hvM every late m (row++[c])=true
 | [],m,c,_,h=>by show (if c<(if c-late>m then c-late else m) then false else true)=true;exact if_neg h
 | a::r,m,c,h1,h=>by
  rw [List.cons_append];unfold hvM at h1 ⊢;by_cases z:a<(if a-late>m then a-late else m)
  ·rw [if_pos z] at h1;cases h1
  ·rw [if_neg z] at h1 ⊢;exact yG every late r _ c h1 h
structure CrI (every late span:Int) (made:List Int) (moment:Int):Prop where
 lo:-late<=moment
 hv:hvM every late (0-late) made=true
 ea:hvS every late (0-late) made<=moment
 la:∀ c,made.getLast?=some c->c+1<=moment+late
 c0:∀ c∈made,0<=c
 c1:∀ c∈made,c<span
theorem DN {every late span moment moment' c:Int} {made:List Int} (h:CrI every late span made moment) (hs:moment+late<span) (h0:0<=c) (h1:moment<=c) (h2:c<=moment+late) (he:1<=every) (hl:0<=late) (hx:moment+every<=moment'):CrI every late span (made++[c]) moment':=by
 have hea:=h.ea;have hlo:=h.lo;refine ⟨by omega,yG every late made _ c h.hv (by split <;> omega),?_,fun d hd=>?_,fun d hd=>?_,fun d hd=>?_⟩
 ·unfold hvS at hea ⊢;rw [List.foldl_append];show (if c-late>List.foldl _ _ made then c-late else List.foldl _ _ made)+every<=moment';split <;> omega
 ·rw [List.getLast?_concat] at hd;cases hd;omega
 ·rcases List.mem_append.mp hd with hd | hd
  ·exact h.c0 d hd
  ·rw [List.mem_singleton.mp hd];exact h0
 ·rcases List.mem_append.mp hd with hd | hd
  ·exact h.c1 d hd
  ·rw [List.mem_singleton.mp hd];omega
theorem CY {every late span:Int} {moment:Int} (h:-late<=moment):CrI every late span [] moment:=⟨h,rfl,by show 0-late<=moment;omega,fun c hc=>(by cases hc),fun c hc=>(by cases hc),fun c hc=>(by cases hc)⟩
theorem sQ {every late:Int} (hl:late<every) (h0:0<=late):∀ (row:List Int) (m:Int),hvM every late m row=true->(∀ c∈row,m<=c)/\row.Pairwise (· < ·)
 | [],_,_=>⟨fun c hc=>(by cases hc),List.Pairwise.nil⟩
 | a::r,m,h=>by
  unfold hvM at h;by_cases z:a<(if a-late>m then a-late else m)
  ·rw [if_pos z] at h;cases h
  ·rw [if_neg z] at h;obtain ⟨h1,h2⟩:=sQ hl h0 r _ h;have hm:m<=a:=by split at z <;> omega
   have hlt:∀ c∈r,a<c:=fun c hc=>by have:=h1 c hc;split at this <;> omega
   refine ⟨fun c hc=>?_,List.pairwise_cons.mpr ⟨hlt,h2⟩⟩;rcases List.mem_cons.mp hc with e | hc
   ·rw [e];exact hm
   ·have:=hlt c hc;omega
theorem ze {i:Nat} {g:Ds->Rs PyData} {δ:Ds} {d:PyData} (hi:i<δ.length) (hg:g δ=.ok d) (hn:fE d=true):mE i g δ=.nx (δ.set i (some d)):=by unfold mE;rw [if_pos hi,hg,aL,if_pos hn]
theorem HQ (k:Int):dO (.int 104729) (.int k)=some (.int (104729*k)):=u7 (by decide) (by decide)
theorem IK (k:Int):dO (.int 7919) (.int k)=some (.int (7919*k)):=u7 (by decide) (by decide)
theorem Hw (a:Int):dO (.int a) (.int 48271)=some (.int (a*48271)):=yD (by decide) (by decide)
theorem HN (a:Int):eK (.int a) (.int 2147483647)=some (.int (a % 2147483647)):=by rw [sP,if_pos (by decide)]
theorem HC {a k:Int} (h0:0<=k) (h1:k<=60):dO (.int a) (.int k)=some (.int (a*k)):=yD (by omega) (by omega)
theorem Dn {δ:Ds} {seed k:Int} (h4:af 4 δ=.ok (.int seed)) (h7:af 7 δ=.ok (.int k)) (h0:0<=k) (h1:k<=60) :
  ∃ dr:Int,g2 eK (g2 dO (g2 bA (g2 bA (af 4) (g2 dO (g2 dO (gC (.int 104729)) (af 7)) (af 7))) (g2 dO (gC (.int 7919)) (af 7))) (gC (.int 48271))) (gC (.int 2147483647)) δ=.ok (.int dr):=by
 generalize hA:(seed+104729*k*k+7919*k)*48271 % 2147483647=A;refine ⟨A,?_⟩;rw [ck,ck,ck,ck,ck,ck,ck];rw [h4,h7];simp only [dB,Rs.aj,HQ,HC h0 h1,IK,Hw,HN,fi,Rs.ar,hA]
def crC:Ds->Rs Bool:=(Dq (gT (g2 dLt (g2 bA (af 5) (g2 dIx (af 2) (gC (.int 2)))) (af 3))) (gT (g2 dLt (gF bY (ae (af 6) ao)) (gC (.int 60)))))
def crB:Ds->Sr:=(aK (bj [6] 8 (g2 eK (g2 dO (g2 bA (g2 bA (af 4) (g2 dO (g2 dO (gC (.int 104729)) (af 7)) (af 7))) (g2 dO (gC (.int 7919)) (af 7))) (gC (.int 48271))) (gC (.int 2147483647))))
 (aK (bj [6] 9 (gF iY (ae (gC (.int 0)) (ae (g2 bA (af 5) (g2 eK (g2 gQ (af 8) (gC (.int 7))) (g2 bA (g2 dIx (af 2) (gC (.int 2))) (gC (.int 1))))) ao))))
 (aK (sIf (gT (g2 dNe (af 6) (kr ao))) (mE 9 (gF iY (ae (af 9) (ae (g2 bA (g2 dIx (af 6) (g1 lA (gC (.int 1)))) (gC (.int 1))) ao)))) bt)
 (aK (lC [6] 6 (af 9))
 (aK (bj [6] 5 (g2 bA (af 5) (g2 dIx (af 2) (gC (.int 0)))))
 (aK (sIf (gT (g2 dEq (g2 eK (g2 gQ (af 8) (gC (.int 61))) (gC (.int 3))) (gC (.int 0)))) (bj [6] 5 (g2 bA (af 5) (g2 eK (g2 gQ (af 8) (gC (.int 997))) (g2 dIx (af 2) (gC (.int 0)))))) bt)
 (bj [6] 7 (g2 bA (af 7) (gC (.int 1))))))))))
section
variable {e:Er} {S A:PyData} {span seed moment:Int} {made:List Int}
def crD (e:Er) (S A:PyData) (span seed moment:Int) (made:List Int) (k:Int) (x8 x9:Option PyData):Ds:=[some S,some A,some e.d,some (.int span),some (.int seed),some (.int moment),some (.list (made.map PyData.int)),some (.int k),x8,x9]
theorem Ik (e:Er):dIx e.d (.int 0)=some (.int e.every):=rfl
theorem FL (e:Er):dIx e.d (.int 2)=some (.int e.late):=rfl
theorem zm {k:Int} {x8 x9:Option PyData}:crC (crD e S A span seed moment made k x8 x9)=.ok (decide (moment+e.late<span)&&decide (made.length<60)):=by
 have hl:decide (((made.map PyData.int).length:Int)<60)=decide (made.length<60):=by rw [List.length_map];exact decide_eq_decide.mpr (by omega)
 unfold crC crD;simp only [GI,eU,ck,fU,aM,aQ,ax,aC,dB,Rs.aj,FL,fi,G0,iK,Rs.ar,bN,hl];cases decide (moment+e.late<span) <;> simp
theorem DI (ok:e.Ok) (h:CrI e.every e.late span made moment) (hs:moment+e.late<span) (hm:made.length<60) (x8 x9:Option PyData) :
  ∃ c moment' y8 y9,crB (crD e S A span seed moment made (made.length:Int) x8 x9)=.nx (crD e S A span seed moment' (made++[c]) ((made++[c]).length:Int) y8 y9)/\CrI e.every e.late span (made++[c]) moment':=by
 have e1:=ok.e1;have e2:=ok.e2;have l1:=ok.l1;have l2:=ok.l2;have hlo:=h.lo;obtain ⟨dr,hdr⟩:=Dn (δ:=mask [6] (crD e S A span seed moment made (made.length:Int) x8 x9)) (seed:=seed) (k:=(made.length:Int)) rfl rfl (by omega) (by omega);have s8:bj [6] 8 (g2 eK (g2 dO (g2 bA (g2 bA (af 4) (g2 dO (g2 dO (gC (.int 104729)) (af 7)) (af 7))) (g2 dO (gC (.int 7919)) (af 7))) (gC (.int 48271))) (gC (.int 2147483647))) (crD e S A span seed moment made (made.length:Int) x8 x9)=.nx (crD e S A span seed moment made (made.length:Int) (some (.int dr)) x9):=eV (by decide:8<10) hdr
 -- the first reckoning of the coming
 have hq:0<=dr / 7 % (e.late+1)/\dr / 7 % (e.late+1)<e.late+1:=⟨Int.emod_nonneg _ (by omega),Int.emod_lt_of_pos _ (by omega)⟩
 have v7:gQ (.int dr) (.int 7)=some (.int (dr / 7)):=by rw [wG,if_pos (by decide)]
 have v1:eK (.int (dr / 7)) (.int (e.late+1))=some (.int (dr / 7 % (e.late+1))):=by rw [sP,if_pos (by omega)]
 generalize dr / 7 % (e.late+1)=q at hq v1;have s9:∃ c:Int,bj [6] 9 (gF iY (ae (gC (.int 0)) (ae (g2 bA (af 5) (g2 eK (g2 gQ (af 8) (gC (.int 7))) (g2 bA (g2 dIx (af 2) (gC (.int 2))) (gC (.int 1))))) ao))) (crD e S A span seed moment made (made.length:Int) (some (.int dr)) x9)=.nx (crD e S A span seed moment made (made.length:Int) (some (.int dr)) (some (.int c)))/\0<=c/\moment<=c/\c<=moment+e.late:=by refine ⟨if moment+q>0 then moment+q else 0,?_,by split <;> omega,by split <;> omega,by split <;> omega⟩;refine eV (by decide:9<10) ?_;show gF iY _ [some S,some A,some e.d,some (.int span),some (.int seed),some (.int moment),none,some (.int (made.length:Int)),some (.int dr),x9]=_;simp only [fU,aM,aQ,ck,ax,aC,dB,Rs.aj,FL,v7,fi,v1,Rs.ar,CQ]
 obtain ⟨c,s9,c0,c1,c2⟩:=s9
 -- behind the one ahead
 have s9c:∃ c':Int,sIf (gT (g2 dNe (af 6) (kr ao))) (mE 9 (gF iY (ae (af 9) (ae (g2 bA (g2 dIx (af 6) (g1 lA (gC (.int 1)))) (gC (.int 1))) ao)))) bt (crD e S A span seed moment made (made.length:Int) (some (.int dr)) (some (.int c)))=.nx (crD e S A span seed moment made (made.length:Int) (some (.int dr)) (some (.int c')))/\0<=c'/\moment<=c'/\c'<=moment+e.late:=by
  have hne:dNe (.list (made.map PyData.int)) (.list [])=some (.bool (!decide (made=[]))):=E6 made [];unfold crD;rw [d7];simp only [eU,ck,ax,aC,pW,aQ,Rs.aj,hne,Rs.ar,bN,aL];cases hk:made.getLast? with
  | none =>have hz:made=[]:=List.getLast?_eq_none_iff.mp hk;rw [hz];exact ⟨c,rfl,c0,c1,c2⟩
  | some l =>
   have hz:made≠[]:=fun z=>by rw [z] at hk;cases hk
   have hla:=h.la l hk;have hix:dIx (.list (made.map PyData.int)) (.int (-1))=some (.int l):=by rw [B2,nZ,List.getLast?_map,hk];rfl
   rw [decide_eq_false hz];simp only [Bool.not_false,if_true];refine ⟨if l+1>c then l+1 else c,?_,by split <;> omega,by split <;> omega,by split <;> omega⟩;refine ze (by decide:9<10) ?_ rfl;simp only [fU,aM,aQ,ck,gO,ax,aC,dB,Co,Rs.aj,hix,fi,Rs.ar,CQ]
 obtain ⟨c',s9c,c0',c1',c2'⟩:=s9c;have s6:lC [6] 6 (af 9) (crD e S A span seed moment made (made.length:Int) (some (.int dr)) (some (.int c')))=.nx (crD e S A span seed moment (made++[c']) (made.length:Int) (some (.int dr)) (some (.int c'))):=by show (if (made.map PyData.int).length<1000000 then Sr.nx _ else Sr.no)=_;rw [if_pos (by rw [List.length_map];omega)];unfold crD;rw [List.map_append];rfl
 have s5:bj [6] 5 (g2 bA (af 5) (g2 dIx (af 2) (gC (.int 0)))) (crD e S A span seed moment (made++[c']) (made.length:Int) (some (.int dr)) (some (.int c')))=.nx (crD e S A span seed (moment+e.every) (made++[c']) (made.length:Int) (some (.int dr)) (some (.int c'))):=eV (by decide:5<10) rfl;have s5b:∃ m',sIf (gT (g2 dEq (g2 eK (g2 gQ (af 8) (gC (.int 61))) (gC (.int 3))) (gC (.int 0)))) (bj [6] 5 (g2 bA (af 5) (g2 eK (g2 gQ (af 8) (gC (.int 997))) (g2 dIx (af 2) (gC (.int 0)))))) bt (crD e S A span seed (moment+e.every) (made++[c']) (made.length:Int) (some (.int dr)) (some (.int c')))=.nx (crD e S A span seed m' (made++[c']) (made.length:Int) (some (.int dr)) (some (.int c')))/\moment+e.every<=m':=by
  have v61:gQ (.int dr) (.int 61)=some (.int (dr / 61)):=by rw [wG,if_pos (by decide)]
  have v3:eK (.int (dr / 61)) (.int 3)=some (.int (dr / 61 % 3)):=by rw [sP,if_pos (by decide)]
  have v997:gQ (.int dr) (.int 997)=some (.int (dr / 997)):=by rw [wG,if_pos (by decide)]
  have ve:eK (.int (dr / 997)) (.int e.every)=some (.int (dr / 997 % e.every)):=by rw [sP,if_pos (by omega)]
  have hx:0<=dr / 997 % e.every:=Int.emod_nonneg _ (by omega);have hc:gT (g2 dEq (g2 eK (g2 gQ (af 8) (gC (.int 61))) (gC (.int 3))) (gC (.int 0))) (crD e S A span seed (moment+e.every) (made++[c']) (made.length:Int) (some (.int dr)) (some (.int c')))=.ok (dr / 61 % 3==0):=by unfold crD;simp only [eU,ck,ax,aC,dB,Rs.aj,v61,v3,Rs.ar,jC,bN]
  rw [d7,hc,aL];cases (dr / 61 % 3==0) with
  | false=>exact ⟨_,rfl,Int.le_refl _⟩
  | true =>rw [if_pos rfl];refine ⟨moment+e.every+dr / 997 % e.every,eV (by decide:5<10) ?_,by omega⟩;show g2 bA _ _ [some S,some A,some e.d,some (.int span),some (.int seed),some (.int (moment+e.every)),none,some (.int (made.length:Int)),some (.int dr),some (.int c')]=_;simp only [ck,ax,aC,dB,Rs.aj,Ik,v997,ve,fi,Rs.ar]
 obtain ⟨m',s5b,hm'⟩:=s5b;have s7:bj [6] 7 (g2 bA (af 7) (gC (.int 1))) (crD e S A span seed m' (made++[c']) (made.length:Int) (some (.int dr)) (some (.int c')))=.nx (crD e S A span seed m' (made++[c']) ((made++[c']).length:Int) (some (.int dr)) (some (.int c'))):=by
  have hl:((made++[c']).length:Int)=(made.length:Int)+1:=by rw [List.length_append,List.length_singleton];omega
  rw [hl];exact eV (by decide:7<10) rfl
 refine ⟨c',m',some (.int dr),some (.int c'),?_,DN h hs c0' c1' c2' (by omega) l1 hm'⟩;unfold crB;rw [ba,s8];simp only;rw [ba,s9];simp only;rw [ba,s9c];simp only;rw [ba,s6];simp only;rw [ba,s5];simp only;rw [ba,s5b];simp only;rw [s7]
end
theorem qd {c:Ds->Rs Bool} {b:Ds->Sr} {I:Nat->Ds->Prop} {J:Ds->Prop} (h:∀ k δ,I k δ->(c δ=.ok false/\J δ)\/(c δ=.ok true/\∃ k',k' < k/\∃ δ',b δ=.nx δ'/\I k' δ')):∀ (n k:Nat) (δ:Ds),I k δ->k<n->∃ δ',cO c b n δ=.nx δ'/\J δ'
 | 0,_,_,_,hn=>by cases hn
 | n+1,k,δ,i,hn=>by
  unfold cO;rcases h k δ i with ⟨e,j⟩ | ⟨e,k',hk,δ',e2,i'⟩
  ·rw [e,aL,if_neg Bool.false_ne_true];exact ⟨δ,rfl,j⟩
  ·rw [e,aL,if_pos rfl,e2];exact qd h n k' δ' i' (Nat.lt_of_lt_of_le hk (Nat.le_of_lt_succ hn))
section
variable {e:Er} {S A:PyData} {span seed moment:Int} {made:List Int}
theorem EO (ok:e.Ok) (h:CrI e.every e.late span made moment) (hl:made.length<=60) {n:Nat} (hn:60<n) (x8 x9:Option PyData) :
  ∃ made' moment' y8 y9,cO crC crB n (crD e S A span seed moment made (made.length:Int) x8 x9)=.nx (crD e S A span seed moment' made' (made'.length:Int) y8 y9)/\CrI e.every e.late span made' moment'/\made'.length<=60:=by
 obtain ⟨δ',e1,made',moment',y8,y9,rfl,h1,h2⟩:=qd (c:=crC) (b:=crB) (I:=fun k δ=>∃ made moment x8 x9,δ=crD e S A span seed moment made (made.length:Int) x8 x9/\CrI e.every e.late span made moment/\made.length<=60/\k=60-made.length)
  (J:=fun δ=>∃ made' moment' y8 y9,δ=crD e S A span seed moment' made' (made'.length:Int) y8 y9/\CrI e.every e.late span made' moment'/\made'.length<=60) (fun k δ pz2=>by
   obtain ⟨made,moment,x8,x9,hd,h,hl,hk⟩:=pz2;subst hd;by_cases z:moment+e.late<span/\made.length<60
   ·right;refine ⟨by rw [zm,decide_eq_true z.1,decide_eq_true z.2];rfl,?_⟩;obtain ⟨c,m',y8,y9,eb,h'⟩:=DI (S:=S) (A:=A) (seed:=seed) ok h z.1 z.2 x8 x9;have hl2:(made++[c]).length=made.length+1:=by rw [List.length_append,List.length_singleton]
    exact ⟨60-(made++[c]).length,by omega,_,eb,made++[c],m',y8,y9,rfl,h',by omega,rfl⟩
   ·left;refine ⟨?_,made,moment,x8,x9,rfl,h,hl⟩;rw [zm];refine congrArg Rs.ok (Bool.eq_false_iff.mpr ?_);rw [Ne,Bool.and_eq_true,decide_eq_true_eq,decide_eq_true_eq];exact z) n (60-made.length) _ ⟨made,moment,x8,x9,rfl,h,hl,rfl⟩ (by omega)
 exact ⟨made',moment',y8,y9,e1,h1,h2⟩
end
def aX (cs:Cs):Gf:=gfG 4 6 (cR cs ak)
theorem nQ (cs:Cs):∀ ds,ds.length=4->aX cs ds≠.no->bB (cR cs ak (ds.map some++List.replicate 6 none))=aX cs ds:=kU
theorem rY {cs:Cs} {e:Er} (ok:e.Ok) {ns:List Int} {a span:Int} (ha:0<=a) (hs:span<=10000):∃ row,aX cs [au ns,.int a,e.d,.int span]=.ok (c8 row)/\p5 row/\hvE e row=true:=by
 have e1:=ok.e1;have e2:=ok.e2;have hpw:Be (.int 10) (.int 9)=some (.int 1000000000):=rfl;have hmx:=cJ (ns:=ns) (k:=a) (many:=1000000000) ha (by decide);have hv2:eK (.int (mixed ns a 1000000000)) (.int (e.every+2))=some (.int (mixed ns a 1000000000 % (e.every+2))):=by rw [sP,if_pos (by omega)]
 have hm0:0<=mixed ns a 1000000000 % (e.every+2):=Int.emod_nonneg _ (by omega);generalize mixed ns a 1000000000=seed at *;generalize seed % (e.every+2)=m0 at *;obtain ⟨row,m',y8,y9,ew,hc,hl⟩:=EO (e:=e) (S:=au ns) (A:=.int a) (span:=span) (seed:=seed) (made:=[]) (moment:=m0-e.late) ok (CY (by omega)) (by decide) (n:=1000000) (by decide) none none;refine ⟨row,?_,⟨hl,hc.c0,fun c hcm=>by have:=hc.c1 c hcm;omega⟩,hc.hv⟩;have s4:bj [6] 4 (aF ak (ae (af 0) (ae (af 1) (ae (g2 Be (gC (.int 10)) (gC (.int 9))) ao)))) [some (au ns),some (.int a),some e.d,some (.int span),none,none,none,none,none,none]=.nx [some (au ns),some (.int a),some e.d,some (.int span),some (.int seed),none,none,none,none,none]:=by refine eV (by decide:4<10) ?_;show aF ak _ [some (au ns),some (.int a),some e.d,some (.int span),none,none,none,none,none,none]=_;simp only [cn,aM,aQ,ck,ax,aC,dB,Rs.aj,hpw,Rs.ar,hmx]
 have s5:bj [6] 5 (g2 iy (g2 eK (af 4) (g2 bA (g2 dIx (af 2) (gC (.int 0))) (gC (.int 2)))) (g2 dIx (af 2) (gC (.int 2)))) [some (au ns),some (.int a),some e.d,some (.int span),some (.int seed),none,none,none,none,none]=.nx [some (au ns),some (.int a),some e.d,some (.int span),some (.int seed),some (.int (m0-e.late)),none,none,none,none]:=by refine eV (by decide:5<10) ?_;show g2 iy _ _ [some (au ns),some (.int a),some e.d,some (.int span),some (.int seed),none,none,none,none,none]=_;simp only [ck,ax,aC,dB,Rs.aj,Ik,FL,fi,hv2,wL,Rs.ar]
 have s6:ia [6] 6 ao [some (au ns),some (.int a),some e.d,some (.int span),some (.int seed),some (.int (m0-e.late)),none,none,none,none]=.nx [some (au ns),some (.int a),some e.d,some (.int span),some (.int seed),some (.int (m0-e.late)),some (.list []),none,none,none]:=rfl;have s7:bj [6] 7 (gC (.int 0)) [some (au ns),some (.int a),some e.d,some (.int span),some (.int seed),some (.int (m0-e.late)),some (.list []),none,none,none]=.nx (crD e (au ns) (.int a) span seed (m0-e.late) [] (([]:List Int).length:Int) none none):=eV (by decide:7<10) rfl;show bB (cR cs ak [some (au ns),some (.int a),some e.d,some (.int span),none,none,none,none,none,none])=_;have hG:cR cs ak=aK (bj [6] 4 (aF ak (ae (af 0) (ae (af 1) (ae (g2 Be (gC (.int 10)) (gC (.int 9))) ao)))))
  (aK (bj [6] 5 (g2 iy (g2 eK (af 4) (g2 bA (g2 dIx (af 2) (gC (.int 0))) (gC (.int 2)))) (g2 dIx (af 2) (gC (.int 2)))))
  (aK (ia [6] 6 ao) (aK (bj [6] 7 (gC (.int 0))) (aK (fun δ=>cO crC crB 1000000 δ) (bS (af 6)))))):=rfl
 rw [hG];rw [ba,s4];simp only;rw [ba,s5];simp only;rw [ba,s6];simp only;rw [ba,s7];simp only;rw [ba,ew];rfl
def bx (cs:Cs):Gf:=gfG 4 0 (dS cs (aX cs))
theorem rS (cs:Cs):∀ ds,ds.length=4->bx cs ds≠.no->bB (dS cs (aX cs) (ds.map some++List.replicate 0 none))=bx cs ds:=kU
theorem Bs:∀ {es:List Er} {rows:List (List Int)},rows.length=es.length->(∀ (i:Nat) (h:i<es.length) (h':i<rows.length),p5 rows[i]/\hvE es[i] rows[i]=true)->Cms es rows
 | [],[],_,_=>.nil
 | [],_::_,h,_=>by cases h
 | _::_,[],h,_=>by cases h
 | e::es,r::rows,h,k=>by have k0:=k 0 (Nat.succ_pos _) (Nat.succ_pos _);refine .cons k0.1 k0.2 (Bs (by simpa using h) fun i h1 h2=>?_);exact k (i+1) (Nat.succ_lt_succ h1) (Nat.succ_lt_succ h2)
theorem Gq {es:List Er} (l6:es.length<=6) {x0 x1:Option PyData} {r:Ds}:fG (ae (gF bY (ae (af 2) ao)) ao) (x0::x1::some (aU es)::r)=.ok (bX 0 es.length):=by
 have hr:=kM (j:=(es.length:Int)) (by omega) (by omega);rw [Int.toNat_natCast] at hr;have hv:(ae (gF bY (ae (af 2) ao)) ao) (x0::x1::some (aU es)::r)=.ok [.int (es.length:Int)]:=by simp only [aM,aQ,fU,ax,aC,Rs.aj,Hn,Rs.ar]
 rw [kG,hv,Rs.aj,hr]
theorem yp {cs:Cs} {es:List Er} (h:xS es) {ns:List Int} {a span:Int} (ha:0<=a) (hs:span<=10000):∃ rows,bx cs [au ns,.int a,aU es,.int span]=.ok (cmD rows)/\Cms es rows:=by
 have hx:∀ i:Nat,∃ row,i<es.length->aX cs [au ns,.int (a+(i:Int)),(iM es (i:Int)).d,.int span]=.ok (c8 row)/\p5 row/\hvE (iM es (i:Int)) row=true:=fun i=>by
  by_cases z:i<es.length
  ·obtain ⟨row,h1⟩:=rY (cs:=cs) (h.ok _ (km (n:=(i:Int)) (by omega) (by omega))) (ns:=ns) (a:=a+(i:Int)) (span:=span) (by omega) hs;exact ⟨row,fun _=>h1⟩
  ·exact ⟨[],fun y=>(z y).elim⟩
 obtain ⟨F,hF⟩:=Classical.axiomOfChoice hx;have l6:=h.l6;refine ⟨(List.range es.length).map F,?_,Bs (by simp) fun i h1 h2=>?_⟩
 ·have hg:bF 4 (fG (ae (gF bY (ae (af 2) ao)) ao)) bu (aF (aX cs) (ae (af 0) (ae (g2 bA (af 1) (af 4)) (ae (g2 dIx (af 2) (af 4)) (ae (af 3) ao))))) aP [some (au ns),some (.int a),some (aU es),some (.int span)]=.ok ((bX 0 es.length).map fun d=>c8 (F (deI d).toNat)):=by
   refine c9 rfl ?_ (by rw [dq];omega) fun d hd=>?_
   ·exact Gq l6
   ·obtain ⟨k,hk,rfl⟩:=List.mem_map.mp hd;have hk':=List.mem_range.mp hk;have hn:(0:Int)+(k:Int)=(k:Int):=by omega
    have hd2:(deI (.int (k:Int))).toNat=k:=Int.toNat_natCast k;have a2:dIx (aU es) (.int (k:Int))=some (iM es (k:Int)).d:=u3 (by omega) (by omega);rw [hn,hd2];simp only [List.cons_append,List.nil_append,cn,aM,aQ,ck,ax,aC,Rs.aj,fi,a2,Rs.ar,(hF k hk').1]
  show bB (dS cs (aX cs) [some (au ns),some (.int a),some (aU es),some (.int span)])=_;unfold dS;simp only [cU,pO,hg,Rs.aj,aL,bZ];unfold cmD bX;rw [List.map_map,List.map_map];refine congrArg (fun l=>Rs.ok (PyData.list l)) (List.map_congr_left fun k hk=>?_);show c8 (F (deI (.int (0+(k:Int)))).toNat)=c8 (F k);rw [show (0:Int)+(k:Int)=(k:Int) by omega,show (deI (.int (k:Int))).toNat=k from Int.toNat_natCast k]
 ·have e:=mH (es:=es) (n:=(i:Int)) (by omega) (by omega);rw [Int.toNat_natCast,List.getElem?_eq_getElem h1] at e;have e':es[i]=iM es (i:Int):=Option.some.inj e;have:=(hF i h1).2;rw [List.getElem_map,List.getElem_range,e'];exact this
theorem lV {α:Type} {xs:List α} {k:Nat} {v:α} (h:xs[k]?=some v):atI xs (k:Int)=some v:=ue (Int.natCast_nonneg k) (by rw [Int.toNat_natCast];exact h)
def lwD (S E R C D W:PyData) (sp:List Int) (x7 x8 x9 x10 x11:Option PyData):Ds:=[some S,some E,some R,some C,some D,some W,some (.list (sp.map PyData.int)),x7,x8,x9,x10,x11]
def thB:Ds->Sr:=(mE 9 (g2 iy (g2 bA (af 9) (g2 dO (gF bY (ae (gL (bF 12 (cu (g2 dIx (af 3) (af 10))) (gT (g2 dLe (af 12) (af 7))) (af 12) aP)) ao)) (g2 dIx (af 5) (af 10)))) (g2 dIx (af 6) (af 10))))
def lwB:Ds->Sr:=(aK (bj [6] 9 (gC (.int 0)))
 (aK (iz [6] (fG (ae (gF bY (ae (af 1) ao)) ao)) (bU 10) thB)
 (aK (sIf (gT (g2 dNe (g1 kn (af 8)) (g2 dEq (af 9) (gC (.int 0))))) (bS (gC (.bool false))) bt)
 (sIf (gT (g1 l5 (af 8))) (aK (zJ [6] (i6 [11,10]) (af 8))
 (aK (sIf (cOr (gT (g2 dNe (af 10) (g2 gQ (g2 dIx (af 6) (af 11)) (g2 dIx (af 5) (af 11))))) (gT (g2 dGe (af 10) (gF bY (ae (g2 dIx (af 3) (af 11)) ao))))) (bS (gC (.bool false))) bt)
 (aK (sIf (gT (g2 dGt (g2 dIx (g2 dIx (af 3) (af 11)) (af 10)) (af 7))) (bS (gC (.bool false))) bt)
 (rV 6 (af 11) (g2 bA (g2 dIx (af 6) (af 11)) (gC (.int 1))))))) bt))))
def b0 (js:List Jb):PyData:=cmD (js.map (·.row))
def bc (js:List Jb):PyData:=.list ((js.map Jb.work).map PyData.int)
structure Sx (js:List Jb):Prop where
 num:∀ (i:Nat) (h:i<js.length),js[i].num=(i:Int)
 row:∀ j∈js,j.row.length<=1000
 wk:∀ j∈js,j.work<=1000
section
variable {js:List Jb} {S E R D:PyData} {i:Nat}
theorem oY (h:i<js.length):dIx (b0 js) (.int (i:Int))=some (c8 js[i].row):=lV (by rw [List.getElem?_map,List.getElem?_map,List.getElem?_eq_getElem h];rfl)
theorem qw (h:i<js.length):dIx (bc js) (.int (i:Int))=some (.int js[i].work):=lV (by rw [List.getElem?_map,List.getElem?_map,List.getElem?_eq_getElem h];rfl)
theorem ph (h:i<js.length):dIx (.list ((js.map Jb.tot).map PyData.int)) (.int (i:Int))=some (.int js[i].tot):=lV (by rw [List.getElem?_map,List.getElem?_map,List.getElem?_eq_getElem h];rfl)
theorem C6 {a b:Int} (h0:0<=b) (h1:b<=1000):dO (.int a) (.int b)=some (.int (a*b)):=yD (by omega) (by omega)
theorem lZ {f:PyData->PyData->Option PyData} {a b:Ds->Rs PyData} {δ:Ds} {x y z:PyData} (ha:a δ=.ok x) (hb:b δ=.ok y) (hf:f x y=some z):g2 f a b δ=.ok z:=by rw [ck,ha,Rs.aj,hb,Rs.aj,hf];rfl
theorem Du {tops:PyData} {t s:Int} (h:i<js.length) (hk:JOk tops js[i]) (sx:Sx js) {x8 x11:Option PyData} :
  thB (lwD S E R (b0 js) D (bc js) (js.map Jb.tot) (some (.int t)) x8 (some (.int s)) (some (.int (i:Int))) x11)=.nx (lwD S E R (b0 js) D (bc js) (js.map Jb.tot) (some (.int t)) x8 (some (.int (s+dF t js[i]))) (some (.int (i:Int))) x11):=by
 have hm:=List.getElem_mem h;have hrow:=sx.row _ hm;have hwk:=sx.wk _ hm;have hw0:=oC hk;have hc:bF 12 (cu (g2 dIx (af 3) (af 10))) (gT (g2 dLe (af 12) (af 7))) (af 12) aP (lwD S E R (b0 js) D (bc js) (js.map Jb.tot) (some (.int t)) x8 (some (.int s)) (some (.int (i:Int))) x11)=.ok ((js[i].row.map PyData.int).filter fun d=>decide (deI d<=t)):=by
  refine mw rfl ?_ (by rw [List.length_map];omega) fun d hd=>?_
  ·unfold lwD;simp only [FW,ck,ax,aC,Rs.aj,oY h,Rs.ar];rfl
  ·obtain ⟨c,_,rfl⟩:=List.mem_map.mp hd;refine ⟨?_,rfl⟩;unfold lwD;simp only [List.cons_append,List.nil_append,eU,ck,ax,aC,Rs.aj,HF,Rs.ar,bN];rfl
 have hl:((js[i].row.map PyData.int).filter fun d=>decide (deI d<=t)).length=iV js[i].row t:=by rw [List.filter_map,List.length_map];rfl
 have hmul:dO (.int (iV js[i].row t:Int)) (.int js[i].work)=some (.int ((iV js[i].row t:Int)*js[i].work)):=C6 (by omega) hwk;have hln:gF bY (ae (gL (bF 12 (cu (g2 dIx (af 3) (af 10))) (gT (g2 dLe (af 12) (af 7))) (af 12) aP)) ao) (lwD S E R (b0 js) D (bc js) (js.map Jb.tot) (some (.int t)) x8 (some (.int s)) (some (.int (i:Int))) x11)=.ok (.int (iV js[i].row t:Int)):=by simp only [fU,aM,aQ,pO,hc,Rs.aj,iK,hl,Rs.ar]
 have hg:g2 iy (g2 bA (af 9) (g2 dO (gF bY (ae (gL (bF 12 (cu (g2 dIx (af 3) (af 10))) (gT (g2 dLe (af 12) (af 7))) (af 12) aP)) ao)) (g2 dIx (af 5) (af 10)))) (g2 dIx (af 6) (af 10)) (lwD S E R (b0 js) D (bc js) (js.map Jb.tot) (some (.int t)) x8 (some (.int s)) (some (.int (i:Int))) x11)=.ok (.int (s+dF t js[i])):=by
  have e1:s+(iV js[i].row t:Int)*js[i].work-js[i].tot=s+dF t js[i]:=by unfold dF;omega
  rw [<-e1];exact lZ (lZ (x:=.int s) rfl (lZ hln (lZ rfl rfl (qw h)) hmul) rfl) (lZ rfl rfl (ph h)) rfl
 exact ze (by decide:9<12) hg rfl
theorem vO {α:Type} (f:α->Int) (a:α):∀ l:List α,((l++[a]).map f).sum=(l.map f).sum+f a
 | []=>by show f a+0=0+f a;omega
 | b::r=>by rw [List.cons_append,List.map_cons,List.map_cons,List.sum_cons,List.sum_cons,vO f a r];omega
theorem EF {tops:PyData} {t:Int} (hk:vc tops js) (sx:Sx js) {x8 x10 x11:Option PyData} :
  ∃ y10,forL (bU 10) thB (bX 0 js.length) (lwD S E R (b0 js) D (bc js) (js.map Jb.tot) (some (.int t)) x8 (some (.int 0)) x10 x11)=.nx (lwD S E R (b0 js) D (bc js) (js.map Jb.tot) (some (.int t)) x8 (some (.int (js.map (dF t)).sum)) y10 x11):=by
 obtain ⟨δ',e,y10,hδ⟩:=g9 (β:=Unit) (tgt:=bU 10) (body:=thB) (fun i δ=>∃ x10,δ=lwD S E R (b0 js) D (bc js) (js.map Jb.tot) (some (.int t)) x8 (some (.int ((js.take i).map (dF t)).sum)) x10 x11) (bX 0 js.length) 0 (fun i d δ hi pz4=>by obtain ⟨x10,hx⟩:=pz4;subst hx;rw [Nat.zero_add];obtain ⟨hi',rfl⟩:=fS hi;rw [show (0:Int)+(i:Int)=(i:Int) by omega];refine ⟨_,_,rfl,Du hi' (hk.ok _ (List.getElem_mem hi')) sx,some (.int (i:Int)),?_⟩;rw [List.take_succ,List.getElem?_eq_getElem hi',Option.toList_some,vO]) _ ⟨x10,rfl⟩
 refine ⟨y10,e.trans ?_⟩;rw [hδ,dq,Nat.zero_add,List.take_length]
theorem ne_bool (b:Bool):dNe (.bool b) (.bool b)=some (.bool false):=by
 have h:∀ i:Bool,PySem.SeqAt.shaped (.bool i)=true:=fun i=>by simp [PySem.SeqAt.shaped,PyData.canLay0,PyData.depth]
 unfold dNe;rw [h];simp [aN,PyData.eqv]
theorem yU {es:List Er} (hl:js.length=es.length) (l6:es.length<=6) {sp:List Int} {C W:PyData} {x7 x8 x9 x10 x11:Option PyData}:fG (ae (gF bY (ae (af 1) ao)) ao) (mask [6] (lwD S (aU es) R C D W sp x7 x8 x9 x10 x11))=.ok (bX 0 js.length):=by
 have hr:=kM (j:=(es.length:Int)) (by omega) (by omega);rw [Int.toNat_natCast] at hr;have hv:(ae (gF bY (ae (af 1) ao)) ao) (mask [6] (lwD S (aU es) R C D W sp x7 x8 x9 x10 x11))=.ok [.int (es.length:Int)]:=by show (ae (gF bY (ae (af 1) ao)) ao) [some S,some (aU es),some R,some C,some D,some W,none,x7,x8,x9,x10,x11]=_;simp only [aM,aQ,fU,ax,aC,Rs.aj,Hn,Rs.ar]
 rw [kG,hv,Rs.aj,hr,hl]
theorem zy {es:List Er} {tops:PyData} {t:Int} (hl:js.length=es.length) (l6:es.length<=6) (hk:vc tops js) (sx:Sx js) {d:PyData} {x9 x10 x11:Option PyData}:∃ y10,lwB (lwD S (aU es) R (b0 js) D (bc js) (js.map Jb.tot) (some (.int t)) (some d) x9 x10 x11)=(aK (sIf (gT (g2 dNe (g1 kn (af 8)) (g2 dEq (af 9) (gC (.int 0))))) (bS (gC (.bool false))) bt)
  (sIf (gT (g1 l5 (af 8))) (aK (zJ [6] (i6 [11,10]) (af 8))
  (aK (sIf (cOr (gT (g2 dNe (af 10) (g2 gQ (g2 dIx (af 6) (af 11)) (g2 dIx (af 5) (af 11))))) (gT (g2 dGe (af 10) (gF bY (ae (g2 dIx (af 3) (af 11)) ao))))) (bS (gC (.bool false))) bt)
  (aK (sIf (gT (g2 dGt (g2 dIx (g2 dIx (af 3) (af 11)) (af 10)) (af 7))) (bS (gC (.bool false))) bt)
  (rV 6 (af 11) (g2 bA (g2 dIx (af 6) (af 11)) (gC (.int 1))))))) bt)) (lwD S (aU es) R (b0 js) D (bc js) (js.map Jb.tot) (some (.int t)) (some d) (some (.int (js.map (dF t)).sum)) y10 x11):=by
 obtain ⟨y10,e⟩:=EF (S:=S) (E:=aU es) (R:=R) (D:=D) (t:=t) (x8:=some d) (x10:=x10) (x11:=x11) hk sx;refine ⟨y10,?_⟩;have s9:bj [6] 9 (gC (.int 0)) (lwD S (aU es) R (b0 js) D (bc js) (js.map Jb.tot) (some (.int t)) (some d) x9 x10 x11)=.nx (lwD S (aU es) R (b0 js) D (bc js) (js.map Jb.tot) (some (.int t)) (some d) (some (.int 0)) x10 x11):=eV (by decide:9<12) rfl;unfold lwB;rw [ba,s9];simp only;rw [ba,p7,yU hl l6,aL,e]
theorem EN {es:List Er} {tops:PyData} {told:List PyData} (hl:js.length=es.length) (l6:es.length<=6) (iv:IvJ tops (told.length:Int) js) (sx:Sx js) (z:dY told js=[]) {x9 x10 x11:Option PyData} :
  ∃ y9 y10 y11,lwB (lwD S (aU es) R (b0 js) D (bc js) (js.map Jb.tot) (some (.int (told.length:Int))) (some .none) x9 x10 x11)=.nx (lwD S (aU es) R (b0 js) D (bc js) (js.map Jb.tot) (some (.int (told.length:Int))) (some .none) y9 y10 y11):=by
 obtain ⟨y10,e⟩:=zy (S:=S) (R:=R) (D:=D) (t:=(told.length:Int)) (d:=.none) (x9:=x9) (x10:=x10) (x11:=x11) hl l6 iv.ok sx;rw [yq iv z] at e;refine ⟨some (.int 0),y10,x11,?_⟩;rw [e];unfold lwD;have hb:((0:Int)==0)=true:=rfl;simp only [ba,d7,eU,gO,ck,ax,aC,dB,Rs.aj,vH,vV,jC,hb,ne_bool,BS,Bool.not_true,Rs.ar,bN,aL,Bool.false_eq_true,if_false,fB]
theorem DR {es:List Er} {tops:PyData} {told:List PyData} {b:Jb} (hl:js.length=es.length) (l6:es.length<=6) (iv:IvJ tops (told.length:Int) js) (sx:Sx js) (hb:b∈js) (ht:b.there (told.length:Int)=true) {x9 x10 x11:Option PyData} :
  ∃ y9 y10 y11,lwB (lwD S (aU es) R (b0 js) D (bc js) (js.map Jb.tot) (some (.int (told.length:Int))) (some (eC b)) x9 x10 x11)=.nx (lwD S (aU es) R (b0 js) D (bc js) ((fu b js).map Jb.tot) (some (.int (told.length:Int))) (some (eC b)) y9 y10 y11):=by
 obtain ⟨y10,e⟩:=zy (S:=S) (R:=R) (D:=D) (t:=(told.length:Int)) (d:=eC b) (x9:=x9) (x10:=x10) (x11:=x11) hl l6 iv.ok sx;have hs:=yb iv hb ht;generalize (js.map (dF (told.length:Int))).sum=s at e hs;obtain ⟨i,hi,rfl⟩:=List.getElem_of_mem hb;have hn:=sx.num i hi;have hk:=iv.ok.ok _ hb;have hw:=tq iv.ok.nd hb hk i hi rfl;have hj:=lY ht;have hcome:js[i].row[js[i].job]<=(told.length:Int):=by unfold Jb.there at ht;rw [List.getElem?_eq_getElem hj] at ht;exact of_decide_eq_true ht
 have hcur:=oC hk;have hwk:=sx.wk _ hb;have hdv:gQ (.int js[i].tot) (.int js[i].work)=some (.int (js[i].job:Int)):=by rw [wG,if_pos ⟨by omega,by omega⟩,En hk]
 have hln:bY [c8 js[i].row]=some (.int (js[i].row.length:Int)):=by unfold c8;rw [iK,List.length_map]
 have hat:dIx (c8 js[i].row) (.int (js[i].job:Int))=some (.int js[i].row[js[i].job]):=lV (by rw [List.getElem?_map,List.getElem?_eq_getElem hj];rfl);refine ⟨some (.int s),some (.int (js[i].job:Int)),some (.int (i:Int)),?_⟩;rw [e,hw];have hz:(s==0)=false:=beq_eq_false_iff_ne.mpr hs;have htd:eC js[i]=.tuple [.int (i:Int),.int (js[i].job:Int)]:=by unfold eC;rw [hn]
 rw [htd];have hnn:eR (.tuple [.int (i:Int),.int (js[i].job:Int)])=false:=rfl;have st:zJ [6] (i6 [11,10]) (af 8) (lwD S (aU es) R (b0 js) D (bc js) (js.map Jb.tot) (some (.int (told.length:Int))) (some (.tuple [.int (i:Int),.int (js[i].job:Int)])) (some (.int s)) y10 x11)=.nx (lwD S (aU es) R (b0 js) D (bc js) (js.map Jb.tot) (some (.int (told.length:Int))) (some (.tuple [.int (i:Int),.int (js[i].job:Int)])) (some (.int s)) (some (.int (js[i].job:Int))) (some (.int (i:Int)))):=rfl;have c1:cOr (gT (g2 dNe (af 10) (g2 gQ (g2 dIx (af 6) (af 11)) (g2 dIx (af 5) (af 11))))) (gT (g2 dGe (af 10) (gF bY (ae (g2 dIx (af 3) (af 11)) ao)))) (lwD S (aU es) R (b0 js) D (bc js) (js.map Jb.tot) (some (.int (told.length:Int))) (some (.tuple [.int (i:Int),.int (js[i].job:Int)])) (some (.int s)) (some (.int (js[i].job:Int))) (some (.int (i:Int))))=.ok false:=by have d2:decide ((js[i].row.length:Int)<=(js[i].job:Int))=false:=decide_eq_false (by omega);unfold lwD;simp only [BM,eU,ck,fU,aM,aQ,ax,aC,Rs.aj,ph hi,qw hi,oY hi,hdv,hln,Bu,beq_self_eq_true,Bool.not_true,IZ,d2,Rs.ar,bN,Bool.false_eq_true,if_false]
 have c2:gT (g2 dGt (g2 dIx (g2 dIx (af 3) (af 11)) (af 10)) (af 7)) (lwD S (aU es) R (b0 js) D (bc js) (js.map Jb.tot) (some (.int (told.length:Int))) (some (.tuple [.int (i:Int),.int (js[i].job:Int)])) (some (.int s)) (some (.int (js[i].job:Int))) (some (.int (i:Int))))=.ok false:=by have d2:decide ((told.length:Int)<js[i].row[js[i].job])=false:=decide_eq_false (by omega);unfold lwD;simp only [eU,ck,ax,aC,Rs.aj,oY hi,hat,Dt,d2,Rs.ar,bN]
 have sp:rV 6 (af 11) (g2 bA (g2 dIx (af 6) (af 11)) (gC (.int 1))) (lwD S (aU es) R (b0 js) D (bc js) (js.map Jb.tot) (some (.int (told.length:Int))) (some (.tuple [.int (i:Int),.int (js[i].job:Int)])) (some (.int s)) (some (.int (js[i].job:Int))) (some (.int (i:Int))))=.nx (lwD S (aU es) R (b0 js) D (bc js) ((js.map Jb.tot).set i (js[i].tot+1)) (some (.int (told.length:Int))) (some (.tuple [.int (i:Int),.int (js[i].job:Int)])) (some (.int s)) (some (.int (js[i].job:Int))) (some (.int (i:Int)))):=by
  have hg:g2 bA (g2 dIx (af 6) (af 11)) (gC (.int 1)) (lwD S (aU es) R (b0 js) D (bc js) (js.map Jb.tot) (some (.int (told.length:Int))) (some (.tuple [.int (i:Int),.int (js[i].job:Int)])) (some (.int s)) (some (.int (js[i].job:Int))) (some (.int (i:Int))))=.ok (.int (js[i].tot+1)):=by unfold lwD;simp only [ck,ax,aC,dB,Rs.aj,ph hi,fi,Rs.ar]
  have hix:ixN ((js.map Jb.tot).map PyData.int).length (i:Int)=some i:=by unfold ixN;rw [if_pos (Int.natCast_nonneg i),if_pos (by rw [List.length_map,List.length_map];omega),Int.toNat_natCast]
  show ofR (g2 bA (g2 dIx (af 6) (af 11)) (gC (.int 1)) (lwD S (aU es) R (b0 js) D (bc js) (js.map Jb.tot) (some (.int (told.length:Int))) (some (.tuple [.int (i:Int),.int (js[i].job:Int)])) (some (.int s)) (some (.int (js[i].job:Int))) (some (.int (i:Int))))) (fun d=>match ixN ((js.map Jb.tot).map PyData.int).length (i:Int) with
   | some j=>if fE d then Sr.nx _ else Sr.no
   | none=>Sr.no)=_
  rw [hg,hix,aL];show Sr.nx _=_;unfold lwD;rw [List.map_set];rfl
 have c0:gT (g2 dNe (g1 kn (af 8)) (g2 dEq (af 9) (gC (.int 0)))) (lwD S (aU es) R (b0 js) D (bc js) (js.map Jb.tot) (some (.int (told.length:Int))) (some (.tuple [.int (i:Int),.int (js[i].job:Int)])) (some (.int s)) y10 x11)=.ok false:=by unfold lwD;simp only [eU,gO,ck,ax,aC,dB,Rs.aj,vH,hnn,jC,hz,ne_bool,Rs.ar,bN]
 have c3:gT (g1 l5 (af 8)) (lwD S (aU es) R (b0 js) D (bc js) (js.map Jb.tot) (some (.int (told.length:Int))) (some (.tuple [.int (i:Int),.int (js[i].job:Int)])) (some (.int s)) y10 x11)=.ok true:=by unfold lwD;simp only [eU,gO,ax,aC,Rs.aj,BS,hnn,Bool.not_false,Rs.ar,bN]
 simp only [ba,d7,c0,c1,c2,c3,st,sp,aL,Bool.false_eq_true,if_false,if_true,fB]
end
def tI (k:Nat) (l:List PyData):List PyData:=l.mapIdx fun i d=>.tuple [.int ((k+i:Nat):Int),d]
theorem sv {tgt:PyData->Ds->Option Ds} {body:Ds->Sr} {d:PyData} {r:List PyData} {δ δ1 δ2:Ds} (h1:tgt d δ=some δ1) (h2:body δ1=.nx δ2):forL tgt body (d::r) δ=forL tgt body r δ2:=by rw [forL,h1];simp only [h2]
theorem pY (k:Nat) (d:PyData) (r:List PyData):tI k (d::r)=.tuple [.int (k:Int),d]::tI (k+1) r:=by
 unfold tI;rw [List.mapIdx_cons];have ef:(fun (i:Nat) (d:PyData)=>PyData.tuple [.int ((k+(i+1):Nat):Int),d])=fun i d=>.tuple [.int ((k+1+i:Nat):Int),d]:=by funext i d;rw [show k+(i+1)=k+1+i by omega]
 rw [ef];rfl
theorem sH {js ks:List Jb} (h:ks.map eI=js.map eI):b0 ks=b0 js:=by have:=congrArg (List.map fun x=>x.2.2) h;rw [List.map_map,List.map_map] at this;exact congrArg cmD this
theorem qt {js ks:List Jb} (h:ks.map eI=js.map eI):bc ks=bc js:=by have:=congrArg (List.map fun x=>cK x.2.1) h;rw [List.map_map,List.map_map] at this;exact congrArg (fun l:List Int=>PyData.list (l.map PyData.int)) this
theorem qN {js ks:List Jb} (h:ks.map eI=js.map eI):ks.length=js.length:=by
 have:=congrArg List.length h
 rwa [List.length_map,List.length_map] at this
theorem yL {js ks:List Jb} (h:ks.map eI=js.map eI) (s:Sx js):Sx ks:=by
 have hl:=qN h;have hm:∀ k∈ks,∃ j∈js,eI j=eI k:=fun k hk=>by have:eI k∈ks.map eI:=List.mem_map.mpr ⟨k,hk,rfl⟩;rw [h] at this;exact List.mem_map.mp this
 refine ⟨fun i hi=>?_,fun k hk=>?_,fun k hk=>?_⟩
 ·have e:(ks.map eI)[i]?=(js.map eI)[i]?:=by rw [h]
  rw [List.getElem?_map,List.getElem?_map,List.getElem?_eq_getElem hi,List.getElem?_eq_getElem (hl▸hi)] at e;have e2:eI ks[i]=eI (js[i]'(hl▸hi)):=Option.some.inj e;have:=congrArg (·.1) e2;exact this.trans (s.num i (hl▸hi))
 ·obtain ⟨j,hj,e⟩:=hm k hk;have e2:j.row=k.row:=congrArg (·.2.2) e;rw [<-e2];exact s.row j hj
 ·obtain ⟨j,hj,e⟩:=hm k hk;have e2:j.parts=k.parts:=congrArg (·.2.1) e;have:=s.wk j hj;unfold Jb.work at this ⊢;rw [<-e2];exact this
theorem uU {tops:PyData} {len:Str} {es:List Er} {S R D:PyData} (l6:es.length<=6):∀ (n:Nat) (js:List Jb) (told out:List PyData),vW tops len n (js,told)=some out->IvJ tops (told.length:Int) js->Sx js->js.length=es.length ->
  ∃ rest js',out=told++rest/\js'.map eI=js.map eI/\js'.all Jb.done=true/\IvJ tops (out.length:Int) js'/\(rest=[]->js'=js)/\(rest.getLast?=none\/∃ b,rest.getLast?=some (eC b)) /\
   ∀ x7 x8 x9 x10 x11,∃ y7 y8 y9 y10 y11,forL (i6 [7,8]) lwB (tI told.length rest) (lwD S (aU es) R (b0 js) D (bc js) (js.map Jb.tot) x7 x8 x9 x10 x11)=.nx (lwD S (aU es) R (b0 js) D (bc js) (js'.map Jb.tot) y7 y8 y9 y10 y11)
 | 0,_,_,_,h,_,_,_=>by cases h
 | n+1,js,told,out,h,iv,sx,hl=>by
  unfold vW at h;by_cases z:js.all Jb.done=true
  ·rw [if_pos (show (js,told).1.all Jb.done=true from z)] at h;cases h;exact ⟨[],js,(List.append_nil _).symm,rfl,z,iv,fun _=>rfl,.inl rfl,fun x7 x8 x9 x10 x11=>⟨x7,x8,x9,x10,x11,rfl⟩⟩
  ·rw [if_neg (show ¬ ((js,told).1.all Jb.done=true) from z)] at h;have iv':=E5 (len:=len) iv;by_cases y:dY told js=[]
   ·rw [mX y] at h iv';obtain ⟨rest,js',e1,e2,e3,e4,e5,e6,e7⟩:=uU (es:=es) (S:=S) (R:=R) (D:=D) l6 n js (told++[.none]) out h iv' sx hl;have hr:rest≠[]:=fun q=>z (by rw [<-e5 q];exact e3)
    refine ⟨.none::rest,js',by rw [e1,List.append_assoc];rfl,e2,e3,e4,fun q=>(by cases q),?_,fun x7 x8 x9 x10 x11=>?_⟩
    ·obtain ⟨a,r,rfl⟩:=List.exists_cons_of_ne_nil hr;rw [List.getLast?_cons_cons];exact e6
    ·obtain ⟨y9,y10,y11,eb⟩:=EN (S:=S) (R:=R) (D:=D) (x9:=x9) (x10:=x10) (x11:=x11) hl l6 iv sx y;obtain ⟨z7,z8,z9,z10,z11,ef⟩:=e7 (some (.int (told.length:Int))) (some .none) y9 y10 y11;refine ⟨z7,z8,z9,z10,z11,?_⟩;rw [List.length_append,List.length_singleton] at ef;rw [pY];exact (sv rfl eb).trans ef
   ·obtain ⟨b,hb,ht,es'⟩:=nH (tops:=tops) (len:=len) y;rw [es'] at h iv';have hst:=tO iv.ok.nd hb;obtain ⟨rest,js',e1,e2,e3,e4,e5,e6,e7⟩:=uU (es:=es) (S:=S) (R:=R) (D:=D) l6 n (fu b js) (told++[eC b]) out h iv' (yL hst sx) (by rw [qN hst];exact hl);refine ⟨eC b::rest,js',by rw [e1,List.append_assoc];rfl,by rw [e2,hst],e3,e4,fun q=>(by cases q),?_,fun x7 x8 x9 x10 x11=>?_⟩
    ·cases rest with
     | nil=>exact .inr ⟨b,rfl⟩
     | cons a r=>rw [List.getLast?_cons_cons];exact e6
    ·obtain ⟨y9,y10,y11,eb⟩:=DR (S:=S) (R:=R) (D:=D) (x9:=x9) (x10:=x10) (x11:=x11) hl l6 iv sx hb ht;obtain ⟨z7,z8,z9,z10,z11,ef⟩:=e7 (some (.int (told.length:Int))) (some (eC b)) y9 y10 y11;refine ⟨z7,z8,z9,z10,z11,?_⟩;rw [List.length_append,List.length_singleton,sH hst,qt hst] at ef;rw [pY];exact (sv rfl eb).trans ef
theorem mD {f:Gf} {a:Ds->Rs (List PyData)} {δ:Ds} {ds:List PyData} {d:PyData} (ha:a δ=.ok ds) (hf:f ds=.ok d):aF f a δ=.ok d:=by rw [cn,ha,Rs.aj,hf]
theorem jW {a b:Ds->Sr} {δ δ':Ds} (h:a δ=.nx δ'):aK a b δ=b δ':=by rw [ba,h]
theorem Df {O:List Nat} {src:Ds->Rs (List PyData)} {tgt:PyData->Ds->Option Ds} {body:Ds->Sr} {δ:Ds} {ds:List PyData} (h:src (mask O δ)=.ok ds):iz O src tgt body δ=forL tgt body ds δ:=by rw [p7,h,aL]
theorem G7 {O:List Nat} {i:Nat} {g:Ds->Rs (List PyData)} {δ:Ds} {ds:List PyData} (hi:i<δ.length) (hg:g (mask O δ)=.ok ds):ia O i g δ=.nx (δ.set i (some (.list ds))):=by unfold ia;rw [if_pos hi,hg,aL]
theorem Cms.sorted {es:List Er} {rows:List (List Int)} (h:Cms es rows) (ok:∀ e∈es,e.Ok):∀ r∈rows,r.Pairwise (· < ·):=by
 induction h with
 | nil=>intro r hr;cases hr
 | cons hr hv _ ih =>
  intro r' h';rcases List.mem_cons.mp h' with rfl | h'
  ·have o:=ok _ List.mem_cons_self;exact (sQ o.l3 o.l1 _ _ hv).2
  ·exact ih (fun e he=>ok e (List.mem_cons_of_mem _ he)) r' h'
section
variable {es:List Er} {rs:List Int} {rows:List (List Int)} {len:Str}
theorem BR {i:Nat} (h:i<es.length):iM es (i:Int)=es[i]:=by have e:=mH (es:=es) (n:=(i:Int)) (by omega) (by omega);rw [Int.toNat_natCast,List.getElem?_eq_getElem h] at e;exact (Option.some.inj e).symm
theorem rL {i:Nat} (h:i<(startJ es rs rows).length):∃ row,(startJ es rs rows)[i]=mkJ es rs i row:=by
 have e:=mP (es:=es) (rs:=rs) (rows:=rows) i;rw [List.getElem?_eq_getElem h] at e;cases q:rows[i]? with
 | none=>rw [q] at e;cases e
 | some row=>rw [q] at e;exact ⟨row,Option.some.inj e⟩
theorem vm (hl:rows.length=es.length):(startJ es rs rows).map Jb.work=es.map fun e=>cK e.parts :=
 List.ext_getElem (by rw [List.length_map,List.length_map,e9,hl]) (fun i h1 h2=>by
  have hi:i<es.length:=by rwa [List.length_map] at h2
  have h3:i<(startJ es rs rows).length:=by rwa [List.length_map] at h1
  obtain ⟨row,e⟩:=rL h3;rw [List.getElem_map,List.getElem_map,<-BR hi,e];rfl)
theorem xx (hl:rows.length=es.length):(startJ es rs rows).map Jb.tot=es.map fun _=>0 :=
 List.ext_getElem (by rw [List.length_map,List.length_map,e9,hl]) (fun i h1 h2=>by
  have h3:i<(startJ es rs rows).length:=by rwa [List.length_map] at h1
  obtain ⟨row,e⟩:=rL h3;rw [List.getElem_map,List.getElem_map,e];exact nE i _)
theorem Cb (R:Ran es rs rows len) (C:Cms es rows):IvJ (cg es rs) ((([]:List PyData).length:Nat):Int) (startJ es rs rows):=by
 refine ⟨mM R.eok R.rok R.ln,fun j hj=>?_,fun j hj=>?_⟩
 ·obtain ⟨k,row,_,hm,_,rfl⟩:=fe hj;exact C.sorted R.eok.ok row hm
 ·have hw:=oC ((mM R.eok R.rok R.ln).ok j hj);obtain ⟨k,row,_,hm,_,rfl⟩:=fe hj;unfold dF;rw [nE];have:=Int.mul_nonneg (Int.natCast_nonneg (iV (mkJ es rs k row).row ((([]:List PyData).length:Nat):Int))) (show 0<=(mkJ es rs k row).work by omega);omega
theorem A7 (R:Ran es rs rows len) (C:Cms es rows):Sx (startJ es rs rows):=by
 refine ⟨fun i hi=>?_,fun j hj=>?_,fun j hj=>?_⟩
 ·obtain ⟨row,e⟩:=rL hi;rw [e];rfl
 ·obtain ⟨k,row,_,hm,_,rfl⟩:=fe hj;have:=(C.tQ row hm).few;show row.length<=1000;omega
 ·obtain ⟨k,row,hk,hm,_,rfl⟩:=fe hj;have ok:=R.eok.ok _ (km (n:=(k:Int)) (by omega) (by have:=R.ln;omega));have h1:=uV fun p hp=>(ok.pl p hp).2.1
  have h2:=ok.p2;show cK (iM es (k:Int)).parts<=1000;omega
end
theorem Dy:PySem.SeqAt.shaped (.str "none")=true:=by decide +kernel
theorem Eb (ns:List Int):∃ len,dIx (.list [.str "high",.str "asked",.str "none"]) (.int (mixed ns 10 3))=some (.str len)/\rC len:=by
 have h0:=cT ns 10 (many:=3) (by decide);have h1:=df ns 10 (many:=3) (by decide);generalize mixed ns 10 3=m at *;have:m=0\/m=1\/m=2:=by omega
 rcases this with rfl | rfl | rfl
 ·exact ⟨"high",rfl,⟨yS⟩⟩
 ·exact ⟨"asked",rfl,⟨xf⟩⟩
 ·exact ⟨"none",rfl,⟨Dy⟩⟩
def vo (cs:Cs) (ak eo bx bJ aZ:Gf):Ds->Sr :=
 (aK (bj [6] 1 (aF aZ (ae (af 0) (ae (gC (.int 12)) (ae (gC (.int 4)) (ae (gC (.int 28)) (ae (gC (.bool true)) ao)))))))
  (aK (bj [6] 2 (aF bJ (ae (af 0) (ae (gC (.int 0)) (ae (gF bY (ae (af 1) ao)) ao)))))
  (aK (bj [6] 3 (aF bx (ae (af 0) (ae (gC (.int 5)) (ae (af 1) (ae (gC (.int 50)) ao))))))
  (aK (bj [6] 4 (aF eo (ae (af 1) (ae (af 2) (ae (af 3) (ae (g2 dIx (kr (ae (gC (.str "high")) (ae (gC (.str "asked")) (ae (gC (.str "none")) ao)))) (aF ak (ae (af 0) (ae (gC (.int 10)) (ae (gC (.int 3)) ao))))) ao))))))
  (aK (bj [6] 5 (gL (bF 12 (cu (af 1)) bu (gF uz (ae (gL (bF 13 (cu (g2 dIx (af 12) (gC (.int 3)))) bu (g2 dIx (af 13) (gC (.int 0))) aP)) ao)) aP)))
  (aK (ia [6] 6 (bF 12 (cu (af 1)) bu (gC (.int 0)) aP))
  (aK (iz [6] (lU (ae (af 4) ao)) (i6 [7,8]) (aK (bj [6] 9 (gC (.int 0)))
  (aK (iz [6] (fG (ae (gF bY (ae (af 1) ao)) ao)) (bU 10) (mE 9 (g2 iy (g2 bA (af 9) (g2 dO (gF bY (ae (gL (bF 12 (cu (g2 dIx (af 3) (af 10))) (gT (g2 dLe (af 12) (af 7))) (af 12) aP)) ao)) (g2 dIx (af 5) (af 10)))) (g2 dIx (af 6) (af 10)))))
  (aK (sIf (gT (g2 dNe (g1 kn (af 8)) (g2 dEq (af 9) (gC (.int 0))))) (bS (gC (.bool false))) bt)
  (sIf (gT (g1 l5 (af 8))) (aK (zJ [6] (i6 [11,10]) (af 8))
  (aK (sIf (cOr (gT (g2 dNe (af 10) (g2 gQ (g2 dIx (af 6) (af 11)) (g2 dIx (af 5) (af 11))))) (gT (g2 dGe (af 10) (gF bY (ae (g2 dIx (af 3) (af 11)) ao))))) (bS (gC (.bool false))) bt)
  (aK (sIf (gT (g2 dGt (g2 dIx (g2 dIx (af 3) (af 11)) (af 10)) (af 7))) (bS (gC (.bool false))) bt)
  (rV 6 (af 11) (g2 bA (g2 dIx (af 6) (af 11)) (gC (.int 1))))))) bt)))))
  (aK (iz [6] (fG (ae (gF bY (ae (af 1) ao)) ao)) (bU 10) (sIf (gT (g2 dNe (g2 dIx (af 6) (af 10)) (g2 dO (g2 dIx (af 5) (af 10)) (gF bY (ae (g2 dIx (af 3) (af 10)) ao))))) (bS (gC (.bool false))) bt))
  (bS (g2 dNe (mQ (af 4) (sZ (g1 lA (gC (.int 1)))) mG) (kr (ae (gC .none) ao))))))))))))
theorem Dg {xs:List PyData}:cutD xs (some (-1)) none=xs.drop (xs.length-1):=by
 unfold cutD;have e1:HT.sIx xs.length 0 (some (-1))=xs.length-1:=by unfold HT.sIx;simp only;rw [if_pos (by decide)];omega
 have e2:HT.sIx xs.length xs.length none=xs.length:=rfl;rw [e1,e2];exact List.take_of_length_le (by rw [List.length_drop];exact Nat.le_refl _)
theorem DH:dNe (.list []) (.list [.none])=some (.bool true):=by simp [dNe,aN,dw,PySem.SeqAt.shaped,PyData.canLay0,PyData.canLayAll0,PyData.depth,PyData.depthAll,PyData.eqv,PyData.eqvAll]
theorem BU (b:Jb):dNe (.list [eC b]) (.list [.none])=some (.bool true):=by unfold eC;simp [dNe,aN,dw,PySem.SeqAt.shaped,PyData.canLay0,PyData.canLayAll0,PyData.depth,PyData.depthAll,PyData.eqv,PyData.eqvAll]
theorem DT {t:List PyData} (h:t.getLast?=none\/∃ b,t.getLast?=some (eC b)):dNe (.list (cutD t (some (-1)) none)) (.list [.none])=some (.bool true):=by
 rw [Dg];rcases h with h | ⟨b,h⟩
 ·rw [List.getLast?_eq_none_iff.mp h];exact DH
 ·have hz:t≠[]:=fun z=>by rw [z] at h;cases h
  rw [List.getLast?_eq_some_getLast hz] at h;obtain ⟨r,rfl⟩:∃ r,t=r++[eC b]:=⟨t.dropLast,by rw [<-Option.some.inj h];exact (List.dropLast_concat_getLast hz).symm⟩
  rw [List.length_append,List.length_singleton,Nat.add_sub_cancel,List.drop_left];exact BU b
def fnB:Ds->Sr:=(sIf (gT (g2 dNe (g2 dIx (af 6) (af 10)) (g2 dO (g2 dIx (af 5) (af 10)) (gF bY (ae (g2 dIx (af 3) (af 10)) ao))))) (bS (gC (.bool false))) bt)
theorem DJ {tops:PyData} {t:Int} {js:List Jb} {S E R D:PyData} {x7 x8 x9 x10 x11:Option PyData} (iv:IvJ tops t js) (sx:Sx js) (hd:js.all Jb.done=true) :
  ∃ y10,forL (bU 10) fnB (bX 0 js.length) (lwD S E R (b0 js) D (bc js) (js.map Jb.tot) x7 x8 x9 x10 x11)=.nx (lwD S E R (b0 js) D (bc js) (js.map Jb.tot) x7 x8 x9 y10 x11):=by
 obtain ⟨δ',e,y10,hδ⟩:=g9 (β:=Unit) (tgt:=bU 10) (body:=fnB) (fun i δ=>∃ x10,δ=lwD S E R (b0 js) D (bc js) (js.map Jb.tot) x7 x8 x9 x10 x11) (bX 0 js.length) 0 (fun i d δ hi pz4=>by
  obtain ⟨x10,hx⟩:=pz4;subst hx;obtain ⟨hi',rfl⟩:=fS hi;rw [show (0:Int)+(i:Int)=(i:Int) by omega];have hm:=List.getElem_mem hi';have ht:=Ba (iv.ok.ok _ hm) (iv.low _ hm) (List.all_eq_true.mp hd _ hm);have hln:bY [c8 js[i].row]=some (.int (js[i].row.length:Int)):=by unfold c8;rw [iK,List.length_map]
  have hmul:dO (.int js[i].work) (.int (js[i].row.length:Int))=some (.int js[i].tot):=by rw [C6 (Int.natCast_nonneg _) (by have:=sx.row _ hm;omega),Int.mul_comm,ht]
  refine ⟨_,_,rfl,?_,some (.int (i:Int)),rfl⟩;show fnB (lwD S E R (b0 js) D (bc js) (js.map Jb.tot) x7 x8 x9 (some (.int (i:Int))) x11)=.nx (lwD S E R (b0 js) D (bc js) (js.map Jb.tot) x7 x8 x9 (some (.int (i:Int))) x11);have h1:gF bY (ae (g2 dIx (af 3) (af 10)) ao) (lwD S E R (b0 js) D (bc js) (js.map Jb.tot) x7 x8 x9 (some (.int (i:Int))) x11)=.ok (.int (js[i].row.length:Int)):=by unfold lwD;simp only [fU,aM,aQ,ck,ax,aC,Rs.aj,oY hi',hln,Rs.ar]
  have h2:=lZ (f:=dO) (lZ (f:=dIx) (a:=af 5) (b:=af 10) (δ:=lwD S E R (b0 js) D (bc js) (js.map Jb.tot) x7 x8 x9 (some (.int (i:Int))) x11) rfl rfl (qw hi')) h1 hmul;have h3:=lZ (f:=dNe) (lZ (f:=dIx) (a:=af 6) (b:=af 10) (δ:=lwD S E R (b0 js) D (bc js) (js.map Jb.tot) x7 x8 x9 (some (.int (i:Int))) x11) rfl rfl (ph hi')) h2 (Bu _ _);unfold fnB;rw [d7,eU,h3,Rs.aj,beq_self_eq_true];rfl) _ ⟨x10,rfl⟩
 exact ⟨y10,e.trans (by rw [hδ])⟩
theorem CJ {es:List Er} (hl:es.length<=6) (hsh:∀ e∈es,e.Sh) {S R C D:PyData} {x6 x7 x8 x9 x10 x11:Option PyData} :
  bF 12 (cu (af 1)) bu (gF uz (ae (gL (bF 13 (cu (g2 dIx (af 12) (gC (.int 3)))) bu (g2 dIx (af 13) (gC (.int 0))) aP)) ao)) aP [some S,some (aU es),some R,some C,some D,none,x6,x7,x8,x9,x10,x11]=.ok ((es.map fun e=>cK e.parts).map PyData.int):=by
 have h1:bF 12 (cu (af 1)) bu (gF uz (ae (gL (bF 13 (cu (g2 dIx (af 12) (gC (.int 3)))) bu (g2 dIx (af 13) (gC (.int 0))) aP)) ao)) aP [some S,some (aU es),some R,some C,some D,none,x6,x7,x8,x9,x10,x11]=.ok ((es.map Er.d).map fun d=>.int (cK (deE d).parts)):=by
  refine c9 rfl rfl (by rw [List.length_map];omega) fun d hd=>?_
  obtain ⟨e,he,rfl⟩:=List.mem_map.mp hd;have hpn:=(hsh e he).pn;have h2:bF 13 (cu (g2 dIx (af 12) (gC (.int 3)))) bu (g2 dIx (af 13) (gC (.int 0))) aP ([some S,some (aU es),some R,some C,some D,none,x6,x7,x8,x9,x10,x11]++[some e.d])=.ok ((e.parts.map bI).map fun d=>.int (dG d).1):=by
   refine c9 rfl rfl (by rw [List.length_map];omega) fun d hd=>?_
   obtain ⟨p,_,rfl⟩:=List.mem_map.mp hd;rw [j7];rfl
  have h3:=AO (fun d=>(dG d).1) (e.parts.map bI);have h4:((e.parts.map bI).map fun d=>(dG d).1).sum=cK e.parts:=by unfold cK;rw [List.map_map];refine congrArg List.sum (List.map_congr_left fun p _=>?_);show (dG (bI p)).1=p.1;rw [j7]
  rw [h4] at h3;simp only [fU,aM,aQ,pO,h2,Rs.aj,h3,Rs.ar,tX]
 rw [h1,List.map_map,List.map_map];refine congrArg Rs.ok (List.map_congr_left fun e _=>?_);show PyData.int (cK (deE e.d).parts)=.int (cK e.parts);rw [tX]
theorem law_holds (cs:Cs) (ns:List Int):vo cs ak (eo cs) (bx cs) bJ aZ (some (au ns)::List.replicate 11 none)=.rt (.bool true):=by
 obtain ⟨es,rs,_,l1,l4,hok,hr,hes,hrs⟩:=AN ns 12 28 (by decide) (by decide) (by decide);have l6:es.length<=6:=by omega
 have ok:xS es:=⟨l1,l6,hok⟩
 obtain ⟨rows,hcm,C⟩:=yp (cs:=cs) ok (ns:=ns) (a:=5) (span:=50) (by decide) (by decide);obtain ⟨len,hlen,le⟩:=Eb ns;have hmx:=cJ (ns:=ns) (k:=10) (many:=3) (by decide) (by decide);have R:Ran es rs rows len:=⟨ok,hr,C.len,le⟩
 obtain ⟨t,ht⟩:=BW R C;have hrun:=sC (cs:=cs) R C ht;have hjl:(startJ es rs rows).length=es.length:=by rw [e9,R.ln]
 have hrw:b0 (startJ es rs rows)=cmD rows:=congrArg cmD xC;have hwk:bc (startJ es rs rows)=.list ((es.map fun e=>cK e.parts).map PyData.int):=congrArg (fun l:List Int=>PyData.list (l.map PyData.int)) (vm R.ln);have htt:=xx (rs:=rs) R.ln;have hsx:=A7 R C;obtain ⟨rest,js',e1,e2,e3,e4,_,e6,e7⟩:=uU (es:=es) (S:=au ns) (R:=bo rs) (D:=.list t) l6 1000000 (startJ es rs rows) [] t ht (Cb R C) hsx hjl;rw [List.nil_append] at e1;subst e1;obtain ⟨y7,y8,y9,y10,y11,ef⟩:=e7 none none none none none;obtain ⟨z10,eg⟩:=DJ (S:=au ns) (E:=aU es) (R:=bo rs) (D:=.list t) (x7:=y7) (x8:=y8) (x9:=y9) (x10:=y10) (x11:=y11) e4 (yL e2 hsx) e3;have hjl':js'.length=es.length:=by rw [qN e2,hjl]
 have s1:bj [6] 1 (aF aZ (ae (af 0) (ae (gC (.int 12)) (ae (gC (.int 4)) (ae (gC (.int 28)) (ae (gC (.bool true)) ao)))))) [some (au ns),none,none,none,none,none,none,none,none,none,none,none]=.nx [some (au ns),some (aU es),none,none,none,none,none,none,none,none,none,none]:=eV (by decide:1<12) (mD rfl hes);have s2:bj [6] 2 (aF bJ (ae (af 0) (ae (gC (.int 0)) (ae (gF bY (ae (af 1) ao)) ao)))) [some (au ns),some (aU es),none,none,none,none,none,none,none,none,none,none]=.nx [some (au ns),some (aU es),some (bo rs),none,none,none,none,none,none,none,none,none]:=by refine eV (by decide:2<12) (mD (ds:=[au ns,.int 0,.int (es.length:Int)]) ?_ hrs);show (ae (af 0) (ae (gC (.int 0)) (ae (gF bY (ae (af 1) ao)) ao))) [some (au ns),some (aU es),none,none,none,none,none,none,none,none,none,none]=_;simp only [aM,aQ,fU,ax,aC,dB,Rs.aj,Hn,Rs.ar]
 have s3:bj [6] 3 (aF (bx cs) (ae (af 0) (ae (gC (.int 5)) (ae (af 1) (ae (gC (.int 50)) ao))))) [some (au ns),some (aU es),some (bo rs),none,none,none,none,none,none,none,none,none]=.nx [some (au ns),some (aU es),some (bo rs),some (cmD rows),none,none,none,none,none,none,none,none]:=eV (by decide:3<12) (mD rfl hcm);have s4:bj [6] 4 (aF (eo cs) (ae (af 1) (ae (af 2) (ae (af 3) (ae (g2 dIx (kr (ae (gC (.str "high")) (ae (gC (.str "asked")) (ae (gC (.str "none")) ao)))) (aF ak (ae (af 0) (ae (gC (.int 10)) (ae (gC (.int 3)) ao))))) ao))))) [some (au ns),some (aU es),some (bo rs),some (cmD rows),none,none,none,none,none,none,none,none]=.nx [some (au ns),some (aU es),some (bo rs),some (cmD rows),some (.list t),none,none,none,none,none,none,none]:=by refine eV (by decide:4<12) (mD (ds:=[aU es,bo rs,cmD rows,.str len]) ?_ hrun);have hm:aF ak (ae (af 0) (ae (gC (.int 10)) (ae (gC (.int 3)) ao))) [some (au ns),some (aU es),some (bo rs),some (cmD rows),none,none,none,none,none,none,none,none]=.ok (.int (mixed ns 10 3)):=mD rfl hmx;show (ae (af 1) (ae (af 2) (ae (af 3) (ae (g2 dIx (kr (ae (gC (.str "high")) (ae (gC (.str "asked")) (ae (gC (.str "none")) ao)))) (aF ak (ae (af 0) (ae (gC (.int 10)) (ae (gC (.int 3)) ao))))) ao)))) [some (au ns),some (aU es),some (bo rs),some (cmD rows),none,none,none,none,none,none,none,none]=_;simp only [aM,aQ,ck,pW,ax,aC,dB,Rs.aj,hm,hlen,Rs.ar]
 have s5:bj [6] 5 (gL (bF 12 (cu (af 1)) bu (gF uz (ae (gL (bF 13 (cu (g2 dIx (af 12) (gC (.int 3)))) bu (g2 dIx (af 13) (gC (.int 0))) aP)) ao)) aP)) [some (au ns),some (aU es),some (bo rs),some (cmD rows),some (.list t),none,none,none,none,none,none,none]=.nx [some (au ns),some (aU es),some (bo rs),some (cmD rows),some (.list t),some (bc (startJ es rs rows)),none,none,none,none,none,none]:=by refine eV (by decide:5<12) ?_;show gL _ [some (au ns),some (aU es),some (bo rs),some (cmD rows),some (.list t),none,none,none,none,none,none,none]=_;rw [pO,CJ l6 fun e he=>(hok e he).sh,hwk];rfl
 have s6:ia [6] 6 (bF 12 (cu (af 1)) bu (gC (.int 0)) aP) [some (au ns),some (aU es),some (bo rs),some (cmD rows),some (.list t),some (bc (startJ es rs rows)),none,none,none,none,none,none]=.nx (lwD (au ns) (aU es) (bo rs) (b0 (startJ es rs rows)) (.list t) (bc (startJ es rs rows)) ((startJ es rs rows).map Jb.tot) none none none none none):=by
  have hg:bF 12 (cu (af 1)) bu (gC (.int 0)) aP (mask [6] [some (au ns),some (aU es),some (bo rs),some (cmD rows),some (.list t),some (bc (startJ es rs rows)),none,none,none,none,none,none])=.ok ((es.map Er.d).map fun _=>.int 0):=c9 rfl rfl (by rw [List.length_map];omega) fun d _=>rfl
  refine (G7 (by decide:6<12) hg).trans ?_;unfold lwD;rw [htt,hrw,List.map_map,List.map_map];rfl
 have src:lU (ae (af 4) ao) (mask [6] (lwD (au ns) (aU es) (bo rs) (b0 (startJ es rs rows)) (.list t) (bc (startJ es rs rows)) ((startJ es rs rows).map Jb.tot) none none none none none))=.ok (tI 0 t):=by show Rs.ok (ja t)=_;unfold ja tI;refine congrArg (fun f=>Rs.ok (t.mapIdx f)) ?_;funext i d;rw [Nat.zero_add]
 have hG:vo cs ak (eo cs) (bx cs) bJ aZ=aK (bj [6] 1 (aF aZ (ae (af 0) (ae (gC (.int 12)) (ae (gC (.int 4)) (ae (gC (.int 28)) (ae (gC (.bool true)) ao)))))))
  (aK (bj [6] 2 (aF bJ (ae (af 0) (ae (gC (.int 0)) (ae (gF bY (ae (af 1) ao)) ao)))))
  (aK (bj [6] 3 (aF (bx cs) (ae (af 0) (ae (gC (.int 5)) (ae (af 1) (ae (gC (.int 50)) ao))))))
  (aK (bj [6] 4 (aF (eo cs) (ae (af 1) (ae (af 2) (ae (af 3) (ae (g2 dIx (kr (ae (gC (.str "high")) (ae (gC (.str "asked")) (ae (gC (.str "none")) ao)))) (aF ak (ae (af 0) (ae (gC (.int 10)) (ae (gC (.int 3)) ao))))) ao))))))
  (aK (bj [6] 5 (gL (bF 12 (cu (af 1)) bu (gF uz (ae (gL (bF 13 (cu (g2 dIx (af 12) (gC (.int 3)))) bu (g2 dIx (af 13) (gC (.int 0))) aP)) ao)) aP)))
  (aK (ia [6] 6 (bF 12 (cu (af 1)) bu (gC (.int 0)) aP))
  (aK (iz [6] (lU (ae (af 4) ao)) (i6 [7,8]) lwB)
  (aK (iz [6] (fG (ae (gF bY (ae (af 1) ao)) ao)) (bU 10) fnB)
  (bS (g2 dNe (mQ (af 4) (sZ (g1 lA (gC (.int 1)))) mG) (kr (ae (gC .none) ao))))))))))):=rfl
 have eg':forL (bU 10) fnB (bX 0 js'.length) (lwD (au ns) (aU es) (bo rs) (b0 (startJ es rs rows)) (.list t) (bc (startJ es rs rows)) (js'.map Jb.tot) y7 y8 y9 y10 y11)=.nx (lwD (au ns) (aU es) (bo rs) (b0 js') (.list t) (bc js') (js'.map Jb.tot) y7 y8 y9 z10 y11):=by rw [<-sH e2,<-qt e2];exact eg
 have last:bS (g2 dNe (mQ (af 4) (sZ (g1 lA (gC (.int 1)))) mG) (kr (ae (gC .none) ao))) (lwD (au ns) (aU es) (bo rs) (b0 js') (.list t) (bc js') (js'.map Jb.tot) y7 y8 y9 z10 y11)=.rt (.bool true):=by unfold lwD;simp only [cU,ck,gO,CI,EU,Am,ax,aC,dB,Co,Rs.aj,Rs.ar,EL,F4,pW,aM,aQ,DT e6,aL]
 exact (congrFun hG _).trans ((jW s1).trans ((jW s2).trans ((jW s3).trans ((jW s4).trans ((jW s5).trans ((jW s6).trans ((jW ((Df src).trans ef)).trans ((jW ((Df (yU hjl' l6)).trans eg')).trans last))))))))
theorem Iz (cs:Cs):∀ ds,ds.length=1->fZ 63 ds≠.no->bB (vo cs ak (eo cs) (bx cs) bJ aZ (ds.map some++List.replicate 11 none))=fZ 63 ds:=lawT_of (law_holds cs)
end RS
set_option maxHeartbeats 4000000
namespace RS
open PySem PySem.Spec PyProof.Rows L2
def top (i:Nat):Stmt:=PySem.Challenge.pw_ranksure_k06_whole_never_rests.main.body.getD i (.Pass ⟨0,0,0,0⟩)
abbrev lp:Stmt:=top 13
abbrev lj:Stmt:=top 14
abbrev mV:Stmt:=top 15
abbrev kF:Stmt:=top 16
abbrev j4:Stmt:=top 17
abbrev mS:Stmt:=top 18
abbrev gA:Stmt:=top 19
abbrev lK:Stmt:=top 20
abbrev qj:Stmt:=top 21
abbrev ju:Stmt:=top 22
abbrev iu:Stmt:=top 26
abbrev rF:Stmt:=top 27
abbrev fk:Stmt:=top 28
abbrev fQ:Stmt:=top 30
abbrev pG:Stmt:=top 31
abbrev je:Stmt:=top 32
abbrev rq:Stmt:=top 33
abbrev qG:Stmt:=top 34
abbrev Bq:Stmt:=top 35
abbrev eu:Stmt:=top 37
abbrev iG:Stmt:=top 38
abbrev jl:Stmt:=top 39
abbrev iQ:Stmt:=top 40
abbrev ko:Stmt:=top 41
abbrev fW:Stmt:=top 42
abbrev iU:Stmt:=top 43
abbrev uc:Stmt:=top 44
abbrev gD:Stmt:=inClass (top 29) 1
abbrev gx:Stmt:=inClass (top 29) 2
abbrev jR:Stmt:=inClass (top 29) 3
abbrev iS:Stmt:=inClass (top 29) 4
abbrev jo:Stmt:=inClass (top 29) 5
abbrev ur:Stmt:=inClass (top 29) 0
structure Tx (K:PySem.W.Frag) (mg:Str->Option Value) (cs:Cs):Prop where
 f_is_whole:bH K mg "is_whole" lp ["thing", "least", "most"]
 f_is_tuple:bH K mg "is_tuple" lj ["thing", "fewest", "most"]
 f_is_part:bH K mg "is_part" mV ["thing"]
 f_are_parts:bH K mg "are_parts" kF ["thing"]
 f_is_errand:bH K mg "is_errand" j4 ["thing"]
 f_checked:bH K mg "checked" mS ["errands"]
 f_checked_ranks:bH K mg "checked_ranks" gA ["errands", "ranks"]
 f_has_tool:bH K mg "has_tool" lK ["errand", "tool"]
 f_height:bH K mg "height" qj ["errands", "ranks", "tool"]
 f_heights_of:bH K mg "heights_of" ju ["errands", "ranks"]
 f_have_moments:bH K mg "have_moments" iu ["errand", "row"]
 f_is_row:bH K mg "is_row" rF ["errand", "thing"]
 f_checked_comings:bH K mg "checked_comings" fk ["errands", "comings"]
 f_height_by_high:bH K mg "height_by_high" fQ ["jobs", "tops"]
 f_holder:bH K mg "holder" pG ["there", "tool"]
 f_lent_ranks:bH K mg "lent_ranks" je ["there"]
 f_picked:bH K mg "picked" rq ["there", "tops", "lending"]
 f_run_of:bH K mg "run_of" qG ["errands", "ranks", "rows", "lending"]
 f_run:bH K mg "run" Bq ["errands", "ranks", "comings", "lending"]
 f_law_cell_at:bH K mg "_law_cell_at" eu ["_law_script", "_law_k"]
 f_law_mixed:bH K mg "_law_mixed" iG ["_law_script", "_law_k", "_law_many"]
 f_law_errand:bH K mg "_law_errand" jl ["_law_script", "_law_at", "_law_top", "_law_tools"]
 f_law_errands:bH K mg "_law_errands" iQ ["_law_script", "_law_at", "_law_most", "_law_top", "_law_tools"]
 f_law_ranks:bH K mg "_law_ranks" ko ["_law_script", "_law_at", "_law_many"]
 f_law_coming_row:bH K mg "_law_coming_row" fW ["_law_script", "_law_at", "_law_errand_here", "_law_span"]
 f_law_comings:bH K mg "_law_comings" iU ["_law_script", "_law_at", "_law_errands_here", "_law_span"]
 f_law:bH K mg "law" uc ["_law_script"]
 mt_Jobs_are_done:∃ f fd,Fun K "are_done" "Jobs.are_done" gD f fd/\Binds K fd ["self"] []/\Meth K cs.Jobs "are_done" f
 mt_Jobs_is_there:∃ f fd,Fun K "is_there" "Jobs.is_there" gx f fd/\Binds K fd ["self", "time"] []/\Meth K cs.Jobs "is_there" f
 mt_Jobs_held:∃ f fd,Fun K "held" "Jobs.held" jR f fd/\Binds K fd ["self"] []/\Meth K cs.Jobs "held" f
 mt_Jobs_wanted:∃ f fd,Fun K "wanted" "Jobs.wanted" iS f fd/\Binds K fd ["self"] []/\Meth K cs.Jobs "wanted" f
 mt_Jobs_go_on:∃ f fd,Fun K "go_on" "Jobs.go_on" jo f fd/\Binds K fd ["self"] []/\Meth K cs.Jobs "go_on" f
 b_all:mg "all"=none
 b_bool:mg "bool"=none
 b_enumerate:mg "enumerate"=none
 b_int:mg "int"=none
 b_isinstance:mg "isinstance"=none
 b_len:mg "len"=none
 b_list:mg "list"=none
 b_max:mg "max"=none
 b_min:mg "min"=none
 b_range:mg "range"=none
 b_set:mg "set"=none
 b_sum:mg "sum"=none
 b_tuple:mg "tuple"=none
 b_zip:mg "zip"=none
 c_LAST_COMING:∃ t,mg "LAST_COMING"=some (.int 9999 t)
 c_LEAST_EVERY:∃ t,mg "LEAST_EVERY"=some (.int 2 t)
 c_MOST_COMINGS:∃ t,mg "MOST_COMINGS"=some (.int 60 t)
 c_MOST_ERRANDS:∃ t,mg "MOST_ERRANDS"=some (.int 6 t)
 c_MOST_EVERY:∃ t,mg "MOST_EVERY"=some (.int 60 t)
 c_MOST_LATE:∃ t,mg "MOST_LATE"=some (.int 20 t)
 c_MOST_LENGTH:∃ t,mg "MOST_LENGTH"=some (.int 20 t)
 c_MOST_PARTS:∃ t,mg "MOST_PARTS"=some (.int 4 t)
 c_TOOLS:∃ t,mg "TOOLS"=some (.int 4 t)
 e_NoComings:wW K mg "NoComings" cs.NoComings
 e_NoErrands:wW K mg "NoErrands" cs.NoErrands
 e_NoRanks:wW K mg "NoRanks" cs.NoRanks
 cl_Jobs:Cls K cs.Jobs
 na_Jobs_number:dW K cs.Jobs "number"
 na_Jobs_parts:dW K cs.Jobs "parts"
 na_Jobs_rank:dW K cs.Jobs "rank"
 na_Jobs_row:dW K cs.Jobs "row"
 na_Jobs_job:dW K cs.Jobs "job"
 na_Jobs_part:dW K cs.Jobs "part"
 na_Jobs_spent:dW K cs.Jobs "spent"
 mk_Jobs:∃ f fd,Mk K cs.Jobs f/\Fun K "__init__" "Jobs.__init__" ur f fd/\Binds K fd ["self", "number", "parts", "rank", "row"] []
 m_Jobs:mg "Jobs"=some (.ref cs.Jobs)
 tb_picked:Eo K "picked"
 nm_picked:∀ g,PySem.W.nsIn K mainGlobals "picked"=some (some (.ref g))->mg "picked"=some (.ref g)
section
variable {P:Program} {w:World} {K:PySem.W.Frag} {mg:Str->Option Value} {base:Heap} {cs:Cs}
theorem xX:a9 ["_law_script", "_law_k"] ["_law_script", "_law_k"] (ay eu):=⟨rfl,rfl,rfl,by decide +kernel,rfl,by decide +kernel,by decide +kernel⟩
theorem xY {f:Addr} {fd:FuncData} (F:Fun K "_law_cell_at" "_law_cell_at" eu f fd) (bl:mg "len"=none):hU P w K mg base CX0 1 f fd ["_law_script", "_law_k"] (C0 K):=by
 refine F.ok xX (fun vs H Q E h=>?_) (fun cdv A outer s H vs Q E hr h=>?_)
 ·obtain ⟨a,ns,k,rfl,_⟩:=h;rfl
 ·obtain ⟨a,ns,k,rfl,hS,hk,kk⟩:=h;refine ⟨_,dQ (yV (xl (IA (pv 1) (gp jz rfl bl PySem.boot_len (eO (pv 0) ip)))) (jm (qK (B1 uq (pv 0) (pv 1) (fun _ _=>rfl)))) vf)
   (dQ (yV (jv (yi hr.units) (pv 0) (xv ip) (ik _)) (jm (qK gE)) vf)
   (jm (qK (fh n9 (fh nz (B1 uq (pv 0) (fh qU (pv 1) (gp jz rfl bl PySem.boot_len (eO (pv 0) ip))) (fun _ _=>rfl)) gE) (pv 1))))),?_⟩
  refine ⟨_,rfl,_,rfl,a,_,rfl,.inl hS,k,_,rfl,rfl,_,rfl,?_⟩;have hlen:(ns.map V.int).length=ns.length:=List.length_map ..;rw [hlen];refine HR (fun hc=>?_) (fun hc=>?_)
  ·have hc:k<(ns.length:Int):=of_decide_eq_true hc;have hi:k.toNat<ns.length:=by omega
   refine ⟨_,rfl,_,rfl,a,_,k,.int (ns.getD k.toNat 0),rfl,rfl,hS,ue hk ?_,?_⟩
   ·rw [List.getElem?_map,List.getElem?_eq_getElem hi,List.getD_eq_getElem?_getD,List.getElem?_eq_getElem hi];rfl
   ·have:=kk H (az.refl H);rw [show cellAt ns k=ns.getD k.toNat 0 by unfold cellAt;rw [if_pos hc]] at this;exact this
  ·have hc:¬ k<(ns.length:Int):=fun z=>hc (decide_eq_true z)
   refine ⟨_,rfl,Nat.zero_le _,fun p hp=>⟨.list (ns.map .int),.list [],(uh hS (sM ns)).same (ib hp),uh (SqL.of aR) pX,shaped_ints ns,xV,_,rfl,?_⟩⟩;rw [C1];refine HR (fun hz=>?_) (fun hz=>?_)
   ·have hz:ns=[]:=of_decide_eq_true hz;have:=kk _ (ib (o:=.lst []) hp);rw [show cellAt ns k=0 by unfold cellAt;rw [if_neg hc,if_pos hz]] at this;exact this
   ·have hz:¬ ns=[]:=fun z=>hz (decide_eq_true z)
    have hpos:0<(ns.length:Int):=by
     cases ns with
     | nil=>exact absurd rfl hz
     | cons _ _=>simp
    have h1:0<=k % (ns.length:Int):=Int.emod_nonneg _ (by omega);have h2:k % (ns.length:Int)<(ns.length:Int):=Int.emod_lt_of_pos _ hpos;have hi:(k % (ns.length:Int)).toNat<ns.length:=by omega
    have s1:az H (upd H p (.lst [])):=ib hp;refine ⟨_,rfl,_,rfl,_,rfl,a,_,rfl,.inl (s1.seq hS),_,_,rfl,rfl,by rw [hlen];exact hpos,a,_,_,.int (ns.getD (k % (ns.length:Int)).toNat 0),rfl,rfl,s1.seq hS,?_,_,_,rfl,rfl,.inr ⟨by decide,by decide⟩,_,rfl,_,_,rfl,rfl,?_⟩
    ·rw [hlen];refine ue h1 ?_;rw [List.getElem?_map,List.getElem?_eq_getElem hi,List.getD_eq_getElem?_getD,List.getElem?_eq_getElem hi];rfl
    ·have:=kk _ s1;rw [show cellAt ns k=ns.getD (k % (ns.length:Int)).toNat 0*31+k by unfold cellAt;rw [if_neg hc,if_neg hz]] at this;exact this
theorem wC:a9 ["_law_script", "_law_k", "_law_many", "_law_drawn"] ["_law_script", "_law_k", "_law_many"] (ay iG):=⟨rfl,rfl,rfl,by decide +kernel,rfl,by decide +kernel,by decide +kernel⟩
theorem BK {f fC:Addr} {fd fdC:FuncData} (F:Fun K "_law_mixed" "_law_mixed" iG f fd) (FC:Fun K "_law_cell_at" "_law_cell_at" eu fC fdC) (bC:Binds K fdC ["_law_script", "_law_k"] []) (mC:mg "_law_cell_at"=some (.ref fC)) (bl:mg "len"=none):hU P w K mg base CX0 2 f fd ["_law_script", "_law_k", "_law_many"] (Fv K):=by
 have GC:hU P w K mg base CX0 1 fC fdC _ (C0 K):=xY FC bl;refine F.ok wC (fun vs H Q E h=>?_) (fun cdv A outer s H vs Q E hr h=>?_)
 ·obtain ⟨a,ns,k,many,rfl,_⟩:=h;rfl
 ·obtain ⟨a,ns,k,many,rfl,hS,hk,hm,kk⟩:=h;refine ⟨_,dQ (qh (i:=3) wC.nd rfl (Or.inl rfl) (fh qU (fh nz (fh n9 (fh n9 (yQ GC hr rfl mC FC.kp bC .nil HM (eO (pv 0) (eO (pv 1) ip))) (fh nz gE (pv 1))) gE) gE) gE))
   (jm (qK (fh qU (fh qU (fh n9 (fh n9 (fh nz (pv 3) (pv 3)) (fh nz gE (pv 3))) (pv 1)) gE) (pv 2)))),?_⟩
  refine ⟨_,rfl,_,rfl,a,ns,k,rfl,hS,hk,fun H1 s1=>?_⟩;refine ⟨_,rfl,_,_,rfl,rfl,.inl ⟨by decide,by decide⟩,_,_,rfl,rfl,_,_,rfl,rfl,_,_,rfl,rfl,.inr ⟨by decide,by decide⟩,_,_,rfl,rfl,(by show (0:Int)<2147483647;decide),?_⟩;have b1:=Fi ns k;have b2:=Fn ns k;have eD:(cellAt ns k+7919*k+1)*48271 % 2147483647=zT ns k:=rfl;refine ⟨_,rfl,_,rfl,_,_,rfl,rfl,.inl ⟨?_,?_⟩,_,rfl,_,_,rfl,rfl,.inl ⟨by decide,by decide⟩,_,_,rfl,rfl,_,rfl,_,_,rfl,rfl,_,_,rfl,rfl,(by show (0:Int)<2147483629;decide),_,rfl,_,_,rfl,rfl,hm,kk H1 s1⟩
  ·show -(2 ^ 64)<(cellAt ns k+7919*k+1)*48271 % 2147483647;rw [eD];omega
  ·show (cellAt ns k+7919*k+1)*48271 % 2147483647<2 ^ 64;rw [eD];omega
theorem bG (T:Tx K mg cs):bp P w K mg base 2 "_law_mixed" 3 ak:=by obtain ⟨f,fd,F,b,m⟩:=T.f_law_mixed;obtain ⟨fC,fdC,FC,bC,mC⟩:=T.f_law_cell_at;exact bp.old (BK F FC bC mC T.b_len) m F.kp b DV
theorem AW:a9 ["self", "number", "parts", "rank", "row"] ["self", "number", "parts", "rank", "row"] (ay ur):=⟨rfl,rfl,rfl,by decide +kernel,rfl,by decide +kernel,by decide +kernel⟩
theorem xM (T:Tx K mg cs):MkD P w K mg base 1 "Jobs" cs.Jobs JN JT:=by
 obtain ⟨f,fd,M,F,b⟩:=T.mk_Jobs;refine ⟨f,fd,_,M,pB (k:=0) F AW (fun vs H Q E h=>?_) (fun cdv A outer s H vs Q E hr h=>?_),b,T.m_Jobs⟩
 ·obtain ⟨x,dx,args,rfl,hl,_⟩:=h;rw [List.length_cons,hl];rfl
 ·obtain ⟨x,dx,args,rfl,hl,hx,k⟩:=h;obtain ⟨a0,a1,a2,a3,rfl⟩:∃ a0 a1 a2 a3,args=[a0,a1,a2,a3]:=by
   cases args with
   | nil=>cases hl
   | cons a0 r0 =>
    cases r0 with
    | nil=>cases hl
    | cons a1 r1 =>
     cases r1 with
     | nil=>cases hl
     | cons a2 r2 =>
      cases r2 with
      | nil=>cases hl
      | cons a3 r3 =>
       cases r3 with
       | nil=>exact ⟨a0,a1,a2,a3,rfl⟩
       | cons _ _=>exact absurd hl (by simp)
  refine ⟨_,(dQ (kC (pv 0) (pv 1) rfl) (dQ (kC (pv 0) (pv 2) rfl) (dQ (kC (pv 0) (pv 3) rfl) (dQ (kC (pv 0) (pv 4) rfl) (dQ (kC (pv 0) gE rfl) (dQ (kC (pv 0) gE rfl) (jm (kC (pv 0) gE rfl)))))))),?_⟩;refine ⟨_,rfl,_,rfl,x,cs.Jobs,dx,_,rfl,hx,T.cl_Jobs,T.na_Jobs_number,(by show 0<1000;decide),_,rfl,_,rfl,x,cs.Jobs,dx,_,rfl,aR,T.cl_Jobs,T.na_Jobs_parts,(by show 1<1000;decide),_,rfl,_,rfl,x,cs.Jobs,dx,_,rfl,aR,T.cl_Jobs,T.na_Jobs_rank,(by show 2<1000;decide),_,rfl,_,rfl,x,cs.Jobs,dx,_,rfl,aR,T.cl_Jobs,T.na_Jobs_row,(by show 3<1000;decide),?_⟩;refine ⟨_,rfl,x,cs.Jobs,dx,_,rfl,aR,T.cl_Jobs,T.na_Jobs_job,(by show 4<1000;decide),_,rfl,x,cs.Jobs,dx,_,rfl,aR,T.cl_Jobs,T.na_Jobs_part,(by show 5<1000;decide),_,rfl,x,cs.Jobs,dx,_,rfl,aR,T.cl_Jobs,T.na_Jobs_spent,(by show 6<1000;decide),?_⟩;exact k _ (fun b hb=>by rw [aI hb,aI hb,aI hb,aI hb,aI hb,aI hb,aI hb]) (by rw [aR];rfl)
theorem wQ:a9 ["thing", "least", "most"] ["thing", "least", "most"] (ay lp):=⟨rfl,rfl,rfl,by decide +kernel,rfl,by decide +kernel,by decide +kernel⟩
theorem cL (T:Tx K mg cs) { gf:Gf} (hL:∀ ds,ds.length=3->gf ds≠.no->bB (hZ cs (ds.map some++List.replicate 0 none))=gf ds):bp P w K mg base 1 "is_whole" 3 gf:=by
 obtain ⟨f,fd,F,b,m⟩:=T.f_is_whole;exact bp.of (O:=[]) (G:=hZ cs) F wQ b m (by decide) (fun cdv A outer s H E hr=>(aw (cw (mL (jO (dj (cE (iZ T.b_isinstance T.b_int CD (by simp) (ah 0)))) (iE (cE (iZ T.b_isinstance T.b_bool Dv (by simp) (ah 0)))))) (aG (aV iF)) bR)
  (aG (aV (yK (ah 1) (ah 0) (ah 2)))))) hL
theorem cH:a9 ["errand", "row", "every", "late", "earliest", "came", "moment"] ["errand", "row"] (ay iu):=⟨rfl,rfl,rfl,by decide +kernel,rfl,by decide +kernel,by decide +kernel⟩
theorem ij (T:Tx K mg cs) { gf:Gf} (hL:∀ ds,ds.length=2->gf ds≠.no->bB (d8 cs (ds.map some++List.replicate 5 none))=gf ds):bp P w K mg base 1 "have_moments" 2 gf:=by
 obtain ⟨f,fd,F,b,m⟩:=T.f_have_moments;exact bp.of (O:=[]) (G:=d8 cs) F cH b m (by decide) (fun cdv A outer s H E hr=>(aw (bD (i:=2) (bQ (ah 0) av) cH.nd)
  (aw (bD (i:=3) (bQ (ah 0) av) cH.nd)
  (aw (bD (i:=4) (hW av (ah 3)) cH.nd)
  (aw (gU PassesOwn.leaving rfl (dz (ah 1)) (g6 (i:=5) (by decide)) (bK (i:=5) cH.nd rfl (by first | exact Or.inl rfl | exact Or.inr rfl)) (aw (bD (i:=6) (uv rfl T.b_max (ag (ah 4) (ag (hW (ah 5) (ah 3)) aq))) cH.nd)
  (aw (cw (va (ah 6) (ah 5)) (aG (aV iF)) bR)
  (aG (bD (i:=4) (cj (ah 6) (ah 2)) cH.nd)))))
  (aG (aV iF))))))) hL
theorem zO:a9 ["errand", "thing"] ["errand", "thing"] (ay rF):=⟨rfl,rfl,rfl,by decide +kernel,rfl,by decide +kernel,by decide +kernel⟩
theorem wA:(["errand", "thing", "came"]:List Str).Nodup:=by decide +kernel
theorem qE (T:Tx K mg cs) { aE bL gf:Gf} (cL:bp P w K mg base 1 "is_whole" 3 aE) (ij:bp P w K mg base 1 "have_moments" 2 bL) (hL:∀ ds,ds.length=2->gf ds≠.no->bB (jI cs aE bL (ds.map some++List.replicate 0 none))=gf ds):bp P w K mg base 2 "is_row" 2 gf:=by
 obtain ⟨f,fd,F,b,m⟩:=T.f_is_row;exact bp.of (O:=[]) (G:=jI cs aE bL) F zO b m (by decide) (fun cdv A outer s H E hr=>(aw (cw (mL (jO (dj (cE (iZ T.b_isinstance T.b_list pf (by simp) (ah 1)))) (iE (va (cZ T.b_len (ag (ah 1) aq)) (fY T.c_MOST_COMINGS))))) (aG (aV iF)) bR)
  (aG (aV (uJ (nB rfl T.b_all (ag (fV (dA (M:=["errand", "thing"]) (own:=["came"]) (n0:=2) (cond:=bu) rfl (dz (ah 1)) cM (fun _ _ _ _=>(bK (i:=2) wA rfl (Or.inl rfl) (.inr rfl))) (fun _ _ _ _=>.nil) (fun σ H Q qz3=>(by obtain ⟨A,δ,R,o⟩:=qz3;exact o H (az.refl _))) (fun _ _ _ _=>(aS cL hr dh (ag (ah 2) (ag av (ag (fY T.c_LAST_COMING) aq))))))) aq)) (qi (aS ij hr a8 (ag (ah 0) (ag (ah 1) aq))))))))) hL
theorem wb:a9 ["thing", "fewest", "most"] ["thing", "fewest", "most"] (ay lj):=⟨rfl,rfl,rfl,by decide +kernel,rfl,by decide +kernel,by decide +kernel⟩
theorem cV (T:Tx K mg cs) { gf:Gf} (hL:∀ ds,ds.length=3->gf ds≠.no->bB (ix cs (ds.map some++List.replicate 0 none))=gf ds):bp P w K mg base 1 "is_tuple" 3 gf:=by obtain ⟨f,fd,F,b,m⟩:=T.f_is_tuple;exact bp.of (O:=[]) (G:=ix cs) F wb b m (by decide) (fun cdv A outer s H E hr=>(aG (aV (uJ (iZ T.b_isinstance T.b_tuple vh (by simp) (ah 0)) (qi (yK (ah 1) (cZ T.b_len (ag (ah 0) aq)) (ah 2))))))) hL
theorem xq:a9 ["thing"] ["thing"] (ay mV):=⟨rfl,rfl,rfl,by decide +kernel,rfl,by decide +kernel,by decide +kernel⟩
theorem nJ (T:Tx K mg cs) { aE aA gf:Gf} (cL:bp P w K mg base 1 "is_whole" 3 aE) (cV:bp P w K mg base 1 "is_tuple" 3 aA) (hL:∀ ds,ds.length=1->gf ds≠.no->bB (fK cs aE aA (ds.map some++List.replicate 0 none))=gf ds):bp P w K mg base 2 "is_part" 1 gf:=by
 obtain ⟨f,fd,F,b,m⟩:=T.f_is_part;exact bp.of (O:=[]) (G:=fK cs aE aA) F xq b m (by decide) (fun cdv A outer s H E hr=>(aw (cw (mL (jO (dj (cE (aS cV hr a8 (ag (ah 0) (ag av (ag av aq)))))) (iE (dj (cE (aS cL hr a8 (ag (bQ (ah 0) av) (ag av (ag (fY T.c_MOST_LENGTH) aq))))))))) (aG (aV iF)) bR)
  (aG (aV (HP (xW (bQ (ah 0) av)) (qi (aS cL hr a8 (ag (bQ (ah 0) av) (ag av (ag (hW (fY T.c_TOOLS) av) aq)))))))))) hL
theorem uG:a9 ["thing"] ["thing"] (ay kF):=⟨rfl,rfl,rfl,by decide +kernel,rfl,by decide +kernel,by decide +kernel⟩
theorem qQ:(["thing", "part"]:List Str).Nodup:=by decide +kernel
theorem kl (T:Tx K mg cs) { aA gf_is_part gf:Gf} (cV:bp P w K mg base 1 "is_tuple" 3 aA) (nJ:bp P w K mg base 2 "is_part" 1 gf_is_part) (hL:∀ ds,ds.length=1->gf ds≠.no->bB (fg cs aA gf_is_part (ds.map some++List.replicate 0 none))=gf ds):bp P w K mg base 3 "are_parts" 1 gf:=by
 obtain ⟨f,fd,F,b,m⟩:=T.f_are_parts;exact bp.of (O:=[]) (G:=fg cs aA gf_is_part) F uG b m (by decide) (fun cdv A outer s H E hr=>(aw (cw (mL (jO (dj (cE (aS cV hr a8 (ag (ah 0) (ag av (ag (fY T.c_MOST_PARTS) aq)))))) (iE (dj (cE (nB rfl T.b_all (ag (fV (dA (M:=["thing"]) (own:=["part"]) (n0:=1) (cond:=bu) rfl (dz (ah 0)) cM (fun _ _ _ _=>(bK (i:=1) qQ rfl (Or.inl rfl) (.inr rfl))) (fun _ _ _ _=>.nil) (fun σ H Q qz3=>(by obtain ⟨A,δ,R,o⟩:=qz3;exact o H (az.refl _))) (fun _ _ _ _=>(aS nJ hr dh (ag (ah 1) aq))))) aq))))))) (aG (aV iF)) bR)
  (aG (aV (xW (bQ (bQ (ah 0) (pT av)) av)))))) hL
theorem gN:a9 ["thing", "every", "due", "late"] ["thing"] (ay j4):=⟨rfl,rfl,rfl,by decide +kernel,rfl,by decide +kernel,by decide +kernel⟩
theorem kB (T:Tx K mg cs) { aE gf_are_parts aA gf:Gf} (cL:bp P w K mg base 1 "is_whole" 3 aE) (kl:bp P w K mg base 3 "are_parts" 1 gf_are_parts) (cV:bp P w K mg base 1 "is_tuple" 3 aA) (hL:∀ ds,ds.length=1->gf ds≠.no->bB (dC cs aE gf_are_parts aA (ds.map some++List.replicate 3 none))=gf ds):bp P w K mg base 4 "is_errand" 1 gf:=by
 obtain ⟨f,fd,F,b,m⟩:=T.f_is_errand;exact bp.of (O:=[]) (G:=dC cs aE gf_are_parts aA) F gN b m (by decide) (fun cdv A outer s H E hr=>(aw (cw (dj (cE (aS cV hr a8 (ag (ah 0) (ag av (ag av aq)))))) (aG (aV iF)) bR)
  (aw (bD (i:=1) (bQ (ah 0) av) gN.nd)
  (aw (bD (i:=2) (bQ (ah 0) av) gN.nd)
  (aw (bD (i:=3) (bQ (ah 0) av) gN.nd)
  (aw (cw (dj (cE (aS cL hr a8 (ag (ah 1) (ag (fY T.c_LEAST_EVERY) (ag (fY T.c_MOST_EVERY) aq)))))) (aG (aV iF)) bR)
  (aw (cw (dj (cE (aS cL hr a8 (ag (ah 3) (ag av (ag (pA rfl T.b_min (ag (fY T.c_MOST_LATE) (ag (hW (ah 1) av) aq))) aq)))))) (aG (aV iF)) bR)
  (aG (aV (uJ (aS cL hr a8 (ag (ah 2) (ag av (ag (hW (ah 1) (ah 3)) aq)))) (qi (aS kl hr a8 (ag (bQ (ah 0) av) aq))))))))))))) hL
theorem xP:a9 ["errands"] ["errands"] (ay mS):=⟨rfl,rfl,rfl,by decide +kernel,rfl,by decide +kernel,by decide +kernel⟩
theorem uA:(["errands", "errand"]:List Str).Nodup:=by decide +kernel
theorem i8 (T:Tx K mg cs) { aA gf_is_errand gf:Gf} (cV:bp P w K mg base 1 "is_tuple" 3 aA) (kB:bp P w K mg base 4 "is_errand" 1 gf_is_errand) (hL:∀ ds,ds.length=1->gf ds≠.no->bB (gY cs aA gf_is_errand (ds.map some++List.replicate 0 none))=gf ds):bp P w K mg base 5 "checked" 1 gf:=by
 obtain ⟨f,fd,F,b,m⟩:=T.f_checked;exact bp.of (O:=[]) (G:=gY cs aA gf_is_errand) F xP b m (by decide) (fun cdv A outer s H E hr=>(aw (cw (mL (jO (dj (cE (aS cV hr a8 (ag (ah 0) (ag av (ag (fY T.c_MOST_ERRANDS) aq)))))) (iE (dj (cE (nB rfl T.b_all (ag (fV (dA (M:=["errands"]) (own:=["errand"]) (n0:=1) (cond:=bu) rfl (dz (ah 0)) cM (fun _ _ _ _=>(bK (i:=1) uA rfl (Or.inl rfl) (.inr rfl))) (fun _ _ _ _=>.nil) (fun σ H Q qz3=>(by obtain ⟨A,δ,R,o⟩:=qz3;exact o H (az.refl _))) (fun _ _ _ _=>(aS kB hr dh (ag (ah 1) aq))))) aq))))))) (aG (iW rfl qI T.e_NoErrands (ag iR aq))) bR)
  (aG (aV (ah 0))))) hL
theorem lP:a9 ["errands", "comings"] ["errands", "comings"] (ay fk):=⟨rfl,rfl,rfl,by decide +kernel,rfl,by decide +kernel,by decide +kernel⟩
theorem kj:(["errands", "comings", "row"]:List Str).Nodup:=by decide +kernel
theorem gu:(["errands", "comings", "errand", "row"]:List Str).Nodup:=by decide +kernel
theorem fm (T:Tx K mg cs) { cz bq gf:Gf} (qE:bp P w K mg base 2 "is_row" 2 cz) (i8:bp P w K mg base 5 "checked" 1 bq) (hL:∀ ds,ds.length=2->gf ds≠.no->bB (dm cs cz bq (ds.map some++List.replicate 0 none))=gf ds):bp P w K mg base 6 "checked_comings" 2 gf:=by
 obtain ⟨f,fd,F,b,m⟩:=T.f_checked_comings;exact bp.of (O:=[]) (G:=dm cs cz bq) F lP b m (by decide) (fun cdv A outer s H E hr=>(aw (rA (aS i8 hr a8 (ag (ah 0) aq)))
  (aw (cw (mL (jO (dj (cE (iZ T.b_isinstance T.b_list pf (by simp) (ah 1)))) (iE (qb hr (cZ T.b_len (ag (ah 1) aq)) (cZ T.b_len (ag (ah 0) aq)))))) (aG (iW rfl qI T.e_NoComings (ag iR aq))) bR)
  (aw (cw (dj (cE (nB rfl T.b_all (ag (fV (dA (M:=["errands", "comings"]) (own:=["errand", "row"]) (n0:=2) (cond:=bu) rfl (DC T.b_zip (ag (ah 0) (ag (ah 1) aq))) vS (fun _ _ _ _=>(qP rfl (eM (bK (i:=2) gu rfl (Or.inl rfl) (.inr rfl)) (eM (bK (i:=3) gu rfl (Or.inl rfl) (.inr rfl)) l9)))) (fun _ _ _ _=>.nil) (fun σ H Q qz3=>(by obtain ⟨A,δ,R,o⟩:=qz3;exact o H (az.refl _))) (fun _ _ _ _=>(aS qE hr dh (ag (ah 2) (ag (ah 3) aq)))))) aq)))) (aG (iW rfl qI T.e_NoComings (ag iR aq))) bR)
  (aG (aV (fV (dA (M:=["errands", "comings"]) (own:=["row"]) (n0:=2) (cond:=bu) rfl (dz (ah 1)) cM (fun _ _ _ _=>(bK (i:=2) kj rfl (Or.inl rfl) (.inr rfl))) (fun _ _ _ _=>.nil) (fun σ H Q qz3=>(by obtain ⟨A,δ,R,o⟩:=qz3;exact o H (az.refl _))) (fun _ _ _ _=>(zR T.b_list (ag (ah 2) aq))))))))))) hL
theorem vg:a9 ["errand", "tool"] ["errand", "tool"] (ay lK):=⟨rfl,rfl,rfl,by decide +kernel,rfl,by decide +kernel,by decide +kernel⟩
theorem rT:(["errand", "tool", "part"]:List Str).Nodup:=by decide +kernel
theorem lq (T:Tx K mg cs) { gf:Gf} (hL:∀ ds,ds.length=2->gf ds≠.no->bB (ir cs (ds.map some++List.replicate 0 none))=gf ds):bp P w K mg base 1 "has_tool" 2 gf:=by obtain ⟨f,fd,F,b,m⟩:=T.f_has_tool;exact bp.of (O:=[]) (G:=ir cs) F vg b m (by decide) (fun cdv A outer s H E hr=>(aG (aV (Im (ah 1) (fV (dA (M:=["errand", "tool"]) (own:=["part"]) (n0:=2) (cond:=bu) rfl (dz (bQ (ah 0) av)) cM (fun _ _ _ _=>(bK (i:=2) rT rfl (Or.inl rfl) (.inr rfl))) (fun _ _ _ _=>.nil) (fun σ H Q qz3=>(by obtain ⟨A,δ,R,o⟩:=qz3;exact o H (az.refl _))) (fun _ _ _ _=>(bQ (ah 2) av)))))))) hL
theorem nr:a9 ["errands", "ranks", "tool", "place", "number"] ["errands", "ranks", "tool"] (ay qj):=⟨rfl,rfl,rfl,by decide +kernel,rfl,by decide +kernel,by decide +kernel⟩
theorem qa (T:Tx K mg cs) { cf gf:Gf} (lq:bp P w K mg base 1 "has_tool" 2 cf) (hL:∀ ds,ds.length=3->gf ds≠.no->bB (jM cs cf (ds.map some++List.replicate 2 none))=gf ds):bp P w K mg base 2 "height" 3 gf:=by
 obtain ⟨f,fd,F,b,m⟩:=T.f_height;exact bp.of (O:=[]) (G:=jM cs cf) F nr b m (by decide) (fun cdv A outer s H E hr=>(aw (gU PassesOwn.leaving rfl (rM T.b_enumerate (ag (ah 1) aq)) (uT (is:=[3,4]) (by decide)) (qP rfl (eM (bK (i:=3) nr.nd rfl (by first | exact Or.inl rfl | exact Or.inr rfl)) (eM (bK (i:=4) nr.nd rfl (by first | exact Or.inl rfl | exact Or.inr rfl)) l9))) (aG (cw (cE (aS lq hr a8 (ag (bQ (ah 0) (ah 4)) (ag (ah 2) aq)))) (aG (aV (ah 3))) bR)))
  (aG (aV iT)))) hL
theorem rP:a9 ["errands", "ranks"] ["errands", "ranks"] (ay ju):=⟨rfl,rfl,rfl,by decide +kernel,rfl,by decide +kernel,by decide +kernel⟩
theorem oU:(["errands", "ranks", "tool"]:List Str).Nodup:=by decide +kernel
theorem jd (T:Tx K mg cs) { cF gf:Gf} (qa:bp P w K mg base 2 "height" 3 cF) (hL:∀ ds,ds.length=2->gf ds≠.no->bB (fA cs cF (ds.map some++List.replicate 0 none))=gf ds):bp P w K mg base 3 "heights_of" 2 gf:=by obtain ⟨f,fd,F,b,m⟩:=T.f_heights_of;exact bp.of (O:=[]) (G:=fA cs cF) F rP b m (by decide) (fun cdv A outer s H E hr=>(aG (aV (fV (dA (M:=["errands", "ranks"]) (own:=["tool"]) (n0:=2) (cond:=bu) rfl (eY T.b_range (ag (fY T.c_TOOLS) aq)) cM (fun _ _ _ _=>(bK (i:=2) oU rfl (Or.inl rfl) (.inr rfl))) (fun _ _ _ _=>.nil) (fun σ H Q qz3=>(by obtain ⟨A,δ,R,o⟩:=qz3;exact o H (az.refl _))) (fun _ _ _ _=>(aS qa hr dh (ag (ah 0) (ag (ah 1) (ag (ah 2) aq)))))))))) hL
theorem nY:a9 ["self"] ["self"] (ay gD):=⟨rfl,rfl,rfl,by decide +kernel,rfl,by decide +kernel,by decide +kernel⟩
theorem gG (T:Tx K mg cs) { gf:Gf} (hL:∀ ds,ds.length=1->gf ds≠.no->bB (dN cs (ds.map some++List.replicate 0 none))=gf ds):fH P w K mg base 1 cs.Jobs "are_done" 1 gf:=by obtain ⟨f,fd,F,b,hm⟩:=T.mt_Jobs_are_done;exact fH.of (O:=[]) (G:=dN cs) F nY b T.cl_Jobs hm (by decide) (fun cdv A outer s H E hr=>(aG (aV (Bo hr (cx T.cl_Jobs T.na_Jobs_job (ah 0)) (cZ T.b_len (ag (cx T.cl_Jobs T.na_Jobs_row (ah 0)) aq)))))) hL
theorem rJ:a9 ["self"] ["self"] (ay iS):=⟨rfl,rfl,rfl,by decide +kernel,rfl,by decide +kernel,by decide +kernel⟩
theorem eJ (T:Tx K mg cs) { gf:Gf} (hL:∀ ds,ds.length=1->gf ds≠.no->bB (eE cs (ds.map some++List.replicate 0 none))=gf ds):fH P w K mg base 1 cs.Jobs "wanted" 1 gf:=by obtain ⟨f,fd,F,b,hm⟩:=T.mt_Jobs_wanted;exact fH.of (O:=[]) (G:=eE cs) F rJ b T.cl_Jobs hm (by decide) (fun cdv A outer s H E hr=>(aG (aV (Cn (jk hr (cx T.cl_Jobs T.na_Jobs_spent (ah 0)) av) (bQ (bQ (cx T.cl_Jobs T.na_Jobs_parts (ah 0)) (cx T.cl_Jobs T.na_Jobs_part (ah 0))) av) iT)))) hL
theorem uS:a9 ["self"] ["self"] (ay jR):=⟨rfl,rfl,rfl,by decide +kernel,rfl,by decide +kernel,by decide +kernel⟩
theorem gw (T:Tx K mg cs) { gf:Gf} (hL:∀ ds,ds.length=1->gf ds≠.no->bB (gj cs (ds.map some++List.replicate 0 none))=gf ds):fH P w K mg base 1 cs.Jobs "held" 1 gf:=by obtain ⟨f,fd,F,b,hm⟩:=T.mt_Jobs_held;exact fH.of (O:=[]) (G:=gj cs) F uS b T.cl_Jobs hm (by decide) (fun cdv A outer s H E hr=>(aG (aV (Cn (va (cx T.cl_Jobs T.na_Jobs_spent (ah 0)) av) (bQ (bQ (cx T.cl_Jobs T.na_Jobs_parts (ah 0)) (cx T.cl_Jobs T.na_Jobs_part (ah 0))) av) iT)))) hL
theorem tM:a9 ["there", "tool", "jobs"] ["there", "tool"] (ay pG):=⟨rfl,rfl,rfl,by decide +kernel,rfl,by decide +kernel,by decide +kernel⟩
theorem kf (T:Tx K mg cs) { aJ gf:Gf} (gw:fH P w K mg base 1 cs.Jobs "held" 1 aJ) (hL:∀ ds,ds.length=2->gf ds≠.no->bB (kD cs aJ (ds.map some++List.replicate 1 none))=gf ds):bp P w K mg base 2 "holder" 2 gf:=by
 obtain ⟨f,fd,F,b,m⟩:=T.f_holder;exact bp.of (O:=[]) (G:=kD cs aJ) F tM b m (by decide) (fun cdv A outer s H E hr=>(aw (cw (uF (ah 1)) (aG (aV iT)) bR)
  (aw (gU PassesOwn.leaving rfl (dz (ah 0)) (g6 (i:=2) (by decide)) (bK (i:=2) tM.nd rfl (by first | exact Or.inl rfl | exact Or.inr rfl)) (aG (cw (jk hr (kq gw hr a8 (ah 2)) (ah 1)) (aG (aV (ah 2))) bR)))
  (aG (aV iT))))) hL
theorem fX:a9 ["there", "lent", "jobs", "other"] ["there"] (ay je):=⟨rfl,rfl,rfl,by decide +kernel,rfl,by decide +kernel,by decide +kernel⟩
theorem jc (T:Tx K mg cs) { aB bf gf:Gf} (eJ:fH P w K mg base 1 cs.Jobs "wanted" 1 aB) (kf:bp P w K mg base 2 "holder" 2 bf) (hL:∀ ds,ds.length=1->gf ds≠.no->bB (gW cs aB bf (ds.map some++List.replicate 3 none))=gf ds):bp P w K mg base 3 "lent_ranks" 1 gf:=by
 obtain ⟨f,fd,F,b,m⟩:=T.f_lent_ranks;exact bp.of (O:=[1]) (G:=gW cs aB bf) F fX b m (by decide) (fun cdv A outer s H E hr=>(aw (Bf (i:=1) fX.nd)
  (aw (gU PassesOwn.leaving rfl (dz (ah 0)) (g6 (i:=2) (by decide)) (bK (i:=2) fX.nd rfl (by first | exact Or.inl rfl | exact Or.inr rfl)) (aw (bD (i:=3) (aS kf hr a8 (ag (ah 0) (ag (kq eJ hr a8 (ah 2)) aq))) fX.nd)
  (aG (cw (vL (ah 3)) (aG (BC (i:=1) (cC.u1 hr) (pA rfl T.b_min (ag (cx T.cl_Jobs T.na_Jobs_rank (ah 2)) (ag (yF (cC.u1 hr) (ah 1) (cx T.cl_Jobs T.na_Jobs_number (ah 3)) (cx T.cl_Jobs T.na_Jobs_rank (ah 3)) ⟨rfl,rfl,rfl,rfl⟩) aq))) (cx T.cl_Jobs T.na_Jobs_number (ah 3)))) bR))))
  (aG (aV (ah 1)))))) hL
theorem iC:a9 ["jobs", "tops", "tool"] ["jobs", "tops"] (ay fQ):=⟨rfl,rfl,rfl,by decide +kernel,rfl,by decide +kernel,by decide +kernel⟩
theorem fJ (T:Tx K mg cs) { aJ gf:Gf} (gw:fH P w K mg base 1 cs.Jobs "held" 1 aJ) (hL:∀ ds,ds.length=2->gf ds≠.no->bB (cy cs aJ (ds.map some++List.replicate 1 none))=gf ds):bp P w K mg base 2 "height_by_high" 2 gf:=by
 obtain ⟨f,fd,F,b,m⟩:=T.f_height_by_high;exact bp.of (O:=[]) (G:=cy cs aJ) F iC b m (by decide) (fun cdv A outer s H E hr=>(aw (bD (i:=2) (kq gw hr a8 (ah 0)) iC.nd)
  (aw (cw (uF (ah 2)) (aG (aV (k8 (ag (cx T.cl_Jobs T.na_Jobs_rank (ah 0)) (ag av aq))))) bR)
  (aG (aV (k8 (ag (pA rfl T.b_min (ag (cx T.cl_Jobs T.na_Jobs_rank (ah 0)) (ag (bQ (ah 1) (ah 2)) aq))) (ag av aq)))))))) hL
theorem mO:a9 ["there", "tops", "lending", "free", "lent"] ["there", "tops", "lending"] (ay rq):=⟨rfl,rfl,rfl,by decide +kernel,rfl,by decide +kernel,by decide +kernel⟩
theorem vj:(["there", "tops", "lending", "free", "lent", "jobs"]:List Str).Nodup:=by decide +kernel
theorem pL (T:Tx K mg cs) (hB:oa mg base) (hK:K.In base) { bV aB bf bz gf:Gf} (jc:bp P w K mg base 3 "lent_ranks" 1 bV) (eJ:fH P w K mg base 1 cs.Jobs "wanted" 1 aB) (kf:bp P w K mg base 2 "holder" 2 bf) (fJ:bp P w K mg base 2 "height_by_high" 2 bz) (hL:∀ ds,ds.length=3->gf ds≠.no->bB (jY cs bV aB bf bz (ds.map some++List.replicate 2 none))=gf ds):bp P w K mg base 6 "picked" 3 gf:=by
 obtain ⟨f,fd,F,b,m⟩:=T.f_picked;exact bp.ofL (O:=[]) (G:=jY cs bV aB bf bz) F mO b m (by decide) (by decide) T.nm_picked T.tb_picked hB hK (fun L cdv=>rfl) (fun cdv A outer s H E hr c Pt TAB=>(aw (cw (jk hr (ah 2) iR) (aG (aV (rj (N:=["jobs", "tops"]) (p:="jobs") (cap:=[1]) T.b_min hr (ah 0) TAB (fun q c' s H=>(aS fJ (hr.in1.deeper _) dh (ag (ah 0) (ag (ah 1) aq))))))) bR)
  (aw (vX (i:=3) (rn (i:=3) (M:=["there", "tops", "lending", "free", "lent"]) (own:=["jobs"]) (n0:=5) (cond:=(gT (g1 kn (aF bf (ae (af 0) (ae (bO cs.Jobs "wanted" aB (af 5) ao) ao)))))) rfl mO.nd (dz (ah 0)) cM (fun _ _ _ _=>(bK (i:=5) vj rfl (Or.inl rfl) (.inr rfl))) (fun _ _ _ _=>(uC (uF (aS kf hr dh (ag (ah 0) (ag (kq eJ hr dh (ah 5)) aq)))))) (fun _ _ _ h=>h) (fun _ _ _ _=>(ah 5))))
  (aw (bD (i:=4) (Cn (jk hr (ah 2) iR) (aS jc hr a8 (ag (ah 0) aq)) E4) mO.nd)
  (aG (aV (rj (N:=["jobs", "lent"]) (p:="jobs") (cap:=[4]) T.b_min hr (ah 3) TAB (fun q c' s H=>(yF (cC.u1 (hr.in1.deeper _)) (ah 1) (cx T.cl_Jobs T.na_Jobs_number (ah 0)) (cx T.cl_Jobs T.na_Jobs_rank (ah 0)) ⟨rfl,rfl,rfl,rfl⟩))))))))) hL
theorem nC:a9 ["self", "time"] ["self", "time"] (ay gx):=⟨rfl,rfl,rfl,by decide +kernel,rfl,by decide +kernel,by decide +kernel⟩
theorem gB (T:Tx K mg cs) { gf:Gf} (hL:∀ ds,ds.length=2->gf ds≠.no->bB (dP cs (ds.map some++List.replicate 0 none))=gf ds):fH P w K mg base 1 cs.Jobs "is_there" 2 gf:=by obtain ⟨f,fd,F,b,hm⟩:=T.mt_Jobs_is_there;exact fH.of (O:=[]) (G:=dP cs) F nC b T.cl_Jobs hm (by decide) (fun cdv A outer s H E hr=>(aG (aV (uJ (Ie (cx T.cl_Jobs T.na_Jobs_job (ah 0)) (cZ T.b_len (ag (cx T.cl_Jobs T.na_Jobs_row (ah 0)) aq))) (qi (IG (bQ (cx T.cl_Jobs T.na_Jobs_row (ah 0)) (cx T.cl_Jobs T.na_Jobs_job (ah 0))) (ah 1))))))) hL
theorem rW:a9 ["self"] ["self"] (ay jo):=⟨rfl,rfl,rfl,by decide +kernel,rfl,by decide +kernel,by decide +kernel⟩
theorem jj (T:Tx K mg cs) {g:List (Str×PyData)->Option (List (Str×PyData))} (hg:∀ a fds fds',gJ fds=true->fds.length<1000->g fds=some fds'->∃ δ,fo cs [a] (some (cN cs.Jobs a fds)::List.replicate 0 none)=.nx δ/\δ[0]?=some (some (cN cs.Jobs a fds'))):sL P w K mg base 3 cs.Jobs "go_on" g:=by
 obtain ⟨f,fd,F,b,hm⟩:=T.mt_Jobs_go_on;exact sL.of (G:=fo cs) F rW b T.cl_Jobs hm (fun as cdv A outer s H E hr=>(fq (lz (i:=0) (ah 0) av T.cl_Jobs T.na_Jobs_spent)
  (fq (xJ (jk hr (cx T.cl_Jobs T.na_Jobs_spent (ah 0)) (bQ (bQ (cx T.cl_Jobs T.na_Jobs_parts (ah 0)) (cx T.cl_Jobs T.na_Jobs_part (ah 0))) av)) (fq (yT (i:=0) (ah 0) av T.cl_Jobs T.na_Jobs_spent)
  (jn (lz (i:=0) (ah 0) av T.cl_Jobs T.na_Jobs_part))) zv)
  (jn (xJ (jk hr (cx T.cl_Jobs T.na_Jobs_part (ah 0)) (cZ T.b_len (ag (cx T.cl_Jobs T.na_Jobs_parts (ah 0)) aq))) (fq (yT (i:=0) (ah 0) av T.cl_Jobs T.na_Jobs_part)
  (jn (lz (i:=0) (ah 0) av T.cl_Jobs T.na_Jobs_job))) zv))))) hg
theorem gZ:a9 ["errands", "ranks", "rows", "lending", "tops", "queues", "told", "there", "best"] ["errands", "ranks", "rows", "lending"] (ay qG):=⟨rfl,rfl,rfl,by decide +kernel,rfl,by decide +kernel,by decide +kernel⟩
theorem oM:(["errands", "ranks", "rows", "lending", "tops", "queues", "told", "there", "best", "number", "row"]:List Str).Nodup:=by decide +kernel
theorem oj:(["errands", "ranks", "rows", "lending", "tops", "queues", "told", "there", "best", "jobs"]:List Str).Nodup:=by decide +kernel
theorem qv (T:Tx K mg cs) { br bg de aO gf:Gf} {gm_Jobs_go_on:List (Str×PyData)->Option (List (Str×PyData))} (jd:bp P w K mg base 3 "heights_of" 2 br) (gG:fH P w K mg base 1 cs.Jobs "are_done" 1 bg) (pL:bp P w K mg base 6 "picked" 3 de) (gB:fH P w K mg base 1 cs.Jobs "is_there" 2 aO) (jj:sL P w K mg base 3 cs.Jobs "go_on" gm_Jobs_go_on) (xM:MkD P w K mg base 1 "Jobs" cs.Jobs JN JT) {Gt:Ds->Sr}
  (hGt:∀ δ,Gt δ≠.no->∃ d ds fss,Gt δ=.rt d/\5<δ.length/\δ.length=9/\(lU (ae (af 2) ao)) (mask [6] δ)=.ok ds/\ds.length<=1000000/\fss.length=ds.length/\(∀ (i:Nat) d,ds[i]?=some d->∃ ow fs,jX d=some ow/\fss[i]?=some fs/\(ae (af 9) (ae (g2 dIx (g2 dIx (af 0) (af 9)) (gC (.int 3))) (ae (xy (af 1) (af 9)) (ae (af 10) ao)))) (mask [6] δ++ow)=.ok fs/\fs.length=JN.length) /\
   ∀ as:List Addr,as.length=ds.length->as.Nodup->lu cs br bg de aO gm_Jobs_go_on as (δ.set 5 (some (.list (k7 cs.Jobs JN JT as fss))))=.rt d)
  (hL:∀ ds,ds.length=4->gf ds≠.no->bB (aK (bj [6] 4 (aF br (ae (af 0) (ae (af 1) ao)))) Gt (ds.map some++List.replicate 5 none))=gf ds):bp P w K mg base 7 "run_of" 4 gf:=by
 obtain ⟨f,fd,F,b,m⟩:=T.f_run_of;exact bp.of (O:=[6]) (G:=aK (bj [6] 4 (aF br (ae (af 0) (ae (af 1) ao)))) Gt) F gZ b m (by decide) (fun cdv A outer s H E hr=>(aw (bD (i:=4) (aS jd hr a8 (ag (ah 0) (ag (ah 1) aq))) gZ.nd) (ER (PS.imp (qY (i:=5) (M:=["errands", "ranks", "rows", "lending", "tops", "queues", "told", "there", "best"]) (own:=["number", "row"]) (te:=eMk K E0 cs.Jobs JN JT (ae (af 9) (ae (g2 dIx (g2 dIx (af 0) (af 9)) (gC (.int 3))) (ae (xy (af 1) (af 9)) (ae (af 10) ao))))) rfl gZ.nd rfl (by first | exact Or.inl rfl | exact Or.inr rfl) rfl (rM T.b_enumerate (ag (ah 2) aq)) (fun _ _ _ _=>(qP rfl (eM (bK (i:=9) oM rfl (Or.inl rfl) (.inr rfl)) (eM (bK (i:=10) oM rfl (Or.inl rfl) (.inr rfl)) l9)))) (fun _ _ _ _=>.nil) (fun _ _ _ _=>Iu xM hr dh (ag (ah 9) (ag (bQ (bQ (ah 0) (ah 9)) av) (ag (Bw (ah 1) (ah 9)) (ag (ah 10) aq)))))) (fun D σ H h=>FP (n0:=9) vS σ H _ h)) (fun as=>(fq (nN (l7 (i:=6) (pw aq) gZ.nd))
   (fq (Al 1000000 PassesOwn.leaving (dj (cE (nB rfl T.b_all (ag (fV (dA (M:=["errands", "ranks", "rows", "lending", "tops", "queues", "told", "there", "best"]) (own:=["jobs"]) (n0:=9) (cond:=bu) rfl (dz (ah 5)) cM (fun _ _ _ _=>(bK (i:=9) oj rfl (Or.inl rfl) (.inr rfl))) (fun _ _ _ _=>.nil) (fun σ H Q qz3=>(by obtain ⟨A,δ,R,o⟩:=qz3;exact o H (az.refl _))) (fun _ _ _ _=>(kq gG hr dh (ah 9))))) aq)))) (fq (nN (By (i:=7) (M:=["errands", "ranks", "rows", "lending", "tops", "queues", "told", "there", "best"]) (own:=["jobs"]) (n0:=9) (cond:=(gT (bO cs.Jobs "is_there" aO (af 9) (ae (gF bY (ae (af 6) ao)) ao)))) rfl gZ.nd (dz (ah 5)) cM (fun _ _ _ _=>(bK (i:=9) oj rfl (Or.inl rfl) (.inr rfl))) (fun _ _ _ _=>(uC (cE (El gB hr dh (ah 9) (ag (cZ T.b_len (ag (ah 6) aq)) aq))))) (fun _ _ _ h=>h) (fun _ _ _ _=>(ah 9))))
   (jn (xJ (jk hr (cZ T.b_len (ag (ah 7) aq)) av) (jn (nN (oX (i:=6) iT))) (fq (nN (bD (i:=8) (aS pL hr a8 (ag (ah 7) (ag (ah 4) (ag (ah 3) aq)))) gZ.nd))
   (fq (nN (oX (i:=6) (k8 (ag (cx T.cl_Jobs T.na_Jobs_number (ah 8)) (ag (cx T.cl_Jobs T.na_Jobs_job (ah 8)) aq)))))
   (jn (Dc jj hr a8 (ah 8)))))))))
   (jn (nN (aV (ah 6))))))) (by decide) hGt))) hL
theorem iX:a9 ["errands", "ranks", "last"] ["errands", "ranks"] (ay gA):=⟨rfl,rfl,rfl,by decide +kernel,rfl,by decide +kernel,by decide +kernel⟩
theorem lH:(["errands", "ranks", "last", "number"]:List Str).Nodup:=by decide +kernel
theorem gz (T:Tx K mg cs) { aA aE gf:Gf} (cV:bp P w K mg base 1 "is_tuple" 3 aA) (cL:bp P w K mg base 1 "is_whole" 3 aE) (hL:∀ ds,ds.length=2->gf ds≠.no->bB (cG cs aA aE (ds.map some++List.replicate 1 none))=gf ds):bp P w K mg base 2 "checked_ranks" 2 gf:=by
 obtain ⟨f,fd,F,b,m⟩:=T.f_checked_ranks;exact bp.of (O:=[]) (G:=cG cs aA aE) F iX b m (by decide) (fun cdv A outer s H E hr=>(aw (bD (i:=2) (hW (cZ T.b_len (ag (ah 0) aq)) av) iX.nd)
  (aw (cw (mL (jO (dj (cE (aS cV hr a8 (ag (ah 1) (ag (cZ T.b_len (ag (ah 0) aq)) (ag (cZ T.b_len (ag (ah 0) aq)) aq)))))) (iE (dj (cE (nB rfl T.b_all (ag (fV (dA (M:=["errands", "ranks", "last"]) (own:=["number"]) (n0:=3) (cond:=bu) rfl (dz (ah 1)) cM (fun _ _ _ _=>(bK (i:=3) lH rfl (Or.inl rfl) (.inr rfl))) (fun _ _ _ _=>.nil) (fun σ H Q qz3=>(by obtain ⟨A,δ,R,o⟩:=qz3;exact o H (az.refl _))) (fun _ _ _ _=>(aS cL hr dh (ag (ah 3) (ag av (ag (ah 2) aq))))))) aq))))))) (aG (iW rfl qI T.e_NoRanks (ag iR aq))) bR)
  (aw (cw (xQ (AF rfl T.b_set T.b_len (ag (ah 1) aq)) (cZ T.b_len (ag (ah 1) aq))) (aG (iW rfl qI T.e_NoRanks (ag iR aq))) bR)
  (aG (aV (ah 1))))))) hL
theorem Gp:a9 ["errands", "ranks", "comings", "lending"] ["errands", "ranks", "comings", "lending"] (ay Bq):=⟨rfl,rfl,rfl,by decide +kernel,rfl,by decide +kernel,by decide +kernel⟩
theorem AX (T:Tx K mg cs) { aY cQ bh bq gf:Gf} (fm:bp P w K mg base 6 "checked_comings" 2 aY) (qv:bp P w K mg base 7 "run_of" 4 cQ) (gz:bp P w K mg base 2 "checked_ranks" 2 bh) (i8:bp P w K mg base 5 "checked" 1 bq) (hL:∀ ds,ds.length=4->gf ds≠.no->bB (wB cs aY cQ bh bq (ds.map some++List.replicate 0 none))=gf ds):bp P w K mg base 8 "run" 4 gf:=by
 obtain ⟨f,fd,F,b,m⟩:=T.f_run;exact bp.of (O:=[]) (G:=wB cs aY cQ bh bq) F Gp b m (by decide) (fun cdv A outer s H E hr=>(aw (rA (aS i8 hr a8 (ag (ah 0) aq)))
  (aw (rA (aS gz hr a8 (ag (ah 0) (ag (ah 1) aq))))
  (aG (aV (aS qv hr a8 (ag (ah 0) (ag (ah 1) (ag (aS fm hr a8 (ag (ah 0) (ag (ah 2) aq))) (ag (ah 3) aq)))))))))) hL
theorem bw:a9 ["_law_script", "_law_at", "_law_errand_here", "_law_span", "_law_seed", "_law_moment", "_law_made", "_law_k", "_law_drawn", "_law_come"] ["_law_script", "_law_at", "_law_errand_here", "_law_span"] (ay fW):=⟨rfl,rfl,rfl,by decide +kernel,rfl,by decide +kernel,by decide +kernel⟩
theorem fP (T:Tx K mg cs) { ak gf:Gf} (bG:bp P w K mg base 2 "_law_mixed" 3 ak) (hL:∀ ds,ds.length=4->gf ds≠.no->bB (cR cs ak (ds.map some++List.replicate 6 none))=gf ds):bp P w K mg base 3 "_law_coming_row" 4 gf:=by
 obtain ⟨f,fd,F,b,m⟩:=T.f_law_coming_row;exact bp.of (O:=[6]) (G:=cR cs ak) F bw b m (by decide) (fun cdv A outer s H E hr=>(aw (bD (i:=4) (aS bG hr a8 (ag (ah 0) (ag (ah 1) (ag (Hh av av) aq)))) bw.nd)
  (aw (bD (i:=5) (hW (lQ (ah 4) (cj (bQ (ah 2) av) av)) (bQ (ah 2) av)) bw.nd)
  (aw (l7 (i:=6) (pw aq) bw.nd)
  (aw (bD (i:=7) av bw.nd)
  (aw (zC 1000000 PassesOwn.leaving (mL (DA (xQ (cj (ah 5) (bQ (ah 2) av)) (ah 3)) (Cj (xQ (cZ T.b_len (ag (ah 6) aq)) av)))) (aw (bD (i:=8) (lQ (jZ (cj (cj (ah 4) (jZ (jZ av (ah 7)) (ah 7))) (jZ av (ah 7))) av) av) bw.nd)
  (aw (bD (i:=9) (uv rfl T.b_max (ag av (ag (cj (ah 5) (lQ (rG (ah 8) av) (cj (bQ (ah 2) av) av))) aq))) bw.nd)
  (aw (cw (qb hr (ah 6) (pU aq)) (aG (vI (i:=9) (uv rfl T.b_max (ag (ah 9) (ag (cj (bQ (ah 6) (pT av)) av) aq))) bw.nd)) bR)
  (aw (oX (i:=6) (ah 9))
  (aw (bD (i:=5) (cj (ah 5) (bQ (ah 2) av)) bw.nd)
  (aw (cw (jk hr (lQ (rG (ah 8) av) av) av) (aG (bD (i:=5) (cj (ah 5) (lQ (rG (ah 8) av) (bQ (ah 2) av))) bw.nd)) bR)
  (aG (bD (i:=7) (cj (ah 7) av) bw.nd)))))))))
  (aG (aV (ah 6))))))))) hL
theorem qp:a9 ["_law_script", "_law_at", "_law_errands_here", "_law_span"] ["_law_script", "_law_at", "_law_errands_here", "_law_span"] (ay iU):=⟨rfl,rfl,rfl,by decide +kernel,rfl,by decide +kernel,by decide +kernel⟩
theorem nO:(["_law_script", "_law_at", "_law_errands_here", "_law_span", "_law_k"]:List Str).Nodup:=by decide +kernel
theorem iJ (T:Tx K mg cs) { aX gf:Gf} (fP:bp P w K mg base 3 "_law_coming_row" 4 aX) (hL:∀ ds,ds.length=4->gf ds≠.no->bB (dS cs aX (ds.map some++List.replicate 0 none))=gf ds):bp P w K mg base 4 "_law_comings" 4 gf:=by obtain ⟨f,fd,F,b,m⟩:=T.f_law_comings;exact bp.of (O:=[]) (G:=dS cs aX) F qp b m (by decide) (fun cdv A outer s H E hr=>(aG (aV (fV (dA (M:=["_law_script", "_law_at", "_law_errands_here", "_law_span"]) (own:=["_law_k"]) (n0:=4) (cond:=bu) rfl (eY T.b_range (ag (cZ T.b_len (ag (ah 2) aq)) aq)) cM (fun _ _ _ _=>(bK (i:=4) nO rfl (Or.inl rfl) (.inr rfl))) (fun _ _ _ _=>.nil) (fun σ H Q qz3=>(by obtain ⟨A,δ,R,o⟩:=qz3;exact o H (az.refl _))) (fun _ _ _ _=>(aS fP hr dh (ag (ah 0) (ag (cj (ah 1) (ah 4)) (ag (bQ (ah 2) (ah 4)) (ag (ah 3) aq))))))))))) hL
theorem gX:a9 ["_law_script", "_law_at", "_law_many", "_law_left", "_law_made", "_law_k"] ["_law_script", "_law_at", "_law_many"] (ay ko):=⟨rfl,rfl,rfl,by decide +kernel,rfl,by decide +kernel,by decide +kernel⟩
theorem kE (T:Tx K mg cs) { ak gf:Gf} (bG:bp P w K mg base 2 "_law_mixed" 3 ak) (hL:∀ ds,ds.length=3->gf ds≠.no->bB (f6 cs ak (ds.map some++List.replicate 3 none))=gf ds):bp P w K mg base 3 "_law_ranks" 3 gf:=by
 obtain ⟨f,fd,F,b,m⟩:=T.f_law_ranks;exact bp.of (O:=[3,4]) (G:=f6 cs ak) F gX b m (by decide) (fun cdv A outer s H E hr=>(aw (l7 (i:=3) (zH rfl T.b_range T.b_list (ag (ah 2) aq)) gX.nd)
  (aw (l7 (i:=4) (pw aq) gX.nd)
  (aw (gU PassesOwn.leaving rfl (eY T.b_range (ag (ah 2) aq)) (g6 (i:=5) (by decide)) (bK (i:=5) gX.nd rfl (by first | exact Or.inl rfl | exact Or.inr rfl)) (aG (xH (y:=4) (x:=3) (aS bG hr a8 (ag (ah 0) (ag (cj (ah 1) (ah 5)) (ag (cZ T.b_len (ag (ah 3) aq)) aq)))))))
  (aG (aV (lM T.b_tuple (ag (ah 4) aq)))))))) hL
theorem cB:a9 ["_law_script", "_law_at", "_law_top", "_law_tools", "_law_every", "_law_late", "_law_due", "_law_parts", "_law_k", "_law_cell"] ["_law_script", "_law_at", "_law_top", "_law_tools"] (ay jl):=⟨rfl,rfl,rfl,by decide +kernel,rfl,by decide +kernel,by decide +kernel⟩
theorem jh (T:Tx K mg cs) { ak gf:Gf} (bG:bp P w K mg base 2 "_law_mixed" 3 ak) (hL:∀ ds,ds.length=4->gf ds≠.no->bB (ft cs ak (ds.map some++List.replicate 6 none))=gf ds):bp P w K mg base 3 "_law_errand" 4 gf:=by
 obtain ⟨f,fd,F,b,m⟩:=T.f_law_errand;exact bp.of (O:=[7]) (G:=ft cs ak) F cB b m (by decide) (fun cdv A outer s H E hr=>(aw (bD (i:=4) (cj av (aS bG hr a8 (ag (ah 0) (ag (ah 1) (ag (ah 2) aq))))) cB.nd)
  (aw (bD (i:=5) (jZ (aS bG hr a8 (ag (ah 0) (ag (cj (ah 1) av) (ag av aq)))) (Cp T.b_int (ag (Bo hr (aS bG hr a8 (ag (ah 0) (ag (cj (ah 1) av) (ag av aq)))) av) aq))) cB.nd)
  (aw (bD (i:=5) (pA rfl T.b_min (ag (ah 5) (ag (hW (ah 4) av) aq))) cB.nd)
  (aw (bD (i:=6) (hW (ah 4) (ah 5)) cB.nd)
  (aw (cw (jk hr (aS bG hr a8 (ag (ah 0) (ag (cj (ah 1) av) (ag av aq)))) av) (aG (bD (i:=6) (hW (ah 6) (aS bG hr a8 (ag (ah 0) (ag (cj (ah 1) av) (ag (ah 6) aq))))) cB.nd)) bR)
  (aw (l7 (i:=7) (pw aq) cB.nd)
  (aw (gU PassesOwn.leaving rfl (eY T.b_range (ag (aS bG hr a8 (ag (ah 0) (ag (cj (ah 1) av) (ag av aq)))) aq)) (g6 (i:=8) (by decide)) (bK (i:=8) cB.nd rfl (by first | exact Or.inl rfl | exact Or.inr rfl)) (aw (bD (i:=9) (aS bG hr a8 (ag (ah 0) (ag (cj (cj (ah 1) av) (ah 8)) (ag av aq)))) cB.nd)
  (aw (oX (i:=7) (k8 (ag (cj av (lQ (ah 9) av)) (ag (bQ (pU (ag av (ag av (ag av (ag av (ag iT aq)))))) (lQ (rG (ah 9) av) av)) aq))))
  (aG (cw (dj (cE (ah 3))) (aG (zq (i:=7) (k8 (ag (bQ (bQ (ah 7) (pT av)) av) (ag iT aq))) (pT av))) bR)))))
  (aG (aV (k8 (ag (ah 4) (ag (ah 6) (ag (ah 5) (ag (lM T.b_tuple (ag (cj (ah 7) (pU (ag (k8 (ag (cj av (aS bG hr a8 (ag (ah 0) (ag (cj (ah 1) av) (ag av aq))))) (ag iT aq))) aq))) aq)) aq))))))))))))))) hL
theorem jU:a9 ["_law_script", "_law_at", "_law_most", "_law_top", "_law_tools", "_law_many"] ["_law_script", "_law_at", "_law_most", "_law_top", "_law_tools"] (ay iQ):=⟨rfl,rfl,rfl,by decide +kernel,rfl,by decide +kernel,by decide +kernel⟩
theorem mW:(["_law_script", "_law_at", "_law_most", "_law_top", "_law_tools", "_law_many", "_law_k"]:List Str).Nodup:=by decide +kernel
theorem iI (T:Tx K mg cs) { bP ak gf:Gf} (jh:bp P w K mg base 3 "_law_errand" 4 bP) (bG:bp P w K mg base 2 "_law_mixed" 3 ak) (hL:∀ ds,ds.length=5->gf ds≠.no->bB (eG cs bP ak (ds.map some++List.replicate 1 none))=gf ds):bp P w K mg base 4 "_law_errands" 5 gf:=by
 obtain ⟨f,fd,F,b,m⟩:=T.f_law_errands;exact bp.of (O:=[]) (G:=eG cs bP ak) F jU b m (by decide) (fun cdv A outer s H E hr=>(aw (bD (i:=5) (cj av (aS bG hr a8 (ag (ah 0) (ag (ah 1) (ag (ah 2) aq))))) jU.nd)
  (aG (aV (lM T.b_tuple (ag (fV (dA (M:=["_law_script", "_law_at", "_law_most", "_law_top", "_law_tools", "_law_many"]) (own:=["_law_k"]) (n0:=6) (cond:=bu) rfl (eY T.b_range (ag (ah 5) aq)) cM (fun _ _ _ _=>(bK (i:=6) mW rfl (Or.inl rfl) (.inr rfl))) (fun _ _ _ _=>.nil) (fun σ H Q qz3=>(by obtain ⟨A,δ,R,o⟩:=qz3;exact o H (az.refl _))) (fun _ _ _ _=>(aS jh hr dh (ag (ah 0) (ag (cj (cj (ah 1) av) (jZ av (ah 6))) (ag (ah 3) (ag (ah 4) aq)))))))) aq)))))) hL
theorem eX:a9 ["_law_script", "_law_errands_here", "_law_ranks_here", "_law_comings_here", "_law_done", "_law_works", "_law_spent", "_law_time", "_law_job", "_law_there", "_law_k", "_law_number"] ["_law_script"] (ay uc):=⟨rfl,rfl,rfl,by decide +kernel,rfl,by decide +kernel,by decide +kernel⟩
theorem Cw:(["_law_script", "_law_errands_here", "_law_ranks_here", "_law_comings_here", "_law_done", "_law_works", "_law_spent", "_law_time", "_law_job", "_law_there", "_law_k", "_law_number", "_law_come"]:List Str).Nodup:=by decide +kernel
theorem wX:(["_law_script", "_law_errands_here", "_law_ranks_here", "_law_comings_here", "_law_done", "_law_works", "_law_spent", "_law_time", "_law_job", "_law_there", "_law_k", "_law_number", "_law_errand_here"]:List Str).Nodup:=by decide +kernel
theorem BQ:(["_law_script", "_law_errands_here", "_law_ranks_here", "_law_comings_here", "_law_done", "_law_works", "_law_spent", "_law_time", "_law_job", "_law_there", "_law_k", "_law_number", "_law_errand_here", "_law_part"]:List Str).Nodup:=by decide +kernel
theorem law_fn (T:Tx K mg cs) {f:Addr} {fd:FuncData} (F:Fun K "law" "law" uc f fd) { ak eo bx bJ aZ gf:Gf} (bG:bp P w K mg base 2 "_law_mixed" 3 ak) (AX:bp P w K mg base 8 "run" 4 eo) (iJ:bp P w K mg base 4 "_law_comings" 4 bx) (kE:bp P w K mg base 3 "_law_ranks" 3 bJ) (iI:bp P w K mg base 4 "_law_errands" 5 aZ) (hL:∀ ds,ds.length=1->gf ds≠.no->bB (vo cs ak eo bx bJ aZ (ds.map some++List.replicate 11 none))=gf ds):hU P w K mg base (CXW P w) 9 f fd ["_law_script"] (spD K 1 gf) :=
 yN (O:=[6]) (G:=vo cs ak eo bx bJ aZ) F eX (by decide) (fun cdv A outer s H E hr=>(aw (bD (i:=1) (aS iI hr a8 (ag (ah 0) (ag av (ag av (ag av (ag iF aq)))))) eX.nd)
  (aw (bD (i:=2) (aS kE hr a8 (ag (ah 0) (ag av (ag (cZ T.b_len (ag (ah 1) aq)) aq)))) eX.nd)
  (aw (bD (i:=3) (aS iJ hr a8 (ag (ah 0) (ag av (ag (ah 1) (ag av aq))))) eX.nd)
  (aw (bD (i:=4) (aS AX hr a8 (ag (ah 1) (ag (ah 2) (ag (ah 3) (ag (bQ (pU (ag iR (ag iR (ag iR aq)))) (aS bG hr a8 (ag (ah 0) (ag av (ag av aq))))) aq))))) eX.nd)
  (aw (vX (i:=5) (rn (i:=5) (M:=["_law_script", "_law_errands_here", "_law_ranks_here", "_law_comings_here", "_law_done", "_law_works", "_law_spent", "_law_time", "_law_job", "_law_there", "_law_k", "_law_number"]) (own:=["_law_errand_here"]) (n0:=12) (cond:=bu) rfl eX.nd (dz (ah 1)) cM (fun _ _ _ _=>(bK (i:=12) wX rfl (Or.inl rfl) (.inr rfl))) (fun _ _ _ _=>.nil) (fun σ H Q qz3=>(by obtain ⟨A,δ,R,o⟩:=qz3;exact o H (az.refl _))) (fun _ _ _ _=>(G6 rfl T.b_sum (ag (fV (dA (M:=["_law_script", "_law_errands_here", "_law_ranks_here", "_law_comings_here", "_law_done", "_law_works", "_law_spent", "_law_time", "_law_job", "_law_there", "_law_k", "_law_number", "_law_errand_here"]) (own:=["_law_part"]) (n0:=13) (cond:=bu) rfl (dz (bQ (ah 12) av)) cM (fun _ _ _ _=>(bK (i:=13) BQ rfl (Or.inl rfl) (.inr rfl))) (fun _ _ _ _=>.nil) (fun σ H Q qz3=>(by obtain ⟨A,δ,R,o⟩:=qz3;exact o H (az.refl _))) (fun _ _ _ _=>(bQ (ah 13) av)))) aq)))))
  (aw (Bt (i:=6) (rn (i:=6) (M:=["_law_script", "_law_errands_here", "_law_ranks_here", "_law_comings_here", "_law_done", "_law_works", "_law_spent", "_law_time", "_law_job", "_law_there", "_law_k", "_law_number"]) (own:=["_law_errand_here"]) (n0:=12) (cond:=bu) rfl eX.nd (dz (ah 1)) cM (fun _ _ _ _=>(bK (i:=12) wX rfl (Or.inl rfl) (.inr rfl))) (fun _ _ _ _=>.nil) (fun σ H Q qz3=>(by obtain ⟨A,δ,R,o⟩:=qz3;exact o H (az.refl _))) (fun _ _ _ _=>av)))
  (aw (gU PassesOwn.leaving rfl (rM T.b_enumerate (ag (ah 4) aq)) (uT (is:=[7,8]) (by decide)) (qP rfl (eM (bK (i:=7) eX.nd rfl (by first | exact Or.inl rfl | exact Or.inr rfl)) (eM (bK (i:=8) eX.nd rfl (by first | exact Or.inl rfl | exact Or.inr rfl)) l9))) (aw (bD (i:=9) av eX.nd)
  (aw (gU PassesOwn.leaving rfl (eY T.b_range (ag (cZ T.b_len (ag (ah 1) aq)) aq)) (g6 (i:=10) (by decide)) (bK (i:=10) eX.nd rfl (by first | exact Or.inl rfl | exact Or.inr rfl)) (aG (vI (i:=9) (hW (cj (ah 9) (jZ (cZ T.b_len (ag (fV (dA (M:=["_law_script", "_law_errands_here", "_law_ranks_here", "_law_comings_here", "_law_done", "_law_works", "_law_spent", "_law_time", "_law_job", "_law_there", "_law_k", "_law_number"]) (own:=["_law_come"]) (n0:=12) (cond:=(gT (g2 dLe (af 12) (af 7)))) rfl (dz (bQ (ah 3) (ah 10))) cM (fun _ _ _ _=>(bK (i:=12) Cw rfl (Or.inl rfl) (.inr rfl))) (fun _ _ _ _=>(uC (GO (ah 12) (ah 7)))) (fun _ _ _ h=>h) (fun _ _ _ _=>(ah 12)))) aq)) (bQ (ah 5) (ah 10)))) (bQ (ah 6) (ah 10))) eX.nd)))
  (aw (cw (qb hr (xW (ah 8)) (Bo hr (ah 9) av)) (aG (aV iF)) bR)
  (aG (cw (vL (ah 8)) (aw (E1 (ah 8) (uT (is:=[11,10]) (by decide)) (qP rfl (eM (bK (i:=11) eX.nd rfl (by first | exact Or.inl rfl | exact Or.inr rfl)) (eM (bK (i:=10) eX.nd rfl (by first | exact Or.inl rfl | exact Or.inr rfl)) l9))))
  (aw (cw (mL (jO (qb hr (ah 10) (rG (bQ (ah 6) (ah 11)) (bQ (ah 5) (ah 11)))) (iE (Gw (ah 10) (cZ T.b_len (ag (bQ (ah 3) (ah 11)) aq)))))) (aG (aV iF)) bR)
  (aw (cw (va (bQ (bQ (ah 3) (ah 11)) (ah 10)) (ah 7)) (aG (aV iF)) bR)
  (aG (zq (i:=6) (cj (bQ (ah 6) (ah 11)) av) (ah 11)))))) bR))))))
  (aw (gU PassesOwn.leaving rfl (eY T.b_range (ag (cZ T.b_len (ag (ah 1) aq)) aq)) (g6 (i:=10) (by decide)) (bK (i:=10) eX.nd rfl (by first | exact Or.inl rfl | exact Or.inr rfl)) (aG (cw (qb hr (bQ (ah 6) (ah 10)) (jZ (bQ (ah 5) (ah 10)) (cZ T.b_len (ag (bQ (ah 3) (ah 10)) aq)))) (aG (aV iF)) bR)))
  (aG (aV (Ic hr (CT (ah 4) (AV (pT av)) BE) (pU (ag iT aq)))))))))))))) hL
theorem law_ok (T:Tx K mg cs) (hB:oa mg base) (hK:K.In base) {f:Addr} {fd:FuncData} (F:Fun K "law" "law" uc f fd):hU P w K mg base (CXW P w) 9 f fd ["_law_script"] (spD K 1 (fZ 63)):=by have d_law_mixed:=bG (P:=P) (w:=w) (base:=base) T;have d_is_whole:=cL (P:=P) (w:=w) (base:=base) T (xF cs);have d_have_moments:=ij (P:=P) (w:=w) (base:=base) T (qV cs);have d_is_row:=qE (P:=P) (w:=w) (base:=base) T d_is_whole d_have_moments (CN cs);have d_is_tuple:=cV (P:=P) (w:=w) (base:=base) T (yy cs);have d_is_part:=nJ (P:=P) (w:=w) (base:=base) T d_is_whole d_is_tuple (zZ cs);have d_are_parts:=kl (P:=P) (w:=w) (base:=base) T d_is_tuple d_is_part (wj cs);have d_is_errand:=kB (P:=P) (w:=w) (base:=base) T d_is_whole d_are_parts d_is_tuple (wM cs);have d_checked:=i8 (P:=P) (w:=w) (base:=base) T d_is_tuple d_is_errand (zD cs);have d_checked_comings:=fm (P:=P) (w:=w) (base:=base) T d_is_row d_checked (me cs);have d_has_tool:=lq (P:=P) (w:=w) (base:=base) T (yk cs);have d_height:=qa (P:=P) (w:=w) (base:=base) T d_has_tool (CW cs);have d_heights_of:=jd (P:=P) (w:=w) (base:=base) T d_height (uZ cs);have d_Jobs_are_done:=gG (P:=P) (w:=w) (base:=base) T (gf:=bg cs) kU;have d_Jobs_wanted:=eJ (P:=P) (w:=w) (base:=base) T (gf:=aB cs) kU;have d_Jobs_held:=gw (P:=P) (w:=w) (base:=base) T (gf:=aJ cs) kU;have d_holder:=kf (P:=P) (w:=w) (base:=base) T (gf:=bf cs) d_Jobs_held kU;have d_lent_ranks:=jc (P:=P) (w:=w) (base:=base) T (gf:=bV cs) d_Jobs_wanted d_holder kU;have d_height_by_high:=fJ (P:=P) (w:=w) (base:=base) T (gf:=bz cs) d_Jobs_held kU;have d_picked:=pL (P:=P) (w:=w) (base:=base) T hB hK (gf:=de cs) d_lent_ranks d_Jobs_wanted d_holder d_height_by_high kU;have d_Jobs_is_there:=gB (P:=P) (w:=w) (base:=base) T (gf:=aO cs) kU;have d_Jobs_go_on:=jj (P:=P) (w:=w) (base:=base) T (BP cs);have d_run_of:=qv (P:=P) (w:=w) (base:=base) T d_heights_of d_Jobs_are_done d_picked d_Jobs_is_there d_Jobs_go_on (xM T) (DB cs) (Dk cs);have d_checked_ranks:=gz (P:=P) (w:=w) (base:=base) T d_is_tuple d_is_whole (oS cs);have d_run:=AX (P:=P) (w:=w) (base:=base) T d_checked_comings d_run_of d_checked_ranks d_checked (Ii cs);have d_law_coming_row:=fP (P:=P) (w:=w) (base:=base) T d_law_mixed (nQ cs);have d_law_comings:=iJ (P:=P) (w:=w) (base:=base) T d_law_coming_row (rS cs);have d_law_ranks:=kE (P:=P) (w:=w) (base:=base) T d_law_mixed (vU cs);have d_law_errand:=jh (P:=P) (w:=w) (base:=base) T d_law_mixed (uy cs);have d_law_errands:=iI (P:=P) (w:=w) (base:=base) T d_law_errand d_law_mixed (rO cs);exact law_fn T F d_law_mixed d_run d_law_comings d_law_ranks d_law_errands (Iz cs)
end
end RS
namespace L2
open PySem PySem.Spec PyProof.Rows
theorem mB {K:PySem.W.Frag} {m qual:Str} {st:Stmt} {ps:List Str} {f C:Addr} {oc:Value} {od an:Option Addr} {sl:Array (Option Value)} {kV dc pm cd ct:Value}
  (hb:∀ (kV doc pm:Value) (an:Option Addr) (cdv ct:Value) (us:List Value),us.length=ps.length->bindArgs (PySem.W.fnOf m qual (fw st) (cX st) (ay st) .none kV doc pm an cdv ct) ⟨us,[]⟩=pure (ps.zip us))
  (hm:Meth K C m f) (l:K.lookup f=some ⟨oc,od,.func (PySem.W.fnOf m qual (fw st) (cX st) (ay st) .none kV dc pm an cd ct),sl⟩)
  (c:PySem.W.codeIn K cd qual=true) (k:PySem.W.keepIn K (.ref f)=true):∃ f fd,Fun K m qual st f fd/\Binds K fd ps []/\Meth K C m f :=
 have F:=yu (st:=st) l c k
 ⟨f,_,F,F.binds hb,hm⟩
theorem B0 {K:PySem.W.Frag} {x:Str} {f c P:Addr} {oc:Value} {od:Option Addr} {fd:FuncData} {sl:Array (Option Value)} {o:Obj} {vs:Array Value} (h1:PySem.W.nsIn K mainGlobals x=some (some (.ref f))) (h2:K.lookup f=some ⟨oc,od,.func fd,sl⟩) (h3:fd.code=.ref c) (h4:K.lookup c=some o) (h5:o.data=.fields vs) (h6:vs[11]?=some (.ref P)):PySem.W.tabIn K x=some (c,P):=by obtain ⟨cl,di,da,so⟩:=o;cases h5;unfold PySem.W.tabIn;rw [h1];simp only;rw [h2];simp only;rw [h3];simp only;rw [h4];simp only;rw [h6]
theorem zB {x:Str} (hl:pq=[x]) {p:Program} {loose:List Str} {mean:ExcName->Option Value} {mg mb:Str->Option Value} {h:Heap} {K:PySem.W.Frag} {d:DefRec} (hr:(recsOf p).find? (fun e=>e.name==x)=some d) (hn:PySem.W.noTabs K=true) (T:Top p loose mean mg mb h) (X:K.In h):nL K h:=by
 refine ⟨fun P q ⟨x',hx,f,oc,od,fd,sl,c,h1,h2,h3,⟨o,vs,h4,h5,h6⟩,hq⟩=>?_,fun P q q' ⟨x1,hx1,_,_,_,_,_,_,_,_,_,_,e1⟩ ⟨x2,hx2,_,_,_,_,_,_,_,_,_,_,e2⟩=>?_⟩
 ·rw [hl] at hx;cases List.mem_singleton.mp hx;have ht:=B0 h1 h2 h3 h4 h5 h6;obtain ⟨hc,hp⟩:=PySem.W.tab_of T X hr ht;refine ⟨hp,?_,?_⟩
  ·cases z:K.lookup P with
   | none=>rfl
   | some o' =>exfalso;have e:=X P o' z;rw [hp] at e;cases e;have h7:=List.all_eq_true.mp hn (P,_) (PySem.W.mem_of_lookupK z);exact absurd (show false=true from h7) Bool.false_ne_true
  ·obtain ⟨o2,vs2,_,_,_,_,_,_,_,g1,g2,g3,g4,_⟩:=hc;exact ⟨c,o2,vs2,g1,g2,g3,g4⟩
 ·rw [hl] at hx1 hx2;rw [e1,e2,List.mem_singleton.mp hx1,List.mem_singleton.mp hx2]
theorem zN {K:PySem.W.Frag} {c P:Addr} {od:Option Addr} {vs:Array Value} {sl:Array (Option Value)} {file:Str} {tf:Nat} {flags text:Int} {tg tt:Nat} {inF:Bool} (l:K.lookup c=some ⟨.type "code",od,.fields vs,sl⟩) (h11:vs[11]?=some (.ref P)) (h18:vs.getD 18 .none=.str file tf) (h7:vs.getD 7 .none=.int flags tg) (h9:vs.getD 9 .none=.bool inF) (h10:vs.getD 10 .none=.int text tt) (ne:(c != P)=true):PySem.W.codeHdIn K c P=true:=by unfold PySem.W.codeHdIn;rw [l];simp only;rw [h11,h18,h7,h9,h10,ne];simp
theorem EC {K:PySem.W.Frag} {x:Str} {f c P:Addr} {oc:Value} {od od2:Option Addr} {fd:FuncData} {sl sl2:Array (Option Value)} {vs:Array Value} {file:Str} {tf:Nat} {flags text:Int} {tg tt:Nat} {inF:Bool} (h1:PySem.W.nsIn K mainGlobals x=some (some (.ref f))) (h2:K.lookup f=some ⟨oc,od,.func fd,sl⟩) (h3:fd.code=.ref c) (l:K.lookup c=some ⟨.type "code",od2,.fields vs,sl2⟩) (h11:vs[11]?=some (.ref P)) (h18:vs.getD 18 .none=.str file tf) (h7:vs.getD 7 .none=.int flags tg) (h9:vs.getD 9 .none=.bool inF) (h10:vs.getD 10 .none=.int text tt) (ne:(c != P)=true):Eo K x :=
 ⟨f,oc,od,fd,sl,c,P,_,vs,h1,h2,h3,l,rfl,h11,zN l h11 h18 h7 h9 h10 ne⟩
theorem yv {x:Str} (hl:pq=[x]) {p:Program} (hr:((recsOf p).find? (fun e=>e.name==x)).isSome=true) {K:PySem.W.Frag} (hn:PySem.W.noTabs K=true) {loose:List Str} {mean:ExcName->Option Value} {mg mb:Str->Option Value} {h:Heap} (T:Top p loose mean mg mb h) (X:K.In h):nL K h:=by obtain ⟨d,hd⟩:=Option.isSome_iff_exists.mp hr;exact zB hl hd hn T X
end L2
namespace RS
theorem lG {n:Nat} {us:List PySem.Value} (h:us.length=n+1):∃ a t,us=a::t/\t.length=n:=by
 cases us with
 | nil=>cases h
 | cons a t=>exact ⟨a,t,rfl,Nat.succ.inj h⟩
theorem p9 {us:List PySem.Value} (h:us.length=1):∃ a0,us=[a0]:=by obtain ⟨a0,t0,e0,h0⟩:=lG h;have e:=List.eq_nil_of_length_eq_zero h0;exact ⟨_,by rw [e0,e]⟩
theorem rQ {us:List PySem.Value} (h:us.length=2):∃ a0 a1,us=[a0,a1]:=by obtain ⟨a0,t0,e0,h0⟩:=lG h;obtain ⟨a1,t1,e1,h1⟩:=lG h0;have e:=List.eq_nil_of_length_eq_zero h1;exact ⟨_,_,by rw [e0,e1,e]⟩
theorem As {us:List PySem.Value} (h:us.length=3):∃ a0 a1 a2,us=[a0,a1,a2]:=by obtain ⟨a0,t0,e0,h0⟩:=lG h;obtain ⟨a1,t1,e1,h1⟩:=lG h0;obtain ⟨a2,t2,e2,h2⟩:=lG h1;have e:=List.eq_nil_of_length_eq_zero h2;exact ⟨_,_,_,by rw [e0,e1,e2,e]⟩
theorem Br {us:List PySem.Value} (h:us.length=4):∃ a0 a1 a2 a3,us=[a0,a1,a2,a3]:=by obtain ⟨a0,t0,e0,h0⟩:=lG h;obtain ⟨a1,t1,e1,h1⟩:=lG h0;obtain ⟨a2,t2,e2,h2⟩:=lG h1;obtain ⟨a3,t3,e3,h3⟩:=lG h2;have e:=List.eq_nil_of_length_eq_zero h3;exact ⟨_,_,_,_,by rw [e0,e1,e2,e3,e]⟩
theorem ID {us:List PySem.Value} (h:us.length=5):∃ a0 a1 a2 a3 a4,us=[a0,a1,a2,a3,a4]:=by obtain ⟨a0,t0,e0,h0⟩:=lG h;obtain ⟨a1,t1,e1,h1⟩:=lG h0;obtain ⟨a2,t2,e2,h2⟩:=lG h1;obtain ⟨a3,t3,e3,h3⟩:=lG h2;obtain ⟨a4,t4,e4,h4⟩:=lG h3;have e:=List.eq_nil_of_length_eq_zero h4;exact ⟨_,_,_,_,_,by rw [e0,e1,e2,e3,e4,e]⟩
end RS
open PySem PySem.W PyProof.Rows
set_option maxRecDepth 100000 in
set_option maxHeartbeats 0 in
theorem PySem.Challenge.cw_ranksure_k06_whole_never_rests_holds : PySem.Challenge.rw_ranksure_k06_whole_never_rests.Holds := by
 refine RS.hdTop ?_
 k_fill
 refine RS.Ih (l:=PySem.Challenge.rw_ranksure_k06_whole_never_rests) (n:=63) (k:=9) (x:="_law_script") (st:=RS.uc) rfl (by decide) rfl ⟨rfl,by decide,by decide⟩ (fun w h Y=>PySem.W.km_in_of Y) (fun _ _ _ _ _ _ us hl=>by obtain ⟨_,rfl⟩:=RS.p9 hl;rfl) ?F (fun w h l m mg mb T X=>L2.yv (x:="picked") rfl (by kernel_rfl) (by kernel_rfl) T X)
 case F =>
  intro w mg h KX G;have f_is_whole:RS.bH (L2.KOf KX) mg "is_whole" RS.lp ["thing", "least", "most"]:=by
   delta L2.KOf
   refine' RS.bM KX G (fun _ _ _ _ _ _ us hl=>by obtain ⟨_,_,_,rfl⟩:=RS.As hl;rfl) ?a_is_whole ?l_is_whole ?c_is_whole ?k_is_whole
   (case a_is_whole=>k_is);(case l_is_whole=>k_is);(case c_is_whole=>k_is);(case k_is_whole=>k_is)
  have f_is_tuple:RS.bH (L2.KOf KX) mg "is_tuple" RS.lj ["thing", "fewest", "most"]:=by
   delta L2.KOf
   refine' RS.bM KX G (fun _ _ _ _ _ _ us hl=>by obtain ⟨_,_,_,rfl⟩:=RS.As hl;rfl) ?a_is_tuple ?l_is_tuple ?c_is_tuple ?k_is_tuple
   (case a_is_tuple=>k_is);(case l_is_tuple=>k_is);(case c_is_tuple=>k_is);(case k_is_tuple=>k_is)
  have f_is_part:RS.bH (L2.KOf KX) mg "is_part" RS.mV ["thing"]:=by
   delta L2.KOf
   refine' RS.bM KX G (fun _ _ _ _ _ _ us hl=>by obtain ⟨_,rfl⟩:=RS.p9 hl;rfl) ?a_is_part ?l_is_part ?c_is_part ?k_is_part
   (case a_is_part=>k_is);(case l_is_part=>k_is);(case c_is_part=>k_is);(case k_is_part=>k_is)
  have f_are_parts:RS.bH (L2.KOf KX) mg "are_parts" RS.kF ["thing"]:=by
   delta L2.KOf
   refine' RS.bM KX G (fun _ _ _ _ _ _ us hl=>by obtain ⟨_,rfl⟩:=RS.p9 hl;rfl) ?a_are_parts ?l_are_parts ?c_are_parts ?k_are_parts
   (case a_are_parts=>k_is);(case l_are_parts=>k_is);(case c_are_parts=>k_is);(case k_are_parts=>k_is)
  have f_is_errand:RS.bH (L2.KOf KX) mg "is_errand" RS.j4 ["thing"]:=by
   delta L2.KOf
   refine' RS.bM KX G (fun _ _ _ _ _ _ us hl=>by obtain ⟨_,rfl⟩:=RS.p9 hl;rfl) ?a_is_errand ?l_is_errand ?c_is_errand ?k_is_errand
   (case a_is_errand=>k_is);(case l_is_errand=>k_is);(case c_is_errand=>k_is);(case k_is_errand=>k_is)
  have f_checked:RS.bH (L2.KOf KX) mg "checked" RS.mS ["errands"]:=by
   delta L2.KOf
   refine' RS.bM KX G (fun _ _ _ _ _ _ us hl=>by obtain ⟨_,rfl⟩:=RS.p9 hl;rfl) ?a_checked ?l_checked ?c_checked ?k_checked
   (case a_checked=>k_is);(case l_checked=>k_is);(case c_checked=>k_is);(case k_checked=>k_is)
  have f_checked_ranks:RS.bH (L2.KOf KX) mg "checked_ranks" RS.gA ["errands", "ranks"]:=by
   delta L2.KOf
   refine' RS.bM KX G (fun _ _ _ _ _ _ us hl=>by obtain ⟨_,_,rfl⟩:=RS.rQ hl;rfl) ?a_checked_ranks ?l_checked_ranks ?c_checked_ranks ?k_checked_ranks
   (case a_checked_ranks=>k_is);(case l_checked_ranks=>k_is);(case c_checked_ranks=>k_is);(case k_checked_ranks=>k_is)
  have f_has_tool:RS.bH (L2.KOf KX) mg "has_tool" RS.lK ["errand", "tool"]:=by
   delta L2.KOf
   refine' RS.bM KX G (fun _ _ _ _ _ _ us hl=>by obtain ⟨_,_,rfl⟩:=RS.rQ hl;rfl) ?a_has_tool ?l_has_tool ?c_has_tool ?k_has_tool
   (case a_has_tool=>k_is);(case l_has_tool=>k_is);(case c_has_tool=>k_is);(case k_has_tool=>k_is)
  have f_height:RS.bH (L2.KOf KX) mg "height" RS.qj ["errands", "ranks", "tool"]:=by
   delta L2.KOf
   refine' RS.bM KX G (fun _ _ _ _ _ _ us hl=>by obtain ⟨_,_,_,rfl⟩:=RS.As hl;rfl) ?a_height ?l_height ?c_height ?k_height
   (case a_height=>k_is);(case l_height=>k_is);(case c_height=>k_is);(case k_height=>k_is)
  have f_heights_of:RS.bH (L2.KOf KX) mg "heights_of" RS.ju ["errands", "ranks"]:=by
   delta L2.KOf
   refine' RS.bM KX G (fun _ _ _ _ _ _ us hl=>by obtain ⟨_,_,rfl⟩:=RS.rQ hl;rfl) ?a_heights_of ?l_heights_of ?c_heights_of ?k_heights_of
   (case a_heights_of=>k_is);(case l_heights_of=>k_is);(case c_heights_of=>k_is);(case k_heights_of=>k_is)
  have f_have_moments:RS.bH (L2.KOf KX) mg "have_moments" RS.iu ["errand", "row"]:=by
   delta L2.KOf
   refine' RS.bM KX G (fun _ _ _ _ _ _ us hl=>by obtain ⟨_,_,rfl⟩:=RS.rQ hl;rfl) ?a_have_moments ?l_have_moments ?c_have_moments ?k_have_moments
   (case a_have_moments=>k_is);(case l_have_moments=>k_is);(case c_have_moments=>k_is);(case k_have_moments=>k_is)
  have f_is_row:RS.bH (L2.KOf KX) mg "is_row" RS.rF ["errand", "thing"]:=by
   delta L2.KOf
   refine' RS.bM KX G (fun _ _ _ _ _ _ us hl=>by obtain ⟨_,_,rfl⟩:=RS.rQ hl;rfl) ?a_is_row ?l_is_row ?c_is_row ?k_is_row
   (case a_is_row=>k_is);(case l_is_row=>k_is);(case c_is_row=>k_is);(case k_is_row=>k_is)
  have f_checked_comings:RS.bH (L2.KOf KX) mg "checked_comings" RS.fk ["errands", "comings"]:=by
   delta L2.KOf
   refine' RS.bM KX G (fun _ _ _ _ _ _ us hl=>by obtain ⟨_,_,rfl⟩:=RS.rQ hl;rfl) ?a_checked_comings ?l_checked_comings ?c_checked_comings ?k_checked_comings
   (case a_checked_comings=>k_is);(case l_checked_comings=>k_is);(case c_checked_comings=>k_is);(case k_checked_comings=>k_is)
  have f_height_by_high:RS.bH (L2.KOf KX) mg "height_by_high" RS.fQ ["jobs", "tops"]:=by
   delta L2.KOf
   refine' RS.bM KX G (fun _ _ _ _ _ _ us hl=>by obtain ⟨_,_,rfl⟩:=RS.rQ hl;rfl) ?a_height_by_high ?l_height_by_high ?c_height_by_high ?k_height_by_high
   (case a_height_by_high=>k_is);(case l_height_by_high=>k_is);(case c_height_by_high=>k_is);(case k_height_by_high=>k_is)
  have f_holder:RS.bH (L2.KOf KX) mg "holder" RS.pG ["there", "tool"]:=by
   delta L2.KOf
   refine' RS.bM KX G (fun _ _ _ _ _ _ us hl=>by obtain ⟨_,_,rfl⟩:=RS.rQ hl;rfl) ?a_holder ?l_holder ?c_holder ?k_holder
   (case a_holder=>k_is);(case l_holder=>k_is);(case c_holder=>k_is);(case k_holder=>k_is)
  have f_lent_ranks:RS.bH (L2.KOf KX) mg "lent_ranks" RS.je ["there"]:=by
   delta L2.KOf
   refine' RS.bM KX G (fun _ _ _ _ _ _ us hl=>by obtain ⟨_,rfl⟩:=RS.p9 hl;rfl) ?a_lent_ranks ?l_lent_ranks ?c_lent_ranks ?k_lent_ranks
   (case a_lent_ranks=>k_is);(case l_lent_ranks=>k_is);(case c_lent_ranks=>k_is);(case k_lent_ranks=>k_is)
  have f_picked:RS.bH (L2.KOf KX) mg "picked" RS.rq ["there", "tops", "lending"]:=by
   delta L2.KOf
   refine' RS.bM KX G (fun _ _ _ _ _ _ us hl=>by obtain ⟨_,_,_,rfl⟩:=RS.As hl;rfl) ?a_picked ?l_picked ?c_picked ?k_picked
   (case a_picked=>k_is);(case l_picked=>k_is);(case c_picked=>k_is);(case k_picked=>k_is)
  have f_run_of:RS.bH (L2.KOf KX) mg "run_of" RS.qG ["errands", "ranks", "rows", "lending"]:=by
   delta L2.KOf
   refine' RS.bM KX G (fun _ _ _ _ _ _ us hl=>by obtain ⟨_,_,_,_,rfl⟩:=RS.Br hl;rfl) ?a_run_of ?l_run_of ?c_run_of ?k_run_of
   (case a_run_of=>k_is);(case l_run_of=>k_is);(case c_run_of=>k_is);(case k_run_of=>k_is)
  have f_run:RS.bH (L2.KOf KX) mg "run" RS.Bq ["errands", "ranks", "comings", "lending"]:=by
   delta L2.KOf
   refine' RS.bM KX G (fun _ _ _ _ _ _ us hl=>by obtain ⟨_,_,_,_,rfl⟩:=RS.Br hl;rfl) ?a_run ?l_run ?c_run ?k_run
   (case a_run=>k_is);(case l_run=>k_is);(case c_run=>k_is);(case k_run=>k_is)
  have f_law_cell_at:RS.bH (L2.KOf KX) mg "_law_cell_at" RS.eu ["_law_script", "_law_k"]:=by
   delta L2.KOf
   refine' RS.bM KX G (fun _ _ _ _ _ _ us hl=>by obtain ⟨_,_,rfl⟩:=RS.rQ hl;rfl) ?a_law_cell_at ?l_law_cell_at ?c_law_cell_at ?k_law_cell_at
   (case a_law_cell_at=>k_is);(case l_law_cell_at=>k_is);(case c_law_cell_at=>k_is);(case k_law_cell_at=>k_is)
  have f_law_mixed:RS.bH (L2.KOf KX) mg "_law_mixed" RS.iG ["_law_script", "_law_k", "_law_many"]:=by
   delta L2.KOf
   refine' RS.bM KX G (fun _ _ _ _ _ _ us hl=>by obtain ⟨_,_,_,rfl⟩:=RS.As hl;rfl) ?a_law_mixed ?l_law_mixed ?c_law_mixed ?k_law_mixed
   (case a_law_mixed=>k_is);(case l_law_mixed=>k_is);(case c_law_mixed=>k_is);(case k_law_mixed=>k_is)
  have f_law_errand:RS.bH (L2.KOf KX) mg "_law_errand" RS.jl ["_law_script", "_law_at", "_law_top", "_law_tools"]:=by
   delta L2.KOf
   refine' RS.bM KX G (fun _ _ _ _ _ _ us hl=>by obtain ⟨_,_,_,_,rfl⟩:=RS.Br hl;rfl) ?a_law_errand ?l_law_errand ?c_law_errand ?k_law_errand
   (case a_law_errand=>k_is);(case l_law_errand=>k_is);(case c_law_errand=>k_is);(case k_law_errand=>k_is)
  have f_law_errands:RS.bH (L2.KOf KX) mg "_law_errands" RS.iQ ["_law_script", "_law_at", "_law_most", "_law_top", "_law_tools"]:=by
   delta L2.KOf
   refine' RS.bM KX G (fun _ _ _ _ _ _ us hl=>by obtain ⟨_,_,_,_,_,rfl⟩:=RS.ID hl;rfl) ?a_law_errands ?l_law_errands ?c_law_errands ?k_law_errands
   (case a_law_errands=>k_is);(case l_law_errands=>k_is);(case c_law_errands=>k_is);(case k_law_errands=>k_is)
  have f_law_ranks:RS.bH (L2.KOf KX) mg "_law_ranks" RS.ko ["_law_script", "_law_at", "_law_many"]:=by
   delta L2.KOf
   refine' RS.bM KX G (fun _ _ _ _ _ _ us hl=>by obtain ⟨_,_,_,rfl⟩:=RS.As hl;rfl) ?a_law_ranks ?l_law_ranks ?c_law_ranks ?k_law_ranks
   (case a_law_ranks=>k_is);(case l_law_ranks=>k_is);(case c_law_ranks=>k_is);(case k_law_ranks=>k_is)
  have f_law_coming_row:RS.bH (L2.KOf KX) mg "_law_coming_row" RS.fW ["_law_script", "_law_at", "_law_errand_here", "_law_span"]:=by
   delta L2.KOf
   refine' RS.bM KX G (fun _ _ _ _ _ _ us hl=>by obtain ⟨_,_,_,_,rfl⟩:=RS.Br hl;rfl) ?a_law_coming_row ?l_law_coming_row ?c_law_coming_row ?k_law_coming_row
   (case a_law_coming_row=>k_is);(case l_law_coming_row=>k_is);(case c_law_coming_row=>k_is);(case k_law_coming_row=>k_is)
  have f_law_comings:RS.bH (L2.KOf KX) mg "_law_comings" RS.iU ["_law_script", "_law_at", "_law_errands_here", "_law_span"]:=by
   delta L2.KOf
   refine' RS.bM KX G (fun _ _ _ _ _ _ us hl=>by obtain ⟨_,_,_,_,rfl⟩:=RS.Br hl;rfl) ?a_law_comings ?l_law_comings ?c_law_comings ?k_law_comings
   (case a_law_comings=>k_is);(case l_law_comings=>k_is);(case c_law_comings=>k_is);(case k_law_comings=>k_is)
  have f_law:RS.bH (L2.KOf KX) mg "law" RS.uc ["_law_script"]:=by
   delta L2.KOf
   refine' RS.bM KX G (fun _ _ _ _ _ _ us hl=>by obtain ⟨_,rfl⟩:=RS.p9 hl;rfl) ?a_law ?l_law ?c_law ?k_law
   (case a_law=>k_is);(case l_law=>k_is);(case c_law=>k_is);(case k_law=>k_is)
  have b_all:mg "all"=none:=by
   refine' PySem.W.mg_none_of KX G ?z_all
   (case z_all=>k_is)
  have b_bool:mg "bool"=none:=by
   refine' PySem.W.mg_none_of KX G ?z_bool
   (case z_bool=>k_is)
  have b_enumerate:mg "enumerate"=none:=by
   refine' PySem.W.mg_none_of KX G ?z_enumerate
   (case z_enumerate=>k_is)
  have b_int:mg "int"=none:=by
   refine' PySem.W.mg_none_of KX G ?z_int
   (case z_int=>k_is)
  have b_isinstance:mg "isinstance"=none:=by
   refine' PySem.W.mg_none_of KX G ?z_isinstance
   (case z_isinstance=>k_is)
  have b_len:mg "len"=none:=by
   refine' PySem.W.mg_none_of KX G ?z_len
   (case z_len=>k_is)
  have b_list:mg "list"=none:=by
   refine' PySem.W.mg_none_of KX G ?z_list
   (case z_list=>k_is)
  have b_max:mg "max"=none:=by
   refine' PySem.W.mg_none_of KX G ?z_max
   (case z_max=>k_is)
  have b_min:mg "min"=none:=by
   refine' PySem.W.mg_none_of KX G ?z_min
   (case z_min=>k_is)
  have b_range:mg "range"=none:=by
   refine' PySem.W.mg_none_of KX G ?z_range
   (case z_range=>k_is)
  have b_set:mg "set"=none:=by
   refine' PySem.W.mg_none_of KX G ?z_set
   (case z_set=>k_is)
  have b_sum:mg "sum"=none:=by
   refine' PySem.W.mg_none_of KX G ?z_sum
   (case z_sum=>k_is)
  have b_tuple:mg "tuple"=none:=by
   refine' PySem.W.mg_none_of KX G ?z_tuple
   (case z_tuple=>k_is)
  have b_zip:mg "zip"=none:=by
   refine' PySem.W.mg_none_of KX G ?z_zip
   (case z_zip=>k_is)
  have c_LAST_COMING:∃ t,mg "LAST_COMING"=some (.int 9999 t):=by
   refine' RS.gR KX G ?z_LAST_COMING
   (case z_LAST_COMING=>k_is)
  have c_LEAST_EVERY:∃ t,mg "LEAST_EVERY"=some (.int 2 t):=by
   refine' RS.gR KX G ?z_LEAST_EVERY
   (case z_LEAST_EVERY=>k_is)
  have c_MOST_COMINGS:∃ t,mg "MOST_COMINGS"=some (.int 60 t):=by
   refine' RS.gR KX G ?z_MOST_COMINGS
   (case z_MOST_COMINGS=>k_is)
  have c_MOST_ERRANDS:∃ t,mg "MOST_ERRANDS"=some (.int 6 t):=by
   refine' RS.gR KX G ?z_MOST_ERRANDS
   (case z_MOST_ERRANDS=>k_is)
  have c_MOST_EVERY:∃ t,mg "MOST_EVERY"=some (.int 60 t):=by
   refine' RS.gR KX G ?z_MOST_EVERY
   (case z_MOST_EVERY=>k_is)
  have c_MOST_LATE:∃ t,mg "MOST_LATE"=some (.int 20 t):=by
   refine' RS.gR KX G ?z_MOST_LATE
   (case z_MOST_LATE=>k_is)
  have c_MOST_LENGTH:∃ t,mg "MOST_LENGTH"=some (.int 20 t):=by
   refine' RS.gR KX G ?z_MOST_LENGTH
   (case z_MOST_LENGTH=>k_is)
  have c_MOST_PARTS:∃ t,mg "MOST_PARTS"=some (.int 4 t):=by
   refine' RS.gR KX G ?z_MOST_PARTS
   (case z_MOST_PARTS=>k_is)
  have c_TOOLS:∃ t,mg "TOOLS"=some (.int 4 t):=by
   refine' RS.gR KX G ?z_TOOLS
   (case z_TOOLS=>k_is)
  obtain ⟨C_NoComings,C_NoErrands,C_NoRanks,e_NoComings,e_NoErrands,e_NoRanks⟩:∃ C_NoComings C_NoErrands C_NoRanks:Addr,L2.wW (L2.KOf KX) mg "NoComings" C_NoComings/\L2.wW (L2.KOf KX) mg "NoErrands" C_NoErrands/\L2.wW (L2.KOf KX) mg "NoRanks" C_NoRanks:=by
   delta L2.KOf
   refine' ⟨_,_,_,RS.uE KX G ?a_NoComings ?e_NoComings,RS.uE KX G ?a_NoErrands ?e_NoErrands,RS.uE KX G ?a_NoRanks ?e_NoRanks⟩
   (case a_NoComings=>k_is);(case e_NoComings=>k_exc)
   (case a_NoErrands=>k_is);(case e_NoErrands=>k_exc)
   (case a_NoRanks=>k_is);(case e_NoRanks=>k_exc)
  obtain ⟨C_Jobs,m_Jobs,cl_Jobs,na_Jobs_number,na_Jobs_parts,na_Jobs_rank,na_Jobs_row,na_Jobs_job,na_Jobs_part,na_Jobs_spent,mk_Jobs,mt_Jobs_are_done,mt_Jobs_is_there,mt_Jobs_held,mt_Jobs_wanted,mt_Jobs_go_on⟩:∃ C:Addr,mg "Jobs"=some (.ref C)/\L2.Cls (L2.KOf KX) C/\PySem.W.findIn (L2.KOf KX) (.ref C) "number"=some none/\PySem.W.findIn (L2.KOf KX) (.ref C) "parts"=some none/\PySem.W.findIn (L2.KOf KX) (.ref C) "rank"=some none/\PySem.W.findIn (L2.KOf KX) (.ref C) "row"=some none/\PySem.W.findIn (L2.KOf KX) (.ref C) "job"=some none/\PySem.W.findIn (L2.KOf KX) (.ref C) "part"=some none/\PySem.W.findIn (L2.KOf KX) (.ref C) "spent"=some none/\(∃ f fd,L2.Mk (L2.KOf KX) C f/\L2.Fun (L2.KOf KX) "__init__" "Jobs.__init__" RS.ur f fd/\L2.Binds (L2.KOf KX) fd ["self", "number", "parts", "rank", "row"] [])/\(∃ f fd,L2.Fun (L2.KOf KX) "are_done" "Jobs.are_done" RS.gD f fd/\L2.Binds (L2.KOf KX) fd ["self"] []/\L2.Meth (L2.KOf KX) C "are_done" f)/\(∃ f fd,L2.Fun (L2.KOf KX) "is_there" "Jobs.is_there" RS.gx f fd/\L2.Binds (L2.KOf KX) fd ["self", "time"] []/\L2.Meth (L2.KOf KX) C "is_there" f)/\(∃ f fd,L2.Fun (L2.KOf KX) "held" "Jobs.held" RS.jR f fd/\L2.Binds (L2.KOf KX) fd ["self"] []/\L2.Meth (L2.KOf KX) C "held" f)/\(∃ f fd,L2.Fun (L2.KOf KX) "wanted" "Jobs.wanted" RS.iS f fd/\L2.Binds (L2.KOf KX) fd ["self"] []/\L2.Meth (L2.KOf KX) C "wanted" f)/\(∃ f fd,L2.Fun (L2.KOf KX) "go_on" "Jobs.go_on" RS.jo f fd/\L2.Binds (L2.KOf KX) fd ["self"] []/\L2.Meth (L2.KOf KX) C "go_on" f):=by
   delta L2.KOf
   refine' ⟨_,PySem.W.mg_of KX G ?ac,⟨?pg,?hd,?po,?sa⟩,?n0,?n1,?n2,?n3,?n4,?n5,?n6,L2.EG (fun _ _ _ _ _ _ us hl=>by obtain ⟨_,_,_,_,_,rfl⟩:=RS.ID hl;rfl) ?ai ?ii ?li ?ci ?ki ?mk ?kc,L2.mB (fun _ _ _ _ _ _ us hl=>by obtain ⟨_,rfl⟩:=RS.p9 hl;rfl) ⟨?ma_are_done,?mf_are_done,?mp_are_done⟩ ?ml_are_done ?mc_are_done ?mq_are_done,L2.mB (fun _ _ _ _ _ _ us hl=>by obtain ⟨_,_,rfl⟩:=RS.rQ hl;rfl) ⟨?ma_is_there,?mf_is_there,?mp_is_there⟩ ?ml_is_there ?mc_is_there ?mq_is_there,L2.mB (fun _ _ _ _ _ _ us hl=>by obtain ⟨_,rfl⟩:=RS.p9 hl;rfl) ⟨?ma_held,?mf_held,?mp_held⟩ ?ml_held ?mc_held ?mq_held,L2.mB (fun _ _ _ _ _ _ us hl=>by obtain ⟨_,rfl⟩:=RS.p9 hl;rfl) ⟨?ma_wanted,?mf_wanted,?mp_wanted⟩ ?ml_wanted ?mc_wanted ?mq_wanted,L2.mB (fun _ _ _ _ _ _ us hl=>by obtain ⟨_,rfl⟩:=RS.p9 hl;rfl) ⟨?ma_go_on,?mf_go_on,?mp_go_on⟩ ?ml_go_on ?mc_go_on ?mq_go_on⟩
   (case ac=>k_is);(case pg=>k_is);(case hd=>k_is);(case po=>k_is);(case sa=>k_is);(case n0=>k_is);(case n1=>k_is);(case n2=>k_is);(case n3=>k_is);(case n4=>k_is);(case n5=>k_is);(case n6=>k_is);(case ai=>k_is);(case ii=>k_is);(case li=>k_is);(case ci=>k_is);(case ki=>k_is);(case mk=>k_is);(case kc=>k_is);(case ma_are_done=>k_is);(case mf_are_done=>k_is);(case mp_are_done=>k_is);(case ml_are_done=>k_is);(case mc_are_done=>k_is);(case mq_are_done=>k_is);(case ma_is_there=>k_is);(case mf_is_there=>k_is);(case mp_is_there=>k_is);(case ml_is_there=>k_is);(case mc_is_there=>k_is);(case mq_is_there=>k_is);(case ma_held=>k_is);(case mf_held=>k_is);(case mp_held=>k_is);(case ml_held=>k_is);(case mc_held=>k_is);(case mq_held=>k_is);(case ma_wanted=>k_is);(case mf_wanted=>k_is);(case mp_wanted=>k_is);(case ml_wanted=>k_is);(case mc_wanted=>k_is);(case mq_wanted=>k_is);(case ma_go_on=>k_is);(case mf_go_on=>k_is);(case mp_go_on=>k_is);(case ml_go_on=>k_is);(case mc_go_on=>k_is);(case mq_go_on=>k_is)
  have tb_picked:L2.Eo (L2.KOf KX) "picked":=by
   delta L2.KOf
   refine' L2.EC ?t1 ?t2 ?t3 ?t4 ?t5 ?t6 ?t7 ?t8 ?t9 ?t10
   (case t1=>k_is);(case t2=>k_is);(case t3=>exact rfl);(case t4=>k_is);(case t5=>exact rfl);(case t6=>exact rfl);(case t7=>exact rfl);(case t8=>exact rfl);(case t9=>exact rfl);(case t10=>decide)
  have T:RS.Tx (L2.KOf KX) mg ⟨0,C_NoErrands,C_NoRanks,C_NoComings,0,0,0,0,0,C_Jobs⟩:=⟨f_is_whole,f_is_tuple,f_is_part,f_are_parts,f_is_errand,f_checked,f_checked_ranks,f_has_tool,f_height,f_heights_of,f_have_moments,f_is_row,f_checked_comings,f_height_by_high,f_holder,f_lent_ranks,f_picked,f_run_of,f_run,f_law_cell_at,f_law_mixed,f_law_errand,f_law_errands,f_law_ranks,f_law_coming_row,f_law_comings,f_law,mt_Jobs_are_done,mt_Jobs_is_there,mt_Jobs_held,mt_Jobs_wanted,mt_Jobs_go_on,b_all,b_bool,b_enumerate,b_int,b_isinstance,b_len,b_list,b_max,b_min,b_range,b_set,b_sum,b_tuple,b_zip,c_LAST_COMING,c_LEAST_EVERY,c_MOST_COMINGS,c_MOST_ERRANDS,c_MOST_EVERY,c_MOST_LATE,c_MOST_LENGTH,c_MOST_PARTS,c_TOOLS,e_NoComings,e_NoErrands,e_NoRanks,cl_Jobs,na_Jobs_number,na_Jobs_parts,na_Jobs_rank,na_Jobs_row,na_Jobs_job,na_Jobs_part,na_Jobs_spent,mk_Jobs,m_Jobs,tb_picked,fun g e=>PySem.W.mg_of KX G e⟩
  exact ⟨f_law,fun f fd F base hb hn hB=>RS.law_ok T hB hb F⟩
end
