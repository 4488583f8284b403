import PyProof.Rows.All
import OpenK.AllK
import PySem.Challenge.RW_ranksure_k03_comings
import KE.RegKIsAll
import Wide.All
import OpenK.KWalk
import OpenK.KMake
import OpenK.KDescr
import OpenK.KCall
import OpenK.KOwn
import KE.KIsAll
import KE.KItem
import KE.KxBytes
import Wide.FinOn
import Lean
import PyProof.EqAt
import PyProof.EqKinds
import PyProof.TupleCall
import KE.LcSums
import PyProof.Rows.EqDataRows
import PyProof.RulesAs
import PyProof.ZipIter
import PyProof.Draws
import PyProof.Rows.TupAdd
import PyProof.ListMulRoad
import PyProof.AutoListH
import PyProof.Rows.Range3
import PyProof.ListRange
import PyProof.EnumMake
import PyProof.EnumFor
import PyProof.Rows.SetFrom
import PyProof.WalksMore
import PyProof.StrOps2
import PyProof.Rows.MinMaxN
import PyProof.ConsumeWalk
import PyProof.Rows.SortWalk
import PyProof.ExcArgsOwn
import PyProof.StrBlock2
import KE.KMinKey
import PyProof.Rows.CallKwBuiltin
import KE.KLam
import KE.KDictLaws
import KE.KDictMeth
import KE.KDictObj
import KE.KDictLetter
import OpenK.KDict
import KE.KDictOf
import PyProof.Rows.RegDictMethods
import PySem.PyData
import KE.KNestM
noncomputable section
set_option genSizeOf false
set_option genSizeOfSpec false
set_option genInjectivity false
set_option compiler.extract_closed false
set_option bootstrap.genMatcherCode false
set_option Elab.async false
set_option linter.all false
abbrev A1:=@PySem.Heap.get?_push_of_some
abbrev A3:=@Bool.and_eq_true
abbrev A5:=@List.getElem?_eq_getElem
abbrev A6:=@List.size_toArray
abbrev A7:=@List.length_map
abbrev A8:=@Nat.lt_of_lt_of_le
abbrev A9:=@PySem.Heap.lt_size
abbrev Aa:=@List.mem_cons
abbrev Ab:=@List.mem_cons_of_mem
abbrev Ac:=@Nat.le_refl
abbrev Ad:=@List.mem_cons_self
abbrev Ae:=@PySem.Heap.get?_push_size
abbrev Af:=@Nat.ne_of_lt
abbrev Ag:=@List.mem_append_right
abbrev Ah:=@List.mem_map
abbrev Ai:=@List.not_mem_nil
abbrev Aj:=@List.mem_singleton
abbrev Ak:=@List.all_eq_true
abbrev Al:=@List.length_append
abbrev Am:=@List.getElem?_set_ne
abbrev An:=@List.getElem?_map
abbrev Ao:=@List.getElem?_append_left
abbrev Ap:=@List.getElem?_set_self
abbrev Aq:=@List.mem_append
abbrev Ar:=@List.getElem?_eq_some_iff
abbrev As:=@List.getElem?_append_right
abbrev Au:=@List.map_cons
abbrev Av:=@List.mem_append_left
abbrev Aw:=@Int.toNat_natCast
abbrev Ax:=@Bool.and_eq_false_iff
abbrev Ay:=@Int.emod_nonneg
abbrev Az:=@Int.emod_lt_of_pos
abbrev AA:=@List.mem_of_getElem?
abbrev AB:=@Bool.false_ne_true
abbrev AD:=@Nat.le_add_right
abbrev AE:=@List.all_cons
abbrev AF:=@List.replicate_succ
abbrev AG:=@List.getD_eq_getElem?_getD
abbrev AH:=@Bool.and_eq_true_iff
abbrev AI:=@Nat.le_trans
abbrev AJ:=@List.getElem?_replicate
abbrev AK:=@List.map_map
abbrev AL:=@List.nodup_cons
abbrev AM:=@List.length_singleton
abbrev AN:=@Nat.lt_irrefl
abbrev AO:=@List.flatten_cons
abbrev AQ:=@List.lookup_cons
abbrev AR:=@List.length_eq_zero_iff
abbrev AS:=@Bool.true_and
abbrev AU:=@List.nil_append
abbrev AV:=@List.length_cons
abbrev AW:=@List.filterMap_cons
abbrev AX:=@List.map_congr_left
abbrev AY:=@List.drop_eq_getElem_cons
abbrev AZ:=@List.getElem?_cons_succ
abbrev B0:=@PySem.Heap.get?_update_other
abbrev B1:=@Nat.zero_le
abbrev B2:=@List.map_id
abbrev B3:=@List.cons_append
abbrev B4:=@List.set_append_right
abbrev B5:=@Nat.ne_of_gt
abbrev B6:=@List.append_nil
abbrev B7:=@List.mem_of_mem_take
abbrev B8:=@List.mem_of_mem_drop
abbrev B9:=@Array.length_toList
abbrev Ba:=@List.length_pos_iff
abbrev Bb:=@Int.toNat_of_nonneg
abbrev Bc:=@Bool.and_false
abbrev Bd:=@List.mem_filterMap
abbrev Be:=@Bool.false_eq_true
abbrev Bf:=@Nat.lt_succ_of_lt
abbrev Bg:=@List.length_take
abbrev Bh:=@List.drop_length
variable {q P:Program} {loose N ps own:List Str} {α β:Type} {us its':List Value} {a b it C t D ea:Addr} {h base h' B:Heap} {items:Array Value} {w:World} {g':Array GenState} {ch A fp A0:List Addr} {i j k n n0:Nat} {x qual:Str} {M:Model} {E Q:Value->Shared->Prop} {u cd pm ct oc cls a0:Value} {s' s:Shared} {e tg iter elt:Expr} {pins:List (Addr×Obj)} {pos pos' p cpos pn p2:Pos} {K:PySem.W.Frag} {body:List Stmt} {lo hi:Option Int} {mg:Str->Option Value} {f:PyData->PyData->Option PyData} {fd:FuncData} {scope:Scope} {outer:List Env} {an od:Option Addr} {osl:Array (Option Value)} {c many span:Int} {YP:World->Heap->Prop} {ns:List Int} {l ds row:List PyData} {st:Stmt} {env:Env} {ifs elts:List Expr} {newId:String} {O:List Nat} {rows:List (List Int)} {y:PyData}
namespace RS
open PySem PySem.W PyProof.Rows
def nj (p:Program) (w:World) (m:Nat) (ann:Option Value):Nat->SharedT->Thread->Option SharedT
 |0,_,_=>none
 |n+1,s,t=>match through t with
  |true=>some s
  |false=>match Fast.tw6613529449190102663 m ann t with
   |false=>none
   |true=>match Fast.tw10156331382660048174 (Fast.tw11892475500146522536 Fast.tw14364793385576792824) p w s t with
    |some x=>nj p w m ann n x.1 x.2
    |none=>none
theorem kX {p:Program} {w:World} {m:Nat} {ann:Option Value}:∀{n:Nat} {s s':SharedT} {t:Thread},nj p w m ann n s t=some s'->topRun treeTable p w m ann n s.abs t=some s'.abs
 |0,_,_,_,h=>by cases h
 |n+1,s,s',t,h=>by
  unfold nj at h;rw[<-Fast.te6613529449190102663,<-Fast.te10156331382660048174,<-Fast.te11892475500146522536,<-Fast.te14364793385576792824]at h;unfold topRun;cases ht:through t with
  |true=>rw[ht]at h;cases h;rfl
  |false =>
   rw[ht]at h;cases hk:stepOk m ann t with
   |false=>rw[hk]at h;cases h
   |true =>
    rw[hk]at h;cases hs:stepT (denote treeTable) p w s t with
    |none=>rw[hs]at h;cases h
    |some x =>rw[hs]at h;rw[stepT_spec (s':=x.1) (t':=x.2) hs];exact kX h
noncomputable def uQ (l:List Obj):BT:=(l.foldl (λx o=>(x.1.ins x.2 o,x.2+1)) (BT.nil,0)).1
def hdS (w:World) (os:OsState):SharedT:=⟨uQ (boot_heap w.params).objs.toList,11,(boot_heap w.params).life,Array.mk [],boot_drawn,boot_toks,os⟩
theorem sx (w:World):(λos=>(hdS w os).abs)=λos=>⟨boot_heap w.params,Array.mk [],boot_drawn,boot_toks,os⟩:=by kernel_rfl
theorem wa (w:World):((boot_heap w.params).isNs mainGlobals&&(Array.mk []:Array GenState).size==0,(boot_heap w.params).objs.size,(boot_heap w.params).nsMap mainGlobals "__annotations__")=(true,11,some (.ref 6)):=by kernel_rfl
def qz (p q:Program) (loose:List Str) (Xt:Shared->Bool) {α:Type} (Yf:Shared->α) (h:Heap) (s:Shared) :=
 (staticsOk (importedModules p.main.body) h s.heap&&namesBound p s.heap&&gensDone s&&laidKept h s.heap,Fast.tw4187177175401517315 q loose (importedModules p.main.body) Xt true s,Yf s)
theorem wj {p:Program} {Xt:Shared->Bool} {Yf:Shared->α} {Ya:World->α} {N M:Nat}
  (e:opening p=plainProg p.main.scope.names) (a:Nat.ble 600 N=true) (f:∀s,fenceModules? p s=some s) (le:Nat.ble M N=true)
  (h:∀w,(λos=>(nj p w 11 (some (.ref 6)) M (hdS w os) (topStub p)).map λs=>qz p q loose Xt Yf (boot_heap w.params) s.abs)=λ_=>some (true,openGood q loose,Ya w)):LeftO p q loose Xt Yf Ya N:=λw=>by
 obtain⟨⟨b,gs,d,k,os⟩,e1,c⟩:=Option.map_eq_some_iff.mp (boot_open e a f w);obtain⟨rfl,rfl,rfl,rfl⟩:b=boot_heap w.params/\gs=Array.mk []/\d=boot_drawn/\k=boot_toks:=by simpa using c
 obtain⟨z1,z2,z3⟩:_/\_/\_:=by simpa only[Prod.mk.injEq] using wa w
 obtain⟨s,g,hv⟩:=Option.map_eq_some_iff.mp (congrFun (h w) os);obtain⟨l1,l2,l3⟩:_/\_/\_:=by simpa only[qz,<-Fast.te4187177175401517315,Prod.mk.injEq] using hv
 have r:=kX g;rw[congrFun (sx w) os]at r;have r:=topRun_mono (N-M) _ _ _ _ r;rw[show M+(N-M)=N by have:=Nat.le_of_ble_eq_true le;omega]at r;unfold openEnds;rw[e1];show (topFrom treeTable p w N _).map _=_;have t:topFrom treeTable p w N ⟨boot_heap w.params,Array.mk [],boot_drawn,boot_toks,os⟩=some s.abs:=by unfold topFrom;dsimp only;rw[z1,z2,z3,r];show (match staticsOk (importedModules p.main.body) (boot_heap w.params) s.abs.heap&&namesBound p s.abs.heap&&gensDone s.abs&&laidKept (boot_heap w.params) s.abs.heap with|true=>_|false=>_)=_;rw[l1]
 rw[t];exact congrArg some (Prod.ext l2 l3)
end RS
section
open PySem PySem.W PyProof.Rows
def RS.vw:Program:=view PySem.Challenge.pw_ranksure_k03_comings [1,2,3,5,6,7,8,9,10,11,12,13,14,15,16,17,19,20,21,22,23,25,26,27,28,29,30,31,32,33,34,35]
local macro_rules | `(tactic| o_head $H)=>`(tactic| (refine holds_open (N:=2784) (Xt:=λs=>xlAt RS.vw [] s&&recOk (RowW.records (OpenRow.toRowW (OpenLaw.row PySem.Challenge.rw_ranksure_k03_comings))) s) (XP:=XL RS.vw []) (q:=RS.vw) (loose:=[]) (Yf:=Hook.obs $H) (Ya:=Hook.val $H) (YP:=Hook.says $H) ?hl (Hook.of $H) (Hook.keeps $H) (λs e=>xl_of s (AH.mp e).1) XL.keeps (by rfl) (by rfl) (by rfl) (λs e=>recFacts_of (AH.mp e).2) (by rfl) (by assumption) (by decide +kernel) ⟨rfl,rfl,rfl,rfl,rfl,by decide +kernel⟩ ?hw ?hc;(case hl=>refine RS.wj (M:=1442) (by kernel_rfl) (by rfl) (by intro s;kernel_rfl) (by rfl) λw=>?_;kernel_rfl)))
set_option maxRecDepth 100000 in
set_option maxHeartbeats 0 in
open_top RS.hdTop for PySem.Challenge.rw_ranksure_k03_comings
end
set_option maxRecDepth 100000
namespace L2
open PySem PySem.Spec PyProof.Rows
variable {g:Int->Int->Int} {o:Obj} {es:List Expr} {f:Addr} {A:Around}
abbrev Key:=Sum Int Str
def uo:Key->Value->Bool
 |.inl k,v=>Value.isInt k v
 |.inr x,v=>Value.isStrOf x v
def wH (w:World):Key->Int
 |.inl k=>hashInt k
 |.inr x=>hashStr w x
theorem bu:∀{k:Key} {v:Value},uo k v=true->(∃i t,k=Sum.inl i/\v=Value.int i t)\/(∃x t,k=Sum.inr x/\v=Value.str x t)
 |.inl i,v,h=>by obtain⟨t,e⟩:=Value.isInt_shape (k:=i) (v:=v) h;exact .inl ⟨i,t,rfl,e⟩
 |.inr x,v,h=>by obtain⟨t,e⟩:=Value.isStrOf_shape (x:=x) (v:=v) h;exact .inr ⟨x,t,rfl,e⟩
theorem uC (a b:Int):decide ((Sum.inl a:Key)=Sum.inl b)=(a==b):=by
 by_cases e:a=b
 ·subst e;simp
 ·have h:¬ (Sum.inl a:Key)=Sum.inl b:=λq=>e (Sum.inl.inj q)
  rw[decide_eq_false h];exact (beq_eq_false_iff_ne.mpr e).symm
theorem we (a b:Str):decide ((Sum.inr a:Key)=Sum.inr b)=decide (a=b):=by
 by_cases e:a=b
 ·subst e;simp
 ·have h:¬ (Sum.inr a:Key)=Sum.inr b:=λq=>e (Sum.inr.inj q)
  rw[decide_eq_false h,decide_eq_false e]
theorem uS (a:Int) (b:Str):decide ((Sum.inl a:Key)=Sum.inr b)=false:=decide_eq_false (λq=>nomatch q)
theorem vQ (a:Str) (b:Int):decide ((Sum.inr a:Key)=Sum.inl b)=false:=decide_eq_false (λq=>nomatch q)
def ni (prog:Program) (w:World):PySem.KeyKind prog w Key where
 is:=uo
 hash:=wH w
 inj:=λv a b ha c=>by
  rcases bu ha with⟨i,t,rfl,rfl⟩|⟨x,t,rfl,rfl⟩
  ·rcases bu c with⟨j,u,rfl,e⟩|⟨y,u,rfl,e⟩
   ·injection e with e1 _;rw[e1]
   ·exact nomatch e
  ·rcases bu c with⟨j,u,rfl,e⟩|⟨y,u,rfl,e⟩
   ·exact nomatch e
   ·injection e with e1 _;rw[e1]
 byValue:=λk v h=>by rcases bu h with⟨i,t,rfl,rfl⟩|⟨x,t,rfl,rfl⟩ <;> rfl
 pyHash:=λhv h=>by
  rcases bu hv with⟨i,t,rfl,rfl⟩|⟨x,t,rfl,rfl⟩
  ·exact wpAny_pyHash_int h
  ·exact wpAny_pyHash_str h
 eqBool:=λf hv h=>by
  rcases bu f with⟨i,t,rfl,rfl⟩|⟨x,t,rfl,rfl⟩
  ·rcases bu hv with⟨j,u,rfl,rfl⟩|⟨y,u,rfl,rfl⟩
   ·rw[uC]at h;exact wpAny_eqBool_int h
   ·rw[uS]at h;exact SeqAt.EqAt.int_str i t y u _ _ _ _ h
  ·rcases bu hv with⟨j,u,rfl,rfl⟩|⟨y,u,rfl,rfl⟩
   ·rw[vQ]at h;exact SeqAt.EqAt.str_int x t j u _ _ _ _ h
   ·rw[we]at h;exact wpAny_eqBool_str h
 «strs»:=λk x t v h=>by
  rcases bu h with⟨i,u,rfl,e⟩|⟨y,u,rfl,e⟩
  ·exact nomatch e
  ·injection e with e1 _
   subst e1;cases v <;> rfl
inductive V where
 |non|bl (b:Bool)|int (i:Int)|str (x:Str)|byt (b:Array UInt8)|flt (b:UInt64)|ref (a:Addr)|ty (n:String)
 deriving DecidableEq
variable {xs:List V}
noncomputable def RelV:V->Value->Prop
 |.non,u=>u=Value.none
 |.bl b,u=>u=Value.bool b
 |.int i,u=>∃t,u=Value.int i t
 |.str x,u=>∃t,u=Value.str x t
 |.byt b,u=>∃t,u=Value.bytes b t
 |.flt b,u=>∃t,u=Value.float b t
 |.ref a,u=>u=Value.ref a
 |.ty n,u=>u=Value.type n
abbrev Vals:List V->List Value->Prop:=Paired RelV
theorem Vals.length (r:Vals xs us):xs.length=us.length:=Paired.length r
theorem Vals.get:∀{xs:List V} {us:List Value} {i:Nat} {x:V},Vals xs us->xs[i]?=some x->∃u,us[i]?=some u/\RelV x u
 |_,_,_,_,.nil,e=>by simp at e
 |_,_,0,_,.cons r _,e=>by simp at e;subst e;exact⟨_,rfl,r⟩
 |_,_,i+1,x,.cons _ t,e=>by obtain⟨u,h1,h2⟩:=Vals.get (i:=i) (x:=x) t (by simpa using e);exact⟨u,by simpa using h1,h2⟩
theorem Vals.set {x:V} {u:Value} (r:RelV x u):∀{xs:List V} {us:List Value} (i:Nat),Vals xs us->Vals (xs.set i x) (us.set i u)
 |_,_,_,.nil=>.nil
 |_,_,0,.cons _ t=>.cons r t
 |_,_,i+1,.cons q t=>.cons q (Vals.set r i t)
theorem Vals.append {ys:List V} {a:List Value} (h:Vals xs us) (s:Vals ys a):Vals (xs++ys) (us++a):=by
 induction h with
 |nil=>exact s
 |cons r t ih=>exact .cons r ih
theorem Vals.take:∀{xs:List V} {us:List Value} (n:Nat),Vals xs us->Vals (xs.take n) (us.take n)
 |_,_,0,_=>.nil
 |_,_,_+1,.nil=>.nil
 |_,_,n+1,.cons r t=>.cons r (Vals.take n t)
theorem Vals.drop:∀{xs:List V} {us:List Value} (n:Nat),Vals xs us->Vals (xs.drop n) (us.drop n)
 |_,_,0,r=>r
 |_,_,_+1,.nil=>.nil
 |_,_,n+1,.cons _ t=>Vals.drop n t
def xQ:Option V->Option Value->Prop
 |some v,some u=>RelV v u
 |none,none=>True
 |_,_=>False
def KV {κ:Type}:List (κ×V)->List (κ×Value)->Prop:=Paired λ(p:κ×V) (q:κ×Value)=>p.1=q.1/\RelV p.2 q.2
def kV:Key->V
 |.inl i=>.int i
 |.inr x=>.str x
inductive HO where
 |lst (xs:List V)
 |tup (xs:List V)
 |dK (kvs:List (Key×V))|dT (kvs:List (List Key×V))
 |set (S:Int->Bool) (n:Nat)
 |ins (C dx:Addr) (fs:List (Str×V))
 |own (x:Addr)
 |xd (fs:List (Str×V))
 |met (f x:Addr)
 |rng (lo hi:Int)
 |frz (o:Obj) (u:HO)
 |tbl (q:Str)
 |ext (φ:Heap->Prop)
abbrev Hp:=Addr->Option HO
variable {R:V->V->Hp->Prop} {H:Hp}
noncomputable def upd (H:Hp) (a:Addr) (o:HO):Hp:=λb=>if b=a then some o else H b
theorem aV {o:HO}:upd H a o a=some o:=by unfold upd;rw[if_pos rfl]
theorem ay {o:HO} (h:b≠a):upd H a o b=H b:=by unfold upd;rw[if_neg h]
theorem az {o:HO} (h:H a=some o) (h':H b=none):a≠b:=by intro e;subst e;rw[h]at h';cases h'
def kg (h:Heap) (a:Addr) (items:Array Value):Prop:=∃o,h.get? a=some o/\o.cls=.type "tuple"/\o.dict=none/\∃n,o.data=.seq items n
theorem kg.tup (x:kg h a items):IsTup h a items:=by obtain⟨o,e,c,_,n,d⟩:=x;exact⟨o,e,c,n,d⟩
theorem kg.new (h:Heap) (items:Array Value):kg (h.push { cls:=.type "tuple",data:=.seq items }) h.objs.size items:=⟨_,Ae _ rfl,rfl,rfl,_,rfl⟩
section
variable (P:Program) (w:World)
def cI (H:Hp) (h:Heap) (a:Addr):HO->Prop
 |.lst xs=>xs.length<=sizeLine/\∃(b:List Value) (n:Nat),Vals xs b/\h.get? a=some { cls:=.type "list",data:=.seq b.toArray n }
 |.tup xs=>xs.length<=sizeLine/\∃b:List Value,Vals xs b/\kg h a b.toArray
 |.dK kvs=>kvs.length<=sizeLine/\(a==sysModules)=false/\∃vs,KV kvs vs/\h.DictOf (ni P w) a vs
 |.dT kvs=>kvs.length<=sizeLine/\(a==sysModules)=false/\∃xs:List (List Key×Addr×Value),
  Paired (λ(p:List Key×V) (q:List Key×Addr×Value)=>p.1=q.1/\H q.2.1=some (.tup (p.1.map kV))/\RelV p.2 q.2.2) kvs xs /\
  ∃o es g,h.get? a=some o/\o.ExactDict/\o.data=.dict es g/\es.toList=xs.map (entryOfKey (tupleKind (ni P w)))/\(xs.map (·.1)).Nodup
 |.set S n=>h.SetOf (intKind P w) a S n
 |.ins C dx fs=>H dx=some (.own a)/\fs.length<=1000/\dx≠a/\h.get? a=some (PySem.W.instObj C dx) /\
  ∃mA,h.Ns1 dx mA/\(∀f,xQ (fs.lookup f) (mA f))/\PySem.Within mA (fs.map (·.1))
 |.own _=>∃o,h.get? a=some o
 |.xd fs=>∃mA,h.Ns1 a mA/\∀f,xQ (fs.lookup f) (mA f)
 |.rng lo hi=>∃t u v,h.get? a=some { cls:=.type "range",data:=.fields #[.int lo t,.int hi u,.int 1 v] }
 |.frz o u=>h.get? a=some o/\cI H h a u
 |.tbl q=>∃ps:Array Value,h.get? a=some { cls:=.none,data:=.fields ps }/\TriplesOk ps.toList/\∀pos e,codeAmong pos ps.toList=some e->∃c o vs t,e=.ref c/\H c=some (.frz o (.own c))/\o.data=.fields vs/\vs[1]?=some (.str q t)
 |.met f x=>h.get? a=some (PySem.W.methodObj (.ref f) (.ref x))
 |.ext φ=>φ h/\(∃o,h.get? a=some o)/\∀h1 h2:Heap,φ h1->(∀o,h1.get? a=some o->h2.get? a=some o)->φ h2
def HOk (H:Hp) (h:Heap):Prop:=∀a o,H a=some o->cI P w H h a o
end
section
variable {H':Hp} {o:HO}
theorem cI.lt (x:cI P w H h a o):a<h.objs.size:=by
 cases o with
 |lst xs=>obtain⟨_,_,_,_,e⟩:=x;exact A9 e
 |tup xs=>obtain⟨_,_,_,p⟩:=x;exact p.tup.lt
 |dK kvs=>obtain⟨_,_,_,_,o,_,_,e,_⟩:=x;exact A9 e
 |dT kvs=>obtain⟨_,_,_,_,o,_,_,e,_⟩:=x;exact A9 e
 |set S n=>obtain⟨o,_,_,_,e,_⟩:=x;exact A9 e
 |ins C dx fs=>obtain⟨_,_,_,e,_⟩:=x;exact A9 e
 |own y=>obtain⟨_,e⟩:=x;exact A9 e
 |xd fs=>obtain⟨_,⟨_,_,_,e,_⟩,_⟩:=x;exact A9 e
 |rng lo hi=>obtain⟨_,_,_,e⟩:=x;exact A9 e
 |frz ob u=>obtain⟨e,_⟩:=x;exact A9 e
 |tbl q=>obtain⟨_,e,_⟩:=x;exact A9 e
 |met f y=>exact A9 (show h.get? a=some _ from x)
 |ext φ=>obtain⟨_,⟨_,e⟩,_⟩:=x;exact A9 e
theorem Paired.mapP {F G:α->β->Prop} {c:List α} {e:List β} (h:Paired F c e) (f:∀a b,F a b->G a b):Paired G c e:=by
 induction h with
 |nil=>exact .nil
 |cons r t ih=>exact .cons (f _ _ r) ih
theorem cI.stay (x:cI P w H h a o) (k:∀b u,(b=a\/H b=some (.own a))->h.get? b=some u->h'.get? b=some u)
  (j:∀b,H b=some (.own a)->H' b=some (.own a)) (l:∀b xs,H b=some (.tup xs)->H' b=some (.tup xs)) (m:∀b o u,H b=some (.frz o u)->H' b=some (.frz o u):=by exact λ_ _ _ q=>q):cI P w H' h' a o:=by
 induction o with
 |lst xs=>obtain⟨z,i,n,r,e⟩:=x;exact⟨z,i,n,r,k _ _ (.inl rfl) e⟩
 |tup xs=>obtain⟨z,i,r,ob,e,c⟩:=x;exact⟨z,i,r,ob,k _ _ (.inl rfl) e,c⟩
 |dK kvs=>obtain⟨z,y,vs,r,ob,es,g,e,c⟩:=x;exact⟨z,y,vs,r,ob,es,g,k _ _ (.inl rfl) e,c⟩
 |dT kvs =>obtain⟨z,y,xs,r,ob,es,g,e,c⟩:=x;exact⟨z,y,xs,Paired.mapP r λp q z=>⟨z.1,l _ _ z.2.1,z.2.2⟩,ob,es,g,k _ _ (.inl rfl) e,c⟩
 |set S n=>obtain⟨ob,es,g,t,e,c⟩:=x;exact⟨ob,es,g,t,k _ _ (.inl rfl) e,c⟩
 |ins C dx fs =>obtain⟨d,z,ne,e,mA,⟨od,es,g,e2,c⟩,r⟩:=x;exact⟨j _ d,z,ne,k _ _ (.inl rfl) e,mA,⟨od,es,g,k _ _ (.inr d) e2,c⟩,r⟩
 |own y=>obtain⟨ob,e⟩:=x;exact⟨ob,k _ _ (.inl rfl) e⟩
 |xd fs=>obtain⟨mA,⟨od,es,g,e,c⟩,r⟩:=x;exact⟨mA,⟨od,es,g,k _ _ (.inl rfl) e,c⟩,r⟩
 |rng lo hi=>obtain⟨t,u,v,e⟩:=x;exact⟨t,u,v,k _ _ (.inl rfl) e⟩
 |frz ob u ih=>obtain⟨e,q⟩:=x;exact⟨k _ _ (.inl rfl) e,ih q⟩
 |tbl q =>obtain⟨ps,e,t,c⟩:=x;exact⟨ps,k a _ (.inl rfl) e,t,λpos s z=>by obtain⟨A,o,vs,t',e1,e2,B⟩:=c pos s z;exact⟨A,o,vs,t',e1,m _ _ _ e2,B⟩⟩
 |met f y =>have e:h.get? a=some (PySem.W.methodObj (.ref f) (.ref y)):=x;show h'.get? a=some (PySem.W.methodObj (.ref f) (.ref y));exact k a _ (.inl rfl) e
 |ext φ=>obtain⟨p,⟨o,e⟩,st⟩:=x;exact⟨st _ _ p λo q=>k _ _ (.inl rfl) q,⟨o,k _ _ (.inl rfl) e⟩,st⟩
theorem HOk.lt (x:HOk P w H h) (e:H a=some o):a<h.objs.size:=(x a o e).lt
theorem HOk.fresh (x:HOk P w H h) (e:h.objs.size<=a):H a=none:=by
 cases q:H a with
 |none=>rfl
 |some u=>exact absurd (A8 (x.lt q) e) (AN _)
theorem HOk.kept (x:HOk P w H h) (k:∀b u,h.get? b=some u->h'.get? b=some u):HOk P w H h':=λa o e =>
 (x a o e).stay (λb u _ q=>k b u q) (λ_ q=>q) λ_ _ q=>q
theorem HOk.laid (x:HOk P w H h) (k:∀b u,h.get? b=some u->h'.get? b=some u) (f:h.objs.size<=a) (new:cI P w (upd H a o) h' a o):HOk P w (upd H a o) h':=λb u e=>by
 have hn:=x.fresh f;by_cases hb:b=a
 ·subst hb;rw[aV]at e;cases e;exact new
 ·rw[ay hb]at e;exact (x b u e).stay (λc v _ q=>k c v q) (λc q=>by rw[ay (az q hn)];exact q) (λc xs q=>by rw[ay (az q hn)];exact q) λc ob w' q=>by rw[ay (az q hn)];exact q
end
def Rd (H:Hp) (a:Addr) (u:HO):Prop:=H a=some u\/∃o,H a=some (.frz o u)
theorem Rd.ok {u:HO} (r:Rd H a u) (x:HOk P w H h):cI P w H h a u:=by
 rcases r with r|⟨o,r⟩
 ·exact x a u r
 ·obtain⟨_,q⟩:=x a _ r;exact q
def Mut:Option HO->Prop
 |some (.lst _)=>True
 |some (.dK _)=>True
 |some (.dT _)=>True
 |some (.set _ _)=>True
 |some (.ins _ _ _)=>True
 |some (.ext _)=>True
 |_=>False
section
variable {x e:Addr} {o':HO}
theorem HOk.write (ok:HOk P w H h) (f:Mut (H x)) (l:e=x\/H e=some (.own x)) (k:∀b u,b≠e->h.get? b=some u->h'.get? b=some u) (j:∃u,h'.get? e=some u)
  (new:cI P w (upd H x o') h' x o'):HOk P w (upd H x o') h':=λb u q=>by
 have a:∀c y,H c=some (.own y)->c≠x:=λc y r z=>by subst z;rw[r]at f;exact f
 have g:∀c xs,H c=some (.tup xs)->c≠x:=λc xs r z=>by subst z;rw[r]at f;exact f
 have i:∀c o u,H c=some (.frz o u)->c≠x:=λc o u r z=>by subst z;rw[r]at f;exact f
 by_cases hb:b=x
 ·subst hb;rw[aV]at q;cases q;exact new
 ·rw[ay hb]at q;by_cases hbe:b=e
  ·have m:H b=some (.own x):=by
    rcases l with z|z
    ·exact absurd (hbe.trans z) hb
    ·rw[hbe];exact z
   rw[q]at m;cases m;obtain⟨v,hv⟩:=j;exact⟨v,by rw[hbe];exact hv⟩
  ·refine (ok b u q).stay (λc v hc r=>k c v ?_ r) (λc r=>by rw[ay (a c b r)];exact r) (λc xs r=>by rw[ay (g c xs r)];exact r) λc o n r=>by rw[ay (i c o n r)];exact r
   rcases hc with rfl|hc
   ·exact hbe
   ·rintro rfl
    rcases l with z|z
    ·exact a c b hc z
    ·rw[hc]at z;cases z;exact hb rfl
end
structure Un (fs ex:List Addr) (H H':Hp) (h h':Heap):Prop where
 keep:∀b o,h.get? b=some o->H b=none->b∉fs->b∉ex->h'.get? b=some o
 slot:∀b o,h.get? b=some o->H b=none->b∈fs->b∉ex->∃sl,h'.get? b=some { o with slots:=sl }
 free:∀b o,h.get? b=some o->H b=none->b∉ex->H' b=none
 there:∀b o,h.get? b=some o->b∉ex->∃o',h'.get? b=some o'
 tups:∀b xs,H b=some (.tup xs)->H' b=some (.tup xs)
 frzs:∀b o u,H b=some (.frz o u)->H' b=some (.frz o u)
 tbls:∀b q,H b=some (.tbl q)->H' b=some (.tbl q)
section
variable {fs fs' ex ex':List Addr} {H1 H2:Hp} {h1 h2:Heap} {x e:Addr} {o:HO}
theorem Un.any (u:Un fs ex H H1 h h1) {ob:Obj} (q:h.get? b=some ob) (n:H b=none) (a:b∉ex):∃c,h1.get? b=some { ob with slots:=c }:=by
 by_cases hb:b∈fs
 ·exact u.slot b ob q n hb a
 ·exact⟨ob.slots,u.keep b ob q n hb a⟩
theorem Un.kept (k:∀b u,h.get? b=some u->h'.get? b=some u):Un fs ex H H h h' :=
 ⟨λb ob q _ _ _=>k b ob q,λb ob q _ _ _=>⟨ob.slots,k b ob q⟩,λ_ _ _ n _=>n,λb ob q _=>⟨ob,k b ob q⟩,λ_ _ q=>q,λ_ _ _ q=>q,λ_ _ q=>q⟩
theorem Un.refl:Un fs ex H H h h:=Un.kept λ_ _ q=>q
theorem Un.laid (k:∀b u,h.get? b=some u->h'.get? b=some u) (c:h.objs.size<=a) (hn:H a=none):Un fs ex H (upd H a o) h h' where
 keep:=λb u q _ _ _=>k b u q
 slot:=λb u q _ _ _=>⟨u.slots,k b u q⟩
 free:=λb u q n _=>by rw[ay (Af (A8 (A9 q) c))];exact n
 there:=λb u q _=>⟨u,k b u q⟩
 tups:=λb xs q=>by rw[ay (az q hn)];exact q
 frzs:=λb u xs q=>by rw[ay (az q hn)];exact q
 tbls:=λb ps q=>by rw[ay (az q hn)];exact q
theorem Un.write (a:Mut (H x)) (i:e=x\/H e=some (.own x)) (k:∀b u,b≠e->h.get? b=some u->h'.get? b=some u) (c:∃u,h'.get? e=some u):Un fs ex H (upd H x o) h h':=by
 have f:∀b,H b=none->b≠x:=λb n z=>by subst z;rw[n]at a;exact a
 have g:∀b,H b=none->b≠e:=λb n z=>by
  subst z;rcases i with r|r
  ·exact f b n r
  ·rw[n]at r;cases r
 have hm:∀b u,H b=some u->¬ Mut (some u)->b≠x:=λb u q nm z=>by subst z;rw[q]at a;exact nm a
 refine⟨λb u q n _ _=>k b u (g b n) q,λb u q n _ _=>⟨u.slots,k b u (g b n) q⟩,λb u q n _=>by rw[ay (f b n)];exact n,λb u q _=>?_,
  λb xs q=>by rw[ay (hm b _ q λz=>z)];exact q,λb u xs q=>by rw[ay (hm b _ q λz=>z)];exact q,λb ps q=>by rw[ay (hm b _ q λz=>z)];exact q⟩
 by_cases hbe:b=e
 ·subst hbe;exact c
 ·exact⟨u,k b u hbe q⟩
end
noncomputable def trk (h:Heap) (H:Hp):List Addr:=(List.range h.objs.size).filter λa=>(H a).isSome
def ju (h:Heap) (H:Hp):Heap:=PySem.W.hideAll h (trk h H)
theorem nX (h:Heap) (H:Hp):(ju h H).objs.size=h.objs.size:=PySem.W.hideAll_size _ _
theorem qx (e:h.get? b=some o) (n:H b=none):(ju h H).get? b=some o :=
 PySem.W.hideAll_get _ e λhm=>by have q:(H b).isSome=true:=(List.mem_filter.mp hm).2;rw[n]at q;simp at q
theorem tD (e:(ju h H).get? b=some o):h.get? b=some o/\H b=none:=by
 have a:h.get? b=some o:=PySem.W.of_hideAll (trk h H) e;refine⟨a,?_⟩;cases q:H b with
 |none=>rfl
 |some x =>have hm:b∈trk h H:=List.mem_filter.mpr ⟨List.mem_range.mpr (A9 a),by simp[q]⟩;have z:(ju h H).get? b=none:=PySem.W.hideAll_none (trk h H) hm;rw[z]at e;cases e
structure Mod (K:PySem.W.Frag) (mg:Str->Option Value) (base:Heap):Prop where
 kin:K.In base
 glob:base.Ns mainGlobals mg
 blt:∃mb,base.Ns builtinsNs mb/\∀x:Str,x≠"__name__"->mb x=bootBuiltins x
 nolimit:base.NoLimit
def nv:List Str:=["picked"]
def TabOf (K:PySem.W.Frag) (P:Addr) (q:Str):Prop:=∃x∈nv,∃f oc od fd a c,PySem.W.nsIn K mainGlobals x=some (some (.ref f))/\K.lookup f=some ⟨oc,od,.func fd,a⟩/\fd.code=.ref c/\(∃o vs,K.lookup c=some o/\o.data=.fields vs/\vs[11]?=some (.ref P))/\q=x++".<locals>.<lambda>"
structure Cx where
 prog:Program
 w:World
 K:PySem.W.Frag
 mg:Str->Option Value
 base:Heap
 A:Around
 N:List Str
 s₀:Shared
 H₀:Hp
 env:Env
 outer:List Env
 stack:List Env
 ex:List Addr
 fn:Str->Bool
 calm:Bool
 pn:List (Addr×Obj)
 xe:Value->Shared->Prop
variable {X:Cx}
def frs (l:List Env):List Addr:=l.filterMap (·.frame)
abbrev Cx.fs (X:Cx):List Addr:=frs X.outer
def Vis (sc:Scope) (x:Str):Prop:=sc.names.lookup x=some .local\/sc.names.lookup x=some .cell\/sc.names.lookup x=some .free
def Loc (sc:Scope) (x:Str):Prop:=sc.names.lookup x=some .local\/sc.names.lookup x=some .cell
def Look (env:Env) (h:Heap) (m:Str->Option Value) (x:Str) (u:Value):Prop :=
 (env.kindOf x=some .local/\m x=some u)\/((env.kindOf x=some .cell\/env.kindOf x=some .free)/\∃c,env.cells.lookup x=some c/\h.IsCell c (some u))
structure Cx.Ok (X:Cx):Prop where
 mod:Mod X.K X.mg X.base
 kind:X.env.scope.kind=.function
 glob:X.env.globals=mainGlobals
 blt:X.env.builtins=builtinsNs
 above:X.s₀.heap.objs.size<=X.env.locals
 inj:∀x y c,X.env.cells.lookup x=some c->X.env.cells.lookup y=some c->x=y
 has:∀x,(X.env.kindOf x=some .cell\/X.env.kindOf x=some .free)->∃c,X.env.cells.lookup x=some c
 cab:∀x c,X.fn x=true->X.env.cells.lookup x=some c->X.s₀.heap.objs.size<=c
 hd:X.calm=true->X.A.handled=none
 frames:X.A.frames=some X.stack
 stk:X.stack=X.outer\/(X.stack=X.env::X.outer/\X.env.frame=some X.env.locals)
 exf:∀b∈X.ex,b≠X.env.locals/\∀x c,X.env.cells.lookup x=some c->c≠b
 bs:∀b o,X.base.get? b=some o->X.s₀.heap.get? b=some o/\X.H₀ b=none
 bsz:X.base.objs.size<=X.s₀.heap.objs.size
 noex:∀b o,X.base.get? b=some o->b∉X.ex
 exfs:∀b∈X.ex,b∉X.fs
 funs:X.s₀.heap.FunFrames X.base X.outer
 frf:∀b∈X.fs,X.H₀ b=none
structure Inv (X:Cx) (pins:List (Addr×Obj)) (σ:List (Option V)) (H:Hp) (s:Shared):Prop where
 ok:X.Ok
 os:s.os=X.s₀.os
 bare:AllBare s.gens
 base:Un X.fs X.ex X.H₀ H X.s₀.heap s.heap
 loc:∃m,s.heap.Ns X.env.locals m/\∀(i:Nat) (x:Str) (v:V),X.N[i]?=some x->σ[i]?=some (some v)->Vis X.env.scope x->∃u,RelV v u/\Look X.env s.heap m x u
 cell:∀x c,X.env.cells.lookup x=some c->∃v,s.heap.IsCell c v
 free:H X.env.locals=none
 freeC:∀x c,X.env.cells.lookup x=some c->H c=none
 pin:∀p∈X.pn++pins,s.heap.get? p.1=some p.2/\H p.1=none/\p.1≠X.env.locals/\p.1∉X.fs/\∀v,p.2.data≠.cell v
 hok:HOk X.prog X.w H s.heap
 len:σ.length=X.N.length
 tab:∀P q,TabOf X.K P q->H P=some (.tbl q)
section
variable {σ:List (Option V)} {H':Hp}
theorem Cx.Ok.nofr (ok:X.Ok) (e:X.base.get? b=some o):b∉X.fs:=λa=>by have:=(ok.funs.mem a).1;rw[e]at this;cases this
theorem Inv.bs (I:Inv X pins σ H s):∀b o,X.base.get? b=some o->s.heap.get? b=some o/\H b=none:=λb o e =>
 ⟨I.base.keep b o (I.ok.bs b o e).1 (I.ok.bs b o e).2 (I.ok.nofr e) (I.ok.noex b o e),I.base.free b o (I.ok.bs b o e).1 (I.ok.bs b o e).2 (I.ok.noex b o e)⟩
theorem Inv.bk (I:Inv X pins σ H s):∀b o,X.base.get? b=some o->s.heap.get? b=some o:=λb o e=>(I.bs b o e).1
theorem Inv.mod (I:Inv X pins σ H s):Mod X.K X.mg X.base:=I.ok.mod
theorem Inv.kIn (I:Inv X pins σ H s):X.K.In s.heap:=I.ok.mod.kin.keeps I.bk
theorem Inv.lt (I:Inv X pins σ H s):X.env.locals<s.heap.objs.size:=let ⟨_,hn,_⟩:=I.loc;hn.lt
theorem Inv.sz (I:Inv X pins σ H s):X.s₀.heap.objs.size<=s.heap.objs.size:=AI I.ok.above (Nat.le_of_lt I.lt)
theorem Inv.nofs (I:Inv X pins σ H s) (h:s.heap.objs.size<=a):a∉X.fs:=λb=>by obtain⟨_,o,c,_⟩:=I.ok.funs.mem b;exact absurd (A8 (A9 c) (AI I.sz h)) (AN _)
theorem Inv.cne (I:Inv X pins σ H s):∀x c,X.env.cells.lookup x=some c->c≠X.env.locals:=λx c e z=>by obtain⟨v,o,f,hd⟩:=I.cell x c e;obtain⟨m,⟨o',es,ep,a,b,_⟩,_⟩:=I.loc;rw[z,a]at f;cases f;rw[b]at hd;cases hd
theorem Inv.funs (I:Inv X pins σ H s):s.heap.FunFrames X.base X.outer:=by
 have all:∀(l:List Env),(∀b∈frs l,b∈X.fs)->X.s₀.heap.FunFrames X.base l->s.heap.FunFrames X.base l:=by
  intro l
  induction l with
  |nil=>intro _ _;trivial
  |cons env r ih =>
   intro g hl;obtain⟨h,⟨L,o,a,hn,i,hd⟩,j⟩:=hl;have c:L∈X.fs:=g L (by unfold frs;rw[AW,a];exact Ad);obtain⟨sl,e⟩:=I.base.slot L o i (I.ok.frf L c) c λz=>I.ok.exfs L z c
   exact⟨h,⟨L,_,a,hn,e,hd⟩,ih (λb f=>g b (by unfold frs;rw[AW,a];exact Ab _ f)) j⟩
 exact all X.outer (λ_ f=>f) I.ok.funs
theorem Inv.stack (I:Inv X pins σ H s):s.heap.FunFrames X.base X.stack:=by
 rcases I.ok.stk with e|⟨e,a⟩
 ·rw[e];exact I.funs
 ·rw[e];obtain⟨m,hn,_⟩:=I.loc;refine .cons (by rw[I.ok.kind];decide) a hn ?_ I.funs;exact Heap.get?_none_of_le (AI I.ok.bsz I.ok.above)
theorem Inv.stkSub (I:Inv X pins σ H s):∀b∈frs X.stack,b∈X.env.locals::X.fs:=λb a=>by
 rcases I.ok.stk with e|⟨e,c⟩
 ·rw[e]at a;exact Ab _ a
 ·rw[e]at a;unfold frs at a;rw[AW,c]at a;exact a
theorem Inv.stkFree (I:Inv X pins σ H s):∀b∈frs X.stack,H b=none:=λb a=>by
 rcases Aa.mp (I.stkSub b a) with e|a
 ·rw[e];exact I.free
 ·obtain⟨_,o,c,_⟩:=I.ok.funs.mem a;exact I.base.free b o c (I.ok.frf b a) λz=>I.ok.exfs b z a
theorem Inv.step {t':Nat} {d':Drawn} (I:Inv X pins σ H s)
  (f:∀b∈ch,(b∈X.ex\/X.s₀.heap.objs.size<=b)/\b≠X.env.locals/\(∀x c,X.env.cells.lookup x=some c->c≠b)/\∀p∈X.pn++pins,p.1≠b)
  (keep:∀b o,b≠X.env.locals->b∉X.fs->b∉ch->s.heap.get? b=some o->H b=none->h'.get? b=some o)
  (slot:∀b o,b≠X.env.locals->b∈X.fs->b∉ch->s.heap.get? b=some o->H b=none->∃B,h'.get? b=some { o with slots:=B }) (free:∀b o,b∉ch->s.heap.get? b=some o->H b=none->H' b=none)
  (there:∀b o,b∉ch->s.heap.get? b=some o->∃o',h'.get? b=some o')
  (tups:∀b xs,H b=some (.tup xs)->H' b=some (.tup xs)) (frzs:∀b o u,H b=some (.frz o u)->H' b=some (.frz o u)) (tbls:∀b q,H b=some (.tbl q)->H' b=some (.tbl q))
  (ns:∀m,s.heap.Ns X.env.locals m->h'.Ns X.env.locals m) (hok:HOk X.prog X.w H' h') (G:AllBare g') :
  Inv X pins σ H' { s with heap:=h',gens:=g',drawn:=d',toks:=t' }:=by
 have A:∀b o,X.s₀.heap.get? b=some o->b≠X.env.locals:=λb o e=>Af (A8 (A9 e) I.ok.above)
 have h:∀b o,X.s₀.heap.get? b=some o->b∉X.ex->b∉ch:=λb o e a j=>by
  rcases (f b j).1 with z|z
  ·exact a z
  ·exact absurd (A8 (A9 e) z) (AN _)
 have cellK:∀x c,X.env.cells.lookup x=some c->∀v,s.heap.IsCell c v->h'.IsCell c v:=λx c e v C=>by
  obtain⟨o,y,hd⟩:=C;have g:c∉ch:=λz=>(f c z).2.2.1 x c e rfl
  by_cases hc:c∈X.fs
  ·obtain⟨B,q⟩:=slot c o (I.cne x c e) hc g y (I.freeC x c e);exact⟨_,q,hd⟩
  ·exact⟨o,keep c o (I.cne x c e) hc g y (I.freeC x c e),hd⟩
 refine⟨I.ok,I.os,G,⟨λb o e n j a=>?_,λb o e n j a=>?_,λb o e n a=>?_,λb o e a=>?_,λb xs e=>tups b xs (I.base.tups b xs e),λb o xs e=>frzs b o xs (I.base.frzs b o xs e),λb ps e=>?_⟩,?_,λx c e=>?_,?_,λx c e=>?_,λp E=>?_,hok,I.len,λP q t=>tbls P q (I.tab P q t)⟩
 ·exact keep b o (A b o e) j (h b o e a) (I.base.keep b o e n j a) (I.base.free b o e n a)
 ·obtain⟨B,e1⟩:=I.base.slot b o e n j a;obtain⟨D,e2⟩:=slot b _ (A b o e) j (h b o e a) e1 (I.base.free b o e n a);exact⟨D,e2⟩
 ·obtain⟨o',e1⟩:=I.base.there b o e a;exact free b o' (h b o e a) e1 (I.base.free b o e n a)
 ·obtain⟨o',e1⟩:=I.base.there b o e a;exact there b o' (h b o e a) e1
 ·exact tbls b _ (I.base.tbls b ps e)
 ·obtain⟨m,hn,hl⟩:=I.loc;refine⟨m,ns m hn,λi x v e1 e2 J=>?_⟩;obtain⟨u,r,l⟩:=hl i x v e1 e2 J;refine⟨u,r,?_⟩;rcases l with l|⟨k,c,e,z⟩
  ·exact .inl l
  ·exact .inr ⟨k,c,e,cellK x c e _ z⟩
 ·obtain⟨v,z⟩:=I.cell x c e;exact⟨v,cellK x c e v z⟩
 ·obtain⟨m,⟨o,_,_,y,_⟩,_⟩:=I.loc;exact free _ o (λz=>(f _ z).2.1 rfl) y I.free
 ·obtain⟨v,o,y,hd⟩:=I.cell x c e;exact free c o (λz=>(f c z).2.2.1 x c e rfl) y (I.freeC x c e)
 ·obtain⟨e,n,ne,F,d⟩:=I.pin p E;have g:p.1∉ch:=λz=>(f p.1 z).2.2.2 p E rfl
  exact⟨keep p.1 p.2 ne F g e n,free p.1 p.2 g e n,ne,F,d⟩
theorem Inv.un {t':Nat} (I:Inv X pins σ H s) (u:Un X.fs [] H H' s.heap h') (hok:HOk X.prog X.w H' h'):Inv X pins σ H' { s with heap:=h',toks:=t' }:=by obtain⟨m,⟨o,es,ep,h,r⟩,_⟩:=id I.loc;obtain⟨sl,i⟩:=u.any h I.free (by simp);exact I.step (g':=s.gens) (d':=s.drawn) (ch:=[]) (λ_ z=>nomatch z) (λb o _ c _ e n=>u.keep b o e n c (by simp)) (λb o _ c _ e n=>u.slot b o e n c (by simp)) (λb o _ e n=>u.free b o e n (by simp)) (λb o _ e=>u.there b o e (by simp)) u.tups u.frzs u.tbls (λm' hm=>by obtain⟨o',f,g,a,j⟩:=hm;rw[h]at a;cases a;exact⟨_,f,g,i,j⟩) hok I.bare
theorem Inv.call {t':Nat} {d':Drawn} (I:Inv X pins σ H s) (u:Un (frs X.stack) ch H H' s.heap h') (hok:HOk X.prog X.w H' h') (k:AllBare g')
  (a:∀b∈ch,(b∈X.ex\/X.s₀.heap.objs.size<=b)/\b≠X.env.locals/\(∀x c,X.env.cells.lookup x=some c->c≠b)/\∀p∈X.pn++pins,p.1≠b) :
  Inv X pins σ H' { s with heap:=h',gens:=g',drawn:=d',toks:=t' }:=by
 obtain⟨m,⟨o,es,ep,j,r⟩,_⟩:=id I.loc;obtain⟨sl,g⟩:=u.any j I.free λz=>(a _ z).2.1 rfl
 exact I.step (ch:=ch) a (λb o g l hc e n=>u.keep b o e n (λz=>(Aa.mp (I.stkSub b z)).elim g l) hc) (λb o _ _ hc e n=>u.any e n hc) (λb o hc e n=>u.free b o e n hc) (λb o hc e=>u.there b o e hc) u.tups u.frzs u.tbls (λm' hm=>by obtain⟨o',h,i,f,q⟩:=hm;rw[j]at f;cases f;exact⟨_,h,i,g,q⟩) hok k
theorem Inv.turned {t':Nat} (I:Inv X pins σ H s) (k:∀b o,b≠it->s.heap.get? b=some o->h'.get? b=some o) (hn:H it=none) (f:it≠X.env.locals)
  (h1:it∈X.ex\/X.s₀.heap.objs.size<=it) (h2:∀x c,X.env.cells.lookup x=some c->c≠it) (g:∀p∈X.pn++pins,p.1≠it):Inv X pins σ H { s with heap:=h',toks:=t' }:=by
 have a:∀b u,H b=some u->b≠it:=λb u e z=>by rw[z,hn]at e;cases e
 refine I.step (g':=s.gens) (d':=s.drawn) (ch:=[it]) (λb h=>?_) (λb o _ _ hc e _=>k b o (λz=>hc (by simp[z])) e) (λb o _ _ hc e _=>⟨o.slots,k b o (λz=>hc (by simp[z])) e⟩) (λ_ _ _ _ n=>n)
  (λb o hc e=>⟨o,k b o (λz=>hc (by simp[z])) e⟩) (λ_ _ e=>e) (λ_ _ _ e=>e) (λb ps e=>e) (λm hm=>?_) (λb u e=>?_) I.bare
 ·have e:b=it:=by simpa using h
  subst e;exact⟨h1,f,h2,g⟩
 ·obtain⟨o,es,i,j,r⟩:=hm;exact⟨o,es,i,k _ o (Ne.symm f) j,r⟩
 ·refine (I.hok b u e).stay (λc v hc q=>k c v ?_ q) (λ_ q=>q) λ_ _ q=>q
  rcases hc with z|z
  ·rw[z];exact a b u e
  ·exact a c _ z
theorem Inv.tok (I:Inv X pins σ H s) (t:Nat):Inv X pins σ H { s with toks:=t }:=I.un (h':=s.heap) (t':=t) Un.refl I.hok
theorem Inv.kept {t':Nat} (I:Inv X pins σ H s) (k:∀b u,s.heap.get? b=some u->h'.get? b=some u):Inv X pins σ H { s with heap:=h',toks:=t' }:=I.un (Un.kept k) (I.hok.kept k)
theorem Inv.laid {o:HO} {t':Nat} (I:Inv X pins σ H s) (k:∀b u,s.heap.get? b=some u->h'.get? b=some u) (c:s.heap.objs.size<=a) (new:cI X.prog X.w (upd H a o) h' a o) :
 Inv X pins σ (upd H a o) { s with heap:=h',toks:=t' }:=I.un (Un.laid k c (I.hok.fresh c)) (I.hok.laid k c new)
theorem Inv.write {x e:Addr} {o:HO} {t':Nat} (I:Inv X pins σ H s) (c:Mut (H x)) (f:e=x\/H e=some (.own x)) (k:∀b u,b≠e->s.heap.get? b=some u->h'.get? b=some u) (a:∃u,h'.get? e=some u)
 (new:cI X.prog X.w (upd H x o) h' x o):Inv X pins σ (upd H x o) { s with heap:=h',toks:=t' }:=I.un (Un.write c f k a) (I.hok.write c f k a new)
theorem Inv.pins_of {a:List (Addr×Obj)} (I:Inv X pins σ H s) (h:∀p∈a,s.heap.get? p.1=some p.2/\H p.1=none/\p.1≠X.env.locals/\p.1∉X.fs/\∀v,p.2.data≠.cell v):Inv X a σ H s :=
 ⟨I.ok,I.os,I.bare,I.base,I.loc,I.cell,I.free,I.freeC,λp b=>(Aq.mp b).elim (λz=>I.pin p (Av _ z)) (h p),I.hok,I.len,I.tab⟩
theorem lE (c:N.Nodup) (a:N[i]?=some x) (b:N[j]?=some x):i=j:=by obtain⟨h1,e1⟩:=Ar.mp a;obtain⟨h2,e2⟩:=Ar.mp b;exact (List.getElem_inj c).mp (e1.trans e2.symm)
theorem jS {v:V} {Q:Unit->Shared->Prop} (I:Inv X pins σ H s) (hN:X.N.Nodup) (hi:X.N[i]?=some x) (g:Loc X.env.scope x) (r:RelV v u)
  (h:∀s',Inv X pins (σ.set i (some v)) H s'->(∃a,Heap.SameBut a s.heap s'.heap/\(a=X.env.locals\/X.env.cells.lookup x=some a))->Q () s') (hf:X.fn x=true\/X.env.scope.names.lookup x=some .local:=by first|exact .inl rfl|exact .inr rfl|assumption):wpAny M A (storeName X.env x u) Q E s:=by
 obtain⟨m,hn,hl⟩:=id I.loc;have F:(X.env.scope.kind==.class||(X.env.scope.kind==.module&&X.env.locals != X.env.globals))=false:=by rw[I.ok.kind];rfl
 have t:i<σ.length:=by rw[I.len];exact (Ar.mp hi).1
 have cne:=I.cne;have tracked:∀{a:Addr} {h':Heap},(∃o,s.heap.get? a=some o/\H a=none)->Heap.SameBut a s.heap h'->HOk X.prog X.w H h':=λ{a h'} ha f b ob e=>by
  obtain⟨_,_,l⟩:=ha;refine (I.hok b ob e).stay (λc L hc q=>(f.2 c ?_).trans q) (λ_ q=>q) λ_ _ q=>q
  rintro rfl
  rcases hc with rfl|hc
  ·rw[l]at e;cases e
  ·rw[l]at hc;cases hc
 rcases g with B|B
 ·refine wpAny_storeName_local B hn (λh' P f=>?_) F;obtain⟨oL,_,_,R,_⟩:=id hn;refine h _ ⟨I.ok,I.os,I.bare,⟨λb o e n C g=>?_,λb o e n C g=>?_,I.base.free,λb o e g=>?_,I.base.tups,I.base.frzs,I.base.tbls⟩,⟨_,P,λj y S e1 e2 T=>?_⟩,λy c e=>?_,I.free,I.freeC,λp U=>?_,tracked ⟨oL,R,I.free⟩ f,by simpa using I.len,I.tab⟩ ⟨_,f,.inl rfl⟩
  ·exact (f.2 b (Af (A8 (A9 e) I.ok.above))).trans (I.base.keep b o e n C g)
  ·obtain⟨W,e1⟩:=I.base.slot b o e n C g;exact⟨W,(f.2 b (Af (A8 (A9 e) I.ok.above))).trans e1⟩
  ·obtain⟨o',e1⟩:=I.base.there b o e g;exact⟨o',(f.2 b (Af (A8 (A9 e) I.ok.above))).trans e1⟩
  ·by_cases hj:j=i
   ·subst hj;rw[hi]at e1;cases e1;rw[Ap t]at e2;cases e2;exact⟨u,r,.inl ⟨B,by simp⟩⟩
   ·rw[Am (Ne.symm hj)]at e2;obtain⟨Y,Z,q⟩:=hl j y S e1 e2 T;refine⟨Y,Z,?_⟩;rcases q with⟨k,e⟩|⟨k,c,e,z⟩
    ·refine .inl ⟨k,?_⟩;have:y≠x:=λe=>hj (lE hN e1 (e▸hi))
     simp[this,e]
    ·exact .inr ⟨k,c,e,z.sameBut f (cne y c e)⟩
  ·obtain⟨L,z⟩:=I.cell y c e;exact⟨L,z.sameBut f (cne y c e)⟩
  ·obtain⟨e,n,ne,nf,d⟩:=I.pin p U;exact⟨(f.2 p.1 ne).trans e,n,ne,nf,d⟩
 ·have D:X.fn x=true:=by
   rcases hf with z|z
   ·exact z
   ·rw[z]at B;cases B
  obtain⟨c,hc⟩:=I.ok.has x (.inl B);obtain⟨L,z⟩:=I.cell x c hc;refine wpAny_storeName_cell I.ok.kind B hc z (λh' G f=>?_);obtain⟨oc,J,K⟩:=id z;refine h { s with heap:=h' } ⟨I.ok,I.os,I.bare,⟨λb o e n C g=>?_,λb o e n C g=>?_,I.base.free,λb o e g=>?_,I.base.tups,I.base.frzs,I.base.tbls⟩,⟨m,hn.sameBut f (Ne.symm (cne x c hc)),λj y S e1 e2 T=>?_⟩,λy O e=>?_,I.free,I.freeC,λp U=>?_,tracked ⟨oc,J,I.freeC x c hc⟩ f,by simpa using I.len,I.tab⟩ ⟨c,f,.inr hc⟩
  ·exact (f.2 b (Af (A8 (A9 e) (I.ok.cab x c D hc)))).trans (I.base.keep b o e n C g)
  ·obtain⟨W,e1⟩:=I.base.slot b o e n C g;exact⟨W,(f.2 b (Af (A8 (A9 e) (I.ok.cab x c D hc)))).trans e1⟩
  ·obtain⟨o',e1⟩:=I.base.there b o e g;exact⟨o',(f.2 b (Af (A8 (A9 e) (I.ok.cab x c D hc)))).trans e1⟩
  ·by_cases hj:j=i
   ·subst hj;rw[hi]at e1;cases e1;rw[Ap t]at e2;cases e2;exact⟨u,r,.inr ⟨.inl B,c,hc,G⟩⟩
   ·rw[Am (Ne.symm hj)]at e2;obtain⟨Y,Z,q⟩:=hl j y S e1 e2 T;refine⟨Y,Z,?_⟩;rcases q with q|⟨k,O,e,z'⟩
    ·exact .inl q
    ·refine .inr ⟨k,O,e,z'.sameBut f ?_⟩
     rintro rfl
     exact hj (lE hN e1 (I.ok.inj _ _ _ e hc▸hi))
  ·by_cases hcc:O=c
   ·subst hcc;exact⟨_,G⟩
   ·obtain⟨w2,z2⟩:=I.cell y O e;exact⟨w2,z2.sameBut f hcc⟩
  ·obtain⟨e,n,ne,nf,d⟩:=I.pin p U;refine⟨(f.2 p.1 ?_).trans e,n,ne,nf,d⟩;intro q;rw[q,J]at e;have q':oc=p.2:=Option.some.inj e;exact d L (by rw[<-q'];exact K)
theorem iZ {v:V} {Q:Unit->Shared->Prop} (I:Inv X pins σ H s) (a:X.N.Nodup) (hi:X.N[i]?=some x) (b:Loc X.env.scope x) (r:RelV v u)
  (h:∀s',Inv X pins (σ.set i (some v)) H s'->Q () s') (c:X.fn x=true\/X.env.scope.names.lookup x=some .local:=by first|exact .inl rfl|exact .inr rfl|assumption):wpAny M A (storeName X.env x u) Q E s :=
 jS I a hi b r (λs' e _=>h s' e) c
theorem Inv.call' (I:Inv X pins σ H s) (f:s'.os=s.os) (u:Un (frs X.stack) ch H H' s.heap s'.heap) (hok:HOk X.prog X.w H' s'.heap) (g:AllBare s'.gens)
  (a:∀b∈ch,(b∈X.ex\/X.s₀.heap.objs.size<=b)/\b≠X.env.locals/\(∀x c,X.env.cells.lookup x=some c->c≠b)/\∀p∈X.pn++pins,p.1≠b):Inv X pins σ H' s':=by
 obtain⟨h',g',d',t',o'⟩:=s';have e:o'=s.os:=f;subst e;exact I.call (g':=g') (t':=t') (d':=d') u hok g a
end
abbrev XK:=Value->Option Addr->Hp->Prop
abbrev St:=List (Option V)
variable {σ:St}
abbrev VK:=V->Hp->Prop
abbrev TE:=St->Hp->VK->Prop
variable {t:TE}
abbrev TT:=St->Hp->(Bool->Hp->Prop)->Prop
abbrev TA:=St->Hp->(List V->Hp->Prop)->Prop
structure Ends where
 nx:St->Hp->Prop
 rt:VK
 bk:St->Hp->Prop:=λ_ _=>False
 ct:St->Hp->Prop:=λ_ _=>False
abbrev TS:=Ends->St->Hp->Prop
def EP (X:Cx) (pins:List (Addr×Obj)) (σ:St) (Q:VK) (u:Value) (s':Shared):Prop:=∃v H',Inv X pins σ H' s'/\RelV v u/\Q v H'
def TP (X:Cx) (pins:List (Addr×Obj)) (σ:St) (Q:Bool->Hp->Prop) (b:Bool) (s':Shared):Prop:=∃H',Inv X pins σ H' s'/\Q b H'
def AP (X:Cx) (pins:List (Addr×Obj)) (σ:St) (Q:List V->Hp->Prop) (us:List Value) (s':Shared):Prop:=∃vs H',Inv X pins σ H' s'/\Vals vs us/\Q vs H'
def SP (X:Cx) (pins:List (Addr×Obj)) (D:Ends) (f:Flow) (s':Shared):Prop :=
 match f with
 |.next=>∃a H',Inv X pins a H' s'/\D.nx a H'
 |.brk=>∃a H',Inv X pins a H' s'/\D.bk a H'
 |.cont=>∃a H',Inv X pins a H' s'/\D.ct a H'
 |.ret u=>∃v a H',Inv X pins a H' s'/\RelV v u/\D.rt v H'
def PE (X:Cx) (e:Expr) (t:TE):Prop :=
 ∀(pins:List (Addr×Obj)) (s:Shared) (σ:St) (H:Hp) (Q:VK),Inv X pins σ H s->t σ H Q->wpAny (model X.prog X.w) X.A (eval e X.env) (EP X pins σ Q) X.xe s
def PT (X:Cx) (e:Expr) (t:TT):Prop :=
 ∀(pins:List (Addr×Obj)) (s:Shared) (σ:St) (H:Hp) (Q:Bool->Hp->Prop),Inv X pins σ H s->t σ H Q->wpAny (model X.prog X.w) X.A (isTrue e X.env (eval e X.env)) (TP X pins σ Q) X.xe s
def PW (X:Cx) (e:Expr) (t:TT):Prop :=
 ∀(whole:Sem Value) (pins:List (Addr×Obj)) (s:Shared) (σ:St) (H:Hp) (Q:Bool->Hp->Prop),Inv X pins σ H s->t σ H Q->wpAny (model X.prog X.w) X.A (isTrue e X.env whole) (TP X pins σ Q) X.xe s
theorem PW.pt {t:TT} (h:PW X e t):PT X e t:=h _
def PA (X:Cx) (es:List Expr) (t:TA):Prop :=
 ∀(pos:Pos) (pins:List (Addr×Obj)) (s:Shared) (σ:St) (H:Hp) (Q:List V->Hp->Prop),Inv X pins σ H s->t σ H Q->wpAny (model X.prog X.w) X.A (spliced (backTo pos (starEach es X.env))) (AP X pins σ Q) X.xe s
def PS (X:Cx) (st:Stmt) (t:TS):Prop :=
 ∀(pins:List (Addr×Obj)) (s:Shared) (σ:St) (H:Hp) (D:Ends),Inv X pins σ H s->t D σ H->wpAny (model X.prog X.w) X.A (exec st X.env) (SP X pins D) X.xe s
def PSs (X:Cx) (st:List Stmt) (t:TS):Prop :=
 ∀(pins:List (Addr×Obj)) (s:Shared) (σ:St) (H:Hp) (D:Ends),Inv X pins σ H s->t D σ H->wpAny (model X.prog X.w) X.A (execs st X.env) (SP X pins D) X.xe s
theorem thn {t:Sem α} {Q b:α->Shared->Prop} (h:wpAny M A t Q E s) (c:∀a s,Q a s->b a s):wpAny M A t b E s:=wpAny_mono h c λ_ _ x=>x
section
theorem bin {a b:Expr} {ta tb:TE} (ha:PE X a ta) (i:PE X b tb) (I:Inv X pins σ H s) (h:ta σ H λx H1=>tb σ H1 λy H2=>R x y H2)
  {Q:α->Shared->Prop} {f:Value->Value->Sem α}
  (j:∀v u s2 x y H2,Inv X pins σ H2 s2->RelV x v->RelV y u->R x y H2->wpAny (model X.prog X.w) X.A (f v u) Q X.xe s2) :
  wpAny (model X.prog X.w) X.A (eval a X.env) (λv e=>wpAny (model X.prog X.w) X.A (eval b X.env) (λu g=>wpAny (model X.prog X.w) X.A (f v u) Q X.xe g) X.xe e) X.xe s:=by
 refine thn (ha pins s σ H _ I h) λv k c=>?_
 obtain⟨x,H1,l,m,n⟩:=c;refine thn (i pins k σ H1 _ l n) λu s2 c=>?_
 obtain⟨y,H2,o,p,q⟩:=c;exact j v u s2 x y H2 o m p q
def xB (i:Nat):TE:=λσ H Q=>∃v,σ[i]?=some (some v)/\Q v H
def tC (v:V):TE:=λ_ H Q=>Q v H
theorem d7 (g:X.N[i]?=some x) (hv:Vis X.env.scope x) (hd:(x==("__debug__":Str))=false:=by decide) (f:(x==("__classdict__":Str))=false:=by decide):PE X (.Name x pos) (xB i):=by
 intro pins s σ H Q I h;obtain⟨v,e,h⟩:=h;obtain⟨m,hn,hl⟩:=I.loc;obtain⟨u,r,l⟩:=hl i x v g e hv;have fin:EP X pins σ Q u s:=⟨v,H,I,r,h⟩
 rcases l with⟨b,hm⟩|⟨b,c,hc,a⟩
 ·exact wpAny_Name (wpAny_loadName_local I.ok.kind b hn hm fin) hd
 ·rcases b with b|b
  ·exact wpAny_Name (wpAny_loadName_cell I.ok.kind b hc a fin) hd
  ·exact wpAny_Name (wpAny_loadName_free I.ok.kind b hc a fin f) hd
theorem d8 {i j pos}:PE X (.Constant (.int i) j pos) (tC (.int i)):=λ_ _ _ H _ I h=>wpAny_Constant_int ⟨.int i,H,I.tok _,⟨_,rfl⟩,h⟩
theorem wL {b j pos}:PE X (.Constant (.bool b) j pos) (tC (.bl b)):=λ_ _ _ H _ I h=>Constant_bool ⟨.bl b,H,I,rfl,h⟩
theorem lZ {j pos}:PE X (.Constant .none j pos) (tC .non):=λ_ _ _ H _ I h=>Constant_none ⟨.non,H,I,rfl,h⟩
theorem p8 {x j pos}:PE X (.Constant (.str x) j pos) (tC (.str x)):=λ_ _ _ H _ I h=>Calls.Constant_str ⟨.str x,H,I.tok _,⟨_,rfl⟩,h⟩
def Gl (X:Cx) (x:Str):Prop:=X.env.kindOf x=some .globalImplicit
theorem fS (I:Inv X pins σ H s) (a:Gl X x) (hm:X.mg x=some u) (h:Q u s)
  (hd:(x==("__debug__":Str))=false:=by decide):wpAny (model X.prog X.w) X.A (eval (.Name x pos) X.env) Q E s :=
 Calls.Name_function_global I.ok.kind a (Calls.loadGlobal_global (by rw[I.ok.glob];exact I.mod.glob.keeps I.bk) hm h) hd
theorem iO (I:Inv X pins σ H s) (a:Gl X x) (hm:X.mg x=none) (hv:bootBuiltins x=some u) (h:Q u s)
  (hn:x≠"__name__":=by decide) (hd:(x==("__debug__":Str))=false:=by decide):wpAny (model X.prog X.w) X.A (eval (.Name x pos) X.env) Q E s:=by
 obtain⟨mb,h1,h2⟩:=I.mod.blt;exact Calls.Name_function_global I.ok.kind a (Calls.loadGlobal_builtin (by rw[I.ok.glob];exact I.mod.glob.keeps I.bk) hm (by rw[I.ok.blt];exact h1.keeps I.bk) ((h2 x hn).trans hv) h) hd
theorem nz {v:V} (a:Gl X x) (hm:X.mg x=some u) (r:RelV v u) (hd:(x==("__debug__":Str))=false:=by decide):PE X (.Name x pos) (tC v) :=
 λ_ _ _ H _ I h=>fS I a hm ⟨v,H,I,r,h⟩ hd
theorem nI {v:V} (a:Gl X x) (hm:X.mg x=none) (hv:bootBuiltins x=some u) (r:RelV v u) (hn:x≠"__name__":=by decide) (hd:(x==("__debug__":Str))=false:=by decide):PE X (.Name x pos) (tC v) :=
 λ_ _ _ H _ I h=>iO I a hm hv ⟨v,H,I,r,h⟩ hn hd
noncomputable def t2I (ta tb:TE) (k:Int->Int->Hp->Prop):St->Hp->Prop:=λσ H=>ta σ H λx H1=>tb σ H1 λy H2=>∃i j,x=.int i/\y=.int j/\k i j H2
variable {a b:Expr} {ta tb:TE}
def PC (X:Cx) (f:CmpOp) (a b:Expr) (t:TE):Prop :=
 ∀(pins:List (Addr×Obj)) (s:Shared) (σ:St) (H:Hp) (Q:VK),Inv X pins σ H s->t σ H Q ->
  wpAny (model X.prog X.w) X.A (eval a X.env) (λv c=>wpAny (model X.prog X.w) X.A (eval b X.env) (λu e=>wpAny (model X.prog X.w) X.A (compareOp f v u) (EP X pins σ Q) X.xe e) X.xe c) X.xe s
theorem kJ (b:Expr) {a:CmpOp} (h:a≠.In) (h2:a≠.NotIn):behindInMarks a b=false:=by
 have e1:(a==CmpOp.In)=false:=by cases a <;> first|rfl|exact absurd rfl h
 have e2:(a==CmpOp.NotIn)=false:=by cases a <;> first|rfl|exact absurd rfl h2
 cases b <;> simp[behindInMarks,e1,e2]
def xA (p:Int->Int->Bool) (ta tb:TE):TE:=λσ H Q=>t2I ta tb (λi j H2=>Q (.bl (p i j)) H2) σ H
abbrev tLt:TE->TE->TE:=xA λi j=>decide (i<j)
theorem uD {c:CmpOp} {p:Int->Int->Bool} (ha:PE X a ta) (e:PE X b tb)
  (rule:∀(i j:Int) (t u:Tok) (Q:Value->Shared->Prop) (s:Shared),Q (.bool (p i j)) s->wpAny (model X.prog X.w) X.A (compareOp c (.int i t) (.int j u)) Q X.xe s):PC X c a b (xA p ta tb):=by
 intro pins s σ H Q I h;refine bin ha e I h λv u s2 x y H2 f g k q=>?_
 obtain⟨i,j,rfl,rfl,q⟩:=q;obtain⟨t,rfl⟩:=g;obtain⟨t',rfl⟩:=k;exact rule i j t t' _ s2 ⟨.bl _,H2,f,rfl,q⟩
theorem yb (ha:PE X a ta) (c:PE X b tb):PC X .Lt a b (tLt ta tb):=uD ha c λ_ _ _ _ _ _ h=>lt_int h
def yp (ta:TE):TE:=λσ H Q=>ta σ H λx H1=>Q (.bl (decide (x=.non))) H1
theorem RelV.none_iff {x:V} {v:Value} (r:RelV x v):(v==Value.none)=decide (x=.non):=by
 cases x with
 |non=>cases r;rfl
 |bl _=>cases r;rfl
 |int _=>obtain⟨t,rfl⟩:=r;rfl
 |str _=>obtain⟨t,rfl⟩:=r;rfl
 |byt _=>obtain⟨t,rfl⟩:=r;rfl
 |flt _=>obtain⟨t,rfl⟩:=r;rfl
 |ref _=>cases r;rfl
 |ty _=>cases r;rfl
theorem vS {j pos'} (ha:PE X a ta):PC X .Is a (.Constant .none j pos') (yp ta):=by
 intro pins s σ H Q I h;refine thn (ha pins s σ H _ I h) λv s1 b=>?_
 obtain⟨x,H1,c,e,f⟩:=b;exact Constant_none (is_none_gen ⟨.bl _,H1,c,by rw[e.none_iff];rfl,f⟩)
def tB (t:TE):TT:=λσ H Q=>t σ H λx H1=>∃c,x=.bl c/\Q c H1
theorem vL {c:CmpOp} (h:PC X c a b t) (h1:behindInMarks c b=false:=by first|exact kJ _ (by decide) (by decide)|rfl):PE X (.Compare a [c] [b] pos) t:=λpins s σ H Q I hw=>wpAny_Compare1 (h pins s σ H Q I hw) h1
theorem vn {e:CmpOp} (h:PC X e a b t) (h1:behindInMarks e b=false:=by first|exact kJ _ (by decide) (by decide)|rfl):PT X (.Compare a [e] [b] pos) (tB t):=by intro pins s σ H Q I hw;refine wpAny_isTrue_Compare1 (thn (h pins s σ H _ I hw) λv s1 h1=>thn h1 λu s2 h2=>thn h2 λc s3 f=>?_) h1;obtain⟨x,H1,g,i,j⟩:=f;obtain⟨d,rfl,q⟩:=j;cases i;exact wpAny_truthy_bool ⟨H1,g,q⟩
theorem vj (h:PE X e t) (b:∀whole,isTrue e X.env whole=(do let v <-whole;standAt e.pos;holding [v] (truthy v)):=by intro _;rfl):PT X e (tB t):=by intro pins s σ H Q I hw;refine isTrue_plain (thn (h pins s σ H _ I hw) λv s1 a=>?_) (b _);obtain⟨x,H1,c,f,g⟩:=a;obtain⟨d,rfl,q⟩:=g;cases f;exact wpAny_truthy_bool ⟨H1,c,q⟩
variable {tA tB':TT} {rest:List Expr}
def yq (t u:TT):TT:=λσ H Q=>t σ H λc H1=>if c=true then u σ H1 Q else Q false H1
def tOr (t u:TT):TT:=λσ H Q=>t σ H λc H1=>if c=true then Q true H1 else u σ H1 Q
def yA (t:TT):TT:=λσ H Q=>t σ H λc H1=>Q (!c) H1
theorem si (ha:PT X a tA):PW X (.BoolOp .And [a] pos) tA:=by
 intro wh pins s σ H Q I h;refine isTrue_and (thn (ha pins s σ H Q I h) λc s1 e=>?_);cases c with
 |true=>exact isTrue_and_nil e
 |false=>exact e
theorem wk (ha:PT X a tA):PW X (.BoolOp .Or [a] pos) tA:=by
 intro wh pins s σ H Q I h;refine isTrue_or (thn (ha pins s σ H Q I h) λc s1 e=>?_);cases c with
 |false=>exact isTrue_or_nil e
 |true=>exact e
theorem uW (ha:PT X a tA) (i:PW X (.BoolOp .And (b::rest) pos) tB'):PW X (.BoolOp .And (a::b::rest) pos) (yq tA tB'):=by
 intro wh pins s σ H Q I h;refine isTrue_and (thn (ha pins s σ H _ I h) λc j e=>?_);obtain⟨H1,f,g⟩:=e;cases c with
 |true=>exact i wh pins j σ H1 Q f g
 |false=>exact⟨H1,f,g⟩
theorem xG (ha:PT X a tA) (i:PW X (.BoolOp .Or (b::rest) pos) tB'):PW X (.BoolOp .Or (a::b::rest) pos) (tOr tA tB'):=by
 intro wh pins s σ H Q I h;refine isTrue_or (thn (ha pins s σ H _ I h) λc j e=>?_);obtain⟨H1,f,g⟩:=e;cases c with
 |true=>exact⟨H1,f,g⟩
 |false=>exact i wh pins j σ H1 Q f g
theorem uY (ha:PT X a tA):PT X (.UnaryOp .Not a pos) (yA tA):=by intro pins s σ H Q I h;exact isTrue_not (ha pins s σ H (λc H1=>Q (!c) H1) I h)
def xN (ta tb:TE):TE:=λσ H Q=>ta σ H λx H1=>∃c,x=.bl c/\if c=true then tb σ H1 Q else Q (.bl false) H1
def yR (ta tb:TE):TE:=λσ H Q=>ta σ H λx H1=>∃c,x=.bl c/\if c=true then Q (.bl true) H1 else tb σ H1 Q
theorem pM {op} (h:PE X a t):PE X (.BoolOp op [a] pos) t:=λpins s σ H Q I hw=>BoolOp_one (h pins s σ H Q I hw)
theorem pY (ha:PE X a ta) (i:PE X (.BoolOp .And (b::rest) pos) tb):PE X (.BoolOp .And (a::b::rest) pos) (xN ta tb):=by
 intro pins s σ H Q I h;refine BoolOp_and (thn (ha pins s σ H _ I h) λv j f=>?_);obtain⟨x,H1,g,k,e⟩:=f;obtain⟨c,rfl,e⟩:=e;cases k;refine wpAny_truthy_bool ?_;cases c with
 |true=>exact i pins j σ H1 Q g e
 |false=>exact⟨.bl false,H1,g,rfl,e⟩
theorem w5 (ha:PE X a ta) (i:PE X (.BoolOp .Or (b::rest) pos) tb):PE X (.BoolOp .Or (a::b::rest) pos) (yR ta tb):=by
 intro pins s σ H Q I h;refine BoolOp_or (thn (ha pins s σ H _ I h) λv j f=>?_);obtain⟨x,H1,g,k,e⟩:=f;obtain⟨c,rfl,e⟩:=e;cases k;refine wpAny_truthy_bool ?_;cases c with
 |false=>exact i pins j σ H1 Q g e
 |true=>exact⟨.bl true,H1,g,rfl,e⟩
end
def SqL (K:PySem.W.Frag) (H:Hp) (a:Addr) (xs:List V):Prop :=
 Rd H a (.lst xs) \/
  ∃(o:Obj) (b:Array Value) (n:Nat),K.lookup a=some o/\o.cls=.type "list"/\o.dict=none/\o.data=.seq b n/\b.size<=sizeLine/\Vals xs b.toList
def SqT (K:PySem.W.Frag) (H:Hp) (a:Addr) (xs:List V):Prop :=
 Rd H a (.tup xs) \/
  ∃(o:Obj) (b:Array Value) (n:Nat),K.lookup a=some o/\o.cls=.type "tuple"/\o.data=.seq b n/\b.size<=sizeLine/\Vals xs b.toList
def yx:Value->Option V
 |.none=>some .non
 |.bool b=>some (.bl b)
 |.int i _=>some (.int i)
 |.str x _=>some (.str x)
 |.bytes b _=>some (.byt b)
 |.float b _=>some (.flt b)
 |.ref a=>some (.ref a)
 |.type n=>some (.ty n)
 |_=>none
theorem RelV.abs {x:V} (r:RelV x u):yx u=some x:=by
 cases x with
 |non=>cases r;rfl
 |bl _=>cases r;rfl
 |int _=>obtain⟨t,rfl⟩:=r;rfl
 |str _=>obtain⟨t,rfl⟩:=r;rfl
 |byt _=>obtain⟨t,rfl⟩:=r;rfl
 |flt _=>obtain⟨t,rfl⟩:=r;rfl
 |ref _=>cases r;rfl
 |ty _=>cases r;rfl
theorem RelV.inj {x y:V} (r:RelV x u) (q:RelV y u):x=y:=Option.some.inj (r.abs.symm.trans q.abs)
theorem Vals.inj {ys:List V} (h:Vals xs us) (h':Vals ys us):xs=ys:=by
 induction h generalizing ys with
 |nil=>cases h';rfl
 |cons r t ih =>
  cases h' with
  |cons r' t'=>rw[r.inj r',ih t']
section
variable {ys:List V}
theorem SqL.of (h:H a=some (.lst xs)):SqL K H a xs:=.inl (.inl h)
theorem SqT.of (h:H a=some (.tup xs)):SqT K H a xs:=.inl (.inl h)
theorem Inv.list (I:Inv X pins σ H s) (h:SqL X.K H a xs):∃b:List Value,Vals xs b/\PlainL s.heap a b.toArray/\xs.length<=sizeLine:=by
 rcases h with h|⟨o,b,n,c,hc,hd,f,hz,r⟩
 ·obtain⟨z,b,n,r,e⟩:=h.ok I.hok;exact⟨b,r,⟨_,n,e,rfl,rfl,rfl⟩,z⟩
 ·refine⟨b.toList,r,⟨o,n,I.kIn a o c,hc,hd,by simpa using f⟩,?_⟩;have e:=r.length;simp only[B9]at e;omega
theorem Inv.tuple (I:Inv X pins σ H s) (h:SqT X.K H a xs):∃b:List Value,Vals xs b/\IsTup s.heap a b.toArray/\xs.length<=sizeLine:=by
 rcases h with h|⟨o,b,n,c,hc,f,hz,r⟩
 ·obtain⟨z,b,r,p⟩:=h.ok I.hok;exact⟨b,r,p.tup,z⟩
 ·refine⟨b.toList,r,⟨o,I.kIn a o c,hc,n,by simpa using f⟩,?_⟩;have e:=r.length;simp only[B9]at e;omega
theorem Inv.list_inj (I:Inv X pins σ H s) (h:SqL X.K H a xs) (h':SqL X.K H a ys):xs=ys:=by
 obtain⟨b,r,⟨o,n,e,_,_,d⟩,_⟩:=I.list h;obtain⟨its',f,⟨o',n',c,_,_,d'⟩,_⟩:=I.list h';rw[e]at c;cases c;rw[d]at d';injection d' with d1 _
 have:b=its':=by simpa using congrArg Array.toList d1
 subst this;exact r.inj f
theorem Inv.tuple_inj (I:Inv X pins σ H s) (h:SqT X.K H a xs) (h':SqT X.K H a ys):xs=ys:=by
 obtain⟨b,r,⟨o,e,_,n,d⟩,_⟩:=I.tuple h;obtain⟨its',f,⟨o',c,_,n',d'⟩,_⟩:=I.tuple h';rw[e]at c;cases c;rw[d]at d';injection d' with d1 _
 have:b=its':=by simpa using congrArg Array.toList d1
 subst this;exact r.inj f
end
abbrev Cx.wish (X:Cx) (E:Value->Shared->Prop):Cx:={ X with xe:=E }
abbrev Cx.nox (X:Cx):Cx:=X.wish λ_ _=>False
theorem Cx.Ok.wish (ok:X.Ok) (E:Value->Shared->Prop):(X.wish E).Ok :=
 ⟨ok.mod,ok.kind,ok.glob,ok.blt,ok.above,ok.inj,ok.has,ok.cab,ok.hd,ok.frames,ok.stk,ok.exf,ok.bs,ok.bsz,ok.noex,ok.exfs,ok.funs,ok.frf⟩
theorem Cx.Ok.unwish (ok:(X.wish E).Ok):X.Ok :=
 ⟨ok.mod,ok.kind,ok.glob,ok.blt,ok.above,ok.inj,ok.has,ok.cab,ok.hd,ok.frames,ok.stk,ok.exf,ok.bs,ok.bsz,ok.noex,ok.exfs,ok.funs,ok.frf⟩
section
theorem Inv.wish (I:Inv X pins σ H s) (E:Value->Shared->Prop):Inv (X.wish E) pins σ H s:=⟨I.ok.wish E,I.os,I.bare,I.base,I.loc,I.cell,I.free,I.freeC,I.pin,I.hok,I.len,I.tab⟩
theorem Inv.unwish (I:Inv (X.wish E) pins σ H s):Inv X pins σ H s:=⟨I.ok.unwish,I.os,I.bare,I.base,I.loc,I.cell,I.free,I.freeC,I.pin,I.hok,I.len,I.tab⟩
theorem SP.unwish {D:Ends} {f:Flow} (h:SP (X.wish E) pins D f s'):SP X pins D f s':=by
 cases f with
 |next=>obtain⟨a,H',I,q⟩:=h;exact⟨a,H',I.unwish,q⟩
 |brk=>obtain⟨a,H',I,q⟩:=h;exact⟨a,H',I.unwish,q⟩
 |cont=>obtain⟨a,H',I,q⟩:=h;exact⟨a,H',I.unwish,q⟩
 |ret u=>obtain⟨v,a,H',I,r,q⟩:=h;exact⟨v,a,H',I.unwish,r,q⟩
theorem PSs.nox {st:List Stmt} {t:TS} (h:PSs X.nox st t):PSs X st t:=λpins s σ H D I hw =>
 wpAny_mono (h pins s σ H D (I.wish _) hw) (λ_ _ q=>q.unwish) λ_ _ z=>False.elim z
end
section
variable {rest:List Stmt} {t u:TS} {te:TE}
def wO:TS:=λD σ H=>D.nx σ H
def xT (t u:TS):TS:=λD σ H=>t { D with nx:=u D } σ H
theorem kj:PSs X [] wO:=λ_ _ σ H _ I h=>wpAny_execs_nil ⟨σ,H,I,h⟩
theorem bT (h1:PS X st t) (h2:PSs X rest u):PSs X (st::rest) (xT t u):=by
 intro pins s σ H D I h;refine wpAny_execs_cons (thn (h1 pins s σ H { D with nx:=u D } I h) λf b q=>?_);cases f with
 |next =>obtain⟨a,H',c,q⟩:=q;exact h2 pins b a H' D c q
 |ret v=>exact q
 |brk=>exact q
 |cont=>exact q
theorem dX (h1:PS X st t):PSs X [st] t:=by
 intro pins s σ H D I h;refine wpAny_execs_cons (thn (h1 pins s σ H D I h) λf s1 q=>?_);cases f with
 |next=>exact wpAny_execs_nil q
 |ret v=>exact q
 |brk=>exact q
 |cont=>exact q
theorem Inv.quiet (I:Inv X pins σ H s):interactive X.env=false:=by simp[interactive,I.ok.kind]
def xu (te:TE):TS:=λD σ H=>te σ H λ_ H1=>D.nx σ H1
theorem fk (b:PE X e te) (c:swapsWith e none pos.line X.env=pure false:=by rfl):PS X (.Expr e pos) (xu te):=by intro pins s σ H D I h;exact wpAny_Expr_any (thn (b pins s σ H _ I h) λv s1 a=>(by obtain⟨x,H1,f,r1,g⟩:=a;exact⟨σ,H1,f,g⟩)) I.quiet c
def yE (te:TE):TS:=λD σ H=>te σ H D.rt
theorem fH (b:PE X e te):PS X (.Return (some e) pos) (yE te):=by intro pins s σ H D I h;exact wpAny_Return_some (thn (b pins s σ H _ I h) λv s1 a=>(by obtain⟨x,H1,c,f,g⟩:=a;exact⟨x,σ,H1,c,f,g⟩))
def yJ (c:TT) (t u:TS):TS:=λD σ H=>c σ H λb H1=>if b=true then t D σ H1 else u D σ H1
theorem mU {c:Expr} {a b:List Stmt} {tc:TT} (hc:PT X c tc) (ha:PSs X a t) (j:PSs X b u):PS X (.If c a b pos) (yJ tc t u):=by
 intro pins s σ H D I h;refine wpAny_If (thn (hc pins s σ H _ I h) λd f e=>?_);obtain⟨H1,g,i⟩:=e;cases d with
 |true=>exact ha pins f σ H1 D g i
 |false=>exact j pins f σ H1 D g i
end
abbrev TG:=V->St->Hp->(St->Hp->Prop)->Prop
abbrev TGs:=List V->St->Hp->(St->Hp->Prop)->Prop
def PG (X:Cx) (target:Expr) (t:TG):Prop :=
 ∀(pins:List (Addr×Obj)) (s:Shared) (σ:St) (H:Hp) (v:V) (u:Value) (Q:St->Hp->Prop),Inv X pins σ H s->RelV v u->t v σ H Q ->
  wpAny (model X.prog X.w) X.A (assign target X.env u) (λ_ s'=>∃a H',Inv X pins a H' s'/\Q a H') X.xe s
def PGs (X:Cx) (ts:List Expr) (t:TGs):Prop :=
 ∀(pins:List (Addr×Obj)) (s:Shared) (σ:St) (H:Hp) (vs:List V) (us:List Value) (Q:St->Hp->Prop),Inv X pins σ H s->Vals vs us->t vs σ H Q ->
  wpAny (model X.prog X.w) X.A (assignInOrder ((assignEach ts X.env).map (·.2)) us) (λ_ s'=>∃a H',Inv X pins a H' s'/\Q a H') X.xe s
abbrev uI:=V->V->V->Hp->(Hp->Prop)->Prop
def xy (X:Cx) (t:uI):Prop :=
 ∀(pins:List (Addr×Obj)) (s:Shared) (σ:St) (H:Hp) (o i v:V) (a b u:Value) (Q:Hp->Prop),Inv X pins σ H s->RelV o a->RelV i b->RelV v u->t o i v H Q ->
  wpAny (model X.prog X.w) X.A (setItem a b u) (λ_ s'=>∃H',Inv X pins σ H' s'/\Q H') X.xe s
section
def eW (i:Nat):TG:=λv σ H Q=>Q (σ.set i (some v)) H
theorem rR (a:X.N.Nodup) (hi:X.N[i]?=some x) (b:Loc X.env.scope x) (c:X.fn x=true\/X.env.scope.names.lookup x=some .local:=by first|exact .inl rfl|exact .inr rfl|assumption):PG X (.Name x pos) (eW i):=by intro pins s σ H v u Q I r h;exact wpAny_assign_Name (iZ I a hi b r (λs' e=>⟨_,H,e,h⟩) c)
def wq:TGs:=λvs σ H Q=>vs=[]/\Q σ H
noncomputable def mM (t:TG) (u:TGs):TGs:=λvs σ H Q=>∃v r,vs=v::r/\t v σ H λa H'=>u r a H' Q
theorem sN:PGs X [] wq:=by intro pins s σ H vs us Q I r h;obtain⟨e,h⟩:=h;subst e;cases r;exact assignInOrder_nil ⟨σ,H,I,h⟩
theorem qr {t:TG} {u:TGs} (h1:PG X e t) (h2:PGs X es u)
  (c:(assignEach (e::es) X.env).map (·.2)=assign e X.env::(assignEach es X.env).map (·.2):=by rfl):PGs X (e::es) (mM t u):=by
 intro pins s σ H vs us Q I r h;obtain⟨v,vr,e1,h⟩:=h;subst e1;cases r with
 |cons r rr =>rw[c];refine assignInOrder_cons (thn (h1 pins s σ H _ _ _ I r h) λ_ f a=>?_);obtain⟨b,H1,g,i⟩:=a;exact h2 pins f b H1 _ _ Q g rr i
def vW (K:PySem.W.Frag) (n:Nat) (t:TGs):TG:=λv σ H Q=>∃a xs,v=.ref a/\SqT K H a xs/\xs.length=n/\t xs σ H Q
theorem uG {t:TGs} (hc:X.calm=true) (h:PGs X es t)
  (hn:(assignEach es X.env).length=n:=by rfl) (c:(assignEach es X.env).findIdx? (·.1)=none:=by rfl):PG X (.Tuple es k pos) (vW X.K n t):=by
 intro pins s σ H v u Q I r hw;obtain⟨a,xs,e1,g,hl,hw⟩:=hw;subst e1;cases r;obtain⟨its,f,i,hz⟩:=I.tuple g;refine assign_Tuple_tuple (I.ok.hd hc) i (by simp[hn,<-hl,f.length]) c λh' j=>?_
 have l:Inv X pins σ H { s with heap:=h' }:=I.kept (t':=s.toks) λb o e=>j b o (Af (A9 e)) e
 exact h pins _ σ H xs _ Q l (by simpa using f) hw
def yz (to a:TE) (t:uI):TG:=λv σ H Q=>to σ H λo H1=>a σ H1 λi H2=>t o i v H2 λb=>Q σ b
theorem ph {o i:Expr} {to e:TE} {t:uI} (f:PE X o to) (hi:PE X i e) (g:xy X t)
  (ha:∀v,assign (.Subscript o i pos) X.env v=(do
   let b <-holding [v] (eval o X.env);let c <-holding [v,b] (eval i X.env)
   standAt pos
   holding [v,b,c] (setItem b c v)
   release [v,b,c] []):=by intro _;rfl):PG X (.Subscript o i pos) (yz to e t):=by
 intro pins s σ H v u Q I r h;rw[ha];refine wpAny_bind (wpAny_holding (thn (f pins s σ H _ I h) λb j a=>?_));obtain⟨x,H1,k,l,m⟩:=a;refine wpAny_bind (wpAny_holding (thn (hi pins j σ H1 _ k m) λc s2 a=>?_));obtain⟨y,H2,n,p,q⟩:=a;refine wpAny_bind (wpAny_standAt (wpAny_bind (wpAny_holding (thn (g pins s2 σ H2 x y v b c u _ n l p r q) λ_ s3 a=>?_))));obtain⟨w,z,A⟩:=a;exact wpAny_release ⟨σ,w,z,A⟩
def oY (te:TE) (g:TG):TS:=λD σ H=>te σ H λx H1=>g x σ H1 D.nx
theorem o7 {te:TE} {g:TG} (b:PE X e te) (c:PG X tg g) (f:swapsWithSole [tg] e pos.line X.env=pure false:=by rfl) (hw:swappedStores [tg] e X.env=pure none:=by rfl)
  (h1:(assignEach [tg] X.env).map (·.2)=[assign tg X.env]:=by rfl):PS X (.Assign [tg] e pos) (oY te g):=by
 intro pins s σ H D I h;refine wpAny_Assign_stores (thn (b pins s σ H _ I h) λv i a=>?_) f hw;obtain⟨x,H1,j,k,l⟩:=a;rw[h1];exact thn (c pins i σ H1 x v _ j k l) λ_ s2 q=>q
theorem gJ {te:TE} (b:X.N.Nodup) (hi:X.N[i]?=some x) (c:Loc X.env.scope x) (f:PE X e te) (g:swapsWith e (some (.Name x pos')) pos.line X.env=pure false:=by rfl) (j:X.fn x=true\/X.env.scope.names.lookup x=some .local:=by first|exact .inl rfl|exact .inr rfl|assumption) :
  PS X (.Assign [.Name x pos'] e pos) (oY te (eW i)):=by
 intro pins s σ H D I h;refine wpAny_Assign_Name (thn (f pins s σ H _ I h) λv s1 a=>?_) g;obtain⟨y,H1,k,l,m⟩:=a;exact iZ k b hi c l (λs2 n=>⟨_,H1,n,m⟩) j
end
section
def wb (c:TT) (tb:TS):TS:=λD σ H=>∃W:Nat->St->Hp->Prop,(∃m,W m σ H)/\∀m σ H,W m σ H ->
 c σ H λb H1=>if b=true then ∃N:St->Hp->Prop,(∀a H',N a H'->∃e,e < m/\W e a H')/\tb { D with nx:=N,ct:=N,bk:=D.nx } σ H1 else D.nx σ H1
theorem qM {c:Expr} {tc:TT} {tb:TS} (r:PassesOwn (model X.prog X.w) X.A X.env X.xe) (hc:PT X c tc) (x:PSs X body tb):PS X (.While c body [] pos) (wb tc tb):=by
 intro pins s σ H D I h;obtain⟨W,⟨y,z⟩,turn⟩:=h;refine wpAny_While (codeAny_whileLoop (λn s'=>∃g H',Inv X pins g H' s'/\W n g H') ?_ y ⟨σ,H,I,z⟩)
 rintro n B ⟨e,H1,C,E⟩
 refine wpAny_passesOwn r (thn (hc pins B e H1 _ C (turn n e H1 E)) λb s2 l=>?_);obtain⟨H2,t,j⟩:=l;cases b with
 |true =>
  obtain⟨N,u,j⟩:=j;rw[if_pos rfl];refine wpAny_passesOwn r (thn (x pins s2 e H2 _ t j) λf s3 k=>?_);cases f with
  |next =>obtain⟨a,i,m,o⟩:=k;obtain⟨p,hm,q⟩:=u a i o;exact⟨p,hm,a,i,m,q⟩
  |cont =>obtain⟨a,i,m,o⟩:=k;obtain⟨p,hm,q⟩:=u a i o;exact⟨p,hm,a,i,m,q⟩
  |brk=>exact k
  |ret v=>exact k
 |false =>rw[if_neg AB];exact wpAny_execs_nil ⟨e,H2,t,j⟩
end
structure It where
 go:Nat->Hp->Prop
 yld:Nat->Hp->V->Hp->Prop
 stop:Nat->Hp->Prop
def iy (X:Cx) (pins:List (Addr×Obj)) (H:Hp) (b:Addr):Prop :=
 H b=none/\b≠X.env.locals/\b∉X.fs/\(b∈X.ex\/X.s₀.heap.objs.size<=b)/\(∀x c,X.env.cells.lookup x=some c->c≠b)/\∀p∈X.pn++pins,p.1≠b
theorem Inv.fpOk {H':Hp} (I:Inv X pins σ H s) (a:s.heap.objs.size<=b) (hn:H' b=none):iy X pins H' b:=by
 refine⟨hn,B5 (A8 I.lt a),I.nofs a,.inr (AI I.sz a),λx c e z=>?_,λp f z=>?_⟩
 ·obtain⟨v,q⟩:=I.cell x c e;exact absurd (A8 q.lt (by rw[z];exact a)) (AN _)
 ·exact absurd (A8 (A9 (I.pin p f).1) (by rw[z];exact a)) (AN _)
structure Turn (P:Program) (w:World) (K:PySem.W.Frag) (tg:Expr) (J:It) (fp:List Addr) (it:Addr) (tn:Nat->Heap->Prop):Prop where
 mem:it∈fp
 obj:∀i h,tn i h->∀b∈fp,∃o,h.get? b=some o/\∀v,o.data≠.cell v
 keep:∀i h h',tn i h->(∀b∈fp,∀o,h.get? b=some o->h'.get? b=some o)->tn i h'
 item:∀(X:Cx),X.prog=P->X.w=w->X.K=K->X.calm=true->∀(i:Nat) (pins:List (Addr×Obj)) (s:Shared) (σ:St) (H:Hp) (E:Value->Shared->Prop),Inv X pins σ H s->(∀b∈fp,iy X pins H b)->tn i s.heap->J.go i H ->
  wpAny (model P w) X.A (pyNext (.ref it)) (λr s1=>∃u,r=some u /\
   wpAny (model P w) X.A (letOwnedTupleGo tg (.ref it) u) (λ_ s2=>∃x H',Inv X pins σ H' s2/\RelV x u/\J.yld i H x H'/\tn (i+1) s2.heap/\∀b∈fp,H' b=none) E s1) E s
 done:∀(X:Cx),X.prog=P->X.w=w->X.K=K->X.calm=true->∀(i:Nat) (pins:List (Addr×Obj)) (s:Shared) (σ:St) (H:Hp) (E:Value->Shared->Prop),Inv X pins σ H s->(∀b∈fp,iy X pins H b)->tn i s.heap->J.stop i H ->
  wpAny (model P w) X.A (pyNext (.ref it)) (λr s1=>r=none/\Inv X pins σ H s1) E s
 self:∀(A:Around) (i:Nat) (s:Shared) (Q:Value->Shared->Prop) (E:Value->Shared->Prop),tn i s.heap->Q (.ref it) s->wpAny (model P w) A (pyIter (.ref it)) Q E s
abbrev TI:=St->Hp->(It->Hp->Prop)->Prop
def PIE (X:Cx) (pins:List (Addr×Obj)) (σ:St) (tg:Expr) (R:It->Hp->Prop) (a:Value) (s2:Shared):Prop :=
 ∃(it:Addr) (fp:List Addr) (tn:Nat->Heap->Prop) (J:It) (H':Hp),a=.ref it/\Inv X pins σ H' s2/\Turn X.prog X.w X.K tg J fp it tn/\tn 0 s2.heap/\(∀b∈fp,iy X pins H' b)/\R J H'
def PI (X:Cx) (tg iter:Expr) (a:TI):Prop :=
 ∀(pins:List (Addr×Obj)) (s:Shared) (σ:St) (H:Hp) (R:It->Hp->Prop),Inv X pins σ H s->a σ H R ->
  wpAny (model X.prog X.w) X.A (eval iter X.env) (λv b=>wpAny (model X.prog X.w) X.A (pyIter v) (PIE X pins σ tg R) X.xe b) X.xe s
theorem qU {n:String} {vs:Array Value} {Q:Unit->Shared->Prop} (b:s.heap.get? it=some o) (hc:o.cls=.type n) (hd:o.data=.fields vs)
    (hn:["enumerate", "zip", "dict_itemiterator", "dict_reverseitemiterator", "odict_iterator", "itertools.zip_longest", "itertools.pairwise"].contains n=false) (a:Q () s):wpAny M A (letOwnedTupleGo tg (.ref it) u) Q E s:=by
  unfold letOwnedTupleGo
  cases tg <;> first
    |exact wpAny_pure a
    | (cases u <;> first
        |exact wpAny_pure a
        | (refine wpAny_bind (wpAny_load b ?_)
           rw[hc,hd]
           show wpAny M A (if (["enumerate", "zip", "dict_itemiterator", "dict_reverseitemiterator", "odict_iterator", "itertools.zip_longest", "itertools.pairwise"].contains n&&vs[0]?==some (rawInt _))=true then _ else _) Q E s
           rw[if_neg (by intro h;rw[hn,Bool.false_and]at h;cases h)]
           exact wpAny_pure a))
noncomputable def Itl (K:PySem.W.Frag) (a:Addr):It :=
 ⟨λi H=>∃xs x,SqL K H a xs/\xs[i]?=some x,λi H x H'=>H'=H/\∀xs,SqL K H a xs->xs[i]?=some x,λi H=>∃xs,SqL K H a xs/\xs.length<=i⟩
noncomputable def Itt (K:PySem.W.Frag) (a:Addr):It :=
 ⟨λi H=>∃xs x,SqT K H a xs/\xs[i]?=some x,λi H x H'=>H'=H/\∀xs,SqT K H a xs->xs[i]?=some x,λi H=>∃xs,SqT K H a xs/\xs.length<=i⟩
noncomputable def Itr (lo:Int) (n:Nat):It:=⟨λi _=>i<n,λi H x H'=>H'=H/\x=.int (lo+i),λi _=>n<=i⟩
theorem nS (a it:Addr):Turn P w K tg (Itl K a) [it] it (λi h=>h.IsListIter it a i) where
 mem:=by simp
 obj:=λi h st b f=>by
  have e:b=it:=by simpa using f
  subst e;obtain⟨o,e,c,d⟩:=st;exact⟨o,e,λv z=>by rw[d]at z;cases z⟩
 keep:=λi h h' st k=>st.at λo e=>k it (by simp) o e
 item:=by
  intro X m hw hK hc i pins s σ H E I j st n;subst m hw hK;obtain⟨xs,x,l,q⟩:=n;obtain⟨r,t,p,D⟩:=I.list l;obtain⟨u,F,G⟩:=t.get q;obtain⟨y,f1,f2,A,B,C⟩:=j it (by simp);refine wpAny_pyNext_list_item st p.isList (x:=u) (by simpa using F) λh' g J=>?_
  have L:Inv X pins σ H { s with heap:=h' }:=I.turned (t':=s.toks) (λb o f e=>(J.2 b f).trans e) y f1 A B C;obtain⟨o,e,c,d⟩:=id g;exact⟨u,rfl,qU (s:={ s with heap:=h' }) e c d (by decide) ⟨x,H,L,G,⟨rfl,λys M=>by rw[I.list_inj M l];exact q⟩,g,λb f=>(j b f).1⟩⟩
 done:=by intro X m hw hK hc i pins s σ H E I j st n;subst m hw hK;obtain⟨xs,l,q⟩:=n;obtain⟨r,t,p,D⟩:=I.list l;obtain⟨y,f1,f2,A,B,C⟩:=j it (by simp);have hl:=t.length;exact wpAny_pyNext_list_end (I.ok.hd hc) st p.isList (by simp;omega) λh' N=>⟨rfl,I.turned (t':=s.toks) (λb o f e=>N b o f e) y f1 A B C⟩
 self:=λ_ _ _ _ _ st h=>wpAny_pyIter_listiter st h
theorem mF (a it:Addr):Turn P w K tg (Itt K a) [it] it (λi h=>h.IsTupleIter it a i) where
 mem:=by simp
 obj:=λi h st b f=>by
  have e:b=it:=by simpa using f
  subst e;obtain⟨o,e,c,d⟩:=st;exact⟨o,e,λv z=>by rw[d]at z;cases z⟩
 keep:=λi h h' st k=>st.at λo e=>k it (by simp) o e
 item:=by
  intro X n hw hK hc i pins s σ H E I l st q;subst n hw hK;obtain⟨xs,x,m,r⟩:=q;obtain⟨g,t,p,D⟩:=I.tuple m;obtain⟨u,F,G⟩:=t.get r;obtain⟨y,f1,f2,A,B,C⟩:=l it (by simp);refine wpAny_pyNext_tuple_item st (show s.heap.IsTuple a g.toArray from p) (x:=u) (by simpa using F) λh' j J=>?_
  have L:Inv X pins σ H { s with heap:=h' }:=I.turned (t':=s.toks) (λb o f e=>(J.2 b f).trans e) y f1 A B C;obtain⟨o,e,c,d⟩:=id j;exact⟨u,rfl,qU (s:={ s with heap:=h' }) e c d (by decide) ⟨x,H,L,G,⟨rfl,λys M=>by rw[I.tuple_inj M m];exact r⟩,j,λb f=>(l b f).1⟩⟩
 done:=by intro X n hw hK hc i pins s σ H E I l st q;subst n hw hK;obtain⟨xs,m,r⟩:=q;obtain⟨g,t,p,D⟩:=I.tuple m;obtain⟨y,f1,f2,A,B,C⟩:=l it (by simp);have hl:=t.length;exact wpAny_pyNext_tuple_end (I.ok.hd hc) st (show s.heap.IsTuple a g.toArray from p) (by simp;omega) λh' N=>⟨rfl,I.turned (t':=s.toks) (λb o f e=>N b o f e) y f1 A B C⟩
 self:=λ_ _ _ _ _ st h=>wpAny_pyIter_tupleiter st h
theorem mx (it:Addr) (lo:Int) (n:Nat):Turn P w K tg (Itr lo n) [it] it (λi h=>IsRangeIter h it (lo+(i:Nat)*1) ((n:Int)-(i:Nat)) 1) where
 mem:=by simp
 obj:=λi h st b a=>by
  have e:b=it:=by simpa using a
  subst e;exact⟨_,st,λv z=>by have r:Data.fields _=Data.cell v:=z;cases r⟩
 keep:=λi h h' st k=>k it (by simp) _ st
 item:=by
  intro X g hw hK hc i pins s σ H E I f st j;subst g hw hK;obtain⟨l,f1,f2,m,p,q⟩:=f it (by simp);have W:=Walks.range (prog:=X.prog) (w:=X.w) (I.ok.hd hc) it lo 1 n;refine W.item i s _ _ j st λv h' tk hv c u=>?_
  obtain⟨t,rfl⟩:=hv;have x:Inv X pins σ H { s with heap:=h',toks:=tk }:=I.turned (λb o a e=>u b o (by simpa using a) e) l f1 m p q;refine⟨_,rfl,qU (s:={ s with heap:=h',toks:=tk }) (n:="range_iterator") c rfl rfl (by decide) ⟨.int (lo+i),H,x,⟨t,?_⟩,⟨rfl,rfl⟩,c,λb a=>(f b a).1⟩⟩;rw[Int.mul_one]
 done:=by intro X g hw hK hc i pins s σ H E I f st j;subst g hw hK;obtain⟨l,f1,f2,m,p,q⟩:=f it (by simp);exact wpAny_pyNext_range_end (I.ok.hd hc) st (by have:n<=i:=j;omega) λh' y=>⟨rfl,I.turned (t':=s.toks) (λb o a e=>y b o a e) l f1 m p q⟩
 self:=λ_ _ _ _ _ st h=>wpAny_pyIter_rangeiter st h
section
def xI (K:PySem.W.Frag) (tl:TE):TI:=λσ H R=>tl σ H λx H1=>∃a,x=.ref a/\(∃xs,SqL K H1 a xs)/\R (Itl K a) H1
def yn (K:PySem.W.Frag) (tl:TE):TI:=λσ H R=>tl σ H λx H1=>∃a,x=.ref a/\(∃xs,SqT K H1 a xs)/\R (Itt K a) H1
theorem rZ {l:Expr} {tl:TE} (hl:PE X l tl):PI X tg l (xI X.K tl):=by
 intro pins s σ H R I h;refine thn (hl pins s σ H _ I h) λv c g=>?_
 obtain⟨x,H1,f,i,j⟩:=g;obtain⟨a,e,⟨xs,k⟩,q⟩:=j;subst e;cases i;obtain⟨its,rv,p,hz⟩:=f.list k;refine wpAny_pyIter_list p.isList ?_;refine⟨c.heap.objs.size,[c.heap.objs.size],_,_,H1,rfl,f.kept (t':=c.toks) λb o e=>A1 _ e,nS a _,⟨_,Ae _ rfl,rfl,rfl⟩,λb m=>?_,q⟩;have e:b=c.heap.objs.size:=by simpa using m
 subst e;exact f.fpOk (Ac _) (f.hok.fresh (Ac _))
theorem vt {l:Expr} {tl:TE} (hl:PE X l tl):PI X tg l (yn X.K tl):=by
 intro pins s σ H R I h;refine thn (hl pins s σ H _ I h) λv c g=>?_
 obtain⟨x,H1,f,j,k⟩:=g;obtain⟨a,e,⟨xs,m⟩,q⟩:=k;subst e;cases j;obtain⟨i,rv,p,hz⟩:=f.tuple m;refine wpAny_pyIter_tuple (show c.heap.IsTuple a i.toArray from p) ?_;refine⟨c.heap.objs.size,[c.heap.objs.size],_,_,H1,rfl,f.kept (t':=c.toks) λb o e=>A1 _ e,mF a _,⟨_,Ae _ rfl,rfl,rfl⟩,λb n=>?_,q⟩;have e:b=c.heap.objs.size:=by simpa using n
 subst e;exact f.fpOk (Ac _) (f.hok.fresh (Ac _))
theorem qZ {R:It->Hp->Prop} {lo hi:Int} {t u v:Tok} {tk:Nat} (I:Inv X pins σ H s) (h1:-(2 ^ 62)<=lo) (h2:lo<2 ^ 62) (c:-(2 ^ 62)<=hi) (f:hi<2 ^ 62)
  (q:R (Itr lo (hi-lo).toNat) H):wpAny (model X.prog X.w) X.A (pyIter (.ref s.heap.objs.size)) (PIE X pins σ tg R) E { s with heap:=s.heap.push { cls:=.type "range",data:=.fields #[.int lo t,.int hi u,.int 1 v] },toks:=tk }:=by
 refine wpAny_pyIter_range (IsRange.new ..) (small_one h1 h2 c f) ?_;have a:Inv X pins σ H { s with heap:=s.heap.push { cls:=.type "range",data:=.fields #[.int lo t,.int hi u,.int 1 v] },toks:=tk }:=I.kept λb o e=>A1 _ e
 refine⟨(s.heap.push { cls:=.type "range",data:=.fields #[.int lo t,.int hi u,.int 1 v] }).objs.size,[(s.heap.push { cls:=.type "range",data:=.fields #[.int lo t,.int hi u,.int 1 v] }).objs.size],_,_,H,rfl,
  a.kept (t':=tk) λb o e=>A1 _ e,mx _ lo (hi-lo).toNat,?_,λb g=>?_,q⟩
 ·have e1:lo+((0:Nat):Int)*1=lo:=by simp
  have e2:(((hi-lo).toNat:Nat):Int)-((0:Nat):Int)=Builtin.Range.rangeSize lo hi 1:=by rw[rangeSize_one];split <;> omega
  show IsRangeIter _ _ (lo+((0:Nat):Int)*1) ((((hi-lo).toNat:Nat):Int)-((0:Nat):Int)) 1;rw[e1,e2];exact Ae _ rfl
 ·have e:b=(s.heap.push { cls:=.type "range",data:=.fields #[.int lo t,.int hi u,.int 1 v] }).objs.size:=by simpa using g
  subst e;exact a.fpOk (Ac _) (a.hok.fresh (Ac _))
def xp (ta:TA):TI:=λσ H R=>ta σ H λvs H1=>∃j:Int,vs=[.int j]/\-(2 ^ 62)<=j/\j<2 ^ 62/\R (Itr 0 j.toNat) H1
theorem om {a:Expr} {ta:TA} (f:Gl X "range") (hm:X.mg "range"=none) (ha:PA X [a] ta) (g:starEach [a] X.env=[(false,eval a X.env)]:=by rfl):PI X tg (.Call (.Name "range" p) [a] [] pos) (xp ta):=by
 intro pins s σ H R I h;refine Call_ (iO I f hm boot_range (PyProof.Rows.callWith_type1 (thn (ha pos pins s σ H _ I h) λus s1 b=>?_) g rfl));obtain⟨vs,H1,i,k,c⟩:=b;obtain⟨j,e,c,l,q⟩:=c;subst e;cases k with
 |cons r rr =>cases rr;obtain⟨t,rfl⟩:=r;exact call_range_1 (qZ i (by omega) (by omega) c l (by simpa using q))
def yT (e:TI) (g:TG) (tb:TS):TS:=λD σ H=>e σ H λJ H1=>∃W:Nat->Nat->St->Hp->Prop,(∃m,W 0 m σ H1)/\∀i m σ H,W i m σ H ->
 (J.stop i H/\D.nx σ H)\/(J.go i H/\∃N:St->Hp->Prop,(∀a H',N a H'->∃c,c < m/\W (i+1) c a H')/\∀x H',J.yld i H x H'->g x σ H' λb H2=>tb { D with nx:=N,ct:=N,bk:=D.nx } b H2)
def iA (fp:List Addr) (h:Heap):List (Addr×Obj):=fp.filterMap λb=>(h.get? b).map λo=>(b,o)
theorem eK (a:b∈fp) (e:h.get? b=some o):(b,o)∈iA fp h:=Bd.mpr ⟨b,a,by rw[e];rfl⟩
theorem nZ {p:Addr×Obj} (a:p∈iA fp h):p.1∈fp/\h.get? p.1=some p.2:=by
 obtain⟨b,c,e⟩:=Bd.mp a;cases q:h.get? b with
 |none=>rw[q]at e;cases e
 |some o =>rw[q]at e;have f:(b,o)=p:=Option.some.inj e;subst f;exact⟨c,q⟩
theorem Inv.pinned (I:Inv X pins σ H s) (f:∀b∈fp,iy X pins H b) (g:∀b∈fp,∃o,s.heap.get? b=some o/\∀v,o.data≠.cell v):Inv X (pins++iA fp s.heap) σ H s :=
 I.pins_of λp h=>(Aq.mp h).elim (λz=>I.pin p (Ag _ z)) λz=>by obtain⟨a,e⟩:=nZ z;obtain⟨i,f1,f2,_⟩:=f p.1 a;obtain⟨o,c,d⟩:=g p.1 a;rw[e]at c;cases c;exact⟨e,i,f1,f2,d⟩
theorem Inv.unpinned {pl:List (Addr×Obj)} (I:Inv X (pins++pl) σ H s):Inv X pins σ H s:=I.pins_of λp a=>I.pin p (Ag _ (Av _ a))
theorem vN {R:TI} {g:TG} {tb:TS} (B:PassesOwn (model X.prog X.w) X.A X.env X.xe) (hc:X.calm=true) (hi:PI X tg iter R) (hg:PG X tg g) (j:PSs X body tb)
  (hs:∀x,foldedSetIterable iter X.env x=pure x:=by intro _;rfl):PS X (.For tg iter body [] pos) (yT R g tb):=by
 intro pins s σ H D I h;refine wpAny_For (thn (hi pins s σ H _ I h) λv s1 h1=>thn h1 λitv s2 h2=>?_) hs;obtain⟨it,fp,tn,J,H2,e,I2,T,K,f2,W,⟨m0,w0⟩,turn⟩:=h2;subst e
 -- what stays true of the iterator's objects through the loop
 have k:∀{H':Hp},(∀b∈fp,H' b=none)->∀b∈fp,iy X pins H' b:=λhn b j=>⟨hn b j,(f2 b j).2⟩
 refine codeAny_forLoop_any (λn s'=>∃i l H',Inv X pins l H' s'/\tn i s'.heap/\(∀b∈fp,H' b=none)/\W i n l H') ?_ m0 ⟨0,σ,H2,I2,K,λb j=>(f2 b j).1,w0⟩
 rintro n S ⟨i,p,G,U,C,E,w3⟩
 rcases turn i n p G w3 with⟨stop,qn⟩|⟨go,N,hN,step⟩
 ·refine wpAny_passesOwn B (thn (T.done X rfl rfl rfl hc i pins S p G X.xe U (k E) C stop) λr s4 c=>?_);obtain⟨L,I4⟩:=c;subst L;exact wpAny_execs_nil ⟨p,G,I4,qn⟩
 ·refine wpAny_passesOwn B (thn (T.item X rfl rfl rfl hc i pins S p G X.xe U (k E) C go) λr s4 c=>?_);obtain⟨u,L,h4⟩:=c;subst L;refine wpAny_passesOwn B (thn h4 λ_ Y c=>?_);obtain⟨x,Z,I5,r5,y5,z,M⟩:=c;have O:=I5.pinned (k M) (T.obj _ _ z);refine wpAny_passesOwn B (thn (hg _ Y p Z x u _ O r5 (step x Z y5)) λ_ s6 c=>?_);obtain⟨P,H6,I6,q6⟩:=c;refine wpAny_passesOwn B (thn (j _ s6 P H6 _ I6 q6) λf Q y=>?_);have again:∀{a:St} {q:Hp},Inv X (pins++iA fp Y.heap) a q Q->N a q->∃m,m<n/\∃i l H',Inv X pins l H' Q/\tn i Q.heap/\(∀b∈fp,H' b=none)/\W i m l H':=λ{a q} t F=>by obtain⟨m',hm,w7⟩:=hN a q F;refine⟨m',hm,i+1,a,q,t.unpinned,T.keep _ _ _ z λb j o e=>(t.pin (b,o) (Ag _ (Ag _ (eK j e)))).1,λb j=>?_,w7⟩;obtain⟨o,e,d⟩:=T.obj _ _ z b j;exact (t.pin (b,o) (Ag _ (Ag _ (eK j e)))).2.1
  cases f with
  |next=>obtain⟨a,q,t,F⟩:=y;exact again t F
  |cont=>obtain⟨a,q,t,F⟩:=y;exact again t F
  |brk=>obtain⟨a,q,t,y⟩:=y;exact⟨a,q,t.unpinned,y⟩
  |ret v=>obtain⟨x7,a,q,t,r7,y⟩:=y;exact⟨x7,a,q,t.unpinned,r7,y⟩
end
abbrev R2:=V->V->Hp->VK->Prop
variable {r:R2}
def OpR (X:Cx) (f:Value->Value->Sem Value) (r:R2):Prop :=
 ∀(pins:List (Addr×Obj)) (s:Shared) (σ:St) (H:Hp) (x y:V) (v u:Value) (Q:VK),Inv X pins σ H s->RelV x v->RelV y u->r x y H Q ->
  wpAny (model X.prog X.w) X.A (f v u) (EP X pins σ Q) X.xe s
def UnR (X:Cx) (f:Value->Sem Value) (r:V->Hp->VK->Prop):Prop :=
 ∀(pins:List (Addr×Obj)) (s:Shared) (σ:St) (H:Hp) (x:V) (v:Value) (Q:VK),Inv X pins σ H s->RelV x v->r x H Q ->
  wpAny (model X.prog X.w) X.A (f v) (EP X pins σ Q) X.xe s
def eX (X:Cx) (f:Value) (r:List V->Hp->VK->Prop):Prop :=
 ∀(pins:List (Addr×Obj)) (s:Shared) (σ:St) (H:Hp) (xs:List V) (us:List Value) (Q:VK),Inv X pins σ H s->Vals xs us->r xs H Q ->
  wpAny (model X.prog X.w) X.A (call f us) (EP X pins σ Q) X.xe s
def tOp (r:R2) (ta tb:TE):TE:=λσ H Q=>ta σ H λx H1=>tb σ H1 λy H2=>r x y H2 Q
def tUn (r:V->Hp->VK->Prop) (ta:TE):TE:=λσ H Q=>ta σ H λx H1=>r x H1 Q
def rI (C:Int->Int->Prop) (g:Int->Int->V):R2:=λx y H Q=>∃i j,x=.int i/\y=.int j/\C i j/\Q (g i j) H
def rI0 (g:Int->Int->V):R2:=λx y H Q=>∃i j,x=.int i/\y=.int j/\Q (g i j) H
def rU (g:Int->V):V->Hp->VK->Prop:=λx H Q=>∃i,x=.int i/\Q (g i) H
section
variable {a b c:Expr} {ta tb tc:TE}
theorem vR (ha:PE X a ta) (i:PE X b tb) (I:Inv X pins σ H s)
  (h:ta σ H λx H1=>tb σ H1 λy H2=>R x y H2) {f:Value->Value->Sem Value}
  (j:∀v u s2 x y H2,Inv X pins σ H2 s2->RelV x v->RelV y u->R x y H2->wpAny (model X.prog X.w) X.A (f v u) Q X.xe s2) :
  wpAny (model X.prog X.w) X.A (eval a X.env) (λv e=>wpAny (model X.prog X.w) X.A (eval b X.env) (λu g=>wpAny (model X.prog X.w) X.A (f v u) Q X.xe g) X.xe e) X.xe s:=by
 refine thn (ha pins s σ H _ I h) λv k c=>?_
 obtain⟨x,H1,l,m,n⟩:=c;refine thn (i pins k σ H1 _ l n) λu s2 c=>?_
 obtain⟨y,H2,o,p,q⟩:=c;exact j v u s2 x y H2 o m p q
theorem cg {c:Operator} (e:OpR X (binaryOp c) r) (ha:PE X a ta) (f:PE X b tb):PE X (.BinOp a c b pos) (tOp r ta tb):=by intro pins s σ H Q I h;exact wpAny_BinOp (vR ha f I h λv u s2 x y H2 g i j q=>e pins s2 σ H2 x y v u Q g i j q)
theorem xb {c:UnaryOp} {r:V->Hp->VK->Prop} (e:UnR X (unaryOp c) r) (ha:PE X a ta):PE X (.UnaryOp c a pos) (tUn r ta):=by intro pins s σ H Q I h;exact UnaryOp_ (thn (ha pins s σ H _ I h) λv f b=>(by obtain⟨x,H1,g,i,j⟩:=b;exact e pins f σ H1 x v Q g i j))
theorem opI {f:Value->Value->Sem Value} {C:Int->Int->Prop}
  (rule:∀(i j:Int) (t u:Tok) (s:Shared) (Q:Value->Shared->Prop) (E:Value->Shared->Prop),C i j->Q (.int (g i j) s.toks) { s with toks:=s.toks+1 }->wpAny (model X.prog X.w) X.A (f (.int i t) (.int j u)) Q E s) :
  OpR X f (rI C λi j=>.int (g i j)):=by
 intro pins s σ H x y v u Q I a b h;obtain⟨i,j,rfl,rfl,hc,q⟩:=h;obtain⟨t,rfl⟩:=a;obtain⟨t',rfl⟩:=b;exact rule i j t t' s _ _ hc ⟨.int (g i j),H,I.tok _,⟨_,rfl⟩,q⟩
theorem wK {f:Value->Value->Sem Value}
  (rule:∀(i j:Int) (t u:Tok) (s:Shared) (Q:Value->Shared->Prop) (E:Value->Shared->Prop),Q (.int (g i j) s.toks) { s with toks:=s.toks+1 }->wpAny (model X.prog X.w) X.A (f (.int i t) (.int j u)) Q E s) :
  OpR X f (rI0 λi j=>.int (g i j)):=by
 intro pins s σ H x y v u Q I a b h;obtain⟨i,j,rfl,rfl,q⟩:=h;obtain⟨t,rfl⟩:=a;obtain⟨t',rfl⟩:=b;exact rule i j t t' s _ _ ⟨.int (g i j),H,I.tok _,⟨_,rfl⟩,q⟩
theorem vb {f:Value->Value->Sem Value} {g:Int->Int->Bool}
  (rule:∀(i j:Int) (t u:Tok) (s:Shared) (Q:Value->Shared->Prop) (E:Value->Shared->Prop),Q (.bool (g i j)) s->wpAny (model X.prog X.w) X.A (f (.int i t) (.int j u)) Q E s) :
  OpR X f (rI0 λi j=>.bl (g i j)):=by
 intro pins s σ H x y v u Q I a b h;obtain⟨i,j,rfl,rfl,q⟩:=h;obtain⟨t,rfl⟩:=a;obtain⟨t',rfl⟩:=b;exact rule i j t t' s _ _ ⟨.bl (g i j),H,I,rfl,q⟩
def xr (i j:Int):Prop:=0<j/\j<1073741824
def wX (i j:Int):Prop:=0<=j/\j<=1000000/\i.natAbs<2 ^ 64
def t7 (i j:Int):Prop:=(-(2 ^ 64)<i/\i<2 ^ 64)\/(-(2 ^ 64)<j/\j<2 ^ 64)
theorem t7.ok {i j:Int} (h:t7 i j):IntMulOk i j:=by
 rcases h with⟨h1,h2⟩|⟨h1,h2⟩
 ·exact .of_left (intBits_le_64 h1 h2)
 ·exact .of_right (intBits_le_64 h1 h2)
theorem gK:OpR X (binaryOp .Add) (rI0 λi j=>.int (i+j)):=wK λ_ _ _ _ _ _ _ q=>add_int q
theorem u5:OpR X (binaryOp .Sub) (rI0 λi j=>.int (i-j)):=wK λ_ _ _ _ _ _ _ q=>sub_int q
theorem gn:OpR X (binaryOp .Mult) (rI t7 λi j=>.int (i*j)):=opI λ_ _ _ _ _ _ _ hc q=>mul_int q hc.ok
theorem tO:OpR X (binaryOp .FloorDiv) (rI xr λi j=>.int (i / j)):=opI λi j _ _ _ _ _ hc q=>by have h1:(0:Int)<j:=hc.1;have h2:j<1073741824:=hc.2;exact floordiv_int (by omega) (by rw[Int.fdiv_eq_ediv_of_nonneg i (by omega)];exact q) (.inl (PyProof.noPylong_small (by omega)))
theorem iq:OpR X (binaryOp .Mod) (rI (λ_ j=>0<j) λi j=>.int (i % j)):=opI λi j _ _ _ _ _ hc q=>by have h1:(0:Int)<j:=hc;exact mod_int' (by omega) (by rw[Int.fmod_eq_emod_of_nonneg i (by omega)];exact q)
theorem vd:OpR X (binaryOp .Pow) (rI wX λi j=>.int (i ^ j.toNat)):=opI λ_ _ _ _ _ _ _ hc q=>pow_int_small hc.1 hc.2.1 hc.2.2 q
theorem unI {f:Value->Sem Value} {g:Int->Int}
  (rule:∀(i:Int) (t:Tok) (s:Shared) (Q:Value->Shared->Prop) (E:Value->Shared->Prop),Q (.int (g i) s.toks) { s with toks:=s.toks+1 }->wpAny (model X.prog X.w) X.A (f (.int i t)) Q E s) :
  UnR X f (rU λi=>.int (g i)):=by
 intro pins s σ H x v Q I a h;obtain⟨i,rfl,q⟩:=h;obtain⟨t,rfl⟩:=a;exact rule i t s _ _ ⟨.int (g i),H,I.tok _,⟨_,rfl⟩,q⟩
theorem vA:UnR X (unaryOp .USub) (rU λi=>.int (-i)):=unI λ_ _ _ _ _ q=>neg_int q
end
section
variable {a b c:Expr} {ta tb tc:TE}
theorem wY:OpR X (compareOp .Lt) (rI0 λi j=>.bl (decide (i<j))):=vb λ_ _ _ _ _ _ _ q=>lt_int q
theorem mX:OpR X (compareOp .LtE) (rI0 λi j=>.bl (decide (i<=j))):=vb λ_ _ _ _ _ _ _ q=>le_int q
theorem wI:OpR X (compareOp .Gt) (rI0 λi j=>.bl (decide (j<i))):=vb λ_ _ _ _ _ _ _ q=>gt_int q
theorem OpR.or {f:Value->Value->Sem Value} {a:R2} (h:OpR X f r) (h':OpR X f a):OpR X f (λx y H Q=>r x y H Q\/a x y H Q):=by
 intro pins s σ H x y v u Q I b c q;rcases q with q|q
 ·exact h pins s σ H x y v u Q I b c q
 ·exact h' pins s σ H x y v u Q I b c q
theorem eU (b:Expr) {a:CmpOp} (h:a≠.In:=by decide) (h2:a≠.NotIn:=by decide):behindInMarks a b=false:=by
 have e1:(a==CmpOp.In)=false:=by cases a <;> first|rfl|exact absurd rfl h
 have e2:(a==CmpOp.NotIn)=false:=by cases a <;> first|rfl|exact absurd rfl h2
 cases b <;> simp[behindInMarks,e1,e2]
theorem nk {c:CmpOp} (e:OpR X (compareOp c) r) (ha:PE X a ta) (f:PE X b tb) (hm:behindInMarks c b=false):PE X (.Compare a [c] [b] pos) (tOp r ta tb):=by intro pins s σ H Q I h;exact wpAny_Compare1 (vR ha f I h λv u s2 x y H2 g i j q=>e pins s2 σ H2 x y v u Q g i j q) hm
def uj (t:TE):TT:=λσ H Q=>t σ H λx H'=>∃k,x=.bl k/\Q k H'
theorem fv {g:CmpOp} (i:OpR X (compareOp g) r) (ha:PE X a ta) (j:PE X b tb) (hm:behindInMarks g b=false):PT X (.Compare a [g] [b] pos) (uj (tOp r ta tb)):=by
 intro pins s σ H Q I h;refine wpAny_isTrue_Compare1 (thn (ha pins s σ H _ I h) λv l f=>?_) hm;obtain⟨x,H1,m,n,o⟩:=f;refine thn (j pins l σ H1 _ m o) λu s2 f=>?_
 obtain⟨y,H2,p,q,t⟩:=f;refine thn (i pins s2 σ H2 x y v u _ p n q t) λc s3 f=>?_
 obtain⟨z,w,A,B,k,e,C⟩:=f;subst e;cases B;exact wpAny_truthy_bool ⟨w,A,C⟩
def uy (r b:R2) (ta tb tc:TE):TE:=λσ H Q=>ta σ H λx H1=>tb σ H1 λy H2=>r x y H2 λz a=>∃k,z=.bl k /\
 (if k=true then tc σ a λc e=>b y c e Q else Q (.bl false) a)
theorem qL {i g:CmpOp} {m:R2} (t:OpR X (compareOp i) r) (j:OpR X (compareOp g) m) (ha:PE X a ta) (w:PE X b tb) (hc:PE X c tc)
  (hm:lastMarks [i,g] [b,c]=false:=by with_unfolding_all rfl):PE X (.Compare a [i,g] [b,c] pos) (uy r m ta tb tc):=by
 intro pins s σ H Q I h;refine Compare_chain (thn (ha pins s σ H _ I h) λv A f=>?_) hm;obtain⟨x,H1,B,C,D⟩:=f;refine chain_link (thn (w pins A σ H1 _ B D) λu s2 f=>?_);obtain⟨y,H2,E,n,F⟩:=f;refine thn (t pins s2 σ H2 x y v u _ E C n F) λd G f=>?_
 obtain⟨z,o,p,J,k,e,q⟩:=f;subst e;cases J;refine wpAny_truthy_bool ?_;cases k with
 |false=>exact ite_ff ⟨.bl false,o,p,rfl,q⟩
 |true=>exact ite_tt (chain_last (thn (hc pins G σ o _ p q) λK L l=>(by obtain⟨M,N,O,P,R⟩:=l;exact j pins L σ N y M u K Q O n P R)))
theorem ki:(sizeLine:Nat)<2 ^ 63:=by rw[sizeLine_eq];decide
theorem vals1 {x:V} (r:Vals [x] us):∃u,us=[u]/\RelV x u:=by
 cases r with
 |cons r1 r2=>cases r2;exact⟨_,rfl,r1⟩
theorem vals2 {x y:V} (r:Vals [x,y] us):∃u a,us=[u,a]/\RelV x u/\RelV y a:=by
 cases r with
 |cons r1 r2 =>
  cases r2 with
  |cons r3 r4=>cases r4;exact⟨_,_,rfl,r1,r3⟩
theorem oB (hc:X.calm=true):eX X (.builtin "max") (λxs H Q=>∃i j,xs=[.int i,.int j]/\Q (.int (if j>i then j else i)) H):=by
 intro pins s σ H xs us Q I r h;obtain⟨i,j,rfl,q⟩:=h;obtain⟨u,w',rfl,⟨t,rfl⟩,⟨t',rfl⟩⟩:=vals2 r;refine max_two_ints (I.ok.hd hc) λh' tk k=>⟨_,H,I.kept k,?_,q⟩
 by_cases hj:j>i
 ·rw[if_pos hj,if_pos hj];exact⟨_,rfl⟩
 ·rw[if_neg hj,if_neg hj];exact⟨_,rfl⟩
theorem nO (hc:X.calm=true):eX X (.builtin "min") (λxs H Q=>∃i j,xs=[.int i,.int j]/\Q (.int (if j<i then j else i)) H):=by
 intro pins s σ H xs us Q I r h;obtain⟨i,j,rfl,q⟩:=h;obtain⟨u,w',rfl,⟨t,rfl⟩,⟨t',rfl⟩⟩:=vals2 r;refine min_two_ints (I.ok.hd hc) λh' tk k=>⟨_,H,I.kept k,?_,q⟩
 by_cases hj:j<i
 ·rw[if_pos hj,if_pos hj];exact⟨_,rfl⟩
 ·rw[if_neg hj,if_neg hj];exact⟨_,rfl⟩
theorem jx:eX X (.type "int") (λxs H Q=>(∃i,xs=[.int i]/\Q (.int i) H)\/∃k,xs=[.bl k]/\Q (.int (if k then 1 else 0)) H):=by
 intro pins s σ H xs us Q I r h;rcases h with⟨i,rfl,q⟩|⟨k,rfl,q⟩
 ·obtain⟨u,rfl,t,rfl⟩:=vals1 r;exact call_int_int ⟨.int i,H,I,⟨_,rfl⟩,q⟩
 ·obtain⟨u,rfl,a⟩:=vals1 r;cases a;exact call_int_bool ⟨.int (if k then 1 else 0),H,I.tok _,⟨_,rfl⟩,q⟩
end
section
variable {prog:Program} {x dx:Addr} {mA:Str->Option Value} {name:Str} {v:Value}
end
section
variable {H':Hp} {dx:Addr} {fs fs':List (Str×V)}
end
structure Cls (K:PySem.W.Frag) (C:Addr):Prop where
 pg:PySem.W.plainGet K C Str.empty=true
 hd:PySem.W.hasDictIn K C=true
 po:PySem.W.plainOver K C=true
 sa:PySem.W.findIn K (.ref C) "__setattr__"=some (some (.builtin "object.__setattr__"))
structure Meth (K:PySem.W.Frag) (C:Addr) (m:Str) (f:Addr):Prop where
 at_:PySem.W.findIn K (.ref C) m=some (some (.ref f))
 fn:PySem.W.isFn K (.ref f)=true
 kp:PySem.W.keepIn K (.ref f)=true
section
variable {dx:Addr} {fs:List (Str×V)} {f:Str} {v:V}
end
section
variable {o value:Expr} {f:Str} {tpos:Pos} {ta tv:TE}
end
section
variable {c:Value} {b:Bool}
inductive iQ (K:PySem.W.Frag) (H:Hp):V->Value->Prop where
 |non:iQ K H .non (.type "NoneType")
 |bl (x:Bool):iQ K H (.bl x) (.type "bool")
 |int (i:Int):iQ K H (.int i) (.type "int")
 |str (x:Str):iQ K H (.str x) (.type "str")
 |flt (x:UInt64):iQ K H (.flt x) (.type "float")
 |lst {a:Addr} {xs:List V} (e:H a=some (.lst xs)):iQ K H (.ref a) (.type "list")
 |frz {a:Addr} {o:Obj} {xs:List V} (e:H a=some (.frz o (.lst xs))):iQ K H (.ref a) (.type "list")
 |tup {a:Addr} {xs:List V} (e:H a=some (.tup xs)):iQ K H (.ref a) (.type "tuple")
 |dK {a:Addr} {kvs:List (Key×V)} (e:H a=some (.dK kvs)):iQ K H (.ref a) (.type "dict")
 |dT {a:Addr} {kvs:List (List Key×V)} (e:H a=some (.dT kvs)):iQ K H (.ref a) (.type "dict")
 |ins {a C dx:Addr} {fs:List (Str×V)} (e:H a=some (.ins C dx fs)) (cl:Cls K C) (ha:PySem.W.findIn K (.ref C) "__class__"=some (some (.builtin "object.__class__")))
  (hn:PySem.W.specialIn K (.builtin "object.__class__") "__get__"=some (some (.builtin "getset_descriptor.__get__"))) (htk:PySem.W.takesIn K (.builtin "object.__class__")=some true)
  (hm:PySem.W.mroIn K C (.type "object")=some true):iQ K H (.ref a) (.ref C)
end
structure cE (k:Nat) (A:Around):Prop where
 hd:A.handled=none
 dp:A.depth+3*k+5<recursionLimit
 un:A.units+16*k+200<cLine
theorem cE.mono (r:cE k A) (h:j<=k):cE j A:=⟨r.hd,by have:=r.dp;omega,by have:=r.un;omega⟩
theorem cE.deeper (r:cE (k+1) A) (env:Env):cE k (A.deeper env) :=
 ⟨r.hd,by have:=r.dp;show A.depth+1+3*k+5<_;omega,by have:=r.un;show A.units+3+16*k+200<_;omega⟩
theorem cE.depth (r:cE k A):A.depth<recursionLimit:=by have:=r.dp;omega
theorem cE.units (r:cE k A):A.units+64<cLine:=by have:=r.un;omega
def yv:TA:=λ_ H Q=>Q [] H
def xq (ta:TE) (a:TA):TA:=λσ H Q=>ta σ H λx H1=>a σ H1 λxs H2=>Q (x::xs) H2
section
variable {te:TE} {t:TA}
theorem cR:PA X [] yv:=λ_ _ _ _ H Q I h=>Calls.spliced_nil ⟨[],H,I,.nil,h⟩
theorem bA (ha:PE X e te) (c:PA X es t) (f:starEach (e::es) X.env=(false,eval e X.env)::starEach es X.env:=by rfl):PA X (e::es) (xq te t):=by intro pos pins s σ H Q I h;rw[f];show wpAny _ _ (spliced ((false,eval e X.env)::backTo pos (starEach es X.env))) _ _ s;refine Calls.spliced_cons (thn (ha pins s σ H _ I h) λu g a=>?_);obtain⟨x,H1,i,j,k⟩:=a;exact thn (c pos pins g σ H1 _ i k) λus s2 b=>(by obtain⟨xs,H2,l,m,n⟩:=b;exact⟨x::xs,H2,l,.cons j m,n⟩)
def yu (t:TA):TE:=λσ H Q=>t σ H λxs H1=>xs.length<=sizeLine/\∀p,H1 p=none->Q (.ref p) (upd H1 p (.tup xs))
def yt (t:TA):TE:=λσ H Q=>t σ H λxs H1=>xs.length<=sizeLine/\∀p,H1 p=none->Q (.ref p) (upd H1 p (.lst xs))
theorem vK {x1} (h:PA X es t):PE X (.Tuple es x1 pos) (yu t):=by intro pins s σ H Q I g;refine wpAny_Tuple_spliced (thn (h pos pins s σ H _ I g) λus a c=>?_);obtain⟨xs,H1,f,r,z,q⟩:=c;refine⟨by rw[<-r.length];exact z,?_⟩;have i:H1 a.heap.objs.size=none:=f.hok.fresh (Ac _);refine⟨.ref a.heap.objs.size,upd H1 a.heap.objs.size (.tup xs),f.laid (t':=a.toks) (λb u e=>A1 _ e) (Ac _) ?_,rfl,q _ i⟩;exact⟨z,us,r,⟨_,Ae _ rfl,rfl,rfl,_,rfl⟩⟩
theorem lY (h:PA X es t):PE X (.List es pos) (yt t):=by intro pins s σ H Q I g;refine wpAny_List_spliced (thn (h pos pins s σ H _ I g) λus a c=>?_);obtain⟨xs,H1,f,r,z,q⟩:=c;refine⟨by rw[<-r.length];exact z,?_⟩;have i:H1 a.heap.objs.size=none:=f.hok.fresh (Ac _);refine⟨.ref a.heap.objs.size,upd H1 a.heap.objs.size (.lst xs),f.laid (t':=a.toks) (λb u e=>A1 _ e) (Ac _) ?_,rfl,q _ i⟩;exact⟨z,us,0,r,Ae _ rfl⟩
end
abbrev Sp:=List V->Hp->VK->XK->Prop
abbrev CXT:=List Env->Hp->Shared->XK->Value->Shared->Prop
variable {CX:CXT}
structure rM (P:Program) (w:World) (K:PySem.W.Frag) (mg:Str->Option Value) (base:Heap) (A:Around) (outer:List Env) (s:Shared) (H:Hp):Prop where
 frames:A.frames=some outer
 mod:Mod K mg base
 bs:∀b o,base.get? b=some o->s.heap.get? b=some o/\H b=none
 bsz:base.objs.size<=s.heap.objs.size
 funs:s.heap.FunFrames base outer
 frf:∀b∈frs outer,H b=none
 hok:HOk P w H s.heap
 bare:AllBare s.gens
 tab:∀P q,TabOf K P q->H P=some (.tbl q)
def CE (outer:List Env) (P:Program) (w:World) (H:Hp) (s:Shared) (Q:VK) (u:Value) (s':Shared):Prop :=
 ∃v H',s'.os=s.os/\AllBare s'.gens/\Un (frs outer) [] H H' s.heap s'.heap/\HOk P w H' s'.heap/\RelV v u/\Q v H'
def CR (CX:CXT) (outer:List Env) (P:Program) (w:World) (H:Hp) (s:Shared) (Q:VK) (E:XK) (r:Result) (s':Shared):Prop :=
 match r with
 |.ok (.ret u)=>CE outer P w H s Q u s'
 |.ok _=>False
 |.error e=>CX outer H s E e s'
structure dj (P:Program) (w:World) (K:PySem.W.Frag) (mg:Str->Option Value) (base:Heap) (CX:CXT) (k:Nat) (f:Addr) (fd:FuncData) (ps:List Str) (sp:Sp):Prop where
 len:∀vs H Q E,sp vs H Q E->vs.length=ps.length
 run:∀(A:Around) (outer:List Env) (s:Shared) (H:Hp) (args:Args) (us:List Value) (vs:List V) (Q:VK) (E:XK),cE k A->rM P w K mg base A outer s H->BindsTo s fd args (ps.zip us)->Vals vs us->sp vs H Q E ->
  codeAny (model P w) A (.call (.ref f) args) (CR CX outer P w H s Q E) s
theorem dj.imp {sp a:Sp} (F:dj P w K mg base CX k f fd ps sp)
  (h:∀vs H Q E,a vs H Q E->sp vs H Q E):dj P w K mg base CX k f fd ps a :=
 ⟨λvs H Q E q=>F.len vs H Q E (h _ _ _ _ q),λA outer s H args us vs Q E b c e hv g=>F.run A outer s H args us vs Q E b c e hv (h _ _ _ _ g)⟩
section
theorem Inv.env0 (I:Inv X pins σ H s):rM X.prog X.w X.K X.mg X.base X.A X.stack s H :=
 ⟨I.ok.frames,I.ok.mod,I.bs,AI I.ok.bsz I.sz,I.stack,I.stkFree,I.hok,I.bare,I.tab⟩
theorem Inv.after {Q:VK} (I:Inv X pins σ H s) (h:CE X.stack X.prog X.w H s Q u s'):EP X pins σ Q u s':=by obtain⟨v,H',os,bare,un,hok,r,q⟩:=h;obtain⟨c,g,d,t,a⟩:=s';obtain rfl:a=s.os:=os;exact⟨v,H',I.call (h':=c) (g':=g) (d':=d) (t':=t) (ch:=[]) un hok bare (λb z=>absurd z (by simp)),r,q⟩
end
def xj (sp:Sp) (dvs:List V) (E:XK) (t:TA):TE:=λσ H Q=>t σ H λvs H1=>sp (vs++dvs) H1 Q E
def Binds (K:PySem.W.Frag) (fd:FuncData) (ps:List Str) (ds:List Value):Prop :=
 ∀(s:Shared) (us:List Value),K.In s.heap->(us++ds).length=ps.length->BindsTo s fd ⟨us,[]⟩ (ps.zip (us++ds))
theorem Binds.all (h:∀us:List Value,us.length=ps.length->bindArgs fd ⟨us,[]⟩=pure (ps.zip us)):Binds K fd ps []:=λs us _ hl=>by rw[B6]at hl ⊢;exact .of_eq (h us hl)
def Passes (CX:CXT) (X:Cx) (E:XK):Prop:=∀(pins:List (Addr×Obj)) (σ:St) (H:Hp) (s:Shared) (e:Value) (s':Shared),Inv X pins σ H s->CX X.stack H s E e s'->X.xe e s'
section
variable {sp:Sp} {dvs:List V} {ds:List Value} {E:XK} {m:Str} {apos:Pos} {o:Expr} {ta:TE} {t:TA}
theorem vJ {Q:VK} {vs:List V} (F:dj X.prog X.w X.K X.mg X.base CX k f fd ps sp) (c:cE k X.A) (g:Binds X.K fd ps ds) (hd:Vals dvs ds) (i:Passes CX X E)
  (I:Inv X pins σ H s) (r:Vals vs us) (h:sp (vs++dvs) H Q E):wpAny (model X.prog X.w) X.A (call (.ref f) us) (EP X pins σ Q) X.xe s:=by
 have b:Vals (vs++dvs) (us++ds):=r.append hd;have hl:(us++ds).length=ps.length:=by rw[<-b.length];exact F.len _ _ _ _ h
 refine wpAny_call (codeAny_mono (F.run X.A X.stack s H ⟨us,[]⟩ (us++ds) (vs++dvs) Q E c I.env0 (g s us I.kIn hl) b h) λr s' a=>?_);cases r with
 |error e=>exact i pins σ H s e s' I a
 |ok fl =>
  cases fl with
  |ret u=>exact I.after a
  |next=>exact False.elim a
  |brk=>exact False.elim a
  |cont=>exact False.elim a
theorem kC (F:dj X.prog X.w X.K X.mg X.base CX k f fd ps sp) (i:cE k X.A) (j:Gl X x) (hm:X.mg x=some (.ref f)) (l:PySem.W.keepIn X.K (.ref f)=true) (m:Binds X.K fd ps ds) (hd:Vals dvs ds) (n:Passes CX X E)
  (ha:PA X (e::es) t) (a:(x==("__debug__":Str))=false:=by decide) (o:starEach (e::es) X.env=(false,eval e X.env)::starEach es X.env:=by rfl) (b:(backTo pos (starEach es X.env)).any (·.1)=false:=by rfl) :
  PE X (.Call (.Name x p) (e::es) [] pos) (xj sp dvs E t):=by
 intro pins s σ H Q I h;refine wpAny_Call_Name_kw (fS I j hm ?_ a);refine PySem.W.callWith_K (h₀:=X.base) I.ok.mod.kin l (thn (ha pos pins s σ H _ I h) λus s1 c=>?_) o b;obtain⟨vs,H1,g,r,q⟩:=c;refine⟨g.kIn,?_⟩;exact vJ F i m hd n g r q
structure Mk (K:PySem.W.Frag) (C f:Addr):Prop where
 makes:PySem.W.makesIn K C=true
 init:PySem.W.findIn K (.ref C) "__init__"=some (some (.ref f))
 fn:PySem.W.isFn K (.ref f)=true
 kp:PySem.W.keepIn K (.ref C)=true
end
section
variable {ks:List Str} {sp:Sp} {E:XK} {m:Str} {apos kpos:Pos} {o:Expr} {kws:List Keyword} {te ta:TE} {t tk:TA} {nm:Option Str}
variable {g:List Value->List Value->List Value} {gV:List V->List V->List V}
end
structure cn (N P:List Str) (sc:Scope):Prop where
 kind:sc.kind=.function
 co:sc.isCoroutine=false
 gen:sc.isGenerator=false
 nd:N.Nodup
 pre:N.take P.length=P
 par:∀x∈P,sc.names.lookup x=some .local\/sc.names.lookup x=some .cell
 nofree:∀y∈sc.names,y.2≠.free
theorem jV {kindOf:Str->Option NameKind} {x:Str}:∀{binds:List (Str×Value)} {m:Str->Option Value},(∀v,(x,v)∉binds)->bindL kindOf binds m x=m x
 |[],_,_=>rfl
 |(n,v)::r,m,h=>by
  unfold bindL;rw[jV λw hw=>h w (Ab _ hw)];split
  ·have:x≠n:=by rintro rfl;exact h v Ad
   simp[this]
  ·rfl
theorem jC {kindOf:Str->Option NameKind} {x:Str}:∀{binds:List (Str×Value)} {m:Str->Option Value},(∀v,(x,v)∉binds)->bindC kindOf binds m x=m x
 |[],_,_=>rfl
 |(n,v)::r,m,h=>by
  unfold bindC;rw[jC λw hw=>h w (Ab _ hw)];split
  ·rfl
  ·have:x≠n:=by rintro rfl;exact h v Ad
   simp[this]
theorem jM {kindOf:Str->Option NameKind} {x:Str} {v:Value}:∀{P:List Str} {vs:List Value} {i:Nat} {m:Str->Option Value},P.Nodup->P[i]?=some x->vs[i]?=some v->kindOf x=some .local ->
  bindL kindOf (P.zip vs) m x=some v
 |[],_,_,_,_,h,_,_=>by simp at h
 |_::_,[],_,_,_,_,h,_=>by simp at h
 |p::P,w::vs,0,m,nd,h1,h2,hk=>by simp at h1 h2;subst h1;subst h2;show bindL kindOf ((p,w)::P.zip vs) m p=_;unfold bindL;rw[jV λv hv=>(AL.mp nd).1 (List.of_mem_zip hv).1,if_pos hk];simp
 |p::P,w::vs,i+1,m,nd,h1,h2,hk=>by show bindL kindOf ((p,w)::P.zip vs) m x=_;unfold bindL;exact jM (i:=i) (AL.mp nd).2 (by simpa using h1) (by simpa using h2) hk
theorem jH {kindOf:Str->Option NameKind} {x:Str} {v:Value}:∀{P:List Str} {vs:List Value} {i:Nat} {m:Str->Option Value},P.Nodup->P[i]?=some x->vs[i]?=some v->kindOf x≠some .local ->
  bindC kindOf (P.zip vs) m x=some v
 |[],_,_,_,_,h,_,_=>by simp at h
 |_::_,[],_,_,_,_,h,_=>by simp at h
 |p::P,w::vs,0,m,nd,h1,h2,hk=>by simp at h1 h2;subst h1;subst h2;show bindC kindOf ((p,w)::P.zip vs) m p=_;unfold bindC;rw[jC λv hv=>(AL.mp nd).1 (List.of_mem_zip hv).1,if_neg hk];simp
 |p::P,w::vs,i+1,m,nd,h1,h2,hk=>by show bindC kindOf ((p,w)::P.zip vs) m x=_;unfold bindC;exact jH (i:=i) (AL.mp nd).2 (by simpa using h1) (by simpa using h2) hk
def start (N:List Str) (vs:List V):St:=vs.map some++List.replicate (N.length-vs.length) none
def dO (CX:CXT) (P:Program) (w:World) (K:PySem.W.Frag) (mg:Str->Option Value) (base:Heap) (N:List Str) (qual:Str) (scope:Scope) (f:Addr) (cd:Value) (A:Around) (outer:List Env) (s:Shared) (H:Hp) (E:XK):Cx where
 prog:=P
 w:=w
 K:=K
 mg:=mg
 base:=base
 A:=A.deeper (envOfC qual scope s.heap.objs.size f cd)
 N:=N
 s₀:=s
 H₀:=H
 env:=envOfC qual scope s.heap.objs.size f cd
 outer:=outer
 stack:=envOfC qual scope s.heap.objs.size f cd::outer
 ex:=[]
 calm:=true
 fn:=λ_=>true
 pn:=[]
 xe:=λe s'=>wpAny (model P w) (A.deeper (envOfC qual scope s.heap.objs.size f cd)) (leaving (envOfC qual scope s.heap.objs.size f cd) e) (λ_ a=>CX outer H s E e a) (λb a=>CX outer H s E b a) s'
theorem k9 {sc:Scope} (h:sc.names.lookup x=some .cell):∃c,(cellsFrom n sc.names []).lookup x=some c:=by have q:=PySem.W.cellsFrom_some sc.names n [] (.inl h);exact Option.isSome_iff_exists.mp q
theorem n6 {t:Shared} {E:XK} {vs:List V}
  (S:cn N ps scope) (hd:A.handled=none) (g:rM P w K mg base A outer s H) (hl:vs.length=ps.length) (r:Vals vs us)
  (x:InCallC s s.heap.objs.size (bindL (envOfC qual scope s.heap.objs.size f cd).kindOf (ps.zip us) λ_=>none) (cellsFrom (s.heap.objs.size+1) scope.names []) (bindC (envOfC qual scope s.heap.objs.size f cd).kindOf (ps.zip us) λ_=>none) t) :
  Inv (dO CX P w K mg base N qual scope f cd A outer s H E) [] (start N vs) H t:=by
 have hpl:ps.length<=N.length:=by have:=congrArg List.length S.pre;rw[Bg]at this;omega
 obtain⟨h1,tk,rfl,B⟩:=x.done;have j:∀b:Addr,b∉(dO CX P w K mg base N qual scope f cd A outer s H E).ex:=λb z=>absurd (show b∈([]:List Addr) from z) (by simp)
 refine⟨⟨g.mod,S.kind,rfl,rfl,Ac _,λy z c h1 h2=>?_,λy l=>?_,λy c _ h=>?_,λ_=>hd,Around.frames_deeper g.frames,.inr ⟨rfl,rfl⟩,λb z=>absurd z (j b),g.bs,g.bsz,λb _ _=>j b,λb z=>absurd z (j b),g.funs,g.frf⟩,
  rfl,g.bare,Un.kept B,⟨_,x.toInCall.ns,λi y v h1 h2 h3=>?_⟩,λy c h=>⟨_,x.cell y c h⟩,g.hok.fresh (Ac _),λy c h=>?_,λp m=>absurd (show p∈([]:List (Addr×Obj)) from m) (by simp),g.hok.kept B,?_,g.tab⟩
 ·exact name_of_addr x.apart (PySem.mem_of_lookup h1) (PySem.mem_of_lookup h2)
 ·have l:scope.names.lookup y=some .cell\/scope.names.lookup y=some .free:=l;rcases l with l|l
  ·exact k9 l
  ·exact absurd rfl (S.nofree _ (PySem.mem_of_lookup l))
 ·exact Nat.le_of_lt (x.above y c (PySem.mem_of_lookup h))
 ·have hi:i<vs.length:=by
   unfold start at h2;by_cases hi:i<vs.length
   ·exact hi
   ·rw[As (by simpa using hi)]at h2;rw[AJ]at h2;split at h2 <;> cases h2
  have ha:vs[i]?=some v:=by
   unfold start at h2;rw[Ao (by simpa using hi),An]at h2;cases e:vs[i]? with
   |none=>rw[e]at h2;cases h2
   |some a=>rw[e]at h2;cases h2;rfl
  obtain⟨u,C,D⟩:=r.get ha;have m:ps[i]?=some y:=by rw[<-S.pre,List.getElem?_take_of_lt (by omega)];exact h1
  have o:ps.Nodup:=by rw[<-S.pre];exact S.nd.sublist (List.take_sublist _ _)
  refine⟨u,D,?_⟩;rcases S.par y (AA m) with k|k
  ·exact .inl ⟨k,jM o m C k⟩
  ·obtain⟨c,e⟩:=k9 (n:=s.heap.objs.size+1) k;refine .inr ⟨.inl k,c,e,?_⟩;have q:=x.cell y c e;rw[jH o m C (by show scope.names.lookup y≠_;rw[k];decide)]at q;exact q
 ·exact g.hok.fresh (Nat.le_of_lt (x.above y c (PySem.mem_of_lookup h)))
 ·unfold start;show _=N.length;rw[Al,A7,List.length_replicate];omega
theorem ue {name:Str} {params:Arguments} {B kV doc cdv:Value}
  {sp:Sp} (F:K.lookup f=some ⟨oc,od,.func (PySem.W.fnOf name qual params body scope B kV doc pm an cdv ct),osl⟩) (l:PySem.W.codeIn K cdv qual=true) (S:cn N ps scope)
  (len:∀vs H Q E,sp vs H Q E->vs.length=ps.length)
  (c:∀(A:Around) (outer:List Env) (s:Shared) (H:Hp) (vs:List V) (Q:VK) (E:XK),cE k (A.deeper (envOfC qual scope s.heap.objs.size f cdv))->sp vs H Q E ->
   ∃t,PSs (dO CX P w K mg base N qual scope f cdv A outer s H E) body t/\t { nx:=λ_ H'=>Q .non H',rt:=Q } (start N vs) H) :
  dj P w K mg base CX (k+1) f (PySem.W.fnOf name qual params body scope B kV doc pm an cdv ct) ps sp:=by
 refine⟨len,λA outer s H args us vs Q E m i G r j=>?_⟩;have hl:=len _ _ _ _ j;have C:K.In s.heap:=i.mod.kin.keeps λb o e=>(i.bs b o e).1
 have lim:s.heap.NoLimit:=i.mod.nolimit.keeps λb o e=>(i.bs b o e).1
 have g:∀y∈ps.zip us,scope.names.lookup y.1=some .local\/(scope.names.lookup y.1=some .cell/\((cellsFrom (s.heap.objs.size+1) scope.names []).lookup y.1).isSome=true):=λp L=>by
  obtain⟨n,v⟩:=p;rcases S.par n (List.of_mem_zip L).1 with q|q
  ·exact .inl q
  ·exact .inr ⟨q,PySem.W.cellsFrom_some _ _ _ (.inl q)⟩
 refine codeAny_call_function m.depth (C _ _ F) rfl S.co S.gen rfl (PySem.W.codeRec_of C l) (G _ _ _ _ ?_);refine wpAny_newFunctionEnv_cells S.kind g λenv M D x=>?_
 subst M;refine⟨lim.keeps x.toInCall.keep,codeAny_func ?_⟩;obtain⟨t,O,R⟩:=c A outer s H vs Q E (m.deeper _) j;have I:Inv (dO CX P w K mg base N qual scope f cdv A outer s H E) [] (start N vs) H D:=n6 S m.hd i hl r x;refine wpAny_mono (O [] D (start N vs) H _ I R) (λT s' h=>?_) λe s' h=>h
 have fin:∀{a:St} {H':Hp} {v:V} {u:Value},Inv (dO CX P w K mg base N qual scope f cdv A outer s H E) [] a H' s'->RelV v u->Q v H'->CE outer P w H s Q u s' :=
  λ{a H' v u} J z q=>⟨v,H',J.os,J.bare,J.base,J.hok,z,q⟩
 cases T with
 |ret u =>obtain⟨v,a,H',J,z,q⟩:=h;exact fin J z q
 |next =>obtain⟨a,H',J,q⟩:=h;exact fin (v:=V.non) (u:=Value.none) J rfl q
 |brk =>obtain⟨_,_,_,q⟩:=h;exact False.elim q
 |cont =>obtain⟨_,_,_,q⟩:=h;exact False.elim q
section
variable {t:TA} {id T:String} {r:List V->Hp->VK->Prop}
def tCB (r:List V->Hp->VK->Prop) (t:TA):TE:=λσ H Q=>t σ H λvs H1=>r vs H1 Q
theorem da (hc:eX X (.builtin id) r) (f:Gl X x) (hm:X.mg x=none) (hv:bootBuiltins x=some (.builtin id)) (ha:PA X (e::es) t) (hn:x≠"__name__":=by decide) (a:(x==("__debug__":Str))=false:=by decide)
  (g:starEach (e::es) X.env=(false,eval e X.env)::starEach es X.env:=by rfl) (b:(backTo pos (starEach es X.env)).any (·.1)=false:=by rfl):PE X (.Call (.Name x p) (e::es) [] pos) (tCB r t):=by
 intro pins s σ H Q I h;refine wpAny_Call_Name_kw (iO I f hm hv ?_ hn a);exact PyProof.Rows.callWith_builtin1 (thn (ha pos pins s σ H _ I h) λus i c=>(by obtain⟨vs,H1,j,k,l⟩:=c;exact hc pins i σ H1 vs us Q j k l)) g b
theorem eC (hc:eX X (.type T) r) (f:Gl X x) (hm:X.mg x=none) (hv:bootBuiltins x=some (.type T)) (ha:PA X (e::es) t) (hn:x≠"__name__":=by decide) (a:(x==("__debug__":Str))=false:=by decide)
  (g:starEach (e::es) X.env=(false,eval e X.env)::starEach es X.env:=by rfl) (b:(backTo pos (starEach es X.env)).any (·.1)=false:=by rfl):PE X (.Call (.Name x p) (e::es) [] pos) (tCB r t):=by
 intro pins s σ H Q I h;refine wpAny_Call_Name_kw (iO I f hm hv ?_ hn a);exact PyProof.Rows.callWith_type1 (thn (ha pos pins s σ H _ I h) λus i c=>(by obtain⟨vs,H1,j,k,l⟩:=c;exact hc pins i σ H1 vs us Q j k l)) g b
end
end L2
variable {xs ys vs:List L2.V} {H H' H1 G H0:L2.Hp} {o:L2.HO} {v:L2.V} {X:L2.Cx} {σ:L2.St} {g:L2.TG} {sp:L2.Sp} {r:L2.V->Option Int->Option Int->L2.Hp->L2.VK->Prop}
namespace HT
open PySem PyProof.Rows
section
open PySem.SeqAt
open PySem.AutoSeq1 (wpAny_loadPart')
open PySem.MeetsSeq PySem.MeetsSeq2 PySem.MeetsSeq3
end
section
variable {prog:Program} {A:Around}
theorem tP {vs a:List Value} (l:IsTup s.heap t vs.toArray) (m:IsTup s.heap b a.toArray) (hv:vs≠[])
  (h1:a=[]->Q (.ref t) s) (h2:a≠[]->Q (.ref s.heap.objs.size) { s with heap:=s.heap.push { cls:=.type "tuple",data:=.seq (vs++a).toArray } })
  (j:vs.length+a.length<=sizeLine):wpAny (model prog w) A (binaryOp .Add (.ref t) (.ref b)) Q E s:=by
 obtain⟨⟨cls,dd,data,k⟩,i,hc,n,hd⟩:=id l;obtain⟨⟨cls2,f,data2,g⟩,c,h,n2,hd2⟩:=id m;simp only at hc hd h hd2;subst hc hd h hd2;have e:vs.toArray++a.toArray=(vs++a).toArray:=by simp
 by_cases hw:a=[]
 ·exact concat_meets ⟨_,i,rfl⟩ ⟨_,c,rfl⟩ noFill_tuple_add seq_tuple_add PySem.F.slot_tuple_add PySem.F.entry_tuple_add (PySem.F.args_tuple_add_2 _ _)
   (tuple_addW1 t b vs.toArray a.toArray n n2 dd f k g (by simpa using hv) (by simp[hw])) ⟨i,c,h1 hw⟩
 ·refine concat_meets ⟨_,i,rfl⟩ ⟨_,c,rfl⟩ noFill_tuple_add seq_tuple_add PySem.F.slot_tuple_add PySem.F.entry_tuple_add (PySem.F.args_tuple_add_2 _ _)
   (tuple_addW2 t b vs.toArray a.toArray n n2 dd f k g (by simpa using hv) (by simpa using hw) (by rw[A6,A6];exact j)) ⟨i,c,?_⟩
  rw[e];exact h2 hw
noncomputable def sIx (n d:Nat):Option Int->Nat
 |none=>d
 |some v=>if v<0 then (v+(n:Int)).toNat else min v.toNat n
theorem vz (n d:Nat) (hd:d<=n) (o:Option Int):sIx n d o<=n:=by
 cases o with
 |none=>exact hd
 |some v =>
  show (if v<0 then (v+(n:Int)).toNat else min v.toNat n)<=n;by_cases hv:v<0
  ·rw[if_pos hv];omega
  ·rw[if_neg hv];exact Nat.min_le_right _ _
theorem mO (v:Int) (n d:Nat):(if v<0 then max (v+(n:Int)) 0 else min v (n:Int))=((sIx n d (some v):Nat):Int):=by
 show (if v<0 then max (v+(n:Int)) 0 else min v (n:Int))=(((if v<0 then (v+(n:Int)).toNat else min v.toNat n):Nat):Int)
 by_cases hv:v<0
 ·simp only[if_pos hv];omega
 ·simp only[if_neg hv];omega
theorem mh (lo hi:Option Int) (n:Nat):Builtin.Slice.sliceAdjust lo hi 1 (n:Int)=(((sIx n 0 lo:Nat):Int),((sIx n n hi:Nat):Int)):=by
 have h1:¬ ((1:Int)<0):=by omega
 unfold Builtin.Slice.sliceAdjust;simp only[h1,if_false];refine Prod.ext ?_ ?_
 ·cases lo with
  |none=>rfl
  |some v=>exact mO v n 0
 ·cases hi with
  |none=>rfl
  |some v=>exact mO v n n
theorem my (i j:Nat):Builtin.Slice.slicePlaces (i:Int) (j:Int) 1=j-i:=by
 unfold Builtin.Slice.slicePlaces;have h1:(1:Int)>0:=by omega
 simp only[h1,if_true,Int.ediv_one];split <;> omega
theorem il {v:Value} {o:Option Int} {Q:Option Int->Shared->Prop} (p:IsPart v o) (h:Q o s):wpAny (model prog w) A (Builtin.Slice.slicePartIndex v) Q E s:=by
 cases p with
 |none=>exact slicePart_none h
 |int i t=>exact slicePart_int h
theorem eo {f:Addr} {c e:Value} {Q:Int×Int×Nat->Shared->Prop} (g:s.heap.IsSliceOf f c e .none) (pl:IsPart c lo) (i:IsPart e hi)
  (h:Q (((sIx n 0 lo:Nat):Int),1,sIx n n hi-sIx n 0 lo) s):wpAny (model prog w) A (Builtin.Slice.sliceApplied (.ref f) (pure (n:Int))) Q E s:=by
 obtain⟨os,a,hcs,b⟩:=id g;unfold Builtin.Slice.sliceApplied Builtin.Slice.sliceFields;refine wpAny_bind (wpAny_bind (wpAny_field a b (x:=c) rfl (wpAny_bind (wpAny_field a b (x:=e) rfl (wpAny_bind (wpAny_field a b (x:=.none) rfl (wpAny_pure ?_)))))));refine wpAny_bind (slicePart_none ?_);show wpAny _ _ (if ((1:Int)==0)=true then _ else _) _ _ s;rw[if_neg (by decide)];refine wpAny_bind (il pl (wpAny_bind (il i (wpAny_bind (wpAny_pure ?_)))));show wpAny _ _ (match Builtin.Slice.sliceAdjust lo hi 1 (n:Int) with|(lo,hi)=>pure (lo,(1:Int),Builtin.Slice.slicePlaces lo hi 1)) _ _ s;rw[mh lo hi n];show wpAny _ _ (pure (((sIx n 0 lo:Nat):Int),(1:Int),Builtin.Slice.slicePlaces ((sIx n 0 lo:Nat):Int) ((sIx n n hi:Nat):Int) 1)) _ _ s;rw[my];exact wpAny_pure h
theorem qF (xs:Array Value) (i k:Nat):((List.range k).filterMap λ(m:Nat)=>xs[((i:Int)+(m:Int)*1).toNat]?).toArray=((xs.toList.drop i).take k).toArray:=by
 have e:(λ(m:Nat)=>xs[((i:Int)+(m:Int)*1).toNat]?)=λm=>xs[i+m]?:=by
  funext m;have:((i:Int)+(m:Int)*1).toNat=i+m:=by omega
  rw[this]
 rw[e];have:=pick_run xs i k;rw[List.filterMap_map]at this;have e2:((λx=>xs[x]?)∘λx=>i+x)=λm=>xs[i+m]?:=rfl
 rw[e2]at this;rw[this]
theorem fU {c:Addr} {j k:Value} (b:IsTup s.heap t items) (l:s.heap.IsSliceOf c j k .none) (pl:IsPart j lo) (n:IsPart k hi)
  (hw:¬ (sIx items.size 0 lo=0/\sIx items.size items.size hi=items.size))
  (h:Q (.ref s.heap.objs.size) { s with heap:=s.heap.push { cls:=.type "tuple",data:=.seq ((items.toList.drop (sIx items.size 0 lo)).take (sIx items.size items.size hi-sIx items.size 0 lo)).toArray } })
  (hsz:items.size<=sizeLine):wpAny (model prog w) A (getItem (.ref t) (.ref c)) Q E s:=by
 have a:sizeOk (.seq ((items.toList.drop (sIx items.size 0 lo)).take (sIx items.size items.size hi-sIx items.size 0 lo)).toArray):=by show ((items.toList.drop (sIx items.size 0 lo)).take (sIx items.size items.size hi-sIx items.size 0 lo)).toArray.size<=sizeLine;rw[A6,Bg,List.length_drop,B9];omega
 have hj:sIx items.size items.size hi<=items.size:=vz _ _ (Ac _) hi;obtain⟨os,e,f,hds⟩:=id l;have g:s.TypeIs (.ref c) "slice":=⟨os,e,f⟩
 unfold getItem
 try with_reducible refine wpAny_holding ?_
 first|refine wpAny_bind (wpAny_pure ?_)|skip
 refine wpAny_bind (wpAny_sequenceKey b.typeIs (by decide) ?_);refine wpAny_bind (wpAny_callSpecial?_slot (name:=Str.ofString "__getitem__") b.typeIs PyProof.Rows.slot_tuple_getitem
  (wpAny_call_entry PyProof.Rows.slot_tuple_getitem b.typeIs entry_tuple_getitem ?_ (args_tuple_getitem _ _)))
 show wpAny _ _ (Builtin.Tuple.tupleItemsOf (.ref t) >>= _) _ _ s;refine wpAny_bind (tupleItemsOf_ b ?_);refine wpAny_bind (wpAny_typeOf g ?_);rw[if_pos (by decide)];refine wpAny_bind (eo l pl n ?_);have i:¬ ((((sIx items.size 0 lo:Nat):Int)==0&&(1:Int)==1&&(sIx items.size items.size hi-sIx items.size 0 lo)==items.size)=true):=by intro q;rw[A3,A3]at q;have q1:((sIx items.size 0 lo:Nat):Int)=0:=eq_of_beq q.1.1;have q2:sIx items.size items.size hi-sIx items.size 0 lo=items.size:=eq_of_beq q.2;exact hw ⟨by omega,by omega⟩
 show wpAny _ _ (if (((sIx items.size 0 lo:Nat):Int)==0&&(1:Int)==1&&(sIx items.size items.size hi-sIx items.size 0 lo)==items.size)=true then _ else _) _ _ s;rw[if_neg i,qF]
 first
  |exact wpAny_bind (m:=Builtin.Tuple.tupleExact _) (wpAny_newObj_type (wpAny_pure ⟨_,rfl,wpAny_pure h⟩) a)
  |exact wpAny_bind (m:=Builtin.Tuple.tupleExact _) (wpAny_newObj_type (wpAny_bind (wpAny_pure (wpAny_pure ⟨_,rfl,wpAny_pure h⟩))) a)
  |exact wpAny_bind (wpAny_bind (m:=Builtin.Tuple.tupleExact _) (wpAny_newObj_type (wpAny_pure (wpAny_pure ⟨_,rfl,wpAny_pure h⟩)) a))
  |exact wpAny_bind (wpAny_bind (m:=Builtin.Tuple.tupleExact _) (wpAny_newObj_type (wpAny_pure ⟨_,rfl,wpAny_pure h⟩) a))
end
end HT
namespace L2
open PySem PySem.Spec PyProof.Rows
variable {a:List Value}
abbrev TO:=St->Hp->(Option Int->Hp->Prop)->Prop
def PO (X:Cx) (e:Option Expr) (t:TO):Prop :=
 ∀(pins:List (Addr×Obj)) (s:Shared) (σ:St) (H:Hp) (Q:Option Int->Hp->Prop),Inv X pins σ H s->t σ H Q ->
  wpAny (model X.prog X.w) X.A (evalPart e X.env) (λu s'=>∃o H',Inv X pins σ H' s'/\IsPart u o/\Q o H') X.xe s
def tw:TO:=λ_ H Q=>Q none H
def wD (t:TE):TO:=λσ H Q=>t σ H λx H1=>∃i,x=.int i/\Q (some i) H1
section
variable {te:TE} {lo hi:Option Expr} {tl th:TO}
theorem tT:PO X none tw:=by intro pins s σ H Q I h;rw[evalPart_none];exact wpAny_pure ⟨none,H,I,.none,h⟩
theorem sr (h:PE X e te):PO X (some e) (wD te):=by
 intro pins s σ H Q I hw;rw[evalPart_some];refine thn (h pins s σ H _ I hw) λu s1 a=>?_
 obtain⟨x,H1,b,c,f⟩:=a;obtain⟨i,rfl,q⟩:=f;obtain⟨t,rfl⟩:=c;exact⟨some i,H1,b,.int i t,q⟩
def SlR (X:Cx) (r:V->Option Int->Option Int->Hp->VK->Prop):Prop :=
 ∀(pins:List (Addr×Obj)) (s:Shared) (σ:St) (H:Hp) (x:V) (v a b:Value) (lo hi:Option Int) (c:Addr) (Q:VK),Inv X pins σ H s->RelV x v->s.heap.IsSliceOf c a b .none->IsPart a lo->IsPart b hi->r x lo hi H Q ->
  ∃T id,typeLookup (.type T) "__getitem__"=pure (some (.builtin id))/\s.TypeIs v T/\wpAny (model X.prog X.w) X.A (getItem v (.ref c)) (EP X pins σ Q) X.xe s
theorem SlR.or {a:V->Option Int->Option Int->Hp->VK->Prop} (h:SlR X r) (h':SlR X a):SlR X (λx lo hi H Q=>r x lo hi H Q\/a x lo hi H Q):=by
 intro pins s σ H x v b c lo hi e Q I f g pl i q;rcases q with q|q
 ·exact h pins s σ H x v b c lo hi e Q I f g pl i q
 ·exact h' pins s σ H x v b c lo hi e Q I f g pl i q
def tSl (r:V->Option Int->Option Int->Hp->VK->Prop) (te:TE) (tl th:TO):TE:=λσ H Q=>te σ H λx H1=>tl σ H1 λl H2=>th σ H2 λu a=>r x l u a Q
theorem pj (j:SlR X r) (k:PE X e te) (hl:PO X lo tl) (m:PO X hi th):PE X (.Subscript e (.Slice lo hi none p2) pos) (tSl r te tl th):=by
 intro pins s σ H Q I h;refine Subscript_ (thn (k pins s σ H _ I h) λv n a=>?_);obtain⟨x,H1,o,p,t⟩:=a;refine wpAny_Slice (thn (hl pins n σ H1 _ o t) λf s2 a=>?_);obtain⟨l,H2,y,pl,z⟩:=a;refine thn (m pins s2 σ H2 _ y z) λg c a=>?_
 obtain⟨u,i,B,C,D⟩:=a;rw[evalPart_none];refine wpAny_pure ?_;have E:Inv X pins σ i { c with heap:=c.heap.push { cls:=.type "slice",data:=.fields #[f,g,.none] } }:=B.kept (t':=c.toks) λb ob q=>A1 _ q
 obtain⟨T,id,F,G,J⟩:=j pins { c with heap:=c.heap.push { cls:=.type "slice",data:=.fields #[f,g,.none] } } σ i x v f g l u c.heap.objs.size Q E p (Heap.IsSliceOf.new ..) pl C D;show wpAny (model X.prog X.w) X.A (subscriptTail e (.Slice lo hi none p2) v (.ref c.heap.objs.size)) (EP X pins σ Q) X.xe { c with heap:=c.heap.push { cls:=.type "slice",data:=.fields #[f,g,.none] } };exact tail_any (ops:=[.ref c.heap.objs.size,v]) G F J (by with_unfolding_all rfl)
def lz (xs:List V) (lo hi:Option Int):List V:=(xs.drop (HT.sIx xs.length 0 lo)).take (HT.sIx xs.length xs.length hi-HT.sIx xs.length 0 lo)
theorem gY (xs:List V) (lo hi:Option Int):(lz xs lo hi).length<=xs.length:=by unfold lz;rw[Bg,List.length_drop];omega
def yr (K:PySem.W.Frag):V->Option Int->Option Int->Hp->VK->Prop:=λx lo hi H Q=>∃a xs,x=.ref a/\SqT K H a xs /\
 ¬ (HT.sIx xs.length 0 lo=0/\HT.sIx xs.length xs.length hi=xs.length)/\∀p,H p=none->Q (.ref p) (upd H p (.tup (lz xs lo hi)))
theorem wo:SlR X (yr X.K):=by
 intro pins s σ H x v vl vu lo hi sl Q I g i pl j h;obtain⟨a,xs,rfl,k,hw,q⟩:=h;cases g;obtain⟨c,r,e,f⟩:=I.tuple k;have hlen:c.toArray.size=xs.length:=by rw[A6];exact r.length.symm
 refine⟨"tuple",_,PyProof.Rows.slot_tuple_getitem.lookup,e.typeIs,?_⟩;refine HT.fU e i pl j (by rw[hlen];exact hw) ?_ (by rw[hlen];exact f);rw[hlen];refine⟨.ref s.heap.objs.size,_,I.laid (t':=s.toks) (o:=.tup (lz xs lo hi)) (λb ob q=>A1 _ q) (Ac _) ?_,rfl,q _ (I.hok.fresh (Ac _))⟩;exact⟨AI (gY xs lo hi) f,_,(r.drop (HT.sIx xs.length 0 lo)).take (HT.sIx xs.length xs.length hi-HT.sIx xs.length 0 lo),kg.new _ _⟩
def wU (K:PySem.W.Frag):R2:=λx y H Q=>∃a b xs ys,x=.ref a/\y=.ref b/\SqT K H a xs/\SqT K H b ys/\xs≠[]/\xs.length+ys.length<=sizeLine /\
 (ys=[]->Q (.ref a) H)/\(ys≠[]->∀p,H p=none->Q (.ref p) (upd H p (.tup (xs++ys))))
theorem Vals.nil_iff (r:Vals xs us):us=[]↔xs=[]:=by
 cases r with
 |nil=>simp
 |cons _ _=>simp
theorem tM:OpR X (binaryOp .Add) (wU X.K):=by intro pins s σ H x y v u Q I g i h;obtain⟨a,b,xs,ys,rfl,rfl,ha,j,k,f,l,m⟩:=h;cases g;cases i;obtain⟨its,e,p1,_⟩:=I.tuple ha;obtain⟨its2,c,p2,_⟩:=I.tuple j;refine HT.tP p1 p2 (λz=>k (e.nil_iff.mp z)) (λz=>⟨.ref a,H,I,rfl,l (c.nil_iff.mp z)⟩) (λz=>?_) (by rw[<-e.length,<-c.length];exact f);refine⟨.ref s.heap.objs.size,_,I.laid (t':=s.toks) (o:=.tup (xs++ys)) (λb ob q=>A1 _ q) (Ac _) ?_,rfl,m (λw=>z (c.nil_iff.mpr w)) _ (I.hok.fresh (Ac _))⟩;exact⟨by rw[Al];exact f,_,e.append c,kg.new _ _⟩
end
noncomputable def ixN (n:Nat) (i:Int):Option Nat:=if 0<=i then (if i<n then some i.toNat else none) else if -(n:Int)<=i then some (i+n).toNat else none
def atI {α:Type} (xs:List α) (i:Int):Option α:=(ixN xs.length i).bind λj=>xs[j]?
theorem mS {i:Int} (h:ixN n i=some j):seqIndex? i n=some j/\j<n/\-(n:Int)<=i/\i<n:=by
 unfold ixN at h;by_cases h0:0<=i
 ·rw[if_pos h0]at h;by_cases h1:i<n
  ·rw[if_pos h1]at h;have e:i.toNat=j:=Option.some.inj h;exact⟨by rw[seqIndex_of h0 h1,e],by omega,by omega,h1⟩
  ·rw[if_neg h1]at h;cases h
 ·rw[if_neg h0]at h;by_cases h1:-(n:Int)<=i
  ·rw[if_pos h1]at h;have e:(i+n).toNat=j:=Option.some.inj h;exact⟨by rw[seqIndex_neg (by omega) h1,e],by omega,h1,by omega⟩
  ·rw[if_neg h1]at h;cases h
theorem nG {xs:List α} {i:Int} {v:α} (h:atI xs i=some v):∃j,seqIndex? i xs.length=some j/\xs[j]?=some v/\j<xs.length/\-(xs.length:Int)<=i/\i<xs.length:=by
 unfold atI at h;cases e:ixN xs.length i with
 |none=>rw[e]at h;cases h
 |some j =>rw[e]at h;obtain⟨h1,h2,a,b⟩:=mS e;exact⟨j,h1,h,h2,a,b⟩
theorem fq {xs:List α} {v:α} (h:xs[j]?=some v):atI xs (j:Int)=some v:=by
 have hj:j<xs.length:=(Ar.mp h).1;have e:ixN xs.length (j:Int)=some j:=by unfold ixN;rw[if_pos (by omega),if_pos (by omega)];simp
 unfold atI;rw[e];exact h
def fj (b:Expr):Prop:=∀o i,subscripted b false o i=operate [o,i] (getItem o i)
def IxR (X:Cx) (r:R2):Prop :=
 ∀(value slice:Expr) (pins:List (Addr×Obj)) (s:Shared) (σ:St) (H:Hp) (x y:V) (v u:Value) (Q:VK),Inv X pins σ H s->RelV x v->RelV y u->r x y H Q ->
  subscripted slice false v u=operate [v,u] (getItem v u)->wpAny (model X.prog X.w) X.A (subscriptTail value slice v u) (EP X pins σ Q) X.xe s
def MtR (X:Cx) (id:String) (r:V->List V->Hp->VK->Prop):Prop :=
 ∀(pins:List (Addr×Obj)) (s:Shared) (σ:St) (H:Hp) (x:V) (xs:List V) (v:Value) (us:List Value) (Q:VK),Inv X pins σ H s->RelV x v->Vals xs us->r x xs H Q ->
  wpAny (model X.prog X.w) X.A (call (.builtin id) (v::us)) (EP X pins σ Q) X.xe s
section
variable {a b:Expr} {ta tb:TE}
theorem IxR.or {r a:R2} (h:IxR X r) (h':IxR X a):IxR X (λx y H Q=>r x y H Q\/a x y H Q):=by
 intro value slice pins s σ H x y v u Q I b c q e;rcases q with q|q
 ·exact h value slice pins s σ H x y v u Q I b c q e
 ·exact h' value slice pins s σ H x y v u Q I b c q e
theorem ij {r:R2} (c:IxR X r) (ha:PE X a ta) (e:PE X b tb) (f:fj b):PE X (.Subscript a b pos) (tOp r ta tb):=by intro pins s σ H Q I h;exact Subscript_ (vR ha e I h λv u s2 x y H2 g i j q=>c a b pins s2 σ H2 x y v u Q g i j q (f _ _))
def xE (K:PySem.W.Frag):R2:=λx y H Q=>∃p xs i v,x=.ref p/\y=.int i/\SqL K H p xs/\atI xs i=some v/\Q v H
def xf (K:PySem.W.Frag):R2:=λx y H Q=>∃p xs i v,x=.ref p/\y=.int i/\SqT K H p xs/\atI xs i=some v/\Q v H
theorem eF:IxR X (xE X.K):=by
 intro value slice pins s σ H x y v u Q I g k h e;obtain⟨p,xs,i,z,rfl,rfl,l,m,q⟩:=h;cases g;obtain⟨t,rfl⟩:=k;obtain⟨a,r,pl,hz⟩:=I.list l;obtain⟨j,h1,h2,h3,n,o⟩:=nG m;obtain⟨w,f,b⟩:=r.get h2;have hl:=r.length;have hn:=ki;have fin:EP X pins σ Q w s:=⟨z,H,I,b,q⟩
 by_cases h0:0<=i
 ·have c:i.toNat=j:=by rw[seqIndex_of h0 o]at h1;exact Option.some.inj h1
  exact item_listR pl.isList h0 (by omega) (by rw[c];simpa using f) fin e
 ·have c:(i+(a.toArray.size:Int)).toNat=j:=by rw[seqIndex_neg (by omega) n]at h1;rw[A6,<-hl];exact Option.some.inj h1
  exact subscriptTail_builtinR (x:=w) pl.isList.typeIs slot_list_getitem.lookup
   (wpAny_getItem_list_neg (Q:=λr s'=>r=w/\EP X pins σ Q r s') pl.isList (by omega) (by rw[A6] <;> omega) (by omega) (by rw[c];simpa using f) ⟨rfl,fin⟩) e
theorem vT:IxR X (xf X.K):=by
 intro value slice pins s σ H x y v u Q I b c h e;obtain⟨p,xs,i,z,rfl,rfl,f,g,q⟩:=h;cases b;obtain⟨t,rfl⟩:=c;obtain⟨its,r,pl,hz⟩:=I.tuple f;obtain⟨j,h1,h2,h3,h4,h5⟩:=nG g;obtain⟨w,k,a⟩:=r.get h2;have hl:=r.length;have hn:=ki;have fin:EP X pins σ Q w s:=⟨z,H,I,a,q⟩
 exact subscriptTail_builtinR (x:=w) pl.typeIs slot_tuple_getitem.lookup
  (getItem_tuple (j:=j) (Q:=λr s'=>r=w/\EP X pins σ Q r s') pl (by omega) (by omega) (by rw[A6,<-hl];exact h1) (by simpa using k) ⟨rfl,fin⟩) e
theorem ma (a:List Value) (n j:Nat) (u:Value):Obj.mapSeq (·.setIfInBounds j u) { cls:=.type "list",data:=.seq a.toArray n }={ cls:=.type "list",data:=.seq (a.set j u).toArray n }:=by simp[Obj.mapSeq]
theorem Inv.lst {p:Addr} (I:Inv X pins σ H s) (h:H p=some (.lst xs)) :
  ∃(a:List Value) (n:Nat),Vals xs a/\s.heap.get? p=some { cls:=.type "list",data:=.seq a.toArray n }/\xs.length<=sizeLine:=by
 obtain⟨z,a,n,r,e⟩:=I.hok p _ h;exact⟨a,n,r,e,z⟩
theorem Inv.lstUpd {p:Addr} {a:List Value} {n':Nat} {f:Obj->Obj} (I:Inv X pins σ H s) (h:H p=some (.lst xs))
  (g:s.heap.get? p=some { cls:=.type "list",data:=.seq a.toArray n }) (c:f { cls:=.type "list",data:=.seq a.toArray n }={ cls:=.type "list",data:=.seq its'.toArray n' }) (r:Vals ys its') (i:ys.length<=sizeLine) (t:Nat) :
  Inv X pins σ (upd H p (.lst ys)) { s with heap:=s.heap.update p f,toks:=t }:=by
 have e:(s.heap.update p f).get? p=some { cls:=.type "list",data:=.seq its'.toArray n' }:=by rw[Heap.get?_update_self f g (by rw[c] <;> rfl),c]
 refine I.write (x:=p) (e:=p) (by rw[h];trivial) (.inl rfl) (λb u j q=>(B0 _ _ (Ne.symm j)).trans q) ⟨_,e⟩ ?_;exact⟨i,its',n',r,e⟩
def xk:V->V->V->Hp->(Hp->Prop)->Prop:=λo i v H Q=>∃p xs k j,o=.ref p/\i=.int k/\H p=some (.lst xs)/\ixN xs.length k=some j/\Q (upd H p (.lst (xs.set j v)))
theorem set_list:xy X xk:=by
 intro pins s σ H o i v ov iv u Q I m w x h;obtain⟨p,xs,k,j,rfl,rfl,e,y,q⟩:=h;cases m;obtain⟨t,rfl⟩:=w;obtain⟨a,n,r,b,z⟩:=I.lst e;obtain⟨h1,h2,f,g⟩:=mS y;have hl:=r.length;have hn:=ki;have l:Inv X pins σ (upd H p (.lst (xs.set j v))) { s with heap:=s.heap.update p (Obj.mapSeq (·.setIfInBounds j u)) } :=
  I.lstUpd e b (ma a n j u) (r.set x j) (by rw[List.length_set];exact z) s.toks
 by_cases h0:0<=k
 ·have c:k.toNat=j:=by rw[seqIndex_of h0 g]at h1;exact Option.some.inj h1
  exact PySem.W.ki_setAt b h0 (by omega) (by rw[A6,<-hl];exact g) (by rw[c];exact⟨_,l,q⟩)
 ·have c:(k+(a.toArray.size:Int)).toNat=j:=by rw[seqIndex_neg (by omega) f]at h1;rw[A6,<-hl];exact Option.some.inj h1
  exact PySem.W.ki_setBack b (by omega) (by rw[A6,<-hl];exact f) (by omega) (by rw[c];exact⟨_,l,q⟩)
theorem j6 (lo hi:Option Int) (n:Nat):(sliceBounds lo hi none n).1=((HT.sIx n 0 lo:Nat):Int)/\(sliceBounds lo hi none n).2.1=((HT.sIx n n hi:Nat):Int)/\(sliceBounds lo hi none n).2.2=1:=by
 refine⟨?_,?_,rfl⟩
 ·cases lo with
  |none=>simp[sliceBounds,HT.sIx]
  |some i =>
   simp only[sliceBounds,HT.sIx,Option.getD_none,show (1:Int)>0 by decide,if_true];by_cases h:i<0
   ·simp only[h,if_true] <;> omega
   ·simp only[h,if_false] <;> omega
 ·cases hi with
  |none=>simp[sliceBounds,HT.sIx]
  |some i =>
   simp only[sliceBounds,HT.sIx,Option.getD_none,show (1:Int)>0 by decide,if_true];by_cases h:i<0
   ·simp only[h,if_true] <;> omega
   ·simp only[h,if_false] <;> omega
theorem jj (a:List Value) (lo hi:Option Int):slicePick a.toArray lo hi none=((a.drop (HT.sIx a.length 0 lo)).take (HT.sIx a.length a.length hi-HT.sIx a.length 0 lo)).toArray:=by obtain⟨h1,h2,b⟩:=j6 lo hi a.toArray.size;unfold slicePick;rw[h1,h2,b];simp only[sliceRange_one,pick_run,A6] <;> rfl
def yL (K:PySem.W.Frag):V->Option Int->Option Int->Hp->VK->Prop:=λx lo hi H Q=>∃a xs,x=.ref a/\SqL K H a xs/\∀p,H p=none->Q (.ref p) (upd H p (.lst (lz xs lo hi)))
theorem rP:SlR X (yL X.K):=by intro pins s σ H x v vl vu lo hi sl Q I e f pl g h;obtain⟨a,xs,rfl,i,q⟩:=h;cases e;obtain⟨its,r,c,j⟩:=I.list i;have hlen:=r.length;refine⟨"list",_,slot_list_getitem.lookup,c.isList.typeIs,?_⟩;refine wpAny_getItem_list_slice c.isList f pl g .none (by simp) ?_ (by rw[A6] <;> omega);rw[jj,<-hlen];refine⟨.ref s.heap.objs.size,_,I.laid (t':=s.toks) (o:=.lst (lz xs lo hi)) (λb ob q=>A1 _ q) (Ac _) ?_,rfl,q _ (I.hok.fresh (Ac _))⟩;exact⟨AI (gY xs lo hi) j,_,0,(r.drop (HT.sIx xs.length 0 lo)).take (HT.sIx xs.length xs.length hi-HT.sIx xs.length 0 lo),Ae _ rfl⟩
def eqV:V->V->Bool
 |.non,.non=>true
 |.bl a,.bl b=>a==b
 |.bl a,.int b=>(if a then 1 else 0)==b
 |.int a,.bl b=>a==(if b then 1 else 0)
 |.int a,.int b=>a==b
 |.str a,.str b=>a==b
 |_,_=>false
theorem eI:eX X (.builtin "len") (λxs H Q=>∃p ys,xs=[.ref p]/\(SqL X.K H p ys\/SqT X.K H p ys)/\Q (.int ys.length) H):=by
 intro pins s σ H xs us Q I r h;obtain⟨p,ys,rfl,a,q⟩:=h;obtain⟨u,rfl,e⟩:=vals1 r;cases e;have hn:=ki;rcases a with a|a
 ·obtain⟨b,c,pl,f⟩:=I.list a;have hlen:=c.length;exact Calls.call_len_list pl.isList (by simp only[A6] <;> omega) ⟨.int ys.length,H,I.tok _,⟨s.toks+1,by rw[A6,hlen]⟩,q⟩
 ·obtain⟨b,c,pl,f⟩:=I.tuple a;have hlen:=c.length;exact len_tuple pl (by simp only[A6] <;> omega) ⟨.int ys.length,H,I.tok _,⟨s.toks+1,by rw[A6,hlen]⟩,q⟩
theorem fY:eX X (.type "list") (λxs H Q=>∃p ys,xs=[.ref p]/\(SqL X.K H p ys\/SqT X.K H p ys)/\∀l,H l=none->Q (.ref l) (upd H l (.lst ys))):=by
 intro pins s σ H xs us Q I r h;obtain⟨p,ys,rfl,g,q⟩:=h;obtain⟨u,rfl,k⟩:=vals1 r;cases k;have fin:∀(a:List Value),Vals ys a->ys.length<=sizeLine->∀(h':Heap) (c:Nat),(∀b o',s.heap.get? b=some o'->h'.get? b=some o') ->
   h'.get? s.heap.objs.size=some { cls:=.type "list",dict:=none,data:=.seq a.toArray c,slots:=#[] }->EP X pins σ Q (.ref s.heap.objs.size) { s with heap:=h' }:=λa f i h' c kp e =>
  ⟨.ref s.heap.objs.size,_,I.laid (t':=s.toks) kp (Ac _) (show cI X.prog X.w _ h' _ (.lst ys) from⟨i,a,c,f,e⟩),rfl,q _ (I.hok.fresh (Ac _))⟩
 rcases g with g|g
 ·obtain⟨a,f,pl,i⟩:=I.list g;have hlen:=f.length;obtain⟨o,j,hc,n,hd⟩:=pl.isList;exact call_list_seq p (.inl rfl) j hc hd (λh' c kp e=>fin a f i h' c kp e) (by simp only[A6] <;> omega)
 ·obtain⟨a,f,pl,i⟩:=I.tuple g;have hlen:=f.length;obtain⟨o,j,hc,n,hd⟩:=pl;exact call_list_seq p (.inr rfl) j hc hd (λh' c kp e=>fin a f i h' c kp e) (by simp only[A6] <;> omega)
theorem jl:eX X (.type "tuple") (λxs H Q=>∃p ys,xs=[.ref p]/\((SqL X.K H p ys/\∀l,H l=none->Q (.ref l) (upd H l (.tup ys)))\/(SqT X.K H p ys/\Q (.ref p) H))):=by
 intro pins s σ H xs us Q I r h;obtain⟨p,ys,rfl,h⟩:=h;obtain⟨u,rfl,j⟩:=vals1 r;cases j;rcases h with⟨c,q⟩|⟨c,q⟩
 ·obtain⟨a,f,pl,g⟩:=I.list c;have hlen:=f.length;refine call_tuple_list pl.isList (λh' kp=>?_) (by simp only[A6] <;> omega);have i:Inv X pins σ H { s with heap:=h' }:=I.kept (t':=s.toks) kp;have k:Inv X pins σ (upd H h'.objs.size (.tup ys)) { s with heap:=h'.push { cls:=.type "tuple",data:=.seq a.toArray } } :=
   i.laid (t':=s.toks) (λb o e=>A1 _ e) (Ac _) (show cI X.prog X.w _ _ _ (.tup ys) from⟨g,a,f,kg.new _ _⟩)
  exact⟨.ref h'.objs.size,_,k,rfl,q _ (i.hok.fresh (Ac _))⟩
 ·obtain⟨a,f,pl,g⟩:=I.tuple c;exact call_tuple_same pl ⟨.ref p,H,I,rfl,q⟩
def tyV (K:PySem.W.Frag) (T:String) (x:V) (H:Hp):Prop:=match x with
 |.str _=>T="str"
 |.int _=>T="int"
 |.ref p=>(T="list"/\∃xs,SqL K H p xs)\/(T="tuple"/\∃o,K.lookup p=some o/\o.cls=.type "tuple"/\o.dict=none) \/
  (T="dict"/\((∃kvs,H p=some (.dK kvs))\/∃kvs,H p=some (.dT kvs)))\/(T="set"/\∃S n,H p=some (.set S n))
 |_=>False
theorem vf {T:String} {x:V} {v:Value} (I:Inv X pins σ H s) (r:RelV x v) (ty:tyV X.K T x H) :
  s.TypeIs v T/\∀a,v=.ref a->∃ob,s.heap.get? a=some ob/\ob.dict=none:=by
 cases x with
 |str z =>obtain⟨t,rfl⟩:=r;cases (show T="str" from ty);exact⟨typeIs_str s z t,λ_ e=>nomatch e⟩
 |int i =>obtain⟨t,rfl⟩:=r;cases (show T="int" from ty);exact⟨typeIs_int s i t,λ_ e=>nomatch e⟩
 |ref p =>
  cases r;rcases ty with⟨rfl,xs,f⟩|⟨rfl,o,b,hc,hd⟩|⟨rfl,b⟩|⟨rfl,S,n,b⟩
  ·obtain⟨its,_,pl,_⟩:=I.list f;refine⟨pl.isList.typeIs,λa e=>?_⟩;cases e;obtain⟨o,n,e,c,hd,_⟩:=pl;exact⟨o,e,hd⟩
  ·refine⟨⟨o,I.kIn p o b,hc⟩,λa e=>?_⟩;cases e;exact⟨o,I.kIn _ o b,hd⟩
  ·have z:∃o,s.heap.get? p=some o/\o.ExactDict:=by
    rcases b with⟨kvs,b⟩|⟨kvs,b⟩
    ·obtain⟨_,_,_,_,o,_,_,e,ex,_⟩:=I.hok p _ b;exact⟨o,e,ex⟩
    ·obtain⟨_,_,_,_,o,_,_,e,ex,_⟩:=I.hok p _ b;exact⟨o,e,ex⟩
   obtain⟨o,e,ex⟩:=z;refine⟨⟨o,e,ex.1⟩,λa e2=>?_⟩;cases e2;exact⟨o,e,ex.2.1⟩
  ·obtain⟨o,_,_,_,e,ex,_⟩:=I.hok p _ b;refine⟨⟨o,e,ex.1⟩,λa e2=>?_⟩;cases e2;exact⟨o,e,ex.2.1⟩
 |_=>exact False.elim ty
def tBM (K:PySem.W.Frag) (T:String) (r:V->List V->Hp->VK->Prop) (to:TE) (t:TA):TE:=λσ H Q=>to σ H λx H1=>tyV K T x H1/\t σ H1 λxs H2=>r x xs H2 Q
variable {o:Expr} {es:List Expr} {to:TE} {t:TA} {name:Str} {apos:Pos} {T id:String} {r:V->List V->Hp->VK->Prop}
theorem lH (n:PlainAttrs T) (slot:Slot T name id) (g:typeOf (.builtin id)=pure (.type "method_descriptor")) (hm:MtR X id r) (p:PE X o to) (ha:PA X (e::es) t)
  (b:attributeBase o name X.env (eval o X.env)=eval o X.env:=by rfl)
  (f:((backTo cpos (starEach (e::es) X.env)).all (λx=>!x.1)&&(backToKw cpos (keywordEach [] X.env)).all (λx=>x.1.isSome)
  &&decide ((e::es).length+([]:List Keyword).length+(if ([]:List Keyword).isEmpty then 0 else 1)<30))=true:=by rfl)
  (c:(apos.endLine==cpos.line)=true:=by rfl) (q:starEach (e::es) X.env=(false,eval e X.env)::starEach es X.env:=by rfl) (a:(backTo cpos (starEach es X.env)).any (·.1)=false:=by rfl) :
  PE X (.Call (.Attribute o name apos) (e::es) [] cpos) (tBM X.K T r to t):=by
 intro pins s σ H Q I h;refine wpAny_Call_method_late b f c rfl (thn (p pins s σ H _ I h) λv u i=>?_);obtain⟨x,H1,k,l,ty,w⟩:=i;obtain⟨h1,h2⟩:=vf k l ty;refine⟨T,id,n,slot,g,h1,h2,?_⟩;have m:=ha cpos pins u σ H1 _ k w;rw[q]at m ⊢;refine Calls.callWith_builtin (by show (false||(backTo cpos (starEach es X.env)).any (·.1))=false;rw[a] <;> rfl) (Calls.evalArgs_plain ?_);exact thn m λus s2 j=>(by obtain⟨vs,H2,y,z,A⟩:=j;exact hm pins s2 σ H2 x vs v us Q y l z A)
end
def MtM (X:Cx) (id:String) (r:V->List V->Hp->VK->Prop):Prop :=
 ∀(pins:List (Addr×Obj)) (s:Shared) (σ:St) (H:Hp) (x:V) (xs:List V) (v:Value) (us:List Value) (Q:VK),Inv X pins σ H s->RelV x v->Vals xs us->r x xs H Q ->
  wpAny (model X.prog X.w) X.A (call (.builtin id) (v::us)) (EP X pins σ Q) X.xe s
theorem Vals.one {x:V} (h:Vals [x] us):∃u,us=[u]/\RelV x u:=by
 cases h with
 |cons r t=>cases t;exact⟨_,rfl,r⟩
theorem Vals.two {x y:V} (h:Vals [x,y] us):∃u v,us=[u,v]/\RelV x u/\RelV y v:=by
 cases h with
 |cons r t =>
  cases t with
  |cons q t=>cases t;exact⟨_,_,rfl,r,q⟩
theorem Vals.rep {xs:List V} {us:List Value} (h:Vals xs us):∀k:Nat,Vals (List.replicate k xs).flatten (List.replicate k us).flatten
 |0=>.nil
 |k+1=>by rw[AF,AF,AO,AO];exact Vals.append h (Vals.rep h k)
theorem foldl_rep (a:List Value):∀(k:Nat) (acc:List Value),
  List.foldl (λb c=>b++c) acc.toArray (List.replicate k a.toArray)=(acc++(List.replicate k a).flatten).toArray
 |0,acc=>by simp
 |k+1,acc=>by
  have e:acc.toArray++a.toArray=(acc++a).toArray:=by simp
  have e2:(acc++a)++(List.replicate k a).flatten=acc++(List.replicate (k+1) a).flatten:=by rw[AF,AO,List.append_assoc]
  rw[<-e2,<-foldl_rep a k (acc++a),<-e,AF,List.foldl_cons]
section
variable {l:Addr} {zs:List V}
theorem Inv.lset {f:Array Value->Array Value} {t':Nat} (I:Inv X pins σ H s) (b:H l=some (.lst xs))
  (e:s.heap.get? l=some { cls:=.type "list",data:=.seq a.toArray n }) (c:f a.toArray=its'.toArray) (hv:Vals ys its') (g:ys.length<=sizeLine) :
  Inv X pins σ (upd H l (.lst ys)) { s with heap:=s.heap.update l (Obj.mapSeq f),toks:=t' }:=by
 have q:=PySem.IsL.update e f;rw[c]at q;refine I.write (x:=l) (e:=l) (by rw[b];exact trivial) (.inl rfl) (λb' u h i=>(B0 s.heap (Obj.mapSeq f) (Ne.symm h)).trans i) ⟨_,q⟩ ?_;exact⟨g,its',_,hv,q⟩
theorem Inv.lnew {t':Nat} (I:Inv X pins σ H s) (hv:Vals ys a) (b:ys.length<=sizeLine) :
  Inv X pins σ (upd H s.heap.objs.size (.lst ys)) { s with heap:=s.heap.push { cls:=.type "list",data:=.seq a.toArray },toks:=t' } :=
 I.laid (λ_ _ q=>A1 _ q) (Ac _) ⟨b,a,0,hv,Ae _ rfl⟩
theorem Inv.fresh (I:Inv X pins σ H s):H s.heap.objs.size=none:=I.hok.fresh (Ac _)
theorem Inv.lstM (I:Inv X pins σ H s) (b:H l=some (.lst xs)):xs.length<=sizeLine/\∃(a:List Value) (n:Nat),Vals xs a/\xs.length=a.length/\s.heap.get? l=some { cls:=.type "list",data:=.seq a.toArray n }:=by obtain⟨z,a,n,r,e⟩:=I.hok l _ b;exact⟨z,a,n,r,r.length,e⟩
theorem qi (h:n<=sizeLine):Builtin.List.listTooLong n=false:=by unfold Builtin.List.listTooLong;exact decide_eq_false (by omega)
end
section
def t8:V->List V->Hp->VK->Prop:=λx vs H Q=>∃l xs y,x=.ref l/\vs=[y]/\H l=some (.lst xs)/\xs.length<sizeLine/\Q .non (upd H l (.lst (xs++[y])))
theorem eE:MtM X "list.append" t8:=by intro pins s σ H x vs v us Q I c f h;obtain⟨l,xs,y,rfl,rfl,b,hz,q⟩:=h;cases c;obtain⟨u,rfl,g⟩:=f.one;obtain⟨z,a,n,r,hl,e⟩:=I.lstM b;refine call_meets F.slot_list_append ⟨_,e,rfl⟩ F.entry_list_append (F.args_list_append_2 _ _) (PySem.list_append l a.toArray n u (by rw[A6];omega)) ⟨e,?_⟩;refine⟨.non,_,I.lset (its':=a++[u]) b e (by simp) (r.append (.cons g .nil)) ?_,rfl,q⟩;rw[Al,AM];omega
def xi:R2:=λx y H Q=>∃l b xs zs,x=.ref l/\y=.ref b/\H l=some (.lst xs)/\H b=some (.lst zs)/\xs.length+zs.length<=sizeLine/\∀p,H p=none->Q (.ref p) (upd H p (.lst (xs++zs)))
theorem vi:OpR X (binaryOp .Add) xi:=by
 intro pins s σ H x y v u Q I f g h;obtain⟨l,b,xs,zs,rfl,rfl,i,hB,hz,q⟩:=h;cases f;cases g;obtain⟨z,c,n,r,hl,e⟩:=I.lstM i;obtain⟨z2,a,n2,j,hl2,e2⟩:=I.lstM hB;refine PySem.P.add_list e e2 ?_ (by rw[A6,A6];omega);have ea:c.toArray++a.toArray=(c++a).toArray:=by simp
 rw[ea];exact⟨.ref _,_,I.lnew (t':=s.toks) (r.append j) (by rw[Al];omega),rfl,q _ I.fresh⟩
def wN:R2:=λx y H Q=>∃l k xs,x=.ref l/\y=.int k/\H l=some (.lst xs)/\-(2 ^ 63)<=k/\k<2 ^ 63/\xs.length*k.toNat<=sizeLine /\
 ∀p,H p=none->Q (.ref p) (upd H p (.lst (List.replicate k.toNat xs).flatten))
theorem len_rep (xs:List α) (k:Nat):(List.replicate k xs).flatten.length=k*xs.length:=by
 induction k with
 |zero=>simp
 |succ k ih=>rw[AF,AO,Al,ih,Nat.succ_mul,Nat.add_comm]
theorem u4:OpR X (binaryOp .Mult) wN:=by
 intro pins s σ H x y v u Q I w A h;obtain⟨l,k,xs,rfl,rfl,B,h1,h2,p,q⟩:=h;cases w;obtain⟨t,rfl⟩:=A;obtain⟨z,b,n,r,hl,e⟩:=I.lstM B;have hlen:b.toArray.size*k.toNat<=sizeLine:=by rw[A6,<-hl];exact p
 have f:¬ b.toArray.size*k.toNat>(2 ^ 63-1) / 8:=by
  have:(sizeLine:Nat)<=(2 ^ 63-1) / 8:=by decide
  omega
 have g:¬ (!Builtin.List.listFitsIndex k)=true:=by rw[fitsIndex_both h1 h2];exact AB
 have c:¬ Builtin.List.listTooLong (b.toArray.size*k.toNat)=true:=by rw[qi hlen];exact AB
 have i:List.foldl (λj o=>j++o) #[] (List.replicate (if b.toArray.isEmpty=true then 0 else k.toNat) b.toArray)=(List.replicate k.toNat b).flatten.toArray:=by
  have C:∀m:Nat,List.foldl (λj o=>j++o) #[] (List.replicate m b.toArray)=(List.replicate m b).flatten.toArray:=λm=>by have:=foldl_rep b m [];rw[AU]at this;exact this
  rw[C];cases b with
  |nil=>simp
  |cons a r'=>rw[if_neg (by simp)]
 refine wpAny_binaryOp_repeat_ref (T:="list") (U:="int") (by decide) ⟨_,e,rfl⟩ (λs'=>typeIs_int s' k t) noFill_list_mul F.fills_int_mul F.slot_int_rmul repeat_list F.slot_int_index.lookup
  (call_meets F.slot_int_rmul (typeIs_int s k t) F.entry_int_rmul (F.args_int_rmul_2 _ _) (int___rmul___int_list k t l b.toArray n)
   ⟨e,rfl,⟨_,e,rfl⟩,call_meets F.slot_list_mul ⟨_,e,rfl⟩ F.entry_list_mul (F.args_list_mul_2 _ _) (AutoListH.list___mul___list_int_3 l b.toArray n k t g f c) ⟨e,?_⟩⟩)
 rw[i];exact⟨.ref _,_,I.lnew (t':=s.toks) (r.rep k.toNat) (by rw[len_rep,Nat.mul_comm];exact p),rfl,q _ I.fresh⟩
end
section
variable {prog:Program} {A:Around}
end
section
end
end L2
namespace Att
open PySem PySem.W PySem.Calls PyProof.Rows
theorem hW {P:Params}:∀(ns:List Int) (vs:List Value),WellAll P h vs (ns.map WData.int)->IntsAre vs ns:=by
 intro ns
 induction ns with
 |nil =>intro vs w;rw[List.map_nil]at w;cases w;exact .nil
 |cons n ns ih =>
  intro vs w;rw[Au]at w;cases w with
  |cons a b =>cases a;exact .cons _ _ (ih _ b)
theorem oI {l:OpenLaw} (hn:l.most=some n) {P:Params} {args:List WData} {vals:List Value}
  (b:l.row.toRowW.claim.pre args=true) (f:WellAll P h vals args) :
  ∃a vs ns,vals=[Value.ref a]/\args=[WData.list (ns.map WData.int)]/\h.get? a=some { cls:=.type "list",data:=.seq vs.toArray }/\IntsAre vs ns/\ns.length<=n:=by
 have g:WShape.hasAll [] args [.list .int]=true:=(pre_splitW b).1;have hc:l.pre.holds [] { args:=args }=true:=(pre_splitW b).2;obtain⟨d,r,rfl,h1,h2⟩:=hasAllW_cons g;obtain rfl:=hasAllW_nil h2;obtain⟨xs,rfl,i⟩:=hasW_list h1;obtain⟨ns,rfl⟩:=items_int i;have hlen:ns.length<=n:=by
  unfold OpenLaw.pre at hc;have c:(WTm.not (.lt (.lit (.int (n:Int))) (.len (.arg 0)))).holds [] { args:=[.list (ns.map .int)] }=true:=by have c:=(holds_andW hc).1;rw[hn]at c;exact c
  have e:=condW_of c (w_not (w_lt w_lit (w_len_list (w_arg rfl))));rw[A7]at e;refine Nat.le_of_not_lt λq=>?_
  have j:(n:Int)<((ns.length:Nat):Int):=by omega
  first
   |(rw[decide_eq_true j]at e;exact absurd e (by decide))
   |(simp at e;omega)
 cases f with
 |cons w1 w2 =>
  cases w2;cases w1 with
  |list ho hall=>exact⟨_,_,ns,rfl,rfl,ho,hW ns _ hall,hlen⟩
theorem nN (l:OpenLaw) (args:List WData):l.row.toRowW.claim.post args (.bool true) args=true :=
 postW_of (r:=l.row.toRowW) (X:=(true==true))
  (show WShape.has [] (.bool true) .bool=true by first|rfl|decide|simp[WShape.has,WShape.arms,WShape.armsAll])
  (show (WTm.eq .res (.lit (.bool true))).value [] { args:=args,res:=some (.bool true),after:=args }=some (.bool (true==true)) from w_eq_bool (w_res rfl) w_lit) rfl
theorem lG {l:OpenLaw} {XP:(Str->Option Value)->Heap->Prop} {d:DefRec}
  (hn:l.most=some n) (h:d.params.defaults=[])
  (call:∀(w:World) (s₀ b:Shared) (mg i:Str->Option Value) (c:Addr) (o:Obj) (pm cd doc:Value) (a:Addr) (vs:List Value) (ns:List Int),
   Ground q loose [] XP w s₀ mg i b.heap->YP w b.heap ->
   b.heap.get? c=some o->o.data=.func (docDef d.name d.params d.body d.scope pm cd doc)->b.heap.CodeRec cd d.name->mg d.name=some (.ref c) ->
   b.heap.get? a=some { cls:=.type "list",data:=.seq vs.toArray }->IntsAre vs ns->ns.length<=n->b.gens=#[] ->
   codeAny (model l.prog w) callerA (.call (.ref c) ⟨[.ref a],[]⟩) (λr s'=>r=.ok (.ret (.bool true))/\OldK b.heap s'.heap/\s'.os=b.os/\AllBare s'.gens) b) :
  WalkO q loose XP YP l.row.toRowW d [] (λf vs=>PySem.call f vs):=by
 intro w s₀ b mg i G Y c o pm cd doc s kV t hd j p k u args vals as e hlay hrd m hlo;obtain rfl:s=.none:=Dflts.none p h;obtain rfl:kV=.none:=Dflts.noKw p;obtain⟨a,vs,ns,rfl,rfl,g,hints,hlen⟩:=oI hn e m;refine enter_call (codeAny_mono (call w s₀ b mg i c o pm cd doc a vs ns G Y t (fd_plain hd) j k g hints hlen u) λr s' v=>?_);obtain⟨rfl,h2,x,y⟩:=v;exact⟨.inl ⟨.bool true,.bool true,[],rfl,λ_=>rfl,.bool true,nN l _,λ_=>⟨List.Pairwise.nil,λ_ hm=>(nomatch hm)⟩⟩,h2,x,y⟩
section
variable {prog:Program} {A:Around} {K:Frag}
end
end Att
namespace L2
open PySem PySem.Spec PyProof.Rows
variable {f:Addr}
theorem jF:∀{vs:List Value} {ns:List Int},IntsAre vs ns->Vals (ns.map V.int) vs
 |_,_,.nil=>.nil
 |_,_,.cons n t h=>.cons ⟨t,rfl⟩ (jF h)
def vZ (H:Hp):Prop:=∀b,H b=none\/(∃o xs,H b=some (.frz o (.lst xs)))\/∃q,H b=some (.tbl q)
def i4 (K:PySem.W.Frag) (h:Heap):Prop:=(∀P q,TabOf K P q->h.get? P=some { cls:=.none,data:=.fields #[] }/\K.lookup P=none/\isCodeTable h P)/\∀P q a,TabOf K P q->TabOf K P a->q=a
section
open Classical
def fB (K:PySem.W.Frag):Hp:=λb=>if h:∃q,TabOf K b q then some (.tbl h.choose) else none
theorem bE (K:PySem.W.Frag) (b:Addr):fB K b=none\/∃q,TabOf K b q/\fB K b=some (.tbl q):=by
 unfold fB;split
 ·rename_i h;exact .inr ⟨_,h.choose_spec,rfl⟩
 ·exact .inl rfl
theorem jO (a:i4 K h) {P:Addr} {q:Str} (t:TabOf K P q):fB K P=some (.tbl q):=by
 rcases bE K P with e|⟨b,t',e⟩
 ·unfold fB at e;rw[dif_pos ⟨q,t⟩]at e;cases e
 ·rw[e,a.2 P q b t t']
end
def jN (mg:Str->Option Value) (base:Heap):Prop:=∃bm o,mg "__builtins__"=some (.ref bm)/\bm≠builtinsNs/\bm≠mainGlobals/\base.get? bm=some o/\o.cls=.type "module"/\o.dict=some builtinsNs/\o.data=.plain
theorem law_call {O:Str->Option Value} {CX:CXT} {Q:Addr} {c:Shared} {vs:List Value}
  (KX:K.In c.heap) (E:c.heap.Ns mainGlobals mg) (i:c.heap.Ns builtinsNs O) (R:∀x:Str,x≠"__name__"->O x=bootBuiltins x) (G:c.heap.NoLimit) (hg:c.gens=#[])
  (ha:c.heap.get? a=some { cls:=.type "list",data:=.seq vs.toArray }) (hi:IntsAre vs ns) (hl:ns.length<=sizeLine) (hr:cE k callerA)
  (S:jN mg c.heap) (F:∀base:Heap,K.In base->base.Ns mainGlobals mg->jN mg base->dj P w K mg base CX k Q fd [x] sp) (A:∀(s:Shared) (u:Value),BindsTo s fd ⟨[u],[]⟩ [(x,u)])
  (T:∀H:Hp,vZ H->SqL K H a (ns.map V.int)->sp [.ref a] H (λv _=>v=.bl true) λ_ _ _=>False)
  (U:∀H e s',CX [] H c (λ_ _ _=>False) e s'->False) (j:i4 K c.heap) :
  codeAny (model P w) callerA (.call (.ref Q) ⟨[.ref a],[]⟩) (λr s'=>r=.ok (.ret (.bool true))/\OldK c.heap s'.heap/\s'.os=c.os/\AllBare s'.gens) c:=by
 have rv:=jF hi;have I:=hi.length
 -- from an abstract heap in which nothing but the script may be tracked
 have core:∀H:Hp,vZ H->SqL K H a (ns.map V.int)->HOk P w H c.heap->(∀b,H b≠none->b=a\/∃q,TabOf K b q)->(H a≠none->K.lookup a=none)->(∀P q,TabOf K P q->H P=some (.tbl q)) ->
   codeAny (model P w) callerA (.call (.ref Q) ⟨[.ref a],[]⟩) (λr s'=>r=.ok (.ret (.bool true))/\OldK c.heap s'.heap/\s'.os=c.os/\AllBare s'.gens) c:=by
  intro H hO hS hok N hK X;have f:∀{b:Addr} {o:Obj},c.heap.get? b=some o->H b=none->(ju c.heap H).get? b=some o:=λe n=>qx e n
  have Y:∀{b:Addr} {o:Obj} {es:Array DictEntry} {J:Nat},c.heap.get? b=some o->o.data=.dict es J->H b=none:=λ{b o es J} e d=>by
   cases q:H b with
   |none=>rfl
   |some u =>
    rcases N b (by rw[q];simp) with g|⟨B,g⟩
    case inr=>rw[(j.1 b B g).1]at e;cases e;cases d
    subst g;rw[ha]at e;cases e;have d':Data.seq vs.toArray _=Data.dict es J:=d;cases d'
  have l:∀{b:Addr} {m:Str->Option Value},c.heap.Ns b m->(ju c.heap H).Ns b m:=λ{b m} qz2=>(by obtain⟨o,es,J,e,d,r⟩:=qz2;exact⟨o,es,J,f e (Y e d),d,r⟩)
  have L:K.In (ju c.heap H):=λb o e=>f (KX b o e) (by
   cases q:H b with
   |none=>rfl
   |some u =>
    rcases N b (by rw[q];simp) with g|⟨B,g⟩
    case inr=>rw[(j.1 b B g).2.1]at e;cases e
    subst g;rw[hK (by rw[q];simp)]at e;cases e)
  have hM:Mod K mg (ju c.heap H):=⟨L,l E,⟨O,l i,R⟩,let ⟨mc,h1,h2⟩:=G;⟨mc,l h1,h2⟩⟩
  have e0:rM P w K mg (ju c.heap H) callerA [] c H:=⟨rfl,hM,λb o e=>tD e,Nat.le_of_eq (nX _ _),trivial,λb i=>absurd (show b∈([]:List Addr) from i) (by simp),hok,.of_eq hg,X⟩
  have Z:jN mg (ju c.heap H):=by
   obtain⟨bm,ob,b1,b2,b3,M,b5,b6,b7⟩:=S;refine⟨bm,ob,b1,b2,b3,f M ?_,b5,b6,b7⟩;cases q:H bm with
   |none=>rfl
   |some u =>
    rcases N bm (by rw[q];simp) with g|⟨B,g⟩
    case inr=>rw[(j.1 bm B g).1]at M;cases M;cases b5
    subst g;rw[ha]at M;cases M;simp at b5
  refine codeAny_mono ((F _ L (l E) Z).run callerA [] c H ⟨[.ref a],[]⟩ [.ref a] [.ref a] _ _ hr e0 (A c (.ref a)) (.cons rfl .nil) (T H hO hS)) λr s' h=>?_
  cases r with
  |error e=>exact (U H e s' h).elim
  |ok fl =>
   cases fl with
   |next=>exact False.elim h
   |brk=>exact False.elim h
   |cont=>exact False.elim h
   |ret u =>
    obtain⟨v,H',os,bare,un,p,r',q⟩:=h;have q':v=.bl true:=q;subst q';obtain rfl:u=Value.bool true:=r';have old:∀b o,c.heap.get? b=some o->s'.heap.get? b=some o\/(isCodeTable c.heap b/\o.cls=.none/\∃vs more,o.data=.fields vs/\s'.heap.get? b=some { o with data:=.fields (vs++more) }):=λb o e=>?old
    case old =>
     cases q:H b with
     |none=>exact .inl <|un.keep b o e q (by intro z;exact absurd (show b∈([]:List Addr) from z) (by simp)) (by simp)
     |some u =>
      rcases hO b with z|⟨ob,xs,z⟩|⟨B,z⟩
      ·rw[q]at z;cases z
      ·have z2:=un.frzs b ob _ z;obtain⟨e1,_⟩:=hok b _ z;obtain⟨e2,_⟩:=p b _ z2;rw[e]at e1;cases e1;exact .inl e2
      ·have z2:=un.tbls b B z;obtain⟨ps,e2,_⟩:=p b _ z2;rcases N b (by rw[z];simp) with g|⟨q2,g⟩
       ·obtain⟨ps0,D,_⟩:=hok b _ z;rw[g]at D;rw[ha]at D;cases D
       ·obtain⟨D,_,e4⟩:=j.1 b q2 g;rw[e]at D;cases D;exact .inr ⟨e4,rfl,#[],ps,rfl,by simpa using e2⟩
    exact⟨rfl,⟨λb o e=>(old b o e).imp id λz=>.inl z,λb o e=>by rcases old b o e with z|⟨_,_,_,_,_,z⟩ <;> exact⟨_,z⟩⟩,os,bare⟩
 have tok:∀b q,TabOf K b q->cI P w (λ_=>none) c.heap b (.tbl q):=λb q t=>⟨#[],(j.1 b q t).1,trivial,λpos cv z=>nomatch z⟩
 have y:∀(H:Hp) b q,TabOf K b q->cI P w H c.heap b (.tbl q):=λH b q t=>⟨#[],(j.1 b q t).1,trivial,λpos cv z=>nomatch z⟩
 have na:∀q,¬ TabOf K a q:=λq t=>by have:=(j.1 a q t).1;rw[ha]at this;cases this
 cases hk:K.lookup a with
 |some o =>
  have e:=KX a o hk;rw[ha]at e;cases e;refine core (fB K) (λb=>(bE K b).imp id λC=>(by obtain⟨q,_,e⟩:=C;exact .inr ⟨q,e⟩)) (.inr ⟨_,vs.toArray,_,hk,rfl,rfl,rfl,by rw[A6,I];exact hl,by simpa using rv⟩) (λb u z=>?_) (λb z=>?_) (λz=>?_) λP q t=>jO j t
  ·rcases bE K b with e|⟨q,t,e⟩
   ·rw[z]at e;cases e
   ·rw[z]at e;cases e;exact y _ b q t
  ·rcases bE K b with e|⟨q,t,e⟩
   ·exact absurd e z
   ·exact .inr ⟨q,t⟩
  ·rcases bE K a with e|⟨q,t,e⟩
   ·exact absurd e z
   ·exact absurd t (na q)
 |none =>
  have eT:∀b,b≠a->(λb=>if b=a then some (HO.frz { cls:=.type "list",data:=.seq vs.toArray } (.lst (ns.map V.int))) else fB K b) b=fB K b:=λb h=>if_neg h
  have eA:(λb=>if b=a then some (HO.frz { cls:=.type "list",data:=.seq vs.toArray } (.lst (ns.map V.int))) else fB K b) a=some (HO.frz { cls:=.type "list",data:=.seq vs.toArray } (.lst (ns.map V.int))):=if_pos rfl;refine core (λb=>if b=a then some (.frz { cls:=.type "list",data:=.seq vs.toArray } (.lst (ns.map V.int))) else fB K b) (λb=>?_) (.inl (.inr ⟨{ cls:=.type "list",data:=.seq vs.toArray },if_pos rfl⟩)) (λb u z=>?_) (λb z=>?_) (λ_=>hk) λP q t=>?_
  ·by_cases i:b=a
   ·exact .inr (.inl ⟨_,_,if_pos i⟩)
   ·rw[eT b i];exact (bE K b).imp id λC=>(by obtain⟨q,_,e⟩:=C;exact .inr ⟨q,e⟩)
  ·by_cases i:b=a
   ·subst i;rw[eA]at z;cases z;exact⟨ha,by rw[A7];exact hl,vs,_,rv,ha⟩
   ·rw[eT b i]at z;rcases bE K b with e|⟨q,t,e⟩
    · rw[z]at e;cases e
    · rw[z]at e;cases e;exact y _ b q t
  ·by_cases i:b=a
   ·exact .inl i
   ·rcases bE K b with e|⟨q,t,e⟩
    · exact absurd ((if_neg i).trans e) z
    · exact .inr ⟨q,t⟩
  ·exact (if_neg (λz=>na q (by rw[<-z];exact t))).trans (jO j t)
abbrev KOf {K:PySem.W.Frag} {h:Heap} (_:K.In h):PySem.W.Frag:=K
theorem mV {l:PySem.W.OpenLaw} {XP:(Str->Option Value)->Heap->Prop} {d:DefRec} {K:Params->PySem.W.Frag} {CX:World->CXT} {sp:World->Sp}
  (hn:l.most=some n) (r:n<=sizeLine) (t:d.params.defaults=[]) (I:cE k callerA)
  (J:∀(w:World) (h:Heap),YP w h->(K w.params).In h)
  (F:∀(w:World) (mg:Str->Option Value) (p:Addr) (h:Heap),(K w.params).In h->h.Ns mainGlobals mg->mg d.name=some (.ref p) ->
   ∃fd:FuncData,(∀(s:Shared) (u:Value),BindsTo s fd ⟨[u],[]⟩ [(x,u)]) /\
    ∀base:Heap,(K w.params).In base->base.Ns mainGlobals mg->jN mg base->dj l.prog w (K w.params) mg base (CX w) k p fd [x] (sp w))
  (y:∀(w:World) (H:Hp) (a:Addr) (ns:List Int),ns.length<=n->vZ H->SqL (K w.params) H a (ns.map V.int)->sp w [.ref a] H (λv _=>v=.bl true) λ_ _ _=>False)
  (A:∀(w:World) (H:Hp) (s:Shared) (e:Value) (s':Shared),CX w [] H s (λ_ _ _=>False) e s'->False) (B:∀(w:World) (h:Heap) (c:List Str) (i:ExcName->Option Value) (mg E:Str->Option Value),PyProof.Rows.Top q c i mg E h->(K w.params).In h->i4 (K w.params) h) :
  PySem.W.WalkO q loose XP YP l.row.toRowW d [] (λf vs=>PySem.call f vs):=by
 refine Att.lG hn t λw s₀ j mg E p o pm cd doc a vs ns G Y ho hd hcd C m hints hlen L=>?_
 have D:=J w _ Y;obtain⟨fd,N,O⟩:=F w mg p _ D G.T.g C;exact law_call D G.T.g G.T.b G.T.builtins G.T.nolimit L m hints (AI hlen r) I (by obtain⟨bm,ob,M⟩:=PySem.W.bmod_of_top G.T;exact⟨bm,ob,M.name,M.ne,(λz=>by obtain⟨o,es,ep,e1,e2,_⟩:=M.ns;rw[<-z,M.obj]at e1;cases e1;rw[M.data]at e2;cases e2),M.obj,M.cls,M.dict,M.data⟩) O N (λH P Q=>y w H a ns hlen P Q) (λH e s'=>A w H j e s') (B w _ _ _ _ _ G.T D)
def eG (s:Stmt):Arguments:=match s with
 |.FunctionDef _ a _ _ _ _ _ _ _ _=>a
 |_=>{ posonlyargs:=[],args:=[],vararg:=none,kwonlyargs:=[],kw_defaults:=[],kwarg:=none,defaults:=[] }
def bM (s:Stmt):List Stmt:=match s with
 |.FunctionDef _ _ b _ _ _ _ _ _ _=>b
 |_=>[]
def aw (s:Stmt):Scope:=match s with
 |.FunctionDef _ _ _ _ _ _ sc _ _ _=>sc
 |_=>{ kind:=.function,names:=[],isGenerator:=false,isCoroutine:=false }
abbrev CX0:CXT:=λ_ _ _ _ _ _=>False
abbrev E0:XK:=λ_ _ _=>False
theorem xD:Passes CX0 X E0:=λ_ _ _ _ _ _ _ h=>h.elim
structure Fun (K:PySem.W.Frag) (x qual:Str) (st:Stmt) (f:Addr) (fd:FuncData):Prop where
 ex:∃(oc:Value) (od:Option Addr) (kV doc pm:Value) (an:Option Addr) (cdv ct:Value) (osl:Array (Option Value)),
  fd=PySem.W.fnOf x qual (eG st) (bM st) (aw st) .none kV doc pm an cdv ct/\K.lookup f=some ⟨oc,od,.func fd,osl⟩/\PySem.W.codeIn K cdv qual=true
 kp:PySem.W.keepIn K (.ref f)=true
section
theorem Fun.ok (F:Fun K x qual st f fd) (S:cn N ps (aw st)) (len:∀vs H Q E,sp vs H Q E->vs.length=ps.length)
  (a:∀(cdv:Value) (A:Around) (outer:List Env) (s:Shared) (H:Hp) (vs:List V) (Q:VK) (E:XK),cE k (A.deeper (envOfC qual (aw st) s.heap.objs.size f cdv))->sp vs H Q E ->
   ∃t,PSs (dO CX0 P w K mg base N qual (aw st) f cdv A outer s H E).nox (bM st) t/\t { nx:=λ_ H'=>Q .non H',rt:=Q } (start N vs) H):dj P w K mg base CX0 (k+1) f fd ps sp:=by
 obtain⟨oc,od,kV,doc,pm,an,cdv,ct,osl,rfl,e,b⟩:=F.ex;refine ue e b S len λA outer s H vs Q E g c=>?_
 obtain⟨t,h,q⟩:=a cdv A outer s H vs Q E g c;exact⟨t,h.nox,q⟩
theorem Fun.binds (F:Fun K x qual st f fd)
  (h:∀(kV doc pm:Value) (an:Option Addr) (cdv ct:Value) (us:List Value),us.length=ps.length->bindArgs (PySem.W.fnOf x qual (eG st) (bM st) (aw st) .none kV doc pm an cdv ct) ⟨us,[]⟩=pure (ps.zip us)):Binds K fd ps []:=by
 obtain⟨oc,od,kV,doc,pm,an,cdv,ct,osl,rfl,lk,hcd⟩:=F.ex;exact .all (h kV doc pm an cdv ct)
theorem vm {kV doc cdv:Value} (l:K.lookup f=some ⟨oc,od,.func (PySem.W.fnOf x qual (eG st) (bM st) (aw st) .none kV doc pm an cdv ct),osl⟩)
 (c:PySem.W.codeIn K cdv qual=true) (k:PySem.W.keepIn K (.ref f)=true):Fun K x qual st f (PySem.W.fnOf x qual (eG st) (bM st) (aw st) .none kV doc pm an cdv ct):=⟨⟨oc,od,kV,doc,pm,an,cdv,ct,osl,rfl,l,c⟩,k⟩
end
section
theorem pv (i:Nat) (b:X.N[i]?=some x:=by rfl) (hv:Vis X.env.scope x:=by first|exact Or.inl rfl|exact Or.inr (Or.inl rfl)|exact Or.inr (Or.inr rfl)) (hd:(x==("__debug__":Str))=false:=by decide)
 (a:(x==("__classdict__":Str))=false:=by decide):PE X (.Name x pos) (xB i):=d7 b hv hd a
end
theorem xF {c A B:Prop} [Decidable c] (h1:c->A) (h2:¬ c->B):if c then A else B:=by
 by_cases h:c
 ·rw[if_pos h];exact h1 h
 ·rw[if_neg h];exact h2 h
def ak (H H':Hp):Prop:=∀b o,H b=some o->H' b=some o
theorem ak.refl (H:Hp):ak H H:=λ_ _ h=>h
theorem ak.trans {H2:Hp} (a:ak H H1) (b:ak H1 H2):ak H H2:=λc o h=>b c o (a c o h)
theorem ak.free (e:ak H H') {l:Addr} (h:H' l=Option.none):H l=Option.none:=by
 cases q:H l with
 |none=>rfl
 |some o =>rw[e l o q]at h;cases h
theorem ak.seq (e:ak H H') (h:SqL K H a xs):SqL K H' a xs:=by
 rcases h with (h|⟨o,h⟩)|h
 ·exact .inl (.inl (e _ _ h))
 ·exact .inl (.inr ⟨o,e _ _ h⟩)
 ·exact .inr h
end L2
set_option maxHeartbeats 4000000
namespace L2
open PySem PySem.Spec PyProof.Rows
variable {M:List Str} {es:List Expr} {E:XK}
def g6:List (Str×NameKind)->List (Str×Addr)->List (Str×Addr)->List (Str×Addr)
 |[],_,acc=>acc
 |(n,k)::r,cells,acc=>g6 r cells (if k==.free then (match cells.lookup n with|some c=>(n,c)::acc|none=>acc) else acc)
theorem eQ (env:Env):∀(names:List (Str×NameKind)) (acc:List (Str×Addr)),(∀y∈names,y.2=.free->∃c,env.cells.lookup y.1=some c) ->
  (forIn names acc (λ(x:Str×NameKind) (cs:List (Str×Addr))=>match x with
   | (name,kind)=>if (kind==NameKind.free)=true then do let c <-cellOf env name;pure (ForInStep.yield ((name,c)::cs)) else pure (ForInStep.yield cs)):Sem (List (Str×Addr)))=pure (g6 names env.cells acc)
 |[],acc,_=>rfl
 |(n,k)::r,acc,h=>by
  rw[List.forIn_cons];have b:∀y∈r,y.2=.free->∃c,env.cells.lookup y.1=some c:=λy g=>h y (Ab _ g)
  dsimp only[g6];by_cases hk:k=.free
  ·subst hk;obtain⟨c,hc⟩:=h (n,.free) Ad rfl;have a:env.cells.lookup n=some c:=hc;have e:cellOf env n=pure c:=by unfold cellOf;rw[a]
   rw[if_pos (show (NameKind.free==NameKind.free)=true by decide),if_pos (show (NameKind.free==NameKind.free)=true by decide),e,a];exact eQ env r ((n,c)::acc) b
  ·have f:¬ (k==NameKind.free)=true:=by simpa using hk
   rw[if_neg f,if_neg f];exact eQ env r acc b
theorem hR (h:∀y∈scope.names,y.2=.free->∃c,env.cells.lookup y.1=some c):closureFor scope env=pure (g6 scope.names env.cells []):=by have e:=eQ env scope.names [] h;unfold closureFor;rw[<-bind_pure (forIn scope.names [] _)]at e;exact e
theorem kO:∀(names:List (Str×NameKind)) (cells acc:List (Str×Addr)) (x:Str) (c:Addr),(∀x c,acc.lookup x=some c->cells.lookup x=some c)->(g6 names cells acc).lookup x=some c->cells.lookup x=some c
 |[],_,_,x,c,h,e=>h x c e
 |(n,k)::r,cells,acc,x,c,h,e=>by
  refine kO r cells _ x c (λy d a=>?_) e;split at a
  ·split at a
   ·rename_i c' b;rw[AQ]at a;by_cases hyn:(y==n)=true
    ·rw[hyn]at a;have f:y=n:=eq_of_beq hyn;subst f;cases a;exact b
    ·have:(y==n)=false:=by simpa using hyn
     rw[this]at a;exact h y d a
   ·exact h y d a
  ·exact h y d a
theorem jR:∀(names:List (Str×NameKind)) (cells acc:List (Str×Addr)) (x:Str),(∃c,acc.lookup x=some c)->∃c,(g6 names cells acc).lookup x=some c
 |[],_,_,_,h=>h
 |(n,k)::r,cells,acc,x,h=>by
  refine jR r cells _ x ?_;split
  ·split
   ·rw[AQ];cases (x==n)
    ·exact h
    ·exact⟨_,rfl⟩
   ·exact h
  ·exact h
theorem i0:∀(names:List (Str×NameKind)) (cells acc:List (Str×Addr)) (x:Str) (c:Addr),(x,NameKind.free)∈names->cells.lookup x=some c->∃c,(g6 names cells acc).lookup x=some c
 |[],_,_,_,_,h,_=>by simp at h
 |(n,k)::r,cells,acc,x,c,h,e=>by
  rcases Aa.mp h with h|h
  ·injection h with h1 h2
   subst h1;subst h2;refine jR r cells _ x ?_;rw[if_pos (by decide),e];exact⟨c,by simp[AQ]⟩
  ·exact i0 r cells _ x c h e
def blk (X:Cx) (M:List Str) (scope:Scope) (own:List Str) (C:Addr) (s2:Shared) (H2:Hp) (fp:List Addr):Cx where
 prog:=X.prog
 w:=X.w
 K:=X.K
 mg:=X.mg
 base:=X.base
 A:=X.A
 N:=M++own
 s₀:=s2
 H₀:=H2
 env:=compEnvC scope (g6 scope.names X.env.cells []) C X.env
 outer:=X.stack
 stack:=X.stack
 ex:=fp
 fn:=λ_=>false
 calm:=X.calm
 pn:=[]
 xe:=λ_ _=>False
structure fb (X:Cx) (M:List Str) (scope:Scope) (own:List Str):Prop where
 kind:scope.kind=.function
 nocell:∀y∈scope.names,y.2≠.cell
 names:∀y∈scope.names,y.2=.local->scope.names.lookup y.1=some .local
 free:∀y∈scope.names,y.2=.free->Vis X.env.scope y.1/\X.env.scope.names.lookup y.1≠some .local
 own:∀x∈own,scope.names.lookup x=some .local
 outer:∀p∈X.N.zip M,(p.1=p.2/\scope.names.lookup p.2≠some .local)\/scope.names.lookup p.2=none
 len:M.length=X.N.length
def jz (N M:List Str) (a scope:Scope) (own:List Str):Bool :=
 (scope.kind==.function)&&scope.names.all (λy=>y.2 != .cell)&&scope.names.all (λy=>y.2 != .local||scope.names.lookup y.1==some .local) &&
 scope.names.all (λy=>y.2 != .free||(a.names.lookup y.1==some .cell||a.names.lookup y.1==some .free)) &&
 own.all (λx=>scope.names.lookup x==some .local)&&(N.zip M).all (λp=>(p.1==p.2&&scope.names.lookup p.2 != some .local)||scope.names.lookup p.2==none)&&(M.length==N.length)
theorem fb.of (h:jz X.N M X.env.scope scope own=true):fb X M scope own:=by
 unfold jz at h;simp only[A3,Ak,Bool.or_eq_true,bne_iff_ne,beq_iff_eq,ne_eq]at h;obtain⟨⟨⟨⟨⟨⟨h1,h2⟩,b⟩,c⟩,f⟩,g⟩,i⟩:=h;refine⟨h1,h2,λy a e=>(b y a).resolve_left λz=>z e,λy a e=>?_,f,g,i⟩;rcases (c y a).resolve_left λz=>z e with q|q
 ·exact⟨.inr (.inl q),by rw[q];intro z;cases z⟩
 ·exact⟨.inr (.inr q),by rw[q];intro z;cases z⟩
theorem bV {env:Env}:∀{names:List (Str×NameKind)} {x:Str} {k:NameKind},
  (names.map λ(n,k)=>if (k==NameKind.free&&env.scope.kind==.function&&env.kindOf n==some .cell) then (n,NameKind.cell) else (n,k)).lookup x=some k->(k=.cell\/k=.free)->(∀y∈names,y.2≠.cell)->(x,NameKind.free)∈names
 |[],_,_,h,_,_=>by simp at h
 |(n,k')::r,x,k,h,a,hn=>by
  have b:∀y∈r,y.2≠NameKind.cell:=λy c=>hn y (Ab _ c)
  rw[Au,AQ]at h;by_cases hc:(k'==NameKind.free&&env.scope.kind==.function&&env.kindOf n==some .cell)=true
  ·have f:k'=.free:=by have:=hc;simp only[A3]at this;exact eq_of_beq this.1.1
   simp only[if_pos hc]at h;cases hx:x==n with
   |true =>have:x=n:=eq_of_beq hx;subst this;subst f;exact Ad
   |false =>rw[hx]at h;exact Ab _ (bV h a b)
  ·simp only[if_neg hc]at h;cases hx:x==n with
   |true =>
    rw[hx]at h;have e:k'=k:=Option.some.inj h;have:x=n:=eq_of_beq hx;subst this;subst e;rcases a with a|a
    ·exact absurd a (hn _ Ad)
    ·subst a;exact Ad
   |false =>rw[hx]at h;exact Ab _ (bV h a b)
theorem bU {env:Env}:∀{names:List (Str×NameKind)} {x:Str} {k:NameKind},
  (names.map λ(n,k)=>if (k==NameKind.free&&env.scope.kind==.function&&env.kindOf n==some .cell) then (n,NameKind.cell) else (n,k)).lookup x=some k->(∃k0,names.lookup x=some k0/\(k=k0\/(k=.cell/\k0=.free)))
 |[],_,_,h=>by simp at h
 |(n,k')::r,x,k,h=>by
  rw[Au,AQ]at h;rw[AQ];by_cases hc:(k'==NameKind.free&&env.scope.kind==.function&&env.kindOf n==some .cell)=true
  ·have a:k'=.free:=by have:=hc;simp only[A3]at this;exact eq_of_beq this.1.1
   simp only[if_pos hc]at h;cases hx:x==n with
   |true =>rw[hx]at h;exact⟨k',rfl,.inr ⟨(Option.some.inj h).symm,a⟩⟩
   |false =>rw[hx]at h;exact bU h
  ·simp only[if_neg hc]at h;cases hx:x==n with
   |true =>rw[hx]at h;exact⟨k',rfl,.inl (Option.some.inj h).symm⟩
   |false =>rw[hx]at h;exact bU h
section
variable {H2:Hp} {s2:Shared}
theorem Inv.blk {h1:Heap} {t':Nat} (I:Inv X pins σ H2 s2) (B:fb X M scope own) (H:∀b∈fp,iy X pins H2 b) (J:∀b∈fp,b<s2.heap.objs.size)
  (A:D=s2.heap.objs.size) (G:C=s2.heap.objs.size+1) (hl:h1.get? D=some { cls:=.type "list",data:=.seq ([]:List Value).toArray 0 })
  (hn:h1.Ns C (λ_=>none)) (g:∀b o,s2.heap.get? b=some o->h1.get? b=some o) :
  Inv (L2.blk X M scope own C s2 H2 fp) [] (σ++List.replicate own.length none) (upd H2 D (.lst [])) { s2 with heap:=h1,toks:=t' }:=by
 have a:∀x c,(g6 scope.names X.env.cells []).lookup x=some c->X.env.cells.lookup x=some c:=λx c e=>kO _ _ _ _ _ (λ_ _ z=>by simp at z) e
 have K:∀x c,(g6 scope.names X.env.cells []).lookup x=some c->c<s2.heap.objs.size:=λx c e=>by obtain⟨v,q⟩:=I.cell x c (a x c e);exact q.lt
 have n:H2 D=none:=I.hok.fresh (by rw[A];exact Ac _);have freeC:H2 C=none:=I.hok.fresh (by rw[G];exact Nat.le_succ _);have L:C≠D:=by rw[G,A];exact Nat.succ_ne_self _
 have W:Un (frs X.stack) fp H2 (upd H2 D (.lst [])) s2.heap h1:=Un.laid g (by rw[A];exact Ac _) n;refine⟨⟨I.ok.mod,?_,I.ok.glob,I.ok.blt,?_,?_,?_,?_,I.ok.hd,I.ok.frames,.inl rfl,?_,I.bs,AI I.ok.bsz I.sz,?_,?_,I.stack,I.stkFree⟩,rfl,I.bare,W,?_,?_,?_,?_,?_,?_,?_,λP q t=>W.tbls P q (I.tab P q t)⟩
 ·exact B.kind
 ·show s2.heap.objs.size<=C;rw[G];exact Nat.le_succ _
 ·intro x y c e1 e2;exact I.ok.inj x y c (a x c e1) (a y c e2)
 ·intro x h;have hm:(x,NameKind.free)∈scope.names:=by
   rcases h with h|h
   ·exact bV h (.inl rfl) B.nocell
   ·exact bV h (.inr rfl) B.nocell
  obtain⟨hv,s⟩:=B.free _ hm rfl;have hh:X.env.kindOf x=some .cell\/X.env.kindOf x=some .free:=by
   rcases hv with z|z|z
   ·exact absurd z s
   ·exact .inl z
   ·exact .inr z
  obtain⟨c,e⟩:=I.ok.has x hh;exact i0 _ _ _ x c hm e
 ·intro x c O _;exact absurd (show false=true from O) (by decide)
 ·intro b w;refine⟨?_,λx c e z=>?_⟩
  ·show b≠C;rw[G];exact Af (Bf (J b w))
  ·exact (H b w).2.2.2.2.1 x c (a x c e) z
 ·intro b o e w;obtain⟨_,_,_,f3,_⟩:=H b w;rcases f3 with z|z
  ·exact I.ok.noex b o e z
  ·exact absurd (A8 (A9 (I.ok.bs b o e).1) z) (AN _)
 ·intro b w hs;obtain⟨_,f1,f2,_⟩:=H b w;rcases Aa.mp (I.stkSub b hs) with z|z
  ·exact f1 z
  ·exact f2 z
 ·refine⟨_,hn,λi x v e1 e2 Y=>?_⟩;have hi:i<σ.length:=by
   by_cases hi:i<σ.length
   ·exact hi
   ·rw[As (by omega),AJ]at e2;split at e2 <;> cases e2
  rw[Ao hi]at e2;have E:i<X.N.length:=by rw[<-I.len];exact hi
  have Q:i<M.length:=by rw[B.len];exact E
  have R:M[i]?=some x:=by
   have:(M++own)[i]?=some x:=e1
   rwa[Ao Q]at this
  obtain⟨y,Z⟩:∃y,X.N[i]?=some y:=⟨_,A5 E⟩
  have hz:(y,x)∈X.N.zip M:=AA (i:=i) (by rw[List.getElem?_zip_eq_some];exact⟨Z,R⟩);have S:∃k,scope.names.lookup x=some k:=by
   rcases Y with z|z|z
   ·obtain⟨k0,f,_⟩:=bU (show _=some NameKind.local from z);exact⟨k0,f⟩
   ·obtain⟨k0,f,_⟩:=bU (show _=some NameKind.cell from z);exact⟨k0,f⟩
   ·obtain⟨k0,f,_⟩:=bU (show _=some NameKind.free from z);exact⟨k0,f⟩
  have j:y=x/\scope.names.lookup x≠some .local:=by
   rcases B.outer _ hz with q|q
   ·exact q
   ·obtain⟨k,g⟩:=S;rw[q]at g;cases g
  have T:X.N[i]?=some x:=by rw[<-j.1];exact Z
  have h:(relabel scope X.env).names.lookup x=some .cell\/(relabel scope X.env).names.lookup x=some .free:=by
   rcases Y with z|z
   ·obtain⟨k0,f,g⟩:=bU (show _=some NameKind.local from z);rcases g with g|⟨g,_⟩
    ·subst g;exact absurd f j.2
    ·cases g
   ·exact z
  have hm:(x,NameKind.free)∈scope.names:=by
   rcases h with h|h
   ·exact bV h (.inl rfl) B.nocell
   ·exact bV h (.inr rfl) B.nocell
  obtain⟨hv,s⟩:=B.free _ hm rfl;obtain⟨m,_,U⟩:=I.loc;obtain⟨u,r,l⟩:=U i x v T e2 hv;refine⟨u,r,.inr ⟨h,?_⟩⟩;rcases l with⟨z,_⟩|⟨_,c,hc,z⟩
  ·exact absurd z s
  ·obtain⟨c',F⟩:=i0 scope.names X.env.cells [] x c hm hc;have:=a x c' F;rw[hc]at this;cases this;exact⟨c,F,z.keeps g⟩
 ·intro x c e;obtain⟨v,q⟩:=I.cell x c (a x c e);exact⟨v,q.keeps g⟩
 ·show upd H2 D (.lst []) C=none;rw[ay L];exact freeC
 ·intro x c e;have h1:=K x c e;rw[ay (by rw[A];exact Af h1)];exact I.freeC x c (a x c e)
 ·intro p hp;exact absurd (show p∈([]:List (Addr×Obj))++[] from hp) (by simp)
 ·exact I.hok.laid g (by rw[A];exact Ac _) ⟨B1 _,[],0,.nil,hl⟩
 ·show (σ++List.replicate own.length none).length=(M++own).length;rw[Al,Al,List.length_replicate,I.len,B.len]
theorem Inv.unblk {a:St} (I:Inv X pins σ H2 s2) (i:∀b∈fp,iy X pins H2 b) (f:s2.heap.objs.size<=C)
  (J:Inv (L2.blk X M scope own C s2 H2 fp) [] a H' s') (j:Heap.SameBut C s'.heap h'):Inv X pins σ H' { s' with heap:=h' }:=by
 have h:H' C=none:=J.free;have k:∀b o,b≠C->s'.heap.get? b=some o->h'.get? b=some o:=λb o g e=>(j.2 b g).trans e
 have old:∀b o,s2.heap.get? b=some o->b≠C:=λb o e=>Af (A8 (A9 e) f)
 have u:Un (frs X.stack) fp H2 H' s2.heap s'.heap:=J.base;refine I.call' (s':={ s' with heap:=h' }) (ch:=fp) J.os ?_ ?_ J.bare λb g=>?_
 ·refine⟨λb o e n h1 h2=>k b o (old b o e) (u.keep b o e n h1 h2),λb o e n h1 h2=>?_,u.free,λb o e h1=>?_,u.tups,u.frzs,u.tbls⟩
  ·obtain⟨l,q⟩:=u.slot b o e n h1 h2;exact⟨l,k b _ (old b o e) q⟩
  ·obtain⟨o',q⟩:=u.there b o e h1;exact⟨o',k b o' (old b o e) q⟩
 ·intro b o e;refine (J.hok b o e).stay (λc v hc q=>k c v ?_ q) (λ_ q=>q) λ_ _ q=>q
  rintro rfl
  rcases hc with z|z
  ·subst z;rw[h]at e;cases e
  ·rw[h]at z;cases z
 ·obtain⟨f0,f1,f2,m,p,r⟩:=i b g;exact⟨m,f1,p,r⟩
end
section
variable {prog:Program} {A:Around} {R:Result->Shared->Prop}
theorem kx {target:Expr} {it acc:Value} (I:Nat->Shared->Prop)
  (turn:∀n s,I n s->wpAny (model prog w) A (pyNext it) (λr a=>match r with
   |none=>R (.ok .next) a
   |some v=>wpAny (model prog w) A (letOwnedTupleGo target it v) (λ_ k=>wpAny (model prog w) A (assign target env v) (λ_ e =>
    wpAny (model prog w) A (forIn ifs true λc r=>if r=true then do let ok <-isTrue c env (eval c env);pure (ForInStep.yield ok) else pure (ForInStep.yield r)) (λok b =>
     if ok=true then wpAny (model prog w) A (eval elt env) (λx f =>
      wpAny (model prog w) A (call (.builtin "list.append") [acc,x]) (λ_ g=>∃m,m<n/\I m g) (λ_ _=>False) f) (λ_ _=>False) b
     else ∃m,m<n/\I m b) (λ_ _=>False) e) (λ_ _=>False) k) (λ_ _=>False) a) (λ_ _=>False) s)
  (n:Nat) (h:I n s) :
  codeAny (model prog w) A (.compLoop (.ListComp elt [⟨target,iter,ifs,0⟩] scope pos) 0 it acc env) R s:=by
 refine codeAny_loop rfl I (λn s t=>?_) n h;show wpAny _ A ((compTurn (.ListComp elt [⟨target,iter,ifs,0⟩] scope pos) 0 it acc env).onRaise (λx=>do noteFrame x env;theTreesLotGoes x)) _ _ s;refine wpAny_noted ?_;rw[compTurn_list];refine wpAny_bind (wpAny_standAt (wpAny_bind (wpAny_mono (turn n s t) (λr a i=>?_) λ_ _ h'=>h'.elim)));cases r with
 |none=>exact wpAny_pure i
 |some v =>
  refine wpAny_bind (wpAny_mono i (λ_ k q=>?_) λ_ _ h'=>h'.elim);refine wpAny_bind (wpAny_mono q (λ_ e l=>wpAny_bind (wpAny_mono l (λok b j=>?_) λ_ _ h'=>h'.elim)) λ_ _ h'=>h'.elim);cases ok with
  |false=>exact wpAny_pure ⟨rfl,j⟩
  |true =>exact wpAny_bind (wpAny_bind (wpAny_mono j (λx f o=>wpAny_bind (wpAny_mono o (λ_ g p=>wpAny_pure (wpAny_pure ⟨rfl,p⟩)) λ_ _ h'=>h'.elim)) λ_ _ h'=>h'.elim))
end
def uq:TT:=λ_ H Q=>Q true H
inductive PTs (X:Cx):List Expr->TT->Prop
 |nil:PTs X [] uq
 |one {c:Expr} {t:TT} (h:PT X c t):PTs X [c] t
theorem PTs.run {t:TT} (h:PTs X ifs t) {Q:Bool->Hp->Prop} (I:Inv X pins σ H s) (q:t σ H Q) :
  wpAny (model X.prog X.w) X.A (forIn ifs true λc r=>if r=true then do let ok <-isTrue c X.env (eval c X.env);pure (ForInStep.yield ok) else pure (ForInStep.yield r)) (TP X pins σ Q) X.xe s:=by
 cases h with
 |nil=>exact wpAny_tests_nil ⟨H,I,q⟩
 |one h=>exact wpAny_tests_one (h pins s σ H Q I q)
def LCR (J:It) (n:Nat) (g:TG) (tt:TT) (te:TE) (σ:St) (H1:Hp) (Q:VK):Prop:=∀D,H1 D=none->∃W:Nat->Nat->List V->Hp->Prop,(∃m,W 0 m [] (upd H1 D (.lst []))) /\
 ∀i m ys H,W i m ys H->H D=some (.lst ys)/\((J.stop i H/\Q (.ref D) H)\/(J.go i H/\∀x H' e,e.length=n->J.yld i H x H'->g x (σ++e) H' λc H2=>tt c H2 λb h =>
  if b=true then te c h λv j=>j D=some (.lst ys)/\ys.length<sizeLine/\(∃a,c=σ++a/\a.length=n)/\∃f,f < m/\W (i+1) f (ys++[v]) (upd j D (.lst (ys++[v])))
  else (∃a,c=σ++a/\a.length=n)/\∃f,f < m/\W (i+1) f ys h))
def tLC (n:Nat) (a:TI) (g:TG) (tt:TT) (te:TE):TE:=λσ H Q=>a σ H λJ H1=>LCR J n g tt te σ H1 Q
theorem iS {wi:TI} {tt:TT} {te:TE} {use:Option (Value->Sem Unit)} {Qf:Value->Shared->Prop} (hc:X.calm=true) (hi:PI X tg iter wi)
  (hg:∀C s2 H2 fp,PG (blk X M scope own C s2 H2 fp) tg g) (ht:∀C s2 H2 fp,PTs (blk X M scope own C s2 H2 fp) ifs tt) (he:∀C s2 H2 fp,PE (blk X M scope own C s2 H2 fp) elt te)
  (hB:jz X.N M X.env.scope scope own=true) (hs:∀x,foldedSetIterable iter X.env x=pure x) {Q:VK} (I:Inv X pins σ H s) (h:tLC own.length wi g tt te σ H Q)
  (fin:∀(C D:Addr) (O:Shared) (L:Hp),(∀h',Heap.SameBut C O.heap h'->Inv X pins σ L { O with heap:=h' })->(∃m,O.heap.Ns C m)->L C=none->C≠X.env.locals->(∀x c,X.env.cells.lookup x=some c->c≠C)->(∀p∈X.pn++pins,p.1≠C)->X.s₀.heap.objs.size<=C->Q (.ref D) L ->
   compPost (model X.prog X.w) X.A X.xe use Qf (.ref D) C (.ok .next) O) :
  wpAny (model X.prog X.w) X.A (comprehension (.ListComp elt [⟨tg,iter,ifs,0⟩] scope pos) scope X.env cpos (newList []) false (eval iter X.env) use) Qf X.xe s:=by
 have B:fb X M scope own:=fb.of hB;have P:closureFor scope X.env=pure (g6 scope.names X.env.cells []):=hR λy hy hf=>by
  obtain⟨hv,hnl⟩:=B.free y hy hf;have hh:X.env.kindOf y.1=some .cell\/X.env.kindOf y.1=some .free:=by
   rcases hv with z|z|z
   ·exact absurd z hnl
   ·exact .inl z
   ·exact .inr z
  exact I.ok.has y.1 hh
 refine wpAny_comprehension_free (use:=use) rfl hs P B.kind B.names (thn (hi pins s σ H _ I h) λv s1 h1=>thn h1 λitv s2 h2=>?_);obtain⟨it,fp,tn,J,H2,e,R,T,S,f2,hD⟩:=h2;subst e;have U:∀b∈fp,b<s2.heap.objs.size:=λb k=>by obtain⟨o,q,_⟩:=T.obj _ _ S b k;exact A9 q
 obtain⟨W,⟨m0,w0⟩,turn⟩:=hD s2.heap.objs.size (R.hok.fresh (Ac _));refine wpAny_newObj_type (wpAny_newFunctionEnv B.nocell (by intro y hy;simp at hy) (λl j f=>?_) B.kind);dsimp only at j f ⊢;generalize hG:s2.heap.push { cls:=.type "list",dict:=none,data:=.seq ([]:List Value).toArray }=G at j f ⊢;have hC:G.objs.size=s2.heap.objs.size+1:=by rw[<-hG,Heap.size_push]
 have hk:∀b o,s2.heap.get? b=some o->l.get? b=some o:=λb o e=>f.extBut b o (by rw[hC];exact Af (Bf (A9 e))) (A1 _ (hG▸A1 _ e))
 have hDC:s2.heap.objs.size≠G.objs.size:=by rw[hC];exact Af (Nat.lt_succ_self _)
 have hl:l.get? s2.heap.objs.size=some { cls:=.type "list",data:=.seq ([]:List Value).toArray 0 }:=f.extBut _ _ hDC (A1 _ (hG▸Ae _ rfl));have hns:l.Ns G.objs.size (λ_=>none):=by
  have e:(λx=>([]:List (Str×Value)).reverse.lookup x)=λ_=>none:=by funext x;rfl
  rw[<-e];exact j
 have I3:=λt'=>R.blk (t':=t') (C:=G.objs.size) (D:=s2.heap.objs.size) B f2 U rfl hC hl hns hk
 have t:∀{H':Hp},(∀b∈fp,H' b=none)->∀b∈fp,iy (blk X M scope own G.objs.size s2 H2 fp) [] H' b:=λhn b k=>by
  refine⟨hn b k,?_,?_,.inl k,λx c e z=>?_,λp hp=>absurd (show p∈([]:List (Addr×Obj))++[] from hp) (by simp)⟩
  ·show b≠G.objs.size;rw[hC];exact Af (Bf (U b k))
  ·exact (I3 0).ok.exfs b k
  ·exact ((I3 0).ok.exf b k).2 x c e z
 have loop:∀s3:Shared,(∃t',s3={ s2 with heap:=l,toks:=t' })->codeAny (model X.prog X.w) X.A (.compLoop (.ListComp elt [⟨tg,iter,ifs,0⟩] scope pos) 0 (.ref it) (.ref s2.heap.objs.size) (compEnvC scope (g6 scope.names X.env.cells []) G.objs.size X.env))
   (compPost (model X.prog X.w) X.A X.xe use Qf (.ref s2.heap.objs.size) G.objs.size) s3:=by
  rintro s3 ⟨t',rfl⟩
  refine kx (λn s'=>∃i ys K H',K.length=own.length/\Inv (blk X M scope own G.objs.size s2 H2 fp) [] (σ++K) H' s'/\tn i s'.heap/\(∀b∈fp,H' b=none)/\W i n ys H') ?_ m0
   ⟨0,[],_,_,by simp,I3 t',T.keep _ _ _ S λb k o e=>hk b o e,λb k=>by rw[ay (Af (U b k))];exact (f2 b k).1,w0⟩
  rintro n s4 ⟨i,ys,K,L,hl',I4,st4,fr4,w4⟩
  obtain⟨hDl,alt⟩:=turn i n ys L w4;rcases alt with⟨stop,qn⟩|⟨go,step⟩
  ·refine thn (T.done (blk X M scope own G.objs.size s2 H2 fp) rfl rfl rfl hc i [] s4 _ L _ I4 (t fr4) st4 stop) λr O a=>?_
   obtain⟨hr,I5⟩:=a;subst hr;obtain⟨m,hn,_⟩:=I5.loc;have cS:s2.heap.objs.size<=G.objs.size:=by rw[hC];exact Nat.le_succ _
   refine fin G.objs.size s2.heap.objs.size O L (λh' hs'=>R.unblk (C:=G.objs.size) f2 cS I5 hs') ⟨m,hn⟩ I5.free ?_ (λx c e=>?_) (λp hp=>?_) (AI R.sz cS) qn
   ·obtain⟨_,hl0,_⟩:=R.loc;exact B5 (A8 hl0.lt cS)
   ·obtain⟨_,q⟩:=R.cell x c e;exact Af (A8 q.lt cS)
   ·exact Af (A8 (A9 (R.pin p hp).1) cS)
  ·refine thn (T.item (blk X M scope own G.objs.size s2 H2 fp) rfl rfl rfl hc i [] s4 _ L _ I4 (t fr4) st4 go) λr O a=>?_
   obtain⟨u,hr,h5⟩:=a;subst hr;refine thn h5 λ_ s6 a=>?_
   obtain⟨x,H6,I6,r6,y6,Y,fr6⟩:=a;have I6':=I6.pinned (t fr6) (T.obj _ _ Y);have kp:∀{E:St} {H7:Hp} {s7:Shared},Inv (blk X M scope own G.objs.size s2 H2 fp) ([]++iA fp s6.heap) E H7 s7->tn (i+1) s7.heap/\∀b∈fp,H7 b=none:=λ{E H7 s7} I7=>by refine⟨T.keep _ _ _ Y λb k o e=>(I7.pin (b,o) (Ag _ (Ag _ (eK k e)))).1,λb k=>?_⟩;obtain⟨o,e,d⟩:=T.obj _ _ Y b k;exact (I7.pin (b,o) (Ag _ (Ag _ (eK k e)))).2.1
   refine thn (hg _ _ _ _ _ s6 _ H6 x u _ I6' r6 (step x H6 K hl' y6)) λ_ s7 a=>?_
   obtain⟨E,H7,I7,q7⟩:=a;refine thn ((ht _ _ _ _).run I7 q7) λok s8 a=>?_
   obtain⟨H8,I8,q8⟩:=a;cases ok with
   |false =>
    obtain⟨⟨F,e,Z⟩,m',hm,w8⟩:=(show if false=true then _ else _ from q8)
    subst e;obtain⟨k1,k2⟩:=kp I8;exact⟨m',hm,i+1,ys,F,H8,Z,I8.unpinned,k1,k2,w8⟩
   |true =>
    have q8:te E H8 _:=q8;refine thn (he _ _ _ _ _ s8 E H8 _ I8 q8) λy s9 a=>?_
    obtain⟨v,H9,I9,r9,d9,z9,⟨F,e,Z⟩,m',hm,w9⟩:=a;subst e;refine thn (eE (X:=blk X M scope own G.objs.size s2 H2 fp) _ s9 _ H9 (.ref s2.heap.objs.size) [v] (.ref s2.heap.objs.size) [y] (λ_ H'=>H'=upd H9 s2.heap.objs.size (.lst (ys++[v]))) I9 rfl (.cons r9 .nil) ⟨_,ys,v,rfl,rfl,d9,z9,rfl⟩) λ_ s10 a=>?_
    obtain⟨_,H10,I10,_,e10⟩:=a;subst e10;obtain⟨k1,k2⟩:=kp I10;exact⟨m',hm,i+1,ys++[v],F,_,Z,I10.unpinned,k1,k2,w9⟩
 exact codeAny_compStart_list (loop _ ⟨_,rfl⟩) (T.self _ 0 _ _ _ (T.keep _ _ _ S λb k o e=>hk b o e) (loop _ ⟨_,rfl⟩))
theorem lC {c:TI} {tt:TT} {te:TE} (hc:X.calm=true) (hi:PI X tg iter c)
  (e:∀C s2 H2 fp,PG (blk X M scope own C s2 H2 fp) tg g) (f:∀C s2 H2 fp,PTs (blk X M scope own C s2 H2 fp) ifs tt) (i:∀C s2 H2 fp,PE (blk X M scope own C s2 H2 fp) elt te)
  (hB:jz X.N M X.env.scope scope own=true:=by rfl) (j:∀x,foldedSetIterable iter X.env x=pure x:=by intro _;rfl):PE X (.ListComp elt [⟨tg,iter,ifs,0⟩] scope pos) (tLC own.length c g tt te):=by
 intro pins s σ H Q I h;rw[eval_ListComp];refine iS hc hi e f i hB j I h λC D s5 l k a _ _ _ _ _ q=>?_
 obtain⟨m,hn⟩:=a;exact⟨m,hn,λh' b=>⟨.ref D,l,k h' b,rfl,q⟩⟩
theorem lp {spos:Pos} {A:TI} {tt:TT} {te:TE} (hc:X.calm=true) (L:X.N.Nodup) (j:X.N[i]?=some x) (O:Loc X.env.scope x)
  (l:swapsWith (.ListComp elt [⟨tg,iter,ifs,0⟩] scope pos) (some (.Name x pos')) spos.line X.env=pure true) (hi:PI X tg iter A)
  (P:∀C s2 H2 fp,PG (blk X M scope own C s2 H2 fp) tg g) (Q:∀C s2 H2 fp,PTs (blk X M scope own C s2 H2 fp) ifs tt) (R:∀C s2 H2 fp,PE (blk X M scope own C s2 H2 fp) elt te)
  (hB:jz X.N M X.env.scope scope own=true:=by rfl) (S:∀x,foldedSetIterable iter X.env x=pure x:=by intro _;rfl) (T:X.fn x=true\/X.env.scope.names.lookup x=some .local:=by first|exact .inl rfl|exact .inr rfl|assumption) :
  PS X (.Assign [.Name x pos'] (.ListComp elt [⟨tg,iter,ifs,0⟩] scope pos) spos) (oY (tLC own.length A g tt te) (eW i)):=by
 intro pins s σ H D I h;show wpAny _ _ (exec _ X.env) _ _ s;rw[exec_Assign_Name_used _ _ _ _ l];refine wpAny_bind (wpAny_standAt (wpAny_bind ?_));rw[arm_evalThenUse_ListComp];refine wpAny_bind (thn (iS (use:=some (assign (.Name x pos') X.env)) (Qf:=λ_ s'=>SP X pins D .next s') hc hi P Q R hB S I h λC B E U k p F G J W ns q=>?_) λ_ s' Y=>wpAny_pure (wpAny_pure Y));obtain⟨m,hn⟩:=p;have Z:=k E.heap (Heap.SameBut.refl _ _);show wpAny _ _ (assign (.Name x pos') X.env (.ref B)) _ _ E;refine wpAny_assign_Name (jS (v:=.ref B) Z L j O rfl (λK r t=>?_) T);obtain⟨a,sb,ha⟩:=t;have u:C≠a:=by
  rcases ha with rfl|ha
  ·exact G
  ·exact λz=>J x a ha z.symm
 refine⟨m,hn.sameBut sb u,λh' w=>⟨_,U,?_,q⟩⟩;have f:∀b o,b≠C->K.heap.get? b=some o->h'.get? b=some o:=λb o y e=>(w.2 b y).trans e
 refine r.call' (s':={ K with heap:=h' }) (ch:=[C]) rfl ?_ ?_ r.bare λb y=>?_
 ·refine⟨λb o e _ _ z=>f b o (λq=>z (by rw[q];exact Aj.mpr rfl)) e,λb o e _ _ z=>⟨o.slots,f b o (λq=>z (by rw[q];exact Aj.mpr rfl)) e⟩,λ_ _ _ n _=>n,λb o e z=>⟨o,f b o (λq=>z (by rw[q];exact Aj.mpr rfl)) e⟩,λ_ _ q=>q,λ_ _ _ q=>q,λ_ _ q=>q⟩
 ·intro b o e;refine (r.hok b o e).stay (λc v hc q=>f c v ?_ q) (λ_ q=>q) λ_ _ q=>q
  rintro rfl
  rcases hc with z|z
  ·subst z;rw[F]at e;cases e
  ·rw[F]at z;cases z
 ·rw[Aj.mp y];exact⟨.inr ns,λz=>G z,J,W⟩
mutual
def IsD (K:PySem.W.Frag) (H:Hp):PyData->V->Prop
 |.none,v=>v=.non
 |.bool b,v=>v=.bl b
 |.int i,v=>v=.int i
 |.str x,v=>v=.str x
 |.list ds,v=>∃a xs,v=.ref a/\SqL K H a xs/\cC K H ds xs
 |.tuple ds,v=>∃a xs,v=.ref a/\SqT K H a xs/\cC K H ds xs
 |.dict _,_=>False
def cC (K:PySem.W.Frag) (H:Hp):List PyData->List V->Prop
 |[],vs=>vs=[]
 |d::ds,vs=>∃v r,vs=v::r/\IsD K H d v/\cC K H ds r
end
theorem ak.tupS (e:ak H H') (h:SqT K H a xs):SqT K H' a xs:=by
 rcases h with (h|⟨o,h⟩)|h
 ·exact .inl (.inl (e _ _ h))
 ·exact .inl (.inr ⟨o,e _ _ h⟩)
 ·exact .inr h
mutual
theorem IsD.same {K:PySem.W.Frag} {H H':Hp} (e:ak H H'):∀{d:PyData} {v:V},IsD K H d v->IsD K H' d v
 |.none,_,h=>by unfold IsD at h ⊢;exact h
 |.bool _,_,h=>by unfold IsD at h ⊢;exact h
 |.int _,_,h=>by unfold IsD at h ⊢;exact h
 |.str _,_,h=>by unfold IsD at h ⊢;exact h
 |.list ds,_,h=>by unfold IsD at h ⊢;obtain⟨a,xs,e1,h1,h2⟩:=h;exact⟨a,xs,e1,e.seq h1,cC.same e h2⟩
 |.tuple ds,_,h=>by unfold IsD at h ⊢;obtain⟨a,xs,e1,h1,h2⟩:=h;exact⟨a,xs,e1,e.tupS h1,cC.same e h2⟩
 |.dict _,_,h=>by unfold IsD at h;exact h.elim
theorem cC.same {K:PySem.W.Frag} {H H':Hp} (e:ak H H'):∀{ds:List PyData} {vs:List V},cC K H ds vs->cC K H' ds vs
 |[],_,h=>by unfold cC at h ⊢;exact h
 |d::ds,_,h=>by unfold cC at h ⊢;obtain⟨v,r,e1,h1,h2⟩:=h;exact⟨v,r,e1,IsD.same e h1,cC.same e h2⟩
end
section
theorem ky {i:Int}:IsD K H (.int i) (.int i):=by unfold IsD;rfl
theorem qW {b:Bool}:IsD K H (.bool b) (.bl b):=by unfold IsD;rfl
theorem pZ:IsD K H .none .non:=by unfold IsD;rfl
theorem tK:IsD K H (.str x) (.str x):=by unfold IsD;rfl
theorem tE (h:SqT K H a xs) (h2:cC K H ds xs):IsD K H (.tuple ds) (.ref a):=by unfold IsD;exact⟨a,xs,rfl,h,h2⟩
theorem kh (h:SqL K H a xs) (h2:cC K H ds xs):IsD K H (.list ds) (.ref a):=by unfold IsD;exact⟨a,xs,rfl,h,h2⟩
theorem i8:cC K H [] []:=by unfold cC;rfl
theorem jU {d:PyData} (h:IsD K H d v) (h2:cC K H ds vs):cC K H (d::ds) (v::vs):=by unfold cC;exact⟨v,vs,rfl,h,h2⟩
theorem IsD.ofInt {i:Int} (h:IsD K H (.int i) v):v=.int i:=by unfold IsD at h;exact h
theorem IsD.ofBool {i:Bool} (h:IsD K H (.bool i) v):v=.bl i:=by unfold IsD at h;exact h
theorem IsD.ofNone (h:IsD K H .none v):v=.non:=by unfold IsD at h;exact h
theorem IsD.ofStr (h:IsD K H (.str x) v):v=.str x:=by unfold IsD at h;exact h
theorem IsD.ofTup (h:IsD K H (.tuple ds) v):∃a xs,v=.ref a/\SqT K H a xs/\cC K H ds xs:=by unfold IsD at h;exact h
theorem IsD.ofLst (h:IsD K H (.list ds) v):∃a xs,v=.ref a/\SqL K H a xs/\cC K H ds xs:=by unfold IsD at h;exact h
theorem cC.nil_of (h:cC K H [] vs):vs=[]:=by unfold cC at h;exact h
theorem cC.cons_of {d:PyData} (h:cC K H (d::ds) vs):∃v r,vs=v::r/\IsD K H d v/\cC K H ds r:=by unfold cC at h;exact h
theorem jW:∀(ns:List Int),cC K H (ns.map PyData.int) (ns.map V.int)
 |[]=>i8
 |_::r=>jU ky (jW r)
end
section
mutual
theorem Inv.reads (I:Inv X pins σ H s):∀{d:PyData} {v:V} {u:Value},IsD X.K H d v->RelV v u->∃as,Reads s.heap u d as
 |.none,_,_,h,r=>by rw[h.ofNone]at r;cases r;exact⟨_,.none⟩
 |.bool _,_,_,h,r=>by rw[h.ofBool]at r;cases r;exact⟨_,.bool _⟩
 |.int _,_,_,h,r=>by rw[h.ofInt]at r;obtain⟨t,rfl⟩:=r;exact⟨_,.int _ _⟩
 |.str _,_,_,h,r=>by rw[h.ofStr]at r;obtain⟨t,rfl⟩:=r;exact⟨_,.str _ _⟩
 |.list ds,_,_,h,r=>by obtain⟨a,xs,e,h1,h2⟩:=h.ofLst;subst e;cases r;obtain⟨b,f,⟨o,n,g,c,_,d⟩,_⟩:=I.list h1;obtain⟨as,i⟩:=Inv.readsAll I h2 f;exact⟨_,.list g c d (by simpa using i)⟩
 |.tuple ds,_,_,h,r=>by obtain⟨a,xs,e,h1,h2⟩:=h.ofTup;subst e;cases r;obtain⟨b,f,⟨o,g,c,n,d⟩,_⟩:=I.tuple h1;obtain⟨as,i⟩:=Inv.readsAll I h2 f;exact⟨_,.tuple g c d (by simpa using i)⟩
 |.dict _,_,_,h,_=>by unfold IsD at h;exact h.elim
theorem Inv.readsAll (I:Inv X pins σ H s):∀{ds:List PyData} {vs:List V} {us:List Value},cC X.K H ds vs->Vals vs us->∃as,ReadsAll s.heap us ds as
 |[],_,_,h,r=>by rw[h.nil_of]at r;cases r;exact⟨_,.nil⟩
 |d::ds,_,_,h,r=>by
  obtain⟨v,t,e,h1,h2⟩:=h.cons_of;subst e;cases r with
  |cons r1 r2 =>obtain⟨as,a⟩:=Inv.reads I h1 r1;obtain⟨bs,b⟩:=Inv.readsAll I h2 r2;exact⟨_,.cons a b⟩
end
open PySem.SeqAt in
theorem lL (a:X.A.units+64<cLine):OpR X (compareOp .Eq) (λx y H Q=>∃d e,IsD X.K H d x/\IsD X.K H e y/\shaped d=true/\shaped e=true/\Q (.bl (PyData.eqv d e)) H):=by intro pins s σ H x y v u Q I b c h;obtain⟨d,e,hd,f,g,i,q⟩:=h;obtain⟨as,j⟩:=I.reads hd b;obtain⟨bs,k⟩:=I.reads f c;exact eq_dataH j k g i a ⟨.bl _,H,I,rfl,q⟩
open PySem.SeqAt in
theorem vx (a:X.A.units+64<cLine):OpR X (compareOp .NotEq) (λx y H Q=>∃d e,IsD X.K H d x/\IsD X.K H e y/\shaped d=true/\shaped e=true/\Q (.bl (!PyData.eqv d e)) H):=by intro pins s σ H x y v u Q I b c h;obtain⟨d,e,hd,f,g,i,q⟩:=h;obtain⟨as,j⟩:=I.reads hd b;obtain⟨bs,k⟩:=I.reads f c;exact ne_dataH j k g i a ⟨.bl _,H,I,rfl,q⟩
noncomputable def tyD:PyData->String
 |.none=>"NoneType"
 |.bool _=>"bool"
 |.int _=>"int"
 |.str _=>"str"
 |.list _=>"list"
 |.tuple _=>"tuple"
 |.dict _=>"dict"
def j4 (d:PyData) (T:String):Bool:=tyD d==T||(T=="int"&&tyD d=="bool")
theorem sM (K:PySem.W.Frag) {a T:String} (ha:a∈["NoneType", "bool", "int", "str", "list", "tuple"]) (b:T∈["bool", "int", "list", "tuple"]) :
  PySem.W.kitOne K (.type a) (.type T)=some (a==T||(T=="int"&&a=="bool")):=by
 simp only[Aa,Ai,or_false]at ha b;rcases ha with rfl|rfl|rfl|rfl|rfl|rfl <;> rcases b with rfl|rfl|rfl|rfl <;> rfl
theorem sf {d:PyData} (h:IsD K H d v):tyD d∈["NoneType", "bool", "int", "str", "list", "tuple"]:=by
 cases d with
 |dict _=>unfold IsD at h;exact h.elim
 |_=>simp[tyD]
theorem lg:eX X (.builtin "isinstance") (λxs H Q=>∃d v T,xs=[v,.ty T]/\IsD X.K H d v/\T∈["bool", "int", "list", "tuple"]/\Q (.bl (j4 d T)) H):=by
 intro pins s σ H xs us Q I r h;obtain⟨d,v,T,rfl,hd,k,q⟩:=h;obtain⟨u,c,rfl,f,l⟩:=vals2 r;cases l;have e:PySem.W.kitOne X.K (.type (tyD d)) (.type T)=some (j4 d T):=sM X.K (sf hd) k;have fin:∀tk,EP X pins σ Q (.bool (j4 d T)) { s with toks:=tk }:=λtk=>⟨.bl _,H,I.tok tk,rfl,q⟩
 cases d with
 |none=>rw[hd.ofNone]at f;cases f;exact PySem.W.kia_one PySem.W.kitx_none I.kIn True.intro e (λz=>nomatch z) fin
 |bool b=>rw[hd.ofBool]at f;cases f;exact PySem.W.kia_one PySem.W.kitx_bool I.kIn True.intro e (λz=>nomatch z) fin
 |int i=>rw[hd.ofInt]at f;obtain⟨t,rfl⟩:=f;exact PySem.W.kia_one PySem.W.kitx_int I.kIn True.intro e (λz=>nomatch z) fin
 |str x=>rw[hd.ofStr]at f;obtain⟨t,rfl⟩:=f;exact PySem.W.kia_one PySem.W.kitx_str I.kIn True.intro e (λz=>nomatch z) fin
 |list ds =>obtain⟨a,xs,e1,h1,h2⟩:=hd.ofLst;subst e1;cases f;obtain⟨j,m,⟨o,n,g,c,_,_⟩,_⟩:=I.list h1;exact PySem.W.kia_one PySem.W.kitx_list I.kIn ⟨o,g,c⟩ e (λz=>nomatch z) fin
 |tuple ds =>obtain⟨a,xs,e1,h1,h2⟩:=hd.ofTup;subst e1;cases f;obtain⟨j,m,⟨o,g,c,n,_⟩,_⟩:=I.tuple h1;exact PySem.W.kia_one PySem.W.kitx_tuple I.kIn ⟨o,g,c⟩ e (λz=>nomatch z) fin
 |dict _=>unfold IsD at hd;exact hd.elim
theorem iY:∀{bs:List Bool} {us:List Value},Vals (bs.map V.bl) us->LSm.BoolsAre us bs
 |[],_,.nil=>.nil
 |b::r,_,.cons h t=>by cases (show _=Value.bool b from h);exact .cons b (iY t)
theorem pJ (hc:X.calm=true):eX X (.builtin "all") (λxs H Q=>∃(a:Addr) (bs:List Bool),xs=[.ref a]/\SqL X.K H a (bs.map V.bl)/\Q (.bl (bs.all id)) H):=by
 intro pins s σ H xs us Q I r h;obtain⟨a,bs,rfl,k,q⟩:=h;obtain⟨u,rfl,l⟩:=vals1 r;cases l;obtain⟨c,m,p,_⟩:=I.list k;have hl:=p.isList;have g:=iY m;have f:a<s.heap.objs.size:=by obtain⟨_,e,_⟩:=hl;exact A9 e
 refine call_all_walk (wpAny_pyIter_list hl ?_);refine⟨s.heap.objs.size,[s.heap.objs.size,a],[s.heap.objs.size],c.toArray.size,_,_,λi=>(bs[i]?).getD true,rfl,Walks.list (A:=X.A.in1) (I.ok.hd hc) _ a (Af f) c.toArray,
  ⟨⟨_,Ae _ rfl,rfl,rfl⟩,hl.push _⟩,λi v s' Q' E' n j=>?_,λh' tk o=>?_⟩
 ·obtain⟨b,e,rfl⟩:=g.get i v (by simpa using n);simp only[e,Option.getD_some]at j;exact wpAny_truthy_bool j
 ·have e:((List.range c.toArray.size).all λi=>(bs[i]?).getD true)=bs.all id:=by rw[A6,g.length];exact LSm.range_all bs
  rw[e];exact⟨.bl _,H,I.kept (LSm.kept_iter o),rfl,q⟩
end
structure nQ (P:Program) (w:World) (outer:List Env) (H:Hp) (s:Shared) (H':Hp) (B:Heap) (ea:Addr) (cls a0:Value) (s':Shared):Prop where
 os:s'.os=s.os
 bare:AllBare s'.gens
 hok:HOk P w H' B
 keep:∀b o,s.heap.get? b=some o->H b=none->b∉frs outer->B.get? b=some o
 there:∀b o,s.heap.get? b=some o->b∉frs outer->∃o',B.get? b=some o'
 slot:∀b o,s.heap.get? b=some o->b∈frs outer->∃sl,s'.heap.get? b=some { o with slots:=sl }
 free:∀b o,s.heap.get? b=some o->H b=none->H' b=none
 tups:∀b xs,H b=some (.tup xs)->H' b=some (.tup xs)
 frzs:∀b o u,H b=some (.frz o u)->H' b=some (.frz o u)
 tbls:∀b q,H b=some (.tbl q)->H' b=some (.tbl q)
 fly:Heap.FlyingW B outer ea cls a0 s'.heap
def CXW (P:Program) (w:World):CXT:=λouter H s E e s'=>∃ea cls a0 H' B,e=.ref ea/\E cls none H'/\nQ P w outer H s H' B ea cls a0 s'
theorem cI.get (x:cI P w H h a o):∃ob,h.get? a=some ob:=by
 cases o with
 |lst xs=>obtain⟨_,_,_,_,e⟩:=x;exact⟨_,e⟩
 |tup xs=>obtain⟨_,_,_,ob,e,_⟩:=x;exact⟨_,e⟩
 |dK kvs=>obtain⟨_,_,_,_,o,_,_,e,_⟩:=x;exact⟨_,e⟩
 |dT kvs=>obtain⟨_,_,_,_,o,_,_,e,_⟩:=x;exact⟨_,e⟩
 |set S n=>obtain⟨o,_,_,_,e,_⟩:=x;exact⟨_,e⟩
 |ins C dx fs=>obtain⟨_,_,_,e,_⟩:=x;exact⟨_,e⟩
 |own y=>exact x
 |xd fs=>obtain⟨_,⟨_,_,_,e,_⟩,_⟩:=x;exact⟨_,e⟩
 |rng lo hi=>obtain⟨_,_,_,e⟩:=x;exact⟨_,e⟩
 |frz ob u=>obtain⟨e,_⟩:=x;exact⟨_,e⟩
 |tbl q=>obtain⟨_,e,_⟩:=x;exact⟨_,e⟩
 |met f y=>exact⟨_,show h.get? a=some _ from x⟩
 |ext φ=>obtain⟨_,e,_⟩:=x;exact e
section
variable {f:Addr} {A:Around}
theorem fR {L:Addr} (a:env.frame=some L):frs (env::outer)=L::frs outer:=by unfold frs;rw[AW,a]
theorem lF {CX:CXT} {g:Shared} {vs:List Value}
  (I:Inv (dO (CXW P w) P w K mg base N qual scope f cd A outer s H E) pins σ H1 g) (m:Heap.MadeExcOf g.heap h' ea cls vs) (p:E cls none H1) :
  (dO (CXW P w) P w K mg base N qual scope f cd A outer s H E).xe (.ref ea) { g with heap:=h' }:=by
 have i:=I.stack;have j:frs (dO (CXW P w) P w K mg base N qual scope f cd A outer s H E).stack=s.heap.objs.size::frs outer:=fR rfl;have k:∀env∈(dO (CXW P w) P w K mg base N qual scope f cd A outer s H E).stack,∀b,env.frame=some b->b∈frs (dO (CXW P w) P w K mg base N qual scope f cd A outer s H E).stack:=λenv r b c=>Bd.mpr ⟨env,r,c⟩
 have out:∀b o,s.heap.get? b=some o->b∉frs outer->b∉frs (dO (CXW P w) P w K mg base N qual scope f cd A outer s H E).stack:=λb o e n z=>by
  rw[j]at z;rcases Aa.mp z with z|z
  ·rw[z]at e;exact absurd (A9 e) (AN _)
  ·exact n z
 refine wpAny_leaves_madeW (base:=PySem.W.hideAll g.heap (frs (dO (CXW P w) P w K mg base N qual scope f cd A outer s H E).stack)) I.ok.frames rfl (λb o q=>PySem.W.of_hideAll _ q) (PySem.W.funFrames_hide i k) m λh2 t v x2 x3 x=>?_
 refine⟨ea,cls,.ref t,H1,_,rfl,p,⟨I.os,I.bare,?_,?_,?_,?_,?_,I.base.tups,I.base.frzs,I.base.tbls,v⟩⟩
 ·intro a o e;refine (I.hok a o e).stay (λb u c q=>PySem.W.hideAll_get _ q λz=>?_) (λ_ q=>q) λ_ _ q=>q
  have:=I.stkFree b z;rcases c with c|c
  ·rw[c,e]at this;cases this
  ·rw[c]at this;cases this
 ·intro b o e n c;exact PySem.W.hideAll_get _ (I.base.keep b o e n c (Ai)) (out b o e c)
 ·intro b o e c;obtain⟨o',q⟩:=I.base.there b o e (Ai);exact⟨o',PySem.W.hideAll_get _ q (out b o e c)⟩
 ·intro b o e c;obtain⟨sl,q⟩:=I.base.slot b o e (I.ok.frf b c) c (Ai);obtain⟨_,y,h,d2⟩:=I.ok.funs.mem c;have h:s.heap.get? b=some y:=h;rw[e]at h;cases h;obtain⟨l,B⟩:=x b _ (m.keeps b _ q) d2;exact⟨l,B⟩
 ·intro b o e n;exact I.base.free b o e n (Ai)
theorem mR:Passes (CXW P w) (dO (CXW P w) P w K mg base N qual scope f cd A outer s H E) E:=by
 intro pins σ H1 s1 e s2 I hc;obtain⟨ea,cls,a0,H2,B,rfl,i,F⟩:=hc;have c:frs (dO (CXW P w) P w K mg base N qual scope f cd A outer s H E).stack=s.heap.objs.size::frs outer:=fR rfl;have out:∀b o,s.heap.get? b=some o->b∉frs outer->b∉frs (dO (CXW P w) P w K mg base N qual scope f cd A outer s H E).stack:=λb o e n z=>by
  rw[c]at z;rcases Aa.mp z with z|z
  ·rw[z]at e;exact absurd (A9 e) (AN _)
  ·exact n z
 refine wpAny_leaves_onW I.ok.frames rfl F.fly λh2 j k=>⟨ea,cls,a0,H2,B,rfl,i,⟨F.os.trans I.os,F.bare,F.hok,?_,?_,?_,?_,?_,?_,?_,j⟩⟩
 ·intro b o e n a;exact F.keep b o (I.base.keep b o e n a (Ai)) (I.base.free b o e n (Ai)) (out b o e a)
 ·intro b o e a;obtain⟨o',q⟩:=I.base.there b o e (Ai);exact F.there b o' q (out b o e a)
 ·intro b o e a;obtain⟨sl,q⟩:=I.base.slot b o e (I.ok.frf b a) a (Ai);obtain⟨_,l,g,d2⟩:=I.ok.funs.mem a;have g:s.heap.get? b=some l:=g;rw[e]at g;cases g;obtain⟨sl1,m⟩:=F.slot b _ q (by rw[c];exact Ab _ a);obtain⟨h,p⟩:=k b _ m d2;exact⟨h,p⟩
 ·intro b o e n;obtain⟨o',q⟩:=I.base.there b o e (Ai);exact F.free b o' q (I.base.free b o e n (Ai))
 ·intro b xs e;exact F.tups b xs (I.base.tups b xs e)
 ·intro b o u e;exact F.frzs b o u (I.base.frzs b o u e)
 ·intro b ps e;exact F.tbls b ps (I.base.tbls b ps e)
end
theorem mW {a:List Value} (X:K.In h) (q:PySem.W.excIn K C a newId=true) :
  ∃bm N nm p bs hdct sn sub ab col dd k0 k1 k2 k3 k5 mN,h.get? C=some (excClassObj nm p C N bs bm hdct sn sub ab col dd k0 k1 k2 k3 k5 newId)/\h.Ns N mN/\mN "__init__"=none/\OwnTail h a bm:=by
 unfold PySem.W.excIn at q;split at q
 ·rename_i d1 c1 l1 g1;split at q
  ·rename_i C2 b g i j k n2 m hm r;simp only[A3,beq_iff_eq,Bool.not_eq_true']at q;obtain⟨⟨⟨⟨⟨s,t⟩,n⟩,u⟩,c⟩,o⟩:=q;subst s;subst t;obtain⟨z1,z2,z3,z4,z5,z6,z7,z8,v,e,z11⟩:=c1;dsimp only at hm n c o;subst hm;subst n;have hl:l1=#[g,i,j,k,some (.builtin n2),m]:=by obtain⟨l⟩:=l1;have f:l=_:=r;rw[f]
   subst hl;exact⟨b,z4,z1,z5,z2,z6,z7,z8,v,e,d1,g,i,j,k,m,_,X _ _ g1,.of_isNs (PySem.W.isNs_of_in X c),PySem.W.nsMap_none_of_in X c o,PySem.W.tail_of_in X u⟩
  ·cases q
 ·cases q
def md (X:Cx) (E:XK):Prop:=∀(pins:List (Addr×Obj)) (σ:St) (H:Hp) (s:Shared) (h':Heap) (ea:Addr) (cls:Value) (vs:List Value),Inv X pins σ H s->Heap.MadeExcOf s.heap h' ea cls vs->E cls none H->X.xe (.ref ea) { s with heap:=h' }
def wg (C:Addr) (E:XK) (t:TA):TS:=λ_ σ H=>t σ H λvs H1=>vs.length<=sizeLine/\E (.ref C) none H1
theorem qm {B a:String} {bm:List Value} {l:Pos} {t:TA} (hc:X.calm=true) (M:md X E) (FB:ExcBaseFacts B newId a bm) (m:Gl X x) (hm:X.mg x=some (.ref C)) (n:PySem.W.excIn X.K C bm newId=true)
  (ha:PA X (e::es) t) (c:(x==("__debug__":Str))=false:=by decide) (j:starEach (e::es) X.env=(false,eval e X.env)::starEach es X.env:=by rfl) (f:(backTo cpos (starEach es X.env)).any (·.1)=false:=by rfl) :
  PS X (.Raise (some (.Call (.Name x l) (e::es) [] cpos)) none pos) (wg C E t):=by
 intro pins s σ H D I h;obtain⟨tl,N,nm,q,bs,hdct,sn,sub,ab,col,dd,k0,k1,k2,k3,k5,mN,g,o,i,T⟩:=mW I.mod.kin n;refine wpAny_Raise_call_subT (C:=C) (nm:=nm) (q:=q) (N:=N) (bs:=bs) (bm:=tl) (hdct:=hdct) (sn:=sn) (sub:=sub) (ab:=ab) (col:=col) (dd:=dd) (k0:=k0) (k1:=k1) (k2:=k2) (k3:=k3) (k5:=k5)
  FB (mN:=mN) (T.hasType FB.hasBase) (I.ok.hd hc) (by rw[j];show (false||(backTo cpos (starEach es X.env)).any (·.1))=false;rw[f];rfl) i (fS I m hm ⟨rfl,?_⟩ c)
 have k:=ha cpos pins s σ H _ I h;rw[j]at k ⊢;refine Calls.evalArgs_plain (wpAny_mono k (λus s2 h2=>?_) λ_ _ y=>y);obtain⟨vs,H2,b,p,z,r⟩:=h2;exact⟨rfl,by rw[<-p.length];exact z,b.bk _ _ g,o.keeps b.bk,T.keeps b.bk,λh' ea u=>M pins σ H2 s2 h' ea _ _ b u r⟩
def XP (X:Cx) (pins:List (Addr×Obj)) (σ:St) (a:XK) (b:Value) (s':Shared):Prop:=∃H s,Inv X pins σ H s/\CXW X.prog X.w X.stack H s a b s'
abbrev TX:=St->Hp->VK->XK->Prop
def PEX (X:Cx) (e:Expr) (t:TX):Prop :=
 ∀(pins:List (Addr×Obj)) (s:Shared) (σ:St) (H:Hp) (Q:VK) (a:XK),Inv X pins σ H s->t σ H Q a->wpAny (model X.prog X.w) X.A (eval e X.env) (EP X pins σ Q) (XP X pins σ a) s
def wJ (sp:Sp) (dvs:List V) (t:TA):TX:=λσ H Q a=>t σ H λvs H1=>sp (vs++dvs) H1 Q a
theorem pX {f:Addr} {dvs:List V} {ds:List Value} {t:TA}
  (F:dj X.prog X.w X.K X.mg X.base (CXW X.prog X.w) k f fd ps sp) (l:cE k X.A) (m:Gl X x) (hm:X.mg x=some (.ref f)) (n:PySem.W.keepIn X.K (.ref f)=true) (o:Binds X.K fd ps ds) (hd:Vals dvs ds)
  (ha:PA X.nox (e::es) t) (c:(x==("__debug__":Str))=false:=by decide) (v:starEach (e::es) X.env=(false,eval e X.env)::starEach es X.env:=by rfl) (g:(backTo pos (starEach es X.env)).any (·.1)=false:=by rfl) :
  PEX X (.Call (.Name x p) (e::es) [] pos) (wJ sp dvs t):=by
 intro pins s σ H Q y I h;refine wpAny_Call_Name_kw (fS I m hm ?_ c);have B:=ha pos pins s σ H _ (I.wish _) h;refine PySem.W.callWith_K (h₀:=X.base) I.ok.mod.kin n (wpAny_mono B (λus i h1=>?_) λ_ _ z=>z.elim) v g;obtain⟨vs,H1,a,r,q⟩:=h1;have a:=a.unwish;refine⟨a.kIn,?_⟩;have j:Vals (vs++dvs) (us++ds):=r.append hd;have hl:(us++ds).length=ps.length:=by rw[<-j.length];exact F.len _ _ _ _ q
 refine wpAny_call (codeAny_mono (F.run X.A X.stack i H1 ⟨us,[]⟩ (us++ds) (vs++dvs) Q y l a.env0 (o i us a.kIn hl) j q) λr s' b=>?_);cases r with
 |error ev=>exact⟨H1,i,a,b⟩
 |ok fl =>
  cases fl with
  |ret u=>exact a.after b
  |next=>exact False.elim b
  |brk=>exact False.elim b
  |cont=>exact False.elim b
def sui (X:Cx) (ea:Addr) (oe:Obj):Cx:={ X with A:=X.A.mark (some (.ref ea)),calm:=false,pn:=X.pn++[(ea,oe)],xe:=λ_ _=>False }
theorem Inv.sui {oe:Obj} (I:Inv X pins σ H s)
  (h:s.heap.get? ea=some oe/\H ea=none/\ea≠X.env.locals/\ea∉X.fs/\∀v,oe.data≠.cell v):Inv (L2.sui X ea oe) pins σ H s :=
 ⟨⟨I.ok.mod,I.ok.kind,I.ok.glob,I.ok.blt,I.ok.above,I.ok.inj,I.ok.has,I.ok.cab,(λz=>nomatch z),I.ok.frames,I.ok.stk,I.ok.exf,I.ok.bs,I.ok.bsz,I.ok.noex,I.ok.exfs,I.ok.funs,I.ok.frf⟩,
  I.os,I.bare,I.base,I.loc,I.cell,I.free,I.freeC,λp a=>by
   rcases Aq.mp a with a|a
   ·rcases Aq.mp (show p∈X.pn++[(ea,oe)] from a) with a|a
    ·exact I.pin p (Av _ a)
    ·cases Aj.mp a;exact h
   ·exact I.pin p (Ag _ a),I.hok,I.len,I.tab⟩
theorem Inv.unsui {oe:Obj} (ok:X.Ok) (I:Inv (L2.sui X ea oe) pins σ H s):Inv X pins σ H s :=
 ⟨ok,I.os,I.bare,I.base,I.loc,I.cell,I.free,I.freeC,λp a=>by
  rcases Aq.mp a with a|a
  ·exact I.pin p (Av _ (Av _ a))
  ·exact I.pin p (Ag _ a),I.hok,I.len,I.tab⟩
theorem Inv.forget {a:Str->Option Value} {t':Nat} (I:Inv X pins σ H s) (hn:h'.Ns X.env.locals a) (f:Heap.SameBut X.env.locals s.heap h') :
  Inv X pins (List.replicate X.N.length none) H { s with heap:=h',toks:=t' }:=by
 have k:∀b o,b≠X.env.locals->s.heap.get? b=some o->h'.get? b=some o:=λb o g e=>(f.2 b g).trans e
 have old:∀b o,X.s₀.heap.get? b=some o->b≠X.env.locals:=λb o e=>Af (A8 (A9 e) I.ok.above)
 refine⟨I.ok,I.os,I.bare,⟨λb o e n h1 h2=>k b o (old b o e) (I.base.keep b o e n h1 h2),λb o e n h1 h2=>?_,I.base.free,λb o e h1=>?_,I.base.tups,I.base.frzs,I.base.tbls⟩,⟨a,hn,λi x v _ e2 _=>?_⟩,λx c e=>?_,I.free,I.freeC,λp h=>?_,λb o e=>?_,by simp,I.tab⟩
 ·obtain⟨j,q⟩:=I.base.slot b o e n h1 h2;exact⟨j,k b _ (old b o e) q⟩
 ·obtain⟨o',q⟩:=I.base.there b o e h1;exact⟨o',k b o' (old b o e) q⟩
 ·rw[AJ]at e2;split at e2 <;> cases e2
 ·obtain⟨v,q⟩:=I.cell x c e;exact⟨v,q.sameBut f (I.cne x c e)⟩
 ·obtain⟨e,n,ne,l,d⟩:=I.pin p h;exact⟨k p.1 p.2 ne e,n,ne,l,d⟩
 ·refine (I.hok b o e).stay (λc v hc q=>k c v ?_ q) (λ_ q=>q) λ_ _ q=>q
  rintro rfl
  rcases hc with z|z
  ·subst z;rw[I.free]at e;cases e
  ·rw[I.free]at z;cases z
theorem nQ.inv {g:Heap} (I:Inv X pins σ H s) (F:nQ X.prog X.w X.stack H s H' B ea cls a0 s') (hB:B.StaysIn g) (i:s'.heap.UpToSlots g) :
  Inv X pins σ H' { s' with heap:=g }:=by
 refine I.call' (s':={ s' with heap:=g }) (ch:=[]) F.os ⟨λb o e n h1 _=>hB b o (F.keep b o e n h1),λb o e n h1 _=>?_,λb o e n _=>F.free b o e n,λb o e _=>?_,F.tups,F.frzs,F.tbls⟩ (F.hok.kept hB) F.bare (λb a=>absurd a (Ai))
 ·obtain⟨j,q⟩:=F.slot b o e h1;obtain⟨_,k,c,d2⟩:=I.stack.mem h1;rw[e]at c;cases c;obtain⟨f,h⟩:=i b _ q d2;exact⟨f,h⟩
 ·by_cases a:b∈frs X.stack
  ·obtain⟨j,q⟩:=F.slot b o e a;obtain⟨_,k,c,d2⟩:=I.stack.mem a;rw[e]at c;cases c;obtain⟨f,h⟩:=i b _ q d2;exact⟨_,h⟩
  ·obtain⟨o',q⟩:=F.there b o e a;exact⟨o',hB _ _ q⟩
theorem nQ.apart {f:Heap} (I:Inv X pins σ H s) (F:nQ X.prog X.w X.stack H s H' B ea cls a0 s') (g:Heap.FlyingW B X.stack ea cls a0 f) (hs:s'.heap.UpToSlots f) :
  ∃oe,oe.cls=cls/\f.get? ea=some oe/\H' ea=none/\ea≠X.env.locals/\ea∉X.fs/\∀v,oe.data≠.cell v:=by
 obtain⟨f1,f2,k,oe,vs,T,oT,ts,j,hc,hd,_⟩:=g;have a:∀b,b∈frs X.stack->ea≠b:=λb l z=>by subst z;obtain⟨_,o,c,h⟩:=k.mem l;rw[j]at c;cases c;exact h _ hd
 refine⟨oe,hc.1,j,?_,?_,λz=>?_,λv z=>by rw[hd]at z;cases z⟩
 ·cases q:H' ea with
  |none=>rfl
  |some o =>obtain⟨ob,e⟩:=(F.hok ea o q).get;rw[f2]at e;cases e
 ·rcases I.ok.stk with e|⟨e,i⟩
  ·intro z;obtain⟨m,⟨o,es,ep,c,hd2,_⟩,_⟩:=I.loc;have n:ea∉frs X.stack:=λq=>a ea q rfl
   obtain⟨o',q⟩:=F.there ea o (by rw[z];exact c) n;rw[f2]at q;cases q
  ·exact a _ (by rw[e,fR i];exact Ad)
 ·have:ea∈frs X.stack:=by
   rcases I.ok.stk with e|⟨e,i⟩
   ·rw[e];exact z
   ·rw[e,fR i];exact Ab _ z
  exact a ea this rfl
theorem og {n:Str} {np g:Pos} {Z:Stmt} {a:List Stmt} {D:Ends} {ts:Obj->TS} {l:List Value}
  (I:Inv X pins σ H s) (F:nQ X.prog X.w X.stack H s H' B ea (.ref C) a0 s') (hf:X.env.frame=some X.env.locals) (b:∃out,X.stack=X.env::out) (hN:X.N.Nodup) (hi:X.N[i]?=some n) (hl:X.env.scope.names.lookup n=some .local)
  (hg:Gl X x) (hm:X.mg x=some (.ref C)) (hC:PySem.W.excIn X.K C l newId=true) (j:l.contains (.type "BaseException")=true)
  (hs:∀oe,oe.cls=.ref C->PSs (sui X ea oe) (Z::a) (ts oe))
  (q:∀oe,oe.cls=.ref C->ts oe { nx:=λ_ _=>False,rt:=D.rt } (σ.set i (some (.ref ea))) H')
  (G:(x==("__debug__":Str))=false:=by decide) :
  wpAny (model X.prog X.w) X.A (noteFrame (.ref ea) X.env) (λ_ s2=>wpAny (model X.prog X.w) X.A (setFlight (.ref ea) none) (λ_ s3 =>
   wpAny (model X.prog X.w) X.A (handleBy (.ref ea) X.env [.ExceptHandler (some (.Name x np)) (some n) (Z::a) g]) (SP X pins D) X.xe s3) X.xe s2) X.xe s':=by
 obtain⟨out,b⟩:=b;have J:X.A.frames=some (X.env::out):=by rw[<-b];exact I.ok.frames
 have m:Heap.FlyingW B (X.env::out) ea (.ref C) a0 s'.heap:=by rw[<-b];exact F.fly
 refine wpAny_looks_onW J hf m λh4 L c=>?_
 refine wpAny_landsW L λh5 o e=>?_
 have h:Heap.FlyingW B X.stack ea (.ref C) a0 h5:=by rw[b];exact o
 have I5:Inv X pins σ H' { s' with heap:=h5 }:=F.inv I o.1 (c.trans e);obtain⟨oe,hc,ap⟩:=F.apart I h (c.trans e);have J5:=Inv.sui I5 ap;refine wpAny_handleBy_cons (codeAny_handlers_test (fS (X:=sui X ea oe) J5 hg hm ?_ G)) (by intro z;cases z);obtain⟨bm,Nn,nm,qn,bs,hdct,sn,sub,ab,col,dd,k0,k1,k2,k3,k5,mN,M,hN0,hni,TL⟩:=mW I5.kIn hC;refine wpAny_excMatches_sub_self M ap.1 hc (TL.hasType j) (codeAny_handlers_suite_as ?_);refine lands_againW h λh6 p r=>?_
 have I6:Inv X pins σ H' { s' with heap:=h6 }:=F.inv I p.1 ((c.trans e).trans r);obtain⟨f,t,O⟩:=F.apart I p ((c.trans e).trans r);have J6:=Inv.sui I6 O;refine iZ (X:=sui X ea f) (v:=.ref ea) J6 hN hi (.inl hl) rfl (λs7 J7=>?_) (.inr hl);refine wpAny_mono (hs f t pins s7 _ H' { nx:=λ_ _=>False,rt:=D.rt } J7 (q f t)) (λfl P E=>?_) λ_ _ z=>z.elim
 have fin:∀{v:V} {u:Value} {k:St} {y:Hp},Inv (sui X ea f) pins k y P->RelV v u->D.rt v y->wpAny (model X.prog X.w) X.A (do bindName X.env n .none;unbindBehindTheSuite X.env n g) (λ_ s9=>SP X pins D (.ret u) s9) X.xe P:=λ{v u k y} Q R S=>by have I8:=Inv.unsui I.ok Q;obtain⟨m8,T,_⟩:=I8.loc;exact wpAny_nameGoes hl T (by rw[I.ok.kind];rfl) λh9 m9 U Y=>⟨v,_,y,I8.forget (t':=P.toks+1) U Y,R,S⟩
 cases fl with
 |ret u =>obtain⟨v,k,y,Q,R,S⟩:=E;exact fin Q R S
 |next=>obtain⟨_,_,_,z⟩:=E;exact z.elim
 |brk=>obtain⟨_,_,_,z⟩:=E;exact z.elim
 |cont=>obtain⟨_,_,_,z⟩:=E;exact z.elim
def tZ (te:TX) (C:Addr) (i:Nat) (ts:Addr->Obj->TS):TS:=λD σ H=>te σ H D.rt λcls _ H1=>cls=.ref C/\∀ea oe,H1 ea=none->oe.cls=.ref C->ts ea oe { nx:=λ_ _=>False,rt:=D.rt } (σ.set i (some (.ref ea))) H1
theorem lV {te:TX} {n:Str} {c f:Pos} {m:Stmt} {a:List Stmt} {ts:Addr->Obj->TS} {g:List Value} (r:PEX X e te)
  (t:X.env.frame=some X.env.locals) (j:∃out,X.stack=X.env::out) (u:X.N.Nodup) (hi:X.N[i]?=some n) (hl:X.env.scope.names.lookup n=some .local)
  (w:Gl X x) (hm:X.mg x=some (.ref C)) (A:PySem.W.excIn X.K C g newId=true) (b:g.contains (.type "BaseException")=true) (E:∀ea oe,oe.cls=.ref C->PSs (sui X ea oe) (m::a) (ts ea oe)) (k:(x==("__debug__":Str))=false:=by decide) :
  PS X (.Try [.Return (some e) f] [.ExceptHandler (some (.Name x p)) (some n) (m::a) c] [] [] pos) (tZ te C i ts):=by
 intro pins s σ H D I h;refine wpAny_Try_except (wpAny_execs_cons (wpAny_Return_some (wpAny_mono (r pins s σ H _ _ I h) (λv G h1=>?_) λev G h1=>?_)))
 ·obtain⟨y,H1,J,L,M⟩:=h1;exact⟨y,σ,H1,J,L,M⟩
 ·obtain⟨H1,s0,O,ea,cls,a0,H2,B,rfl,⟨rfl,qs⟩,F⟩:=h1;have hn:H2 ea=none:=by
   cases q:H2 ea with
   |none=>rfl
   |some o =>obtain⟨ob,z⟩:=(F.hok ea o q).get;rw[F.fly.2.1]at z;cases z
  exact og (D:=D) (ts:=ts ea) O F t j u hi hl w hm A b (λoe l=>E ea oe l) (λoe l=>qs ea oe hn l) k
theorem f9 (h:H D=none):ak H (upd H D o):=λb u e=>by rw[ay (az e h)];exact e
theorem ak.put (s:ak H H') (h:H D=none):ak H (upd H' D o):=λb u e=>by rw[ay (az e h)];exact s b u e
mutual
def bZ:PyData->Bool
 |.list _=>false
 |.tuple ds=>e9 ds
 |.dict _=>false
 |_=>true
def e9:List PyData->Bool
 |[]=>true
 |d::ds=>bZ d&&e9 ds
end
theorem set_own (σ:St) (x:Option V) (v:V) (a:St) (h:a.length=1):(σ++a).set σ.length (some v)=σ++[some v]:=by obtain⟨y,rfl⟩:=List.length_eq_one_iff.mp h;simp
structure Rows (H H':Hp) (D:Addr) (qs:List Addr) (rs:List (List Int)):Prop where
 d:H' D=some (.lst (qs.map V.ref))
 len:qs.length=rs.length
 at':∀(i:Nat) q r,qs[i]?=some q->rs[i]?=some r->H' q=some (.lst (r.map V.int))
 new:∀q∈qs,H q=none
 nd:qs.Nodup
 nD:D∉qs
section
variable {prog:Program} {A:Around} {E:Value->Shared->Prop}
theorem lO {a:Array Value} {x:Value} (hi:s.heap.IsTupleIter it t i) (c:s.heap.IsTuple t a) (e:a[i]?=some x)
  (f:∀h',h'.IsTupleIter it t (i+1)->Heap.SameBut it s.heap h'->Q x { s with heap:=h' }):wpAny (model prog w) A (Builtin.SmallTypes.nextOf (.ref it)) Q E s:=by
 obtain⟨oi,gi,g,b⟩:=id hi;obtain⟨ot,gt,_,nt,h⟩:=c;unfold Builtin.SmallTypes.nextOf;refine wpAny_bind (wpAny_callSpecial?_slot (name:=Str.ofString "__next__") hi.typeIs F.slot_tuple_iterator_next (wpAny_call_entry F.slot_tuple_iterator_next hi.typeIs F.entry_tuple_iterator_next ?_ (F.args_tuple_iterator_next_1 _)));refine wpAny_bind (m:=field (.ref it) 0) (wpAny_field gi b (x:=.ref t) rfl ?_);show wpAny (model prog w) _ (if (Value.ref t==Value.none)=true then _ else _) _ _ s;have j:¬ (Value.ref t==Value.none)=true:=λq=>AB q
 rw[if_neg j];refine wpAny_bind (m:=field (.ref it) 1) (wpAny_field gi b (x:=.int i 0) rfl ?_);refine wpAny_bind (m:=seqItems? (.ref t)) (wpAny_seqItems gt h ?_);simp only[Aw,e];refine wpAny_bind (wpAny_setField gi b (by simp) (wpAny_pure ⟨x,rfl,wpAny_pure (f _ ⟨_,Heap.get?_update_self _ gi (Obj.isFreed_of_fields (Obj.data_mapFields b _)),(Obj.cls_mapFields ..).trans g,?_⟩ (Heap.SameBut.update ..))⟩));rw[Obj.data_mapFields b];simp[rawInt]
theorem ix {c:Array Value} (g:A.handled=none) (hi:s.heap.IsTupleIter it t i) (h:s.heap.IsTuple t c) (j:c[i]?=none)
  (k:∀h' e,Heap.ExtBut it s.heap h'->(∃o,h'.get? e=some o/\o.cls=.type "StopIteration")->E (.ref e) { s with heap:=h' }):wpAny (model prog w) A (Builtin.SmallTypes.nextOf (.ref it)) Q E s:=by
 obtain⟨oi,gi,ci,f⟩:=id hi;obtain⟨ot,gt,_,nt,l⟩:=h;unfold Builtin.SmallTypes.nextOf;refine wpAny_bind (wpAny_callSpecial?_slot (name:=Str.ofString "__next__") hi.typeIs F.slot_tuple_iterator_next (wpAny_call_entry F.slot_tuple_iterator_next hi.typeIs F.entry_tuple_iterator_next ?_ (F.args_tuple_iterator_next_1 _)));refine wpAny_bind (m:=field (.ref it) 0) (wpAny_field gi f (x:=.ref t) rfl ?_);show wpAny (model prog w) _ (if (Value.ref t==Value.none)=true then _ else _) _ _ s;have n:¬ (Value.ref t==Value.none)=true:=λq=>AB q
 rw[if_neg n];refine wpAny_bind (m:=field (.ref it) 1) (wpAny_field gi f (x:=.int i 0) rfl ?_);refine wpAny_bind (m:=seqItems? (.ref t)) (wpAny_seqItems gt l ?_);simp only[Aw,j];refine wpAny_bind (wpAny_rule (wpAny_bind (wpAny_setField gi f (by simp) ?_)));refine wpAny_bind (m:=newExc (.type "StopIteration") []) ?_;unfold newExc newTuple;refine wpAny_bind (wpAny_newObj_type ?_ (by size_fits ));refine wpAny_bind (m:=firstArgMember _ _) (wpAny_of_eq (a:=Value.none) (by first|rfl|(unfold firstArgMember;rfl)) ?_);refine wpAny_newObj_type ?_ (by size_fits );unfold raiseNew;refine wpAny_bind (wpAny_handled ?_)
 first|rw[show A.in1.handled=none from g]|rw[g]
 refine wpAny_bind (wpAny_pure (wpAny_throw ?_));refine k _ _ (λb o p e=>?_) ⟨_,Ae _ rfl,rfl⟩;exact A1 _ (A1 _ ((B0 _ _ (Ne.symm p)).trans e))
theorem jP (j:A.handled=none) (it t:Addr) (c:t≠it) (a:Array Value):Draws prog w A it [it,t] a.size (λi v=>a[i]?=some v) (λi h=>h.IsTupleIter it t i/\h.IsTuple t a) where
 live:=λ_ _ st=>by obtain⟨⟨o,g,_⟩,_⟩:=st;exact⟨o,g⟩
 frame:=λ_ _ _ st k=>by obtain⟨⟨o,g,r⟩,⟨b,g2,e⟩⟩:=st;exact⟨⟨o,k it (by simp) o g,r⟩,⟨b,k t (by simp) b g2,e⟩⟩
 item:=λi s Q E hi st l=>lO st.1 st.2 (x:=a[i]) (by simp[hi]) λh' i' f=>by refine l _ h' s.toks (by simp[hi]) ⟨i',?_⟩ f;obtain⟨b,g2,e⟩:=st.2;exact⟨b,(f.2 t c).trans g2,e⟩
 done:=λs Q E st m=>ix j st.1 st.2 (by simp) m
end
structure gA (z TI TO i1 i2:Addr) (f1 f2:List Addr):Prop where
 TIz:TI≠z
 TOz:TO≠z
 z1:i1≠z
 z2:i2≠z
 TIO:TI≠TO
 TI1:TI≠i1
 TI2:TI≠i2
 TO1:TO≠i1
 TO2:TO≠i2
 i12:i1≠i2
 a1:∀b∈f1,b≠z/\b≠TO/\b≠i2
 a2:∀b∈f2,b≠z/\b≠TO/\b≠i1
section
variable {prog:Program} {A:Around} {E:Value->Shared->Prop} {z TI TO i1 i2:Addr} {f1 f2:List Addr} {n1 n2:Nat} {P1 P2:Nat->Value->Prop} {S1 S2:Nat->Heap->Prop} {a b:Value}
theorem qO (n:Draws prog w A i1 f1 n1 P1 S1) (p:Draws prog w A i2 f2 n2 P2 S2) (Z:gA z TI TO i1 i2 f1 f2) (h:IsZip s.heap z TI TO .none) (X:IsPair s.heap TI (.ref i1) (.ref i2)) (Y:IsPair s.heap TO a b)
  (C:S1 k s.heap) (D:S2 k s.heap) (k1:k<n1) (k2:k<n2)
  (hQ:∀h' x y tk,P1 k x->P2 k y->IsZip h' z TI TO (rawInt s.heap.objs.size)->IsPair h' TO x y->S1 (k+1) h'->S2 (k+1) h'->IsPair h' s.heap.objs.size x y ->
   (∀c o,c≠z->c≠TO->c≠i1->c≠i2->s.heap.get? c=some o->h'.get? c=some o)->Q (.ref s.heap.objs.size) { s with heap:=h',toks:=tk }) :
  wpAny (model prog w) A (Builtin.«zip.__next__» ⟨[.ref z],[]⟩) (λfin s'=>∃v,fin=.done (.ret v)/\Q v s') E s:=by
 refine wpAny_bind (m:=field (.ref z) 2) (wpAny_field h rfl (x:=.bool false) rfl ?_);refine wpAny_bind (m:=field (.ref z) 3) (wpAny_field h rfl (x:=.ref TI) rfl ?_);refine wpAny_bind (wpAny_seqItems X rfl ?_);refine wpAny_bind (m:=Builtin.SmallTypes.ownedTupleIsFree (.ref z)) ?_;unfold Builtin.SmallTypes.ownedTupleIsFree;refine wpAny_bind (wpAny_field h rfl (x:=.none) rfl (wpAny_pure ?_));rw[if_pos (by rfl)];refine wpAny_bind (wpAny_rule (wpAny_bind (wpAny_field h rfl (x:=.ref TO) rfl (wpAny_bind (wpAny_setField_rec h (by simp) λg1 F e1=>?_)))));have F:IsZip g1 z TI TO .ellipsis:=F;refine wpAny_bind ?_;simp only[List.zipIdx_cons,List.zipIdx_nil,List.forIn_cons,List.forIn_nil];refine wpAny_bind (wpAny_bind (wpAny_onRaise (wpAny_bind (m:=Builtin.SmallTypes.nextOf (.ref i1)) ?_)));have u1:S1 k g1:=n.frame _ _ _ C λb f o e=>(e1.2 b (Z.a1 b f).1).trans e
 refine n.item k { s with heap:=g1 } _ _ k1 u1 λx g2 N px v1 e2=>wpAny_pure ?_
 have O:IsPair g2 TO a b:=(e2.2 TO Z.TO1).trans ((e1.2 TO Z.TOz).trans Y);refine wpAny_bind (wpAny_seqItems (s:={ s with heap:=g2,toks:=N }) O rfl (wpAny_bind (wpAny_updateSeq_pair O λG H i=>?_)));have H:IsPair G TO x b:=H;refine wpAny_bind (wpAny_letGo (wpAny_pure (wpAny_bind (wpAny_bind (wpAny_onRaise (wpAny_bind (m:=Builtin.SmallTypes.nextOf (.ref i2)) ?_))))));have u2:S2 k G:=p.frame _ _ _ D λb f o e=>(i.2 b (Z.a2 b f).2.1).trans ((e2.2 b (Z.a2 b f).2.2).trans ((e1.2 b (Z.a2 b f).1).trans e))
 refine p.item k { s with heap:=G,toks:=N } _ _ k2 u2 λy P I py v2 j=>wpAny_pure ?_
 have R:IsPair P TO x b:=(j.2 TO Z.TO2).trans H;refine wpAny_bind (wpAny_seqItems (s:={ s with heap:=P,toks:=I }) R rfl (wpAny_bind (wpAny_updateSeq_pair R λg q l=>?_)));have q:IsPair g TO x y:=q;refine wpAny_bind (wpAny_letGo (wpAny_pure (wpAny_pure (wpAny_bind (wpAny_seqItems (s:={ s with heap:=g,toks:=I }) q rfl (wpAny_bind (wpAny_newTuple ?_)))))));have sz:g.objs.size=s.heap.objs.size:=by rw[l.1,j.1,i.1,e2.1,e1.1]
 have S:IsZip g z TI TO .ellipsis:=(l.2 z Z.TOz.symm).trans ((j.2 z Z.z2.symm).trans ((i.2 z Z.TOz.symm).trans ((e2.2 z Z.z1.symm).trans F)));have J:∀c o,c≠z->c≠TO->c≠i1->c≠i2->s.heap.get? c=some o->g.get? c=some o:=λc o c1 r K L e =>
  (l.2 c r).trans ((j.2 c L).trans ((i.2 c r).trans ((e2.2 c K).trans ((e1.2 c c1).trans e))))
 have w1:S1 (k+1) g:=n.frame _ _ _ v1 λb f o e=>(l.2 b (Z.a1 b f).2.1).trans ((j.2 b (Z.a1 b f).2.2).trans ((i.2 b (Z.a1 b f).2.1).trans e))
 have w2:S2 (k+1) g:=p.frame _ _ _ v2 λb f o e=>(l.2 b (Z.a2 b f).2.1).trans e
 have zl:z<g.objs.size:=A9 S;refine wpAny_bind (m:=Builtin.SmallTypes.ownedTupleHandOut (.ref z) (.ref g.objs.size)) ?_;unfold Builtin.SmallTypes.ownedTupleHandOut;have y6:IsZip (g.push { cls:=.type "tuple",data:=.seq #[x,y] }) z TI TO .ellipsis:=A1 _ S;refine wpAny_bind (wpAny_setField_rec y6 (by simp) λg7 M T=>?_);have M:IsZip g7 z TI TO (rawInt g.objs.size):=M;refine wpAny_setField_rec M (by simp) λt u U=>?_
 have u:IsZip t z TI TO (rawInt g.objs.size):=u;have B:∀c o,c≠z->g.get? c=some o->t.get? c=some o:=λc o c1 e=>(U.2 c c1).trans ((T.2 c c1).trans (A1 _ e))
 have W:IsPair t g.objs.size x y:=(U.2 _ (B5 zl)).trans ((T.2 _ (B5 zl)).trans (Ae _ rfl));refine wpAny_pure ⟨_,rfl,?_⟩;rw[sz]at u W;show Q (.ref g.objs.size) _;rw[sz];exact hQ t x y I px py u (B _ _ Z.TOz q) (n.frame _ _ _ w1 λb f o e=>B b o (Z.a1 b f).1 e) (p.frame _ _ _ w2 λb f o e=>B b o (Z.a2 b f).1 e) W λc o c1 r K L e=>B c o c1 (J c o c1 r K L e)
theorem pO (j:Draws prog w A i1 f1 n1 P1 S1) (Z:gA z TI TO i1 i2 f1 f2) {Q:Fin->Shared->Prop} (f:IsZip s.heap z TI TO .none) (r:IsPair s.heap TI (.ref i1) (.ref i2)) (hO:IsPair s.heap TO a b) (g:S1 n1 s.heap)
  (t:∀h' e,(∀c o,c≠z->c≠TO->c≠i1->c≠i2->s.heap.get? c=some o->h'.get? c=some o)->(∃o,h'.get? e=some o/\o.cls=.type "StopIteration")->E (.ref e) { s with heap:=h' }) :
  wpAny (model prog w) A (Builtin.«zip.__next__» ⟨[.ref z],[]⟩) Q E s:=by
 refine wpAny_bind (m:=field (.ref z) 2) (wpAny_field f rfl (x:=.bool false) rfl ?_);refine wpAny_bind (m:=field (.ref z) 3) (wpAny_field f rfl (x:=.ref TI) rfl ?_);refine wpAny_bind (wpAny_seqItems r rfl ?_);refine wpAny_bind (m:=Builtin.SmallTypes.ownedTupleIsFree (.ref z)) ?_;unfold Builtin.SmallTypes.ownedTupleIsFree;refine wpAny_bind (wpAny_field f rfl (x:=.none) rfl (wpAny_pure ?_));rw[if_pos (by rfl)];refine wpAny_bind (wpAny_rule (wpAny_bind (wpAny_field f rfl (x:=.ref TO) rfl (wpAny_bind (wpAny_setField_rec f (by simp) λg1 h e1=>?_)))));have h:IsZip g1 z TI TO .ellipsis:=h;refine wpAny_bind ?_;simp only[List.zipIdx_cons,List.zipIdx_nil,List.forIn_cons,List.forIn_nil];refine wpAny_bind (wpAny_bind (wpAny_onRaise (wpAny_bind (m:=Builtin.SmallTypes.nextOf (.ref i1)) ?_)));have u:S1 n1 g1:=j.frame _ _ _ g λb v o e=>(e1.2 b (Z.a1 b v).1).trans e
 refine j.done { s with heap:=g1 } _ _ u λg2 e k y=>?_
 obtain⟨oe,ge,l⟩:=y;have n:IsZip g2 z TI TO .ellipsis:=k _ _ Z.z1.symm h;have i:e≠z:=λq=>by subst q;rw[n]at ge;cases ge;simp at l
 refine wpAny_setField_rec n (by simp) λB _ p=>t B e (λc o c1 _ C _ q=>(p.2 c c1).trans (k _ _ C ((e1.2 c c1).trans q))) ⟨oe,(p.2 e i).trans ge,l⟩
theorem mB (i:Draws prog w A.in1 i1 f1 n1 P1 S1) (j:Draws prog w A.in1 i2 f2 n2 P2 S2) (Z:gA z TI TO i1 i2 f1 f2) {Q:Option Value->Shared->Prop} (g:IsZip s.heap z TI TO .none) (l:IsPair s.heap TI (.ref i1) (.ref i2)) (m:IsPair s.heap TO a b)
  (e:S1 k s.heap) (f:S2 k s.heap) (k1:k<n1) (k2:k<n2)
  (n:∀h' x y tk,P1 k x->P2 k y->IsZip h' z TI TO (rawInt s.heap.objs.size)->IsPair h' TO x y->S1 (k+1) h'->S2 (k+1) h'->IsPair h' s.heap.objs.size x y ->
   (∀c o,c≠z->c≠TO->c≠i1->c≠i2->s.heap.get? c=some o->h'.get? c=some o)->Q (some (.ref s.heap.objs.size)) { s with heap:=h',toks:=tk }):wpAny (model prog w) A (pyNext (.ref z)) Q E s:=by
 have h:s.TypeIs (.ref z) "zip":=⟨_,g,rfl⟩
 unfold pyNext;refine wpAny_bind (wpAny_attempt (wpAny_callSpecial?_slot (name:=Str.ofString "__next__") h F.slot_zip_next (wpAny_call_entry F.slot_zip_next h F.entry_zip_next (qO i j Z g l m e f k1 k2 λh' x y tk p1 p2 c1 p q r t u=>?_) (F.args_zip_next_1 _))));exact wpAny_pure (n h' x y tk p1 p2 c1 p q r t u)
theorem jc (i:Draws prog w A.in1 i1 f1 n1 P1 S1) (Z:gA z TI TO i1 i2 f1 f2) {Q:Option Value->Shared->Prop} (g:IsZip s.heap z TI TO .none) (j:IsPair s.heap TI (.ref i1) (.ref i2)) (k:IsPair s.heap TO a b) (f:S1 n1 s.heap)
  (l:∀h',(∀c o,c≠z->c≠TO->c≠i1->c≠i2->s.heap.get? c=some o->h'.get? c=some o)->Q none { s with heap:=h' }):wpAny (model prog w) A (pyNext (.ref z)) Q E s:=by
 have h:s.TypeIs (.ref z) "zip":=⟨_,g,rfl⟩
 unfold pyNext;refine wpAny_bind (wpAny_attempt (wpAny_callSpecial?_slot (name:=Str.ofString "__next__") h F.slot_zip_next (wpAny_call_entry F.slot_zip_next h F.entry_zip_next (pO i Z g j k f λh' e k0 m=>?_) (F.args_zip_next_1 _))));obtain⟨o,n,hc⟩:=m;exact wpAny_bind (wpAny_isInstance (T:="StopIteration") (b:=true) ⟨o,n,hc⟩ isSubtype_stop (wpAny_pure (l _ k0)))
abbrev zH1 (h:Heap) (t:Addr):Heap:=h.push { cls:=.type "tuple_iterator",data:=.fields #[.ref t,.int 0 0] }
abbrev zH2 (h:Heap) (t l:Addr):Heap:=(zH1 h t).push { cls:=.type "list_iterator",data:=.fields #[.ref l,.int 0 0] }
abbrev zH3 (h:Heap) (t l:Addr):Heap:=(zH2 h t l).push { cls:=.type "tuple",data:=.seq #[.ref h.objs.size,.ref (zH1 h t).objs.size] }
abbrev zH4 (h:Heap) (t l:Addr):Heap:=(zH3 h t l).push { cls:=.type "tuple",data:=.seq #[.none,.none] }
abbrev zH5 (h:Heap) (t l:Addr):Heap:=(zH4 h t l).push { cls:=.type "zip",data:=.fields #[.none,.bool false,.bool false,.ref (zH2 h t l).objs.size,.ref (zH3 h t l).objs.size] }
theorem lI (t l:Addr) (xs ys:Array Value):Meets (Builtin.«zip.__new__» ⟨[.type "zip",.ref t,.ref l],[]⟩) (λ_ R s=>s.heap.IsTuple t xs/\s.heap.IsList l ys/\R (.ok (.ret (.ref (zH4 s.heap t l).objs.size))) { s with heap:=zH5 s.heap t l }) :=
 .of_wp λprog w A R s h=>by
  obtain⟨c,g,d,tk,os⟩:=s;obtain⟨e,hl,h⟩:=h;have sb:isSubtype (.type "zip") (.type "zip")=pure true:=by rw[isSubtype_type];kernel_rfl
  have a:Heap.IsTuple (Shared.heap ⟨c,g,d,tk,os⟩) t xs:=e;have b:Heap.IsList (Shared.heap ⟨c.push { cls:=.type "tuple_iterator",data:=.fields #[.ref t,.int 0 0] },g,d,tk,os⟩) l ys:=Heap.IsList.push hl _
  wp_walk using wpAny_pyIter_tuple a,wpAny_pyIter_list b
  exact⟨_,rfl,h⟩
theorem mE {l:Addr} {xs ys:Array Value} (a:s.heap.IsTuple t xs) (hl:s.heap.IsList l ys) (h:Q (.ref (zH4 s.heap t l).objs.size) { s with heap:=zH5 s.heap t l }) :
  wpAny (model prog w) A (call (.type "zip") [.ref t,.ref l]) Q E s:=by
 refine callType_new F.called_zip (by decide) (F.typeCall_zip_2 _ _) (F.newCall_zip_2 _ _) (λobj=>F.args_object_init_3 obj _ _) F.entry_zip_new (lI t l xs ys) ⟨a,hl,?_⟩;exact⟨⟨_,Ae _ rfl,rfl⟩,h⟩
end
section
variable {σ:L2.St}
theorem Inv.turnLay {t':Nat} {T:Addr} (I:Inv X pins σ H s) (g:∀b∈ch,iy X pins H b) (h:s.heap.objs.size<=T) (k:∀b u,b∉ch->s.heap.get? b=some u->h'.get? b=some u)
  (new:cI X.prog X.w (upd H T o) h' T o):Inv X pins σ (upd H T o) { s with heap:=h',toks:=t' }:=by
 have hn:H T=none:=I.hok.fresh h;have a:∀b u,H b=some u->b∉ch:=λb u e z=>by rw[(g b z).1]at e;cases e
 have neT:∀b u,s.heap.get? b=some u->b≠T:=λb u e=>Af (A8 (A9 e) h)
 refine I.step (g':=s.gens) (d':=s.drawn) (ch:=ch) (λb f=>?_) (λb u _ _ hc e _=>k b u hc e) (λb u _ _ hc e _=>⟨u.slots,k b u hc e⟩) (λb u _ e n=>by rw[ay (neT b u e)];exact n)
  (λb u hc e=>⟨u,k b u hc e⟩) (λb xs e=>by rw[ay (az e hn)];exact e) (λb u v e=>by rw[ay (az e hn)];exact e) (λb ps e=>by rw[ay (az e hn)];exact e) (λm hm=>?_) (λb u e=>?_) I.bare
 ·obtain⟨f0,f1,f2,j,l,p⟩:=g b f;exact⟨j,f1,l,p⟩
 ·obtain⟨i,es,t,x,r⟩:=hm;exact⟨i,es,t,k _ i (λz=>(g _ z).2.1 rfl) x,r⟩
 ·by_cases f:b=T
  ·subst f;rw[aV]at e;cases e;exact new
  ·rw[ay f]at e;refine (I.hok b u e).stay (λc v hc q=>k c v ?_ q) (λc q=>by rw[ay (az q hn)];exact q) (λc xs q=>by rw[ay (az q hn)];exact q) λc o' w' q=>by rw[ay (az q hn)];exact q
   rcases hc with z|z
   ·rw[z];exact a b u e
   ·exact a c _ z
theorem Inv.turneds {t':Nat} (I:Inv X pins σ H s) (f:∀b∈ch,iy X pins H b) (k:∀b u,b∉ch->s.heap.get? b=some u->h'.get? b=some u):Inv X pins σ H { s with heap:=h',toks:=t' }:=by
 have a:∀b u,H b=some u->b∉ch:=λb u e z=>by rw[(f b z).1]at e;cases e
 refine I.step (g':=s.gens) (d':=s.drawn) (ch:=ch) (λb h=>?_) (λb u _ _ hc e _=>k b u hc e) (λb u _ _ hc e _=>⟨u.slots,k b u hc e⟩) (λb u _ e n=>n)
  (λb u hc e=>⟨u,k b u hc e⟩) (λb xs e=>e) (λb u v e=>e) (λb ps e=>e) (λm hm=>?_) (λb u e=>?_) I.bare
 ·obtain⟨f0,f1,f2,i,j,l⟩:=f b h;exact⟨i,f1,j,l⟩
 ·obtain⟨g,es,o,p,r⟩:=hm;exact⟨g,es,o,k _ g (λz=>(f _ z).2.1 rfl) p,r⟩
 ·refine (I.hok b u e).stay (λc v hc q=>k c v ?_ q) (λ_ q=>q) λ_ _ q=>q
  rcases hc with z|z
  ·rw[z];exact a b u e
  ·exact a c _ z
end
def Itz (K:PySem.W.Frag) (a b:Addr) (n:Nat):It :=
 ⟨λi H=>i<n/\∃xs ys,SqT K H a xs/\SqL K H b ys/\xs.length=n/\ys.length=n,
  λi H v H'=>∃t x y,v=.ref t/\H t=none/\H'=upd H t (.tup [x,y])/\(∀xs,SqT K H a xs->xs[i]?=some x)/\∀ys,SqL K H b ys->ys[i]?=some y,
  λi H=>i=n/\∃xs ys,SqT K H a xs/\SqL K H b ys/\xs.length=n/\ys.length=n⟩
theorem p6 {x1:Nat} {tp:Pos} {z TI TO i1 i2:Addr} (Z:gA z TI TO i1 i2 [i1,a] [i2,b]) :
  Turn P w K (.Tuple elts x1 tp) (Itz K a b n) [z,TI,TO,i1,i2] z (λi h=>IsZip h z TI TO .none/\IsPair h TI (.ref i1) (.ref i2)/\(∃u v,IsPair h TO u v)/\h.IsTupleIter i1 a i/\h.IsListIter i2 b i) where
 mem:=by simp
 obj:=λi h st c hc=>by
  obtain⟨h1,h2,⟨u,v,r⟩,⟨t,j,_,d4⟩,⟨C,m,_,d5⟩⟩:=st;simp only[Aa,Ai,or_false]at hc;rcases hc with rfl|rfl|rfl|rfl|rfl
  ·exact⟨_,h1,λv q=>by cases q⟩
  ·exact⟨_,h2,λv q=>by cases q⟩
  ·exact⟨_,r,λv q=>by cases q⟩
  ·exact⟨_,j,λv q=>by rw[d4]at q;cases q⟩
  ·exact⟨_,m,λv q=>by rw[d5]at q;cases q⟩
 keep:=λi h h' st k=>by obtain⟨h1,h2,⟨u,v,r⟩,⟨t,j,r4⟩,⟨C,m,r5⟩⟩:=st;exact⟨k z (by simp) _ h1,k TI (by simp) _ h2,⟨u,v,k TO (by simp) _ r⟩,⟨t,k i1 (by simp) _ j,r4⟩,⟨C,k i2 (by simp) _ m,r5⟩⟩
 item:=by
  intro X hP hw hK hc i pins s σ H E I R st hg;subst hP hw hK;obtain⟨hi,xs,ys,S,hy,lx,ly⟩:=hg;obtain⟨h1,h2,⟨u,v,r⟩,D,T⟩:=st;obtain⟨f,U,p,_⟩:=I.tuple S;obtain⟨G,J,p',_⟩:=I.list hy;have la:=U.length;have lb:=J.length;have Y:X.A.in1.handled=none:=I.ok.hd hc;have na:a≠i1:=λq=>by obtain⟨o,g,c,_⟩:=p;obtain⟨t,j,L,_⟩:=D;rw[q,j]at g;cases g;rw[L]at c;exact absurd (Value.type.inj c) (by decide)
  have nb:b≠i2:=λq=>by obtain⟨o,n,g,c,_⟩:=p';obtain⟨C,m,c5,_⟩:=T;rw[q,m]at g;cases g;rw[c5]at c;exact absurd (Value.type.inj c) (by decide)
  have pt:s.heap.IsTuple a f.toArray:=p;refine mB (jP Y i1 a na f.toArray) (Draws.list Y i2 b nb G.toArray) Z h1 h2 r ⟨D,pt⟩ ⟨T,p'.isList⟩ (by simp;omega) (by simp;omega) λh' x y tk px py c1 c2 c3 L c5 c6=>⟨_,rfl,?_⟩
  refine wpAny_letOwnedTupleGo_zip (s:={ s with heap:=h',toks:=tk }) c1 λh2' d1 d2=>?_
  have zl:z<s.heap.objs.size:=A9 h1;have F:∀c o,c≠z->h'.get? c=some o->h2'.get? c=some o:=λc o hc e=>(d2.2 c hc).trans e
  have nT:s.heap.objs.size≠z:=B5 zl;obtain⟨M,ex,rx⟩:∃M,xs[i]?=some M/\RelV M x:=by
   have l:i<xs.length:=by omega
   obtain⟨u',e1,e2⟩:=U.get (A5 l);refine⟨xs[i],A5 l,?_⟩;have N:f[i]?=some x:=by simpa using px
   rw[e1]at N;cases N;exact e2
  obtain⟨O,ey,ry⟩:∃O,ys[i]?=some O/\RelV O y:=by
   have l:i<ys.length:=by omega
   obtain⟨u',e1,e2⟩:=J.get (A5 l);refine⟨ys[i],A5 l,?_⟩;have Q:G[i]?=some y:=by simpa using py
   rw[e1]at Q;cases Q;exact e2
  have fr:H s.heap.objs.size=none:=I.hok.fresh (Ac _);refine⟨.ref s.heap.objs.size,upd H s.heap.objs.size (.tup [M,O]),?_,rfl,⟨_,M,O,rfl,fr,rfl,λxs' h=>by rw[I.tuple_inj h S];exact ex,λys' h=>by rw[I.list_inj h hy];exact ey⟩,?_,λc B=>?_⟩
  ·refine I.turnLay (t':=tk) (ch:=[z,TI,TO,i1,i2]) R (Ac _) (λc o hn e=>?_) ⟨by show 2<=sizeLine;decide,[x,y],.cons rx (.cons ry .nil),⟨_,F _ _ nT c5,rfl,rfl,_,rfl⟩⟩;simp only[Aa,Ai,or_false,not_or]at hn;exact F c o hn.1 (c6 c o hn.1 hn.2.2.1 hn.2.2.2.1 hn.2.2.2.2 e)
  ·obtain⟨⟨t,j,r4⟩,_⟩:=c3;obtain⟨⟨C,m,r5⟩,_⟩:=L;exact⟨d1,F _ _ Z.TIz (c6 _ _ Z.TIz Z.TIO Z.TI1 Z.TI2 h2),⟨x,y,F _ _ Z.TOz c2⟩,⟨t,F _ _ Z.z1 j,r4⟩,⟨C,F _ _ Z.z2 m,r5⟩⟩
  ·have h0:=(R c B).1;obtain⟨oc,gc⟩:∃oc,s.heap.get? c=some oc:=by
    simp only[Aa,Ai,or_false]at B;rcases B with rfl|rfl|rfl|rfl|rfl
    ·exact⟨_,h1⟩
    ·exact⟨_,h2⟩
    ·exact⟨_,r⟩
    ·obtain⟨t,j,_⟩:=D;exact⟨_,j⟩
    ·obtain⟨C,m,_⟩:=T;exact⟨_,m⟩
   rw[ay (Af (A9 gc))];exact h0
 done:=by
  intro X hP hw hK hc i pins s σ H E I R st hg;subst hP hw hK;obtain⟨hi,xs,ys,S,hy,lx,ly⟩:=hg;obtain⟨h1,h2,⟨u,v,r⟩,D,T⟩:=st;obtain⟨f,U,p,_⟩:=I.tuple S;have la:=U.length;have Y:X.A.in1.handled=none:=I.ok.hd hc;have na:a≠i1:=λq=>by obtain⟨o,g,c,_⟩:=p;obtain⟨t,j,L,_⟩:=D;rw[q,j]at g;cases g;rw[L]at c;exact absurd (Value.type.inj c) (by decide)
  have pt:s.heap.IsTuple a f.toArray:=p;have e:f.toArray.size=i:=by simp;omega
  refine jc (jP Y i1 a na f.toArray) Z h1 h2 r ⟨by rw[e];exact D,pt⟩ λh' k=>⟨rfl,?_⟩
  refine I.turneds (t':=s.toks) (ch:=[z,TI,TO,i1,i2]) R λc o hn q=>?_
  simp only[Aa,Ai,or_false,not_or]at hn;exact k c o hn.1 hn.2.2.1 hn.2.2.2.1 hn.2.2.2.2 q
 self:=λ_ _ _ _ _ st h=>wpAny_pyIter_zip st.1 h
theorem boot_zip:bootBuiltins "zip"=some (.type "zip"):=by decide +kernel
def yw (K:PySem.W.Frag) (ta:TA):TI:=λσ H R=>ta σ H λvs H1=>∃a b xs ys,vs=[.ref a,.ref b]/\SqT K H1 a xs/\SqL K H1 b ys/\ys.length=xs.length/\R (Itz K a b xs.length) H1
theorem uH {y:Nat} {z:Pos} {a b:Expr} {ta:TA} (A:Gl X "zip") (hm:X.mg "zip"=none) (ha:PA X [a,b] ta) (B:starEach [a,b] X.env=[(false,eval a X.env),(false,eval b X.env)]:=by rfl) (n:starEach [b] X.env=[(false,eval b X.env)]:=by rfl) :
  PI X (.Tuple elts y z) (.Call (.Name "zip" p) [a,b] [] pos) (yw X.K ta):=by
 intro pins s σ H R I h;refine Call_ (iO I A hm boot_zip (PyProof.Rows.callWith_type1 (thn (ha pos pins s σ H _ I h) λus f u=>?_) (by rw[B,n]) (by rw[n];rfl)));obtain⟨vs,H1,r,C,D⟩:=u;obtain⟨k,l,xs,ys,e,E,F,hl,q⟩:=D;subst e;obtain⟨u1,u2,e1,G,J⟩:=vals2 C;subst e1;cases G;cases J;obtain⟨v,rv,pt,_⟩:=r.tuple E;obtain⟨jts,rw',pl,_⟩:=r.list F;have t:f.heap.IsTuple k v.toArray:=pt;have w:k<f.heap.objs.size:=by obtain⟨_,g,_⟩:=t;exact A9 g
 have bl:l<f.heap.objs.size:=by obtain⟨_,_,g,_⟩:=pl;exact A9 g
 refine mE t pl.isList ?_;have z1:(zH1 f.heap k).objs.size=f.heap.objs.size+1:=Heap.size_push ..;have z2:(zH2 f.heap k l).objs.size=f.heap.objs.size+2:=by rw[Heap.size_push,z1]
 have z3:(zH3 f.heap k l).objs.size=f.heap.objs.size+3:=by rw[Heap.size_push,z2]
 have z4:(zH4 f.heap k l).objs.size=f.heap.objs.size+4:=by rw[Heap.size_push,z3]
 have x:IsZip (zH5 f.heap k l) (zH4 f.heap k l).objs.size (zH2 f.heap k l).objs.size (zH3 f.heap k l).objs.size .none:=Ae _ rfl;have L:IsPair (zH5 f.heap k l) (zH3 f.heap k l).objs.size .none .none:=A1 _ (Ae _ rfl);have M:IsPair (zH5 f.heap k l) (zH2 f.heap k l).objs.size (.ref f.heap.objs.size) (.ref (zH1 f.heap k).objs.size):=A1 _ (A1 _ (Ae _ rfl));have g2:(zH5 f.heap k l).IsListIter (zH1 f.heap k).objs.size l 0:=⟨_,A1 _ (A1 _ (A1 _ (Ae _ rfl))),rfl,rfl⟩
 have g1:(zH5 f.heap k l).IsTupleIter f.heap.objs.size k 0:=⟨_,A1 _ (A1 _ (A1 _ (A1 _ (Ae _ rfl)))),rfl,rfl⟩
 have N:∀c o,f.heap.get? c=some o->(zH5 f.heap k l).get? c=some o:=λc o e=>A1 _ (A1 _ (A1 _ (A1 _ (A1 _ e))))
 have O:Inv X pins σ H1 { f with heap:=zH5 f.heap k l }:=r.kept (t':=f.toks) N;have Z:gA (zH4 f.heap k l).objs.size (zH2 f.heap k l).objs.size (zH3 f.heap k l).objs.size f.heap.objs.size (zH1 f.heap k).objs.size [f.heap.objs.size,k] [(zH1 f.heap k).objs.size,l]:=by
  rw[z1,z2,z3,z4];have m:∀i j:Nat,i≠j->f.heap.objs.size+i≠f.heap.objs.size+j:=λi j h q=>h (Nat.add_left_cancel q)
  refine⟨m 2 4 (by decide),m 3 4 (by decide),m 0 4 (by decide),m 1 4 (by decide),m 2 3 (by decide),m 2 0 (by decide),m 2 1 (by decide),m 3 0 (by decide),m 3 1 (by decide),m 0 1 (by decide),λc hc=>?_,λc hc=>?_⟩
  ·simp only[Aa,Ai,or_false]at hc;rcases hc with rfl|rfl
   ·exact⟨m 0 4 (by decide),m 0 3 (by decide),m 0 1 (by decide)⟩
   ·exact⟨Af (A8 w (AD _ _)),Af (A8 w (AD _ _)),Af (A8 w (AD _ _))⟩
  ·simp only[Aa,Ai,or_false]at hc;rcases hc with rfl|rfl
   ·exact⟨m 1 4 (by decide),m 1 3 (by decide),m 1 0 (by decide)⟩
   ·exact⟨Af (A8 bl (AD _ _)),Af (A8 bl (AD _ _)),Af bl⟩
 have big:∀c∈[(zH4 f.heap k l).objs.size,(zH2 f.heap k l).objs.size,(zH3 f.heap k l).objs.size,f.heap.objs.size,(zH1 f.heap k).objs.size],f.heap.objs.size<=c:=λc hc=>by
  simp only[Aa,Ai,or_false]at hc;rcases hc with rfl|rfl|rfl|rfl|rfl
  ·rw[z4];exact AD _ _
  ·rw[z2];exact AD _ _
  ·rw[z3];exact AD _ _
  ·exact Ac _
  ·rw[z1];exact AD _ _
 refine wpAny_pyIter_zip x ⟨_,_,_,_,H1,rfl,O,p6 Z,⟨x,M,⟨_,_,L⟩,g1,g2⟩,λc hc=>?_,q⟩;exact r.fpOk (big c hc) (r.hok.fresh (big c hc))
inductive Rs (α:Type) where
 |ok (a:α)
 |rz (C:Addr)
 |no
namespace Rs
noncomputable def bind {α β:Type}:Rs α->(α->Rs β)->Rs β
 |ok a,f=>f a
 |rz C,_=>rz C
 |no,_=>no
def cN {α:Type}:Option α->Rs α
 |some a=>ok a
 |none=>no
noncomputable def calm {α:Type}:Rs α->Rs α
 |ok a=>ok a
 |_=>no
@[simp]theorem ag (a:α) (f:α->Rs β):(ok a).bind f=f a:=rfl
@[simp]theorem cY (C:Addr) (f:α->Rs β):(rz C).bind f=rz C:=rfl
@[simp]theorem aR (f:α->Rs β):(no:Rs α).bind f=no:=rfl
@[simp]theorem ao (a:α):cN (some a)=ok a:=rfl
@[simp]theorem vU:cN (none:Option α)=no:=rfl
@[simp]theorem cW (a:α):(ok a).calm=ok a:=rfl
end Rs
variable {gf:List PyData->Rs PyData}
noncomputable def del (H:Hp) (A:List Addr):Hp:=λb=>if b∈A then none else H b
theorem m4:del H []=H:=by funext b;simp[del]
theorem fF (h:b∈A):del H A b=none:=by simp[del,h]
theorem aP (h:b∉A):del H A b=H b:=by simp[del,h]
theorem ba (h:del H A b=some o):b∉A/\H b=some o:=by
 by_cases z:b∈A
 ·rw[fF z]at h;cases h
 ·rw[aP z]at h;exact⟨z,h⟩
theorem aq:ak (del H A) H:=λ_ _ e=>(ba e).2
theorem ak.del (s:ak H H'):ak (del H A) (L2.del H' A):=λb o e=>by obtain⟨z,e⟩:=ba e;rw[aP z];exact s b o e
def yM:HO->Bool
 |.lst _=>true
 |.dK _=>true
 |.dT _=>true
 |_=>false
def Ls (H:Hp) (A:List Addr):Prop:=∀a∈A,∃o,H a=some o/\yM o=true
theorem Ls.same (h:Ls H A) (s:ak H H'):Ls H' A:=λa ha=>by obtain⟨o,e,q⟩:=h a ha;exact⟨o,s _ _ e,q⟩
theorem Ls.nil:Ls H []:=λ_ h=>by cases h
theorem Ls.new {p:Addr} (h:Ls H A) (a:H p=none):p∉A:=λz=>by obtain⟨xs,e,_⟩:=h p z;rw[a]at e;cases e
def ah (ns:List Int):PyData:=.dict [(.none,.list (ns.map .int))]
abbrev dtK (l:List ((Int×Int)×Int)):List (PyData×PyData):=(.bool true,.none)::l.map λp=>(.tuple [.int p.1.1,.int p.1.2],.int p.2)
abbrev dtO (l:List ((Int×Int)×Int)):HO:=.dT (l.map λp=>([.inl p.1.1,.inl p.1.2],V.int p.2))
abbrev dfK (l:List (Int×Int)):List (PyData×PyData):=(.bool false,.none)::l.map λp=>(.int p.1,.int p.2)
def xJ (kvs:List (PyData×PyData)) (o:HO):Prop:=(∃l:List (Int×Int),kvs=l.map (λp=>(PyData.int p.1,PyData.int p.2))/\o=.dK (l.map λp=>(.inl p.1,V.int p.2)))\/(∃l,kvs=dtK l/\o=dtO l)\/∃l ob,kvs=dfK l/\o=.frz ob (.dK (l.map λp=>(.inl p.1,V.int p.2)))
mutual
def Is (K:PySem.W.Frag) (H:Hp):PyData->V->Prop
 |.none,v=>v=.non
 |.bool b,v=>v=.bl b
 |.int i,v=>v=.int i
 |.str x,v=>v=.str x
 |.list ds,v=>∃a xs,v=.ref a/\H a=some (.lst xs)/\Iss K H ds xs
 |.tuple ds,v=>∃a xs,v=.ref a/\H a=some (.tup xs)/\Iss K H ds xs
 |.dict kvs,v=>((∃a ns,v=.ref a/\kvs=[(PyData.none,PyData.list (List.map PyData.int ns))]/\SqL K H a (List.map V.int ns)) \/
  ∃(a:Addr) (o:HO),v=.ref a/\xJ kvs o/\H a=some o) \/
  ∃(a C dx:Addr) (fs:List (Str×V)),v=.ref a/\H a=some (.ins C dx fs)/\fs.lookup ("@":Str)=none/\(Isk K H kvs (("",.int (C:Int))::fs)\/Isk K H kvs (("",.int (C:Int))::("@",.int (a:Int))::fs))
def Iss (K:PySem.W.Frag) (H:Hp):List PyData->List V->Prop
 |[],vs=>vs=[]
 |d::ds,vs=>∃v r,vs=v::r/\Is K H d v/\Iss K H ds r
def Isk (K:PySem.W.Frag) (H:Hp):List (PyData×PyData)->List (Str×V)->Prop
 |[],fs=>fs=[]
 |(k,d)::r,fs=>∃f v fs',fs=(f,v)::fs'/\k=.str f/\Is K H d v/\Isk K H r fs'
end
def wV (C a:Addr) (b:List (Str×PyData)):PyData:=.dict ((.str "",.int (C:Int))::(.str "@",.int (a:Int))::b.map λp=>(.str p.1,p.2))
section
theorem bJ {i:Int}:Is K H (.int i) (.int i):=by unfold Is;rfl
theorem is_bool {b:Bool}:Is K H (.bool b) (.bl b):=by unfold Is;rfl
theorem is_none:Is K H .none .non:=by unfold Is;rfl
theorem l7:Is K H (.str x) (.str x):=by unfold Is;rfl
theorem fL (h:H a=some (.tup xs)) (h2:Iss K H ds xs):Is K H (.tuple ds) (.ref a):=by unfold Is;exact⟨a,xs,rfl,h,h2⟩
theorem eZ (h:H a=some (.lst xs)) (h2:Iss K H ds xs):Is K H (.list ds) (.ref a):=by unfold Is;exact⟨a,xs,rfl,h,h2⟩
theorem oJ (h:SqL K H a (ns.map V.int)):Is K H (ah ns) (.ref a):=by unfold ah Is;exact .inl (.inl ⟨a,ns,rfl,rfl,h⟩)
theorem ck:Iss K H [] []:=by unfold Iss;rfl
theorem bB {d:PyData} (h:Is K H d v) (h2:Iss K H ds vs):Iss K H (d::ds) (v::vs):=by unfold Iss;exact⟨v,vs,rfl,h,h2⟩
theorem fP {d:PyData} (h:Is K H d v):Iss K H [d] [v]:=bB h ck
theorem Is.ofInt {i:Int} (h:Is K H (.int i) v):v=.int i:=by unfold Is at h;exact h
theorem Is.ofBool {i:Bool} (h:Is K H (.bool i) v):v=.bl i:=by unfold Is at h;exact h
theorem Is.ofNone (h:Is K H .none v):v=.non:=by unfold Is at h;exact h
theorem Is.ofStr (h:Is K H (.str x) v):v=.str x:=by unfold Is at h;exact h
theorem Is.ofTup (h:Is K H (.tuple ds) v):∃a xs,v=.ref a/\H a=some (.tup xs)/\Iss K H ds xs:=by unfold Is at h;exact h
theorem Is.ofLst (h:Is K H (.list ds) v):∃a xs,v=.ref a/\H a=some (.lst xs)/\Iss K H ds xs:=by unfold Is at h;exact h
theorem Is.ofScript (h:Is K H (ah ns) v):∃a,v=.ref a/\SqL K H a (ns.map V.int):=by
 unfold ah Is at h;rcases h with (h|⟨a,l,_,e,_⟩)|⟨a,C,dx,fs,_,_,_,h|h⟩
 case inl.inr=>rcases e with⟨m,e,_⟩|⟨m,e,_⟩|⟨m,_,e,_⟩ <;> first|(cases e;done)|(cases m <;> cases e)
 case inr.inl=>unfold Isk at h;obtain⟨f,_,_,_,h,_⟩:=h;cases h
 case inr.inr=>unfold Isk at h;obtain⟨f,_,_,_,h,_⟩:=h;cases h
 obtain⟨a,g,e,e2,h⟩:=h;have i:ns.map PyData.int=g.map PyData.int:=by injection e2 with e2 _;injection e2 with _ e2;injection e2
 have j:ns=g:=by
  have inj:∀(a b:List Int),a.map PyData.int=b.map PyData.int->a=b:=by
   intro a
   induction a with
   |nil=>intro b c;cases b with|nil=>rfl|cons _ _=>simp at c
   |cons x r ih =>
    intro b c;cases b with
    |nil=>simp at c
    |cons y s =>simp only[Au,List.cons.injEq,PyData.int.injEq]at c;rw[c.1,ih s c.2]
  exact inj _ _ i
 subst j;exact⟨a,e,h⟩
theorem Iss.nil_of (h:Iss K H [] vs):vs=[]:=by unfold Iss at h;exact h
theorem Iss.cons_of {d:PyData} (h:Iss K H (d::ds) vs):∃v r,vs=v::r/\Is K H d v/\Iss K H ds r:=by unfold Iss at h;exact h
theorem Iss.length:∀{ds:List PyData} {vs:List V},Iss K H ds vs->vs.length=ds.length
 |[],_,h=>by rw[h.nil_of];rfl
 |_::_,_,h=>by obtain⟨v,r,e,_,h2⟩:=h.cons_of;rw[e,AV,AV,Iss.length h2]
mutual
theorem Is.same (e:ak H H'):∀{d:PyData} {v:V},Is K H d v->Is K H' d v
 |.none,_,h=>by unfold Is at h ⊢;exact h
 |.bool _,_,h=>by unfold Is at h ⊢;exact h
 |.int _,_,h=>by unfold Is at h ⊢;exact h
 |.str _,_,h=>by unfold Is at h ⊢;exact h
 |.list ds,_,h=>by unfold Is at h ⊢;obtain⟨a,xs,e1,h1,h2⟩:=h;exact⟨a,xs,e1,e _ _ h1,Iss.same e h2⟩
 |.tuple ds,_,h=>by unfold Is at h ⊢;obtain⟨a,xs,e1,h1,h2⟩:=h;exact⟨a,xs,e1,e _ _ h1,Iss.same e h2⟩
 |.dict _,_,h=>by
  unfold Is at h ⊢;rcases h with (⟨a,ns,e1,e2,h2⟩|⟨a,l,e1,e2,h2⟩)|⟨a,C,dx,fs,e1,h1,hn,h2|h2⟩
  ·exact .inl (.inl ⟨a,ns,e1,e2,e.seq h2⟩)
  ·exact .inl (.inr ⟨a,l,e1,e2,e _ _ h2⟩)
  ·exact .inr ⟨a,C,dx,fs,e1,e _ _ h1,hn,.inl (Isk.same e h2)⟩
  ·exact .inr ⟨a,C,dx,fs,e1,e _ _ h1,hn,.inr (Isk.same e h2)⟩
theorem Iss.same (e:ak H H'):∀{ds:List PyData} {vs:List V},Iss K H ds vs->Iss K H' ds vs
 |[],_,h=>by unfold Iss at h ⊢;exact h
 |d::ds,_,h=>by unfold Iss at h ⊢;obtain⟨v,r,e1,h1,h2⟩:=h;exact⟨v,r,e1,Is.same e h1,Iss.same e h2⟩
theorem Isk.same (e:ak H H'):∀{ds:List (PyData×PyData)} {fs:List (Str×V)},Isk K H ds fs->Isk K H' ds fs
 |[],_,h=>by unfold Isk at h ⊢;exact h
 |(k,d)::ds,_,h=>by unfold Isk at h ⊢;obtain⟨f,v,r,e1,e2,h1,h2⟩:=h;exact⟨f,v,r,e1,e2,Is.same e h1,Isk.same e h2⟩
end
theorem uE (b:Ls H A) (h:H a=some (.tup xs)):del H A a=some (.tup xs):=by rw[aP (λq=>by obtain⟨ys,e2,c⟩:=b a q;rw[h]at e2;cases e2;cases c)];exact h
mutual
theorem Is.dl {A:List Addr} (b:Ls H A):∀{d:PyData} {v:V},bZ d=true->Is K H d v->Is K (del H A) d v
 |.none,_,_,h=>by unfold Is at h ⊢;exact h
 |.bool _,_,_,h=>by unfold Is at h ⊢;exact h
 |.int _,_,_,h=>by unfold Is at h ⊢;exact h
 |.str _,_,_,h=>by unfold Is at h ⊢;exact h
 |.list _,_,n,_=>by unfold bZ at n;cases n
 |.dict _,_,n,_=>by unfold bZ at n;cases n
 |.tuple ds,_,n,h=>by unfold bZ at n;obtain⟨a,xs,e,h1,h2⟩:=h.ofTup;subst e;exact fL (uE b h1) (Iss.dl b n h2)
theorem Iss.dl {A:List Addr} (a:Ls H A):∀{ds:List PyData} {vs:List V},e9 ds=true->Iss K H ds vs->Iss K (del H A) ds vs
 |[],_,_,h=>by rw[h.nil_of];exact ck
 |d::ds,_,n,h=>by unfold e9 at n;obtain⟨n1,n2⟩:=AH.mp n;obtain⟨v,r,e,h1,h2⟩:=h.cons_of;subst e;exact bB (Is.dl a n1 h1) (Iss.dl a n2 h2)
end
mutual
def ax:PyData->Bool
 |.list ds=>df ds
 |.tuple ds=>df ds
 |.dict _=>false
 |_=>true
def df:List PyData->Bool
 |[]=>true
 |d::ds=>ax d&&df ds
end
mutual
theorem Is.isd:∀{d:PyData} {v:V},ax d=true->Is K H d v->IsD K H d v
 |.none,_,_,h=>by rw[h.ofNone];exact pZ
 |.bool _,_,_,h=>by rw[h.ofBool];exact qW
 |.int _,_,_,h=>by rw[h.ofInt];exact ky
 |.str _,_,_,h=>by rw[h.ofStr];exact tK
 |.list ds,_,n,h=>by unfold ax at n;obtain⟨a,xs,e,h1,h2⟩:=h.ofLst;subst e;exact kh (SqL.of h1) (Iss.isd n h2)
 |.tuple ds,_,n,h=>by unfold ax at n;obtain⟨a,xs,e,h1,h2⟩:=h.ofTup;subst e;exact tE (SqT.of h1) (Iss.isd n h2)
 |.dict _,_,n,_=>by unfold ax at n;cases n
theorem Iss.isd:∀{ds:List PyData} {vs:List V},df ds=true->Iss K H ds vs->cC K H ds vs
 |[],_,_,h=>by rw[h.nil_of];exact i8
 |d::ds,_,n,h=>by unfold df at n;obtain⟨n1,n2⟩:=AH.mp n;obtain⟨v,r,e,h1,h2⟩:=h.cons_of;subst e;exact jU (Is.isd n1 h1) (Iss.isd n2 h2)
end
noncomputable def bX:PyData->Bool
 |.none=>true
 |.bool _=>true
 |.int _=>true
 |.str _=>true
 |_=>false
theorem IsD.is {d:PyData} (n:bX d=true) (h:IsD K H d v):Is K H d v:=by
 cases d with
 |none=>rw[h.ofNone];exact is_none
 |bool _=>rw[h.ofBool];exact is_bool
 |int _=>rw[h.ofInt];exact bJ
 |str _=>rw[h.ofStr];exact l7
 |_=>cases n
theorem mv {d:PyData} (n:bX d=true):bZ d=true:=by
 cases d with
 |list _=>cases n
 |tuple _=>cases n
 |dict _=>cases n
 |_=>unfold bZ;rfl
theorem Iss.get:∀{ds:List PyData} {vs:List V} {i:Nat} {v:V},Iss K H ds vs->vs[i]?=some v->∃d,ds[i]?=some d/\Is K H d v
 |[],_,i,v,h,e=>by rw[h.nil_of]at e;simp at e
 |d::ds,_,i,v,h,e=>by
  obtain⟨w,r,e1,h1,h2⟩:=h.cons_of;subst e1;cases i with
  |zero=>simp at e;subst e;exact⟨d,rfl,h1⟩
  |succ i=>simpa using Iss.get (i:=i) h2 (by simpa using e)
theorem Iss.getD:∀{ds:List PyData} {vs:List V} {i:Nat} {d:PyData},Iss K H ds vs->ds[i]?=some d->∃v,vs[i]?=some v/\Is K H d v
 |[],_,i,v,h,e=>by simp at e
 |d::ds,_,i,v,h,e=>by
  obtain⟨w,r,e1,h1,h2⟩:=h.cons_of;subst e1;cases i with
  |zero=>simp at e;subst e;exact⟨w,rfl,h1⟩
  |succ i=>simpa using Iss.getD (i:=i) h2 (by simpa using e)
theorem Iss.append:∀{ds es:List PyData} {vs us:List V},Iss K H ds vs->Iss K H es us->Iss K H (ds++es) (vs++us)
 |[],_,_,_,h,h'=>by rw[h.nil_of];exact h'
 |d::ds,es,_,us,h,h'=>by obtain⟨v,r,e,h1,h2⟩:=h.cons_of;subst e;exact bB h1 (Iss.append h2 h')
theorem Iss.take:∀{ds:List PyData} {vs:List V} (n:Nat),Iss K H ds vs->Iss K H (ds.take n) (vs.take n)
 |[],_,n,h=>by rw[h.nil_of];simpa using ck
 |d::ds,_,0,h=>by simpa using ck
 |d::ds,_,n+1,h=>by obtain⟨v,r,e,h1,h2⟩:=h.cons_of;subst e;exact bB h1 (Iss.take n h2)
theorem Iss.drop:∀{ds:List PyData} {vs:List V} (n:Nat),Iss K H ds vs->Iss K H (ds.drop n) (vs.drop n)
 |[],_,n,h=>by rw[h.nil_of];simpa using ck
 |d::ds,_,0,h=>h
 |d::ds,_,n+1,h=>by obtain⟨v,r,e,h1,h2⟩:=h.cons_of;subst e;exact Iss.drop n h2
theorem Iss.set {d:PyData} {v:V} (hv:Is K H d v):∀{ds:List PyData} {vs:List V} (i:Nat),Iss K H ds vs->Iss K H (ds.set i d) (vs.set i v)
 |[],_,n,h=>by rw[h.nil_of];simpa using ck
 |e::ds,_,0,h=>by obtain⟨u,r,z,h1,h2⟩:=h.cons_of;subst z;exact bB hv h2
 |e::ds,_,n+1,h=>by obtain⟨u,r,z,h1,h2⟩:=h.cons_of;subst z;exact bB h1 (Iss.set hv n h2)
theorem Iss.rep {ds:List PyData} {vs:List V} (h:Iss K H ds vs):∀k:Nat,Iss K H (List.replicate k ds).flatten (List.replicate k vs).flatten
 |0=>ck
 |k+1=>by rw[AF,AF,AO,AO];exact h.append (Iss.rep h k)
theorem Iss.ofBools:∀{ns:List Bool} {vs:List V},Iss K H (ns.map PyData.bool) vs->vs=ns.map V.bl
 |[],_,h=>h.nil_of
 |n::r,_,h=>by obtain⟨v,t,e,h1,h2⟩:=h.cons_of;rw[e,h1.ofBool,Iss.ofBools h2];rfl
theorem Is.isNone {d:PyData} (h:Is K H d v):(v=.non)↔d=.none:=by
 cases d with
 |none=>simp[h.ofNone]
 |bool b=>simp[h.ofBool]
 |int i=>simp[h.ofInt]
 |str x=>simp[h.ofStr]
 |list ds=>obtain⟨a,xs,e,_⟩:=h.ofLst;simp[e]
 |tuple ds=>obtain⟨a,xs,e,_⟩:=h.ofTup;simp[e]
 |dict _=>unfold Is at h;rcases h with (⟨a,ns,e,_⟩|⟨a,l,e,_⟩)|⟨a,C,dx,fs,e,_⟩ <;> simp[e]
theorem aS {p:Addr} (h:H p=none):ak H (upd H p o):=f9 h
theorem ku {p:Addr} (h:p∈A):del (upd H p o) A=del H A:=by
 funext b;by_cases z:b∈A
 ·rw[fF z,fF z]
 ·rw[aP z,aP z,ay (by rintro rfl;exact z h)]
theorem fW {p:Addr} (b:Ls H A) (a:H p=none) (h:Iss K (del H A) ds xs):Is K (del (upd H p (.tup xs)) A) (.tuple ds) (.ref p) :=
 fL (by rw[aP (b.new a)];exact aV) (h.same (ak.del (aS a)))
theorem fu {p:Addr} (b:Ls H A) (a:H p=none) (h:Iss K (del H A) ds xs):Is K (del (upd H p (.lst xs)) A) (.list ds) (.ref p) :=
 eZ (by rw[aP (b.new a)];exact aV) (h.same (ak.del (aS a)))
end
abbrev Ds:=List (Option PyData)
variable {cond:Ds->Rs Bool} {gs gl gi:Ds->Rs (List PyData)} {ge:Ds->Rs PyData} {δ:Ds} {tgt:PyData->Option Ds}
structure cj (K:PySem.W.Frag) (H:Hp) (A:List Addr) (δ:Ds) (σ:St):Prop where
 ls:Ls H A
 len:δ.length=σ.length
 get:∀(i:Nat) (d:PyData),δ[i]?=some (some d)->∃v,σ[i]?=some (some v)/\Is K (del H A) d v
theorem cj.same (R:cj K H A δ σ) (s:ak H H'):cj K H' A δ σ :=
 ⟨R.ls.same s,R.len,λi d e=>by obtain⟨v,e1,h⟩:=R.get i d e;exact⟨v,e1,h.same s.del⟩⟩
def eS (K:PySem.W.Frag) (E:XK) (A:List Addr) (H:Hp) (r:Rs PyData) (Q:VK):Prop:=match r with
 |.ok d=>∀v H',ak H H'->Is K (del H' A) d v->Q v H'
 |.rz C=>∀H',ak H H'->E (.ref C) none H'
 |.no=>False
def yF (K:PySem.W.Frag) (E:XK) (A:List Addr) (H:Hp) (r:Rs (List PyData)) (Q:List V->Hp->Prop):Prop:=match r with
 |.ok d=>∀v H',ak H H'->Iss K (del H' A) d v->Q v H'
 |.rz C=>∀H',ak H H'->E (.ref C) none H'
 |.no=>False
def kU (E:XK) (H:Hp) (r:Rs Bool) (Q:Bool->Hp->Prop):Prop:=match r with
 |.ok d=>∀H',ak H H'->Q d H'
 |.rz C=>∀H',ak H H'->E (.ref C) none H'
 |.no=>False
def eD (K:PySem.W.Frag) (E:XK) (g:Ds->Rs PyData):TE:=λσ H Q=>∃A δ,cj K H A δ σ/\eS K E A H (g δ) Q
def aD (K:PySem.W.Frag) (E:XK) (g:Ds->Rs (List PyData)):TA:=λσ H Q=>∃A δ,cj K H A δ σ/\yF K E A H (g δ) Q
noncomputable def cD (K:PySem.W.Frag) (E:XK) (g:Ds->Rs Bool):TT:=λσ H Q=>∃A δ,cj K H A δ σ/\kU E H (g δ) Q
def PD (X:Cx) (E:XK) (e:Expr) (g:Ds->Rs PyData):Prop:=PE X e (eD X.K E g)
def PAD (X:Cx) (E:XK) (es:List Expr) (g:Ds->Rs (List PyData)):Prop:=PA X es (aD X.K E g)/\∀δ ds,g δ=.ok ds->ds.length=es.length
def PCD (X:Cx) (E:XK) (e:Expr) (g:Ds->Rs Bool):Prop:=PT X e (cD X.K E g)
def PWD (X:Cx) (E:XK) (e:Expr) (g:Ds->Rs Bool):Prop:=PW X e (cD X.K E g)
theorem PE.imp {t t':TE} (h:PE X e t) (k:∀σ H Q,t' σ H Q->t σ H Q):PE X e t':=λpins s σ H Q I q=>h pins s σ H Q I (k σ H Q q)
theorem PT.imp {t t':TT} (h:PT X e t) (k:∀σ H Q,t' σ H Q->t σ H Q):PT X e t':=λpins s σ H Q I q=>h pins s σ H Q I (k σ H Q q)
theorem PW.imp {t t':TT} (h:PW X e t) (k:∀σ H Q,t' σ H Q->t σ H Q):PW X e t':=λw pins s σ H Q I q=>h w pins s σ H Q I (k σ H Q q)
theorem PA.imp {e:List Expr} {t t':TA} (h:PA X e t) (k:∀σ H Q,t' σ H Q->t σ H Q):PA X e t':=λp pins s σ H Q I q=>h p pins s σ H Q I (k σ H Q q)
theorem PS.imp {e:Stmt} {t t':TS} (h:PS X e t) (k:∀D σ H,t' D σ H->t D σ H):PS X e t':=λpins s σ H D I q=>h pins s σ H D I (k D σ H q)
theorem PSs.imp {e:List Stmt} {t t':TS} (h:PSs X e t) (k:∀D σ H,t' D σ H->t D σ H):PSs X e t':=λpins s σ H D I q=>h pins s σ H D I (k D σ H q)
theorem eS.mono {r:Rs PyData} {Q:VK} (h:eS K E A H r Q) (s:ak H H1):eS K E A H1 r Q:=by
 cases r with
 |ok d=>exact λv H' s' q=>h v H' (s.trans s') q
 |rz C=>exact λH' s'=>h H' (s.trans s')
 |no=>exact h
theorem kU.mono {r:Rs Bool} {Q:Bool->Hp->Prop} (h:kU E H r Q) (s:ak H H1):kU E H1 r Q:=by
 cases r with
 |ok d=>exact λH' s'=>h H' (s.trans s')
 |rz C=>exact λH' s'=>h H' (s.trans s')
 |no=>exact h
theorem eD.run {g:Ds->Rs PyData} {Q:VK} (R:cj K H A δ σ)
  (ok:∀d,g δ=.ok d->∀v H',ak H H'->cj K H' A δ σ->Is K (del H' A) d v->Q v H') (rz:∀C,g δ=.rz C->∀H',ak H H'->E (.ref C) none H') (no:g δ=.no->False):eD K E g σ H Q:=by
 refine⟨A,δ,R,?_⟩;cases e:g δ with
 |ok d=>exact λv H' s q=>ok d e v H' s (R.same s) q
 |rz C=>exact λH' s=>rz C e H' s
 |no=>exact no e
theorem aD.run {g:Ds->Rs (List PyData)} {Q:List V->Hp->Prop} (R:cj K H A δ σ)
  (ok:∀d,g δ=.ok d->∀v H',ak H H'->cj K H' A δ σ->Iss K (del H' A) d v->Q v H') (rz:∀C,g δ=.rz C->∀H',ak H H'->E (.ref C) none H') (no:g δ=.no->False):aD K E g σ H Q:=by
 refine⟨A,δ,R,?_⟩;cases e:g δ with
 |ok d=>exact λv H' s q=>ok d e v H' s (R.same s) q
 |rz C=>exact λH' s=>rz C e H' s
 |no=>exact no e
theorem cD.run {g:Ds->Rs Bool} {Q:Bool->Hp->Prop} (R:cj K H A δ σ)
  (ok:∀d,g δ=.ok d->∀H',ak H H'->cj K H' A δ σ->Q d H') (rz:∀C,g δ=.rz C->∀H',ak H H'->E (.ref C) none H') (no:g δ=.no->False):cD K E g σ H Q:=by
 refine⟨A,δ,R,?_⟩;cases e:g δ with
 |ok d=>exact λH' s=>ok d e H' s (R.same s)
 |rz C=>exact λH' s=>rz C e H' s
 |no=>exact no e
def af (i:Nat):Ds->Rs PyData:=λδ=>match δ[i]? with
 |some (some d)=>.ok d
 |_=>.no
def gC (d:PyData):Ds->Rs PyData:=λ_=>.ok d
def g1 (f:PyData->Option PyData) (a:Ds->Rs PyData):Ds->Rs PyData:=λδ=>(a δ).bind λx=>Rs.cN (f x)
def g2 (f:PyData->PyData->Option PyData) (a b:Ds->Rs PyData):Ds->Rs PyData:=λδ=>(a δ).bind λx=>(b δ).bind λy=>Rs.cN (f x y)
def gF (f:List PyData->Option PyData) (as:Ds->Rs (List PyData)):Ds->Rs PyData:=λδ=>(as δ).bind λds=>Rs.cN (f ds)
def aj:Ds->Rs (List PyData):=λ_=>.ok []
def ae (a:Ds->Rs PyData) (r:Ds->Rs (List PyData)):Ds->Rs (List PyData):=λδ=>(a δ).bind λx=>(r δ).bind λxs=>.ok (x::xs)
def i5 (as:Ds->Rs (List PyData)):Ds->Rs PyData:=λδ=>(as δ).bind λds=>.ok (.tuple ds)
def dJ (as:Ds->Rs (List PyData)):Ds->Rs PyData:=λδ=>(as δ).bind λds=>.ok (.list ds)
def au (gf:List PyData->Rs PyData) (as:Ds->Rs (List PyData)):Ds->Rs PyData:=λδ=>(as δ).bind gf
def truth:PyData->Rs Bool
 |.bool b=>.ok b
 |_=>.no
def gT (a:Ds->Rs PyData):Ds->Rs Bool:=λδ=>(a δ).bind truth
def bY (a:Ds->Rs Bool):Ds->Rs Bool:=λδ=>(a δ).bind λb=>.ok (!b)
def mr (a b:Ds->Rs Bool):Ds->Rs Bool:=λδ=>(a δ).bind λx=>if x=true then b δ else .ok false
def cOr (a b:Ds->Rs Bool):Ds->Rs Bool:=λδ=>(a δ).bind λx=>if x=true then .ok true else b δ
def oR (a b:Ds->Rs PyData):Ds->Rs PyData:=λδ=>(a δ).bind λx=>(truth x).bind λt=>if t=true then b δ else .ok (.bool false)
def gOr (a b:Ds->Rs PyData):Ds->Rs PyData:=λδ=>(a δ).bind λx=>(truth x).bind λt=>if t=true then .ok (.bool true) else b δ
def ym (a:Ds->Rs PyData):Ds->Rs PyData:=λδ=>(a δ).bind λx=>(truth x).bind λt=>.ok (.bool (!t))
section
variable {a b c:Expr} {ga gb gc:Ds->Rs PyData}
theorem vX (i:Nat) (c:X.N[i]?=some x) (hv:Vis X.env.scope x) (hd:(x==("__debug__":Str))=false)
  (a:(x==("__classdict__":Str))=false):PD X E (.Name x pos) (af i) :=
 (d7 c hv hd a).imp λσ H Q b=>by
  obtain⟨A,δ,R,o⟩:=b;unfold af at o;split at o
  ·rename_i d e;obtain⟨v,e1,h⟩:=R.get i d e;exact⟨v,e1,o v H (ak.refl H) h⟩
  ·exact o.elim
theorem pQ {d:PyData} (h:PE X e (tC v)) (hi:∀K H,Is K H d v):PD X E e (gC d):=h.imp λσ H Q a=>(by obtain⟨A,δ,R,o⟩:=a;exact o v H (ak.refl H) (hi _ _))
theorem vB {i j pos}:PD X E (.Constant (.int i) j pos) (gC (.int i)):=pQ d8 λ_ _=>bJ
theorem xC {i j pos}:PD X E (.Constant (.bool i) j pos) (gC (.bool i)):=pQ wL λ_ _=>is_bool
theorem pf {j pos}:PD X E (.Constant .none j pos) (gC .none):=pQ lZ λ_ _=>is_none
theorem vE {i j pos}:PD X E (.Constant (.str i) j pos) (gC (.str i)):=pQ p8 λ_ _=>l7
theorem tI {i:Int} (hm:∃t,X.mg x=some (.int i t)) (a:Gl X x) (hd:(x==("__debug__":Str))=false):PD X E (.Name x pos) (gC (.int i)):=by obtain⟨t,hm⟩:=hm;exact pQ (nz (v:=.int i) a hm ⟨_,rfl⟩ hd) λ_ _=>bJ
def OpD (K:PySem.W.Frag) (f:PyData->PyData->Option PyData) (r:R2):Prop :=
 ∀(d1 d2 d:PyData) (x y:V) (H:Hp) (A:List Addr) (Q:VK),f d1 d2=some d->Ls H A->Is K (del H A) d1 x->Is K (del H A) d2 y->(∀v H',ak H H'->Is K (del H' A) d v->Q v H')->r x y H Q
theorem g2.read {r:R2} {Q:VK} (b:OpD K f r) (R:cj K H A δ σ) (o:eS K E A H (g2 f ga gb δ) Q) :
  tOp r (eD K E ga) (eD K E gb) σ H Q:=by
 unfold g2 at o;refine eD.run R (λd1 e1 v H1 a c h1=>?_) (λC e1 H' s'=>?_) (λe1=>?_)
 ·rw[e1]at o;refine eD.run c (λd2 e2 u H2 s2 R2 h2=>?_) (λC e2 H' s'=>?_) (λe2=>?_)
  ·simp only[Rs.ag,e2]at o;cases e3:f d1 d2 with
   |none=>rw[e3]at o;exact o.elim
   |some d =>rw[e3]at o;exact b d1 d2 d v u H2 A Q e3 R2.ls (h1.same s2.del) h2 λw H' s q=>o w H' (a.trans (s2.trans s)) q
  ·simp only[Rs.ag,e2,Rs.cY]at o;exact o H' (a.trans s')
  ·simp only[Rs.ag,e2,Rs.aR]at o;exact o
 ·rw[e1]at o;exact o H' s'
 ·rw[e1]at o;exact o
theorem eN {r:R2} (g:OpD X.K f r) (ha:PD X E a ga) (h:PD X E b gb) (mk:∀{ta tb:TE},PE X a ta->PE X b tb->PE X e (tOp r ta tb)):PD X E e (g2 f ga gb) :=
 (mk ha h).imp λσ H Q c=>(by obtain⟨A,δ,R,o⟩:=c;exact g2.read g R o)
theorem fT {r:R2} (g:OpD X.K f r) (ha:PD X E a ga) (i:PD X E b gb) (mk:∀{ta tb:TE},PE X a ta->PE X b tb->PT X e (uj (tOp r ta tb))):PCD X E e (gT (g2 f ga gb)) :=
 (mk ha i).imp λσ H Q c=>by
  obtain⟨A,δ,R,o⟩:=c;refine g2.read (Q:=λx H'=>∃k,x=.bl k/\Q k H') g R ?_;unfold gT at o;cases q:g2 f ga gb δ with
  |no=>rw[q]at o;exact o
  |rz C=>rw[q]at o;exact o
  |ok d =>
   rw[q]at o;cases d with
   |bool k=>exact λv H' s h=>⟨k,h.ofBool,o H' s⟩
   |_=>exact o.elim
noncomputable def dI (f:Int->Int->Option PyData):PyData->PyData->Option PyData
 |.int i,.int j=>f i j
 |_,_=>none
theorem nF {f:Int->Int->Option PyData} {d1 d2 d:PyData} (h:dI f d1 d2=some d):∃i j,d1=.int i/\d2=.int j/\f i j=some d:=by
 unfold dI at h;split at h
 ·exact⟨_,_,rfl,rfl,h⟩
 ·cases h
def eB:=dI λi j=>some (.int (i-j))
def bc:=dI λi j=>if 0<j then some (.int (i % j)) else none
def cJ:=dI λi j=>if 0<j/\j<1073741824 then some (.int (i / j)) else none
def km:=dI λi j=>if 0<=j/\j<=1000000/\i.natAbs<2 ^ 64 then some (.int (i ^ j.toNat)) else none
def dLt:=dI λi j=>some (.bool (decide (i<j)))
def dLe:=dI λi j=>some (.bool (decide (i<=j)))
def dGt:=dI λi j=>some (.bool (decide (j<i)))
def dGe:=dI λi j=>some (.bool (decide (j<=i)))
theorem fJ {f:Int->Int->PyData} {v:Int->Int->V} (hv:∀i j K H,Is K H (f i j) (v i j)):OpD K (dI λi j=>some (f i j)) (rI0 v):=λd1 d2 d x y H A Q e hA h1 h2 k=>by obtain⟨i,j,rfl,rfl,e⟩:=nF e;cases e;exact⟨i,j,h1.ofInt,h2.ofInt,k _ H (ak.refl H) (hv _ _ _ _)⟩
theorem pU {C a:Int->Int->Prop} [∀i j,Decidable (a i j)] {f:Int->Int->PyData} {v:Int->Int->V} (hc:∀i j,a i j->C i j) (hv:∀i j K H,Is K H (f i j) (v i j)):OpD K (dI λi j=>if a i j then some (f i j) else none) (rI C v):=λd1 d2 d x y H A Q e hA h1 h2 k=>by
 obtain⟨i,j,rfl,rfl,e2⟩:=nF e;by_cases z:a i j
 ·simp only[if_pos z]at e2;cases e2;exact⟨i,j,h1.ofInt,h2.ofInt,hc i j z,k _ H (ak.refl H) (hv _ _ _ _)⟩
 ·simp only[if_neg z]at e2;cases e2
theorem v9 (ha:PD X E a ga) (c:PD X E b gb):PD X E (.BinOp a .Sub b pos) (g2 eB ga gb):=eN (fJ λ_ _ _ _=>bJ) ha c (cg u5)
theorem vc (ha:PD X E a ga) (c:PD X E b gb):PD X E (.BinOp a .Mod b pos) (g2 bc ga gb):=eN (pU (λ_ _ h=>h) λ_ _ _ _=>bJ) ha c (cg iq)
theorem u7 (ha:PD X E a ga) (c:PD X E b gb):PD X E (.BinOp a .FloorDiv b pos) (g2 cJ ga gb):=eN (pU (C:=xr) (λ_ _ h=>h) λ_ _ _ _=>bJ) ha c (cg tO)
theorem u3 (ha:PD X E a ga) (c:PD X E b gb):PD X E (.BinOp a .Pow b pos) (g2 km ga gb):=eN (pU (C:=wX) (λ_ _ h=>h) λ_ _ _ _=>bJ) ha c (cg vd)
theorem xg (ha:PD X E a ga) (c:PD X E b gb):PD X E (.Compare a [.LtE] [b] pos) (g2 dLe ga gb):=eN (fJ λ_ _ _ _=>is_bool) ha c λh1 h2=>nk mX h1 h2 (eU _)
theorem vG (ha:PD X E a ga) (c:PD X E b gb):PCD X E (.Compare a [.Lt] [b] pos) (gT (g2 dLt ga gb)):=fT (fJ λ_ _ _ _=>is_bool) ha c λh1 h2=>fv wY h1 h2 (eU _)
theorem vy (ha:PD X E a ga) (c:PD X E b gb):PCD X E (.Compare a [.LtE] [b] pos) (gT (g2 dLe ga gb)):=fT (fJ λ_ _ _ _=>is_bool) ha c λh1 h2=>fv mX h1 h2 (eU _)
theorem u0 (ha:PD X E a ga) (c:PD X E b gb):PCD X E (.Compare a [.Gt] [b] pos) (gT (g2 dGt ga gb)):=fT (fJ λ_ _ _ _=>is_bool) ha c λh1 h2=>fv wI h1 h2 (eU _)
open PySem.SeqAt in
def dEq (x y:PyData):Option PyData:=if ax x&&ax y&&shaped x&&shaped y then some (.bool (PyData.eqv x y)) else none
open PySem.SeqAt in
def dNe (x y:PyData):Option PyData:=if ax x&&ax y&&shaped x&&shaped y then some (.bool (!PyData.eqv x y)) else none
open PySem.SeqAt in
theorem pH:OpD K dEq (λx y H Q=>∃d e,IsD K H d x/\IsD K H e y/\shaped d=true/\shaped e=true/\Q (.bl (PyData.eqv d e)) H):=λd1 d2 d x y H A Q e hA h1 h2 k=>by
 unfold dEq at e;split at e
 ·rename_i z;simp only[A3]at z;cases e;exact⟨d1,d2,(h1.same aq).isd z.1.1.1,(h2.same aq).isd z.1.1.2,z.1.2,z.2,k _ H (ak.refl H) is_bool⟩
 ·cases e
open PySem.SeqAt in
theorem uV:OpD K dNe (λx y H Q=>∃d e,IsD K H d x/\IsD K H e y/\shaped d=true/\shaped e=true/\Q (.bl (!PyData.eqv d e)) H):=λd1 d2 d x y H A Q e hA h1 h2 k=>by
 unfold dNe at e;split at e
 ·rename_i z;simp only[A3]at z;cases e;exact⟨d1,d2,(h1.same aq).isd z.1.1.1,(h2.same aq).isd z.1.1.2,z.1.2,z.2,k _ H (ak.refl H) is_bool⟩
 ·cases e
theorem w6 (c:X.A.units+64<cLine) (ha:PD X E a ga) (e:PD X E b gb):PD X E (.Compare a [.Eq] [b] pos) (g2 dEq ga gb):=eN pH ha e λh1 h2=>nk (lL c) h1 h2 (eU _)
theorem vH (c:X.A.units+64<cLine) (ha:PD X E a ga) (e:PD X E b gb):PCD X E (.Compare a [.Eq] [b] pos) (gT (g2 dEq ga gb)):=fT pH ha e λh1 h2=>fv (lL c) h1 h2 (eU _)
theorem uN (c:X.A.units+64<cLine) (ha:PD X E a ga) (e:PD X E b gb):PCD X E (.Compare a [.NotEq] [b] pos) (gT (g2 dNe ga gb)):=fT uV ha e λh1 h2=>fv (vx c) h1 h2 (eU _)
noncomputable def dk:PyData->Bool
 |.none=>true
 |_=>false
def rT (x:PyData):Option PyData:=some (.bool (dk x))
def xW (x:PyData):Option PyData:=some (.bool (!dk x))
theorem g1.read {tt:(VK)->VK} {f:PyData->Option PyData} {Q:VK} (R:cj K H A δ σ) (o:eS K E A H (g1 f ga δ) Q)
  (b:∀d1 d x H',f d1=some d->Ls H' A->ak H H'->Is K (del H' A) d1 x->(∀v H2,ak H' H2->Is K (del H2 A) d v->Q v H2)->tt Q x H'):eD K E ga σ H (tt Q):=by
 unfold g1 at o;refine eD.run R (λd1 e1 v H1 a c h1=>?_) (λC e1 H' s'=>?_) (λe1=>?_)
 ·simp only[e1,Rs.ag]at o;cases e3:f d1 with
  |none=>rw[e3]at o;exact o.elim
  |some d=>rw[e3]at o;exact b d1 d v H1 e3 c.ls a h1 λw H' s q=>o w H' (a.trans s) q
 ·rw[e1]at o;exact o H' s'
 ·rw[e1]at o;exact o
theorem vV {d:PyData} (h:Is K H d v):decide (v=.non)=dk d:=by
 by_cases z:v=.non
 ·rw[decide_eq_true z,h.isNone.mp z];rfl
 ·rw[decide_eq_false z];have:d≠.none:=λq=>z (h.isNone.mpr q)
  cases d <;> first|(exact absurd rfl this)|rfl
theorem wc {j pos'} (ha:PD X E a ga):PD X E (.Compare a [.Is] [.Constant .none j pos'] pos) (g1 rT ga) :=
 (vL (vS ha)).imp λσ H Q ⟨A,δ,R,o⟩=>g1.read (tt:=λQ x H1=>Q (.bl (decide (x=.non))) H1) R o λd1 d x H' e _ _ h k=>by cases e;rw[vV h];exact k _ H' (ak.refl _) is_bool
theorem vv {t:TE} (h:PT X e (tB t)) (k:∀σ H Q,eD X.K E ga σ H Q->t σ H Q):PCD X E e (gT ga):=h.imp λσ H Q ⟨A,δ,R,o⟩=>k σ H _ ⟨A,δ,R,by
 unfold gT at o;cases q:ga δ with
 |no=>rw[q]at o;exact o
 |rz C=>rw[q]at o;exact o
 |ok d =>
  rw[q]at o;cases d with
  |bool c=>exact λv H' s h=>⟨c,h.ofBool,o H' s⟩
  |_=>exact o.elim⟩
theorem rL (h:PD X E e ga) (a:∀whole,isTrue e X.env whole=(do let v <-whole;standAt e.pos;holding [v] (truthy v))):PCD X E e (gT ga):=vv (vj h a) λ_ _ _ h=>h
theorem pC {ca:Ds->Rs Bool} {f:Bool->Rs Bool} {Q:Bool->Hp->Prop} {t:Bool->Hp->Prop} (R:cj K H A δ σ) (o:kU E H ((ca δ).bind f) Q)
  (k:∀b H1,ak H H1->cj K H1 A δ σ->kU E H1 (f b) Q->t b H1):cD K E ca σ H t:=by
 refine cD.run R (λb e H1 a c=>?_) (λC e H' s'=>?_) (λe=>?_)
 ·rw[e]at o;exact k b H1 a c (kU.mono (show kU E H (f b) Q from o) a)
 ·rw[e]at o;exact o H' s'
 ·rw[e]at o;exact o
variable {ca cb:Ds->Rs Bool} {rest:List Expr}
theorem sq (ha:PCD X E a ca):PCD X E (.UnaryOp .Not a pos) (bY ca):=(uY ha).imp λσ H Q c=>(by obtain⟨A,δ,R,o⟩:=c;exact pC R o λb H1 s1 R1 o=>o H1 (ak.refl _))
theorem q9 (ha:PCD X E a ca):PWD X E (.BoolOp .And [a] pos) ca:=si ha
theorem sJ (ha:PCD X E a ca):PWD X E (.BoolOp .Or [a] pos) ca:=wk ha
theorem mT (ha:PCD X E a ca) (c:PWD X E (.BoolOp .And (b::rest) pos) cb):PWD X E (.BoolOp .And (a::b::rest) pos) (mr ca cb):=PW.imp (uW ha c) λσ H Q ⟨A,δ,R,o⟩=>pC R o λb H1 s1 e o=>by
 cases b with
 |true=>exact⟨A,δ,e,o⟩
 |false=>exact o H1 (ak.refl _)
theorem pV (ha:PCD X E a ca) (c:PWD X E (.BoolOp .Or (b::rest) pos) cb):PWD X E (.BoolOp .Or (a::b::rest) pos) (cOr ca cb):=PW.imp (xG ha c) λσ H Q ⟨A,δ,R,o⟩=>pC R o λb H1 s1 e o=>by
 cases b with
 |false=>exact⟨A,δ,e,o⟩
 |true=>exact o H1 (ak.refl _)
theorem qS (h:PWD X E e ca):PCD X E e ca:=PW.pt h
theorem uv {f:PyData->Rs PyData} {Q:VK} {t:VK} (R:cj K H A δ σ) (o:eS K E A H ((ga δ).bind f) Q)
  (k:∀d v H1,ak H H1->cj K H1 A δ σ->Is K (del H1 A) d v->eS K E A H1 (f d) Q->t v H1):eD K E ga σ H t:=by
 refine eD.run R (λd e v H1 a b h1=>?_) (λC e H' s'=>?_) (λe=>?_)
 ·rw[e]at o;exact k d v H1 a b h1 (eS.mono (show eS K E A H (f d) Q from o) a)
 ·rw[e]at o;exact o H' s'
 ·rw[e]at o;exact o
theorem iJ {d:PyData} {f:Bool->Rs PyData} {Q:VK} (o:eS K E A H ((truth d).bind f) Q):∃t,d=.bool t/\eS K E A H (f t) Q:=by
 cases d with
 |bool t=>exact⟨t,rfl,o⟩
 |_=>exact o.elim
theorem vo {op} (ha:PD X E a ga):PD X E (.BoolOp op [a] pos) ga:=pM ha
theorem uO (ha:PD X E a ga) (c:PD X E (.BoolOp .And (b::rest) pos) gb):PD X E (.BoolOp .And (a::b::rest) pos) (oR ga gb):=(pY ha c).imp λσ H Q ⟨A,δ,R,o⟩=>uv R o λd v H1 s1 e h1 o=>by
 obtain⟨t,rfl,o⟩:=iJ o;refine⟨t,h1.ofBool,?_⟩;cases t with
 |true=>exact⟨A,δ,e,o⟩
 |false=>exact o _ H1 (ak.refl _) is_bool
theorem xx (ha:PD X E a ga) (c:PD X E (.BoolOp .Or (b::rest) pos) gb):PD X E (.BoolOp .Or (a::b::rest) pos) (gOr ga gb):=(w5 ha c).imp λσ H Q ⟨A,δ,R,o⟩=>uv R o λd v H1 s1 e h1 o=>by
 obtain⟨t,rfl,o⟩:=iJ o;refine⟨t,h1.ofBool,?_⟩;cases t with
 |false=>exact⟨A,δ,e,o⟩
 |true=>exact o _ H1 (ak.refl _) is_bool
def c9:PyData->Option PyData
 |.int i=>some (.int (-i))
 |_=>none
theorem vk (ha:PD X E a ga):PD X E (.UnaryOp .USub a pos) (g1 c9 ga):=(xb vA ha).imp λσ H Q ⟨A,δ,R,o⟩=>g1.read (tt:=λQ x H1=>∃i,x=.int i/\Q (.int (-i)) H1) R o λd1 d x H' e _ _ h k=>by
 cases d1 with
 |int i=>cases e;exact⟨i,h.ofInt,k _ H' (ak.refl _) bJ⟩
 |_=>cases e
theorem tF:PAD X E [] aj:=⟨cR.imp λσ H Q a=>(by obtain⟨A,δ,R,o⟩:=a;exact o [] H (ak.refl _) ck),λδ ds e=>by cases e;rfl⟩
theorem pS (ha:PD X E a ga) (b:PAD X E es gs) (f:starEach (a::es) X.env=(false,eval a X.env)::starEach es X.env):PAD X E (a::es) (ae ga gs):=by
 refine⟨(bA ha b.1 f).imp λσ H Q ⟨A,δ,R,o⟩=>?_,λδ ds e=>?_⟩
 ·unfold ae at o;refine eD.run R (λd e v H1 c g h1=>?_) (λC e H' s'=>?_) (λe=>?_)
  ·simp only[e,Rs.ag]at o;refine aD.run g (λds e2 vs H2 s2 R2 h2=>?_) (λC e2 H' s'=>?_) (λe2=>?_)
   ·simp only[e2,Rs.ag]at o;exact o _ H2 (c.trans s2) (bB (h1.same s2.del) h2)
   ·simp only[e2,Rs.cY]at o;exact o H' (c.trans s')
   ·simp only[e2,Rs.aR]at o;exact o
  ·simp only[e,Rs.cY]at o;exact o H' s'
  ·simp only[e,Rs.aR]at o;exact o
 ·unfold ae at e;cases q:ga δ with
  |ok d =>
   cases q2:gs δ with
   |ok l =>simp only[q,q2,Rs.ag]at e;cases e;simp[b.2 δ l q2]
   |rz C=>simp only[q,q2,Rs.ag,Rs.cY]at e;cases e
   |no=>simp only[q,q2,Rs.ag,Rs.aR]at e;cases e
  |rz C=>simp only[q,Rs.cY]at e;cases e
  |no=>simp only[q,Rs.aR]at e;cases e
theorem m3 {f:List PyData->Rs PyData} {Q:VK} {t:List V->Hp->Prop} (R:cj K H A δ σ) (o:eS K E A H ((gs δ).bind f) Q)
  (k:∀ds vs H1,gs δ=.ok ds->ak H H1->cj K H1 A δ σ->Iss K (del H1 A) ds vs->eS K E A H1 (f ds) Q->t vs H1):aD K E gs σ H t:=by
 refine aD.run R (λd e v H1 a b h1=>?_) (λC e H' s'=>?_) (λe=>?_)
 ·rw[e]at o;exact k d v H1 e a b h1 (eS.mono (show eS K E A H (f d) Q from o) a)
 ·rw[e]at o;exact o H' s'
 ·rw[e]at o;exact o
theorem vD {x1} (h:PAD X E es gs) (hl:es.length<=1000):PD X E (.Tuple es x1 pos) (i5 gs):=(vK h.1).imp λσ H Q ⟨A,δ,R,o⟩=>m3 R o λds vs H1 e s1 b h1 o=>by have n:=h.2 δ ds e;have m:=h1.length;exact⟨by rw[sizeLine_eq];omega,λp a=>o _ _ (aS a) (fW b.ls a h1)⟩
theorem uM (h:PAD X E es gs) (hl:es.length<=1000):PD X E (.List es pos) (dJ gs):=(lY h.1).imp λσ H Q ⟨A,δ,R,o⟩=>m3 R o λds vs H1 e s1 b h1 o=>by have n:=h.2 δ ds e;have m:=h1.length;exact⟨by rw[sizeLine_eq];omega,λp a=>o _ _ (aS a) (fu b.ls a h1)⟩
def spD (K:PySem.W.Frag) (n:Nat) (gf:List PyData->Rs PyData):Sp:=λvs H Q E=>∃A ds,Ls H A/\Iss K (del H A) ds vs/\ds.length=n/\eS K E A H (gf ds) Q
structure fz (P:Program) (w:World) (K:PySem.W.Frag) (mg:Str->Option Value) (base:Heap) (k:Nat) (x:Str) (n:Nat) (gf:List PyData->Rs PyData):Prop where
 ex:∃f fd ps,dj P w K mg base (CXW P w) k f fd ps (spD K n gf)/\mg x=some (.ref f)/\PySem.W.keepIn K (.ref f)=true/\Binds K fd ps []
theorem qh:Passes (CXW X.prog X.w) X E0:=λ_ _ _ _ _ _ _ a=>(by obtain⟨_,_,_,_,_,_,h,_⟩:=a;exact h.elim)
theorem rX (D:fz X.prog X.w X.K X.mg X.base k x (e::es).length gf) (h:cE j X.A) (i:Passes (CXW X.prog X.w) X E) (ha:PAD X E (e::es) gs) (l:k<=j) (m:Gl X x)
  (a:(x==("__debug__":Str))=false) (n:starEach (e::es) X.env=(false,eval e X.env)::starEach es X.env) (b:(backTo pos (starEach es X.env)).any (·.1)=false) :
  PD X E (.Call (.Name x p) (e::es) [] pos) (au gf gs):=by
 obtain⟨f,fd,ps,F,hm,c,q⟩:=D.ex;refine (kC F (h.mono l) m hm c q .nil i ha.1 a n b).imp λσ H Q g=>?_
 obtain⟨A,δ,R,o⟩:=g;refine m3 R o λds vs H1 e s1 r h1 o=>?_
 refine⟨A,ds,r.ls,by simpa using h1,ha.2 δ ds e,o⟩
def FnD (K:PySem.W.Frag) (f:List PyData->Option PyData) (r:List V->Hp->VK->Prop):Prop :=
 ∀(ds:List PyData) (d:PyData) (vs:List V) (H:Hp) (A:List Addr) (Q:VK),f ds=some d->Ls H A->Iss K (del H A) ds vs->(∀v H',ak H H'->Is K (del H' A) d v->Q v H')->r vs H Q
theorem dH {r:List V->Hp->VK->Prop} {f:List PyData->Option PyData} (a:FnD X.K f r) (ha:PAD X E es gs) (mk:∀{t:TA},PA X es t->PE X e (tCB r t)):PD X E e (gF f gs) :=
 (mk ha.1).imp λσ H Q ⟨A,δ,R,o⟩=>m3 R o λds vs H1 e s1 b h1 o=>by
  cases q:f ds with
  |none=>rw[q]at o;exact o.elim
  |some d=>rw[q]at o;exact a ds d vs H1 A Q q b.ls h1 o
end
section
variable {a b c:Expr} {ga gb gc:Ds->Rs PyData}
def uc (K:PySem.W.Frag):R2:=λx y H Q=>∃a b xs ys,x=.ref a/\y=.ref b/\SqT K H a xs/\SqT K H b ys/\xs.length+ys.length<=sizeLine /\
 (xs=[]->Q (.ref b) H)/\(xs≠[]->ys=[]->Q (.ref a) H)/\(xs≠[]->ys≠[]->∀p,H p=none->Q (.ref p) (upd H p (.tup (xs++ys))))
theorem rC:OpR X (binaryOp .Add) (uc X.K):=by
 intro pins s σ H x y v u Q I i j h;obtain⟨a,b,xs,ys,rfl,rfl,ha,k,m,o,p,q⟩:=h;by_cases hx:xs=[]
 ·cases i;cases j;obtain⟨vs,r,p1,_⟩:=I.tuple ha;obtain⟨t,r2,p2,_⟩:=I.tuple k;obtain⟨⟨cls,dd,data,w⟩,l,hc,n,hd⟩:=id p1;obtain⟨⟨cls2,f,data2,g⟩,c,e,n2,hd2⟩:=id p2;simp only at hc hd e hd2;subst hc hd e hd2;have hv:vs=[]:=r.nil_iff.mpr hx;exact concat_meets ⟨_,l,rfl⟩ ⟨_,c,rfl⟩ noFill_tuple_add seq_tuple_add PySem.F.slot_tuple_add PySem.F.entry_tuple_add (PySem.F.args_tuple_add_2 _ _)
   (tuple_addW0 a b vs.toArray t.toArray n n2 dd f w g (by simp[hv])) ⟨l,c,⟨.ref b,H,I,rfl,o hx⟩⟩
 ·exact tM pins s σ H _ _ v u Q I i j ⟨a,b,xs,ys,rfl,rfl,ha,k,hx,m,p hx,q hx⟩
def aH:PyData->PyData->Option PyData
 |.int i,.int j=>some (.int (i+j))
 |.list x,.list y=>if x.length+y.length<=1000000 then some (.list (x++y)) else none
 |.tuple x,.tuple y=>if x.length+y.length<=1000000 then some (.tuple (x++y)) else none
 |_,_=>none
theorem sy:OpD K aH (λx y H Q=>rI0 (λi j=>.int (i+j)) x y H Q\/xi x y H Q\/uc K x y H Q):=λd1 d2 d x y H A Q e h h1 h2 k=>by
 unfold aH at e;split at e
 ·cases e;exact .inl ⟨_,_,h1.ofInt,h2.ofInt,k _ H (ak.refl _) bJ⟩
 ·rename_i l1 l2;split at e
  ·rename_i l;cases e;obtain⟨p,xs,rfl,f,a⟩:=h1.ofLst;obtain⟨q,ys,rfl,g,b⟩:=h2.ofLst;refine .inr (.inl ⟨p,q,xs,ys,rfl,rfl,aq _ _ f,aq _ _ g,by rw[a.length,b.length,sizeLine_eq];omega,λr c=>k _ _ (aS c) (fu h c (a.append b))⟩)
  ·cases e
 ·rename_i l1 l2;split at e
  ·rename_i l;cases e;obtain⟨p,xs,rfl,f,a⟩:=h1.ofTup;obtain⟨q,ys,rfl,g,b⟩:=h2.ofTup;refine .inr (.inr ⟨p,q,xs,ys,rfl,rfl,SqT.of (aq _ _ f),SqT.of (aq _ _ g),by rw[a.length,b.length,sizeLine_eq];omega,λz=>?_,λ_ z=>?_,λ_ _ r c=>k _ _ (aS c) (fW h c (a.append b))⟩)
   ·subst z;have:l1=[]:=AR.mp (by rw[<-a.length];rfl);subst this;exact k _ H (ak.refl _) (fL g b)
   ·subst z;have:l2=[]:=AR.mp (by rw[<-b.length];rfl);subst this;rw[B6]at k;exact k _ H (ak.refl _) (fL f a)
  ·cases e
 ·cases e
theorem wt (ha:PD X E a ga) (c:PD X E b gb):PD X E (.BinOp a .Add b pos) (g2 aH ga gb):=eN sy ha c (cg (gK.or (vi.or rC)))
def dIx:PyData->PyData->Option PyData
 |.list x,.int i=>atI x i
 |.tuple x,.int i=>atI x i
 |_,_=>none
theorem nE {i:Int} {d:PyData} (h:Iss K H ds vs) (e:atI ds i=some d):∃v,atI vs i=some v/\Is K H d v:=by
 unfold atI at e ⊢;rw[h.length];cases q:ixN ds.length i with
 |none=>rw[q]at e;cases e
 |some j=>rw[q]at e;exact h.getD e
theorem uB:OpD K dIx (λx y H Q=>xE K x y H Q\/xf K x y H Q):=λd1 d2 d x y H A Q e hA h1 h2 k=>by
 unfold dIx at e;split at e
 ·obtain⟨p,xs,rfl,a,b⟩:=h1.ofLst;obtain⟨v,c,hv⟩:=nE b e;exact .inl ⟨p,xs,_,v,rfl,h2.ofInt,SqL.of (aq _ _ a),c,k _ H (ak.refl _) hv⟩
 ·obtain⟨p,xs,rfl,a,b⟩:=h1.ofTup;obtain⟨v,c,hv⟩:=nE b e;exact .inr ⟨p,xs,_,v,rfl,h2.ofInt,SqT.of (aq _ _ a),c,k _ H (ak.refl _) hv⟩
 ·cases e
theorem wR (ha:PD X E a ga) (c:PD X E b gb) (e:fj b):PD X E (.Subscript a b pos) (g2 dIx ga gb):=eN uB ha c λh1 h2=>ij (eF.or vT) h1 h2 e
def bj:List PyData->Option PyData
 |[.list x]=>some (.int x.length)
 |[.tuple x]=>some (.int x.length)
 |_=>none
theorem gI {d:PyData} (h:Iss K H [d] vs):∃v,vs=[v]/\Is K H d v:=by obtain⟨v,r,rfl,h1,h2⟩:=h.cons_of;rw[h2.nil_of];exact⟨v,rfl,h1⟩
theorem tW {d e:PyData} (h:Iss K H [d,e] vs):∃v u,vs=[v,u]/\Is K H d v/\Is K H e u:=by obtain⟨v,r,rfl,h1,h2⟩:=h.cons_of;obtain⟨u,rfl,a⟩:=gI h2;exact⟨v,u,rfl,h1,a⟩
theorem tX:FnD K bj (λxs H Q=>∃p ys,xs=[.ref p]/\(SqL K H p ys\/SqT K H p ys)/\Q (.int ys.length) H):=λds d vs H A Q e hA h k=>by
 unfold bj at e;split at e
 ·cases e;obtain⟨v,rfl,a⟩:=gI h;obtain⟨p,xs,rfl,b,c⟩:=a.ofLst;exact⟨p,xs,rfl,.inl (SqL.of (aq _ _ b)),k _ H (ak.refl _) (by rw[c.length];exact bJ)⟩
 ·cases e;obtain⟨v,rfl,a⟩:=gI h;obtain⟨p,xs,rfl,b,c⟩:=a.ofTup;exact⟨p,xs,rfl,.inr (SqT.of (aq _ _ b)),k _ H (ak.refl _) (by rw[c.length];exact bJ)⟩
 ·cases e
theorem vM (hm:X.mg "len"=none) (ha:PAD X E (a::es) gs) (c:Gl X "len") (e:starEach (a::es) X.env=(false,eval a X.env)::starEach es X.env) (b:(backTo pos (starEach es X.env)).any (·.1)=false) :
 PD X E (.Call (.Name "len" p) (a::es) [] pos) (gF bj gs):=dH tX ha λh=>da eI c hm PySem.boot_len h (by decide) (by decide) e b
theorem mj:bootBuiltins "int"=some (.type "int"):=by decide +kernel
theorem kH:bootBuiltins "tuple"=some (.type "tuple"):=by decide +kernel
theorem jZ:bootBuiltins "list"=some (.type "list"):=by decide +kernel
theorem jJ:bootBuiltins "isinstance"=some (.builtin "isinstance"):=by decide +kernel
theorem uL:bootBuiltins "all"=some (.builtin "all"):=by decide +kernel
theorem uU:bootBuiltins "min"=some (.builtin "min"):=by decide +kernel
theorem wu:bootBuiltins "max"=some (.builtin "max"):=by decide +kernel
noncomputable def fZ:List PyData->Option (List Int)
 |[]=>some []
 |.int i::r=>(fZ r).map (i::·)
 |_::_=>none
theorem dB:∀{ds:List PyData} {ns:List Int},fZ ds=some ns->ds=ns.map PyData.int
 |[],_,h=>by cases h;rfl
 |.int i::r,ns,h=>by
  unfold fZ at h;cases q:fZ r with
  |none=>rw[q]at h;cases h
  |some l=>rw[q]at h;cases h;rw[dB q];rfl
 |.none::_,_,h=>by cases h
 |.bool _::_,_,h=>by cases h
 |.str _::_,_,h=>by cases h
 |.list _::_,_,h=>by cases h
 |.tuple _::_,_,h=>by cases h
 |.dict _::_,_,h=>by cases h
theorem ft:∀(ns:List Int),fZ (ns.map PyData.int)=some ns
 |[]=>rfl
 |n::r=>by rw[Au];unfold fZ;rw[ft r];rfl
noncomputable def ef:List PyData->Option (List Bool)
 |[]=>some []
 |.bool i::r=>(ef r).map (i::·)
 |_::_=>none
theorem gO:∀{ds:List PyData} {ns:List Bool},ef ds=some ns->ds=ns.map PyData.bool
 |[],_,h=>by cases h;rfl
 |.bool i::r,ns,h=>by
  unfold ef at h;cases q:ef r with
  |none=>rw[q]at h;cases h
  |some l=>rw[q]at h;cases h;rw[gO q];rfl
 |.none::_,_,h=>by cases h
 |.int _::_,_,h=>by cases h
 |.str _::_,_,h=>by cases h
 |.list _::_,_,h=>by cases h
 |.tuple _::_,_,h=>by cases h
 |.dict _::_,_,h=>by cases h
theorem iu:∀(ns:List Bool),ef (ns.map PyData.bool)=some ns
 |[]=>rfl
 |n::r=>by rw[Au];unfold ef;rw[iu r];rfl
def iN:List PyData->Option PyData
 |[.list x]=>(ef x).map λns=>.bool (ns.all id)
 |_=>none
theorem sR:FnD K iN (λxs H Q=>∃(a:Addr) (ns:List Bool),xs=[.ref a]/\SqL K H a (ns.map V.bl)/\Q (.bl (ns.all id)) H):=λds d vs H A Q e hA h k=>by
 unfold iN at e;split at e
 ·rename_i x;cases q:ef x with
  |none=>rw[q]at e;cases e
  |some ns =>rw[q]at e;cases e;obtain⟨v,rfl,f⟩:=gI h;obtain⟨p,xs,rfl,b,c⟩:=f.ofLst;rw[gO q]at c;rw[c.ofBools]at b;exact⟨p,ns,rfl,SqL.of (aq _ _ b),k _ H (ak.refl _) is_bool⟩
 ·cases e
theorem uX (hc:X.calm=true) (hm:X.mg "all"=none) (ha:PAD X E (a::es) gs) (c:Gl X "all") (e:starEach (a::es) X.env=(false,eval a X.env)::starEach es X.env) (b:(backTo pos (starEach es X.env)).any (·.1)=false) :
 PD X E (.Call (.Name "all" p) (a::es) [] pos) (gF iN gs):=dH sR ha λh=>da (pJ hc) c hm uL h (by decide) (by decide) e b
def i3:List PyData->Option PyData
 |[.int i,.int j]=>some (.int (if j<i then j else i))
 |_=>none
def dC:List PyData->Option PyData
 |[.int i,.int j]=>some (.int (if j>i then j else i))
 |_=>none
theorem qJ:FnD K i3 (λxs H Q=>∃i j,xs=[.int i,.int j]/\Q (.int (if j<i then j else i)) H):=λds d vs H A Q e hA h k=>by
 unfold i3 at e;split at e
 ·cases e;obtain⟨v,u,rfl,h1,h2⟩:=tW h;rw[h1.ofInt,h2.ofInt];exact⟨_,_,rfl,k _ H (ak.refl _) bJ⟩
 ·cases e
theorem pP:FnD K dC (λxs H Q=>∃i j,xs=[.int i,.int j]/\Q (.int (if j>i then j else i)) H):=λds d vs H A Q e hA h k=>by
 unfold dC at e;split at e
 ·cases e;obtain⟨v,u,rfl,h1,h2⟩:=tW h;rw[h1.ofInt,h2.ofInt];exact⟨_,_,rfl,k _ H (ak.refl _) bJ⟩
 ·cases e
theorem sP (hc:X.calm=true) (hm:X.mg "min"=none) (ha:PAD X E (a::es) gs) (c:Gl X "min") (e:starEach (a::es) X.env=(false,eval a X.env)::starEach es X.env) (b:(backTo pos (starEach es X.env)).any (·.1)=false) :
 PD X E (.Call (.Name "min" p) (a::es) [] pos) (gF i3 gs):=dH qJ ha λh=>da (nO hc) c hm uU h (by decide) (by decide) e b
theorem sj (hc:X.calm=true) (hm:X.mg "max"=none) (ha:PAD X E (a::es) gs) (c:Gl X "max") (e:starEach (a::es) X.env=(false,eval a X.env)::starEach es X.env) (b:(backTo pos (starEach es X.env)).any (·.1)=false) :
 PD X E (.Call (.Name "max" p) (a::es) [] pos) (gF dC gs):=dH pP ha λh=>da (oB hc) c hm wu h (by decide) (by decide) e b
def oo:List PyData->Option PyData
 |[.int i]=>some (.int i)
 |[.bool k]=>some (.int (if k then 1 else 0))
 |_=>none
theorem sE:FnD K oo (λxs H Q=>(∃i,xs=[.int i]/\Q (.int i) H)\/∃k,xs=[.bl k]/\Q (.int (if k then 1 else 0)) H):=λds d vs H A Q e hA h k=>by
 unfold oo at e;split at e
 ·cases e;obtain⟨v,rfl,h1⟩:=gI h;rw[h1.ofInt];exact .inl ⟨_,rfl,k _ H (ak.refl _) bJ⟩
 ·cases e;obtain⟨v,rfl,h1⟩:=gI h;rw[h1.ofBool];exact .inr ⟨_,rfl,k _ H (ak.refl _) bJ⟩
 ·cases e
theorem pW (hm:X.mg "int"=none) (ha:PAD X E (a::es) gs) (c:Gl X "int") (e:starEach (a::es) X.env=(false,eval a X.env)::starEach es X.env) (b:(backTo pos (starEach es X.env)).any (·.1)=false) :
 PD X E (.Call (.Name "int" p) (a::es) [] pos) (gF oo gs):=dH sE ha λh=>eC jx c hm mj h (by decide) (by decide) e b
def cQ:List PyData->Option PyData
 |[.list x]=>some (.tuple x)
 |[.tuple x]=>some (.tuple x)
 |_=>none
def dZ:List PyData->Option PyData
 |[.list x]=>some (.list x)
 |[.tuple x]=>some (.list x)
 |_=>none
theorem oH:FnD K cQ (λxs H Q=>∃p ys,xs=[.ref p]/\((SqL K H p ys/\∀l,H l=none->Q (.ref l) (upd H l (.tup ys)))\/(SqT K H p ys/\Q (.ref p) H))):=λds d vs H A Q e f h k=>by
 unfold cQ at e;split at e
 ·cases e;obtain⟨v,rfl,b⟩:=gI h;obtain⟨p,xs,rfl,a,c⟩:=b.ofLst;exact⟨p,xs,rfl,.inl ⟨SqL.of (aq _ _ a),λl hl=>k _ _ (aS hl) (fW f hl c)⟩⟩
 ·cases e;obtain⟨v,rfl,b⟩:=gI h;obtain⟨p,xs,rfl,a,c⟩:=b.ofTup;exact⟨p,xs,rfl,.inr ⟨SqT.of (aq _ _ a),k _ H (ak.refl _) (fL a c)⟩⟩
 ·cases e
theorem oU:FnD K dZ (λxs H Q=>∃p ys,xs=[.ref p]/\(SqL K H p ys\/SqT K H p ys)/\∀l,H l=none->Q (.ref l) (upd H l (.lst ys))):=λds d vs H A Q e f h k=>by
 unfold dZ at e;split at e
 ·cases e;obtain⟨v,rfl,a⟩:=gI h;obtain⟨p,xs,rfl,b,c⟩:=a.ofLst;exact⟨p,xs,rfl,.inl (SqL.of (aq _ _ b)),λl hl=>k _ _ (aS hl) (fu f hl c)⟩
 ·cases e;obtain⟨v,rfl,a⟩:=gI h;obtain⟨p,xs,rfl,b,c⟩:=a.ofTup;exact⟨p,xs,rfl,.inr (SqT.of (aq _ _ b)),λl hl=>k _ _ (aS hl) (fu f hl c)⟩
 ·cases e
theorem l8 (hm:X.mg "tuple"=none) (ha:PAD X E (a::es) gs) (c:Gl X "tuple") (e:starEach (a::es) X.env=(false,eval a X.env)::starEach es X.env) (b:(backTo pos (starEach es X.env)).any (·.1)=false) :
 PD X E (.Call (.Name "tuple" p) (a::es) [] pos) (gF cQ gs):=dH oH ha λh=>eC jl c hm kH h (by decide) (by decide) e b
theorem nR (hm:X.mg "list"=none) (ha:PAD X E (a::es) gs) (c:Gl X "list") (e:starEach (a::es) X.env=(false,eval a X.env)::starEach es X.env) (b:(backTo pos (starEach es X.env)).any (·.1)=false) :
 PD X E (.Call (.Name "list" p) (a::es) [] pos) (gF dZ gs):=dH oU ha λh=>eC fY c hm jZ h (by decide) (by decide) e b
def bQ (T:String) (d:PyData):Option PyData:=if ax d then some (.bool (j4 d T)) else none
theorem oj {T:Str} {b:String} {c:Pos} (hm:X.mg "isinstance"=none) (f:X.mg T=none) (q:bootBuiltins T=some (.type b)) (r:b∈["bool", "int", "list", "tuple"]) (ha:PD X E a ga)
  (s:Gl X "isinstance") (g:Gl X T) (hn:T≠"__name__") (i:(T==("__debug__":Str))=false) (n:starEach [a,.Name T c] X.env=(false,eval a X.env)::starEach [.Name T c] X.env)
  (j:starEach [.Name T c] X.env=(false,eval (.Name T c) X.env)::starEach [] X.env) (l:(backTo pos (starEach [.Name T c] X.env)).any (·.1)=false) :
  PD X E (.Call (.Name "isinstance" p) [a,.Name T c] [] pos) (g1 (bQ b) ga):=by
 refine (da lg s hm jJ (bA ha (bA (nI (v:=.ty b) g f q rfl hn i) cR j) n) (by decide) (by decide) n l).imp λσ H Q m=>?_
 obtain⟨A,δ,R,o⟩:=m;refine g1.read (tt:=λQ x H1=>∃d v T,[x,V.ty b]=[v,.ty T]/\IsD X.K H1 d v/\T∈["bool", "int", "list", "tuple"]/\Q (.bl (j4 d T)) H1) R o λd1 d x H' e _ _ h k=>?_
 unfold bQ at e;split at e
 ·rename_i z;cases e;exact⟨d1,x,b,rfl,(h.same aq).isd z,r,k _ H' (ak.refl _) is_bool⟩
 ·cases e
end
def oW (K:PySem.W.Frag) (J:It) (ds:List PyData) (G:Hp):Prop:=∀(H1:Hp) (B:List Addr),ak G H1->Ls H1 B->(∀b∈B,G b=none) ->
 (∀i,i<ds.length->J.go i H1)/\J.stop ds.length H1/\∀i x H2,i<ds.length->J.yld i H1 x H2->ak H1 H2/\∃d,ds[i]?=some d/\Is K (del H2 B) d x
def outI (K:PySem.W.Frag) (E:XK) (A:List Addr) (H:Hp) (r:Rs (List PyData)) (R:It->Hp->Prop):Prop:=match r with
 |.ok ds=>∀J H',ak H H'->oW K J ds (del H' A)->R J H'
 |.rz C=>∀H',ak H H'->E (.ref C) none H'
 |.no=>False
def iD (K:PySem.W.Frag) (E:XK) (g:Ds->Rs (List PyData)):TI:=λσ H R=>∃A δ,cj K H A δ σ/\outI K E A H (g δ) R
def PID (X:Cx) (E:XK) (tg iter:Expr) (g:Ds->Rs (List PyData)):Prop:=PI X tg iter (iD X.K E g)
theorem PI.imp {it:Expr} {t t':TI} (h:PI X tg it t) (k:∀σ H R,t' σ H R->t σ H R):PI X tg it t':=λpins s σ H R I q=>h pins s σ H R I (k σ H R q)
theorem PI.or {it:Expr} {t t':TI} (h:PI X tg it t) (h':PI X tg it t'):PI X tg it (λσ H R=>t σ H R\/t' σ H R):=λpins s σ H R I q=>q.elim (h pins s σ H R I) (h' pins s σ H R I)
section
variable {a:Expr} {ga:Ds->Rs PyData}
def nu:PyData->Rs (List PyData)
 |.list ds=>.ok ds
 |.tuple ds=>.ok ds
 |_=>.no
theorem ic {B:List Addr} (s:ak G H1) (hB:∀b∈B,G b=none):ak G (del H1 B):=λb o e=>by rw[aP (λz=>by rw[hB b z]at e;cases e)];exact s b o e
theorem nV {p:Addr} (b:G p=some (.lst xs)) (h:Iss K G ds xs):oW K (Itl K p) ds G:=λH1 B s _ hB=>by have hl:=h.length;have a:SqL K H1 p xs:=SqL.of (s _ _ b);refine⟨λi hi=>⟨xs,xs[i]'(by omega),a,A5 _⟩,⟨xs,a,by omega⟩,λi x H2 hi y=>?_⟩;obtain⟨rfl,y⟩:=y;obtain⟨d,e,hd⟩:=h.get (y xs a);exact⟨ak.refl _,d,e,hd.same (ic s hB)⟩
theorem qf {p:Addr} (b:G p=some (.tup xs)) (h:Iss K G ds xs):oW K (Itt K p) ds G:=λH1 B s _ hB=>by have hl:=h.length;have a:SqT K H1 p xs:=SqT.of (s _ _ b);refine⟨λi hi=>⟨xs,xs[i]'(by omega),a,A5 _⟩,⟨xs,a,by omega⟩,λi x H2 hi y=>?_⟩;obtain⟨rfl,y⟩:=y;obtain⟨d,e,hd⟩:=h.get (y xs a);exact⟨ak.refl _,d,e,hd.same (ic s hB)⟩
def dg (g:Ds->Rs PyData):Ds->Rs (List PyData):=λδ=>(g δ).bind nu
theorem sF (h:PD X E a ga):PID X E tg a (dg ga):=(PI.or (rZ h) (vt h)).imp λσ H R c=>by
 obtain⟨A,δ,f,o⟩:=c;unfold dg at o;cases q:ga δ with
 |no=>rw[q]at o;exact o.elim
 |rz C=>rw[q]at o;exact .inl (eD.run f (λd e=>by rw[q]at e;cases e) (λj e H' s=>by rw[q]at e;cases e;exact o H' s) (λe=>by rw[q]at e;cases e))
 |ok d =>
  rw[q]at o;cases d with
  |list ds =>refine .inl (eD.run f (λd e v H1 g k h1=>?_) (λj e=>by rw[q]at e;cases e) (λe=>by rw[q]at e;cases e));rw[q]at e;cases e;obtain⟨p,xs,rfl,b,i⟩:=h1.ofLst;exact⟨p,rfl,⟨xs,SqL.of (aq _ _ b)⟩,o _ H1 g (nV b i)⟩
  |tuple ds =>refine .inr (eD.run f (λd e v H1 g k h1=>?_) (λj e=>by rw[q]at e;cases e) (λe=>by rw[q]at e;cases e));rw[q]at e;cases e;obtain⟨p,xs,rfl,b,i⟩:=h1.ofTup;exact⟨p,rfl,⟨xs,SqT.of (aq _ _ b)⟩,o _ H1 g (qf b i)⟩
  |_=>exact o.elim
noncomputable def bI (lo:Int) (n:Nat):List PyData:=(List.range n).map λ(i:Nat)=>PyData.int (lo+(i:Int))
theorem cx (lo:Int) (n:Nat):(bI lo n).length=n:=by simp[bI]
theorem mJ {lo:Int}:oW K (Itr lo n) (bI lo n) G:=λH1 B s _ hB=>by refine⟨λi hi=>by rw[cx]at hi;exact hi,by rw[cx];exact Ac _,λi x H2 hi y=>?_⟩;obtain⟨rfl,rfl⟩:=y;rw[cx]at hi;exact⟨ak.refl _,_,by simp[bI,hi],bJ⟩
def tq:List PyData->Rs (List PyData)
 |[.int j]=>if -(2 ^ 62)<=j/\j<2 ^ 62 then .ok (bI 0 j.toNat) else .no
 |_=>.no
def xc:List PyData->Rs (List PyData)
 |[.int i,.int j]=>if -(2 ^ 62)<=i/\i<2 ^ 62/\-(2 ^ 62)<=j/\j<2 ^ 62 then .ok (bI i (j-i).toNat) else .no
 |_=>.no
def fO (g:Ds->Rs (List PyData)):Ds->Rs (List PyData):=λδ=>(g δ).bind tq
def xM (g:Ds->Rs (List PyData)):Ds->Rs (List PyData):=λδ=>(g δ).bind xc
theorem rm {f:List PyData->Rs (List PyData)} {R:It->Hp->Prop} {t:List V->Hp->Prop} (b:cj K H A δ σ) (o:outI K E A H ((gs δ).bind f) R)
  (k:∀ds vs H1,gs δ=.ok ds->ak H H1->cj K H1 A δ σ->Iss K (del H1 A) ds vs->outI K E A H1 (f ds) R->t vs H1):aD K E gs σ H t:=by
 refine aD.run b (λd e v H1 a c h1=>?_) (λC e H' s'=>?_) (λe=>?_)
 ·rw[e]at o;refine k d v H1 e a c h1 ?_;have o:outI K E A H (f d) R:=o;cases q:f d with
  |ok ds=>rw[q]at o;exact λJ H' s j=>o J H' (a.trans s) j
  |rz C=>rw[q]at o;exact λH' s=>o H' (a.trans s)
  |no=>rw[q]at o;exact o
 ·rw[e]at o;exact o H' s'
 ·rw[e]at o;exact o
theorem mI (hm:X.mg "range"=none) (ha:PAD X E [a] gs) (b:Gl X "range") (c:starEach [a] X.env=[(false,eval a X.env)]) :
  PID X E tg (.Call (.Name "range" p) [a] [] pos) (fO gs):=(om b hm ha.1 c).imp λσ H R ⟨A,δ,Rp,o⟩=>rm Rp o λds vs H1 e s1 R1 h1 o=>by
 unfold tq at o;split at o
 ·split at o
  ·rename_i z;obtain⟨v,rfl,h⟩:=gI h1;rw[h.ofInt];exact⟨_,rfl,z.1,z.2,o _ H1 (ak.refl _) mJ⟩
  ·exact o.elim
 ·exact o.elim
def TgD (K:PySem.W.Frag) (n0 n:Nat) (tgt:PyData->Option Ds) (g:TG):Prop:=∀(d:PyData) (v:V) (σ a:St) (H:Hp) (A:List Addr) (Q:St->Hp->Prop) (own:Ds),σ.length=n0->a.length=n->Ls H A->Is K (del H A) d v->tgt d=some own ->
 own.length=n/\((∀vs:St,vs.length=n->(∀(i:Nat) e,own[i]?=some (some e)->∃u,vs[i]?=some (some u)/\Is K (del H A) e u)->Q (σ++vs) H)->g v (σ++a) H Q)
def bf:PyData->Option Ds:=λd=>some [some d]
theorem qB:TgD K n0 1 bf (eW n0):=λd v σ a H A Q own h1 h2 hA hd e=>by
 cases e;refine⟨rfl,λk=>?_⟩;unfold eW;subst h1;rw[set_own σ none v a h2];refine k _ rfl λi e z=>?_
 match i,z with
 |0,z=>cases z;exact⟨v,rfl,hd⟩
def fG:PyData->Option Ds
 |.tuple [x,y]=>some [some x,some y]
 |_=>none
theorem o8:TgD K n0 2 fG (L2.vW K 2 (L2.mM (eW n0) (L2.mM (eW (n0+1)) L2.wq))):=λd v σ a H A Q own h1 h2 hA hd e=>by
 unfold fG at e;split at e
 ·rename_i x y;cases e;refine⟨rfl,λk=>?_⟩;obtain⟨p,xs,rfl,b,c⟩:=hd.ofTup;obtain⟨u,w,rfl,f,hw⟩:=tW c;subst h1;refine⟨p,_,rfl,SqT.of (aq _ _ b),rfl,u,[w],rfl,w,[],rfl,rfl,?_⟩
  match a,h2 with
  |[s1,s2],_ =>
   have:((σ++[s1,s2]).set σ.length (some u)).set (σ.length+1) (some w)=σ++[some u,some w]:=by rw[B4 _ _ (Ac _),B4 _ _ (by omega)];simp
   rw[this];refine k _ rfl λi e z=>?_
   match i,z with
   |0,z=>cases z;exact⟨u,rfl,f⟩
   |1,z=>cases z;exact⟨w,rfl,hw⟩
 ·cases e
def bO (cond:Ds->Rs Bool) (elt:Ds->Rs PyData) (tgt:PyData->Option Ds) (δ:Ds):List PyData->Rs (List PyData)
 |[]=>.ok []
 |d::r=>match tgt d with
  |none=>.no
  |some own=>(cond (δ++own)).calm.bind λb=>if b=true then (elt (δ++own)).calm.bind λx=>(bO cond elt tgt δ r).bind λxs=>.ok (x::xs) else bO cond elt tgt δ r
def a3 (n0:Nat) (src:Ds->Rs (List PyData)) (cond:Ds->Rs Bool) (elt:Ds->Rs PyData) (tgt:PyData->Option Ds):Ds->Rs (List PyData):=λδ=>if δ.length=n0 then (src δ).bind λds=>if ds.length<=1000000 then bO cond elt tgt δ ds else .no else .no
def bq:Ds->Rs Bool:=λ_=>.ok true
def xh (K:PySem.W.Frag) (E:XK) (A:List Addr) (H:Hp) (r:Rs (List PyData)) (Q:VK):Prop:=match r with
 |.ok ds=>∀a xs H',H a=none->ak H H'->H' a=some (.lst xs)->Iss K (del H' (a::A)) ds xs->Q (.ref a) H'
 |.rz C=>∀H',ak H H'->E (.ref C) none H'
 |.no=>False
def lD (K:PySem.W.Frag) (E:XK) (g:Ds->Rs (List PyData)):TE:=λσ H Q=>∃A δ,cj K H A δ σ/\xh K E A H (g δ) Q
def PLD (X:Cx) (E:XK) (e:Expr) (g:Ds->Rs (List PyData)):Prop:=PE X e (lD X.K E g)
def gL (g:Ds->Rs (List PyData)):Ds->Rs PyData:=λδ=>(g δ).bind λds=>.ok (.list ds)
theorem fo {a:Addr}:ak (del H (a::A)) (del H A):=λb o e=>by obtain⟨z,e⟩:=ba e;rw[aP (λq=>z (Ab _ q))];exact e
theorem va {g:Ds->Rs (List PyData)} (h:PLD X E e g):PD X E e (gL g):=PE.imp h λσ H Q ⟨A,δ,R,o⟩=>⟨A,δ,R,by
 unfold gL at o;cases q:g δ with
 |no=>rw[q]at o;exact o
 |rz C=>rw[q]at o;exact o
 |ok ds =>rw[q]at o;intro a xs H' hn s hl hi;exact o _ H' s (eZ (by rw[aP (R.ls.new hn)];exact hl) (hi.same fo))⟩
theorem rN (h:PAD X E es gs) (hl:es.length<=1000):PLD X E (.List es pos) gs:=(lY h.1).imp λσ H Q a=>by
 obtain⟨A,δ,R,o⟩:=a;refine aD.run R (λds e vs H1 f R1 h1=>?_) (λC e H' s'=>by rw[e]at o;exact o H' s') (λe=>by rw[e]at o;exact o);rw[e]at o;have n:=h.2 δ ds e;have m:=h1.length;refine⟨by rw[sizeLine_eq];omega,λp c=>o p vs _ (f.free c) (f.trans (aS c)) aV (h1.same ?_)⟩;refine λb o e=>?_
 obtain⟨z,e⟩:=ba e;have:b≠p:=az e c;rw[aP (by simp[this,z]),ay this];exact e
theorem qc {tt:TT} (hT:TgD K n0 own.length tgt g) (T:∀σ H Q,cD K E0 cond σ H Q->tt σ H Q) :
  ∀σ H Q,lD K E (a3 n0 gi cond ge tgt) σ H Q->tLC own.length (iD K E gi) g tt (eD K E0 ge) σ H Q:=by
 intro σ H Q ⟨A,δ,R,o⟩;unfold a3 at o;by_cases hn0:δ.length=n0
 case neg=>rw[if_neg hn0]at o;exact o.elim
 rw[if_pos hn0]at o;have U:σ.length=n0:=by rw[<-R.len];exact hn0
 refine⟨A,δ,R,?_⟩;cases q:gi δ with
 |no=>rw[q]at o;exact o
 |rz C=>rw[q]at o;exact o
 |ok ds =>
  rw[q]at o;have o:xh K E A H (if ds.length<=1000000 then bO cond ge tgt δ ds else .no) Q:=o;by_cases hz:ds.length<=1000000
  case neg=>rw[if_neg hz]at o;exact o.elim
  rw[if_pos hz]at o;intro J H1 X hJ D p;have P:=R.same X;have nD:D∉A:=P.ls.new p;cases qo:bO cond ge tgt δ ds with
  |rz C =>
   exfalso;have:∀l,bO cond ge tgt δ l≠.rz C:=by
    intro l
    induction l with
    |nil=>intro z;cases z
    |cons d r ih =>
     intro z;unfold bO at z;split at z
     ·cases z
     ·rename_i f _;cases c1:cond (δ++f) with
      |ok b =>
       simp only[c1,Rs.cW,Rs.ag]at z;split at z
       ·cases h:ge (δ++f) with
        |ok x =>
         simp only[h,Rs.cW,Rs.ag]at z;cases j:bO cond ge tgt δ r with
         |ok l=>simp only[j,Rs.ag]at z;cases z
         |rz C'=>simp only[j,Rs.cY]at z;cases z;exact ih j
         |no=>simp only[j,Rs.aR]at z;cases z
        |rz C'=>simp only[h,Rs.calm,Rs.aR]at z;cases z
        |no=>simp only[h,Rs.calm,Rs.aR]at z;cases z
       ·exact ih z
      |rz C'=>simp only[c1,Rs.calm,Rs.aR]at z;cases z
      |no=>simp only[c1,Rs.calm,Rs.aR]at z;cases z
   exact this ds qo
  |no=>rw[qo]at o;exact o.elim
  |ok out =>
   rw[qo]at o;have base:ak (del H1 A) (del (upd H1 D (.lst [])) (D::A)):=λb o e=>by obtain⟨z,e⟩:=ba e;have nb:b≠D:=az e p;rw[aP (by simp[nb,z]),ay nb];exact e
   refine⟨λi m ys H'=>m=ds.length-i/\i<=ds.length/\ak H1 H'/\H' D=some (.lst ys)/\ys.length<=i/\∃w rest,bO cond ge tgt δ (ds.drop i)=.ok rest/\out=w++rest/\Iss K (del H' (D::A)) w ys,
    ⟨ds.length,by simp,B1 _,aS p,aV,Ac _,[],out,qo,rfl,ck⟩,?_⟩
   rintro i m ys H' ⟨rfl,hi,s,hl,hy,w,rest,c1,h,j⟩
   refine⟨hl,?_⟩;have sG:ak (del H1 A) H':=aq.trans s;have B:∀b∈D::A,(del H1 A) b=none:=λb F=>by
    rcases Aa.mp F with z|z
    ·rw[z,aP nD];exact p
    ·exact fF z
   obtain⟨jg,js,jy⟩:=hJ H' (D::A) sG (λb F=>by
    rcases Aa.mp F with z|z
    ·exact⟨_,by rw[z];exact hl,rfl⟩
    ·exact (P.ls.same s) b z) B
   by_cases hlt:i<ds.length
   ·refine .inr ⟨jg i hlt,λx H2 Y G y=>?_⟩;obtain⟨s2,d,ed,hd⟩:=jy i x H2 hlt y;have Z:ds.drop i=d::ds.drop (i+1):=by
     rw[AY hlt];have:ds[i]=d:=by have:=A5 hlt;rw[this]at ed;exact Option.some.inj ed
     rw[this]
    rw[Z]at c1;unfold bO at c1;cases et:tgt d with
    |none=>rw[et]at c1;cases c1
    |some ow =>
     rw[et]at c1;have l2:H2 D=some (.lst ys):=s2 _ _ hl;have I:Ls H2 (D::A):=λb F=>by
      rcases Aa.mp F with z|z
      ·exact⟨_,by rw[z];exact l2,rfl⟩
      ·exact (P.ls.same (s.trans s2)) b z
     obtain⟨hol,hgo⟩:=hT d x σ Y H2 (D::A) (λc H2=>tt c H2 λb H3 =>
      if b=true then eD K E0 ge c H3 λv L=>L D=some (.lst ys)/\ys.length<sizeLine/\(∃a,c=σ++a/\a.length=own.length)/\∃m',m' < ds.length-i/\_
      else (∃a,c=σ++a/\a.length=own.length)/\∃m',m' < ds.length-i/\_) ow U G I hd et
     refine hgo λvs n M=>?_
     have N:ak (del H1 A) (del H2 (D::A)):=ic (sG.trans s2) B;have RE:cj K H2 (D::A) (δ++ow) (σ++vs):=by
      refine⟨I,by rw[Al,Al,R.len,n,hol],λk e S=>?_⟩;by_cases hk:k<δ.length
      ·rw[Ao hk]at S;obtain⟨u,e1,hu⟩:=P.get k e S;exact⟨u,by rw[Ao (by rw[<-R.len];exact hk)];exact e1,hu.same N⟩
      ·rw[As (by omega)]at S;obtain⟨u,e1,hu⟩:=M _ e S;exact⟨u,by rw[As (by rw[<-R.len];omega),<-R.len];exact e1,hu⟩
     have bad:∀r:Rs Bool,r=.rz 0->r.calm=.no:=λr e=>by rw[e];rfl
     refine T _ _ _ (cD.run RE (λb O H3 t R3=>?_) (λC O=>?_) (λO=>?_))
     ·simp only[O,Rs.cW,Rs.ag]at c1;cases b with
      |true =>
       simp only[if_true]at c1;refine eD.run R3 (λxd ex v L s4 R4 hv=>?_) (λC ex=>?_) (λex=>?_)
       ·simp only[ex,Rs.cW,Rs.ag]at c1;cases cr:bO cond ge tgt δ (ds.drop (i+1)) with
        |ok rs =>
         simp only[cr,Rs.ag]at c1;cases c1;have l4:L D=some (.lst ys):=s4 _ _ (t _ _ l2);have dU:del (upd L D (.lst (ys++[v]))) (D::A)=del L (D::A):=ku (Ad);refine⟨l4,by rw[sizeLine_eq];omega,⟨vs,rfl,n⟩,ds.length-(i+1),by omega,rfl,hlt,?_,aV,by simp;omega,w++[xd],rs,cr,by rw[h];simp,?_⟩
         ·exact ak.put (((s.trans s2).trans t).trans s4) p
         ·rw[dU];exact (j.same (ak.del (s2.trans (t.trans s4)))).append (fP hv)
        |rz C=>simp only[cr,Rs.cY]at c1;cases c1
        |no=>simp only[cr,Rs.aR]at c1;cases c1
       ·simp only[ex,Rs.calm,Rs.aR]at c1;cases c1
       ·simp only[ex,Rs.calm,Rs.aR]at c1;cases c1
      |false =>simp only[Be,if_false]at c1;exact⟨⟨vs,rfl,n⟩,ds.length-(i+1),by omega,rfl,hlt,(s.trans s2).trans t,t _ _ l2,by omega,w,rest,c1,h,j.same (ak.del (s2.trans t))⟩
     ·simp only[O,Rs.calm,Rs.aR]at c1;cases c1
     ·simp only[O,Rs.calm,Rs.aR]at c1;cases c1
   ·have e:i=ds.length:=by omega
    subst e;rw[Bh]at c1;cases c1;rw[B6]at h;subst h;exact .inl ⟨js,o D ys H' (X.free p) (X.trans s) hl j⟩
def cm:Expr->List Str
 |.Name x _=>[x]
 |.Tuple [.Name x _,.Name y _] _ _=>[x,y]
 |_=>[]
def ux (own N:List Str):List Str:=N.map λx=>bif own.elem x then x++"__" else x
abbrev bk (X:Cx) (tg:Expr) (scope:Scope):=blk X (ux (cm tg) X.N) scope (cm tg)
abbrev sW (X:Cx) (tg:Expr) (scope:Scope):Bool:=jz X.N (ux (cm tg) X.N) X.env.scope scope (cm tg)
inductive PIf (X:Cx):List Expr->(Ds->Rs Bool)->Prop
 |nil:PIf X [] bq
 |one {c:Expr} {g:Ds->Rs Bool} (h:PCD X E0 c g):PIf X [c] g
def yc (K:PySem.W.Frag) (ifs:List Expr) (g:Ds->Rs Bool):TT:=match ifs with
 |[]=>uq
 |_=>cD K E0 g
theorem PIf.pts {g:Ds->Rs Bool} (h:PIf X ifs g):PTs X ifs (yc X.K ifs g):=by
 cases h with
 |nil=>exact .nil
 |one h=>exact .one h
theorem PIf.tt {g:Ds->Rs Bool} (h:PIf X ifs g):∀σ H Q,cD K E0 g σ H Q->yc K ifs g σ H Q:=by
 cases h with
 |nil=>exact λσ H Q a=>(by obtain⟨A,δ,R,o⟩:=a;exact o H (ak.refl _))
 |one h=>exact λ_ _ _ h=>h
theorem qN (hc:X.calm=true) (hi:PID X E tg iter gi)
  (b:TgD X.K n0 (cm tg).length tgt g) (c:∀C s2 H2 fp,PG (bk X tg scope C s2 H2 fp) tg g) (a:∀C s2 H2 fp,PIf (bk X tg scope C s2 H2 fp) ifs cond) (e:∀C s2 H2 fp,PD (bk X tg scope C s2 H2 fp) E0 elt ge)
  (hB:sW X tg scope=true) (f:∀x,foldedSetIterable iter X.env x=pure x):PLD X E (.ListComp elt [⟨tg,iter,ifs,0⟩] scope pos) (a3 n0 gi cond ge tgt) :=
 (lC (own:=cm tg) (te:=eD X.K E0 ge) hc hi c (λC s2 H2 fp=>(a C s2 H2 fp).pts) (λC s2 H2 fp=>e C s2 H2 fp) hB f).imp (qc b (PIf.tt (a 0 X.s₀ X.H₀ [])))
def PLS (X:Cx) (E:XK) (i:Nat) (st:Stmt) (gl:Ds->Rs (List PyData)):Prop:=PS X st (oY (lD X.K E gl) (eW i))
theorem pk {spos:Pos} (a:swapsWith (.ListComp elt [⟨tg,iter,ifs,0⟩] scope pos) (some (.Name x pos')) spos.line X.env=pure true) (hc:X.calm=true) (e:X.N.Nodup) (hi:PID X E tg iter gi)
  (f:TgD X.K n0 (cm tg).length tgt g) (j:∀C s2 H2 fp,PG (bk X tg scope C s2 H2 fp) tg g) (c:∀C s2 H2 fp,PIf (bk X tg scope C s2 H2 fp) ifs cond) (k:∀C s2 H2 fp,PD (bk X tg scope C s2 H2 fp) E0 elt ge)
  (b:X.N[i]?=some x) (l:Loc X.env.scope x) (hB:sW X tg scope=true) (m:∀x,foldedSetIterable iter X.env x=pure x) (n:X.fn x=true\/X.env.scope.names.lookup x=some .local) :
  PLS X E i (.Assign [.Name x pos'] (.ListComp elt [⟨tg,iter,ifs,0⟩] scope pos) spos) (a3 n0 gi cond ge tgt) :=
 PS.imp (lp (own:=cm tg) (te:=eD X.K E0 ge) hc e b l a hi j (λC s2 H2 fp=>(c C s2 H2 fp).pts) (λC s2 H2 fp=>k C s2 H2 fp) hB m n) λD σ H h=>qc f (PIf.tt (c 0 X.s₀ X.H₀ [])) σ H _ h
end
inductive Sr where
 |nx (δ:Ds)
 |rt (d:PyData)
 |rz (C:Addr)
 |bk (δ:Ds)
 |ct (δ:Ds)
 |no
def ff (K:PySem.W.Frag) (G:Hp):PyData->HO->Prop
 |.list ds,.lst xs=>Iss K G ds xs
 |.dict kvs,o=>xJ kvs o
 |_,_=>False
theorem ff.same {G':Hp} {d:PyData} (h:ff K G d o) (s:ak G G'):ff K G' d o:=by
 unfold ff at h ⊢;split at h
 ·exact Iss.same s h
 ·exact h
 ·exact h.elim
theorem ff.is {d:PyData} (h:ff K G d o) (ha:G a=some o):Is K G d (.ref a):=by
 unfold ff at h;split at h
 ·exact eZ ha h
 ·unfold Is;exact .inl (.inr ⟨a,_,rfl,h,ha⟩)
 ·exact h.elim
theorem ff.lst (h:ff K G (.list ds) o):∃xs,o=.lst xs/\Iss K G ds xs:=by
 unfold ff at h;split at h
 ·rename_i e;cases e;exact⟨_,rfl,h⟩
 ·rename_i e;cases e
 ·exact h.elim
structure a6 (K:PySem.W.Frag) (H0:Hp) (A0:List Addr) (H:Hp) (A:List Addr) (O:List Nat) (δ:Ds) (σ:St):Prop where
 same:ak H0 H
 ls0:Ls H0 A0
 new:∀a∈A,H0 a=none
 ls:Ls H A
 len:δ.length=σ.length
 pl:∀(i:Nat) d,i∉O->δ[i]?=some (some d)->∃v,σ[i]?=some (some v)/\Is K (del H (A++A0)) d v
 own:∀(i:Nat) d,i∈O->δ[i]?=some (some d)->∃a o d',σ[i]?=some (some (.ref a))/\a∈A/\H a=some o/\d=d'/\ff K (del H (A++A0)) d' o
 inj:∀(i j:Nat) d e a,i∈O->j∈O->δ[i]?=some (some d)->δ[j]?=some (some e)->σ[i]?=some (some (.ref a))->σ[j]?=some (some (.ref a))->i=j
def mask (O:List Nat) (δ:Ds):Ds:=if O=[] then δ else δ.mapIdx λi d=>if i∈O then none else d
theorem fh (δ:Ds):mask [] δ=δ:=by simp[mask]
theorem p4 {d:PyData} (h:(mask O δ)[i]?=some (some d)):i∉O/\δ[i]?=some (some d):=by
 unfold mask at h;split at h
 ·rename_i z;subst z;exact⟨by simp,h⟩
 ·rw[List.getElem?_mapIdx]at h;cases q:δ[i]? with
  |none=>rw[q]at h;cases h
  |some x =>
   rw[q]at h;simp only[Option.map_some,Option.some.injEq]at h;by_cases z:i∈O
   ·rw[if_pos z]at h;cases h
   ·rw[if_neg z]at h;exact⟨z,by rw[h]⟩
theorem qG:(mask O δ).length=δ.length:=by unfold mask;split <;> simp
theorem kZ {B:List Addr}:ak (del H (A++B)) (del H B):=λb o e=>by obtain⟨z,e⟩:=ba e;rw[aP (λq=>z (Ag _ q))];exact e
section
theorem a6.lsA (R:a6 K H0 A0 H A O δ σ):Ls H (A++A0):=λa h=>(Aq.mp h).elim (R.ls a) λz=>(R.ls0.same R.same) a z
theorem a6.step (R:a6 K H0 A0 H A O δ σ) (s:ak H H1):a6 K H0 A0 H1 A O δ σ where
 same:=R.same.trans s
 ls0:=R.ls0
 new:=R.new
 ls:=R.ls.same s
 len:=R.len
 pl:=λi d h e=>by obtain⟨v,e1,h1⟩:=R.pl i d h e;exact⟨v,e1,h1.same s.del⟩
 own:=λi d h e=>by obtain⟨a,xs,ds,e1,h1,h2,b,c⟩:=R.own i d h e;exact⟨a,xs,ds,e1,h1,s _ _ h2,b,c.same s.del⟩
 inj:=R.inj
theorem a6.apart (R:a6 K H0 A0 H A O δ σ) (h:a∈A):a∉A0:=λz=>by obtain⟨xs,e,_⟩:=R.ls0 a z;rw[R.new a h]at e;cases e
theorem a6.ownL (R:a6 K H0 A0 H A O δ σ) (h:i∈O) (e:δ[i]?=some (some (.list ds))):∃a xs b,σ[i]?=some (some (.ref a))/\a∈A/\H a=some (.lst xs)/\PyData.list ds=.list b/\Iss K (del H (A++A0)) b xs:=by obtain⟨a,o,d',e1,h1,h2,c,f⟩:=R.own i _ h e;subst c;obtain⟨xs,rfl,g⟩:=f.lst;exact⟨a,xs,ds,e1,h1,h2,rfl,g⟩
theorem a6.full (R:a6 K H0 A0 H A O δ σ):cj K H A0 δ σ where
 ls:=R.ls0.same R.same
 len:=R.len
 get:=λi d e=>by
  by_cases h:i∈O
  ·obtain⟨a,xs,ds,e1,h1,h2,b,c⟩:=R.own i d h e;subst b;exact⟨_,e1,(c.same kZ).is (by rw[aP (R.apart h1)];exact h2)⟩
  ·obtain⟨v,e1,h1⟩:=R.pl i d h e;exact⟨v,e1,h1.same kZ⟩
theorem a6.part (R:a6 K H0 A0 H A O δ σ):cj K H (A++A0) (mask O δ) σ where
 ls:=R.lsA
 len:=by rw[qG];exact R.len
 get:=λi d e=>by obtain⟨h,e⟩:=p4 e;exact R.pl i d h e
theorem get_set {l:List α} {x y:α} (h:(l.set i x)[j]?=some y):(i=j/\y=x)\/(i≠j/\l[j]?=some y):=by
 by_cases z:i=j
 ·subst z;rw[List.getElem?_set_self']at h;cases q:l[i]? with
  |none=>rw[q]at h;cases h
  |some w=>rw[q]at h;simp at h;exact .inl ⟨rfl,h.symm⟩
 ·rw[Am z]at h;exact .inr ⟨z,h⟩
theorem eL {l:List α} {x y:α} (hn:i≠j) (h:l[j]?=some y):(l.set i x)[j]?=some y:=by rw[Am hn];exact h
theorem a6.set {d:PyData} (R:a6 K H0 A0 H A O δ σ) (hi:i∉O) (hl:i<δ.length) (h:Is K (del H (A++A0)) d v):a6 K H0 A0 H A O (δ.set i (some d)) (σ.set i (some v)) where
 same:=R.same
 ls0:=R.ls0
 new:=R.new
 ls:=R.ls
 len:=by simp[R.len]
 pl:=λj e b q=>by
  rcases get_set q with⟨z,q⟩|⟨z,q⟩
  ·cases q;subst z;exact⟨v,by rw[Ap (by rw[<-R.len];exact hl)],h⟩
  ·obtain⟨u,e1,h1⟩:=R.pl j e b q;exact⟨u,eL z e1,h1⟩
 own:=λj e b q=>by
  rcases get_set q with⟨z,q⟩|⟨z,q⟩
  ·subst z;exact absurd b hi
  ·obtain⟨a,xs,ds,e1,h1⟩:=R.own j e b q;exact⟨a,xs,ds,eL z e1,h1⟩
 inj:=λj k d' e a b c f g p1 p2=>by
  have n1:i≠j:=λz=>hi (z▸b)
  have n2:i≠k:=λz=>hi (z▸c)
  rw[Am n1]at f p1;rw[Am n2]at g p2;exact R.inj j k d' e a b c f g p1 p2
theorem a6.setOwn (R:a6 K H0 A0 H A O δ σ) (hi:i∈O) (hl:i<δ.length) (hn:H a=none) (s:ak H H1) (ha:H1 a=some (.lst xs)) (h:Iss K (del H1 (a::(A++A0))) ds xs) :
  a6 K H0 A0 H1 (a::A) O (δ.set i (some (.list ds))) (σ.set i (some (.ref a))) where
 same:=R.same.trans s
 ls0:=R.ls0
 new:=λb m=>by
  rcases Aa.mp m with z|z
  ·rw[z];exact R.same.free hn
  ·exact R.new b z
 ls:=λb m=>by
  rcases Aa.mp m with z|z
  ·exact⟨_,by rw[z];exact ha,rfl⟩
  ·exact (R.ls.same s) b z
 len:=by simp[R.len]
 pl:=λj e c q=>by
  rcases get_set q with⟨z,q⟩|⟨z,q⟩
  ·subst z;exact absurd hi c
  ·obtain⟨u,e1,h1⟩:=R.pl j e c q;refine⟨u,eL z e1,h1.same λb o e=>?_⟩;obtain⟨y,e⟩:=ba e;have n:b≠a:=az e hn;rw[aP (by simpa[n] using y)];exact s _ _ e
 own:=λj e c q=>by
  have r:∀b o,del H (A++A0) b=some o->del H1 (a::A++A0) b=some o:=λb o e=>by obtain⟨y,e⟩:=ba e;have n:b≠a:=az e hn;rw[aP (by simpa[n] using y)];exact s _ _ e
  rcases get_set q with⟨z,q⟩|⟨z,q⟩
  ·cases q;subst z;exact⟨a,_,_,by rw[Ap (by rw[<-R.len];exact hl)],Ad,ha,rfl,h⟩
  ·obtain⟨b,ys,es,e1,h1,h2,t,v⟩:=R.own j e c q;exact⟨b,ys,es,eL z e1,Ab _ h1,s _ _ h2,t,v.same r⟩
 inj:=λj k d' e b c f g l p1 p2=>by
  have old:∀k,k∈O->i≠k->∀e,δ[k]?=some (some e)->σ[k]?=some (some (.ref a))->False:=λk f _ e q p=>by obtain⟨b,ys,es,e1,h1,h2,_⟩:=R.own k e f q;rw[p]at e1;cases e1;rw[hn]at h2;cases h2
  by_cases z1:i=j
  ·by_cases z2:i=k
   ·rw[<-z1,z2]
   ·subst z1;rw[Ap (by rw[<-R.len];exact hl)]at p1;cases p1;rw[Am z2]at l p2;exact (old k f z2 e l p2).elim
  ·by_cases z2:i=k
   ·subst z2;rw[Ap (by rw[<-R.len];exact hl)]at p2;cases p2;rw[Am z1]at g p1;exact (old j c z1 d' g p1).elim
   ·rw[Am z1]at g p1;rw[Am z2]at l p2;exact R.inj j k d' e b c f g l p1 p2
theorem a6.put {l:PyData} (R:a6 K H0 A0 H A O δ σ) (hi:i∈O) (hd:δ[i]?=some (some l)) (p:σ[i]?=some (some (.ref a))) (ha:a∈A) (h:Iss K (del H (A++A0)) ds ys) :
  a6 K H0 A0 (upd H a (.lst ys)) A O (δ.set i (some (.list ds))) σ:=by
 have m:del (upd H a (.lst ys)) (A++A0)=del H (A++A0):=ku (Av _ ha);have hl:i<δ.length:=(Ar.mp hd).1;refine⟨λb o e=>?_,R.ls0,R.new,λb s=>?_,by simp[R.len],λj e c q=>?_,λj e c q=>?_,λj k d' e b c r f g p1 p2=>?_⟩
 ·have n:b≠a:=λz=>by rw[z,R.new a ha]at e;cases e
  rw[ay n];exact R.same b o e
 ·by_cases z:b=a
  ·exact⟨_,by rw[z,aV],rfl⟩
  ·rw[ay z];exact R.ls b s
 ·rcases get_set q with⟨z,q⟩|⟨z,q⟩
  ·subst z;exact absurd hi c
  ·rw[m];exact R.pl j e c q
 ·rcases get_set q with⟨z,q⟩|⟨z,q⟩
  ·cases q;subst z;exact⟨a,_,_,p,ha,aV,rfl,by rw[m];exact h⟩
  ·obtain⟨b,zs,es,e1,h1,h2,t,u⟩:=R.own j e c q;have n:b≠a:=λw=>z (R.inj i j _ _ a hi c hd q p (by rw[<-w];exact e1))
   exact⟨b,zs,es,e1,h1,by rw[ay n];exact h2,t,by rw[m];exact u⟩
 ·rcases get_set f with⟨z1,f⟩|⟨z1,f⟩ <;> rcases get_set g with⟨z2,g⟩|⟨z2,g⟩
  ·rw[<-z1,z2]
  ·subst z1;exact R.inj i k l e b hi r hd g p1 p2
  ·subst z2;exact R.inj j i d' l b c hi f hd p1 p2
  ·exact R.inj j k d' e b c r f g p1 p2
def un (H0 G:Hp):Hp:=λb=>match H0 b with|some o=>some o|none=>G b
theorem ql:ak H0 (un H0 G):=λb o e=>by unfold un;rw[e]
theorem yG (a:ak H0 H) (c:ak G H):ak G (un H0 G):=λb o e=>by
 unfold un;cases q:H0 b with
 |none=>exact e
 |some o2=>have h2:=a b o2 q;rw[c b o e]at h2;exact h2.symm
theorem xH (a:ak H0 H) (c:ak G H):ak (un H0 G) H:=λb o e=>by
 unfold un at e;cases q:H0 b with
 |none=>rw[q]at e;exact c b o e
 |some o2=>rw[q]at e;rw[<-Option.some.inj e];exact a b o2 q
theorem a6.more (R:a6 K H0 A0 H A O δ σ):a6 K (un H0 (del H (A++A0))) A0 H A O δ σ :=
 ⟨xH R.same aq,R.ls0.same ql,λa h=>by unfold un;rw[R.new a h];exact fF (Av _ h),R.ls,R.len,R.pl,R.own,R.inj⟩
theorem a6.less {b:Hp} (R:a6 K b A0 H A O δ σ) (s:ak H0 b) (l:Ls H0 A0):a6 K H0 A0 H A O δ σ:=⟨s.trans R.same,l,λa h=>s.free (R.new a h),R.ls,R.len,R.pl,R.own,R.inj⟩
end
def iI (K:PySem.W.Frag) (E:XK) (H0:Hp) (A0:List Addr) (O:List Nat) (r:Sr) (D:Ends):Prop:=match r with
 |.nx δ=>∀A σ H,a6 K H0 A0 H A O δ σ->D.nx σ H
 |.rt d=>∀v H,ak H0 H->Is K (del H A0) d v->D.rt v H
 |.rz C=>∀H,ak H0 H->E (.ref C) none H
 |.bk δ=>∀A σ H,a6 K H0 A0 H A O δ σ->D.bk σ H
 |.ct δ=>∀A σ H,a6 K H0 A0 H A O δ σ->D.ct σ H
 |.no=>False
def sD (K:PySem.W.Frag) (E:XK) (O:List Nat) (G:Ds->Sr):TS:=λD σ H=>∃H0 A0 A δ,a6 K H0 A0 H A O δ σ/\iI K E H0 A0 O (G δ) D
def PSD (X:Cx) (E:XK) (O:List Nat) (s:Stmt) (G:Ds->Sr):Prop:=PS X s (sD X.K E O G)
def PBD (X:Cx) (E:XK) (O:List Nat) (ss:List Stmt) (G:Ds->Sr):Prop:=PSs X ss (sD X.K E O G)
def aY:Ds->Sr:=λδ=>.nx δ
def av (a b:Ds->Sr):Ds->Sr:=λδ=>match a δ with
 |.nx δ'=>b δ'
 |r=>r
noncomputable def ofR {α:Type} (r:Rs α) (k:α->Sr):Sr:=match r with
 |.ok a=>k a
 |.rz C=>.rz C
 |.no=>.no
@[simp]theorem aC (a:α) (k:α->Sr):ofR (.ok a) k=k a:=rfl
@[simp]theorem dE (C:Addr) (k:α->Sr):ofR (.rz C) k=.rz C:=rfl
@[simp]theorem dF (k:α->Sr):ofR (.no:Rs α) k=.no:=rfl
def sIf (c:Ds->Rs Bool) (a b:Ds->Sr):Ds->Sr:=λδ=>ofR (c δ) λt=>if t=true then a δ else b δ
def aX (g:Ds->Rs PyData):Ds->Sr:=λδ=>ofR (g δ) .rt
def jK (g:Ds->Rs PyData):Ds->Sr:=λδ=>ofR (g δ) λ_=>.nx δ
def aJ (O:List Nat) (i:Nat) (g:Ds->Rs PyData):Ds->Sr:=λδ=>if i<δ.length then ofR (g (mask O δ)) λd=>.nx (δ.set i (some d)) else .no
def dG (i:Nat) (g:Ds->Rs PyData):Ds->Sr:=λδ=>if i<δ.length then ofR (g δ) λd=>if bZ d then .nx (δ.set i (some d)) else .no else .no
def gD (O:List Nat) (i:Nat) (g:Ds->Rs (List PyData)):Ds->Sr:=λδ=>if i<δ.length then ofR (g (mask O δ)) λds=>.nx (δ.set i (some (.list ds))) else .no
def fN (O:List Nat) (i:Nat) (g:Ds->Rs PyData):Ds->Sr:=λδ=>match δ[i]? with
 |some (some (.list ds))=>ofR (g (mask O δ)) λd=>if ds.length<1000000 then .nx (δ.set i (some (.list (ds++[d])))) else .no
 |_=>.no
section
variable {ss:List Stmt} {G G':Ds->Sr} {a b c:Expr} {ga gb:Ds->Rs PyData} {ca:Ds->Rs Bool}
theorem rF:PBD X E O [] aY:=kj.imp λD σ H a=>(by obtain⟨H0,A0,A,δ,R,o⟩:=a;exact o A σ H R)
theorem dM (h1:PSD X E O st G) (h2:PBD X E O ss G'):PBD X E O (st::ss) (av G G'):=(bT h1 h2).imp λD σ H ⟨H0,A0,A,δ,R,o⟩=>⟨H0,A0,A,δ,R,by
 unfold av at o;cases q:G δ with
 |nx δ'=>rw[q]at o;exact λa σ' H' b=>⟨H0,A0,a,δ',b,o⟩
 |rt d=>rw[q]at o;exact o
 |rz C=>rw[q]at o;exact o
 |bk d=>rw[q]at o;exact o
 |ct d=>rw[q]at o;exact o
 |no=>rw[q]at o;exact o⟩
theorem kn (h1:PSD X E O st G):PBD X E O [st] G:=(dX h1).imp λD σ H h=>h
theorem uP {ss':List Stmt} (hc:PCD X E c ca) (h1:PBD X E O ss G) (h2:PBD X E O ss' G'):PSD X E O (.If c ss ss' pos) (sIf ca G G'):=(mU hc h1 h2).imp λD σ H b=>by
 obtain⟨H0,A0,A,δ,R,o⟩:=b;unfold sIf at o;refine cD.run R.full (λt a H1 e R1=>?_) (λC a H' s'=>?_) (λa=>?_)
 ·rw[a]at o;cases t with
  |true=>exact⟨H0,A0,A,δ,R.step e,o⟩
  |false=>exact⟨H0,A0,A,δ,R.step e,o⟩
 ·rw[a]at o;exact o H' (R.same.trans s')
 ·rw[a]at o;exact o
theorem tL (h:PD X E e ga):PSD X E O (.Return (some e) pos) (aX ga):=(fH h).imp λD σ H a=>by
 obtain⟨H0,A0,A,δ,R,o⟩:=a;unfold aX at o;refine eD.run R.full (λd c v H1 f R1 hv=>?_) (λC b H' s'=>?_) (λb=>?_)
 ·rw[c]at o;exact o v H1 (R.same.trans f) hv
 ·rw[b]at o;exact o H' (R.same.trans s')
 ·rw[b]at o;exact o
theorem rl (h:PD X E e ga) (c:swapsWith e none pos.line X.env=pure false):PSD X E O (.Expr e pos) (jK ga):=(fk h c).imp λD σ H a=>by
 obtain⟨H0,A0,A,δ,R,o⟩:=a;unfold jK at o;refine eD.run R.full (λd f v H1 g R1 hv=>?_) (λC b H' s'=>?_) (λb=>?_)
 ·rw[f]at o;exact o A σ H1 (R.step g)
 ·rw[b]at o;exact o H' (R.same.trans s')
 ·rw[b]at o;exact o
theorem r8 (h:PD X E e ga) (c:X.N.Nodup) (f:i∉O) (hi:X.N[i]?=some x) (g:Loc X.env.scope x) (j:swapsWith e (some (.Name x pos')) pos.line X.env=pure false)
  (k:X.fn x=true\/X.env.scope.names.lookup x=some .local):PSD X E O (.Assign [.Name x pos'] e pos) (aJ O i ga):=(gJ c hi g h j k).imp λD σ H a=>by
 obtain⟨H0,A0,A,δ,R,o⟩:=a;unfold aJ at o;split at o
 ·rename_i hl;refine eD.run R.part (λd l v H1 m R1 hv=>?_) (λC b H' s'=>?_) (λb=>?_)
  ·rw[l]at o;exact o A _ H1 ((R.step m).set f hl hv)
  ·rw[b]at o;exact o H' (R.same.trans s')
  ·rw[b]at o;exact o
 ·exact o.elim
theorem pD (h:PD X E e ga) (f:X.N.Nodup) (g:i∉O) (hi:X.N[i]?=some x) (j:Loc X.env.scope x) (k:swapsWith e (some (.Name x pos')) pos.line X.env=pure false)
  (l:X.fn x=true\/X.env.scope.names.lookup x=some .local):PSD X E O (.Assign [.Name x pos'] e pos) (dG i ga):=(gJ f hi j h k l).imp λD σ H a=>by
 obtain⟨H0,A0,A,δ,R,o⟩:=a;unfold dG at o;split at o
 ·rename_i hl;refine eD.run R.full (λd m v H1 c R1 hv=>?_) (λC b H' s'=>?_) (λb=>?_)
  ·rw[m]at o;have o:iI X.K E H0 A0 O (if bZ d=true then .nx (δ.set i (some d)) else .no) D:=o;split at o
   ·rename_i hd;exact o A _ H1 ((R.step c).set g hl ((hv.same aq).dl (R.step c).lsA hd))
   ·exact o.elim
  ·rw[b]at o;exact o H' (R.same.trans s')
  ·rw[b]at o;exact o
 ·exact o.elim
theorem tu (h:PLD X E e gl) (c:X.N.Nodup) (f:i∈O) (hi:X.N[i]?=some x) (g:Loc X.env.scope x) (j:swapsWith e (some (.Name x pos')) pos.line X.env=pure false)
  (k:X.fn x=true\/X.env.scope.names.lookup x=some .local):PSD X E O (.Assign [.Name x pos'] e pos) (gD O i gl):=(gJ c hi g h j k).imp λD σ H a=>by
 obtain⟨H0,A0,A,δ,R,o⟩:=a;unfold gD at o;split at o
 ·rename_i hl;refine⟨A++A0,mask O δ,R.part,?_⟩;cases q:gl (mask O δ) with
  |ok ds =>rw[q]at o;exact λp xs H' hn s l b=>o (p::A) _ H' (R.setOwn f hl hn s l b)
  |rz C=>rw[q]at o;exact λH' s'=>o H' (R.same.trans s')
  |no=>rw[q]at o;exact o
 ·exact o.elim
theorem qI (h:PLS X E i st gl) (e:i∉O):PSD X E O st (aJ O i (gL gl)):=PS.imp h λD σ H a=>by
 obtain⟨H0,A0,A,δ,R,o⟩:=a;unfold aJ gL at o;split at o
 ·rename_i hl;have c:=R.part;refine⟨A++A0,mask O δ,c,?_⟩;cases q:gl (mask O δ) with
  |ok ds =>rw[q]at o;intro p xs H' hn s f b;exact o A _ H' ((R.step s).set e hl (eZ (by rw[aP (c.ls.new hn)];exact f) (b.same fo)))
  |rz C=>rw[q]at o;exact λH' s'=>o H' (R.same.trans s')
  |no=>rw[q]at o;exact o
 ·exact o.elim
theorem tyL {p:Addr} (h:H p=some (.lst xs)):tyV K "list" (.ref p) H:=.inl ⟨rfl,xs,SqL.of h⟩
theorem sT {j c:Pos} (h:PD X E e ga) (r:i∈O) (hi:X.N[i]?=some x) (hv:Vis X.env.scope x)
  (hd:(x==("__debug__":Str))=false) (k:(x==("__classdict__":Str))=false) (f:starEach [e] X.env=(false,eval e X.env)::starEach [] X.env)
  (a:attributeBase (.Name x pn) "append" X.env (eval (.Name x pn) X.env)=eval (.Name x pn) X.env)
  (g:((backTo c (starEach [e] X.env)).all (λx=>!x.1)&&(backToKw c (keywordEach [] X.env)).all (λx=>x.1.isSome)&&decide (([e]:List Expr).length+([]:List Keyword).length+(if ([]:List Keyword).isEmpty then 0 else 1)<30))=true)
  (b:(j.endLine==c.line)=true) (t:swapsWith (.Call (.Attribute (.Name x pn) "append" j) [e] [] c) none pos.line X.env=pure false) :
  PSD X E O (.Expr (.Call (.Attribute (.Name x pn) "append" j) [e] [] c) pos) (fN O i ga) :=
 (fk (lH PySem.F.plainAttrs_list PySem.F.slot_list_append PySem.F.type_list_append eE (d7 hi hv hd k) (bA h cR f) a g b f rfl) t).imp λD σ H l=>by
  obtain⟨H0,A0,A,δ,R,o⟩:=l;unfold fN at o;split at o
  ·rename_i ds q;obtain⟨p,xs,ds',e1,u,hl,e2,s⟩:=R.ownL r q;cases e2;refine⟨_,e1,tyL hl,?_⟩;refine eD.run R.part (λd w v H1 m R1 hv=>?_) (λC n H' s'=>?_) (λn=>?_)
   ·rw[w]at o;have o:iI X.K E H0 A0 O (if ds.length<1000000 then .nx (δ.set i (some (.list (ds++[d])))) else .no) D:=o;split at o
    ·rename_i hz;refine⟨p,xs,v,rfl,rfl,m _ _ hl,by rw[s.length,sizeLine_eq];omega,?_⟩;exact o A _ _ ((R.step m).put r q e1 u ((s.same m.del).append (fP hv)))
    ·exact o.elim
   ·rw[n]at o;exact o H' (R.same.trans s')
   ·rw[n]at o;exact o
  ·exact o.elim
def TgS (K:PySem.W.Frag) (O:List Nat) (tgt:PyData->Ds->Option Ds) (g:TG):Prop:=∀(d:PyData) (v:V) (H0:Hp) (A0:List Addr) (H:Hp) (A:List Addr) (δ a:Ds) (σ:St) (Q:St->Hp->Prop),a6 K H0 A0 H A O δ σ->Is K (del H (A++A0)) d v->tgt d δ=some a ->
 (∀b,a6 K H0 A0 H A O a b->Q b H)->g v σ H Q
def bL (i:Nat):PyData->Ds->Option Ds:=λd δ=>if i<δ.length then some (δ.set i (some d)) else none
theorem o9 (hi:i∉O):TgS K O (bL i) (eW i):=λd v H0 A0 H A δ δ' σ Q R h e k=>by
 unfold bL at e;split at e
 ·rename_i hl;cases e;exact k _ (R.set hi hl h)
 ·cases e
noncomputable def gG:List Nat->List PyData->Ds->Option Ds
 |[],[],δ=>some δ
 |i::is,d::ds,δ=>if i<δ.length then gG is ds (δ.set i (some d)) else none
 |_,_,_=>none
def gX (is:List Nat):PyData->Ds->Option Ds
 |.tuple ds,δ=>gG is ds δ
 |_,_=>none
def l0:List Nat->TGs
 |[]=>L2.wq
 |i::is=>L2.mM (eW i) (l0 is)
theorem gW {K:PySem.W.Frag}:∀(is:List Nat) (ds:List PyData) (vs:List V) (H0:Hp) (A0:List Addr) (H:Hp) (A:List Addr) (δ a:Ds) (σ:St) (Q:St->Hp->Prop),(∀i∈is,i∉O)->a6 K H0 A0 H A O δ σ->Iss K (del H (A++A0)) ds vs->gG is ds δ=some a ->
  (∀b,a6 K H0 A0 H A O a b->Q b H)->l0 is vs σ H Q
 |[],[],vs,H0,A0,H,A,δ,a,σ,Q,_,R,h,e,k=>by cases e;exact⟨h.nil_of,k σ R⟩
 |i::is,d::ds,vs,H0,A0,H,A,δ,a,σ,Q,hO,R,h,e,k=>by
  obtain⟨v,r,rfl,h1,h2⟩:=h.cons_of;unfold gG at e;split at e
  ·rename_i hl;exact⟨v,r,rfl,gW is ds r H0 A0 H A _ a _ Q (λj c=>hO j (Ab _ c)) (R.set (hO i Ad) hl h1) h2 e k⟩
  ·cases e
 |[],_::_,_,_,_,_,_,_,_,_,_,_,_,_,e,_=>by cases e
 |_::_,[],_,_,_,_,_,_,_,_,_,_,_,_,e,_=>by cases e
theorem iK:∀{is:List Nat} {ds:List PyData} {δ a:Ds},gG is ds δ=some a->ds.length=is.length
 |[],[],_,_,_=>rfl
 |_::is,_::ds,δ,a,e=>by
  unfold gG at e;split at e
  ·simp[iK e]
  ·cases e
 |[],_::_,_,_,e=>by cases e
 |_::_,[],_,_,e=>by cases e
theorem so {is:List Nat} (hi:∀i∈is,i∉O):TgS K O (gX is) (L2.vW K is.length (l0 is)):=λd v H0 A0 H A δ a σ Q R h e k=>by
 unfold gX at e;split at e
 ·obtain⟨p,xs,rfl,c,b⟩:=h.ofTup;exact⟨p,xs,rfl,SqT.of (aq _ _ c),by rw[b.length,iK e],gW is _ xs H0 A0 H A δ a σ Q hi R b e k⟩
 ·cases e
def forL (tgt:PyData->Ds->Option Ds) (body:Ds->Sr):List PyData->Ds->Sr
 |[],δ=>.nx δ
 |d::r,δ=>match tgt d δ with
  |none=>.no
  |some δ1=>match body δ1 with
   |.nx δ2=>forL tgt body r δ2
   |.ct δ2=>forL tgt body r δ2
   |.bk δ2=>.nx δ2
   |.rt v=>.rt v
   |.rz C=>.rz C
   |.no=>.no
def f7 (O:List Nat) (src:Ds->Rs (List PyData)) (tgt:PyData->Ds->Option Ds) (body:Ds->Sr):Ds->Sr:=λδ=>ofR (src (mask O δ)) λds=>forL tgt body ds δ
theorem sL {tgt:PyData->Ds->Option Ds} (N:PassesOwn (model X.prog X.w) X.A X.env X.xe) (hc:X.calm=true) (hi:PID X E tg iter gi) (P:TgS X.K O tgt g) (Q:PG X tg g) (s:PBD X E O ss G)
  (S:∀x,foldedSetIterable iter X.env x=pure x):PSD X E O (.For tg iter ss [] pos) (f7 O gi tgt G):=(vN N hc hi Q s S).imp λD σ H t=>by
 obtain⟨H0,A0,A,δ,R,o⟩:=t;unfold f7 at o;refine⟨A++A0,mask O δ,R.part,?_⟩;cases q:gi (mask O δ) with
 |no=>rw[q]at o;exact o
 |rz C=>rw[q]at o;exact λH' s'=>o H' (R.same.trans s')
 |ok ds =>
  rw[q]at o;intro J H1 I T;have U:=(R.step I).more;have o:iI X.K E H0 A0 O (forL tgt G ds δ) D:=o;refine⟨λi m f H'=>m=ds.length-i/\i<=ds.length/\∃k c,a6 X.K (un H0 (del H1 (A++A0))) A0 H' k O c f/\iI X.K E H0 A0 O (forL tgt G (ds.drop i) c) D,⟨ds.length,by simp,B1 _,A,δ,U,o⟩,?_⟩
  rintro i m f H' ⟨rfl,hi',k,c,l,o'⟩
  have L:ak (del H1 (A++A0)) (un H0 (del H1 (A++A0))):=yG (R.same.trans I) aq;have hB:∀b∈k++A0,(del H1 (A++A0)) b=none:=λb s=>by
   rcases Aq.mp s with z|z
   ·exact L.free (l.new b z)
   ·exact fF (Ag _ z)
  obtain⟨W,js,Y⟩:=T H' (k++A0) (L.trans l.same) l.lsA hB;by_cases hlt:i<ds.length
  ·refine .inr ⟨W i hlt,?_⟩;have u:ds.drop i=ds[i]::ds.drop (i+1):=AY hlt;rw[u]at o';unfold forL at o';refine⟨λn H2=>∃B a,a6 X.K (un H0 (del H1 (A++A0))) A0 H2 B O a n/\iI X.K E H0 A0 O (forL tgt G (ds.drop (i+1)) a) D,λn H2 ⟨B,a,R2,o2⟩=>⟨ds.length-(i+1),by omega,rfl,hlt,B,a,R2,o2⟩,λx H2 y=>?_⟩;obtain⟨s2,d,M,hd⟩:=Y i x H2 hlt y;have:ds[i]=d:=by have:=A5 hlt;rw[this]at M;exact Option.some.inj M
   rw[this]at o';cases et:tgt d c with
   |none=>rw[et]at o';exact o'.elim
   |some δ1 =>
    simp only[et]at o';refine P d x _ _ _ _ _ _ _ _ (l.step s2) hd et λσ3 Z=>⟨_,_,_,_,Z,?_⟩
    cases eb:G δ1 with
    |nx a=>rw[eb]at o';exact λp h j r=>⟨p,a,r,o'⟩
    |ct a=>rw[eb]at o';exact λp h j r=>⟨p,a,r,o'⟩
    |bk a=>rw[eb]at o';exact λp h j r=>o' p h j (r.less ql R.ls0)
    |rt v=>rw[eb]at o';exact λv4 j F h4=>o' v4 j (ql.trans F) h4
    |rz C=>rw[eb]at o';exact λj F=>o' j (ql.trans F)
    |no=>rw[eb]at o';exact o'
  ·have e:i=ds.length:=by omega
   subst e;rw[Bh]at o';exact .inl ⟨js,o' k f H' (l.less ql R.ls0)⟩
end
section
variable {ss:List Stmt} {G G':Ds->Sr} {a b c:Expr} {ga gb gk:Ds->Rs PyData} {ca:Ds->Rs Bool}
def cV (c:Ds->Rs Bool) (b:Ds->Sr):Nat->Ds->Sr
 |0,_=>.no
 |n+1,δ=>ofR (c δ) λt=>if t=true then (match b δ with
  |.nx δ2=>cV c b n δ2
  |.ct δ2=>cV c b n δ2
  |.bk δ2=>.nx δ2
  |.rt v=>.rt v
  |.rz C=>.rz C
  |.no=>.no) else .nx δ
theorem oK (fuel:Nat) (j:PassesOwn (model X.prog X.w) X.A X.env X.xe) (hc:PCD X E c ca) (k:PBD X E O ss G):PSD X E O (.While c ss [] pos) (λδ=>cV ca G fuel δ):=(qM j hc k).imp λD σ H e=>by
 obtain⟨H0,A0,A,δ,R,o⟩:=e;refine⟨λm σ H=>∃A δ,a6 X.K H0 A0 H A O δ σ/\iI X.K E H0 A0 O (cV ca G m δ) D,⟨fuel,A,δ,R,o⟩,?_⟩
 rintro m σ H ⟨A,δ,R,o⟩
 cases m with
 |zero=>exact o.elim
 |succ m =>
  unfold cV at o;refine cD.run R.full (λt a H1 i R1=>?_) (λC a H' s'=>?_) (λa=>?_)
  ·rw[a]at o;cases t with
   |false=>exact o A σ H1 (R.step i)
   |true =>
    refine⟨λb H'=>∃A δ,a6 X.K H0 A0 H' A O δ b/\iI X.K E H0 A0 O (cV ca G m δ) D,λb H' q=>⟨m,Nat.lt_succ_self m,q⟩,H0,A0,A,δ,R.step i,?_⟩;have o:iI X.K E H0 A0 O (match G δ with
     |.nx δ2=>cV ca G m δ2
     |.ct δ2=>cV ca G m δ2
     |.bk δ2=>.nx δ2
     |.rt v=>.rt v
     |.rz C=>.rz C
     |.no=>.no) D:=o
    cases eb:G δ with
    |nx δ2=>rw[eb]at o;exact λf g l h=>⟨f,δ2,h,o⟩
    |ct δ2=>rw[eb]at o;exact λf g l h=>⟨f,δ2,h,o⟩
    |bk δ2=>rw[eb]at o;exact o
    |rt v=>rw[eb]at o;exact o
    |rz C=>rw[eb]at o;exact o
    |no=>rw[eb]at o;exact o
  ·rw[a]at o;exact o H' (R.same.trans s')
  ·rw[a]at o;exact o
def jk (i:Nat) (gk ge:Ds->Rs PyData):Ds->Sr:=λδ=>match δ[i]? with
 |some (some (.list ds))=>ofR (ge δ) λd=>ofR (gk δ) λk=>match k with
  |.int k=>match ixN ds.length k with
   |some j=>if bZ d then .nx (δ.set i (some (.list (ds.set j d)))) else .no
   |none=>.no
  |_=>.no
 |_=>.no
theorem rn {k:Expr} {ps:Pos} (h:PD X E e ga) (n:PD X E k gk) (g:i∈O) (hi:X.N[i]?=some x) (hv:Vis X.env.scope x)
  (hd:(x==("__debug__":Str))=false) (c:(x==("__classdict__":Str))=false)
  (ha:∀v,assign (.Subscript (.Name x pn) k ps) X.env v=(do
   let ov <-holding [v] (eval (.Name x pn) X.env);let iv <-holding [v,ov] (eval k X.env)
   standAt ps
   holding [v,ov,iv] (setItem ov iv v)
   release [v,ov,iv] []))
  (r:swapsWithSole [.Subscript (.Name x pn) k ps] e pos.line X.env=pure false) (hw:swappedStores [.Subscript (.Name x pn) k ps] e X.env=pure none)
  (h1:(assignEach [.Subscript (.Name x pn) k ps] X.env).map (·.2)=[assign (.Subscript (.Name x pn) k ps) X.env]):PSD X E O (.Assign [.Subscript (.Name x pn) k ps] e pos) (jk i gk ga) :=
 (o7 h (ph (d7 hi hv hd c) n set_list ha) r hw h1).imp λD σ H f=>by
  obtain⟨H0,A0,A,δ,R,o⟩:=f;unfold jk at o;split at o
  ·rename_i ds q;obtain⟨p,xs,ds',e1,s,hl,e2,l⟩:=R.ownL g q;cases e2;refine eD.run R.full (λd t v H1 m w hv=>?_) (λC b H' s'=>?_) (λb=>?_)
   ·simp only[t,aC]at o;refine⟨_,e1,?_⟩;refine eD.run w (λkd y u H2 s2 R2 z=>?_) (λC b H' s'=>?_) (λb=>?_)
    ·simp only[y,aC]at o;split at o
     ·rename_i B;split at o
      ·rename_i j F;split at o
       ·rename_i hn;have a:=m.trans s2;refine⟨p,xs,B,j,rfl,z.ofInt,a _ _ hl,by rw[l.length];exact F,?_⟩;exact o A _ _ ((R.step a).put g q e1 s (Iss.set (((hv.same s2.del).same aq).dl (R.step a).lsA hn) j (l.same a.del)))
       ·exact o.elim
      ·exact o.elim
     ·exact o.elim
    ·simp only[b,dE]at o;exact o H' (R.same.trans (m.trans s'))
    ·simp only[b,dF]at o;exact o
   ·simp only[b,dE]at o;exact o H' (R.same.trans s')
   ·simp only[b,dF]at o;exact o
  ·exact o.elim
structure kc (K:PySem.W.Frag) (mg:Str->Option Value) (x:Str) (C:Addr):Prop where
 m:mg x=some (.ref C)
 e:PySem.W.excIn K C [.type "ValueError",.type "Exception",.type "BaseException",.type "object"] "ValueError.__new__"=true
def eV (C:Addr) (gs:Ds->Rs (List PyData)):Ds->Sr:=λδ=>ofR (gs δ) λ_=>.rz C
theorem nP {i:Pos} (hc:X.calm=true) (M:md X E) (g:kc X.K X.mg x C) (ha:PAD X E (e::es) gs) (hl:(e::es).length<=1000) (j:Gl X x)
  (a:(x==("__debug__":Str))=false) (k:starEach (e::es) X.env=(false,eval e X.env)::starEach es X.env) (b:(backTo cpos (starEach es X.env)).any (·.1)=false) :
  PSD X E O (.Raise (some (.Call (.Name x i) (e::es) [] cpos)) none pos) (eV C gs) :=
 (qm hc M PySem.F.excBase_ValueError j g.m g.e ha.1 a k b).imp λD σ H c=>by
  obtain⟨H0,A0,A,δ,R,o⟩:=c;unfold eV at o;refine aD.run R.full (λds h vs H1 l R1 hv=>?_) (λC f H' s'=>?_) (λf=>?_)
  ·simp only[h,aC]at o;exact⟨by rw[hv.length,ha.2 δ ds h,sizeLine_eq];omega,o H1 (R.same.trans l)⟩
  ·simp only[f,dE]at o;exact o H' (R.same.trans s')
  ·simp only[f,dF]at o;exact o
end
section
theorem ka {f:Addr} {CX:CXT} (F:Fun K x qual st f fd) (S:cn N ps (aw st)) (len:∀vs H Q E,sp vs H Q E->vs.length=ps.length)
  (a:∀(cdv:Value) (A:Around) (outer:List Env) (s:Shared) (H:Hp) (vs:List V) (Q:VK) (E:XK),cE k (A.deeper (envOfC qual (aw st) s.heap.objs.size f cdv))->sp vs H Q E ->
   ∃t,PSs (dO CX P w K mg base N qual (aw st) f cdv A outer s H E) (bM st) t/\t { nx:=λ_ H'=>Q .non H',rt:=Q } (start N vs) H):dj P w K mg base CX (k+1) f fd ps sp:=by
 obtain⟨oc,od,kV,doc,pm,an,cdv,ct,osl,rfl,e,b⟩:=F.ex;exact ue e b S len λA outer s H vs Q E g c=>a cdv A outer s H vs Q E g c
noncomputable def a7:Sr->Rs PyData
 |.rt d=>.ok d
 |.nx _=>.ok .none
 |.rz C=>.rz C
 |_=>.no
theorem vO {f:Addr} {A:Around}:md (dO (CXW P w) P w K mg base N qual scope f cd A outer s H E) E :=
 λ_ _ _ _ _ _ _ _ I a b=>lF (CX:=CX0) I a b
theorem a6.start (f:Ls H A0) (hi:Iss K (del H A0) ds vs) (hl:ds.length=ps.length) (c:∀i∈O,ps.length<=i) :
  a6 K H A0 H [] O (ds.map some++List.replicate (N.length-ps.length) none) (L2.start N vs):=by
 have hv:=hi.length;have at':∀(i:Nat) d,(ds.map some++List.replicate (N.length-ps.length) none)[i]?=some (some d)->i<ds.length/\ds[i]?=some d:=λi d e=>by
  by_cases h:i<ds.length
  ·rw[Ao (by simpa using h),An]at e;refine⟨h,?_⟩;cases q:ds[i]? with
   |none=>rw[q]at e;cases e
   |some z=>rw[q]at e;simp at e;rw[e]
  ·rw[As (by simpa using h),AJ]at e;split at e <;> cases e
 refine⟨ak.refl _,f,(λa h=>by cases h),(λa h=>by cases h),?_,λi d _ e=>?_,λi d h e=>?_,λi j d e a h _ q _ _ _=>?_⟩
 ·unfold L2.start;simp[hv,hl]
 ·obtain⟨b,e⟩:=at' i d e;obtain⟨v,g,hd⟩:=hi.getD e;refine⟨v,?_,hd⟩;unfold L2.start;rw[Ao (by simp;omega),An,g];rfl
 ·obtain⟨b,_⟩:=at' i d e;exact absurd (c i h) (by omega)
 ·obtain⟨b,_⟩:=at' i d q;exact absurd (c i h) (by omega)
theorem fz.of {f:Addr} {G:Ds->Sr} (F:Fun K x qual st f fd) (S:cn N ps (aw st)) (b:Binds K fd ps []) (m:mg x=some (.ref f)) (e:∀i∈O,ps.length<=i)
  (body:∀(cdv:Value) (A:Around) (outer:List Env) (s:Shared) (H:Hp) (E:XK),cE k (A.deeper (envOfC qual (aw st) s.heap.objs.size f cdv))->PBD (dO (CXW P w) P w K mg base N qual (aw st) f cdv A outer s H E) E O (bM st) G)
  (g:∀ds,ds.length=ps.length->gf ds≠.no->a7 (G (ds.map some++List.replicate (N.length-ps.length) none))=gf ds):fz P w K mg base (k+1) x ps.length gf:=by
 refine⟨f,fd,ps,ka F S (λvs H Q E h=>?_) (λcdv A outer s H vs Q E j h=>?_),m,F.kp,b⟩
 ·obtain⟨A,ds,c,hi,hl,o⟩:=h;rw[hi.length,hl]
 ·obtain⟨A0,ds,c,hi,hl,o⟩:=h;refine⟨_,body cdv A outer s H E j,H,A0,[],_,a6.start c hi hl e,?_⟩;have a:=g ds hl (λz=>by rw[z]at o;exact o);cases q:G (ds.map some++List.replicate (N.length-ps.length) none) with
  |rt d=>rw[q]at a;rw[<-a]at o;exact λv H' s' hv=>o v H' s' hv
  |nx δ=>rw[q]at a;rw[<-a]at o;exact λA' σ H' l=>o .non H' l.same is_none
  |rz C=>rw[q]at a;rw[<-a]at o;exact λH' s'=>o H' s'
  |bk δ=>rw[q]at a;rw[<-a]at o;exact o.elim
  |ct δ=>rw[q]at a;rw[<-a]at o;exact o.elim
  |no=>rw[q]at a;rw[<-a]at o;exact o.elim
theorem fz.old {f:Addr} (F:dj P w K mg base CX0 k f fd ps sp) (m:mg x=some (.ref f)) (kp:PySem.W.keepIn K (.ref f)=true) (b:Binds K fd ps [])
  (h:∀ds,ds.length=ps.length->gf ds≠.no->∃d,gf ds=.ok d/\bX d=true/\∀vs H Q,Iss K H ds vs->(∀v H',ak H H'->IsD K H' d v->Q v H')->sp vs H Q E0):fz P w K mg base k x ps.length gf:=by
 refine⟨f,fd,ps,⟨λvs H Q E h'=>?_,λA outer s H args us vs Q E j l n hv h'=>?_⟩,m,kp,b⟩
 ·obtain⟨A,ds,g,hi,hl,o⟩:=h';rw[hi.length,hl]
 ·obtain⟨A0,ds,g,hi,hl,o⟩:=h';obtain⟨d,e,i,c⟩:=h ds hl (λz=>by rw[z]at o;exact o);rw[e]at o;refine codeAny_mono (F.run A outer s H args us vs Q E0 j l n hv (c vs H Q (hi.same aq) λv H' s' hd=>o v H' s' ((hd.is i).dl (g.same s') (mv i)))) λr s' a=>?_
  cases r with
  |error ev=>exact False.elim a
  |ok fl =>
   cases fl with
   |ret u=>exact a
   |next=>exact False.elim a
   |brk=>exact False.elim a
   |cont=>exact False.elim a
end
open AutoSeq1 (wpAny_loadPart')
theorem gz:fillsNumberSlot (.type "tuple") "mul"=pure false :=
 PySem.fillsNumberSlot_seq (id:="tuple.__mul__") (r:=some (.builtin "tuple.__rmul__")) PySem.F.slot_tuple_mul.lookup (by decide +kernel) PySem.F.slot_tuple_rmul.lookup (by decide +kernel)
theorem kF:seqRepeat? (.type "tuple")=pure (some (.builtin "tuple.__mul__")):=by unfold seqRepeat?;rw[PySem.seqSlot_of (T:="tuple") (name:="__mul__") (id:="tuple.__mul__") PySem.F.slot_tuple_mul.lookup (by decide +kernel),PySem.seqSlot_of (T:="tuple") (name:="__rmul__") (id:="tuple.__rmul__") PySem.F.slot_tuple_rmul.lookup (by decide +kernel)];rfl
theorem kf (a:Int) (t:Tok) (l:Addr) (items:Array Value) (n:Nat) (dd:Option Addr) (b:Array (Option Value)) :
  Meets (Builtin.«int.__rmul__» ⟨[.int a t,.ref l],[]⟩) (λ_ R s=>s.heap.get? l=some { cls:=.type "tuple",dict:=dd,data:=.seq items n,slots:=b }/\R (.ok (.ret Value.notImplemented)) s) :=
 .of_wp λprog w A R s h=>by obtain⟨hp,g,d,tk,os⟩:=s;obtain⟨hl,h⟩:=h;wp_walk;exact⟨_,rfl,h⟩
theorem oV (l:Addr) (items:Array Value) (n:Nat) (x:Int) (u:Tok) (dd:Option Addr) (c:Array (Option Value)) (h1:(decide (x < -(2 ^ 63))||decide (x≥2 ^ 63))=false) (h2:(items.isEmpty||x==1)=false) (h3:(decide (x<=0)||items.isEmpty)=false)
  (e:decide ((items.size:Int)*x>(2 ^ 63-1) / 8)=false) (h5:Builtin.Tuple.tupleTooMany ((items.size:Int)*x)=false) (hsz:(List.foldl (λa b=>a++b) #[] (List.replicate x.toNat items)).size<=sizeLine) :
  Meets (Builtin.«tuple.__mul__» ⟨[.ref l,.int x u],[]⟩) (λ_ R s=>s.heap.get? l=some { cls:=.type "tuple",dict:=dd,data:=.seq items n,slots:=c }/\R (.ok (.ret (Value.ref s.heap.objs.size))) { s with heap:=s.heap.push { cls:=Value.type "tuple",data:=Data.seq (List.foldl (λa b=>a++b) #[] (List.replicate x.toNat items)) } }) :=
 .of_wp λprog w A R s h=>by
  obtain⟨hp,g,d,tk,os⟩:=s;obtain⟨hl,h⟩:=h;have f1:=AutoSeq1.idx_int;have f2:=AutoSeq1.sub_tuple_tuple
  wp_walk using wpAny_loadPart' hl
  refine wpAny_ite_false (by rw[h1];rfl) ?_
  wp_walk using wpAny_loadPart' hl
  refine wpAny_ite_false e ?_
  wp_walk using wpAny_loadPart' hl
  exact⟨_,rfl,h⟩
section
variable {a b c:Expr} {ga gb gc:Ds->Rs PyData}
def t9 (K:PySem.W.Frag):R2:=λx y H Q=>∃l k xs,x=.ref l/\y=.int k/\SqT K H l xs/\xs≠[]/\2<=k/\k<1000000/\xs.length*k.toNat<=1000000/\∀p,H p=none->Q (.ref p) (upd H p (.tup (List.replicate k.toNat xs).flatten))
theorem rG:OpR X (binaryOp .Mult) (t9 X.K):=by
 intro pins s σ H x y v u Q I m p h;obtain⟨l,k,xs,rfl,rfl,hl,i,hk1,hk2,w,q⟩:=h;cases m;obtain⟨t,rfl⟩:=p;obtain⟨a,r,p1,_⟩:=I.tuple hl;obtain⟨⟨cls,dd,data,j⟩,g,hc,n,hd⟩:=id p1;simp only at hc hd;subst hc hd;have hlen:=r.length;have e:a≠[]:=λz=>i (r.nil_iff.mp z)
 have hpos:0<a.length:=Ba.mpr e;have c:List.foldl (λA B=>A++B) #[] (List.replicate k.toNat a.toArray)=(List.replicate k.toNat a).flatten.toArray:=by have:=foldl_rep a k.toNat [];rw[AU]at this;exact this
 have f:a.toArray.isEmpty=false:=by simp[e]
 have hmul:(a.length:Int)*k<=1000000:=by
  have e1:((a.length*k.toNat:Nat):Int)=(a.length:Int)*k:=by rw[Int.natCast_mul,Bb (by omega)]
  rw[<-e1,<-hlen];omega
 have hsz2:(List.replicate k.toNat a).flatten.length<=1000000:=by rw[len_rep,Nat.mul_comm,<-hlen];exact w
 refine wpAny_binaryOp_repeat_ref (T:="tuple") (U:="int") (by decide) ⟨_,g,rfl⟩ (λs'=>typeIs_int s' k t) gz PySem.F.fills_int_mul PySem.F.slot_int_rmul kF PySem.F.slot_int_index.lookup
  (call_meets PySem.F.slot_int_rmul (typeIs_int s k t) PySem.F.entry_int_rmul (PySem.F.args_int_rmul_2 _ _) (kf k t l a.toArray n dd j)
   ⟨g,rfl,⟨_,g,rfl⟩,call_meets PySem.F.slot_tuple_mul ⟨_,g,rfl⟩ PySem.F.entry_tuple_mul (PySem.F.args_tuple_mul_2 _ _) (oV l a.toArray n k t dd j ?_ ?_ ?_ ?_ ?_ ?_) ⟨g,?_⟩⟩)
 ·rw[decide_eq_false (by omega),decide_eq_false (by omega)];rfl
 ·rw[f,Bool.false_or];simp;omega
 ·rw[f,Bool.or_false];exact decide_eq_false (by omega)
 ·rw[A6];exact decide_eq_false (by omega)
 ·rw[A6];unfold Builtin.Tuple.tupleTooMany;rw[sizeLine_eq];exact decide_eq_false (by omega)
 ·rw[c,A6,sizeLine_eq];omega
 ·rw[c];refine⟨.ref s.heap.objs.size,_,I.laid (t':=s.toks) (o:=.tup (List.replicate k.toNat xs).flatten) (λb ob q=>A1 _ q) (Ac _) ?_,rfl,q _ (I.hok.fresh (Ac _))⟩;exact⟨by rw[len_rep,Nat.mul_comm,sizeLine_eq];omega,_,r.rep k.toNat,kg.new _ _⟩
def cK:PyData->PyData->Option PyData
 |.int i,.int j=>if (-(2 ^ 64)<i/\i<2 ^ 64)\/(-(2 ^ 64)<j/\j<2 ^ 64) then some (.int (i*j)) else none
 |.list x,.int k=>if 0<=k/\k<1000000/\x.length*k.toNat<=1000000 then some (.list (List.replicate k.toNat x).flatten) else none
 |.tuple x,.int k=>if x≠[]/\2<=k/\k<1000000/\x.length*k.toNat<=1000000 then some (.tuple (List.replicate k.toNat x).flatten) else none
 |_,_=>none
theorem tG:OpD K cK (λx y H Q=>rI t7 (λi j=>.int (i*j)) x y H Q\/wN x y H Q\/t9 K x y H Q):=λd1 d2 d x y H A Q e f h1 h2 k=>by
 unfold cK at e;split at e
 ·split at e
  ·rename_i z;cases e;exact .inl ⟨_,_,h1.ofInt,h2.ofInt,z,k _ H (ak.refl _) bJ⟩
  ·cases e
 ·split at e
  ·rename_i z;cases e;obtain⟨p,xs,rfl,c,a⟩:=h1.ofLst;exact .inr (.inl ⟨p,_,xs,rfl,h2.ofInt,aq _ _ c,by omega,by omega,by rw[a.length,sizeLine_eq];omega,λr b=>k _ _ (aS b) (fu f b (a.rep _))⟩)
  ·cases e
 ·split at e
  ·rename_i z;cases e;obtain⟨p,xs,rfl,c,a⟩:=h1.ofTup;refine .inr (.inr ⟨p,_,xs,rfl,h2.ofInt,SqT.of (aq _ _ c),λq=>z.1 ?_,z.2.1,z.2.2.1,by rw[a.length];exact z.2.2.2,λr b=>k _ _ (aS b) (fW f b (a.rep _))⟩);exact AR.mp (by rw[<-a.length,q];rfl)
  ·cases e
 ·cases e
theorem uA (ha:PD X E a ga) (c:PD X E b gb):PD X E (.BinOp a .Mult b pos) (g2 cK ga gb):=eN tG ha c (cg (gn.or (u4.or rG)))
end
section
variable {prog:Program} {A:Around} {E:Value->Shared->Prop}
theorem fw {c:Addr} {i j:Value} (a:IsTup s.heap t items) (k:s.heap.IsSliceOf c i j .none) (pl:IsPart i lo) (l:IsPart j hi)
  (hw:HT.sIx items.size 0 lo=0/\HT.sIx items.size items.size hi=items.size) (h:Q (.ref t) s):wpAny (model prog w) A (getItem (.ref t) (.ref c)) Q E s:=by
 obtain⟨os,e,f,hds⟩:=id k;have g:s.TypeIs (.ref c) "slice":=⟨os,e,f⟩
 unfold getItem
 try with_reducible refine wpAny_holding ?_
 first|refine wpAny_bind (wpAny_pure ?_)|skip
 refine wpAny_bind (wpAny_sequenceKey a.typeIs (by decide) ?_);refine wpAny_bind (wpAny_callSpecial?_slot (name:=Str.ofString "__getitem__") a.typeIs PyProof.Rows.slot_tuple_getitem
  (wpAny_call_entry PyProof.Rows.slot_tuple_getitem a.typeIs entry_tuple_getitem ?_ (args_tuple_getitem _ _)))
 show wpAny _ _ (Builtin.Tuple.tupleItemsOf (.ref t) >>= _) _ _ s;refine wpAny_bind (tupleItemsOf_ a ?_);refine wpAny_bind (wpAny_typeOf g ?_);rw[if_pos (by decide)];refine wpAny_bind (HT.eo k pl l ?_);have b:(((HT.sIx items.size 0 lo:Nat):Int)==0&&(1:Int)==1&&(HT.sIx items.size items.size hi-HT.sIx items.size 0 lo)==items.size)=true:=by rw[hw.1,hw.2];simp
 show wpAny _ _ (if (((HT.sIx items.size 0 lo:Nat):Int)==0&&(1:Int)==1&&(HT.sIx items.size items.size hi-HT.sIx items.size 0 lo)==items.size)=true then _ else _) _ _ s;rw[if_pos b];refine wpAny_bind (m:=Builtin.Tuple.tupleIsExact (.ref t)) (wpAny_bind (wpAny_typeOf a.typeIs (wpAny_pure ?_)));rw[if_pos (by decide)]
 first
  |exact wpAny_bind (wpAny_rule (wpAny_pure ⟨_,rfl,wpAny_pure h⟩))
  |(refine wpAny_bind (wpAny_rule ?_);trace_state;exact wpAny_pure ⟨_,rfl,wpAny_pure h⟩)
end
end L2
variable {δ:L2.Ds} {gf:List PyData->L2.Rs PyData} {gs gl src:L2.Ds->L2.Rs (List PyData)}
namespace L2
open PySem PySem.Spec PyProof.Rows
section
variable {E:XK} {a b c:Expr} {ga gb gc:Ds->Rs PyData} {es:List Expr}
def xK (K:PySem.W.Frag):V->Option Int->Option Int->Hp->VK->Prop:=λx lo hi H Q=>∃a xs,x=.ref a/\SqT K H a xs/\(HT.sIx xs.length 0 lo=0/\HT.sIx xs.length xs.length hi=xs.length)/\Q (.ref a) H
theorem rA:SlR X (xK X.K):=by
 intro pins s σ H x v vl vu lo hi sl Q I e f pl g h;obtain⟨a,xs,rfl,i,hw,q⟩:=h;cases e;obtain⟨b,r,c,hz⟩:=I.tuple i;have hlen:b.toArray.size=xs.length:=by rw[A6,r.length]
 refine⟨"tuple",_,PyProof.Rows.slot_tuple_getitem.lookup,c.typeIs,?_⟩;exact fw c f pl g (by rw[hlen];exact hw) ⟨.ref a,H,I,rfl,q⟩
def cutD (xs:List PyData) (lo hi:Option Int):List PyData:=(xs.drop (HT.sIx xs.length 0 lo)).take (HT.sIx xs.length xs.length hi-HT.sIx xs.length 0 lo)
def sQ:PyData->Option Int->Option Int->Option PyData
 |.list x,lo,hi=>some (.list (cutD x lo hi))
 |.tuple x,lo,hi=>some (.tuple (cutD x lo hi))
 |_,_,_=>none
def qe:PyData->Rs (Option Int)
 |.int i=>.ok (some i)
 |_=>.no
def fm:Ds->Rs (Option Int):=λ_=>.ok none
def iC (g:Ds->Rs PyData):Ds->Rs (Option Int):=λδ=>(g δ).bind qe
def yS (E:XK) (H:Hp) (r:Rs (Option Int)) (Q:Option Int->Hp->Prop):Prop:=match r with
 |.ok o=>∀H',ak H H'->Q o H'
 |.rz C=>∀H',ak H H'->E (.ref C) none H'
 |.no=>False
def oD (K:PySem.W.Frag) (E:XK) (g:Ds->Rs (Option Int)):TO:=λσ H Q=>∃A δ,cj K H A δ σ/\yS E H (g δ) Q
def POD (X:Cx) (E:XK) (e:Option Expr) (g:Ds->Rs (Option Int)):Prop:=PO X e (oD X.K E g)
theorem PO.imp {e:Option Expr} {t t':TO} (h:PO X e t) (k:∀σ H Q,t' σ H Q->t σ H Q):PO X e t':=λpins s σ H Q I q=>h pins s σ H Q I (k σ H Q q)
theorem qR:POD X E none fm:=tT.imp λσ H Q a=>(by obtain⟨A,δ,R,o⟩:=a;exact o H (ak.refl _))
theorem rk (h:PD X E e ga):POD X E (some e) (iC ga):=(sr h).imp λσ H Q ⟨A,δ,R,o⟩=>⟨A,δ,R,by
 unfold iC at o;cases q:ga δ with
 |no=>rw[q]at o;exact o
 |rz C=>rw[q]at o;exact o
 |ok d =>
  rw[q]at o;cases d with
  |int i=>exact λv H' s h=>⟨i,h.ofInt,o H' s⟩
  |_=>exact o.elim⟩
theorem oD.run {g:Ds->Rs (Option Int)} {Q:Option Int->Hp->Prop} (R:cj K H A δ σ)
  (ok:∀d,g δ=.ok d->∀H',ak H H'->cj K H' A δ σ->Q d H') (rz:∀C,g δ=.rz C->∀H',ak H H'->E (.ref C) none H') (no:g δ=.no->False):oD K E g σ H Q:=by
 refine⟨A,δ,R,?_⟩;cases e:g δ with
 |ok d=>exact λH' s=>ok d e H' s (R.same s)
 |rz C=>exact λH' s=>rz C e H' s
 |no=>exact no e
def fK (g:Ds->Rs PyData) (lo hi:Ds->Rs (Option Int)):Ds->Rs PyData:=λδ=>(g δ).bind λd=>(lo δ).bind λl=>(hi δ).bind λh=>Rs.cN (sQ d l h)
theorem Iss.cut (h:Iss K H ds vs) (lo hi:Option Int):Iss K H (cutD ds lo hi) (lz vs lo hi):=by unfold cutD lz;rw[h.length];exact (h.drop _).take _
theorem pe {lo hi:Option Expr} {gl m:Ds->Rs (Option Int)} (s:PD X E e ga) (hl:POD X E lo gl) (t:POD X E hi m):PD X E (.Subscript e (.Slice lo hi none p2) pos) (fK ga gl m) :=
 (pj (rP.or (wo.or rA)) s hl t).imp λσ H Q j=>by
  obtain⟨A,δ,R,o⟩:=j;unfold fK at o;refine eD.run R (λd u v H1 k w hv=>?_) (λC a H' s'=>by rw[a]at o;exact o H' s') (λa=>by rw[a]at o;exact o);simp only[u,Rs.ag]at o;refine oD.run w (λl x H2 s2 R2=>?_) (λC a H' s'=>by rw[a]at o;exact o H' (k.trans s')) (λa=>by rw[a]at o;exact o);simp only[x,Rs.ag]at o;refine oD.run R2 (λh y H3 n r=>?_) (λC a H' s'=>by rw[a]at o;exact o H' (k.trans (s2.trans s'))) (λa=>by rw[a]at o;exact o);simp only[y,Rs.ag]at o;have f:=hv.same (s2.trans n).del;have b:=k.trans (s2.trans n);cases d with
  |list ds =>obtain⟨p,xs,rfl,g,c⟩:=f.ofLst;exact .inl ⟨p,xs,rfl,SqL.of (aq _ _ g),λq i=>o _ _ (b.trans (aS i)) (fu r.ls i (c.cut l h))⟩
  |tuple ds =>
   obtain⟨p,xs,rfl,g,c⟩:=f.ofTup;by_cases hw:HT.sIx xs.length 0 l=0/\HT.sIx xs.length xs.length h=xs.length
   ·refine .inr (.inr ⟨p,xs,rfl,SqT.of (aq _ _ g),hw,o _ _ b ?_⟩);have e:cutD ds l h=ds:=by unfold cutD;rw[<-c.length,hw.1,hw.2];simp[c.length]
    show Is X.K _ (.tuple (cutD ds l h)) _;rw[e];exact fL g c
   ·exact .inr (.inl ⟨p,xs,rfl,SqT.of (aq _ _ g),hw,λq i=>o _ _ (b.trans (aS i)) (fW r.ls i (c.cut l h))⟩)
  |_=>exact o.elim
def toV:PyData->V
 |.none=>.non
 |.bool b=>.bl b
 |.int i=>.int i
 |.str x=>.str x
 |_=>.non
def gH (f e:PyData->PyData->Option PyData) (a b c:Ds->Rs PyData):Ds->Rs PyData:=λδ=>(a δ).bind λx=>(b δ).bind λy=>(Rs.cN (f x y)).bind λz=>(truth z).bind λt=>if t=true then (c δ).bind λw=>Rs.cN (e y w) else .ok (.bool false)
theorem pT {k g:CmpOp} {r p:R2} {i:PyData->PyData->Option PyData} (y:OpR X (compareOp k) r) (l:OpR X (compareOp g) p) (B:OpD X.K f r) (m:OpD X.K i p) (ha:PD X E a ga) (D:PD X E b gb) (hc:PD X E c gc)
  (hm:lastMarks [k,g] [b,c]=false:=by with_unfolding_all rfl):PD X E (.Compare a [k,g] [b,c] pos) (gH f i ga gb gc):=(qL y l ha D hc hm).imp λσ H Q n=>by
 obtain⟨A,δ,R,o⟩:=n;unfold gH at o;refine eD.run R (λd1 e1 v H1 j F h1=>?_) (λC e H' s'=>by rw[e]at o;exact o H' s') (λe=>by rw[e]at o;exact o);simp only[e1,Rs.ag]at o;refine eD.run F (λd2 e2 u H2 s2 R2 h2=>?_) (λC e H' s'=>by rw[e]at o;exact o H' (j.trans s')) (λe=>by rw[e]at o;exact o);simp only[e2,Rs.ag]at o;cases e3:f d1 d2 with
 |none=>rw[e3]at o;exact o.elim
 |some z =>
  simp only[e3,Rs.ao,Rs.ag]at o;refine B d1 d2 z v u H2 A _ e3 R2.ls (h1.same s2.del) h2 λw G h I=>?_
  obtain⟨t,rfl,o⟩:=iJ o;refine⟨t,I.ofBool,?_⟩;cases t with
  |false=>exact o _ G (j.trans (s2.trans h)) is_bool
  |true =>
   have o:eS X.K E A H ((gc δ).bind λw=>Rs.cN (i d2 w)) Q:=o;refine eD.run (R2.same h) (λq J L M s N O=>?_) (λC e H' s'=>by rw[e]at o;exact o H' (j.trans (s2.trans (h.trans s')))) (λe=>by rw[e]at o;exact o);simp only[J,Rs.ag]at o;cases e5:i d2 q with
   |none=>rw[e5]at o;exact o.elim
   |some d=>rw[e5]at o;exact m d2 q d u L M A Q e5 N.ls (h2.same (h.trans s).del) O λx P S T=>o x P (j.trans (s2.trans (h.trans (s.trans S)))) T
theorem sI (ha:PD X E a ga) (e:PD X E b gb) (hc:PD X E c gc) (hm:lastMarks [.LtE,.LtE] [b,c]=false):PD X E (.Compare a [.LtE,.LtE] [b,c] pos) (gH dLe dLe ga gb gc):=pT mX mX (fJ λ_ _ _ _=>is_bool) (fJ λ_ _ _ _=>is_bool) ha e hc hm
end
section
variable {E:XK} {a b c:Expr}
def yO (i j c:Int):Nat:=(Builtin.Range.rangeSize i j c).toNat
noncomputable def vC (i j c:Int):Bool:=decide (-(1000000)<=i/\i<=1000000/\-(1000000)<=j/\j<=1000000/\-(1000000)<=c/\c<=1000000/\c≠0)&&Builtin.Range.small i j c
def uT (lo c:Int) (n:Nat):List PyData:=(List.range n).map λ(i:Nat)=>PyData.int (lo+(i:Int)*c)
def ya:List PyData->Rs (List PyData)
 |[.int i,.int j,.int c]=>if vC i j c then .ok (uT i c (yO i j c)) else .no
 |_=>.no
def xV (g:Ds->Rs (List PyData)):Ds->Rs (List PyData):=λδ=>(g δ).bind ya
def pq:List PyData->Rs (List PyData)
 |[.int j]=>if 0<=j/\j<=1000000 then .ok (bI 0 j.toNat) else .no
 |_=>.no
def gLR (g:Ds->Rs (List PyData)):Ds->Rs (List PyData):=λδ=>(g δ).bind pq
end
noncomputable def nh (ds:List PyData):List PyData:=ds.mapIdx λi d=>.tuple [.int i,d]
section
variable {E:XK} {a b c k:Expr} {ga gb gk:Ds->Rs PyData} {es:List Expr}
def j7:List PyData->Rs (List PyData)
 |[.list ds]=>.ok (nh ds)
 |[.tuple ds]=>.ok (nh ds)
 |_=>.no
def xw (g:Ds->Rs (List PyData)):Ds->Rs (List PyData):=λδ=>(g δ).bind j7
end
section
variable {prog:Program} {A:Around}
end
section
variable {E:XK} {a b c:Expr} {ga gb gc:Ds->Rs PyData} {es:List Expr}
end
open AutoSeq1 (wpAny_loadPart')
open SeqAt (EqAt)
section
variable {E:XK} {a o:Expr} {ga go:Ds->Rs PyData} {es:List Expr}
def pB (xs:List PyData) (y:PyData):Option PyData:=if bX y&&xs.all bX then ((xs.map toV).findIdx? λz=>eqV z (toV y)).map λj=>.int j else none
def yD (go ga:Ds->Rs PyData):Ds->Rs PyData:=λδ=>(go δ).bind λd=>match d with
 |.tuple xs=>(ga δ).bind λy=>Rs.cN (pB xs y)
 |_=>.no
end
end L2
namespace L2
open PySem PySem.Spec PyProof.Rows
section
variable {E:XK} {a:Expr} {es:List Expr}
end
section
variable {E:XK}
end
section
variable {E:XK} {a b c:Expr} {ga gb gc:Ds->Rs PyData}
end
section
variable {E:XK} {a:Expr} {es:List Expr}
end
section
variable {E:XK} {a:Expr}
def kT:List PyData->Rs (List PyData)
 |[.list x]=>.ok x
 |[.tuple x]=>.ok x
 |_=>.no
def nJ (g:Ds->Rs (List PyData)):Ds->Rs (List PyData):=λδ=>(g δ).bind kT
theorem jA {q:Addr} (c:H q=none):ak (del H A) (del (upd H q o) (q::A)):=λb u e=>by
 obtain⟨h1,h2⟩:=ba e;have a:b≠q:=λz=>by rw[z,c]at h2;cases h2
 rw[aP (λz=>(Aa.mp z).elim a h1),ay a];exact h2
theorem o1 (hm:X.mg "list"=none) (ha:PAD X E [a] gs) (j:Gl X "list") (k:starEach [a] X.env=(false,eval a X.env)::starEach [] X.env) :
  PLD X E (.Call (.Name "list" p) [a] [] pos) (nJ gs) :=
 (eC fY j hm jZ ha.1 (by decide) (by decide) k rfl).imp λσ H Q f=>by
  obtain⟨A,δ,R,o⟩:=f;unfold nJ at o;refine aD.run R (λds e vs H1 c R1 h1=>?_) (λC e H' s'=>by rw[e]at o;exact o H' s') (λe=>by rw[e]at o;exact o);simp only[e,Rs.ag]at o;unfold kT at o;split at o
  ·obtain⟨v,rfl,g⟩:=gI h1;obtain⟨p,xs,rfl,h,i⟩:=g.ofLst;exact⟨p,xs,rfl,.inl (SqL.of (aq _ _ h)),λq b=>o q _ _ (c.free b) (c.trans (aS b)) aV (i.same (jA b))⟩
  ·obtain⟨v,rfl,g⟩:=gI h1;obtain⟨p,xs,rfl,h,i⟩:=g.ofTup;exact⟨p,xs,rfl,.inr (SqT.of (aq _ _ h)),λq b=>o q _ _ (c.free b) (c.trans (aS b)) aV (i.same (jA b))⟩
  ·exact o.elim
end
end L2
namespace PyProof.Rows
open PySem
section
variable {prog:Program} {A:Around}
end
end PyProof.Rows
namespace L2
open PySem PySem.Spec PyProof.Rows
section
variable {E:XK} {a:Expr} {es:List Expr}
end
end L2
namespace L2
open PySem PySem.Spec PySem.Calls PyProof.Rows PySem.W PySem.Builtin PySem.Builtin.ObjectAttr PySem.Builtin.Getset_descriptor
section
variable {prog:Program} {A:Around} {K:Frag} {x:Addr} {ox:Obj}
structure jd (h:Heap) (x:Addr) (D:Addr):Prop where
 ex:∃o,h.get? x=some o/\o.cls=.ref D
theorem jd.type (I:jd h x D):Looks M h (typeOf (.ref x)) (.ref D):=by obtain⟨o,h1,h2⟩:=I.ex;exact h2▸(Looks.ld h1).andThen .now
theorem lK {R:Result->Shared->Prop} {a:Value} (X:K.In s.heap) (I:jd s.heap x D) (hm:mroIn K D (.type "object")=some true)
  (h:R (.ok (.ret (.ref D))) s):codeAny (model prog w) A (.call (.builtin "getset_descriptor.__get__") ⟨[.builtin "object.__class__",.ref x,a],[]⟩) R s:=by
 obtain⟨hh,g,dr,t,os⟩:=s;have L0:=I.type (M:=model prog w);have L1:=looks_mroIn (M:=model prog w) X hm;refine codeAny_call_builtin KF.slot_gs.plain KF.entry_gs (KF.slot_gs.check _ _ _ _ _ _ _ _ KF.type_class (KF.args_gs _ _ _) ?_);unfold Builtin.«getset_descriptor.__get__» descrGet;rw[dga_obj];refine wpAny_bind (wpAny_pure ?_);unfold descrGetter descrCheckInstance descrNameAndClass isInstance;simp only[KF.owner_class]
 repeat lk
 refine⟨Code.quiet_builtin _ (by decide +kernel),codeAny_builtin KF.entry_class ?_⟩;unfold Builtin.«object.__class__» shownTypeOf
 repeat lk
 exact h
structure jn (K:Frag) (D:Addr):Prop where
 ga:findIn K (.ref D) "__getattribute__"=some (some (.builtin "BaseException.__getattribute__"))
 gt:findIn K (.ref D) "__getattr__"=some none
 cl:hasDictIn K D=true
 ca:findIn K (.ref D) "__class__"=some (some (.builtin "object.__class__"))
 gs:specialIn K (.builtin "object.__class__") "__get__"=some (some (.builtin "getset_descriptor.__get__"))
 tk:takesIn K (.builtin "object.__class__")=some true
 ob:mroIn K D (.type "object")=some true
 be:mroIn K D (.type "BaseException")=some true
theorem qg (X:K.In h) (Z:jn K D):Looks M h (find (.ref x) (.ref D) "__class__") (.bind (.builtin "getset_descriptor.__get__") (.builtin "object.__class__")):=by have a:=looks_findIn (M:=M) X Z.ca;have L2:Looks M h (getOf (some (.builtin "object.__class__"))) _:=looks_specialIn X Z.gs;have b:=looks_takesIn (M:=M) X Z.tk;unfold find;refine a.andThen (L2.andThen ?_);refine (show Looks M h (dataDescriptor? (some (.builtin "object.__class__")) (some (.builtin "getset_descriptor.__get__"))) _ from b.andThen .now).andThen ?_;exact Looks.tag .now
theorem nL {tk:Tok} {Q:Fin->Shared->Prop} (X:K.In s.heap) (Z:jn K D) (I:jd s.heap x D) (a:Q (.done (.ret (.ref D))) s) :
  wpAny (model prog w) A (Builtin.«object.__getattribute__» ⟨[.ref x,.str "__class__" tk],[]⟩) Q E s:=by
 obtain⟨hh,g,d,t,os⟩:=s;have b:=I.type (M:=model prog w);have c:=qg (x:=x) (M:=model prog w) X Z;refine wpAny_bind (wpAny_pure (wpAny_bind (wpAny_pure (wpAny_bind (b.at (wpAny_bind (c.at ?_)))))));show wpAny _ _ (holding [Value.builtin "object.__class__"] (call (.builtin "getset_descriptor.__get__") [.builtin "object.__class__",.ref x,.ref D]) >>= ret) _ _ _;exact wpAny_bind (wpAny_holding (wpAny_call (lK X I Z.ob (wpAny_pure a))))
theorem nU {a:Value} {Q:Unit->Shared->Prop} (X:K.In s.heap) (Z:jn K D) (I:jd s.heap x D) (hq:Q () s):wpAny M A (checkBuiltinCall "BaseException.__getattribute__" ⟨[.ref x,a],[]⟩) Q E s:=by
 obtain⟨hh,g,d,t,os⟩:=s;have c:builtinKind "BaseException.__getattribute__"=some .slot:=by decide +kernel
 have b:splitId "BaseException.__getattribute__"=some ("BaseException", "__getattribute__"):=by decide +kernel
 have L0:=I.type (M:=M);have L1:=looks_mroIn (M:=M) X Z.be;have ha:=F.args_bexc_ga (.ref x) a;simp only[checkBuiltinCall,c,b];unfold isInstance
 repeat lk
 repeat (any_goals (first|assumption|wp_step))
theorem nK {Q:Option Value->Shared->Prop} (X:K.In s.heap) (Z:jn K D) (I:jd s.heap x D) (h:Q (some (.ref D)) { s with toks:=s.toks+1 }):wpAny (model prog w) A (getAttr? (.ref x) "__class__") Q E s:=by obtain⟨a,g,d,t,os⟩:=s;have b:=I.type (M:=model prog w);have c:=looks_findIn (M:=model prog w) X Z.ga;have L2:=looks_findIn (M:=model prog w) X Z.gt;unfold getAttr? getAttrBy? getAttrBy;refine wpAny_bind (wpAny_mkText (wpAny_bind (wpAny_attempt (wpAny_holding (wpAny_bind (b.at (wpAny_bind (c.at ?_))))))));show wpAny _ _ (getAttrByItsOwn _ _ _ _ _ _) _ _ _;unfold getAttrByItsOwn;refine wpAny_bind (show wpAny _ _ (typeLookup (.ref D) "__getattr__") _ _ _ from L2.at ?_);refine wpAny_bind (wpAny_attempt (wpAny_holding ?_));show wpAny _ _ (boundAndCalled _ _ _) _ _ _;unfold boundAndCalled;rw[F.excAttr_ValueError.ga.bind (.ref x)];refine wpAny_bind (wpAny_pure ?_);refine wpAny_call (codeAny_call_builtin F.excAttr_ValueError.ga.plain F.entry_bexc_ga (nU (s:=⟨a,g,d,t+1,os⟩) X Z I (nL (s:=⟨a,g,d,t+1,os⟩) X Z I ?_)));exact wpAny_pure (wpAny_pure h)
end
end L2
namespace L2
open PySem PySem.Spec PyProof.Rows
variable {b a:Expr}
theorem qC {x:Addr} (Z:jn K D):PySem.W.KitX K (.ref x) (.ref D) (λh=>jd h x D) where
 ty:=λ_ _ _ I=>I.type
 it:=λM h X _=>by
  obtain⟨cd,hc,_⟩:=PySem.W.any_some Z.cl;unfold PySem.W.clsIn at hc;split at hc
  ·rename_i a;intro A' Q' E' s' k q;unfold isType loadHead;exact wpAny_bind (wpAny_loadPart (k _ _ (X _ _ a)) (wpAny_pure q))
  ·cases hc
 ne:=λh c dd its n sl X b=>by
  obtain⟨cd,hc,_⟩:=PySem.W.any_some Z.cl;refine Bool.eq_false_iff.mpr λq=>?_
  obtain rfl:D=c:=Value.ref.inj (beq_iff_eq.mp q);unfold PySem.W.clsIn at hc;split at hc
  ·rename_i a;have z:=(X _ _ a).symm.trans b;cases z
  ·cases hc
 ca:=λX I k=>nK X Z I k
def vF:V->Value
 |.ref a=>.ref a
 |.ty T=>.type T
 |_=>.none
def lJ:V->Bool
 |.ref _=>true
 |.ty _=>true
 |_=>false
theorem sS {c:V} (h:lJ c=true) (r:RelV c u):u=vF c:=by cases c <;> first|exact r|cases h
section
variable {E:XK} {oe:Obj}
theorem mm (a:(ea,oe)∈X.pn) (f:oe.cls=.ref C) (Z:jn X.K C):eX X (.builtin "isinstance") (λxs H Q=>∃c b,xs=[.ref ea,c]/\lJ c=true/\PySem.W.kitOne X.K (.ref C) (vF c)=some b/\Q (.bl b) H):=by intro pins s σ H xs us Q I r h;obtain⟨c,b,rfl,hc,e,q⟩:=h;obtain⟨u,u2,rfl,g,i⟩:=vals2 r;cases g;rw[sS hc i];exact PySem.W.kia_one (qC Z) I.kIn ⟨oe,(I.pin (ea,oe) (Av _ a)).1,f⟩ e (λz=>nomatch z) λtk=>⟨.bl b,H,I.tok tk,rfl,q⟩
def tXe (i:Nat) (ea:Addr) (v:V):TE:=λσ H Q=>σ[i]?=some (some (.ref ea))/\Q v H
theorem pR {n:Str} {c:V} {b:Bool} {p1:Pos} (l:(ea,oe)∈X.pn) (m:oe.cls=.ref C) (Z:jn X.K C) (hm:X.mg "isinstance"=none) (hi:X.N[i]?=some n) (hc:PE X (.Name x p2) (tC c)) (a:lJ c=true) (e:PySem.W.kitOne X.K (.ref C) (vF c)=some b)
  (hv:Vis X.env.scope n:=by first|exact Or.inl rfl|exact Or.inr (Or.inl rfl)|exact Or.inr (Or.inr rfl)) (hd:(n==("__debug__":Str))=false:=by decide) (f:(n==("__classdict__":Str))=false:=by decide) (o:Gl X "isinstance":=by rfl)
  (k:starEach [.Name n p1,.Name x p2] X.env=(false,eval (.Name n p1) X.env)::starEach [.Name x p2] X.env:=by rfl)
  (g:starEach [.Name x p2] X.env=(false,eval (.Name x p2) X.env)::starEach [] X.env:=by rfl) (h:(backTo pos (starEach [.Name x p2] X.env)).any (·.1)=false:=by rfl) :
  PE X (.Call (.Name "isinstance" p) [.Name n p1,.Name x p2] [] pos) (tXe i ea (.bl b)) :=
 (da (mm l m Z) o hm jJ (bA (d7 hi hv hd f) (bA hc cR g) k) (by decide) (by decide) k h).imp λσ H Q j=>(by obtain⟨e1,q⟩:=j;exact⟨_,e1,c,b,rfl,a,e,q⟩)
theorem rW {b:BoolOp} (h:PE X a (tXe i ea v)):PE X (.BoolOp b [a] pos) (tXe i ea v):=pM h
theorem sO {rest:List Expr} {x y:Bool} (ha:PE X a (tXe i ea (.bl x))) (c:PE X (.BoolOp .And (b::rest) pos) (tXe i ea (.bl y))):PE X (.BoolOp .And (a::b::rest) pos) (tXe i ea (.bl (x&&y))) :=
 (pY ha c).imp λσ H Q ⟨e1,q⟩=>⟨e1,x,rfl,by cases x with|true=>exact⟨e1,q⟩|false=>exact q⟩
theorem sv {x:Bool} (ha:PE X a (tXe i ea (.bl x))) (hm:X.mg "int"=none) (e:Gl X "int":=by rfl) (c:starEach [a] X.env=(false,eval a X.env)::starEach [] X.env:=by rfl):PE X (.Call (.Name "int" p) [a] [] pos) (tXe i ea (.int (if x then 1 else 0))) :=
 (eC jx e hm mj (bA ha cR c) (by decide) (by decide) c rfl).imp λσ H Q b=>(by obtain⟨e1,q⟩:=b;exact⟨e1,.inr ⟨x,rfl,q⟩⟩)
def xU:R2:=λx y H Q=>∃s n,x=.str s/\y=.int n/\MulOk s n/\Q (.str (Txt.mul s n)) H
theorem sA:OpR X (binaryOp .Mult) xU:=by intro pins s σ H x y v u Q I a b h;obtain⟨z,n,rfl,rfl,hok,q⟩:=h;obtain⟨t,rfl⟩:=a;obtain⟨t2,rfl⟩:=b;exact SB.mul hok λt' k=>⟨.str _,H,I.tok k,⟨_,rfl⟩,q⟩
theorem sk {z:Str} {n:Int} {j:_} (c:PE X b (tXe i ea (.int n))) (hok:MulOk z n):PE X (.BinOp (.Constant (.str z) j p) .Mult b pos) (tXe i ea (.str (Txt.mul z n))) :=
 (cg sA p8 c).imp λσ H Q a=>(by obtain⟨e1,q⟩:=a;exact⟨e1,z,n,rfl,rfl,hok,q⟩)
def pG (C:Addr) (i:Nat) (gf:List PyData->Rs PyData) (gs:Ds->Rs (List PyData)) (d:PyData):Ds->Sr:=λδ=>if i<δ.length then (match gs δ with
 |.ok ds=>(match gf ds with
  |.ok v=>.rt v
  |.rz C'=>if C'=C then .rt d else .no
  |.no=>.no)
 |_=>.no) else .no
theorem rS {d:PyData} (h:bX d=true):Is K H d (toV d):=by
 cases d with
 |none=>exact is_none
 |bool b=>exact is_bool
 |int i=>exact bJ
 |str x=>exact l7
 |_=>cases h
theorem mH {f n:Str} {as:List Expr} {ex:Expr} {d:PyData} {Q I S b T:Pos} (D:fz X.prog X.w X.K X.mg X.base k f (a::as).length gf) (U:cE j X.A)
  (ha:PAD X.nox E (a::as) gs) (J:kc X.K X.mg x C) (W:X.N.Nodup) (c:bX d=true) (Y:∀ea oe,oe.cls=.ref C->PE (sui X ea oe) ex (tXe i ea (toV d))) (Z:k<=j:=by decide)
  (hf:X.env.frame=some X.env.locals:=by rfl) (g:∃out,X.stack=X.env::out:=by exact⟨_,rfl⟩) (hi:X.N[i]?=some n:=by rfl) (hl:X.env.scope.names.lookup n=some .local:=by rfl) (hg:Gl X x:=by rfl) (h:Gl X f:=by rfl)
  (l:(f==("__debug__":Str))=false:=by decide) (r:(x==("__debug__":Str))=false:=by decide) (he:starEach (a::as) X.env=(false,eval a X.env)::starEach as X.env:=by rfl) (s:(backTo I (starEach as X.env)).any (·.1)=false:=by rfl) :
  PSD X E O (.Try [.Return (some (.Call (.Name f p) (a::as) [] I)) S] [.ExceptHandler (some (.Name x Q)) (some n) [.Return (some ex) b] T] [] [] pos) (pG C i gf gs d):=by
 obtain⟨fa,fd,ps,F,hm,t,hb⟩:=D.ex;refine (lV (pX F (U.mono Z) h hm t hb .nil ha.1 l he s) hf g W hi hl hg J.m J.e (by decide) (λea oe L=>dX (fH (Y ea oe L))) r).imp λDn σ H y=>?_
 obtain⟨H0,A0,A,δ,R,o⟩:=y;unfold pG at o;split at o
 ·rename_i B;refine aD.run R.full (λds M vs H1 P R1 hv=>?_) (λC' G H' s'=>?_) (λG=>?_)
  ·simp only[M]at o;refine⟨A0,ds,R1.ls,by simpa using hv,ha.2 δ ds M,?_⟩;cases q:gf ds with
   |ok v=>rw[q]at o;exact λu H' s' hu=>o u H' (R.same.trans (P.trans s')) hu
   |rz C' =>
    rw[q]at o;intro H' s';simp only at o;split at o
    ·rename_i z;subst z;refine⟨rfl,λea oe hn L=>⟨?_,?_⟩⟩
     ·rw[Ap (by rw[<-R.len];exact B)]
     ·exact o _ H' (R.same.trans (P.trans s')) (rS c)
    ·exact o.elim
   |no=>rw[q]at o;exact o.elim
  ·simp only[G]at o;exact o.elim
  ·simp only[G]at o;exact o
 ·exact o.elim
theorem n8 (z:Str):MulOk z 1:=⟨by decide,λ_ h=>by simp at h,λ_ h=>by simp at h⟩
theorem oO {z:Str} {x:Bool} {j:_} (a:x=true) (c:PE X b (tXe i ea (.int (if x then 1 else 0)))):PE X (.BinOp (.Constant (.str z) j p) .Mult b pos) (tXe i ea (.str z)):=by subst a;exact sk (n:=1) c (n8 z)
theorem pb {Y:Cx}:(ea,oe)∈(sui Y ea oe).pn:=Ag _ (Aj.mpr rfl)
theorem jt:bootBuiltins "ValueError"=some (.type "ValueError"):=by decide +kernel
end
section
variable {E:XK} {oe:Obj}
end
section
variable {E:XK} {ga gb:Ds->Rs PyData} {es:List Expr}
def uz (C:Addr) (names:List Str):Sp:=λvs H Q _=>∃(x dx:Addr) (args:List V),vs=.ref x::args/\args.length=names.length/\H x=some (.ins C dx []) /\
 ∀H':Hp,(∀b,b≠x->H' b=H b)->H' x=some (.ins C dx (names.zip args))->Q .non H'
structure p5 (P:Program) (w:World) (K:PySem.W.Frag) (mg:Str->Option Value) (base:Heap) (k:Nat) (x:Str) (C:Addr) (names:List Str):Prop where
 ex:∃f fd ps,Mk K C f/\dj P w K mg base (CXW P w) k f fd ps (uz C names)/\Binds K fd ps []/\mg x=some (.ref C)
end
section
variable {prog:Program} {A:Around} {R:Result->Shared->Prop} {I:Addr} {wr:List Addr} {T:Nat->Value->Prop} {St:Nat->Heap->Prop} {dv:Value}
variable {l:Addr} {xs:Array (Int×Tok)}
end
section
variable {E:XK} {ga gb:Ds->Rs PyData} {es:List Expr}
end
section
variable {E:XK}
end
section
variable {E:XK}
end
structure qj (P:Program) (w:World) (K:PySem.W.Frag) (mg:Str->Option Value) (base:Heap) (k:Nat) (C:Addr) (m:Str) (n:Nat) (gf:List PyData->Rs PyData):Prop where
 ex:∃f fd ps,Cls K C/\Meth K C m f/\dj P w K mg base (CXW P w) k f fd ps (spD K n gf)/\Binds K fd ps []
section
variable {E:XK} {o:Expr} {es:List Expr} {ga:Ds->Rs PyData} {apos:Pos}
end
section
variable {E:XK}
end
section
end
section
variable {q l:Addr} {Φ:Hp->Prop} {κ:Nat->V->Hp->Prop} {lt:Nat->Nat->Bool} {R:Result->Shared->Prop}
end
section
variable {ta tb:TE}
end
section
end
section
variable {a:Addr}
noncomputable def lM:List (PyData×PyData)->Bool
 |[]=>true
 |(_,d)::r=>ax d&&lM r
def vP:List (PyData×PyData)->Option Int
 |(.str x,.int _)::(.str y,.int b)::r=>if x=""/\y="@"/\lM r then some b else none
 |_=>none
mutual
def objs:PyData->Bool
 |.list ds=>qE ds
 |.tuple ds=>qE ds
 |.dict kvs=>(vP kvs).isSome
 |_=>true
def qE:List PyData->Bool
 |[]=>true
 |d::ds=>objs d&&qE ds
end
end
section
variable {a:Addr}
end
section
variable {as:List Addr} {E:XK} {ss:List Stmt} {G G':Ds->Sr} {c:Expr} {ca:Ds->Rs Bool}
end
def wF (a:List (Str×PyData)):Bool:=lM (a.map λp=>(.str p.1,p.2))
section
variable {as:List Addr} {E:XK} {o value:Expr} {g:Ds->Rs PyData} {tpos:Pos} {f:Str}
end
def spM (K:PySem.W.Frag) (C:Addr) (g:List (Str×PyData)->Option (List (Str×PyData))):Sp:=λvs H Q E=>∃A a b c,vs=[.ref a]/\Ls H A/\Is K (del H A) (wV C a b) (.ref a)/\wF b=true/\b.length<1000/\g b=some c /\
 ∀H',ak (del H [a]) H'->Is K (del H' A) (wV C a c) (.ref a)->Q .non H'
structure qt (P:Program) (w:World) (K:PySem.W.Frag) (mg:Str->Option Value) (base:Heap) (k:Nat) (C:Addr) (m:Str) (g:List (Str×PyData)->Option (List (Str×PyData))):Prop where
 ex:∃f fd ps,Cls K C/\Meth K C m f/\dj P w K mg base (CXW P w) k f fd ps (spM K C g)/\Binds K fd ps []
section
variable {as:List Addr} {E:XK} {o:Expr} {apos spos:Pos} {m:Str} {g:List (Str×PyData)->Option (List (Str×PyData))}
end
section
variable {E:XK} {es:List Expr}
end
section
variable {E:XK} {ss:List Stmt}
end
section
variable {κ:Type} [DecidableEq κ]
end
section
variable {a:Addr}
end
section
variable {a:Addr} {y:V} {r:Value} {o:Option V} {A:Around}
end
section
variable {a:Addr} {kvs:List (Key×V)} {k:Key} {A:Around}
end
section
variable {o i value:Expr} {tpos:Pos} {td ty tv:TE}
end
section
end
section
variable {a:Addr} {y d:V} {r:Value} {o:Option V} {A:Around}
end
section
variable {o f:Expr} {apos:Pos} {td ty tx:TE}
end
section
variable {a:Addr} {kvs:List (Key×V)} {A:Around}
end
section
variable {a:Addr} {y:V} {A:Around}
end
section
end
section
variable {E:XK} {o f i' value:Expr} {go ge gf:Ds->Rs PyData} {apos:Pos}
end
section
variable {E:XK} {o f k value:Expr} {go ge gf gk gv:Ds->Rs PyData} {apos:Pos}
end
end L2
namespace RS
open PySem
set_option genInjectivity true in
structure Er where
 every:Int
 due:Int
 late:Int
 parts:List (Int×Option Int)
noncomputable def iG:Option Int->PyData
 |none=>.none
 |some i=>.int i
def bo (p:Int×Option Int):PyData:=.tuple [.int p.1,iG p.2]
def Er.d (e:Er):PyData:=.tuple [.int e.every,.int e.due,.int e.late,.tuple (e.parts.map bo)]
def aF (es:List Er):PyData:=.tuple (es.map Er.d)
noncomputable def isWhole (d:PyData) (lo hi:Int):Bool:=match d with
 |.int i=>decide (lo<=i)&&decide (i<=hi)
 |_=>false
noncomputable def bh (d:PyData) (lo hi:Int):Bool:=match d with
 |.tuple ds=>decide (lo<=(ds.length:Int))&&decide ((ds.length:Int)<=hi)
 |_=>false
def bK (d:PyData):Bool:=match d with
 |.tuple [a,b]=>isWhole a 1 20&&(match b with|.none=>true|b=>isWhole b 0 3)
 |_=>false
def fi (ds:List PyData):Bool:=match ds.getLast? with
 |some (.tuple [_,.none])=>true
 |_=>false
def b8 (d:PyData):Bool:=match d with
 |.tuple ds=>decide (1<=ds.length)&&decide (ds.length<=4)&&ds.all bK&&fi ds
 |_=>false
def aT (d:PyData):Bool:=match d with
 |.tuple [.int e,du,.int l,ps]=>decide (2<=e)&&decide (e<=60)&&(decide (0<=l)&&decide (l<=(if e-1<20 then e-1 else 20)))&&isWhole du 1 (e-l)&&b8 ps
 |_=>false
def cz (d:PyData):Bool:=match d with
 |.tuple ds=>decide (1<=ds.length)&&decide (ds.length<=6)&&ds.all aT
 |_=>false
structure Er.Ok (e:Er):Prop where
 e1:2<=e.every
 e2:e.every<=60
 l1:0<=e.late
 l2:e.late<=20
 l3:e.late<e.every
 d1:1<=e.due
 d2:e.due<=e.every-e.late
 p1:e.parts≠[]
 p2:e.parts.length<=4
 pl:∀p∈e.parts,1<=p.1/\p.1<=20/\∀t,p.2=some t->0<=t/\t<=3
 la:∀p,e.parts.getLast?=some p->p.2=none
theorem ou {p:Int×Option Int} (h1:1<=p.1) (h2:p.1<=20) (c:∀t,p.2=some t->0<=t/\t<=3):bK (bo p)=true:=by
 obtain⟨l,t⟩:=p;cases t with
 |none=>simp[bK,bo,iG,isWhole,h1,h2]
 |some t =>obtain⟨a,b⟩:=c t rfl;simp[bK,bo,iG,isWhole,h1,h2,a,b]
theorem kM {e:Er} (h:e.Ok):aT e.d=true:=by
 have f:(e.parts.map bo).all bK=true:=by rw[Ak];intro d hd;obtain⟨p,f,rfl⟩:=Ah.mp hd;obtain⟨a,b,c⟩:=h.pl p f;exact ou a b c
 have hl:fi (e.parts.map bo)=true:=by
  unfold fi;rw[List.getLast?_map];cases q:e.parts.getLast? with
  |none=>exact absurd (List.getLast?_eq_none_iff.mp q) h.p1
  |some p =>obtain⟨l,t⟩:=p;have:t=none:=h.la _ q;subst this;rfl
 have hn:1<=e.parts.length:=by
  cases q:e.parts with
  |nil=>exact absurd q h.p1
  |cons _ _=>simp
 have h1:=h.e1;have h2:=h.e2;have i:=h.l1;have h4:=h.l2;have h5:=h.l3;have j:=h.d1;have k:=h.d2;have m:=h.p2;have g:e.late<=if e.every-1<20 then e.every-1 else 20:=by split <;> omega
 simp[aT,Er.d,b8,isWhole,f,hl,hn,h1,h2,i,j,k,m,g]
theorem kD {es:List Er} (h1:1<=es.length) (h2:es.length<=6) (h:∀e∈es,e.Ok):cz (aF es)=true:=by
 have a:(es.map Er.d).all aT=true:=by rw[Ak];intro d hd;obtain⟨e,b,rfl⟩:=Ah.mp hd;exact kM (h e b)
 simp[cz,aF,h1,h2,a]
noncomputable def cellAt (ns:List Int) (k:Int):Int :=
 if k<(ns.length:Int) then ns.getD k.toNat 0 else if ns=[] then 0 else ns.getD (k % (ns.length:Int)).toNat 0*31+k
def oq (ns:List Int) (k:Int):Int:=(cellAt ns k+7919*k+1)*48271 % 2147483647
def mixed (ns:List Int) (k many:Int):Int:=(oq ns k*oq ns k+7*oq ns k+k) % 2147483629 % many
theorem sg (ns:List Int) (k:Int):0<=oq ns k:=Ay _ (by decide)
theorem tY (ns:List Int) (k:Int):oq ns k<2147483647:=Az _ (by decide)
theorem bt (ns:List Int) (k:Int) (h:0<many):0<=mixed ns k many:=Ay _ (by omega)
theorem bH (ns:List Int) (k:Int) (h:0<many):mixed ns k many<many:=Az _ h
def fD (i:Int):Option Int:=if i=0 then some 0 else if i=1 then some 1 else if i=2 then some 1 else if i=3 then some 0 else none
def cw (ns:List Int) (j:Int) (a:Bool):Int×Option Int:=(1+mixed ns j 40 % 4,if a then fD (mixed ns j 40 / 4 % 5) else none)
def d6 (ns:List Int) (at' every:Int):Int :=
 if every-1<mixed ns (at' + 1) 4*(if mixed ns (at' + 2) 3=0 then 1 else 0) then every-1 else mixed ns (at' + 1) 4*(if mixed ns (at' + 2) 3=0 then 1 else 0)
def gN (ns:List Int) (at' a:Int):Int:=if mixed ns (at' + 1) 3=0 then a-mixed ns (at' + 2) a else a
def mkE (ns:List Int) (at' top:Int) (a:Bool):Er where
 every:=3+mixed ns at' top
 late:=d6 ns at' (3+mixed ns at' top)
 due:=gN ns at' (3+mixed ns at' top-d6 ns at' (3+mixed ns at' top))
 parts:=((List.range (mixed ns (at' + 3) 3).toNat).map λ(k:Nat)=>cw ns (at' + 4+(k:Int)) a)++[(1+mixed ns (at' + 6) 3,none)]
def hU (ns:List Int) (at' most top:Int) (a:Bool):List Er:=(List.range (1+mixed ns at' most).toNat).map λ(k:Nat)=>mkE ns (at' + 1+7*(k:Int)) top a
theorem kP (ns:List Int) (at' every:Int) (h:3<=every):0<=d6 ns at' every/\d6 ns at' every<=3/\d6 ns at' every<every:=by
 have h1:=bt ns (at' + 1) (many:=4) (by decide);have h2:=bH ns (at' + 1) (many:=4) (by decide);unfold d6;generalize mixed ns (at' + 1) 4=x at *;by_cases hc:mixed ns (at' + 2) 3=0
 ·simp only[hc,if_true,Int.mul_one];split <;> omega
 ·simp only[hc,if_false,Int.mul_zero];split <;> omega
theorem rO (ns:List Int) (at' a:Int) (h:1<=a):1<=gN ns at' a/\gN ns at' a<=a:=by have h1:=bt ns (at' + 2) (many:=a) (by omega);have h2:=bH ns (at' + 2) (many:=a) (by omega);unfold gN;split <;> omega
theorem rQ (i t:Int) (h:fD i=some t):0<=t/\t<=1:=by
 unfold fD at h
 repeat' split at h
 all_goals (first|(cases h;decide)|cases h)
theorem qK (ns:List Int) (j:Int) (a:Bool):1<=(cw ns j a).1/\(cw ns j a).1<=4/\∀t,(cw ns j a).2=some t->0<=t/\t<=1:=by
 have h1:0<=mixed ns j 40 % 4:=Ay _ (by decide);have h2:mixed ns j 40 % 4<4:=Az _ (by decide);refine⟨by unfold cw;simp only;omega,by unfold cw;simp only;omega,λt h=>?_⟩;unfold cw at h;simp only at h;cases a with
 |false=>simp at h
 |true=>simp at h;exact rQ _ _ h
theorem uK (ns:List Int) (at' top:Int) (a:Bool) (h1:0<top) (h2:top<=58):(mkE ns at' top a).Ok:=by
 have a1:=bt ns at' h1;have a2:=bH ns at' h1;have l:=kP ns at' (3+mixed ns at' top) (by omega);have d:=rO ns at' (3+mixed ns at' top-d6 ns at' (3+mixed ns at' top)) (by omega);have n1:=bt ns (at' + 3) (many:=3) (by decide);have n2:=bH ns (at' + 3) (many:=3) (by decide);have n3:=bt ns (at' + 6) (many:=3) (by decide);have n4:=bH ns (at' + 6) (many:=3) (by decide);refine⟨?_,?_,l.1,?_,l.2.2,d.1,d.2,?_,?_,?_,?_⟩
 ·show 2<=3+mixed ns at' top;omega
 ·show 3+mixed ns at' top<=60;omega
 ·have:=l.2.1;show d6 ns at' (3+mixed ns at' top)<=20;omega
 ·simp[mkE]
 ·simp only[mkE,Al,A7,List.length_range,AM];omega
 ·intro p b;simp only[mkE,Aq,Ah,Aj]at b;rcases b with⟨k,_,rfl⟩|rfl
  ·have:=qK ns (at' + 4+(k:Int)) a;refine⟨this.1,by omega,λt c=>?_⟩;have:=this.2.2 t c;omega
  ·exact⟨by simp only;omega,by simp only;omega,λt c=>by cases c⟩
 ·intro p b;simp only[mkE,List.getLast?_append,List.getLast?_singleton,Option.some_or]at b;cases b;rfl
theorem qA (ns:List Int) (at' most top:Int) (a:Bool) (h:0<most):1<=(hU ns at' most top a).length/\((hU ns at' most top a).length:Int)<=most:=by have h1:=bt ns at' h;have h2:=bH ns at' h;simp only[hU,A7,List.length_range];omega
theorem rq (ns:List Int) (at' most top:Int) (a:Bool) (h1:0<top) (h2:top<=58):∀e∈hU ns at' most top a,e.Ok:=by intro e b;simp only[hU,Ah]at b;obtain⟨k,_,rfl⟩:=b;exact uK _ _ _ _ h1 h2
end RS
variable {es:List RS.Er}
namespace RS
open PySem L2
structure Cs where
 RankError:Addr
 NoErrands:Addr
 NoRanks:Addr
 NoComings:Addr
 NoErrand:Addr
 NoNumber:Addr
 TooLong:Addr
 NoText:Addr
 Holding:Addr
 Jobs:Addr
abbrev Gf:=List PyData->Rs PyData
def bP (K:PySem.W.Frag) (mg:Str->Option Value) (x:Str) (st:Stmt) (ps:List Str):Prop:=∃f fd,Fun K x x st f fd/\Binds K fd ps []/\mg x=some (.ref f)
def eM (cs:Cs):Ds->Sr :=
 (av (sIf (cOr (bY (gT (g1 (bQ "int") (af 0)))) (gT (g1 (bQ "bool") (af 0)))) (aX (gC (.bool false))) aY)
  (aX (gH dLe dLe (af 1) (af 0) (af 2))))
def eO (cs:Cs):Ds->Sr :=
 (aX (oR (g1 (bQ "tuple") (af 0)) (gH dLe dLe (af 1) (gF bj (ae (af 0) aj)) (af 2))))
def dw (cs:Cs) (ar aI:Gf):Ds->Sr :=
 (av (sIf (cOr (bY (gT (au aI (ae (af 0) (ae (gC (.int 2)) (ae (gC (.int 2)) aj)))))) (bY (gT (au ar (ae (g2 dIx (af 0) (gC (.int 0))) (ae (gC (.int 1)) (ae (gC (.int 20)) aj))))))) (aX (gC (.bool false))) aY)
  (aX (gOr (g1 rT (g2 dIx (af 0) (gC (.int 1)))) (au ar (ae (g2 dIx (af 0) (gC (.int 1))) (ae (gC (.int 0)) (ae (g2 eB (gC (.int 4)) (gC (.int 1))) aj)))))))
def c8 (cs:Cs) (aI a:Gf):Ds->Sr :=
 (av (sIf (cOr (bY (gT (au aI (ae (af 0) (ae (gC (.int 1)) (ae (gC (.int 4)) aj)))))) (bY (gT (gF iN (ae (gL (a3 1 (dg (af 0)) bq (au a (ae (af 1) aj)) bf)) aj))))) (aX (gC (.bool false))) aY)
  (aX (g1 rT (g2 dIx (g2 dIx (af 0) (g1 c9 (gC (.int 1)))) (gC (.int 1))))))
def bS (cs:Cs) (ar a aI:Gf):Ds->Sr :=
 (av (sIf (bY (gT (au aI (ae (af 0) (ae (gC (.int 4)) (ae (gC (.int 4)) aj)))))) (aX (gC (.bool false))) aY)
  (av (aJ [] 1 (g2 dIx (af 0) (gC (.int 0))))
  (av (aJ [] 2 (g2 dIx (af 0) (gC (.int 1))))
  (av (aJ [] 3 (g2 dIx (af 0) (gC (.int 2))))
  (av (sIf (bY (gT (au ar (ae (af 1) (ae (gC (.int 2)) (ae (gC (.int 60)) aj)))))) (aX (gC (.bool false))) aY)
  (av (sIf (bY (gT (au ar (ae (af 3) (ae (gC (.int 0)) (ae (gF i3 (ae (gC (.int 20)) (ae (g2 eB (af 1) (gC (.int 1))) aj))) aj)))))) (aX (gC (.bool false))) aY)
  (aX (oR (au ar (ae (af 2) (ae (gC (.int 1)) (ae (g2 eB (af 1) (af 3)) aj)))) (au a (ae (g2 dIx (af 0) (gC (.int 3))) aj))))))))))
def eu (cs:Cs) (aI a:Gf):Ds->Sr :=
 (av (sIf (cOr (bY (gT (au aI (ae (af 0) (ae (gC (.int 1)) (ae (gC (.int 6)) aj)))))) (bY (gT (gF iN (ae (gL (a3 1 (dg (af 0)) bq (au a (ae (af 1) aj)) bf)) aj))))) (eV cs.NoErrands (ae (gC (.str "errands are a tuple of 1 to 6 errands (every, due, late, parts)")) aj)) aY)
  (aX (af 0)))
def dm (cs:Cs) (ai:Gf):Ds->Sr :=
 (av (aJ [7] 4 (g2 aH (gC (.int 3)) (au ai (ae (af 0) (ae (af 1) (ae (af 2) aj))))))
  (av (aJ [7] 5 (g2 cK (au ai (ae (af 0) (ae (g2 aH (af 1) (gC (.int 1))) (ae (gC (.int 4)) aj)))) (gF oo (ae (g2 dEq (au ai (ae (af 0) (ae (g2 aH (af 1) (gC (.int 2))) (ae (gC (.int 3)) aj)))) (gC (.int 0))) aj))))
  (av (aJ [7] 5 (gF i3 (ae (af 5) (ae (g2 eB (af 4) (gC (.int 1))) aj))))
  (av (aJ [7] 6 (g2 eB (af 4) (af 5)))
  (av (sIf (gT (g2 dEq (au ai (ae (af 0) (ae (g2 aH (af 1) (gC (.int 1))) (ae (gC (.int 3)) aj)))) (gC (.int 0)))) (aJ [7] 6 (g2 eB (af 6) (au ai (ae (af 0) (ae (g2 aH (af 1) (gC (.int 2))) (ae (af 6) aj)))))) aY)
  (av (gD [7] 7 aj)
  (av (f7 [7] (fO (ae (au ai (ae (af 0) (ae (g2 aH (af 1) (gC (.int 3))) (ae (gC (.int 3)) aj)))) aj)) (bL 8) (av (aJ [7] 9 (au ai (ae (af 0) (ae (g2 aH (g2 aH (af 1) (gC (.int 4))) (af 8)) (ae (gC (.int 40)) aj)))))
  (av (fN [7] 7 (i5 (ae (g2 aH (gC (.int 1)) (g2 bc (af 9) (gC (.int 4)))) (ae (g2 dIx (dJ (ae (gC (.int 0)) (ae (gC (.int 1)) (ae (gC (.int 1)) (ae (gC (.int 0)) (ae (gC .none) aj)))))) (g2 bc (g2 cJ (af 9) (gC (.int 4))) (gC (.int 5)))) aj))))
  (sIf (bY (gT (af 3))) (jk 7 (g1 c9 (gC (.int 1))) (i5 (ae (g2 dIx (g2 dIx (af 7) (g1 c9 (gC (.int 1)))) (gC (.int 0))) (ae (gC .none) aj)))) aY))))
  (aX (i5 (ae (af 4) (ae (af 6) (ae (af 5) (ae (gF cQ (ae (g2 aH (af 7) (dJ (ae (i5 (ae (g2 aH (gC (.int 1)) (au ai (ae (af 0) (ae (g2 aH (af 1) (gC (.int 6))) (ae (gC (.int 3)) aj))))) (ae (gC .none) aj))) aj))) aj)) aj)))))))))))))
def cZ (cs:Cs) (a4 ai:Gf):Ds->Sr :=
 (av (aJ [] 5 (g2 aH (gC (.int 1)) (au ai (ae (af 0) (ae (af 1) (ae (af 2) aj))))))
  (aX (gF cQ (ae (gL (a3 6 (fO (ae (af 5) aj)) bq (au a4 (ae (af 0) (ae (g2 aH (g2 aH (af 1) (gC (.int 1))) (g2 cK (gC (.int 7)) (af 6))) (ae (af 3) (ae (af 4) aj))))) bf)) aj))))
end RS
set_option maxHeartbeats 1000000
namespace RS
open PySem L2
variable {g:PyData->Bool} {e:PyData} {b a:Int}
theorem tN (h:i∉O):(mask O δ)[i]?=δ[i]?:=by
 unfold mask;by_cases z:O=[]
 ·rw[if_pos z]
 ·rw[if_neg z,List.getElem?_mapIdx];cases δ[i]? with
  |none=>rfl
  |some d=>simp[h]
theorem aQ (h:i∉O):af i (mask O δ)=af i δ:=by unfold af;rw[tN h]
@[simp]theorem aM (d:PyData) (δ:Ds):af 0 (some d::δ)=.ok d:=rfl
@[simp]theorem aL (i:Nat) (x:Option PyData) (δ:Ds):af (i+1) (x::δ)=af i δ:=rfl
@[simp]theorem dP (d:PyData) (δ:Ds):gC d δ=.ok d:=rfl
@[simp]theorem hV (f:PyData->Option PyData) (a:Ds->Rs PyData) (δ:Ds):g1 f a δ=(a δ).bind λx=>Rs.cN (f x):=rfl
@[simp]theorem b9 (f:PyData->PyData->Option PyData) (a b:Ds->Rs PyData) (δ:Ds):g2 f a b δ=(a δ).bind λx=>(b δ).bind λy=>Rs.cN (f x y):=rfl
@[simp]theorem fI (f:List PyData->Option PyData) (a:Ds->Rs (List PyData)) (δ:Ds):gF f a δ=(a δ).bind λx=>Rs.cN (f x):=rfl
@[simp]theorem a5 (δ:Ds):aj δ=.ok []:=rfl
@[simp]theorem aB (a:Ds->Rs PyData) (r:Ds->Rs (List PyData)) (δ:Ds):ae a r δ=(a δ).bind λx=>(r δ).bind λxs=>.ok (x::xs):=rfl
@[simp]theorem mf (a:Ds->Rs (List PyData)) (δ:Ds):i5 a δ=(a δ).bind λds=>.ok (.tuple ds):=rfl
@[simp]theorem ir (a:Ds->Rs (List PyData)) (δ:Ds):dJ a δ=(a δ).bind λds=>.ok (.list ds):=rfl
@[simp]theorem bN (f:Gf) (a:Ds->Rs (List PyData)) (δ:Ds):au f a δ=(a δ).bind f:=rfl
@[simp]theorem cT (a:Ds->Rs PyData) (δ:Ds):gT a δ=(a δ).bind truth:=rfl
@[simp]theorem aU (b:Bool):truth (.bool b)=.ok b:=rfl
@[simp]theorem cP (a:Ds->Rs Bool) (δ:Ds):bY a δ=(a δ).bind λb=>.ok (!b):=rfl
@[simp]theorem pL (a b:Ds->Rs Bool) (δ:Ds):mr a b δ=(a δ).bind λx=>if x=true then b δ else .ok false:=rfl
@[simp]theorem fA (a b:Ds->Rs Bool) (δ:Ds):cOr a b δ=(a δ).bind λx=>if x=true then .ok true else b δ:=rfl
@[simp]theorem pA (a b:Ds->Rs PyData) (δ:Ds):oR a b δ=(a δ).bind λx=>(truth x).bind λt=>if t=true then b δ else .ok (.bool false):=rfl
@[simp]theorem yW (a b:Ds->Rs PyData) (δ:Ds):gOr a b δ=(a δ).bind λx=>(truth x).bind λt=>if t=true then .ok (.bool true) else b δ:=rfl
@[simp]theorem yK (a:Ds->Rs PyData) (δ:Ds):ym a δ=(a δ).bind λx=>(truth x).bind λt=>.ok (.bool (!t)):=rfl
@[simp]theorem lQ (a:Ds->Rs (List PyData)) (δ:Ds):gL a δ=(a δ).bind λds=>.ok (.list ds):=rfl
@[simp]theorem yB (a:Ds->Rs PyData) (δ:Ds):dg a δ=(a δ).bind nu:=rfl
@[simp]theorem yH (ds:List PyData):nu (.list ds)=.ok ds:=rfl
@[simp]theorem yI (ds:List PyData):nu (.tuple ds)=.ok ds:=rfl
@[simp]theorem kz (a:Ds->Rs (List PyData)) (δ:Ds):fO a δ=(a δ).bind tq:=rfl
@[simp]theorem yg (a:Ds->Rs (List PyData)) (δ:Ds):xM a δ=(a δ).bind xc:=rfl
@[simp]theorem yi (a:Ds->Rs (List PyData)) (δ:Ds):xV a δ=(a δ).bind ya:=rfl
@[simp]theorem yV (a:Ds->Rs (List PyData)) (δ:Ds):gLR a δ=(a δ).bind pq:=rfl
@[simp]theorem yf (a:Ds->Rs (List PyData)) (δ:Ds):xw a δ=(a δ).bind j7:=rfl
@[simp]theorem yh (ds:List PyData):j7 [.list ds]=.ok (nh ds):=rfl
@[simp]theorem yj (ds:List PyData):j7 [.tuple ds]=.ok (nh ds):=rfl
@[simp]theorem wW (f f':PyData->PyData->Option PyData) (a b c:Ds->Rs PyData) (δ:Ds):gH f f' a b c δ=(a δ).bind λx=>(b δ).bind λy=>(Rs.cN (f x y)).bind λz=>(truth z).bind λt=>if t=true then (c δ).bind λw=>Rs.cN (f' y w) else .ok (.bool false):=rfl
@[simp]theorem wC (δ:Ds):fm δ=.ok none:=rfl
@[simp]theorem ye (g:Ds->Rs PyData) (δ:Ds):iC g δ=(g δ).bind qe:=rfl
@[simp]theorem yd (i:Int):qe (.int i)=.ok (some i):=rfl
@[simp]theorem pE (g:Ds->Rs PyData) (lo hi:Ds->Rs (Option Int)) (δ:Ds):fK g lo hi δ=(g δ).bind λd=>(lo δ).bind λl=>(hi δ).bind λh=>Rs.cN (sQ d l h):=rfl
@[simp]theorem yl (x:List PyData) (lo hi:Option Int):sQ (.list x) lo hi=some (.list (cutD x lo hi)):=rfl
@[simp]theorem yo (x:List PyData) (lo hi:Option Int):sQ (.tuple x) lo hi=some (.tuple (cutD x lo hi)):=rfl
@[simp]theorem aK (a b:Ds->Sr) (δ:Ds):av a b δ=match a δ with|.nx δ'=>b δ'|r=>r:=rfl
@[simp]theorem sV (δ:Ds):aY δ=.nx δ:=rfl
@[simp]theorem de (c:Ds->Rs Bool) (a b:Ds->Sr) (δ:Ds):sIf c a b δ=ofR (c δ) λt=>if t=true then a δ else b δ:=rfl
@[simp]theorem cO (g:Ds->Rs PyData) (δ:Ds):aX g δ=ofR (g δ) .rt:=rfl
@[simp]theorem sZ (g:Ds->Rs PyData) (δ:Ds):jK g δ=ofR (g δ) λ_=>.nx δ:=rfl
@[simp]theorem nr (i:Nat) (g:Ds->Rs PyData) (δ:Ds):aJ [] i g δ=if i<δ.length then ofR (g δ) λd=>.nx (δ.set i (some d)) else .no:=by unfold aJ;rw[fh]
@[simp]theorem xm (C:Addr) (gs:Ds->Rs (List PyData)) (δ:Ds):eV C gs δ=ofR (gs δ) λ_=>.rz C:=rfl
theorem qk (O:List Nat) (src:Ds->Rs (List PyData)) (tgt:PyData->Ds->Option Ds) (body:Ds->Sr) (δ:Ds):f7 O src tgt body δ=ofR (src (mask O δ)) λds=>forL tgt body ds δ:=rfl
@[simp]theorem gM (d:PyData):a7 (.rt d)=.ok d:=rfl
@[simp]theorem wx (δ:Ds):a7 (.nx δ)=.ok .none:=rfl
@[simp]theorem wy (C:Addr):a7 (.rz C)=.rz C:=rfl
@[simp]theorem wz:a7 .no=.no:=rfl
@[simp]theorem cy (a b:Int):aH (.int a) (.int b)=some (.int (a+b)):=rfl
@[simp]theorem kS (a b:Int):eB (.int a) (.int b)=some (.int (a-b)):=rfl
@[simp]theorem eR (a b:Int):bc (.int a) (.int b)=if 0<b then some (.int (a % b)) else none:=rfl
@[simp]theorem ik (a b:Int):cJ (.int a) (.int b)=if 0<b/\b<1073741824 then some (.int (a / b)) else none:=rfl
@[simp]theorem vg (a b:Int):dLt (.int a) (.int b)=some (.bool (decide (a<b))):=rfl
@[simp]theorem yN (a b:Int):dLe (.int a) (.int b)=some (.bool (decide (a<=b))):=rfl
@[simp]theorem wm (a b:Int):dGt (.int a) (.int b)=some (.bool (decide (b<a))):=rfl
@[simp]theorem y4 (a b:Int):dGe (.int a) (.int b)=some (.bool (decide (b<=a))):=rfl
@[simp]theorem uh (a:Int):c9 (.int a)=some (.int (-a)):=rfl
@[simp]theorem yU (d:PyData):rT d=some (.bool (dk d)):=rfl
@[simp]theorem yP (d:PyData):xW d=some (.bool (!dk d)):=rfl
@[simp]theorem wZ:dk .none=true:=rfl
@[simp]theorem wA (i:Int):dk (.int i)=false:=rfl
@[simp]theorem yX (x:List PyData) (i:Int):dIx (.tuple x) (.int i)=atI x i:=rfl
@[simp]theorem oP (x:List PyData) (i:Int):dIx (.list x) (.int i)=atI x i:=rfl
@[simp]theorem wd (x:List PyData):bj [.tuple x]=some (.int x.length):=rfl
@[simp]theorem qd (x:List PyData):bj [.list x]=some (.int x.length):=rfl
@[simp]theorem uF (a b:Int):i3 [.int a,.int b]=some (.int (if b<a then b else a)):=rfl
@[simp]theorem qT (a b:Int):dC [.int a,.int b]=some (.int (if b>a then b else a)):=rfl
@[simp]theorem uZ (b:Bool):oo [.bool b]=some (.int (if b then 1 else 0)):=rfl
@[simp]theorem vp (x:List PyData):cQ [.list x]=some (.tuple x):=rfl
@[simp]theorem yQ (x:List PyData):cQ [.tuple x]=some (.tuple x):=rfl
@[simp]theorem nA (a b:Int):dEq (.int a) (.int b)=some (.bool (a==b)):=by
 have h:∀i:Int,PySem.SeqAt.shaped (.int i)=true:=λi=>by simp[PySem.SeqAt.shaped,PyData.canLay0,PyData.depth]
 unfold dEq;rw[h,h];simp[ax,PyData.eqv]
@[simp]theorem uf (a b:Int):dNe (.int a) (.int b)=some (.bool (!(a==b))):=by
 have h:∀i:Int,PySem.SeqAt.shaped (.int i)=true:=λi=>by simp[PySem.SeqAt.shaped,PyData.canLay0,PyData.depth]
 unfold dNe;rw[h,h];simp[ax,PyData.eqv]
theorem iM {xs:List α} {i:Int} (h:i=j):atI xs i=xs[j]?:=by
 subst h;unfold atI ixN;by_cases z:(j:Int)<xs.length
 ·rw[if_pos (by omega),if_pos z];simp
 ·rw[if_pos (by omega),if_neg z];simp;omega
@[simp]theorem yZ (xs:List α):atI xs 0=xs[0]?:=iM (j:=0) rfl
@[simp]theorem y3 (xs:List α):atI xs 1=xs[1]?:=iM (j:=1) rfl
@[simp]theorem yY (xs:List α):atI xs 2=xs[2]?:=iM (j:=2) rfl
@[simp]theorem zb (xs:List α):atI xs 3=xs[3]?:=iM (j:=3) rfl
theorem gj (xs:List α):atI xs (-1)=xs.getLast?:=by
 unfold atI ixN;rw[if_neg (by decide)];by_cases z:xs=[]
 ·subst z;rfl
 ·have:0<xs.length:=Ba.mpr z;rw[if_pos (by omega),List.getLast?_eq_getElem?];simp only[Option.bind_some];congr 1;omega
theorem fg (g:α->Bool) (xs:List α):iN [.list (xs.map λd=>.bool (g d))]=some (.bool (xs.all g)):=by
 have a:ef (xs.map λd=>PyData.bool (g d))=some (xs.map g):=by rw[show (xs.map λd=>PyData.bool (g d))=(xs.map g).map PyData.bool by rw[AK];rfl];exact iu _
 show (ef (xs.map λd=>PyData.bool (g d))).map (λns=>PyData.bool (ns.all id))=_;rw[a,Option.map_some,List.all_map];rfl
theorem comp_map {elt:Ds->Rs PyData} {δ:Ds} {f:PyData->PyData}:∀(ds:List PyData),(∀d∈ds,elt (δ++[some d])=.ok (f d))->bO bq elt bf δ ds=.ok (ds.map f)
 |[],_=>rfl
 |d::r,h=>by unfold bO;simp only[bf,bq,Rs.cW,Rs.ag,if_true,h d Ad,comp_map r λe a=>h e (Ab _ a),Au]
theorem bW {elt:Ds->Rs PyData} {f:PyData->PyData} (hn:δ.length=n0) (a:src δ=.ok ds) (hl:ds.length<=1000000) (h:∀d∈ds,elt (δ++[some d])=.ok (f d)) :
  a3 n0 src bq elt bf δ=.ok (ds.map f):=by
 unfold a3;rw[if_pos hn,a];simp only[Rs.ag,if_pos hl];exact comp_map ds h
theorem iE:∀{ds:List PyData},df ds=true->∀d∈ds,ax d=true
 |[],_,d,hd=>by cases hd
 |e::r,h,d,hd=>by
  unfold df at h;obtain⟨h1,h2⟩:=AH.mp h;rcases Aa.mp hd with z|z
  ·rw[z];exact h1
  ·exact iE h2 d z
theorem cB (h:ax (.tuple ds)=true):∀d∈ds,ax d=true:=by unfold ax at h;exact iE h
def ar:Gf
 |[d,.int a,.int b]=>if ax d then .ok (.bool (isWhole d a b)) else .no
 |_=>.no
theorem kB {f:PyData->Int->Int->Rs PyData} (h:(match ds with|[c,.int a,.int b]=>f c a b|_=>.no)≠.no):∃c a b,ds=[c,.int a,.int b]/\f c a b≠.no:=by
 rcases ds with _|⟨c,_|⟨a,_|⟨b,_|⟨y,ys⟩⟩⟩⟩
 ·exact absurd rfl h
 ·exact absurd rfl h
 ·first|exact absurd rfl h|(cases a <;> exact absurd rfl h)
 ·skip
  cases a with
  |int a =>
   cases b with
   |int b =>exact⟨_,_,_,rfl,h⟩
   |_=>exact absurd rfl h
  |_=>first|exact absurd rfl h|(cases b <;> exact absurd rfl h)
 ·first|exact absurd rfl h|(cases a <;> first|exact absurd rfl h|(cases b <;> exact absurd rfl h))
abbrev LLq (G:Ds->Sr) (n k:Nat) (g:Gf):Prop:=∀ds,ds.length=n->g ds≠.no->a7 (G (ds.map some++List.replicate k none))=g ds
theorem lR (cs:Cs):LLq (eM cs) 3 0 ar:=by
 intro ds hl c;obtain⟨d,a,b,f,e⟩:=kB c;clear c;subst f;have c:=e;clear e;unfold ar
 ·skip
  split at c
  ·rename_i hd;simp only[hd,if_true];cases d with
   |int i=>by_cases h:a<=i <;> simp[eM,bQ,hd,j4,tyD,isWhole,h]
   |dict _=>simp[ax]at hd
   |_=>simp[eM,bQ,hd,j4,tyD,isWhole]
  ·exact absurd rfl c
def aI:Gf
 |[d,.int a,.int b]=>if ax d then .ok (.bool (bh d a b)) else .no
 |_=>.no
theorem me (cs:Cs):LLq (eO cs) 3 0 aI:=by
 intro ds hl c;obtain⟨d,a,b,f,e⟩:=kB c;clear c;subst f;have c:=e;clear e;unfold aI
 ·skip
  split at c
  ·rename_i hd;simp only[hd,if_true];cases d with
   |tuple x=>by_cases h:a<=(x.length:Int) <;> simp[eO,bQ,hd,j4,tyD,bh,h]
   |dict _=>simp[ax]at hd
   |_=>simp[eO,bQ,hd,j4,tyD,bh]
  ·exact absurd rfl c
def dh (g:PyData->Bool):Gf
 |[d]=>if ax d then .ok (.bool (g d)) else .no
 |_=>.no
theorem iW (h:dh g ds≠.no):∃d,ds=[d]/\ax d=true/\dh g ds=.ok (.bool (g d)):=by
 unfold dh at h ⊢;split at h
 ·rename_i d;split at h
  ·rename_i hd;exact⟨d,rfl,hd,by simp[hd]⟩
  ·exact absurd rfl h
 ·exact absurd rfl h
theorem iz {d:PyData} (h:ax d=true):dh g [d]=.ok (.bool (g d)):=by unfold dh;simp[h]
@[simp]theorem wB {d:PyData} (h:ax d=true):aI [d,.int a,.int b]=.ok (.bool (bh d a b)):=by unfold aI;simp[h]
@[simp]theorem gZ {d:PyData} (h:ax d=true):ar [d,.int a,.int b]=.ok (.bool (isWhole d a b)):=by unfold ar;simp[h]
theorem k8 {d:PyData} (h:bh d 2 2=true):∃a b,d=.tuple [a,b]:=by
 cases d with
 |tuple ds =>
  simp[bh]at h
  match ds,h with
  |[a,b],_=>exact⟨a,b,rfl⟩
  |[],h=>simp at h
  |[_],h=>simp at h
  |_::_::_::_,h=>simp at h;omega
 |_=>cases h
theorem oM (cs:Cs):LLq (dw cs ar aI) 1 0 (dh bK):=by
 intro ds hl c;obtain⟨d,rfl,hd,e⟩:=iW c;rw[e];cases e1:bh d 2 2 with
 |false =>
  have:bK d=false:=by
   unfold bK;split
   ·simp[bh]at e1
   ·rfl
  simp[dw,hd,e1,this]
 |true =>
  obtain⟨a,b,rfl⟩:=k8 e1;have ha:=cB hd a (by simp);have f:=cB hd b (by simp);cases e2:isWhole a 1 20 with
  |false=>simp[dw,hd,ha,e1,e2,bK]
  |true =>
   cases b with
   |none=>simp[dw,hd,ha,e1,e2,bK]
   |_=>simp[dw,hd,ha,f,e1,e2,bK,dk]
theorem kY (cs:Cs):LLq (c8 cs aI (dh bK)) 1 0 (dh b8):=by
 intro ds hl c;obtain⟨d,rfl,hd,e⟩:=iW c;rw[e];cases e1:bh d 1 4 with
 |false =>
  have:b8 d=false:=by
   cases d with
   |tuple ds =>simp only[bh,Ax,decide_eq_false_iff_not]at e1;simp only[b8,Ax,decide_eq_false_iff_not];refine .inl (.inl ?_);omega
   |_=>rfl
  simp[c8,hd,e1,this]
 |true =>
  obtain⟨xs,rfl⟩:∃ds,d=.tuple ds:=by cases d <;> first|exact⟨_,rfl⟩|cases e1
  have hn:1<=xs.length/\xs.length<=4:=by simp only[bh,A3,decide_eq_true_eq]at e1;omega
  have hc:a3 1 (dg (af 0)) bq (au (dh bK) (ae (af 1) aj)) bf [some (.tuple xs)]=.ok (xs.map λd=>.bool (bK d)) :=
   bW rfl rfl (by omega) λd h=>by simp[iz (cB hd d h)]
  have k:=fg bK xs;cases e2:xs.all bK with
  |false=>simp[c8,hd,e1,hc,k,e2,b8]
  |true =>
   have c:xs≠[]:=by intro z;subst z;simp at hn
   have f:xs.getLast?=some (xs.getLast c):=List.getLast?_eq_some_getLast c;have g:=Ak.mp e2 _ (List.getLast_mem c);obtain⟨a,b,i⟩:∃a b,xs.getLast c=.tuple [a,b]:=by
    revert g;generalize xs.getLast c=z;intro g;unfold bK at g;split at g
    ·exact⟨_,_,rfl⟩
    ·cases g
   rw[i]at f;have j:fi xs=dk b:=by unfold fi;rw[f];cases b <;> rfl
   simp[c8,hd,e1,hc,k,e2,b8,gj,f,j,hn.1,hn.2]
theorem kl {d:PyData} (h:bh d 4 4=true):∃a b c e,d=.tuple [a,b,c,e]:=by
 cases d with
 |tuple ds =>
  simp[bh]at h
  match ds,h with
  |[a,b,c,e],_=>exact⟨a,b,c,e,rfl⟩
  |[],h=>simp at h
  |[_],h=>simp at h
  |[_,_],h=>simp at h
  |[_,_,_],h=>simp at h
  |_::_::_::_::_::_,h=>simp at h;omega
 |_=>cases h
theorem gP {d:PyData} (h:isWhole d a b=true):∃i,d=.int i/\a<=i/\i<=b:=by
 cases d with
 |int i=>simp[isWhole]at h;exact⟨i,rfl,h⟩
 |_=>cases h
theorem i9 {a b c:PyData} (h:isWhole a 2 60=false):aT (.tuple [a,b,c,e])=false:=by
 cases a with
 |int i =>
  cases c with
  |int l =>simp only[isWhole,Ax,decide_eq_false_iff_not]at h;simp only[aT,Ax,decide_eq_false_iff_not];omega
  |_=>rfl
 |_=>rfl
theorem jh {b c:PyData} {i:Int} (h:isWhole c 0 (if i-1<20 then i-1 else 20)=false):aT (.tuple [.int i,b,c,e])=false:=by
 cases c with
 |int l =>simp only[isWhole,Ax,decide_eq_false_iff_not]at h;simp only[aT,Ax,decide_eq_false_iff_not];exact .inl (.inl (.inr h))
 |_=>rfl
theorem jv {b:PyData} {i l:Int} (h1:2<=i/\i<=60) (h2:0<=l/\l<=if i-1<20 then i-1 else 20):aT (.tuple [.int i,b,.int l,e])=(isWhole b 1 (i-l)&&b8 e):=by simp[aT,h1.1,h1.2,h2.1,h2.2]
theorem kI (cs:Cs):LLq (bS cs ar (dh b8) aI) 1 3 (dh aT):=by
 intro ds hl h;obtain⟨d,rfl,hd,e⟩:=iW h;rw[e];cases e1:bh d 4 4 with
 |false =>
  have:aT d=false:=by
   unfold aT;split
   ·simp[bh]at e1
   ·rfl
  simp[bS,hd,e1,this]
 |true =>
  obtain⟨a,b,c,q,rfl⟩:=kl e1;have ha:=cB hd a (by simp);have g:=cB hd b (by simp);have hc:=cB hd c (by simp);have f:=cB hd q (by simp);cases e2:isWhole a 2 60 with
  |false=>simp[bS,hd,ha,g,hc,f,e1,e2,i9 e2]
  |true =>
   obtain⟨i,rfl,i1,i2⟩:=gP e2;cases e3:isWhole c 0 (if i-1<20 then i-1 else 20) with
   |false=>simp[bS,hd,ha,g,hc,f,e1,e2,e3,jh e3]
   |true =>
    obtain⟨l,rfl,l1,l2⟩:=gP e3;have j:=jv (b:=b) (e:=q) ⟨i1,i2⟩ ⟨l1,l2⟩;cases e4:isWhole b 1 (i-l) with
    |false=>simp[bS,hd,ha,g,hc,f,e1,e2,e3,e4,j]
    |true=>simp[bS,hd,ha,g,hc,f,e1,e2,e3,e4,j,iz f]
def aW (cs:Cs):Gf
 |[d]=>if ax d then (if cz d then .ok d else .rz cs.NoErrands) else .no
 |_=>.no
theorem n5 (cs:Cs):LLq (eu cs aI (dh aT)) 1 0 (aW cs):=by
 intro ds hl a;obtain⟨d,rfl⟩:∃d,ds=[d]:=by
  match ds,hl with
  |[d],_=>exact⟨d,rfl⟩
 have hd:ax d=true:=by
  unfold aW at a;by_cases z:ax d=true
  ·exact z
  ·simp[z]at a
 have e:aW cs [d]=if cz d then .ok d else .rz cs.NoErrands:=by unfold aW;simp[hd]
 rw[e];cases e1:bh d 1 6 with
 |false =>
  have:cz d=false:=by
   cases d with
   |tuple ds =>simp only[bh,Ax,decide_eq_false_iff_not]at e1;simp only[cz,Ax,decide_eq_false_iff_not];refine .inl ?_;omega
   |_=>rfl
  simp[eu,hd,e1,this]
 |true =>
  obtain⟨xs,rfl⟩:∃ds,d=.tuple ds:=by cases d <;> first|exact⟨_,rfl⟩|cases e1
  have hn:1<=xs.length/\xs.length<=6:=by simp only[bh,A3,decide_eq_true_eq]at e1;omega
  have hc:a3 1 (dg (af 0)) bq (au (dh aT) (ae (af 1) aj)) bf [some (.tuple xs)]=.ok (xs.map λd=>.bool (aT d)) :=
   bW rfl rfl (by omega) λd b=>by simp[iz (cB hd d b)]
  have c:=fg aT xs;cases e2:xs.all aT with
  |false=>simp[eu,hd,e1,hc,c,e2,cz]
  |true=>simp[eu,hd,e1,hc,c,e2,cz,hn.1,hn.2]
theorem ip {β:Type} {tgt:PyData->Ds->Option Ds} {body:Ds->Sr} (inv:Nat->Ds->Prop):∀(ds:List PyData) (k:Nat),(∀(i:Nat) d δ,ds[i]?=some d->inv (k+i) δ->∃c a,tgt d δ=some c/\body c=.nx a/\inv (k+i+1) a) ->
  ∀δ,inv k δ->∃b,forL tgt body ds δ=.nx b/\inv (k+ds.length) b
 |[],k,_,δ,h=>⟨δ,rfl,h⟩
 |d::r,k,hs,δ,h=>by
  obtain⟨c,a,e1,e2,h2⟩:=hs 0 d δ rfl h;obtain⟨b,e,f⟩:=ip (β:=β) inv r (k+1) (λi x δ g hi=>by have:=hs (i+1) x δ (by simpa using g) (by rw[show k+(i+1)=k+1+i by omega];exact hi);rw[show k+1+i+1=k+(i+1)+1 by omega];exact this) a h2
  exact⟨b,by unfold forL;rw[e1];simp only[e2];exact e,by rw[AV,show k+(r.length+1)=k+1+r.length by omega];exact f⟩
noncomputable def rd:PyData->Option Int
 |.int i=>some i
 |_=>none
def ee:PyData->Int×Option Int
 |.tuple [.int l,t]=>(l,rd t)
 |_=>(0,none)
def deE:PyData->Er
 |.tuple [.int e,.int d,.int l,.tuple ps]=>⟨e,d,l,ps.map ee⟩
 |_=>⟨0,0,0,[]⟩
theorem oS (e:Int) (d:Int) (l:Int) (ps:List PyData):deE (.tuple [.int e,.int d,.int l,.tuple ps])=⟨e,d,l,ps.map ee⟩:=rfl
theorem mw (o:Option Int):rd (iG o)=o:=by cases o <;> rfl
theorem pz (p:Int×Option Int):ee (bo p)=p:=by obtain⟨l,t⟩:=p;simp[bo,ee,mw]
theorem ur (e:Er):deE e.d=e:=by
 obtain⟨a,b,c,ps⟩:=e;simp[Er.d,oS,AK]
 conv=>rhs;rw[<-B2 ps]
 exact AX λp _=>pz p
def deI:PyData->Int
 |.int i=>i
 |_=>0
def oQ (ns:List Int):PyData:=.tuple (ns.map .int)
structure uk (n:Nat) (rs:List Int):Prop where
 len:rs.length=n
 rng:∀r∈rs,0<=r/\r<n
 nd:rs.Nodup
noncomputable def fe:PyData->Bool
 |.tuple [.int l,b]=>decide (0<=l)&&decide (l<=1000000)&&(match b with|.none=>true|.int t=>decide (0<=t)&&decide (t<=3)|_=>false)
 |_=>false
def nM:PyData->Bool
 |.tuple [.int e,.int _,.int l,.tuple ps]=>decide (1<=e)&&decide (e<1073741824)&&decide (-1000000000<=l)&&decide (l<=1000000000)&&decide (ps.length<=1000)&&ps.all fe
 |_=>false
structure Er.Sh (e:Er):Prop where
 e1:1<=e.every
 e2:e.every<1073741824
 l1:-1000000000<=e.late
 l2:e.late<=1000000000
 pn:e.parts.length<=1000
 pl:∀p∈e.parts,0<=p.1/\p.1<=1000000/\∀t,p.2=some t->0<=t/\t<=3
theorem jQ {d:PyData} (h:fe d=true):bo (ee d)=d/\0<=(ee d).1/\(ee d).1<=1000000/\∀t,(ee d).2=some t->0<=t/\t<=3:=by
 unfold fe at h;split at h
 ·rename_i l b;simp only[A3,decide_eq_true_eq]at h;obtain⟨⟨h1,h2⟩,a⟩:=h;cases b with
  |none=>exact⟨rfl,h1,h2,λt q=>by cases q⟩
  |int t =>simp only[A3,decide_eq_true_eq]at a;exact⟨rfl,h1,h2,λt q=>by cases q;exact a⟩
  |_=>cases a
 ·cases h
theorem ua {d:PyData} (h:nM d=true):(deE d).d=d/\(deE d).Sh:=by
 unfold nM at h;split at h
 ·rename_i e du l ps;simp only[A3,decide_eq_true_eq]at h;obtain⟨⟨⟨⟨⟨h1,h2⟩,a⟩,b⟩,g⟩,i⟩:=h;have f:=Ak.mp i;have j:ps.map (bo∘ee)=ps:=by
   conv=>rhs;rw[<-B2 ps]
   exact AX λp c=>(jQ (f p c)).1
  refine⟨by simp only[oS,Er.d,AK,j],h1,h2,a,b,by simpa[oS] using g,λp c=>?_⟩;obtain⟨q,k,rfl⟩:=Ah.mp (show p∈ps.map ee from c);exact (jQ (f q k)).2
 ·cases h
theorem m6 {e:Er} (h:e.Sh):nM e.d=true:=by
 unfold nM Er.d;simp only[h.e1,h.e2,h.l1,h.l2,decide_true,AS,A7,h.pn];rw[Ak];intro d hd;obtain⟨p,f,rfl⟩:=Ah.mp hd;obtain⟨a,b,c⟩:=h.pl p f;obtain⟨l,t⟩:=p;cases t with
 |none=>simp at a b;simp[fe,bo,iG,a,b]
 |some t=>have:=c t rfl;simp at a b;simp[fe,bo,iG,a,b,this.1,this.2]
theorem Er.Ok.sh {e:Er} (h:e.Ok):e.Sh:=⟨by have:=h.e1;omega,by have:=h.e2;omega,by have:=h.l1;omega,by have:=h.l2;omega,by have:=h.p2;omega,λp f=>by obtain⟨a,b,c⟩:=h.pl p f;exact⟨by omega,by omega,c⟩⟩
noncomputable def er0:Er:=⟨1,1,0,[]⟩
def lr (es:List Er) (n:Int):Er:=es.getD n.toNat er0
theorem ja {n:Int} (h0:0<=n) (h1:n<es.length):es[n.toNat]?=some (lr es n):=by unfold lr;rw[AG,A5 (by omega)];rfl
theorem p7 {n:Int} (a:0<=n) (h1:n<es.length):lr es n∈es:=AA (ja a h1)
theorem rH {n:Int} (a:0<=n) (h1:n<es.length):atI (es.map Er.d) n=some (lr es n).d:=by rw[iM (j:=n.toNat) (by omega),An,ja a h1];rfl
theorem u6 (p:Int×Option Int):dIx (bo p) (.int 0)=some (.int p.1):=rfl
@[simp]theorem yk (go ga:Ds->Rs PyData) (δ:Ds):yD go ga δ=(go δ).bind λd=>match d with|.tuple xs=>(ga δ).bind λy=>Rs.cN (pB xs y)|_=>.no:=rfl
theorem oX (h1:-(2 ^ 64)<b) (h2:b<2 ^ 64):cK (.int a) (.int b)=some (.int (a*b)):=by show (if _ then _ else _)=_;rw[if_pos (.inr ⟨h1,h2⟩)]
theorem ke (h1:-(2 ^ 64)<a) (h2:a<2 ^ 64):cK (.int a) (.int b)=some (.int (a*b)):=by show (if _ then _ else _)=_;rw[if_pos (.inl ⟨h1,h2⟩)]
def cM:PyData->Option (List Int)
 |.dict [(.none,.list l)]=>fZ l
 |_=>none
theorem cU (ns:List Int):cM (ah ns)=some ns:=ft ns
def ai:Gf
 |[s,.int k,.int many]=>(match cM s with
  |some ns=>if 0<=k/\0<many then .ok (.int (mixed ns k many)) else .no
  |none=>.no)
 |_=>.no
theorem bp {k:Int} (h1:0<=k) (h2:0<many):ai [ah ns,.int k,.int many]=.ok (.int (mixed ns k many)):=by unfold ai;simp[cU,h1,h2]
theorem gg (O:List Nat) (i:Nat) (g:Ds->Rs PyData) (δ:Ds):aJ O i g δ=if i<δ.length then ofR (g (mask O δ)) λd=>.nx (δ.set i (some d)) else .no:=rfl
def a4:Gf
 |[s,.int a,.int top,.bool tools]=>(match cM s with
  |some ns=>if 0<=a/\0<top/\top<=58 then .ok (mkE ns a top tools).d else .no
  |none=>.no)
 |_=>.no
theorem en {top:Int} {b:Bool} (h1:0<=a) (h2:0<top) (c:top<=58):a4 [ah ns,.int a,.int top,.bool b]=.ok (mkE ns a top b).d:=by unfold a4;simp[cU,h1,h2,c]
theorem oz (o:Option Int):bZ (iG o)=true:=by cases o <;> (unfold iG bZ;rfl)
theorem mz (p:Int×Option Int):bZ (bo p)=true:=by unfold bo bZ e9;rw[show bZ (.int p.1)=true by unfold bZ;rfl];unfold e9;rw[oz];unfold e9;rfl
theorem qa {i:Int} (h0:0<=i) (h1:i<5):atI [PyData.int 0,PyData.int 1,PyData.int 1,PyData.int 0,PyData.none] i=some (iG (fD i)):=by
 have:i=0\/i=1\/i=2\/i=3\/i=4:=by omega
 rcases this with rfl|rfl|rfl|rfl|rfl <;> rfl
theorem kK (ns:List Int) (a top:Int) (b:Bool) (e la f:PyData) (ha:0<=a) (L:List PyData) (hL:L.length<1000) (i:Nat) (x8 g:Option PyData) :
   av (aJ [7] 9 (au ai (ae (af 0) (ae (g2 aH (g2 aH (af 1) (gC (.int 4))) (af 8)) (ae (gC (.int 40)) aj)))))
   (av (fN [7] 7 (i5 (ae (g2 aH (gC (.int 1)) (g2 bc (af 9) (gC (.int 4)))) (ae (g2 dIx (dJ (ae (gC (.int 0)) (ae (gC (.int 1)) (ae (gC (.int 1)) (ae (gC (.int 0)) (ae (gC .none) aj)))))) (g2 bc (g2 cJ (af 9) (gC (.int 4))) (gC (.int 5)))) aj))))
   (sIf (bY (gT (af 3))) (jk 7 (g1 c9 (gC (.int 1))) (i5 (ae (g2 dIx (g2 dIx (af 7) (g1 c9 (gC (.int 1)))) (gC (.int 0))) (ae (gC .none) aj)))) aY))
     [some (ah ns),some (.int a),some (.int top),some (.bool b),some e,some la,some f,some (.list L),some (.int (0+(i:Int))),g]
  =.nx [some (ah ns),some (.int a),some (.int top),some (.bool b),some e,some la,some f,some (.list (L++[bo (cw ns (a+4+(i:Int)) b)])),some (.int (0+(i:Int))),some (.int (mixed ns (a+4+(0+(i:Int))) 40))]:=by
 have hm:=bp (ns:=ns) (k:=a+4+(0+(i:Int))) (many:=40) (by omega) (by decide);have m0:=bt ns (a+4+(0+(i:Int))) (many:=40) (by decide);have m1:=bH ns (a+4+(0+(i:Int))) (many:=40) (by decide);have j:a+4+(0+(i:Int))=a+4+(i:Int):=by omega
 generalize hc:mixed ns (a+4+(0+(i:Int))) 40=c at *;have l:0<=c / 4 % 5:=Ay _ (by decide);have m:c / 4 % 5<5:=Az _ (by decide);have n:=qa l m;have h:cw ns (a+4+(i:Int)) b=(1+c % 4,if b then fD (c / 4 % 5) else none):=by unfold cw;rw[<-j,hc]
 have o:aJ [7] 9 (au ai (ae (af 0) (ae (g2 aH (g2 aH (af 1) (gC (.int 4))) (af 8)) (ae (gC (.int 40)) aj)))) [some (ah ns),some (.int a),some (.int top),some (.bool b),some e,some la,some f,some (.list L),some (.int (0+(i:Int))),g]
    =.nx [some (ah ns),some (.int a),some (.int top),some (.bool b),some e,some la,some f,some (.list L),some (.int (0+(i:Int))),some (.int c)]:=by
   rw[gg,if_pos (by simp)];simp only[bN,aB,a5,b9,aQ (show 0∉[7] by decide),aQ (show 1∉[7] by decide),aQ (show 8∉[7] by decide),aM,aL,dP,Rs.ag,cy,Rs.ao,hm,aC];rfl
 have s2:fN [7] 7 (i5 (ae (g2 aH (gC (.int 1)) (g2 bc (af 9) (gC (.int 4)))) (ae (g2 dIx (dJ (ae (gC (.int 0)) (ae (gC (.int 1)) (ae (gC (.int 1)) (ae (gC (.int 0)) (ae (gC .none) aj)))))) (g2 bc (g2 cJ (af 9) (gC (.int 4))) (gC (.int 5)))) aj)))
     [some (ah ns),some (.int a),some (.int top),some (.bool b),some e,some la,some f,some (.list L),some (.int (0+(i:Int))),some (.int c)]
    =.nx [some (ah ns),some (.int a),some (.int top),some (.bool b),some e,some la,some f,some (.list (L++[bo (1+c % 4,fD (c / 4 % 5))])),some (.int (0+(i:Int))),some (.int c)]:=by
   unfold fN;simp only[AZ,List.getElem?_cons_zero];simp only[mf,ir,aB,a5,b9,aQ (show 9∉[7] by decide),aM,aL,dP,Rs.ag,cy,Rs.ao,eR,ik,if_pos (show (0:Int)<4 by decide),if_pos (show (0:Int)<5 by decide),if_pos (show (0:Int)<4/\(4:Int)<1073741824 by decide),oP,n,aC,if_pos (show L.length<1000000 by omega)];rfl
 rw[aK,o];simp only;rw[aK,s2];simp only;cases b with
 |true =>rw[h];simp
 |false =>
   rw[h];have hl:atI (L++[bo (1+c % 4,fD (c / 4 % 5))]) (-1)=some (bo (1+c % 4,fD (c / 4 % 5))):=by rw[gj];simp
   have p:ixN (L++[bo (1+c % 4,fD (c / 4 % 5))]).length (-1)=some L.length:=by unfold ixN;rw[if_neg (by decide),Al,AM,if_pos (by omega)];congr 1;omega
   have q:(L++[bo (1+c % 4,fD (c / 4 % 5))]).set L.length (.tuple [.int (1+c % 4),.none])=L++[bo (1+c % 4,none)]:=by rw[B4 _ _ (Ac _)];simp;rfl
   have r:bZ (.tuple [.int (1+c % 4),.none])=true:=mz (1+c % 4,none);rw[de];simp only[cP,cT,aM,aL,Rs.ag,aU,aC,Bool.not_false,if_true];unfold jk;simp only[AZ,List.getElem?_cons_zero,mf,aB,a5,b9,hV,aM,aL,dP,Rs.ag,uh,Rs.ao,oP,hl,u6,aC,p,r,if_true,q];rfl
theorem ko {j:Int} (h0:0<=j) (h1:j<1000000):tq [.int j]=.ok (bI 0 j.toNat):=by show (if _ then _ else _)=_;rw[if_pos (by omega)]
theorem iU {lo:Int} {d:PyData} (h:(bI lo n)[i]?=some d):i<n/\d=.int (lo+(i:Int)):=by have hi:=(Ar.mp h).1;rw[cx]at hi;unfold bI at h;rw[An,List.getElem?_range hi]at h;exact⟨hi,(Option.some.inj h).symm⟩
theorem iH (n:Nat) (g:Nat->α):(List.range (n+1)).map g=(List.range n).map g++[g n]:=by rw[List.range_succ,List.map_append];rfl
theorem pw {f:PyData->Int->Int->Bool->Rs PyData} (h:(match ds with|[e,.int a,.int b,.bool c]=>f e a b c|_=>.no)≠.no):∃e a b c,ds=[e,.int a,.int b,.bool c]/\f e a b c≠.no:=by
 rcases ds with _|⟨e,_|⟨a,_|⟨b,_|⟨c,_|⟨y,ys⟩⟩⟩⟩⟩
 ·exact absurd rfl h
 ·exact absurd rfl h
 ·first|exact absurd rfl h|(cases a <;> exact absurd rfl h)
 ·first|exact absurd rfl h|(cases a <;> first|exact absurd rfl h|(cases b <;> exact absurd rfl h))
 ·skip
  cases a with
  |int a =>
   cases b with
   |int b =>
    cases c with
    |bool c =>exact⟨_,_,_,_,rfl,h⟩
    |_=>exact absurd rfl h
   |_=>first|exact absurd rfl h|(cases c <;> exact absurd rfl h)
  |_=>first|exact absurd rfl h|(cases b <;> first|exact absurd rfl h|(cases c <;> exact absurd rfl h))
 ·first|exact absurd rfl h|(cases a <;> first|exact absurd rfl h|(cases b <;> first|exact absurd rfl h|(cases c <;> exact absurd rfl h)))
theorem kA (cs:Cs):LLq (dm cs ai) 4 6 a4:=by
 intro ds hl c;obtain⟨s,a,top,b,q,p⟩:=pw c;clear c;subst q;have c:=p;clear p
 ·skip
  split at c
  ·rename_i ns h;have es:s=ah ns:=by
    unfold cM at h;split at h
    ·rename_i l;rw[dB h];rfl
    ·cases h
   subst es;split at c
   ·rename_i hc;obtain⟨ha,j,m⟩:=hc;rw[en ha j m];show a7 (dm cs ai [some (ah ns),some (.int a),some (.int top),some (.bool b),none,none,none,none,none,none])=_;have hm:∀k many:Int,0<=k->0<many->ai [ah ns,.int k,.int many]=.ok (.int (mixed ns k many)):=λk many h1 h2=>bp h1 h2
    have a1:=bt ns a j;have lb:=kP ns a (3+mixed ns a top) (by omega);have b1:=bt ns (a+1) (many:=4) (by decide);have b2:=bH ns (a+1) (many:=4) (by decide);have n1:=bt ns (a+3) (many:=3) (by decide);have n2:=bH ns (a+3) (many:=3) (by decide);have c1:=bt ns (a+6) (many:=3) (by decide);have c2:=bH ns (a+6) (many:=3) (by decide)
    -- every
    have r:aJ [7] 4 (g2 aH (gC (.int 3)) (au ai (ae (af 0) (ae (af 1) (ae (af 2) aj))))) [some (ah ns),some (.int a),some (.int top),some (.bool b),none,none,none,none,none,none]
      =.nx [some (ah ns),some (.int a),some (.int top),some (.bool b),some (.int (3+mixed ns a top)),none,none,none,none,none]:=by
     rw[gg,if_pos (by simp)];simp only[bN,aB,a5,b9,aQ (show 0∉[7] by decide),aQ (show 1∉[7] by decide),aQ (show 2∉[7] by decide),aM,aL,dP,Rs.ag,hm a top ha j,cy,Rs.ao,aC];rfl
    generalize hev:3+mixed ns a top=ev at *;have evp:3<=ev:=by omega
    have s2:aJ [7] 5 (g2 cK (au ai (ae (af 0) (ae (g2 aH (af 1) (gC (.int 1))) (ae (gC (.int 4)) aj)))) (gF oo (ae (g2 dEq (au ai (ae (af 0) (ae (g2 aH (af 1) (gC (.int 2))) (ae (gC (.int 3)) aj)))) (gC (.int 0))) aj))) [some (ah ns),some (.int a),some (.int top),some (.bool b),some (.int ev),none,none,none,none,none]
      =.nx [some (ah ns),some (.int a),some (.int top),some (.bool b),some (.int ev),some (.int (mixed ns (a+1) 4*(if mixed ns (a+2) 3=0 then 1 else 0))),none,none,none,none]:=by
     rw[gg,if_pos (by simp)];simp only[bN,aB,a5,b9,fI,aQ (show 0∉[7] by decide),aQ (show 1∉[7] by decide),aM,aL,dP,Rs.ag,cy,Rs.ao,hm (a+1) 4 (by omega) (by decide),hm (a+2) 3 (by omega) (by decide),nA,uZ];rw[ke (by omega) (by omega)];simp only[Rs.ao,aC,beq_iff_eq];rfl
    have t:aJ [7] 5 (gF i3 (ae (af 5) (ae (g2 eB (af 4) (gC (.int 1))) aj))) [some (ah ns),some (.int a),some (.int top),some (.bool b),some (.int ev),some (.int (mixed ns (a+1) 4*(if mixed ns (a+2) 3=0 then 1 else 0))),none,none,none,none]
      =.nx [some (ah ns),some (.int a),some (.int top),some (.bool b),some (.int ev),some (.int (d6 ns a ev)),none,none,none,none]:=by
     rw[gg,if_pos (by simp)];simp only[fI,aB,a5,b9,aQ (show 4∉[7] by decide),aQ (show 5∉[7] by decide),aM,aL,dP,Rs.ag,kS,Rs.ao,uF,aC];rfl
    generalize hla:d6 ns a ev=la at *;have u:aJ [7] 6 (g2 eB (af 4) (af 5)) [some (ah ns),some (.int a),some (.int top),some (.bool b),some (.int ev),some (.int la),none,none,none,none]
      =.nx [some (ah ns),some (.int a),some (.int top),some (.bool b),some (.int ev),some (.int la),some (.int (ev-la)),none,none,none]:=by
     rw[gg,if_pos (by simp)];simp only[b9,aQ (show 4∉[7] by decide),aQ (show 5∉[7] by decide),aM,aL,Rs.ag,kS,Rs.ao,aC];rfl
    have v:sIf (gT (g2 dEq (au ai (ae (af 0) (ae (g2 aH (af 1) (gC (.int 1))) (ae (gC (.int 3)) aj)))) (gC (.int 0)))) (aJ [7] 6 (g2 eB (af 6) (au ai (ae (af 0) (ae (g2 aH (af 1) (gC (.int 2))) (ae (af 6) aj)))))) aY
        [some (ah ns),some (.int a),some (.int top),some (.bool b),some (.int ev),some (.int la),some (.int (ev-la)),none,none,none]
      =.nx [some (ah ns),some (.int a),some (.int top),some (.bool b),some (.int ev),some (.int la),some (.int (gN ns a (ev-la))),none,none,none]:=by
     rw[de];simp only[cT,b9,bN,aB,a5,aM,aL,dP,Rs.ag,cy,Rs.ao,hm (a+1) 3 (by omega) (by decide),nA,aU,aC];by_cases z:mixed ns (a+1) 3=0
     · rw[if_pos (by simp[z]),gg,if_pos (by simp)];simp only[bN,aB,a5,b9,aQ (show 0∉[7] by decide),aQ (show 1∉[7] by decide),aQ (show 6∉[7] by decide),aM,aL,dP,Rs.ag,cy,Rs.ao,hm (a+2) (ev-la) (by omega) (by omega),kS,aC];unfold gN;rw[if_pos z];rfl
     · rw[if_neg (by simp[z])];unfold gN;rw[if_neg z];rfl
    generalize hdu:gN ns a (ev-la)=du at *;have w:gD [7] 7 aj [some (ah ns),some (.int a),some (.int top),some (.bool b),some (.int ev),some (.int la),some (.int du),none,none,none]
      =.nx [some (ah ns),some (.int a),some (.int top),some (.bool b),some (.int ev),some (.int la),some (.int du),some (.list []),none,none]:=rfl
    have src:fO (ae (au ai (ae (af 0) (ae (g2 aH (af 1) (gC (.int 3))) (ae (gC (.int 3)) aj)))) aj) (mask [7] [some (ah ns),some (.int a),some (.int top),some (.bool b),some (.int ev),some (.int la),some (.int du),some (.list []),none,none])=.ok (bI 0 (mixed ns (a+3) 3).toNat):=by simp only[kz,bN,aB,a5,b9,aQ (show 0∉[7] by decide),aQ (show 1∉[7] by decide),aM,aL,dP,Rs.ag,cy,Rs.ao,hm (a+3) 3 (by omega) (by decide)];exact ko n1 (by omega)
    obtain⟨δ',e,x8,f,n⟩:=ip (β:=Unit) (tgt:=bL 8) (body:=av (aJ [7] 9 (au ai (ae (af 0) (ae (g2 aH (g2 aH (af 1) (gC (.int 4))) (af 8)) (ae (gC (.int 40)) aj)))))
  (av (fN [7] 7 (i5 (ae (g2 aH (gC (.int 1)) (g2 bc (af 9) (gC (.int 4)))) (ae (g2 dIx (dJ (ae (gC (.int 0)) (ae (gC (.int 1)) (ae (gC (.int 1)) (ae (gC (.int 0)) (ae (gC .none) aj)))))) (g2 bc (g2 cJ (af 9) (gC (.int 4))) (gC (.int 5)))) aj))))
  (sIf (bY (gT (af 3))) (jk 7 (g1 c9 (gC (.int 1))) (i5 (ae (g2 dIx (g2 dIx (af 7) (g1 c9 (gC (.int 1)))) (gC (.int 0))) (ae (gC .none) aj)))) aY)))
     (λi δ=>∃x8 f,δ=[some (ah ns),some (.int a),some (.int top),some (.bool b),some (.int ev),some (.int la),some (.int du),some (.list ((List.range i).map λ(k:Nat)=>bo (cw ns (a+4+(k:Int)) b))),x8,f])
     (bI 0 (mixed ns (a+3) 3).toNat) 0 (λi d δ hi o=>by obtain⟨x8,f,x⟩:=o;subst x;rw[Nat.zero_add]at *;obtain⟨hil,rfl⟩:=iU hi;refine⟨[some (ah ns),some (.int a),some (.int top),some (.bool b),some (.int ev),some (.int la),some (.int du),some (.list ((List.range i).map λ(k:Nat)=>bo (cw ns (a+4+(k:Int)) b))),some (.int (0+(i:Int))),f],_,rfl,kK ns a top b (.int ev) (.int la) (.int du) ha _ (by simp;omega) i none f,some (.int (0+(i:Int))),some (.int (mixed ns (a+4+(0+(i:Int))) 40)),?_⟩;rw[iH]) [some (ah ns),some (.int a),some (.int top),some (.bool b),some (.int ev),some (.int la),some (.int du),some (.list []),none,none] ⟨none,none,rfl⟩
    subst n;rw[Nat.zero_add,cx]at e;have hd:(mkE ns a top b).d=.tuple [.int ev,.int du,.int la,.tuple (((List.range (mixed ns (a+3) 3).toNat).map λ(k:Nat)=>bo (cw ns (a+4+(k:Int)) b))++[bo (1+mixed ns (a+6) 3,none)])]:=by simp only[mkE,Er.d,List.map_append,AK,hev,hla,hdu];rfl
    rw[hd];simp only[dm];rw[aK,r];simp only;rw[aK,s2];simp only;rw[aK,t];simp only;rw[aK,u];simp only;rw[aK,v];simp only;rw[aK,w];simp only;rw[aK,qk,src,aC,e];simp only;simp only[cO,mf,ir,aB,a5,b9,fI,bN,aM,aL,dP,Rs.ag,cy,Rs.ao,hm (a+6) 3 (by omega) (by decide)];have g:aH (.list ((List.range (mixed ns (a+3) 3).toNat).map λ(k:Nat)=>bo (cw ns (a+4+(k:Int)) b))) (.list [.tuple [.int (1+mixed ns (a+6) 3),.none]])=some (.list (((List.range (mixed ns (a+3) 3).toNat).map λ(k:Nat)=>bo (cw ns (a+4+(k:Int)) b))++[bo (1+mixed ns (a+6) 3,none)])):=by show (if _ then _ else _)=_;rw[if_pos (by simp;omega)];rfl
    rw[g];simp
   ·exact absurd rfl c
  ·exact absurd rfl c
def aO:Gf
 |[s,.int a,.int most,.int top,.bool tools]=>(match cM s with
  |some ns=>if 0<=a/\0<most/\most<=6/\0<top/\top<=58 then .ok (aF (hU ns a most top tools)) else .no
  |none=>.no)
 |_=>.no
theorem dW {most top:Int} {b:Bool} (h1:0<=a) (h2:0<most) (c:most<=6) (e:0<top) (f:top<=58):aO [ah ns,.int a,.int most,.int top,.bool b]=.ok (aF (hU ns a most top b)):=by unfold aO;simp[cU,h1,h2,c,e,f]
theorem e6 {s:PyData} (a:cM s=some ns):s=ah ns:=by
 unfold cM at a;split at a
 ·rename_i l;rw[dB a];rfl
 ·cases a
theorem oy {f:PyData->Int->Int->Int->Bool->Rs PyData} (h:(match ds with|[g,.int a,.int b,.int c,.bool e]=>f g a b c e|_=>.no)≠.no):∃g a b c e,ds=[g,.int a,.int b,.int c,.bool e]/\f g a b c e≠.no:=by
 rcases ds with _|⟨g,_|⟨a,_|⟨b,_|⟨c,_|⟨e,_|⟨y,ys⟩⟩⟩⟩⟩⟩
 ·exact absurd rfl h
 ·exact absurd rfl h
 ·first|exact absurd rfl h|(cases a <;> exact absurd rfl h)
 ·first|exact absurd rfl h|(cases a <;> first|exact absurd rfl h|(cases b <;> exact absurd rfl h))
 ·first|exact absurd rfl h|(cases a <;> first|exact absurd rfl h|(cases b <;> first|exact absurd rfl h|(cases c <;> exact absurd rfl h)))
 ·skip
  cases a with
  |int a =>
   cases b with
   |int b =>
    cases c with
    |int c =>
     cases e with
     |bool e =>exact⟨_,_,_,_,_,rfl,h⟩
     |_=>exact absurd rfl h
    |_=>first|exact absurd rfl h|(cases e <;> exact absurd rfl h)
   |_=>first|exact absurd rfl h|(cases c <;> first|exact absurd rfl h|(cases e <;> exact absurd rfl h))
  |_=>first|exact absurd rfl h|(cases b <;> first|exact absurd rfl h|(cases c <;> first|exact absurd rfl h|(cases e <;> exact absurd rfl h)))
 ·first|exact absurd rfl h|(cases a <;> first|exact absurd rfl h|(cases b <;> first|exact absurd rfl h|(cases c <;> first|exact absurd rfl h|(cases e <;> exact absurd rfl h))))
theorem jq (cs:Cs):LLq (cZ cs a4 ai) 5 1 aO:=by
 intro ds hl c;obtain⟨s,a,most,top,b,n,l⟩:=oy c;clear c;subst n;have c:=l;clear l
 ·skip
  split at c
  ·rename_i ns o;have es:=e6 o;subst es;split at c
   ·rename_i hc;obtain⟨ha,e,g,m,f⟩:=hc;rw[dW ha e g m f];have hm:=bp (ns:=ns) ha e;have m1:=bt ns a e;have m2:=bH ns a e;have h:a3 6 (fO (ae (af 5) aj)) bq (au a4 (ae (af 0) (ae (g2 aH (g2 aH (af 1) (gC (.int 1))) (g2 cK (gC (.int 7)) (af 6))) (ae (af 3) (ae (af 4) aj))))) bf
      [some (ah ns),some (.int a),some (.int most),some (.int top),some (.bool b),some (.int (1+mixed ns a most))]=.ok ((bI 0 (1+mixed ns a most).toNat).map λd=>(mkE ns (a+1+7*deI d) top b).d) :=
     bW rfl (by simp only[kz,aB,a5,aM,aL,Rs.ag];exact ko (by omega) (by omega)) (by rw[cx];omega) λd hd=>by obtain⟨i,hi⟩:=List.getElem?_of_mem hd;obtain⟨_,rfl⟩:=iU hi;simp only[B3,AU,bN,aB,a5,b9,aM,aL,dP,Rs.ag,cy,Rs.ao];rw[ke (by decide) (by decide)];simp only[Rs.ao,Rs.ag,cy];exact en (by omega) m f
    have j:aF (hU ns a most top b)=.tuple ((bI 0 (1+mixed ns a most).toNat).map λd=>(mkE ns (a+1+7*deI d) top b).d):=by
     unfold aF hU bI;rw[AK,AK];congr 1;refine AX λk _=>?_
     simp[deI]
    rw[j];show a7 (cZ cs a4 ai [some (ah ns),some (.int a),some (.int most),some (.int top),some (.bool b),none])=_;simp only[cZ,aK,nr,AV,List.length_nil,Nat.reduceAdd,Nat.reduceLT,if_true,bN,aB,a5,b9,aM,aL,dP,Rs.ag,hm,cy,Rs.ao,aC,List.set_cons_succ,List.set_cons_zero,cO,fI,lQ,h,vp,gM]
   ·exact absurd rfl c
  ·exact absurd rfl c
end RS
namespace RS
open PySem PySem.Spec PyProof.Rows L2
section
theorem tQ {f:Addr} {G:Ds->Sr} (F:Fun K x qual st f fd) (S:cn N ps (aw st)) (c:∀i∈O,ps.length<=i)
  (body:∀(cdv:Value) (A:Around) (outer:List Env) (s:Shared) (H:Hp) (E:XK),cE k (A.deeper (envOfC qual (aw st) s.heap.objs.size f cdv))->PBD (dO (CXW P w) P w K mg base N qual (aw st) f cdv A outer s H E) E O (bM st) G)
  (e:∀ds,ds.length=ps.length->gf ds≠.no->a7 (G (ds.map some++List.replicate (N.length-ps.length) none))=gf ds):dj P w K mg base (CXW P w) (k+1) f fd ps (spD K ps.length gf):=by
 refine ka F S (λvs H Q E h=>?_) (λcdv A outer s H vs Q E g h=>?_)
 ·obtain⟨A,ds,b,hi,hl,o⟩:=h;rw[hi.length,hl]
 ·obtain⟨A0,ds,b,hi,hl,o⟩:=h;refine⟨_,body cdv A outer s H E g,H,A0,[],_,a6.start b hi hl c,?_⟩;have a:=e ds hl (λz=>by rw[z]at o;exact o);cases q:G (ds.map some++List.replicate (N.length-ps.length) none) with
  |rt d=>rw[q]at a;rw[<-a]at o;exact λv H' s' hv=>o v H' s' hv
  |nx δ=>rw[q]at a;rw[<-a]at o;exact λA' σ H' j=>o .non H' j.same is_none
  |rz C=>rw[q]at a;rw[<-a]at o;exact λH' s'=>o H' s'
  |bk δ=>rw[q]at a;rw[<-a]at o;exact o.elim
  |ct δ=>rw[q]at a;rw[<-a]at o;exact o.elim
  |no=>rw[q]at a;rw[<-a]at o;exact o.elim
theorem qw {f:Addr} {b:Array (Option Value)} {kV e:Value} (X:K.In h) (G:h.Ns mainGlobals mg)
  (g:∀(kV doc pm:Value) (an:Option Addr) (cdv ct:Value) (us:List Value),us.length=ps.length->bindArgs (PySem.W.fnOf x x (eG st) (bM st) (aw st) .none kV doc pm an cdv ct) ⟨us,[]⟩=pure (ps.zip us))
  (a:PySem.W.nsIn K mainGlobals x=some (some (.ref f)))
  (l:K.lookup f=some ⟨oc,od,.func (PySem.W.fnOf x x (eG st) (bM st) (aw st) .none kV e pm an cd ct),b⟩)
  (c:PySem.W.codeIn K cd x=true) (k:PySem.W.keepIn K (.ref f)=true):bP K mg x st ps :=
 have F:=vm (st:=st) l c k
 ⟨f,_,F,F.binds g,PySem.W.mg_of X G a⟩
theorem fQ (X:K.In h) (G:h.Ns mainGlobals mg) (a:PySem.W.nsIn K mainGlobals x=some (some (.ref C)))
 (e:PySem.W.excIn K C [.type "ValueError",.type "Exception",.type "BaseException",.type "object"] "ValueError.__new__"=true):kc K mg x C:=⟨PySem.W.mg_of X G a,e⟩
theorem t6 {n:Int} {t:_} (X:K.In h) (G:h.Ns mainGlobals mg) (a:PySem.W.nsIn K mainGlobals x=some (some (.int n t))):∃t,mg x=some (.int n t):=⟨t,PySem.W.mg_of X G a⟩
end
def cX (n:Nat):Gf
 |[s]=>(match cM s with
  |some ns=>if ns.length<=n then .ok (.bool true) else .no
  |none=>.no)
 |_=>.no
theorem wM {l:PySem.W.OpenLaw} {XP:(Str->Option Value)->Heap->Prop} {d:DefRec} {K:Params->PySem.W.Frag}
  (hn:l.most=some n) (i:n<=sizeLine) (j:d.params.defaults=[]) (y:cE k callerA)
  (A:∀(w:World) (h:Heap),YP w h->(K w.params).In h)
  (B:∀(kV doc pm:Value) (an:Option Addr) (cdv ct:Value) (us:List Value),us.length=1->bindArgs (PySem.W.fnOf d.name d.name (eG st) (bM st) (aw st) .none kV doc pm an cdv ct) ⟨us,[]⟩=pure ([x].zip us))
  (F:∀(w:World) (mg:Str->Option Value) (h:Heap),(K w.params).In h->h.Ns mainGlobals mg->
   bP (K w.params) mg d.name st [x]/\∀f fd,Fun (K w.params) d.name d.name st f fd->∀base:Heap,(K w.params).In base->base.Ns mainGlobals mg->L2.jN mg base->dj l.prog w (K w.params) mg base (CXW l.prog w) k f fd [x] (spD (K w.params) 1 (cX n)))
  (o:∀(w:World) (h:Heap) (c:List Str) (g:ExcName->Option Value) (mg C:Str->Option Value),PyProof.Rows.Top q c g mg C h->(K w.params).In h->L2.i4 (K w.params) h:=by exact λ_ _ _ _ _ _ _ _=>L2.tabsIn_nil rfl) :
  PySem.W.WalkO q loose XP YP l.row.toRowW d [] (λf vs=>PySem.call f vs) :=
 L2.mV (n:=n) (k:=k) (x:=x) (CX:=λw=>CXW l.prog w) (sp:=λw=>spD (K w.params) 1 (cX n)) hn i j y A
  (λw mg D h X G p=>by obtain⟨⟨f,fd,t,b,m⟩,E⟩:=F w mg h X G;have e:=p.symm.trans m;cases e;refine⟨fd,λs u=>?_,E D fd t⟩;obtain⟨oc,od,kV,doc,pm,an,cdv,ct,osl,rfl,lk,hcd⟩:=t.ex;exact .of_eq (B kV doc pm an cdv ct [u] rfl))
  (λw H a ns hl hO I=>by
   refine⟨[],[ah ns],?_,?_,rfl,?_⟩
   ·exact Ls.nil
   ·rw[m4];exact⟨_,[],rfl,oJ I,rfl⟩
   ·have J:cX n [ah ns]=.ok (.bool true):=by unfold cX;simp[cU,hl]
    rw[J];intro v H' _ hv;rw[m4]at hv;unfold Is at hv;exact hv)
  (λw H s e s' r=>(by obtain⟨_,_,_,_,_,_,z,_⟩:=r;exact z)) o
end RS
set_option maxHeartbeats 4000000
namespace L2
open PySem PySem.Spec PyProof.Rows
section
end
section
variable {E:XK}
end
def cG (H0 H:Hp) (ys:List V):Prop:=ys.Nodup/\∀y∈ys,∃b xs,y=.ref b/\H0 b=none/\H b=some (.lst xs)
theorem cG.nil:cG H0 H []:=⟨List.nodup_nil,λ_ h=>by cases h⟩
theorem cG.same (h:cG H0 H ys) (s:ak H H'):cG H0 H' ys:=⟨h.1,λy a=>by obtain⟨b,xs,e,n,l⟩:=h.2 y a;exact⟨b,xs,e,n,s _ _ l⟩⟩
theorem cG.back (h:cG H1 H ys) (s:ak H0 H1):cG H0 H ys:=⟨h.1,λy a=>by obtain⟨b,xs,e,n,l⟩:=h.2 y a;exact⟨b,xs,e,s.free n,l⟩⟩
theorem cG.upd {zs:List V} (h:cG H0 H ys):cG H0 (L2.upd H D (.lst zs)) ys:=⟨h.1,λy a=>by
 obtain⟨b,xs,e,n,l⟩:=h.2 y a;by_cases z:b=D
 ·exact⟨b,zs,e,n,by rw[z];exact aV⟩
 ·exact⟨b,xs,e,n,by rw[ay z];exact l⟩⟩
theorem cG.add {p:Addr} (h:cG H0 H ys) (g:H p=none) (i:H0 p=none) (s:ak H H') (hl:H' p=some (.lst xs)):cG H0 H' (ys++[.ref p]):=by
 refine⟨List.nodup_append.mpr ⟨h.1,AL.mpr ⟨by simp,List.nodup_nil⟩,λa ha b j z=>?_⟩,λy f=>?_⟩
 ·obtain⟨c,xs,e,n,l⟩:=h.2 a ha;rw[Aj.mp j,e]at z;cases z;rw[g]at l;cases l
 ·rcases Aq.mp f with f|f
  ·exact (h.same s).2 y f
  ·exact⟨p,xs,Aj.mp f,i,hl⟩
def xR (K:PySem.W.Frag) (E:XK) (A:List Addr) (H:Hp) (r:Rs (List PyData)) (Q:VK):Prop:=match r with
 |.ok ds=>∀a xs H',H a=none->ak H H'->H' a=some (.lst xs)->Iss K (del H' (a::A)) ds xs->cG H H' xs->Q (.ref a) H'
 |.rz C=>∀H',ak H H'->E (.ref C) none H'
 |.no=>False
def nD (K:PySem.W.Frag) (E:XK) (g:Ds->Rs (List PyData)):TE:=λσ H Q=>∃A δ,cj K H A δ σ/\xR K E A H (g δ) Q
section
variable {E:XK} {a:Expr} {ga:Ds->Rs PyData}
theorem m5 {gi:Ds->Rs (List PyData)} {tt:TT} {cond:Ds->Rs Bool} {ge:Ds->Rs PyData} {tgt:PyData->Option Ds} (hT:TgD K n0 own.length tgt g) (Z:∀δ,ge δ=gL gl δ) (htt:∀σ H Q,cD K E0 cond σ H Q->tt σ H Q) :
  ∀σ H Q,nD K E (a3 n0 gi cond ge tgt) σ H Q->tLC own.length (iD K E gi) g tt (lD K E0 gl) σ H Q:=by
 intro σ H Q ⟨A,δ,R,o⟩;unfold a3 at o;by_cases hn0:δ.length=n0
 case neg=>rw[if_neg hn0]at o;exact o.elim
 rw[if_pos hn0]at o;have hσ:σ.length=n0:=by rw[<-R.len];exact hn0
 refine⟨A,δ,R,?_⟩;cases q:gi δ with
 |no=>rw[q]at o;exact o
 |rz C=>rw[q]at o;exact o
 |ok ds =>
  rw[q]at o;have o:xR K E A H (if ds.length<=1000000 then bO cond ge tgt δ ds else .no) Q:=o;by_cases hz:ds.length<=1000000
  case neg=>rw[if_neg hz]at o;exact o.elim
  rw[if_pos hz]at o;intro J H1 T hJ D w;have U:=R.same T;have nD:D∉A:=U.ls.new w;cases qo:bO cond ge tgt δ ds with
  |rz C =>
   exfalso;have:∀l,bO cond ge tgt δ l≠.rz C:=by
    intro l
    induction l with
    |nil=>intro z;cases z
    |cons d r ih =>
     intro z;unfold bO at z;split at z
     ·cases z
     ·rename_i h _;cases c1:cond (δ++h) with
      |ok b =>
       simp only[c1,Rs.cW,Rs.ag]at z;split at z
       ·cases j:ge (δ++h) with
        |ok x =>
         simp only[j,Rs.cW,Rs.ag]at z;cases n:bO cond ge tgt δ r with
         |ok l=>simp only[n,Rs.ag]at z;cases z
         |rz C'=>simp only[n,Rs.cY]at z;cases z;exact ih n
         |no=>simp only[n,Rs.aR]at z;cases z
        |rz C'=>simp only[j,Rs.calm,Rs.aR]at z;cases z
        |no=>simp only[j,Rs.calm,Rs.aR]at z;cases z
       ·exact ih z
      |rz C'=>simp only[c1,Rs.calm,Rs.aR]at z;cases z
      |no=>simp only[c1,Rs.calm,Rs.aR]at z;cases z
   exact this ds qo
  |no=>rw[qo]at o;exact o.elim
  |ok out =>
   rw[qo]at o;have base:ak (del H1 A) (del (upd H1 D (.lst [])) (D::A)):=λb o e=>by obtain⟨z,e⟩:=ba e;have nb:b≠D:=az e w;rw[aP (by simp[nb,z]),ay nb];exact e
   refine⟨λi m ys H'=>m=ds.length-i/\i<=ds.length/\ak H1 H'/\H' D=some (.lst ys)/\ys.length<=i/\∃F rest,bO cond ge tgt δ (ds.drop i)=.ok rest/\out=F++rest/\Iss K (del H' (D::A)) F ys/\cG H1 H' ys,
    ⟨ds.length,by simp,B1 _,aS w,aV,Ac _,[],out,qo,rfl,ck,cG.nil⟩,?_⟩
   rintro i m ys H' ⟨rfl,hi,s,hl,hy,F,rest,c1,j,n,c4⟩
   refine⟨hl,?_⟩;have sG:ak (del H1 A) H':=aq.trans s;have G:∀b∈D::A,(del H1 A) b=none:=λb I=>by
    rcases Aa.mp I with z|z
    ·rw[z,aP nD];exact w
    ·exact fF z
   obtain⟨jg,js,jy⟩:=hJ H' (D::A) sG (λb I=>by
    rcases Aa.mp I with z|z
    ·exact⟨_,by rw[z];exact hl,rfl⟩
    ·exact (U.ls.same s) b z) G
   by_cases hlt:i<ds.length
   ·refine .inr ⟨jg i hlt,λx H2 σ' L y=>?_⟩;obtain⟨s2,d,ed,hd⟩:=jy i x H2 hlt y;have edr:ds.drop i=d::ds.drop (i+1):=by
     rw[AY hlt];have:ds[i]=d:=by have:=A5 hlt;rw[this]at ed;exact Option.some.inj ed
     rw[this]
    rw[edr]at c1;unfold bO at c1;cases et:tgt d with
    |none=>rw[et]at c1;cases c1
    |some ow =>
     rw[et]at c1;have l2:H2 D=some (.lst ys):=s2 _ _ hl;have M:Ls H2 (D::A):=λb I=>by
      rcases Aa.mp I with z|z
      ·exact⟨_,by rw[z];exact l2,rfl⟩
      ·exact (U.ls.same (s.trans s2)) b z
     obtain⟨hol,hgo⟩:=hT d x σ σ' H2 (D::A) (λc H2=>tt c H2 λb H3 =>
      if b=true then lD K E0 gl c H3 λv B=>B D=some (.lst ys)/\ys.length<sizeLine/\(∃a,c=σ++a/\a.length=own.length)/\∃m',m' < ds.length-i/\_
      else (∃a,c=σ++a/\a.length=own.length)/\∃m',m' < ds.length-i/\_) ow hσ L M hd et
     refine hgo λvs t N=>?_
     have O:ak (del H1 A) (del H2 (D::A)):=ic (sG.trans s2) G;have RE:cj K H2 (D::A) (δ++ow) (σ++vs):=by
      refine⟨M,by rw[Al,Al,R.len,t,hol],λk e X=>?_⟩;by_cases hk:k<δ.length
      ·rw[Ao hk]at X;obtain⟨u,e1,hu⟩:=U.get k e X;exact⟨u,by rw[Ao (by rw[<-R.len];exact hk)];exact e1,hu.same O⟩
      ·rw[As (by omega)]at X;obtain⟨u,e1,hu⟩:=N _ e X;exact⟨u,by rw[As (by rw[<-R.len];omega),<-R.len];exact e1,hu⟩
     have bad:∀r:Rs Bool,r=.rz 0->r.calm=.no:=λr e=>by rw[e];rfl
     refine htt _ _ _ (cD.run RE (λb P H3 f R3=>?_) (λC P=>?_) (λP=>?_))
     ·simp only[P,Rs.cW,Rs.ag]at c1;cases b with
      |true =>
       simp only[if_true]at c1;rw[Z]at c1;unfold gL at c1;refine⟨_,_,R3,?_⟩;cases ex:gl (δ++ow) with
       |ok xl =>
        intro p xs B hp Y S hx4;have hv:Is K (del B (D::A)) (.list xl) (.ref p):=eZ (by rw[aP (R3.ls.new hp)];exact S) (hx4.same fo);simp only[ex,Rs.cW,Rs.ag]at c1;cases cr:bO cond ge tgt δ (ds.drop (i+1)) with
        |ok rs =>
         simp only[cr,Rs.ag]at c1;cases c1;have l4:B D=some (.lst ys):=Y _ _ (f _ _ l2);have dU:del (upd B D (.lst (ys++[.ref p]))) (D::A)=del B (D::A):=ku (Ad);refine⟨l4,by rw[sizeLine_eq];omega,⟨vs,rfl,t⟩,ds.length-(i+1),by omega,rfl,hlt,?_,aV,by simp;omega,F++[.list xl],rs,cr,by rw[j];simp,?_⟩
         ·exact ak.put (((s.trans s2).trans f).trans Y) w
         ·rw[dU];exact⟨(n.same (ak.del (s2.trans (f.trans Y)))).append (fP hv),(((c4.same (s2.trans f)).add hp ((s.trans (s2.trans f)).free hp) Y S)).upd⟩
        |rz C=>simp only[cr,Rs.cY]at c1;cases c1
        |no=>simp only[cr,Rs.aR]at c1;cases c1
       |rz C=>simp only[ex,Rs.cY,Rs.calm,Rs.aR]at c1;cases c1
       |no=>simp only[ex,Rs.aR,Rs.calm]at c1;cases c1
      |false =>simp only[Be,if_false]at c1;exact⟨⟨vs,rfl,t⟩,ds.length-(i+1),by omega,rfl,hlt,(s.trans s2).trans f,f _ _ l2,by omega,F,rest,c1,j,n.same (ak.del (s2.trans f)),c4.same (s2.trans f)⟩
     ·simp only[P,Rs.calm,Rs.aR]at c1;cases c1
     ·simp only[P,Rs.calm,Rs.aR]at c1;cases c1
   ·have e:i=ds.length:=by omega
    subst e;rw[Bh]at c1;cases c1;rw[B6]at j;subst j;exact .inl ⟨js,o D ys H' (T.free w) (T.trans s) hl n (c4.back T)⟩
end
section
def sX:V->List V->Hp->VK->Prop:=λx vs H Q=>∃l xs y,∃k:Nat,x=.ref l/\vs=[.int k,y]/\H l=some (.lst xs)/\k<=xs.length/\xs.length<1000000/\Q .non (upd H l (.lst (xs.take k++y::xs.drop k)))
theorem rB (l:List Value) (k:Nat) (y:Value):(l.toArray.extract 0 k).push y++l.toArray.extract k=(l.take k++y::l.drop k).toArray:=by apply Array.toList_inj.mp;simp;exact List.take_of_length_le (by simp)
theorem oG:MtM X "list.insert" sX:=by
 intro pins s σ H x vs v us Q I o p h;obtain⟨l,xs,y,k,rfl,rfl,m,hk,hz,q⟩:=h;cases o;obtain⟨u1,c,rfl,u,w⟩:=p.two;obtain⟨t,rfl⟩:=u;obtain⟨z,a,n,r,hl,e⟩:=I.lstM m;have g:a.toArray.size<=sizeLine:=by rw[A6,<-hl];exact z
 have hzn:(a.take k++c::a.drop k).length<=sizeLine:=by rw[sizeLine_eq];simp;omega
 have j:(xs.take k++y::xs.drop k).length<=sizeLine:=by rw[sizeLine_eq];simp;omega
 have f:(if (k:Int)<0 then ((k:Int)+(a.toArray.size:Int)).toNat else min (k:Int).toNat a.toArray.size)=k:=by rw[if_neg (by omega),Aw,A6,Nat.min_eq_left (by omega)]
 have b:¬(!Builtin.List.listFitsIndex (k:Int))=true:=by rw[fitsIndex_both (by omega) (by omega)];decide
 generalize (k:Int)=i at f b ⊢;refine call_meets F.slot_list_insert ⟨_,e,rfl⟩ F.entry_list_insert (F.args_list_insert_3 _ _ _) (AutoSeq1.list_insert_list_int_val_1 l a.toArray n i t c b g) ⟨e,?_⟩;refine⟨.non,_,I.lset (its':=a.take k++c::a.drop k) m e ?_ ((r.take k).append (.cons w (r.drop k))) j,rfl,q⟩;show (a.toArray.extract 0 (if i<0 then (i+(a.toArray.size:Int)).toNat else min i.toNat a.toArray.size)).push c++a.toArray.extract (if i<0 then (i+(a.toArray.size:Int)).toNat else min i.toNat a.toArray.size)=_;rw[f];exact rB a k c
end
def tJ (K:PySem.W.Frag) (H0:Hp) (A0:List Addr) (H:Hp) (d:PyData) (v:V):Prop:=∃a ds xs,v=.ref a/\d=.list ds/\H0 a=none/\H a=some (.lst xs)/\Iss K (del H (a::A0)) ds xs/\cG H0 H xs
theorem tJ.is {d:PyData} (h:tJ K H0 A0 H d v) (l:Ls H0 A0):Is K (del H A0) d v:=by obtain⟨a,ds,xs,rfl,rfl,b,ha,c,_⟩:=h;exact eZ (by rw[aP (l.new b)];exact ha) (c.same fo)
def spN (K:PySem.W.Frag) (n:Nat) (gf:List PyData->Rs PyData):Sp:=λvs H Q E=>∃A ds,Ls H A/\Iss K (del H A) ds vs/\ds.length=n/\match gf ds with
 |.ok d=>∀v H',ak H H'->tJ K H A H' d v->Q v H'
 |.rz C=>∀H',ak H H'->E (.ref C) none H'
 |.no=>False
structure lW (P:Program) (w:World) (K:PySem.W.Frag) (mg:Str->Option Value) (base:Heap) (k:Nat) (x:Str) (n:Nat) (gf:List PyData->Rs PyData):Prop where
 ex:∃f fd ps,dj P w K mg base (CXW P w) k f fd ps (spN K n gf)/\mg x=some (.ref f)/\PySem.W.keepIn K (.ref f)=true/\Binds K fd ps []
theorem lW.d (h:lW P w K mg base k x n gf):fz P w K mg base k x n gf:=by
 obtain⟨f,fd,ps,F,m,kp,b⟩:=h.ex;refine⟨f,fd,ps,F.imp λvs H Q E h=>?_,m,kp,b⟩;obtain⟨A,ds,a,hi,hl,o⟩:=h;refine⟨A,ds,a,hi,hl,?_⟩;cases q:gf ds with
 |ok d=>rw[q]at o;exact λv H' s' hv=>o v H' s' (hv.is a)
 |rz C=>rw[q]at o;exact o
 |no=>rw[q]at o;exact o
def yy (K:PySem.W.Frag) (E:XK) (H0:Hp) (A0:List Addr) (O:List Nat) (r:Sr) (D:Ends):Prop:=match r with
 |.rt d=>∀v H,ak H0 H->tJ K H0 A0 H d v->D.rt v H
 |.rz C=>∀H,ak H0 H->E (.ref C) none H
 |_=>False
def PBM (X:Cx) (E:XK) (O:List Nat) (ss:List Stmt) (G:Ds->Sr):Prop:=PSs X ss λD σ H=>∃H0 A0 A δ,a6 X.K H0 A0 H A O δ σ/\yy X.K E H0 A0 O (G δ) D
def mi (G:Ds->Sr):Prop:=∀δ,match G δ with
 |.nx _=>True
 |.rz _=>True
 |.no=>True
 |_=>False
section
variable {E:XK} {ss:List Stmt} {G G':Ds->Sr} {g:Ds->Rs PyData} {c:Ds->Rs Bool}
theorem jG:mi aY:=λ_=>trivial
theorem nW:mi (jK g):=λδ=>by unfold jK;cases g δ <;> trivial
theorem nB (h:mi G) (h':mi G'):mi (sIf c G G'):=λδ=>by
 unfold sIf;cases c δ with
 |ok b=>cases b;exact h' δ;exact h δ
 |rz C=>trivial
 |no=>trivial
theorem oZ (δ a:Ds):aX g δ≠.nx a:=λz=>by unfold aX at z;cases q:g δ <;> rw[q]at z <;> cases z
theorem i7 (h:∀δ a,G' δ≠.nx a) (δ a:Ds):av G G' δ≠.nx a:=λz=>by
 unfold av at z;split at z
 ·exact h _ _ z
 ·rename_i h;exact h _ z
theorem iV (h1:PSD X E O st G) (hn:mi G) (h2:PBM X E O ss G'):PBM X E O (st::ss) (av G G'):=(bT h1 h2).imp λD σ H ⟨H0,A0,A,δ,R,o⟩=>⟨H0,A0,A,δ,R,by
 unfold av at o;have hn:=hn δ;cases q:G δ with
 |nx δ'=>rw[q]at o;exact λa σ' H' b=>⟨H0,A0,a,δ',b,o⟩
 |rz C=>rw[q]at o;exact o
 |no=>rw[q]at o;exact o
 |rt d=>rw[q]at hn;exact hn.elim
 |bk d=>rw[q]at hn;exact hn.elim
 |ct d=>rw[q]at hn;exact hn.elim⟩
theorem tV (h:PE X e (nD X.K E gl)):PBM X E [] [.Return (some e) pos] (aX (gL gl)):=(dX (fH h)).imp λD σ H c=>by
 obtain⟨H0,A0,A,δ,R,o⟩:=c;refine⟨A++A0,δ,by have:=R.part;rwa[fh]at this,?_⟩;unfold aX gL at o;cases q:gl δ with
 |ok ds =>rw[q]at o;exact λa xs H' g s' ha i j=>o _ H' (R.same.trans s') ⟨a,ds,xs,rfl,rfl,R.same.free g,ha,i.same (λb u f=>by obtain⟨z,f⟩:=ba f;rw[aP (λw=>z (by rcases Aa.mp w with w|w;exact w▸Ad;exact Ab _ (Ag _ w)))];exact f),j.back R.same⟩
 |rz C=>rw[q]at o;exact λH' s'=>o H' (R.same.trans s')
 |no=>rw[q]at o;exact o
end
theorem lW.of {f:Addr} {G:Ds->Sr} (F:Fun K x qual st f fd) (S:cn N ps (aw st)) (b:Binds K fd ps []) (m:mg x=some (.ref f)) (j:∀i∈O,ps.length<=i)
  (body:∀(cdv:Value) (A:Around) (outer:List Env) (s:Shared) (H:Hp) (E:XK),cE k (A.deeper (envOfC qual (aw st) s.heap.objs.size f cdv))->PBM (dO (CXW P w) P w K mg base N qual (aw st) f cdv A outer s H E) E O (bM st) G)
  (l:∀ds,ds.length=ps.length->gf ds≠.no->a7 (G (ds.map some++List.replicate (N.length-ps.length) none))=gf ds) (c:∀δ e,G δ≠.nx e):lW P w K mg base (k+1) x ps.length gf:=by
 refine⟨f,fd,ps,ka F S (λvs H Q E h=>?_) (λcdv A outer s H vs Q E n h=>?_),m,F.kp,b⟩
 ·obtain⟨A,ds,g,hi,hl,o⟩:=h;rw[hi.length,hl]
 ·obtain⟨A0,ds,g,hi,hl,o⟩:=h;refine⟨_,body cdv A outer s H E n,H,A0,[],_,a6.start g hi hl j,?_⟩;have a:=l ds hl (λz=>by rw[z]at o;exact o);cases q:G (ds.map some++List.replicate (N.length-ps.length) none) with
  |rt d=>rw[q]at a;rw[<-a]at o;exact λv H' s' hv=>o v H' s' hv
  |nx δ=>exact (c _ _ q).elim
  |rz C=>rw[q]at a;rw[<-a]at o;exact λH' s'=>o H' s'
  |bk δ=>rw[q]at a;rw[<-a]at o;exact o.elim
  |ct δ=>rw[q]at a;rw[<-a]at o;exact o.elim
  |no=>rw[q]at a;rw[<-a]at o;exact o.elim
theorem a6.blind (R:a6 K H0 A0 H A O δ σ) (hi:i∉O):a6 K H0 A0 H A O (δ.set i none) (σ.set i (some v)) where
 same:=R.same
 ls0:=R.ls0
 new:=R.new
 ls:=R.ls
 len:=by simp[R.len]
 pl:=λj e b q=>by
  rcases get_set q with⟨z,q⟩|⟨z,q⟩
  ·cases q
  ·obtain⟨u,e1,h1⟩:=R.pl j e b q;exact⟨u,eL z e1,h1⟩
 own:=λj e b q=>by
  rcases get_set q with⟨z,q⟩|⟨z,q⟩
  ·cases q
  ·obtain⟨a,xs,ds,e1,h1⟩:=R.own j e b q;exact⟨a,xs,ds,eL z e1,h1⟩
 inj:=λj k d' e a b c f g p1 p2=>by
  have n1:i≠j:=λz=>hi (z▸b)
  have n2:i≠k:=λz=>hi (z▸c)
  rw[Am n1]at f p1;rw[Am n2]at g p2;exact R.inj j k d' e a b c f g p1 p2
def pK:PyData->Bool
 |.list (.list row::r)=>Nat.blt row.length 1000000&&Nat.blt r.length 1000
 |_=>false
def sFr (i:Nat) (gf:List PyData->Rs PyData) (gs:Ds->Rs (List PyData)):Ds->Sr:=λδ=>if i<δ.length then ofR ((gs δ).bind gf) λd=>if pK d then .nx (δ.set i none) else .no else .no
section
variable {E:XK} {ss:List Stmt} {G':Ds->Sr} {z n1 n2:Expr} {es:List Expr}
theorem vY {f:Str} {ap fp Y p1 M sp Z P g t h p3:Pos} (D:lW X.prog X.w X.K X.mg X.base k f (e::es).length gf) (hr:cE j X.A) (hx:Passes (CXW X.prog X.w) X E) (ha:PAD X E (e::es) gs)
  (hz:PE X z (tC (.int 0))) (hn1:PE X n1 (tC .non)) (hn2:PE X n2 (tC .non)) (B:PBD X E O ss G') (hk:k<=j) (hg:Gl X f) (hN:X.N.Nodup) (hO:i∉O) (hi:X.N[i]?=some x) (hL:Loc X.env.scope x) (hv:Vis X.env.scope x) (hpx:fj z)
  (hdb:(f==("__debug__":Str))=false:=by decide) (hd:(x==("__debug__":Str))=false:=by decide) (Q:(x==("__classdict__":Str))=false:=by decide)
  (he:starEach (e::es) X.env=(false,eval e X.env)::starEach es X.env:=by rfl) (hpl:(backTo Y (starEach es X.env)).any (·.1)=false:=by rfl)
  (hs:swapsWith (.Call (.Name f fp) (e::es) [] Y) (some (.Name x ap)) p1.line X.env=pure false:=by rfl) (hf:X.fn x=true\/X.env.scope.names.lookup x=some .local:=by first|exact .inl rfl|exact .inr rfl)
  (S:starEach [n1] X.env=(false,eval n1 X.env)::starEach [] X.env:=by rfl) (p:starEach [n2] X.env=(false,eval n2 X.env)::starEach [] X.env:=by rfl)
  (G:attributeBase (.Subscript (.Name x M) z sp) "append" X.env (eval (.Subscript (.Name x M) z sp) X.env)=eval (.Subscript (.Name x M) z sp) X.env:=by rfl)
  (l:attributeBase (.Name x g) "append" X.env (eval (.Name x g) X.env)=eval (.Name x g) X.env:=by rfl)
  (T:((backTo P (starEach [n1] X.env)).all (λx=>!x.1)&&(backToKw P (keywordEach [] X.env)).all (λx=>x.1.isSome)&&decide (([n1]:List Expr).length+([]:List Keyword).length+(if ([]:List Keyword).isEmpty then 0 else 1)<30))=true:=by rfl)
  (I:((backTo h (starEach [n2] X.env)).all (λx=>!x.1)&&(backToKw h (keywordEach [] X.env)).all (λx=>x.1.isSome)&&decide (([n2]:List Expr).length+([]:List Keyword).length+(if ([]:List Keyword).isEmpty then 0 else 1)<30))=true:=by rfl)
  (J:(Z.endLine==P.line)=true:=by rfl) (m:(t.endLine==h.line)=true:=by rfl)
  (hs2:swapsWith (.Call (.Attribute (.Subscript (.Name x M) z sp) "append" Z) [n1] [] P) none p2.line X.env=pure false:=by rfl) (hs3:swapsWith (.Call (.Attribute (.Name x g) "append" t) [n2] [] h) none p3.line X.env=pure false:=by rfl) :
  PBD X E O (.Assign [.Name x ap] (.Call (.Name f fp) (e::es) [] Y) p1::.Expr (.Call (.Attribute (.Subscript (.Name x M) z sp) "append" Z) [n1] [] P) p2::.Expr (.Call (.Attribute (.Name x g) "append" t) [n2] [] h) p3::ss) (av (sFr i gf gs) G'):=by
 obtain⟨fa,fd,ps,F,hm,hkp,hb⟩:=D.ex;refine (bT (gJ hN hi hL (kC F (hr.mono hk) hg hm hkp hb .nil hx ha.1 hdb he hpl) hs hf)
  (bT (fk (lH PySem.F.plainAttrs_list PySem.F.slot_list_append PySem.F.type_list_append eE (ij eF (d7 hi hv hd Q) hz hpx) (bA hn1 cR S) G T J S rfl) hs2)
  (bT (fk (lH PySem.F.plainAttrs_list PySem.F.slot_list_append PySem.F.type_list_append eE (d7 hi hv hd Q) (bA hn2 cR p) l I m p rfl) hs3) B))).imp λD σ H ⟨H0,A0,A,δ,R,o⟩=>?_
 unfold av sFr at o;by_cases hl:i<δ.length
 case neg=>rw[if_neg hl]at o;exact o.elim
 rw[if_pos hl]at o;refine aD.run R.full (λds ed vs H1 s1 R1 h1=>?_) (λC et H' s'=>?_) (λet=>?_)
 ·rw[ed]at o;have o:iI X.K E H0 A0 O (match ofR (gf ds) λd=>if pK d then .nx (δ.set i none) else .no with|.nx δ'=>G' δ'|r=>r) D:=o;refine⟨A0,ds,R1.ls,by simpa using h1,ha.2 δ ds ed,?_⟩;cases q:gf ds with
  |ok d =>
   rw[q]at o;intro v H2 s2 hv2;obtain⟨a,U,xs,rfl,rfl,h0,W,hx2,hr2⟩:=hv2;simp only[aC]at o;by_cases hfr:pK (.list U)=true
   case neg=>rw[if_neg hfr]at o;exact o.elim
   rw[if_pos hfr]at o;obtain⟨row,r,rfl,hz1,hz2⟩:∃row r,U=.list row::r/\row.length<1000000/\r.length<1000:=by
    unfold pK at hfr;split at hfr
    ·rename_i row r e;cases e;have:=AH.mp hfr;exact⟨row,r,rfl,by simpa using this.1,by simpa using this.2⟩
    ·cases hfr
   obtain⟨y,ys,rfl,hy,hys⟩:=hx2.cons_of;obtain⟨b,zs,rfl,n,hzs⟩:=hy.ofLst;obtain⟨nb,n⟩:=ba n;have nba:a≠b:=λw=>nb (by rw[w];exact Ad)
   obtain⟨b',xs',e',hb0,_⟩:=hr2.2 _ Ad;cases e';have lzs:=hzs.length;have lys:=hys.length;show xT _ _ _ (σ.set i (some (.ref a))) H2;refine⟨.ref a,Ap (by rw[<-R.len];exact hl),a,_,0,.ref b,rfl,rfl,SqL.of W,fq (j:=0) rfl,tyL n,b,zs,.non,rfl,rfl,n,by rw[sizeLine_eq];omega,?_⟩;have s:upd H2 b (.lst (zs++[.non])) a=some (.lst (.ref b::ys)):=by rw[ay nba];exact W
   refine⟨.ref a,Ap (by rw[<-R.len];exact hl),tyL s,a,_,.non,rfl,rfl,s,by rw[sizeLine_eq];simp;omega,?_⟩;refine⟨H0,A0,A,_,(R.step λc u hc=>?_).blind hO,o⟩;have L:=s1 c u hc;rw[ay (az L h0),ay (az L hb0)];exact s2 c u L
  |rz C=>rw[q]at o;exact λH' s'=>o H' (R.same.trans (s1.trans s'))
  |no=>rw[q]at o;exact o.elim
 ·rw[et]at o;exact o H' (R.same.trans s')
 ·rw[et]at o;exact o.elim
end
structure kN (K:PySem.W.Frag) (H0:Hp) (A0:List Addr) (H:Hp) (A:List Addr) (O:List Nat) (δ:Ds) (σ:St) (i:Nat):Prop where
 r:a6 K H0 A0 H A O δ σ
 io:i∈O
 n:∃a ys,σ[i]?=some (some (.ref a))/\H a=some (.lst ys)/\cG H0 H ys
theorem kN.step (R:kN K H0 A0 H A O δ σ i) (s:ak H H1):kN K H0 A0 H1 A O δ σ i:=by obtain⟨r,io,a,ys,e,l,n⟩:=R;exact⟨r.step s,io,a,ys,e,s _ _ l,n.same s⟩
def xP (K:PySem.W.Frag) (E:XK) (H0:Hp) (A0:List Addr) (O:List Nat) (i:Nat) (r:Sr) (D:Ends):Prop:=match r with
 |.nx δ=>∀A σ H,kN K H0 A0 H A O δ σ i->D.nx σ H
 |.rt d=>∀v H,ak H0 H->Is K (del H A0) d v->D.rt v H
 |.rz C=>∀H,ak H0 H->E (.ref C) none H
 |.bk δ=>∀A σ H,a6 K H0 A0 H A O δ σ->D.bk σ H
 |.ct δ=>∀A σ H,a6 K H0 A0 H A O δ σ->D.ct σ H
 |.no=>False
def PSX (X:Cx) (E:XK) (O:List Nat) (i:Nat) (s:Stmt) (G:Ds->Sr):Prop:=PS X s λD σ H=>∃H0 A0 A δ,kN X.K H0 A0 H A O δ σ i/\xP X.K E H0 A0 O i (G δ) D
def sY (K:PySem.W.Frag) (E:XK) (O:List Nat) (i:Nat) (G:Ds->Sr):TS:=λD σ H=>∃H0 A0 A δ,kN K H0 A0 H A O δ σ i/\iI K E H0 A0 O (G δ) D
def PSY (X:Cx) (E:XK) (O:List Nat) (i:Nat) (s:Stmt) (G:Ds->Sr):Prop:=PS X s (sY X.K E O i G)
def PBY (X:Cx) (E:XK) (O:List Nat) (i:Nat) (ss:List Stmt) (G:Ds->Sr):Prop:=PSs X ss (sY X.K E O i G)
def bG (ds:List PyData):Bool:=ds.all λd=>match d with
 |.list l=>l.all bX
 |_=>false
def dD (i n:Nat) (ds:List PyData) (j:Nat) (row:List PyData):Ds:=(List.replicate n none).set i (some (.list (ds.set j (.list row))))
theorem rE {d:PyData} (f:bX d=true) (h:Is K H d v):Is K H' d v:=by cases d <;> first|(cases f;done)|(unfold Is at h ⊢;exact h)
theorem jb {K:PySem.W.Frag} {H H':Hp}:∀{ds:List PyData} {vs:List V},ds.all bX=true->Iss K H ds vs->Iss K H' ds vs
 |[],vs,_,h=>by cases h.nil_of;exact ck
 |d::ds,vs,f,h=>by obtain⟨v,r,rfl,h1,h2⟩:=h.cons_of;rw[AE,A3]at f;exact bB (rE f.1 h1) (jb f.2 h2)
theorem ll {K:PySem.W.Frag} {G G':Hp} {b:Addr} {g:List PyData} {i:List V} (k:∀c,c≠b->G' c=G c) (m:G' b=some (.lst i)) (o:Iss K G' g i):∀{ds:List PyData} {ys:List V} {j:Nat},bG ds=true->Iss K G ds ys->ys.Nodup->ys[j]?=some (.ref b)->Iss K G' (ds.set j (.list g)) ys
 |[],ys,j,_,h,_,e=>by cases h.nil_of;cases e
 |d::ds,ys,j,f,h,n,e=>by
  obtain⟨y,r,rfl,h1,h2⟩:=h.cons_of;unfold bG at f;rw[AE,A3]at f;obtain⟨n1,n2⟩:=AL.mp n;have keep:∀{d:PyData} {y:V},(match d with|.list l=>l.all bX|_=>false)=true->Is K G d y->y≠.ref b->Is K G' d y:=λ{d y} f h hn=>by
   split at f
   ·obtain⟨a,xs,rfl,ha,p⟩:=h.ofLst;exact eZ (by rw[k a (λw=>hn (by rw[w]))];exact ha) (jb f p)
   ·cases f
  cases j with
  |zero =>
   cases e;refine bB (eZ m o) ?_;have all:∀{ds:List PyData} {r:List V},(ds.all λd=>match d with|.list l=>l.all bX|_=>false)=true->Iss K G ds r->(.ref b)∉r->Iss K G' ds r:=by
    intro ds
    induction ds with
    |nil=>intro r _ h _;cases h.nil_of;exact ck
    |cons d ds ih =>intro r f h hn;obtain⟨y,r,rfl,h1,h2⟩:=h.cons_of;rw[AE,A3]at f;rw[Aa,not_or]at hn;exact bB (keep f.1 h1 (Ne.symm hn.1)) (ih f.2 h2 hn.2)
   exact all f.2 h2 n1
  |succ j =>rw[AZ]at e;refine bB (keep f.1 h1 λw=>n1 (by rw[w];exact AA e)) ?_;exact ll k m o (by unfold bG;exact f.2) h2 n2 e
theorem kN.rowput {g:List PyData} {h:List V} (R:kN K H0 A0 H A O δ σ i) (hd:δ[i]?=some (some (.list ds))) (ha:σ[i]?=some (some (.ref a))) (hl:H a=some (.lst ys)) (q:ys[j]?=some (.ref b)) (f:bG ds=true) (z:g.all bX=true) (B:Iss K H g h) :
  a6 K H0 A0 (upd H b (.lst h)) A O (dD i δ.length ds j g) σ:=by
 obtain⟨r,io,C,ys',p,x,n⟩:=R;rw[ha]at p;cases p;rw[hl]at x;cases x;obtain⟨C,xs,ds2,e1,l,m,e2,o⟩:=r.ownL io hd;rw[ha]at e1;cases e1;rw[hl]at m;cases m;cases e2;have hil:i<δ.length:=(Ar.mp hd).1;obtain⟨b',zs,D,s,hlb⟩:=n.2 _ (AA q);cases D;have y:b∉A++A0:=by
  obtain⟨d,E,hd⟩:=o.get q;have fd:=Ak.mp f d (AA E);split at fd
  ·obtain⟨c,us,F,hc,_⟩:=hd.ofLst;cases F;exact (ba hc).1
  ·cases fd
 have t:a≠b:=λw=>y (by rw[<-w];exact Av _ l)
 have only:∀(k:Nat) d,(dD i δ.length ds j g)[k]?=some (some d)->k=i/\d=.list (ds.set j (.list g)):=λk d e=>by
  unfold dD at e;rcases get_set e with⟨w,e⟩|⟨w,e⟩
  ·cases e;exact⟨w.symm,rfl⟩
  ·rw[AJ]at e;split at e <;> cases e
 refine⟨λc u e=>?_,r.ls0,r.new,λc hc=>?_,?_,λk d v e=>?_,λk d v e=>?_,λk I d d' c v hk' e p _ _=>?_⟩
 ·rw[ay (az e s)];exact r.same c u e
 ·by_cases w:c=b
  ·exact⟨_,by rw[w];exact aV,rfl⟩
  ·rw[ay w];exact r.ls c hc
 ·unfold dD;simp[r.len]
 ·obtain⟨rfl,_⟩:=only k d e;exact absurd io v
 ·obtain⟨rfl,rfl⟩:=only k d e;refine⟨a,_,_,ha,l,by rw[ay t];exact hl,rfl,?_⟩;show Iss K _ _ ys;exact ll (b:=b) (G:=del H (A++A0)) (λc hc=>by unfold del;rw[ay hc]) (by rw[aP y];exact aV) (jb z B) f o n.1 q
 ·rw[(only k d e).1,(only I d' p).1]
def atJ (ds:List PyData):PyData->Option (Nat×List PyData)
 |.int k=>(match ixN ds.length k with
  |some j=>(match ds[j]? with
   |some (.list row)=>some (j,row)
   |_=>none)
  |none=>none)
 |_=>none
theorem ml {k:PyData} (h:atJ ds k=some (j,row)):∃n,k=.int n/\ixN ds.length n=some j/\ds[j]?=some (.list row):=by
 unfold atJ at h;split at h
 ·split at h
  ·split at h
   ·rename_i e1 _ _ e2;cases h;exact⟨_,rfl,e1,e2⟩
   ·cases h
  ·cases h
 ·cases h
def jB (i:Nat) (gk ge:Ds->Rs PyData):Ds->Sr:=λδ=>match δ[i]? with
 |some (some (.list ds))=>ofR (gk δ) λk=>match atJ ds k with
  |some (j,row)=>ofR (ge δ) λd=>if bG ds=true/\bX d=true/\row.length<1000000 then .nx (dD i δ.length ds j (row++[d])) else .no
  |none=>.no
 |_=>.no
def jD (i:Nat) (gk gp ge:Ds->Rs PyData):Ds->Sr:=λδ=>match δ[i]? with
 |some (some (.list ds))=>ofR (gk δ) λk=>match atJ ds k with
  |some (j,row)=>ofR (gp δ) λp=>ofR (ge δ) λd=>match p with
   |.int p=>if bG ds=true/\bX d=true/\row.length<1000000/\0<=p/\p.toNat<=row.length then .nx (dD i δ.length ds j (row.take p.toNat++d::row.drop p.toNat)) else .no
   |_=>.no
  |none=>.no
 |_=>.no
def jL (i:Nat) (gk gp ge:Ds->Rs PyData):Ds->Sr:=λδ=>match δ[i]? with
 |some (some (.list ds))=>ofR (ge δ) λd=>ofR (gk δ) λk=>match atJ ds k with
  |some (j,row)=>ofR (gp δ) λp=>match p with
   |.int p=>(match ixN row.length p with
    |some q=>if bG ds=true/\bX d=true then .nx (dD i δ.length ds j (row.set q d)) else .no
    |none=>.no)
   |_=>.no
  |none=>.no
 |_=>.no
theorem mZ {p:PyData->Bool}:∀{l:List PyData} {k:Nat} {d:PyData},l.all p=true->p d=true->(l.set k d).all p=true
 |[],_,_,_,_=>rfl
 |a::l,0,d,h,hd=>by rw[AE,A3]at h;rw[List.set_cons_zero,AE,hd,h.2];rfl
 |a::l,k+1,d,h,hd=>by rw[AE,A3]at h;rw[List.set_cons_succ,AE,h.1,mZ h.2 hd];rfl
theorem hZ (f:bG ds=true) (h:ds[j]?=some (.list row)):row.all bX=true:=Ak.mp f _ (AA h)
section
variable {E:XK} {ss ss':List Stmt} {G G':Ds->Sr} {k q c:Expr} {ge gk gq:Ds->Rs PyData} {ca:Ds->Rs Bool}
theorem ng (h:PBD X E O ss G):PBY X E O i ss G:=PSs.imp h λD σ H a=>(by obtain⟨H0,A0,A,δ,R,o⟩:=a;exact⟨H0,A0,A,δ,R.r,o⟩)
theorem dR (h:PSY X E O i st G):PBY X E O i [st] G:=(dX h).imp λD σ H h=>h
theorem qP (h1:PSX X E O i st G) (h2:PBY X E O i ss G'):PBY X E O i (st::ss) (av G G'):=(bT h1 h2).imp λD σ H ⟨H0,A0,A,δ,R,o⟩=>⟨H0,A0,A,δ,R,by
 unfold av at o;cases q:G δ with
 |nx δ'=>rw[q]at o;exact λa σ' H' b=>⟨H0,A0,a,δ',b,o⟩
 |rz C=>rw[q]at o;exact o
 |rt d=>rw[q]at o;exact o
 |bk δ'=>rw[q]at o;exact o
 |ct δ'=>rw[q]at o;exact o
 |no=>rw[q]at o;exact o⟩
theorem xt (h1:PSY X E O i st G) (h2:PBD X E O ss G'):PBY X E O i (st::ss) (av G G'):=(bT h1 h2).imp λD σ H ⟨H0,A0,A,δ,R,o⟩=>⟨H0,A0,A,δ,R,by
 unfold av at o;cases q:G δ with
 |nx δ'=>rw[q]at o;exact λa σ' H' b=>⟨H0,A0,a,δ',b,o⟩
 |rz C=>rw[q]at o;exact o
 |rt d=>rw[q]at o;exact o
 |bk δ'=>rw[q]at o;exact o
 |ct δ'=>rw[q]at o;exact o
 |no=>rw[q]at o;exact o⟩
theorem gE (hc:PCD X E c ca) (h1:PBY X E O i ss G) (h2:PBY X E O i ss' G'):PSY X E O i (.If c ss ss' pos) (sIf ca G G'):=(mU hc h1 h2).imp λD σ H b=>by
 obtain⟨H0,A0,A,δ,R,o⟩:=b;unfold sIf at o;refine cD.run R.r.full (λt a H1 e R1=>?_) (λC a H' s'=>?_) (λa=>?_)
 ·rw[a]at o;cases t with
  |true=>exact⟨H0,A0,A,δ,R.step e,o⟩
  |false=>exact⟨H0,A0,A,δ,R.step e,o⟩
 ·rw[a]at o;exact o H' (R.r.same.trans s')
 ·rw[a]at o;exact o
theorem iB {m:Nat} (h:PD X E e ge) (j:X.N.Nodup) (g:m∉O) (hi:X.N[m]?=some x) (k:Loc X.env.scope x) (l:swapsWith e (some (.Name x pos')) pos.line X.env=pure false)
  (p:X.fn x=true\/X.env.scope.names.lookup x=some .local):PSX X E O i (.Assign [.Name x pos'] e pos) (dG m ge):=(gJ j hi k h l p).imp λD σ H c=>by
 obtain⟨H0,A0,A,δ,R,o⟩:=c;unfold dG at o;split at o
 ·rename_i hl;refine eD.run R.r.full (λd q v H1 s b hv=>?_) (λC f H' s'=>?_) (λf=>?_)
  ·rw[q]at o;have o:xP X.K E H0 A0 O i (if bZ d=true then .nx (δ.set m (some d)) else .no) D:=o;split at o
   ·rename_i hn;have b:=R.step s;obtain⟨a,ys,e1,l1,n1⟩:=b.n;refine o A _ _ ⟨b.r.set g hl ((hv.same aq).dl b.r.lsA hn),b.io,a,ys,eL (λw=>g (w▸b.io)) e1,l1,n1⟩
   ·exact o.elim
  ·rw[f]at o;exact o H' (R.r.same.trans s')
  ·rw[f]at o;exact o
 ·exact o.elim
theorem oN {ps z m:Pos} (Q:PD X E k gk) (h:PD X E e ge) (hi:X.N[i]?=some x) (hv:Vis X.env.scope x) (B:fj k)
  (hd:(x==("__debug__":Str))=false:=by decide) (G:(x==("__classdict__":Str))=false:=by decide) (p:starEach [e] X.env=(false,eval e X.env)::starEach [] X.env:=by rfl)
  (f:attributeBase (.Subscript (.Name x pn) k ps) "append" X.env (eval (.Subscript (.Name x pn) k ps) X.env)=eval (.Subscript (.Name x pn) k ps) X.env:=by rfl)
  (s:((backTo m (starEach [e] X.env)).all (λx=>!x.1)&&(backToKw m (keywordEach [] X.env)).all (λx=>x.1.isSome)&&decide (([e]:List Expr).length+([]:List Keyword).length+(if ([]:List Keyword).isEmpty then 0 else 1)<30))=true:=by rfl)
  (g:(z.endLine==m.line)=true:=by rfl) (S:swapsWith (.Call (.Attribute (.Subscript (.Name x pn) k ps) "append" z) [e] [] m) none pos.line X.env=pure false:=by rfl) :
  PSY X E O i (.Expr (.Call (.Attribute (.Subscript (.Name x pn) k ps) "append" z) [e] [] m) pos) (jB i gk ge) :=
 (fk (lH PySem.F.plainAttrs_list PySem.F.slot_list_append PySem.F.type_list_append eE (ij eF (d7 hi hv hd G) Q B) (bA h cR p) f s g p rfl) S).imp λD σ H I=>by
  obtain⟨H0,A0,A,δ,R,o⟩:=I;unfold jB at o;split at o
  ·rename_i ds q;obtain⟨a,ys,ds',e1,ha,hl,e2,K⟩:=R.r.ownL R.io q;cases e2;refine⟨_,e1,?_⟩;refine eD.run R.r.full (λkd T u H1 t U W=>?_) (λC l H' s'=>?_) (λl=>?_)
   ·simp only[T,aC]at o;split at o
    ·rename_i j row Y;obtain⟨n,rfl,hn,L⟩:=ml Y;cases W.ofInt;obtain⟨y,M,Z⟩:=K.getD L;obtain⟨b,zs,rfl,w,P⟩:=Z.ofLst;have w:=(ba w).2;refine⟨a,ys,n,.ref b,rfl,rfl,SqL.of (t _ _ hl),by unfold atI;rw[K.length,hn];exact M,tyL (t _ _ w),?_⟩;refine eD.run U (λd ed v H2 s2 R2 J=>?_) (λC l H' s'=>?_) (λl=>?_)
     ·simp only[ed,aC]at o;split at o
      ·rename_i hc;have c:=t.trans s2;refine⟨b,zs,v,rfl,rfl,c _ _ w,by rw[P.length,sizeLine_eq];omega,?_⟩;exact o A _ _ ((R.step c).rowput q e1 (c _ _ hl) M hc.1 (by rw[List.all_append,hZ hc.1 L];simp[hc.2.1]) ((P.same (aq.trans c)).append (fP (J.same aq))))
      ·exact o.elim
     ·simp only[l,dE]at o;exact o H' (R.r.same.trans (t.trans s'))
     ·simp only[l,dF]at o;exact o
    ·exact o.elim
   ·simp only[l,dE]at o;exact o H' (R.r.same.trans s')
   ·simp only[l,dF]at o;exact o
  ·exact o.elim
theorem p9 {ps J m:Pos} (Z:PD X E k gk) (hq:PD X E q gq) (h:PD X E e ge) (hi:X.N[i]?=some x) (hv:Vis X.env.scope x) (K:fj k)
  (hd:(x==("__debug__":Str))=false:=by decide) (L:(x==("__classdict__":Str))=false:=by decide) (t:starEach [q,e] X.env=(false,eval q X.env)::starEach [e] X.env:=by rfl) (w:starEach [e] X.env=(false,eval e X.env)::starEach [] X.env:=by rfl)
  (g:attributeBase (.Subscript (.Name x pn) k ps) "insert" X.env (eval (.Subscript (.Name x pn) k ps) X.env)=eval (.Subscript (.Name x pn) k ps) X.env:=by rfl)
  (z:((backTo m (starEach [q,e] X.env)).all (λx=>!x.1)&&(backToKw m (keywordEach [] X.env)).all (λx=>x.1.isSome)&&decide (([q,e]:List Expr).length+([]:List Keyword).length+(if ([]:List Keyword).isEmpty then 0 else 1)<30))=true:=by rfl)
  (l:(J.endLine==m.line)=true:=by rfl) (M:(backTo m (starEach [e] X.env)).any (·.1)=false:=by rfl) (hs:swapsWith (.Call (.Attribute (.Subscript (.Name x pn) k ps) "insert" J) [q,e] [] m) none pos.line X.env=pure false:=by rfl) :
  PSY X E O i (.Expr (.Call (.Attribute (.Subscript (.Name x pn) k ps) "insert" J) [q,e] [] m) pos) (jD i gk gq ge) :=
 (fk (lH PySem.F.plainAttrs_list PySem.F.slot_list_insert PySem.F.type_list_insert oG (ij eF (d7 hi hv hd L) Z K) (bA hq (bA h cR w) t) g z l t M) hs).imp λD σ H P=>by
  obtain⟨H0,A0,A,δ,R,o⟩:=P;unfold jD at o;split at o
  ·rename_i ds q;obtain⟨a,ys,ds',e1,ha,hl,e2,s⟩:=R.r.ownL R.io q;cases e2;refine⟨_,e1,?_⟩;refine eD.run R.r.full (λkd ek u H1 B R1 hu=>?_) (λC c H' s'=>?_) (λc=>?_)
   ·simp only[ek,aC]at o;split at o
    ·rename_i j row ej;obtain⟨n,rfl,hn,U⟩:=ml ej;cases hu.ofInt;obtain⟨y,W,hY⟩:=s.getD U;obtain⟨b,zs,rfl,I,Q⟩:=hY.ofLst;have I:=(ba I).2;refine⟨a,ys,n,.ref b,rfl,rfl,SqL.of (B _ _ hl),by unfold atI;rw[s.length,hn];exact W,tyL (B _ _ I),?_⟩;refine eD.run R1 (λp ep up H2 s2 R2 S=>?_) (λC c H' s'=>?_) (λc=>?_)
     ·simp only[ep,aC]at o;refine eD.run R2 (λd ed v H3 s3 R3 T=>?_) (λC c H' s'=>?_) (λc=>?_)
      ·simp only[ed,aC]at o;split at o
       ·rename_i p;cases S.ofInt;split at o
        ·rename_i hc;obtain⟨c1,c2,c3,c4,c5⟩:=hc;have f:=(B.trans s2).trans s3;refine⟨b,zs,v,p.toNat,rfl,by rw[Bb c4],f _ _ I,by rw[Q.length];exact c5,by rw[Q.length];exact c3,?_⟩;have G:=Q.same (aq.trans f);have Y:=hZ c1 U;exact o A _ _ ((R.step f).rowput q e1 (f _ _ hl) W c1 (by rw[List.all_append,AE,c2,A3,A3];exact⟨Ak.mpr λx s=>Ak.mp Y x (B7 s),rfl,Ak.mpr λx s=>Ak.mp Y x (B8 s)⟩) ((G.take _).append (bB (T.same aq) (G.drop _))))
        ·exact o.elim
       ·exact o.elim
      ·simp only[c,dE]at o;exact o H' (R.r.same.trans ((B.trans s2).trans s'))
      ·simp only[c,dF]at o;exact o
     ·simp only[c,dE]at o;exact o H' (R.r.same.trans (B.trans s'))
     ·simp only[c,dF]at o;exact o
    ·exact o.elim
   ·simp only[c,dE]at o;exact o H' (R.r.same.trans s')
   ·simp only[c,dF]at o;exact o
  ·exact o.elim
theorem qp {ps pt:Pos} (M:PD X E k gk) (P:PD X E q gq) (h:PD X E e ge) (hi:X.N[i]?=some x) (hv:Vis X.env.scope x) (l:fj k)
  (ha:∀v,assign (.Subscript (.Subscript (.Name x pn) k ps) q pt) X.env v=(do
   let ov <-holding [v] (eval (.Subscript (.Name x pn) k ps) X.env);let iv <-holding [v,ov] (eval q X.env)
   standAt pt
   holding [v,ov,iv] (setItem ov iv v)
   release [v,ov,iv] []))
  (hd:(x==("__debug__":Str))=false:=by decide) (s:(x==("__classdict__":Str))=false:=by decide)
  (Q:swapsWithSole [.Subscript (.Subscript (.Name x pn) k ps) q pt] e pos.line X.env=pure false:=by rfl) (hw:swappedStores [.Subscript (.Subscript (.Name x pn) k ps) q pt] e X.env=pure none:=by rfl)
  (h1:(assignEach [.Subscript (.Subscript (.Name x pn) k ps) q pt] X.env).map (·.2)=[assign (.Subscript (.Subscript (.Name x pn) k ps) q pt) X.env]:=by rfl) :
  PSY X E O i (.Assign [.Subscript (.Subscript (.Name x pn) k ps) q pt] e pos) (jL i gk gq ge) :=
 (o7 h (ph (ij eF (d7 hi hv hd s) M l) P set_list ha) Q hw h1).imp λD σ H t=>by
  obtain⟨H0,A0,A,δ,R,o⟩:=t;unfold jL at o;split at o
  ·rename_i ds q;obtain⟨a,ys,ds',e1,hA,hl,e2,F⟩:=R.r.ownL R.io q;cases e2;refine eD.run R.r.full (λd S v H1 G T w=>?_) (λC c H' s'=>?_) (λc=>?_)
   ·simp only[S,aC]at o;refine⟨_,e1,?_⟩;refine eD.run T (λkd U u H2 s2 R2 W=>?_) (λC c H' s'=>?_) (λc=>?_)
    ·simp only[U,aC]at o;split at o
     ·rename_i j row Y;obtain⟨n,rfl,hn,I⟩:=ml Y;cases W.ofInt;obtain⟨y,J,Z⟩:=F.getD I;obtain⟨b,zs,rfl,z,K⟩:=Z.ofLst;have z:=(ba z).2;have g:=G.trans s2;refine⟨a,ys,n,.ref b,rfl,rfl,SqL.of (g _ _ hl),by unfold atI;rw[F.length,hn];exact J,?_⟩;refine eD.run R2 (λp ep up H3 L R3 B=>?_) (λC c H' s'=>?_) (λc=>?_)
      ·simp only[ep,aC]at o;split at o
       ·rename_i p;cases B.ofInt;split at o
        ·rename_i m hm;split at o
         ·rename_i hc;have f:=g.trans L;refine⟨b,zs,p,m,rfl,rfl,f _ _ z,by rw[K.length];exact hm,?_⟩;exact o A _ _ ((R.step f).rowput q e1 (f _ _ hl) J hc.1 (mZ (hZ hc.1 I) hc.2) (Iss.set (w.same (aq.trans (s2.trans L))) m (K.same (aq.trans f))))
         ·exact o.elim
        ·exact o.elim
       ·exact o.elim
      ·simp only[c,dE]at o;exact o H' (R.r.same.trans (g.trans s'))
      ·simp only[c,dF]at o;exact o
     ·exact o.elim
    ·simp only[c,dE]at o;exact o H' (R.r.same.trans (G.trans s'))
    ·simp only[c,dF]at o;exact o
   ·simp only[c,dE]at o;exact o H' (R.r.same.trans s')
   ·simp only[c,dF]at o;exact o
  ·exact o.elim
end
section
variable {E:XK} {ss:List Stmt} {G':Ds->Sr} {gi:Ds->Rs (List PyData)} {cond:Ds->Rs Bool} {ge:Ds->Rs PyData} {tgt:PyData->Option Ds} {spos:Pos}
theorem rD (hc:X.calm=true) (hi:PID X E tg iter gi) (c:TgD X.K n0 (cm tg).length tgt g) (e:∀C s2 H2 fp,PG (bk X tg scope C s2 H2 fp) tg g) (b:∀C s2 H2 fp,PIf (bk X tg scope C s2 H2 fp) ifs cond) (f:∀C s2 H2 fp,PLD (bk X tg scope C s2 H2 fp) E0 elt gl) (a:∀δ,ge δ=gL gl δ)
  (hB:sW X tg scope=true) (h:∀x,foldedSetIterable iter X.env x=pure x):PE X (.ListComp elt [⟨tg,iter,ifs,0⟩] scope pos) (nD X.K E (a3 n0 gi cond ge tgt)) :=
 (lC (own:=cm tg) (te:=lD X.K E0 gl) hc hi e (λC s2 H2 fp=>(b C s2 H2 fp).pts) (λC s2 H2 fp=>f C s2 H2 fp) hB h).imp (m5 c a (PIf.tt (b 0 X.s₀ X.H₀ [])))
theorem rj (b:PBY X E O i ss G') (hc:X.calm=true) (m:X.N.Nodup) (hi:PID X E tg iter gi) (n:TgD X.K n0 (cm tg).length tgt g) (p:∀C s2 H2 fp,PG (bk X tg scope C s2 H2 fp) tg g) (k:∀C s2 H2 fp,PIf (bk X tg scope C s2 H2 fp) ifs cond) (r:∀C s2 H2 fp,PLD (bk X tg scope C s2 H2 fp) E0 elt gl) (c:∀δ,ge δ=gL gl δ)
  (l:i∈O) (e:X.N[i]?=some x) (u:Loc X.env.scope x) (f:swapsWith (.ListComp elt [⟨tg,iter,ifs,0⟩] scope pos) (some (.Name x pos')) spos.line X.env=pure true) (hB:sW X tg scope=true) (v:∀x,foldedSetIterable iter X.env x=pure x) (w:X.fn x=true\/X.env.scope.names.lookup x=some .local) :
  PBD X E O (.Assign [.Name x pos'] (.ListComp elt [⟨tg,iter,ifs,0⟩] scope pos) spos::ss) (av (gD O i (a3 n0 gi cond ge tgt)) G') :=
 (bT (t:=oY (nD X.K E (a3 n0 gi cond ge tgt)) (eW i)) (PS.imp (lp (own:=cm tg) (te:=lD X.K E0 gl) hc m e u f hi p (λC s2 H2 fp=>(k C s2 H2 fp).pts) (λC s2 H2 fp=>r C s2 H2 fp) hB v w) λD σ H h=>m5 n c (PIf.tt (k 0 X.s₀ X.H₀ [])) σ H _ h) b).imp λD σ H j=>by
  obtain⟨H0,A0,A,δ,R,o⟩:=j;unfold av gD at o;by_cases hl:i<δ.length
  case neg=>rw[if_neg hl]at o;exact o.elim
  rw[if_pos hl]at o;refine⟨A++A0,mask O δ,R.part,?_⟩;cases q:a3 n0 gi cond ge tgt (mask O δ) with
  |ok ds =>rw[q]at o;intro a xs H' hn s ha h y;exact⟨H0,A0,a::A,_,⟨R.setOwn l hl hn s ha h,l,a,xs,Ap (by rw[<-R.len];exact hl),ha,y.back R.same⟩,o⟩
  |rz C=>rw[q]at o;exact λH' s'=>o H' (R.same.trans s')
  |no=>rw[q]at o;exact o
end
noncomputable def fy (xs ys:List PyData):List PyData:=List.zipWith (λa b=>PyData.tuple [a,b]) xs ys
theorem p0 {es:List PyData} (h1:Iss K G ds xs) (h2:Iss K G es ys) (hl:ys.length=xs.length) (c:∀H1,ak G H1->SqT K H1 a xs) (f:∀H1,ak G H1->SqL K H1 b ys):oW K (Itz K a b xs.length) (fy ds es) G:=λH1 B s l hB=>by
 have l1:=h1.length;have l2:=h2.length;have m:(fy ds es).length=xs.length:=by unfold fy;rw[List.length_zipWith];omega
 rw[m];refine⟨λi hi=>⟨hi,xs,ys,c H1 s,f H1 s,rfl,hl⟩,⟨rfl,xs,ys,c H1 s,f H1 s,rfl,hl⟩,λi x H2 hi y=>?_⟩;obtain⟨t,n,p,rfl,g,rfl,r,u⟩:=y;obtain⟨d,e,hd⟩:=h1.get (r xs (c H1 s));obtain⟨d',v,h⟩:=h2.get (u ys (f H1 s));refine⟨aS g,.tuple [d,d'],by unfold fy;rw[List.getElem?_zipWith,e,v],?_⟩;have w:t∉B:=l.new g;have j:ak G (del (upd H1 t (.tup [n,p])) B):=λb o q=>by have k:=s b o q;have A:b≠t:=az k g;rw[aP (λz=>by rw[hB b z]at q;cases q),ay A];exact k
 exact fL (by rw[aP w];exact aV) (bB (hd.same j) (fP (h.same j)))
section
variable {E:XK} {a b:Expr}
def ui:List PyData->Rs (List PyData)
 |[.tuple xs,.list ys]=>if ys.length=xs.length then .ok (fy xs ys) else .no
 |_=>.no
def kL (g:Ds->Rs (List PyData)):Ds->Rs (List PyData):=λδ=>(g δ).bind ui
theorem su {l:Pos} (hm:X.mg "zip"=none) (ha:PAD X E [a,b] gs) (m:Gl X "zip") (n:starEach [a,b] X.env=[(false,eval a X.env),(false,eval b X.env)]) (c:starEach [b] X.env=[(false,eval b X.env)]) :
  PID X E (.Tuple elts k l) (.Call (.Name "zip" p) [a,b] [] pos) (kL gs):=(uH m hm ha.1 n c).imp λσ H R ⟨A,δ,Rp,o⟩=>rm Rp o λds vs H1 e s1 R1 h1 o=>by
 unfold ui at o;split at o
 ·split at o
  ·rename_i hl;obtain⟨v,u,rfl,h,h'⟩:=tW h1;obtain⟨p,xs,rfl,f,g⟩:=h.ofTup;obtain⟨q,ys,rfl,i,j⟩:=h'.ofLst;have l1:=g.length;have l2:=j.length;exact⟨p,q,xs,ys,rfl,SqT.of (aq _ _ f),SqL.of (aq _ _ i),by omega,o _ H1 (ak.refl _) (p0 g j (by omega) (λH2 s2=>SqT.of (s2 _ _ f)) λH2 s2=>SqL.of (s2 _ _ i))⟩
  ·exact o.elim
 ·exact o.elim
end
end L2
namespace RS
open PySem L2
def cH (cs:Cs):Ds->Sr :=
 (av (aJ [] 2 (g2 dIx (af 0) (gC (.int 0))))
  (av (aJ [] 3 (g2 dIx (af 0) (gC (.int 2))))
  (av (aJ [] 4 (g2 eB (gC (.int 0)) (af 3)))
  (av (f7 [] (dg (af 1)) (bL 5) (av (aJ [] 6 (gF dC (ae (af 4) (ae (g2 eB (af 5) (af 3)) aj))))
  (av (sIf (gT (g2 dGt (af 6) (af 5))) (aX (gC (.bool false))) aY)
  (aJ [] 4 (g2 aH (af 6) (af 2))))))
  (aX (gC (.bool true)))))))
def bF (cs:Cs) (ar aE:Gf):Ds->Sr :=
 (av (sIf (cOr (bY (gT (g1 (bQ "list") (af 1)))) (gT (g2 dGt (gF bj (ae (af 1) aj)) (gC (.int 60))))) (aX (gC (.bool false))) aY)
  (aX (oR (gF iN (ae (gL (a3 2 (dg (af 1)) bq (au ar (ae (af 2) (ae (gC (.int 0)) (ae (gC (.int 9999)) aj)))) bf)) aj)) (au aE (ae (af 0) (ae (af 1) aj))))))
def bw (cs:Cs) (dy aW:Gf):Ds->Sr :=
 (av (jK (au aW (ae (af 0) aj)))
  (av (sIf (cOr (bY (gT (g1 (bQ "list") (af 1)))) (gT (g2 dNe (gF bj (ae (af 1) aj)) (gF bj (ae (af 0) aj))))) (eV cs.NoComings (ae (gC (.str "comings are a list of one list for each errand")) aj)) aY)
  (av (sIf (bY (gT (gF iN (ae (gL (a3 2 (kL (ae (af 0) (ae (af 1) aj))) bq (au dy (ae (af 2) (ae (af 3) aj))) fG)) aj)))) (eV cs.NoComings (ae (gC (.str "an errand can not come so")) aj)) aY)
  (aX (gL (a3 2 (dg (af 1)) bq (gF dZ (ae (af 2) aj)) bf))))))
def bD (cs:Cs) (ai:Gf):Ds->Sr :=
 (av (aJ [6] 4 (au ai (ae (af 0) (ae (af 1) (ae (g2 km (gC (.int 10)) (gC (.int 9))) aj)))))
  (av (aJ [6] 5 (g2 eB (g2 bc (af 4) (g2 aH (g2 dIx (af 2) (gC (.int 0))) (gC (.int 2)))) (g2 dIx (af 2) (gC (.int 2)))))
  (av (gD [6] 6 aj)
  (av (aJ [6] 7 (gC (.int 0)))
  (av (λδ=>cV (mr (gT (g2 dLt (g2 aH (af 5) (g2 dIx (af 2) (gC (.int 2)))) (af 3))) (gT (g2 dLt (gF bj (ae (af 6) aj)) (gC (.int 60))))) (av (aJ [6] 8 (g2 bc (g2 cK (g2 aH (g2 aH (af 4) (g2 cK (g2 cK (gC (.int 104729)) (af 7)) (af 7))) (g2 cK (gC (.int 7919)) (af 7))) (gC (.int 48271))) (gC (.int 2147483647))))
  (av (aJ [6] 9 (gF dC (ae (gC (.int 0)) (ae (g2 aH (af 5) (g2 bc (g2 cJ (af 8) (gC (.int 7))) (g2 aH (g2 dIx (af 2) (gC (.int 2))) (gC (.int 1))))) aj))))
  (av (sIf (gT (g2 dNe (af 6) (dJ aj))) (dG 9 (gF dC (ae (af 9) (ae (g2 aH (g2 dIx (af 6) (g1 c9 (gC (.int 1)))) (gC (.int 1))) aj)))) aY)
  (av (fN [6] 6 (af 9))
  (av (aJ [6] 5 (g2 aH (af 5) (g2 dIx (af 2) (gC (.int 0)))))
  (av (sIf (gT (g2 dEq (g2 bc (g2 cJ (af 8) (gC (.int 61))) (gC (.int 3))) (gC (.int 0)))) (aJ [6] 5 (g2 aH (af 5) (g2 bc (g2 cJ (af 8) (gC (.int 997))) (g2 dIx (af 2) (gC (.int 0)))))) aY)
  (aJ [6] 7 (g2 aH (af 7) (gC (.int 1)))))))))) 1000000 δ)
  (aX (af 6)))))))
def cc (cs:Cs) (aG:Gf):Ds->Sr :=
 (aX (gL (a3 4 (fO (ae (gF bj (ae (af 2) aj)) aj)) bq (au aG (ae (af 0) (ae (g2 aH (af 1) (af 4)) (ae (g2 dIx (af 2) (af 4)) (ae (af 3) aj))))) bf)))
def br (cs:Cs):Ds->Sr :=
 (av (aJ [] 2 (g1 c9 (gC (.int 1000))))
  (av (aJ [] 3 (g1 c9 (gC (.int 1))))
  (av (f7 [] (dg (af 1)) (bL 4) (av (sIf (cOr (gT (g1 (bQ "bool") (af 4))) (cOr (bY (gT (g1 (bQ "int") (af 4)))) (cOr (gT (g2 dLe (af 4) (af 3))) (gT (g2 dGt (af 4) (gC (.int 9999))))))) (aX (gC (.bool false))) aY)
  (av (aJ [] 2 (gF dC (ae (g2 aH (af 2) (g2 dIx (af 0) (gC (.int 0)))) (ae (g2 eB (af 4) (g2 dIx (af 0) (gC (.int 2)))) aj))))
  (av (sIf (gT (g2 dGt (af 2) (af 4))) (aX (gC (.bool false))) aY)
  (aJ [] 3 (af 4))))))
  (aX (g2 dLe (gF bj (ae (af 1) aj)) (gC (.int 60)))))))
def fM (cs:Cs) (a:Gf):Ds->Sr :=
 (pG cs.NoComings 2 a (ae (af 0) (ae (af 1) aj)) (.str "none"))
def cF (cs:Cs):Ds->Sr :=
 (av (gD [2] 2 (a3 6 (dg (af 0)) bq (gF dZ (ae (af 6) aj)) bf))
  (av (dG 3 (g2 bc (g2 cJ (af 1) (gC (.int 12))) (gF bj (ae (af 2) aj))))
  (av (dG 4 (g2 bc (af 1) (gC (.int 12))))
  (av (dG 5 (g2 bc (g2 cJ (af 1) (gC (.int 97))) (g2 aH (gF bj (ae (g2 dIx (af 2) (af 3)) aj)) (gC (.int 1)))))
  (av (sIf (mr (gT (g2 dLt (af 4) (gC (.int 4)))) (gT (g2 dLt (af 5) (gF bj (ae (g2 dIx (af 2) (af 3)) aj))))) (jL 2 (af 3) (af 5) (g2 aH (g2 dIx (g2 dIx (af 2) (af 3)) (af 5)) (g2 dIx (dJ (ae (g1 c9 (gC (.int 1))) (ae (gC (.int 1)) (ae (g1 c9 (gC (.int 3))) (ae (gC (.int 2)) aj))))) (af 4)))) (sIf (gT (g2 dLt (af 4) (gC (.int 7)))) (jD 2 (af 3) (af 5) (g2 dIx (dJ (ae (g2 bc (af 1) (gC (.int 90))) (ae (g1 c9 (gC (.int 1))) (ae (gC (.bool true)) aj)))) (g2 bc (af 4) (gC (.int 3))))) (sIf (gT (g2 dEq (af 4) (gC (.int 7)))) (jk 2 (af 3) (gF cQ (ae (g2 dIx (af 2) (af 3)) aj))) (sIf (gT (g2 dEq (af 4) (gC (.int 8)))) (fN [2] 2 (dJ aj)) (sIf (gT (g2 dEq (af 4) (gC (.int 9)))) (aX (gF cQ (ae (af 2) aj))) (sIf (gT (g2 dEq (af 4) (gC (.int 10)))) (jB 2 (af 3) (gC .none)) (aX (g2 dIx (dJ (ae (gC .none) (ae (fK (af 2) (iC (gC (.int 1))) fm) (ae (g2 dIx (af 2) (gC (.int 0))) aj)))) (g2 bc (g2 cJ (af 1) (gC (.int 12))) (gC (.int 3)))))))))))
  (aX (af 2)))))))
def cf (cs:Cs) (aN:Gf):Ds->Sr :=
 (av (sIf (cOr (bY (gT (g1 (bQ "list") (af 1)))) (gT (g2 dNe (gF bj (ae (af 1) aj)) (gF bj (ae (af 0) aj))))) (aX (gC (.bool false))) aY)
  (av (f7 [] (kL (ae (af 0) (ae (af 1) aj))) (gX [2,3]) (sIf (cOr (bY (gT (g1 (bQ "list") (af 3)))) (bY (gT (au aN (ae (af 2) (ae (af 3) aj)))))) (aX (gC (.bool false))) aY))
  (aX (gC (.bool true)))))
def nH (cs:Cs) (cA bg ai bz a a8 aO:Gf):Ds->Sr :=
 (av (aJ [] 1 (au aO (ae (af 0) (ae (gC (.int 8)) (ae (gC (.int 4)) (ae (gC (.int 28)) (ae (gC (.bool true)) aj)))))))
  (av (aJ [] 2 (au a8 (ae (af 0) (ae (gC (.int 0)) (ae (af 1) (ae (gC (.int 60)) aj))))))
  (av (aJ [] 3 (au a (ae (af 1) (ae (af 2) aj))))
  (av (sIf (gT (g2 dNe (af 3) (af 2))) (aX (gC (.bool false))) aY)
  (av (aJ [] 4 (gL (a3 8 (dg (af 2)) bq (gF dZ (ae (af 8) aj)) bf)))
  (av (sFr 5 a (ae (af 1) (ae (af 4) aj)))
  (av (sIf (gT (g2 dNe (af 4) (af 2))) (aX (gC (.bool false))) aY)
  (av (aJ [] 6 (au bz (ae (af 2) (ae (au ai (ae (af 0) (ae (gC (.int 5)) (ae (g2 km (gC (.int 10)) (gC (.int 6))) aj)))) aj))))
  (av (aJ [] 7 (gC (.str "none")))
  (av (sIf (gT (au bg (ae (af 1) (ae (af 6) aj)))) (aJ [] 7 (af 6)) aY)
  (aX (g2 dEq (au cA (ae (af 1) (ae (af 6) aj))) (af 7)))))))))))))
end RS
set_option maxHeartbeats 1000000
namespace RS
open PySem L2
def fx (ns:List Int) (a:Int) (many:Nat):Nat->List Int×List Int
 |0=>((List.range many).map λ(i:Nat)=>(i:Int),[])
 |i+1=>((fx ns a many i).1.eraseIdx (mixed ns (a+(i:Int)) ((fx ns a many i).1.length:Int)).toNat,(fx ns a many i).2++[(fx ns a many i).1.getD (mixed ns (a+(i:Int)) ((fx ns a many i).1.length:Int)).toNat 0])
def ig (ns:List Int) (a:Int) (many:Nat):List Int:=(fx ns a many many).2
theorem i6 {α:Type}:∀(l:List α) (j:Nat) (h:j<l.length),(l[j]::l.eraseIdx j).Perm l
 |[],j,h=>by simp at h
 |x::r,0,h=>by simp
 |x::r,j+1,h=>by
  simp only[List.getElem_cons_succ,List.eraseIdx_cons_succ];have h':j<r.length:=by simpa using h
  exact (List.Perm.swap _ _ _).trans ((i6 r j h').cons x)
theorem lh (ns:List Int) (a:Int) (many:Nat):∀i,i<=many->(fx ns a many i).1.length=many-i/\(fx ns a many i).2.length=i/\((fx ns a many i).1++(fx ns a many i).2).Perm ((List.range many).map λ(i:Nat)=>(i:Int))
 |0,_=>⟨by simp[fx],rfl,by simp[fx]⟩
 |i+1,h=>by
  obtain⟨h1,h2,e⟩:=lh ns a many i (by omega);simp only[fx];generalize (fx ns a many i).1=L at *;generalize (fx ns a many i).2=M at *;have c:0<(L.length:Int):=by omega
  have m0:=bt ns (a+(i:Int)) c;have m1:=bH ns (a+(i:Int)) c;generalize mixed ns (a+(i:Int)) (L.length:Int)=z at *;have b:z.toNat<L.length:=by omega
  refine⟨by rw[List.length_eraseIdx_of_lt b];omega,by simp[h2],?_⟩;refine List.Perm.trans ?_ e;rw[AG,A5 b,Option.getD_some];have p1:(L[z.toNat]::L.eraseIdx z.toNat).Perm L:=i6 L z.toNat b;have p2:(L.eraseIdx z.toNat++(M++[L[z.toNat]])).Perm ((L[z.toNat]::L.eraseIdx z.toNat)++M):=by rw[<-List.append_assoc];exact (List.perm_append_singleton _ _)
  exact p2.trans (p1.append_right M)
theorem mq (ns:List Int) (a:Int) (many:Nat):uk many (ig ns a many):=by
 obtain⟨h1,h2,b⟩:=lh ns a many many (Ac _);unfold ig;have e:(fx ns a many many).1=[]:=AR.mp (by omega);rw[e,AU]at b;refine⟨h2,λr c=>?_,b.nodup_iff.mpr ?_⟩
 ·obtain⟨k,g,rfl⟩:=Ah.mp (b.mem_iff.mp c);have:=List.mem_range.mp g;omega
 ·exact (List.nodup_range).map (f:=λ(i:Nat)=>(i:Int)) λx y h=>by intro q;have q:(x:Int)=(y:Int):=q;exact h (by omega)
def eJ:Gf
 |[s,.int a,.int many]=>(match cM s with
  |some ns=>if 0<=a/\0<=many/\many<=100 then .ok (oQ (ig ns a many.toNat)) else .no
  |none=>.no)
 |_=>.no
theorem g9 {a:Int} (h1:0<=a) (h2:0<=many) (b:many<=100):eJ [ah ns,.int a,.int many]=.ok (oQ (ig ns a many.toNat)):=by unfold eJ;simp[cU,h1,h2,b]
noncomputable def hvM (every late:Int):Int->List Int->Bool
 |_,[]=>true
 |m,c::r=>if c<(if c-late>m then c-late else m) then false else hvM every late ((if c-late>m then c-late else m)+every) r
def hvE (e:Er) (ns:List Int):Bool:=hvM e.every e.late (0-e.late) ns
def aE:Gf
 |[d,.list xs]=>if nM d then (match fZ xs with|some ns=>.ok (.bool (hvE (deE d) ns))|none=>.no) else .no
 |_=>.no
theorem dz {e:Er} (h:e.Sh):aE [e.d,.list (ns.map PyData.int)]=.ok (.bool (hvE e ns)):=by unfold aE;simp only[m6 h,if_true,ft,ur]
def hvB:Ds->Sr:=(av (aJ [] 6 (gF dC (ae (af 4) (ae (g2 eB (af 5) (af 3)) aj))))
 (av (sIf (gT (g2 dGt (af 6) (af 5))) (aX (gC (.bool false))) aY)
 (aJ [] 4 (g2 aH (af 6) (af 2)))))
theorem mY (E L:PyData) (every late:Int):∀(ns:List Int) (m:Int) (b a:Option PyData),
   (hvM every late m ns=true/\∃δ,forL (bL 5) hvB (ns.map PyData.int) [some E,some L,some (.int every),some (.int late),some (.int m),b,a]=.nx δ)
  \/(hvM every late m ns=false/\forL (bL 5) hvB (ns.map PyData.int) [some E,some L,some (.int every),some (.int late),some (.int m),b,a]=.rt (.bool false))
 |[],m,b,a=>.inl ⟨rfl,_,rfl⟩
 |c::r,m,b,a=>by
   have h1:bL 5 (.int c) [some E,some L,some (.int every),some (.int late),some (.int m),b,a]=some [some E,some L,some (.int every),some (.int late),some (.int m),some (.int c),a]:=rfl;rw[Au];unfold forL;rw[h1];unfold hvM;by_cases hc:c<(if c-late>m then c-late else m)
   ·have e:hvB [some E,some L,some (.int every),some (.int late),some (.int m),some (.int c),a]=.rt (.bool false):=by simp[hvB,hc]
    refine .inr ⟨if_pos hc,?_⟩;simp only[e]
   ·have e:hvB [some E,some L,some (.int every),some (.int late),some (.int m),some (.int c),a]=.nx [some E,some L,some (.int every),some (.int late),some (.int ((if c-late>m then c-late else m)+every)),some (.int c),some (.int (if c-late>m then c-late else m))]:=by simp[hvB,hc]
    rw[if_neg hc];simp only[e];exact mY E L every late r _ _ _
theorem rg {f:PyData->List PyData->Rs PyData} (h:(match ds with|[b,.list a]=>f b a|_=>.no)≠.no):∃b a,ds=[b,.list a]/\f b a≠.no:=by
 rcases ds with _|⟨b,_|⟨a,_|⟨y,ys⟩⟩⟩
 ·exact absurd rfl h
 ·exact absurd rfl h
 ·skip
  cases a with
  |list a =>exact⟨_,_,rfl,h⟩
  |_=>exact absurd rfl h
 ·first|exact absurd rfl h|(cases a <;> exact absurd rfl h)
theorem iX (cs:Cs):LLq (cH cs) 2 5 aE:=by
 intro ds hl a;obtain⟨d,xs,g,f⟩:=rg a;clear a;subst g;have a:=f;clear f
 ·skip
  split at a
  ·rename_i hd;split at a
   ·rename_i ns h;have b:=dB h;subst b;obtain⟨e1,sh⟩:=ua hd;rw[<-e1,dz sh];generalize deE d=e at *;show a7 (cH cs [some e.d,some (.list (ns.map PyData.int)),none,none,none,none,none])=_;unfold cH;have a0:dIx e.d (.int 0)=some (.int e.every):=rfl;have a2:dIx e.d (.int 2)=some (.int e.late):=rfl;simp only[aK,nr,b9,aM,aL,dP,Rs.ag,a0,a2,Rs.ao,aC,kS];have i:=mY e.d (.list (ns.map PyData.int)) e.every e.late ns (0-e.late) none none;have j:f7 [] (dg (af 1)) (bL 5) hvB [some e.d,some (.list (ns.map PyData.int)),some (.int e.every),some (.int e.late),some (.int (0-e.late)),none,none]=forL (bL 5) hvB (ns.map PyData.int) [some e.d,some (.list (ns.map PyData.int)),some (.int e.every),some (.int e.late),some (.int (0-e.late)),none,none]:=rfl;show a7 (match f7 [] (dg (af 1)) (bL 5) hvB [some e.d,some (.list (ns.map PyData.int)),some (.int e.every),some (.int e.late),some (.int (0-e.late)),none,none] with|.nx c=>aX (gC (.bool true)) c|r=>r)=_;rw[j];rcases i with⟨h1,δ,h2⟩|⟨h1,h2⟩
    ·rw[h2];show Rs.ok _=_;unfold hvE;rw[h1]
    ·rw[h2];show Rs.ok _=_;unfold hvE;rw[h1]
   ·exact absurd rfl a
  ·exact absurd rfl a
structure gR (ns:List Int):Prop where
 few:ns.length<=60
 lo:∀c∈ns,0<=c
 hi:∀c∈ns,c<=9999
def jT (ns:List Int):Bool:=decide (ns.length<=60)&&ns.all λc=>decide (0<=c)&&decide (c<=9999)
theorem jw:jT ns=true↔gR ns:=by
 unfold jT;rw[A3,decide_eq_true_eq,Ak];constructor
 ·rintro⟨h1,h2⟩
  refine⟨h1,λc hc=>?_,λc hc=>?_⟩
  ·have:=h2 c hc;rw[A3,decide_eq_true_eq,decide_eq_true_eq]at this;exact this.1
  ·have:=h2 c hc;rw[A3,decide_eq_true_eq,decide_eq_true_eq]at this;exact this.2
 ·rintro⟨h1,h2,a⟩
  refine⟨h1,λc hc=>?_⟩;rw[A3,decide_eq_true_eq,decide_eq_true_eq];exact⟨h2 c hc,a c hc⟩
def dy:Gf
 |[d,.list xs]=>if nM d then (match fZ xs with|some ns=>if jT ns then .ok (.bool (hvE (deE d) ns)) else .no|none=>.no) else .no
 |_=>.no
theorem f6 {e:Er} (h:e.Sh) (a:gR ns):dy [e.d,.list (ns.map PyData.int)]=.ok (.bool (hvE e ns)):=by unfold dy;simp only[m6 h,if_true,ft,ur,jw.mpr a]
theorem eY (ns:List Int):ax (.list (ns.map PyData.int))=true:=by
 induction ns with
 |nil=>rfl
 |cons a r ih =>
  have:ax (.list (PyData.int a::r.map PyData.int))=ax (.list (r.map PyData.int)):=by simp[ax,df]
  rw[Au,this];exact ih
theorem o6 (cs:Cs):LLq (bF cs ar aE) 2 0 dy:=by
 intro ds hl a;obtain⟨d,xs,i,g⟩:=rg a;clear a;subst i;have a:=g;clear g
 ·skip
  split at a
  ·rename_i hd;split at a
   ·rename_i ns j;split at a
    ·rename_i k;have f:=dB j;subst f;obtain⟨e1,sh⟩:=ua hd;have R:=jw.mp k;rw[<-e1,f6 sh R];generalize deE d=e at *;show a7 (bF cs ar aE [some e.d,some (.list (ns.map PyData.int))])=_;have l:bQ "list" (.list (ns.map PyData.int))=some (.bool true):=by unfold bQ;rw[if_pos (eY ns)];rfl
     have hc:a3 2 (dg (af 1)) bq (au ar (ae (af 2) (ae (gC (.int 0)) (ae (gC (.int 9999)) aj)))) bf [some e.d,some (.list (ns.map PyData.int))]=.ok ((ns.map PyData.int).map λd=>.bool (isWhole d 0 9999)) :=
      bW rfl rfl (by have:=R.few;rw[A7];omega) λd b=>by obtain⟨c,hc,rfl⟩:=Ah.mp b;simp only[bN,aB,a5,B3,AU,aM,aL,dP,Rs.ag];exact gZ rfl
     have h:=fg (λd=>isWhole d 0 9999) (ns.map PyData.int);have ha:(ns.map PyData.int).all (λd=>isWhole d 0 9999)=true:=by rw[Ak];intro d b;obtain⟨c,hc,rfl⟩:=Ah.mp b;have h1:=R.lo c hc;have h2:=R.hi c hc;simp[isWhole,h1,h2]
     rw[ha]at h;have hn:¬ ((60:Int)<((ns.map PyData.int).length:Int)):=by have:=R.few;rw[A7];omega
     unfold bF;simp only[aK,de,fA,cP,cT,hV,b9,fI,aB,a5,aM,aL,dP,Rs.ag,l,Rs.ao,aU,qd,wm,Bool.not_true,Be,if_false,decide_eq_false hn,aC,sV,cO,pA,lQ,hc,h,bN,dz sh,if_true,gM]
    ·exact absurd rfl a
   ·exact absurd rfl a
  ·exact absurd rfl a
inductive Fa2 {α β:Type} (R:α->β->Prop):List α->List β->Prop where
 |nil:Fa2 R [] []
 |cons {a:α} {b:β} {l:List α} {m:List β} (h:R a b) (t:Fa2 R l m):Fa2 R (a::l) (b::m)
section
variable {A B:List Int} {x y:Int}
end
section
variable {rs ot:List Int} {n:Int}
end
theorem gu:∀{ds:List PyData},(∀d∈ds,ax d=true)->df ds=true
 |[],_=>by unfold df;rfl
 |d::r,h=>by unfold df;rw[h d Ad,gu λe a=>h e (Ab _ a)];rfl
theorem eH (h:∀d∈ds,ax d=true):ax (.tuple ds)=true:=by unfold ax;exact gu h
theorem cu (h:∀d∈ds,ax d=true):ax (.list ds)=true:=by unfold ax;exact gu h
theorem ei (i:Int):ax (.int i)=true:=by unfold ax;rfl
theorem oA (o:Option Int):ax (iG o)=true:=by cases o <;> (unfold iG ax;rfl)
theorem lT (p:Int×Option Int):ax (bo p)=true:=eH λd hd=>by
 rcases Aa.mp hd with rfl|hd
 ·exact ei _
 ·cases Aj.mp hd;exact oA _
theorem qb (e:Er):ax e.d=true:=eH λd hd=>by
 rcases Aa.mp hd with rfl|hd
 ·exact ei _
 ·rcases Aa.mp hd with rfl|hd
  ·exact ei _
  ·rcases Aa.mp hd with rfl|hd
   ·exact ei _
   ·cases Aj.mp hd;exact eH λd hd=>by obtain⟨p,_,rfl⟩:=Ah.mp hd;exact lT p
theorem oE (es:List Er):ax (aF es)=true:=eH λd hd=>by obtain⟨p,_,rfl⟩:=Ah.mp hd;exact qb p
theorem iR (rs:List Int):∀d∈rs.map PyData.int,ax d=true:=λd hd=>by obtain⟨p,_,rfl⟩:=Ah.mp hd;exact ei p
end RS
namespace RS
open PySem PySem.Spec PyProof.Rows L2
section
theorem kr {xs:List α} {k:Int} {v:α} (a:0<=k) (h:xs[k.toNat]?=some v):atI xs k=some v:=by
 have:=fq h
 rwa[Bb a]at this
theorem depthAll_ints:∀ns:List Int,PyData.depthAll (ns.map PyData.int)<=1
 |[]=>by simp[PyData.depthAll]
 |n::r=>by have:=depthAll_ints r;simp only[Au,PyData.depthAll,PyData.depth];omega
theorem gS:∀ns:List Int,PyData.canLayAll0 (ns.map PyData.int)=true
 |[]=>by simp[PyData.canLayAll0]
 |n::r=>by simp[PyData.canLayAll0,PyData.canLay0,gS r]
theorem shaped_ints (ns:List Int):SeqAt.shaped (.list (ns.map PyData.int))=true:=by
 have:=depthAll_ints ns;have h2:(PyData.list (ns.map PyData.int)).depth<=64:=by simp only[PyData.depth];omega
 simp[SeqAt.shaped,PyData.canLay0,gS,h2]
theorem lX:SeqAt.shaped (.list [])=true:=shaped_ints []
theorem qD:∀ns:List Int,PyData.eqv (.list (ns.map PyData.int)) (.list [])=decide (ns=[])
 |[]=>by simp[PyData.eqv,PyData.eqvAll]
 |_::_=>by simp[PyData.eqv,PyData.eqvAll]
def pF (K:PySem.W.Frag):Sp:=λvs H Q _=>∃(a:Addr) (ns:List Int) (k:Int),vs=[.ref a,.int k]/\SqL K H a (ns.map V.int)/\0<=k/\∀H',ak H H'->Q (.int (cellAt ns k)) H'
def um (K:PySem.W.Frag):Sp:=λvs H Q _=>∃(a:Addr) (ns:List Int) (k many:Int),vs=[.ref a,.int k,.int many]/\SqL K H a (ns.map V.int)/\0<=k/\0<many/\∀H',ak H H'->Q (.int (mixed ns k many)) H'
theorem sC (ds:List PyData) (hl:ds.length=3) (b:ai ds≠.no):∃d,ai ds=.ok d/\bX d=true/\∀vs H Q,Iss K H ds vs->(∀v H',ak H H'->IsD K H' d v->Q v H')->um K vs H Q E0:=by
 obtain⟨s,k,many,e,c⟩:=kB b;clear b;subst e;have b:=c;clear c
 ·skip
  split at b
  ·rename_i ns f;have es:=e6 f;subst es;split at b
   ·rename_i hc;refine⟨_,bp hc.1 hc.2,rfl,λvs H Q hi g=>?_⟩;obtain⟨v0,r0,rfl,h,v1,r1,rfl,h1,v2,r2,rfl,h2,rfl⟩:=hi;obtain⟨a,rfl,i⟩:=h.ofScript;rw[h1.ofInt,h2.ofInt];exact⟨a,ns,k,many,rfl,i,hc.1,hc.2,λH' s'=>g _ _ s' ky⟩
   ·exact absurd rfl b
  ·exact absurd rfl b
end
end RS
namespace RS
open PySem L2
section
variable {rs:List Int} {n:Int}
end
theorem c7 (h:ax (.list l)=true):bQ "list" (.list l)=some (.bool true):=by unfold bQ;rw[h];rfl
theorem qX (ns:List Int) (a top:Int) (ha:0<=a) (g:0<top) (b:top<=58):∃es rs,hU ns a 4 top true=es/\1<=es.length/\es.length<=4/\(∀e∈es,e.Ok)/\uk es.length rs/\aO [ah ns,.int a,.int 4,.int top,.bool true]=.ok (aF es)/\eJ [ah ns,.int 0,.int (es.length:Int)]=.ok (oQ rs):=by have hl:=qA ns a 4 top true (by decide);have hok:=rq ns a 4 top true g b;have f:aO [ah ns,.int a,.int 4,.int top,.bool true]=.ok (aF (hU ns a 4 top true)):=dW ha (by decide) (by decide) g b;generalize hU ns a 4 top true=es at *;have c:=g9 (ns:=ns) (a:=0) (many:=(es.length:Int)) (by decide) (by omega) (by omega);rw[Aw]at c;exact⟨es,_,rfl,hl.1,by omega,hok,mq ns 0 es.length,f,c⟩
theorem yC (es:List Er):bj [aF es]=some (.int (es.length:Int)):=by unfold aF;rw[wd,A7]
theorem lawT_of {G:Ds->Sr} (h:∀ns:List Int,G (some (ah ns)::List.replicate k none)=.rt (.bool true)):∀ds,ds.length=1->cX n ds≠.no->a7 (G (ds.map some++List.replicate k none))=cX n ds:=by
 intro ds hl a
 match ds,hl with
 |[s],_ =>
  unfold cX at a ⊢;simp only at a ⊢;split at a
  ·rename_i ns b;have es:=e6 b;subst es;split at a
   ·rename_i hc;simp only[cU,if_pos hc];show a7 (G (some (ah ns)::List.replicate k none))=_;rw[h];rfl
   ·exact absurd rfl a
  ·exact absurd rfl a
theorem jr (cs:Cs) (h1:1<=es.length) (h2:es.length<=6) (h:∀e∈es,e.Ok):aW cs [aF es]=.ok (aF es):=by unfold aW;simp[oE,kD h1 h2 h]
noncomputable def a9 (r:List Int):PyData:=.list (r.map PyData.int)
def cmD (rows:List (List Int)):PyData:=.list (rows.map a9)
inductive Cms:List Er->List (List Int)->Prop
 |nil:Cms [] []
 |cons {e:Er} {r:List Int} {es:List Er} {rows:List (List Int)}:gR r->hvE e r=true->Cms es rows->Cms (e::es) (r::rows)
theorem Cms.len (h:Cms es rows):rows.length=es.length:=by
 induction h with
 |nil=>rfl
 |cons _ _ _ ih=>simp[ih]
theorem Cms.jT (h:Cms es rows):∀r∈rows,gR r:=by
 induction h with
 |nil=>intro r a;cases a
 |cons a _ _ ih =>
  intro b h';rcases Aa.mp h' with rfl|h'
  ·exact a
  ·exact ih b h'
structure xn (es:List Er):Prop where
 l1:1<=es.length
 l6:es.length<=6
 ok:∀e∈es,e.Ok
theorem fE (rows:List (List Int)):ax (cmD rows)=true:=by
 unfold cmD
 induction rows with
 |nil=>rfl
 |cons a r ih =>
  have h1:=eY a;have:ax (.list (a9 a::r.map a9))=(ax (a9 a)&&ax (.list (r.map a9))):=by simp[ax,df]
  rw[Au,this,ih];simp only[Bool.and_true];exact h1
structure Jb where
 num:Int
 parts:List (Int×Option Int)
 rank:Int
 row:List Int
 job:Nat
 part:Nat
 spent:Nat
section
variable {j:Jb}
end
def gfG (n k:Nat) (G:Ds->Sr):Gf:=λds=>if ds.length=n then a7 (G (ds.map some++List.replicate k none)) else .no
theorem gQ {G:Ds->Sr}:∀ds,ds.length=n->gfG n k G ds≠.no->a7 (G (ds.map some++List.replicate k none))=gfG n k G ds:=by intro ds hl _;unfold gfG;rw[if_pos hl]
def Jb.tool (j:Jb):Option Int:=(j.parts[j.part]?.map (·.2)).getD none
def Jb.held (j:Jb):Option Int:=if j.spent=0 then none else j.tool
section
variable {j:Jb}
end
instance:Inhabited Jb:=⟨⟨0,[],0,[],0,0,0⟩⟩
def wG (tops:PyData) (t:Int):Int:=match dIx tops (.int t) with
 |some (.int n)=>n
 |_=>0
def wH (tops:PyData) (j:Jb):PyData:=match j.held with
 |none=>.tuple [.int j.rank,.int 1]
 |some t=>.tuple [.int (if wG tops t<j.rank then wG tops t else j.rank),.int 0]
section
variable {cs:Cs} {E R W tops:PyData} {len:Str} {qs:List (Addr×Jb)} {told:List PyData} {x7 x8:Option PyData}
end
section
variable {cs:Cs} {E R W tops:PyData} {len:Str} {qs ts:List (Addr×Jb)} {told:List PyData} {q:Addr×Jb} {as:List Addr}
end
section
variable {cs:Cs} {E R W tops:PyData} {len:Str} {qs ts:List (Addr×Jb)} {told:List PyData} {q:Addr×Jb} {as:List Addr}
end
section
variable {cs:Cs} {E R W tops:PyData} {len:Str} {qs:List (Addr×Jb)} {told:List PyData} {x7 x8:Option PyData}
end
section
variable {cs:Cs} {E R W tops:PyData} {len:Str} {qs:List (Addr×Jb)} {told:List PyData} {as:List Addr}
end
section
variable {cs:Cs} {E R W tops:PyData} {len:Str} {as:List Addr}
end
theorem bR {g:Ds->Rs PyData} {d:PyData} (hi:i<δ.length) (a:g (mask O δ)=.ok d):aJ O i g δ=.nx (δ.set i (some d)):=by unfold aJ;rw[if_pos hi,a];rfl
section
variable {rs:List Int}
end
section
variable {rs:List Int} {len:Str} {t:List PyData}
end
section
variable {cs:Cs} {rs:List Int} {len:Str} {t:List PyData}
end
end RS
namespace L2
open PySem PySem.Spec PyProof.Rows
end L2
namespace RS
open PySem L2
variable {e:Er} {b:Ds->Sr} {x:PyData} {a:Int}
theorem k6:∀a b:List Int,PyData.eqvAll (a.map PyData.int) (b.map PyData.int)=decide (a=b)
 |[],[]=>by simp[PyData.eqvAll]
 |[],_::_=>by simp[PyData.eqvAll]
 |_::_,[]=>by simp[PyData.eqvAll]
 |x::a,y::b=>by
  have h:(x==y)=decide (x=y):=by by_cases z:x=y <;> simp[z]
  simp[PyData.eqvAll,PyData.eqv,k6 a b,h]
theorem rK (a b:List Int):dNe (.list (a.map PyData.int)) (.list (b.map PyData.int))=some (.bool (!decide (a=b))):=by unfold dNe;rw[cu (iR a),cu (iR b),shaped_ints,shaped_ints];simp[PyData.eqv,k6]
def hvS (every late m:Int) (row:List Int):Int:=row.foldl (λm c=>(if c-late>m then c-late else m)+every) m
theorem mQ (every late:Int):∀(row:List Int) (m c:Int),hvM every late m row=true->¬ c<(if c-late>hvS every late m row then c-late else hvS every late m row)->hvM every late m (row++[c])=true
 |[],m,c,_,h=>by show (if c<(if c-late>m then c-late else m) then false else true)=true;exact if_neg h
 |a::r,m,c,h1,h=>by
  rw[B3];unfold hvM at h1 ⊢;by_cases z:a<(if a-late>m then a-late else m)
  ·rw[if_pos z]at h1;cases h1
  ·rw[if_neg z]at h1 ⊢;exact mQ every late r _ c h1 h
structure CrI (every late span:Int) (made:List Int) (moment:Int):Prop where
 lo:-late<=moment
 hv:hvM every late (0-late) made=true
 ea:hvS every late (0-late) made<=moment
 la:∀c,made.getLast?=some c->c+1<=moment+late
 c0:∀c∈made,0<=c
 c1:∀c∈made,c<span
theorem rJ {every late moment:Int} {made:List Int} (h:CrI every late span made moment) (hs:moment+late<span) (e:0<=c) (h1:moment<=c) (h2:c<=moment+late) (he:1<=every) (hl:0<=late) (hx:moment+every<=a):CrI every late span (made++[c]) a:=by
 have b:=h.ea;have hlo:=h.lo;refine⟨by omega,mQ every late made _ c h.hv (by split <;> omega),?_,λd hd=>?_,λd hd=>?_,λd hd=>?_⟩
 ·unfold hvS at b ⊢;rw[List.foldl_append];show (if c-late>List.foldl _ _ made then c-late else List.foldl _ _ made)+every<=a;split <;> omega
 ·rw[List.getLast?_concat]at hd;cases hd;omega
 ·rcases Aq.mp hd with hd|hd
  ·exact h.c0 d hd
  ·rw[Aj.mp hd];exact e
 ·rcases Aq.mp hd with hd|hd
  ·exact h.c1 d hd
  ·rw[Aj.mp hd];omega
theorem qY {every late:Int} {moment:Int} (h:-late<=moment):CrI every late span [] moment:=⟨h,rfl,by show 0-late<=moment;omega,λc hc=>(by cases hc),λc hc=>(by cases hc),λc hc=>(by cases hc)⟩
theorem ib {g:Ds->Rs PyData} {d:PyData} (hi:i<δ.length) (a:g δ=.ok d) (hn:bZ d=true):dG i g δ=.nx (δ.set i (some d)):=by unfold dG;rw[if_pos hi,a,aC,if_pos hn]
theorem xS (k:Int):cK (.int 104729) (.int k)=some (.int (104729*k)):=ke (by decide) (by decide)
theorem xa (k:Int):cK (.int 7919) (.int k)=some (.int (7919*k)):=ke (by decide) (by decide)
theorem xZ (a:Int):cK (.int a) (.int 48271)=some (.int (a*48271)):=oX (by decide) (by decide)
theorem xX (a:Int):bc (.int a) (.int 2147483647)=some (.int (a % 2147483647)):=by rw[eR,if_pos (by decide)]
theorem xO {k:Int} (h0:0<=k) (h1:k<=60):cK (.int a) (.int k)=some (.int (a*k)):=oX (by omega) (by omega)
theorem qu {seed k:Int} (a:af 4 δ=.ok (.int seed)) (b:af 7 δ=.ok (.int k)) (c:0<=k) (h1:k<=60) :
  ∃e:Int,g2 bc (g2 cK (g2 aH (g2 aH (af 4) (g2 cK (g2 cK (gC (.int 104729)) (af 7)) (af 7))) (g2 cK (gC (.int 7919)) (af 7))) (gC (.int 48271))) (gC (.int 2147483647)) δ=.ok (.int e):=by
 generalize hA:(seed+104729*k*k+7919*k)*48271 % 2147483647=A;refine⟨A,?_⟩;rw[b9,b9,b9,b9,b9,b9,b9];rw[a,b];simp only[dP,Rs.ag,xS,xO c h1,xa,xZ,xX,cy,Rs.ao,hA]
def crC:Ds->Rs Bool:=(mr (gT (g2 dLt (g2 aH (af 5) (g2 dIx (af 2) (gC (.int 2)))) (af 3))) (gT (g2 dLt (gF bj (ae (af 6) aj)) (gC (.int 60)))))
def crB:Ds->Sr:=(av (aJ [6] 8 (g2 bc (g2 cK (g2 aH (g2 aH (af 4) (g2 cK (g2 cK (gC (.int 104729)) (af 7)) (af 7))) (g2 cK (gC (.int 7919)) (af 7))) (gC (.int 48271))) (gC (.int 2147483647))))
 (av (aJ [6] 9 (gF dC (ae (gC (.int 0)) (ae (g2 aH (af 5) (g2 bc (g2 cJ (af 8) (gC (.int 7))) (g2 aH (g2 dIx (af 2) (gC (.int 2))) (gC (.int 1))))) aj))))
 (av (sIf (gT (g2 dNe (af 6) (dJ aj))) (dG 9 (gF dC (ae (af 9) (ae (g2 aH (g2 dIx (af 6) (g1 c9 (gC (.int 1)))) (gC (.int 1))) aj)))) aY)
 (av (fN [6] 6 (af 9))
 (av (aJ [6] 5 (g2 aH (af 5) (g2 dIx (af 2) (gC (.int 0)))))
 (av (sIf (gT (g2 dEq (g2 bc (g2 cJ (af 8) (gC (.int 61))) (gC (.int 3))) (gC (.int 0)))) (aJ [6] 5 (g2 aH (af 5) (g2 bc (g2 cJ (af 8) (gC (.int 997))) (g2 dIx (af 2) (gC (.int 0)))))) aY)
 (aJ [6] 7 (g2 aH (af 7) (gC (.int 1))))))))))
section
variable {S A:PyData} {seed moment:Int} {made:List Int}
noncomputable def crD (e:Er) (S A:PyData) (span seed moment:Int) (made:List Int) (k:Int) (x8 a:Option PyData):Ds:=[some S,some A,some e.d,some (.int span),some (.int seed),some (.int moment),some (.list (made.map PyData.int)),some (.int k),x8,a]
theorem xY (e:Er):dIx e.d (.int 0)=some (.int e.every):=rfl
theorem vI (e:Er):dIx e.d (.int 2)=some (.int e.late):=rfl
theorem mP {k:Int} {x8 a:Option PyData}:crC (crD e S A span seed moment made k x8 a)=.ok (decide (moment+e.late<span)&&decide (made.length<60)):=by
 have hl:decide (((made.map PyData.int).length:Int)<60)=decide (made.length<60):=by rw[A7];exact decide_eq_decide.mpr (by omega)
 unfold crC crD;simp only[pL,cT,b9,fI,aB,a5,aM,aL,dP,Rs.ag,vI,cy,vg,qd,Rs.ao,aU,hl];cases decide (moment+e.late<span) <;> simp
theorem tR (ok:e.Ok) (h:CrI e.every e.late span made moment) (C:moment+e.late<span) (hm:made.length<60) (x8 j:Option PyData) :
  ∃c f D E,crB (crD e S A span seed moment made (made.length:Int) x8 j)=.nx (crD e S A span seed f (made++[c]) ((made++[c]).length:Int) D E)/\CrI e.every e.late span (made++[c]) f:=by
 have e1:=ok.e1;have e2:=ok.e2;have l1:=ok.l1;have l2:=ok.l2;have hlo:=h.lo;obtain⟨a,o⟩:=qu (δ:=mask [6] (crD e S A span seed moment made (made.length:Int) x8 j)) (seed:=seed) (k:=(made.length:Int)) rfl rfl (by omega) (by omega);have F:aJ [6] 8 (g2 bc (g2 cK (g2 aH (g2 aH (af 4) (g2 cK (g2 cK (gC (.int 104729)) (af 7)) (af 7))) (g2 cK (gC (.int 7919)) (af 7))) (gC (.int 48271))) (gC (.int 2147483647))) (crD e S A span seed moment made (made.length:Int) x8 j)=.nx (crD e S A span seed moment made (made.length:Int) (some (.int a)) j):=bR (by decide:8<10) o
 -- the first reckoning of the coming
 have G:0<=a / 7 % (e.late+1)/\a / 7 % (e.late+1)<e.late+1:=⟨Ay _ (by omega),Az _ (by omega)⟩
 have H:cJ (.int a) (.int 7)=some (.int (a / 7)):=by rw[ik,if_pos (by decide)]
 have B:bc (.int (a / 7)) (.int (e.late+1))=some (.int (a / 7 % (e.late+1))):=by rw[eR,if_pos (by omega)]
 generalize a / 7 % (e.late+1)=q at G B;have p:∃c:Int,aJ [6] 9 (gF dC (ae (gC (.int 0)) (ae (g2 aH (af 5) (g2 bc (g2 cJ (af 8) (gC (.int 7))) (g2 aH (g2 dIx (af 2) (gC (.int 2))) (gC (.int 1))))) aj))) (crD e S A span seed moment made (made.length:Int) (some (.int a)) j)=.nx (crD e S A span seed moment made (made.length:Int) (some (.int a)) (some (.int c)))/\0<=c/\moment<=c/\c<=moment+e.late:=by refine⟨if moment+q>0 then moment+q else 0,?_,by split <;> omega,by split <;> omega,by split <;> omega⟩;refine bR (by decide:9<10) ?_;show gF dC _ [some S,some A,some e.d,some (.int span),some (.int seed),some (.int moment),none,some (.int (made.length:Int)),some (.int a),j]=_;simp only[fI,aB,a5,b9,aM,aL,dP,Rs.ag,vI,H,cy,B,Rs.ao,qT]
 obtain⟨c,p,c0,c1,I⟩:=p
 -- behind the one ahead
 have g:∃b:Int,sIf (gT (g2 dNe (af 6) (dJ aj))) (dG 9 (gF dC (ae (af 9) (ae (g2 aH (g2 dIx (af 6) (g1 c9 (gC (.int 1)))) (gC (.int 1))) aj)))) aY (crD e S A span seed moment made (made.length:Int) (some (.int a)) (some (.int c)))=.nx (crD e S A span seed moment made (made.length:Int) (some (.int a)) (some (.int b)))/\0<=b/\moment<=b/\b<=moment+e.late:=by
  have r:dNe (.list (made.map PyData.int)) (.list [])=some (.bool (!decide (made=[]))):=rK made [];unfold crD;rw[de];simp only[cT,b9,aM,aL,ir,a5,Rs.ag,r,Rs.ao,aU,aC];cases hk:made.getLast? with
  |none =>have s:made=[]:=List.getLast?_eq_none_iff.mp hk;rw[s];exact⟨c,rfl,c0,c1,I⟩
  |some l =>
   have s:made≠[]:=λz=>by rw[z]at hk;cases hk
   have hla:=h.la l hk;have t:dIx (.list (made.map PyData.int)) (.int (-1))=some (.int l):=by rw[oP,gj,List.getLast?_map,hk];rfl
   rw[decide_eq_false s];simp only[Bool.not_false,if_true];refine⟨if l+1>c then l+1 else c,?_,by split <;> omega,by split <;> omega,by split <;> omega⟩;refine ib (by decide:9<10) ?_ rfl;simp only[fI,aB,a5,b9,hV,aM,aL,dP,uh,Rs.ag,t,cy,Rs.ao,qT]
 obtain⟨b,g,u,v,w⟩:=g;have J:fN [6] 6 (af 9) (crD e S A span seed moment made (made.length:Int) (some (.int a)) (some (.int b)))=.nx (crD e S A span seed moment (made++[b]) (made.length:Int) (some (.int a)) (some (.int b))):=by show (if (made.map PyData.int).length<1000000 then Sr.nx _ else Sr.no)=_;rw[if_pos (by rw[A7];omega)];unfold crD;rw[List.map_append];rfl
 have K:aJ [6] 5 (g2 aH (af 5) (g2 dIx (af 2) (gC (.int 0)))) (crD e S A span seed moment (made++[b]) (made.length:Int) (some (.int a)) (some (.int b)))=.nx (crD e S A span seed (moment+e.every) (made++[b]) (made.length:Int) (some (.int a)) (some (.int b))):=bR (by decide:5<10) rfl;have i:∃m,sIf (gT (g2 dEq (g2 bc (g2 cJ (af 8) (gC (.int 61))) (gC (.int 3))) (gC (.int 0)))) (aJ [6] 5 (g2 aH (af 5) (g2 bc (g2 cJ (af 8) (gC (.int 997))) (g2 dIx (af 2) (gC (.int 0)))))) aY (crD e S A span seed (moment+e.every) (made++[b]) (made.length:Int) (some (.int a)) (some (.int b)))=.nx (crD e S A span seed m (made++[b]) (made.length:Int) (some (.int a)) (some (.int b)))/\moment+e.every<=m:=by
  have x:cJ (.int a) (.int 61)=some (.int (a / 61)):=by rw[ik,if_pos (by decide)]
  have L:bc (.int (a / 61)) (.int 3)=some (.int (a / 61 % 3)):=by rw[eR,if_pos (by decide)]
  have n:cJ (.int a) (.int 997)=some (.int (a / 997)):=by rw[ik,if_pos (by decide)]
  have M:bc (.int (a / 997)) (.int e.every)=some (.int (a / 997 % e.every)):=by rw[eR,if_pos (by omega)]
  have hx:0<=a / 997 % e.every:=Ay _ (by omega);have hc:gT (g2 dEq (g2 bc (g2 cJ (af 8) (gC (.int 61))) (gC (.int 3))) (gC (.int 0))) (crD e S A span seed (moment+e.every) (made++[b]) (made.length:Int) (some (.int a)) (some (.int b)))=.ok (a / 61 % 3==0):=by unfold crD;simp only[cT,b9,aM,aL,dP,Rs.ag,x,L,Rs.ao,nA,aU]
  rw[de,hc,aC];cases (a / 61 % 3==0) with
  |false=>exact⟨_,rfl,Int.le_refl _⟩
  |true =>rw[if_pos rfl];refine⟨moment+e.every+a / 997 % e.every,bR (by decide:5<10) ?_,by omega⟩;show g2 aH _ _ [some S,some A,some e.d,some (.int span),some (.int seed),some (.int (moment+e.every)),none,some (.int (made.length:Int)),some (.int a),some (.int b)]=_;simp only[b9,aM,aL,dP,Rs.ag,xY,n,M,cy,Rs.ao]
 obtain⟨m,i,y⟩:=i;have N:aJ [6] 7 (g2 aH (af 7) (gC (.int 1))) (crD e S A span seed m (made++[b]) (made.length:Int) (some (.int a)) (some (.int b)))=.nx (crD e S A span seed m (made++[b]) ((made++[b]).length:Int) (some (.int a)) (some (.int b))):=by
  have hl:((made++[b]).length:Int)=(made.length:Int)+1:=by rw[Al,AM];omega
  rw[hl];exact bR (by decide:7<10) rfl
 refine⟨b,m,some (.int a),some (.int b),?_,rJ h C u v w (by omega) l1 y⟩;unfold crB;rw[aK,F];simp only;rw[aK,p];simp only;rw[aK,g];simp only;rw[aK,J];simp only;rw[aK,K];simp only;rw[aK,i];simp only;rw[N]
end
theorem iF {c:Ds->Rs Bool} {b:Ds->Sr} {I:Nat->Ds->Prop} {J:Ds->Prop} (h:∀k δ,I k δ->(c δ=.ok false/\J δ)\/(c δ=.ok true/\∃f,f < k/\∃a,b δ=.nx a/\I f a)):∀(n k:Nat) (δ:Ds),I k δ->k<n->∃a,cV c b n δ=.nx a/\J a
 |0,_,_,_,hn=>by cases hn
 |n+1,k,δ,i,hn=>by
  unfold cV;rcases h k δ i with⟨e,j⟩|⟨e,f,g,a,e2,i'⟩
  ·rw[e,aC,if_neg AB];exact⟨δ,rfl,j⟩
  ·rw[e,aC,if_pos rfl,e2];exact iF h n f a i' (A8 g (Nat.le_of_lt_succ hn))
section
variable {S A:PyData} {seed moment:Int} {made:List Int}
theorem rY (ok:e.Ok) (h:CrI e.every e.late span made moment) (hl:made.length<=60) (hn:60<n) (x8 g:Option PyData) :
  ∃a f i j,cV crC crB n (crD e S A span seed moment made (made.length:Int) x8 g)=.nx (crD e S A span seed f a (a.length:Int) i j)/\CrI e.every e.late span a f/\a.length<=60:=by
 obtain⟨δ',e1,a,f,i,j,rfl,h1,h2⟩:=iF (c:=crC) (b:=crB) (I:=λk δ=>∃made moment x8 g,δ=crD e S A span seed moment made (made.length:Int) x8 g/\CrI e.every e.late span made moment/\made.length<=60/\k=60-made.length)
  (J:=λδ=>∃a f i j,δ=crD e S A span seed f a (a.length:Int) i j/\CrI e.every e.late span a f/\a.length<=60) (λk δ l=>by
   obtain⟨made,moment,x8,g,hd,h,hl,hk⟩:=l;subst hd;by_cases z:moment+e.late<span/\made.length<60
   ·right;refine⟨by rw[mP,decide_eq_true z.1,decide_eq_true z.2];rfl,?_⟩;obtain⟨c,m,i,j,o,h'⟩:=tR (S:=S) (A:=A) (seed:=seed) ok h z.1 z.2 x8 g;have hl2:(made++[c]).length=made.length+1:=by rw[Al,AM]
    exact⟨60-(made++[c]).length,by omega,_,o,made++[c],m,i,j,rfl,h',by omega,rfl⟩
   ·left;refine⟨?_,made,moment,x8,g,rfl,h,hl⟩;rw[mP];refine congrArg Rs.ok (Bool.eq_false_iff.mpr ?_);rw[Ne,A3,decide_eq_true_eq,decide_eq_true_eq];exact z) n (60-made.length) _ ⟨made,moment,x8,g,rfl,h,hl,rfl⟩ (by omega)
 exact⟨a,f,i,j,e1,h1,h2⟩
end
def aG (cs:Cs):Gf:=gfG 4 6 (bD cs ai)
theorem gr (cs:Cs):LLq (bD cs ai) 4 6 (aG cs):=gQ
theorem jf {cs:Cs} (ok:e.Ok) (ha:0<=a) (hs:span<=10000):∃row,aG cs [ah ns,.int a,e.d,.int span]=.ok (a9 row)/\gR row/\hvE e row=true:=by
 have e1:=ok.e1;have e2:=ok.e2;have b:km (.int 10) (.int 9)=some (.int 1000000000):=rfl;have f:=bp (ns:=ns) (k:=a) (many:=1000000000) ha (by decide);have g:bc (.int (mixed ns a 1000000000)) (.int (e.every+2))=some (.int (mixed ns a 1000000000 % (e.every+2))):=by rw[eR,if_pos (by omega)]
 have hm0:0<=mixed ns a 1000000000 % (e.every+2):=Ay _ (by omega);generalize mixed ns a 1000000000=seed at *;generalize seed % (e.every+2)=m0 at *;obtain⟨row,m',y8,y9,i,hc,hl⟩:=rY (e:=e) (S:=ah ns) (A:=.int a) (span:=span) (seed:=seed) (made:=[]) (moment:=m0-e.late) ok (qY (by omega)) (by decide) (n:=1000000) (by decide) none none;refine⟨row,?_,⟨hl,hc.c0,λc h=>by have:=hc.c1 c h;omega⟩,hc.hv⟩;have j:aJ [6] 4 (au ai (ae (af 0) (ae (af 1) (ae (g2 km (gC (.int 10)) (gC (.int 9))) aj)))) [some (ah ns),some (.int a),some e.d,some (.int span),none,none,none,none,none,none]=.nx [some (ah ns),some (.int a),some e.d,some (.int span),some (.int seed),none,none,none,none,none]:=by refine bR (by decide:4<10) ?_;show au ai _ [some (ah ns),some (.int a),some e.d,some (.int span),none,none,none,none,none,none]=_;simp only[bN,aB,a5,b9,aM,aL,dP,Rs.ag,b,Rs.ao,f]
 have l:aJ [6] 5 (g2 eB (g2 bc (af 4) (g2 aH (g2 dIx (af 2) (gC (.int 0))) (gC (.int 2)))) (g2 dIx (af 2) (gC (.int 2)))) [some (ah ns),some (.int a),some e.d,some (.int span),some (.int seed),none,none,none,none,none]=.nx [some (ah ns),some (.int a),some e.d,some (.int span),some (.int seed),some (.int (m0-e.late)),none,none,none,none]:=by refine bR (by decide:5<10) ?_;show g2 eB _ _ [some (ah ns),some (.int a),some e.d,some (.int span),some (.int seed),none,none,none,none,none]=_;simp only[b9,aM,aL,dP,Rs.ag,xY,vI,cy,g,kS,Rs.ao]
 have m:gD [6] 6 aj [some (ah ns),some (.int a),some e.d,some (.int span),some (.int seed),some (.int (m0-e.late)),none,none,none,none]=.nx [some (ah ns),some (.int a),some e.d,some (.int span),some (.int seed),some (.int (m0-e.late)),some (.list []),none,none,none]:=rfl;have o:aJ [6] 7 (gC (.int 0)) [some (ah ns),some (.int a),some e.d,some (.int span),some (.int seed),some (.int (m0-e.late)),some (.list []),none,none,none]=.nx (crD e (ah ns) (.int a) span seed (m0-e.late) [] (([]:List Int).length:Int) none none):=bR (by decide:7<10) rfl;show a7 (bD cs ai [some (ah ns),some (.int a),some e.d,some (.int span),none,none,none,none,none,none])=_;have p:bD cs ai=av (aJ [6] 4 (au ai (ae (af 0) (ae (af 1) (ae (g2 km (gC (.int 10)) (gC (.int 9))) aj)))))
  (av (aJ [6] 5 (g2 eB (g2 bc (af 4) (g2 aH (g2 dIx (af 2) (gC (.int 0))) (gC (.int 2)))) (g2 dIx (af 2) (gC (.int 2)))))
  (av (gD [6] 6 aj) (av (aJ [6] 7 (gC (.int 0))) (av (λδ=>cV crC crB 1000000 δ) (aX (af 6)))))):=rfl
 rw[p];rw[aK,j];simp only;rw[aK,l];simp only;rw[aK,m];simp only;rw[aK,o];simp only;rw[aK,i];rfl
def a8 (cs:Cs):Gf:=gfG 4 0 (cc cs (aG cs))
theorem ji (cs:Cs):LLq (cc cs (aG cs)) 4 0 (a8 cs):=gQ
theorem qH:∀{es:List Er} {rows:List (List Int)},rows.length=es.length->(∀(i:Nat) (h:i<es.length) (h':i<rows.length),gR rows[i]/\hvE es[i] rows[i]=true)->Cms es rows
 |[],[],_,_=>.nil
 |[],_::_,h,_=>by cases h
 |_::_,[],h,_=>by cases h
 |e::es,r::rows,h,k=>by have k0:=k 0 (Nat.succ_pos _) (Nat.succ_pos _);refine .cons k0.1 k0.2 (qH (by simpa using h) λi h1 h2=>?_);exact k (i+1) (Nat.succ_lt_succ h1) (Nat.succ_lt_succ h2)
theorem vq (l6:es.length<=6) {a b:Option PyData} {r:Ds}:fO (ae (gF bj (ae (af 2) aj)) aj) (a::b::some (aF es)::r)=.ok (bI 0 es.length):=by
 have c:=ko (j:=(es.length:Int)) (by omega) (by omega);rw[Aw]at c;have hv:(ae (gF bj (ae (af 2) aj)) aj) (a::b::some (aF es)::r)=.ok [.int (es.length:Int)]:=by simp only[aB,a5,fI,aM,aL,Rs.ag,yC,Rs.ao]
 rw[kz,hv,Rs.ag,c]
theorem lS {cs:Cs} (h:xn es) (ha:0<=a) (g:span<=10000):∃rows,a8 cs [ah ns,.int a,aF es,.int span]=.ok (cmD rows)/\Cms es rows:=by
 have j:∀i:Nat,∃row,i<es.length->aG cs [ah ns,.int (a+(i:Int)),(lr es (i:Int)).d,.int span]=.ok (a9 row)/\gR row/\hvE (lr es (i:Int)) row=true:=λi=>by
  by_cases z:i<es.length
  ·obtain⟨row,h1⟩:=jf (cs:=cs) (h.ok _ (p7 (n:=(i:Int)) (by omega) (by omega))) (ns:=ns) (a:=a+(i:Int)) (span:=span) (by omega) g;exact⟨row,λ_=>h1⟩
  ·exact⟨[],λy=>(z y).elim⟩
 obtain⟨F,c⟩:=Classical.axiomOfChoice j;have l6:=h.l6;refine⟨(List.range es.length).map F,?_,qH (by simp) λi h1 h2=>?_⟩
 ·have m:a3 4 (fO (ae (gF bj (ae (af 2) aj)) aj)) bq (au (aG cs) (ae (af 0) (ae (g2 aH (af 1) (af 4)) (ae (g2 dIx (af 2) (af 4)) (ae (af 3) aj))))) bf [some (ah ns),some (.int a),some (aF es),some (.int span)]=.ok ((bI 0 es.length).map λd=>a9 (F (deI d).toNat)):=by
   refine bW rfl ?_ (by rw[cx];omega) λd hd=>?_
   ·exact vq l6
   ·obtain⟨k,f,rfl⟩:=Ah.mp hd;have b:=List.mem_range.mp f;have hn:(0:Int)+(k:Int)=(k:Int):=by omega
    have hd2:(deI (.int (k:Int))).toNat=k:=Aw k;have a2:dIx (aF es) (.int (k:Int))=some (lr es (k:Int)).d:=rH (by omega) (by omega);rw[hn,hd2];simp only[B3,AU,bN,aB,a5,b9,aM,aL,Rs.ag,cy,a2,Rs.ao,(c k b).1]
  show a7 (cc cs (aG cs) [some (ah ns),some (.int a),some (aF es),some (.int span)])=_;unfold cc;simp only[cO,lQ,m,Rs.ag,aC,gM];unfold cmD bI;rw[AK,AK];refine congrArg (λl=>Rs.ok (PyData.list l)) (AX λk f=>?_);show a9 (F (deI (.int (0+(k:Int)))).toNat)=a9 (F k);rw[show (0:Int)+(k:Int)=(k:Int) by omega,show (deI (.int (k:Int))).toNat=k from Aw k]
 ·have e:=ja (es:=es) (n:=(i:Int)) (by omega) (by omega);rw[Aw,A5 h1]at e;have o:es[i]=lr es (i:Int):=Option.some.inj e;have:=(c i h1).2;rw[List.getElem_map,List.getElem_range,o];exact this
theorem pI {xs:List α} {v:α} (h:xs[k]?=some v):atI xs (k:Int)=some v:=kr (Int.natCast_nonneg k) (by rw[Aw];exact h)
def wQ (js:List Jb):PyData:=cmD (js.map (·.row))
section
variable {js:List Jb} {S E R D:PyData}
theorem hZ (h:i<js.length):dIx (wQ js) (.int (i:Int))=some (a9 js[i].row):=pI (by rw[An,An,A5 h];rfl)
theorem aZ {a b:Ds->Rs PyData} {z:PyData} (ha:a δ=.ok x) (c:b δ=.ok y) (e:f x y=some z):g2 f a b δ=.ok z:=by rw[b9,ha,Rs.ag,c,Rs.ag,e];rfl
end
theorem dY {f:Gf} {a:Ds->Rs (List PyData)} {d:PyData} (ha:a δ=.ok ds) (b:f ds=.ok d):au f a δ=.ok d:=by rw[bN,ha,Rs.ag,b]
theorem cq {a:Ds->Sr} {c:Ds} (h:a δ=.nx c):av a b δ=b c:=by rw[aK,h]
theorem uR {tgt:PyData->Ds->Option Ds} {body:Ds->Sr} (h:src (mask O δ)=.ok ds):f7 O src tgt body δ=forL tgt body ds δ:=by rw[qk,h,aC]
theorem u9 {g:Ds->Rs (List PyData)} (hi:i<δ.length) (a:g (mask O δ)=.ok ds):gD O i g δ=.nx (δ.set i (some (.list ds))):=by unfold gD;rw[if_pos hi,a,aC]
section
variable {rs:List Int} {len:Str}
end
def bx (cs:Cs):Gf:=gfG 2 0 (bF cs ar aE)
def aA (cs:Cs):Gf:=gfG 2 0 (bw cs (bx cs) (aW cs))
def aN (cs:Cs):Gf:=gfG 2 3 (br cs)
def cA (cs:Cs):Gf:=gfG 2 1 (fM cs (aA cs))
def bz (cs:Cs):Gf:=gfG 2 4 (cF cs)
def bg (cs:Cs):Gf:=gfG 2 2 (cf cs (aN cs))
theorem eP {G:Ds->Sr} {r:Rs PyData} (hl:ds.length=n) (h:a7 (G (ds.map some++List.replicate k none))=r):gfG n k G ds=r:=by unfold gfG;rw[if_pos hl,h]
theorem kq (h:ax x=true) (a:∀l,x≠.list l):bQ "list" x=some (.bool false):=by
 unfold bQ;rw[if_pos h];cases x with
 |list l=>exact absurd rfl (a l)
 |_=>rfl
def lP:PyData->Bool
 |.none=>true
 |.bool _=>true
 |.int _=>true
 |_=>false
theorem ia {d:PyData} (h:lP d=true):ax d=true:=by cases d <;> first|rfl|cases h
def wh (d:PyData):Bool:=isWhole d 0 9999
theorem qy {d:PyData} (h:wh d=true):∃n,d=.int n/\0<=n/\n<=9999:=by
 cases d <;> first|(cases h;done)|skip
 rename_i n;unfold wh isWhole at h;rw[A3,decide_eq_true_eq,decide_eq_true_eq]at h;exact⟨n,rfl,h⟩
theorem kE:∀{l:List PyData},l.all wh=true->∃ns:List Int,l=ns.map PyData.int/\∀c∈ns,0<=c/\c<=9999
 |[],_=>⟨[],rfl,λ_ h=>nomatch h⟩
 |d::l,h=>by rw[AE,A3]at h;obtain⟨n,rfl,hn⟩:=qy h.1;obtain⟨ns,rfl,a⟩:=kE h.2;exact⟨n::ns,rfl,λc hc=>by rcases Aa.mp hc with rfl|hc;exact hn;exact a c hc⟩
def intOf:PyData->Int
 |.int n=>n
 |_=>0
theorem jE (ns:List Int):(ns.map PyData.int).map intOf=ns:=by rw[AK];exact B2 _
def fc (e:Er) (l:List PyData):Bool:=decide (l.length<=60)&&(l.all wh&&hvE e (l.map intOf))
section
variable {cs:Cs}
theorem sU (i:e.Sh) (hd:∀d∈l,lP d=true):bx cs [e.d,.list l]=.ok (.bool (fc e l)):=by
 have b:ax (.list l)=true:=cu λd a=>ia (hd d a)
 have g:bQ "list" (.list l)=some (.bool true):=c7 b;by_cases h60:l.length<=60
 ·cases ha:l.all wh with
  |true =>
   obtain⟨ns,rfl,h⟩:=kE ha;have R:gR ns:=⟨by simpa using h60,λc hc=>(h c hc).1,λc hc=>(h c hc).2⟩
   have h1:=f6 i R;have:=o6 cs [e.d,.list (ns.map PyData.int)] rfl (by rw[h1];nofun);rw[show fc e (ns.map PyData.int)=hvE e ns by unfold fc;rw[ha,jE,decide_eq_true h60];rfl];exact eP rfl (this.trans h1)
  |false =>
   rw[show fc e l=false by unfold fc;rw[ha,Bool.false_and,Bc]];refine eP rfl ?_;show a7 (bF cs ar aE [some e.d,some (.list l)])=_;unfold bF;have hc:cOr (bY (gT (g1 (bQ "list") (af 1)))) (gT (g2 dGt (gF bj (ae (af 1) aj)) (gC (.int 60)))) [some e.d,some (.list l)]=.ok false:=by rw[fA,cP,cT,hV,show af 1 [some e.d,some (.list l)]=.ok (.list l) from rfl,Rs.ag,g,Rs.ao,Rs.ag,aU,Rs.ag,Rs.ag,if_neg (by decide),cT,aZ (f:=dGt) (x:=.int (l.length:Int)) (y:=.int 60) rfl rfl (wm _ _),Rs.ag,aU,decide_eq_false (by omega)]
   have j:a3 2 (dg (af 1)) bq (au ar (ae (af 2) (ae (gC (.int 0)) (ae (gC (.int 9999)) aj)))) bf [some e.d,some (.list l)]=.ok (l.map λd=>.bool (isWhole d 0 9999)) :=
    bW rfl rfl (by omega) λd a=>gZ (ia (hd d a))
   have k:gF iN (ae (gL (a3 2 (dg (af 1)) bq (au ar (ae (af 2) (ae (gC (.int 0)) (ae (gC (.int 9999)) aj)))) bf)) aj) [some e.d,some (.list l)]=.ok (.bool false):=by rw[fI,aB,a5,lQ,j,Rs.ag,Rs.ag,Rs.ag];have:=fg wh l;rw[ha]at this;show Rs.cN (iN [.list (l.map λd=>.bool (wh d))])=_;rw[this];rfl
   rw[aK,de,hc,aC,if_neg AB];show a7 (aX _ _)=_;rw[cO,pA,k];rfl
 ·rw[show fc e l=false by unfold fc;rw[decide_eq_false h60];rfl];refine eP rfl ?_;show a7 (bF cs ar aE [some e.d,some (.list l)])=_;unfold bF;have hc:cOr (bY (gT (g1 (bQ "list") (af 1)))) (gT (g2 dGt (gF bj (ae (af 1) aj)) (gC (.int 60)))) [some e.d,some (.list l)]=.ok true:=by rw[fA,cP,cT,hV,show af 1 [some e.d,some (.list l)]=.ok (.list l) from rfl,Rs.ag,g,Rs.ao,Rs.ag,aU,Rs.ag,Rs.ag,if_neg (by decide),cT,aZ (f:=dGt) (x:=.int (l.length:Int)) (y:=.int 60) rfl rfl (wm _ _),Rs.ag,aU,decide_eq_true (by omega)]
  rw[aK,de,hc];rfl
theorem oF (h:bQ "list" x=some (.bool false)):bx cs [e.d,x]=.ok (.bool false):=by
 refine eP rfl ?_;show a7 (bF cs ar aE [some e.d,some x])=_;unfold bF;have hc:cOr (bY (gT (g1 (bQ "list") (af 1)))) (gT (g2 dGt (gF bj (ae (af 1) aj)) (gC (.int 60)))) [some e.d,some x]=.ok true:=by rw[fA,cP,cT,hV,show af 1 [some e.d,some x]=.ok x from rfl,Rs.ag,h];rfl
 rw[aK,de,hc];rfl
def jY (y:PyData):Prop:=(∃l,y=.list l/\∀d∈l,lP d=true)\/(ax y=true/\∀l,y≠.list l)
theorem jY.nd (h:jY y):ax y=true:=by
 rcases h with⟨l,rfl,h⟩|h
 ·exact cu λd a=>ia (h d a)
 ·exact h.1
def fX (e:Er):PyData->Bool
 |.list l=>fc e l
 |_=>false
theorem mL (h:∀l,y≠.list l):fX e y=false:=by cases y <;> first|rfl|exact absurd rfl (h _)
theorem uJ (a:e.Sh) (h:jY y):bx cs [e.d,y]=.ok (.bool (fX e y)):=by
 rcases h with⟨l,rfl,h⟩|⟨h1,h2⟩
 ·exact sU a h
 ·rw[mL h2];exact oF (kq h1 h2)
def dq:List Er->List PyData->Bool
 |e::es,y::ys=>fX e y&&dq es ys
 |_,_=>true
def kR:List Er->List PyData->List Bool
 |e::es,y::ys=>fX e y::kR es ys
 |_,_=>[]
theorem kQ:∀(es:List Er) (ys:List PyData),(kR es ys).all id=dq es ys
 |[],_=>by cases ‹List PyData› <;> rfl
 |_::_,[]=>rfl
 |e::es,y::ys=>by
  show (fX e y&&(kR es ys).all id)=(fX e y&&dq es ys)
  rw[kQ]
theorem kG {a b:Option PyData}:∀(es:List Er) (ys:List PyData),(∀e∈es,e.Sh)->(∀y∈ys,jY y)->bO bq (au (bx cs) (ae (af 2) (ae (af 3) aj))) fG [a,b] (fy (es.map Er.d) ys)=.ok ((kR es ys).map PyData.bool)
 |[],[],_,_=>rfl
 |[],_::_,_,_=>rfl
 |_::_,[],_,_=>rfl
 |e::es,y::ys,he,hy=>by
  have f:=kG (a:=a) (b:=b) es ys (λx c=>he x (Ab _ c)) λx c=>hy x (Ab _ c)
  show bO _ _ _ _ (PyData.tuple [e.d,y]::fy (es.map Er.d) ys)=.ok ((fX e y::kR es ys).map PyData.bool);unfold bO;rw[show fG (PyData.tuple [e.d,y])=some [some e.d,some y] from rfl];have g:au (bx cs) (ae (af 2) (ae (af 3) aj)) ([a,b]++[some e.d,some y])=.ok (.bool (fX e y)):=uJ (he e Ad) (hy y Ad);simp only[bq,Rs.cW,Rs.ag,if_true,g,f,Au]
def cL (es:List Er):PyData->Bool
 |.list ys=>ys.length==es.length&&dq es ys
 |_=>false
def mD (d:PyData):Prop:=(∃ys,d=.list ys/\∀y∈ys,jY y)\/(ax d=true/\∀l,d≠.list l)
theorem jI:∀{es:List Er} {ys:List PyData},ys.length=es.length->dq es ys=true->∀y∈ys,∃l,y=.list l
 |_,[],_,_,y,hy=>nomatch hy
 |[],_::_,hl,_,_,_=>by cases hl
 |e::es,y::ys,hl,h,z,a=>by
  have h:(fX e y&&dq es ys)=true:=h;rw[A3]at h;rcases Aa.mp a with rfl|a
  ·cases z <;> first|exact⟨_,rfl⟩|(cases h.1;done)
  ·exact jI (by simpa using hl) h.2 z a
theorem uu {d:PyData} (m:aW cs [aF es]=.ok (aF es)) (n:∀e∈es,e.Sh) (l6:es.length<=6) (h:mD d):aA cs [aF es,d]=if cL es d=true then .ok d else .rz cs.NoComings:=by
 refine eP rfl ?_;show a7 (bw cs (bx cs) (aW cs) [some (aF es),some d])=_;unfold bw;have o:au (aW cs) (ae (af 0) aj) [some (aF es),some d]=.ok (aF es):=m;rw[aK,sZ,o,aC];dsimp only;rcases h with⟨ys,rfl,k⟩|⟨h1,h2⟩
 ·have g:ax (.list ys)=true:=cu λd c=>(k d c).nd
  have hc:cOr (bY (gT (g1 (bQ "list") (af 1)))) (gT (g2 dNe (gF bj (ae (af 1) aj)) (gF bj (ae (af 0) aj)))) [some (aF es),some (.list ys)]=.ok (!((ys.length:Int)==(es.length:Int))):=by rw[fA,cP,cT,hV,show af 1 [some (aF es),some (.list ys)]=.ok (.list ys) from rfl,Rs.ag,c7 g,Rs.ao,Rs.ag,aU,Rs.ag,Rs.ag,if_neg (by decide)];have hn:=aZ (f:=dNe) (a:=gF bj (ae (af 1) aj)) (b:=gF bj (ae (af 0) aj)) (δ:=[some (aF es),some (.list ys)]) (x:=.int (ys.length:Int)) (y:=.int ((es.map Er.d).length:Int)) rfl rfl (uf _ _);rw[cT,hn,Rs.ag,aU,A7]
  rw[aK,de,hc,aC];by_cases hl:ys.length=es.length
  ·rw[show ((ys.length:Int)==(es.length:Int))=true by rw[beq_iff_eq,hl]];rw[if_neg (by decide)];show a7 (av _ _ _)=_;have p:a3 2 (kL (ae (af 0) (ae (af 1) aj))) bq (au (bx cs) (ae (af 2) (ae (af 3) aj))) fG [some (aF es),some (.list ys)]=.ok ((kR es ys).map PyData.bool):=by
    unfold a3;rw[if_pos (show [some (aF es),some (.list ys)].length=2 from rfl)];have i:kL (ae (af 0) (ae (af 1) aj)) [some (aF es),some (.list ys)]=.ok (fy (es.map Er.d) ys):=by show (if ys.length=(es.map Er.d).length then Rs.ok (fy (es.map Er.d) ys) else Rs.no)=_;exact if_pos (by rw[A7];exact hl)
    rw[i];simp only[Rs.ag];rw[if_pos (by unfold fy;rw[List.length_zipWith,A7];omega)];exact kG es ys n k
   have l:=fg (λb:Bool=>b) (kR es ys);rw[show (kR es ys).all (λb=>b)=dq es ys from kQ es ys]at l;have q:bY (gT (gF iN (ae (gL (a3 2 (kL (ae (af 0) (ae (af 1) aj))) bq (au (bx cs) (ae (af 2) (ae (af 3) aj))) fG)) aj))) [some (aF es),some (.list ys)]=.ok (!dq es ys):=by rw[cP,cT,fI,aB,a5,lQ,p,Rs.ag,Rs.ag,Rs.ag,Rs.ag,l,Rs.ao,Rs.ag,aU,Rs.ag]
   rw[aK,de,q,aC];rw[show cL es (.list ys)=dq es ys by show (ys.length==es.length&&dq es ys)=_;rw[beq_iff_eq.mpr hl];rfl];cases hq:dq es ys with
   |true =>
    rw[if_pos rfl,if_neg (by decide)];show a7 (aX _ _)=_;have j:a3 2 (dg (af 1)) bq (gF dZ (ae (af 2) aj)) bf [some (aF es),some (.list ys)]=.ok (ys.map id) :=
     bW rfl rfl (by omega) λd c=>by obtain⟨r,rfl⟩:=jI hl hq d c;rfl
    rw[cO,lQ,j,B2];rfl
   |false=>rfl
  ·rw[show ((ys.length:Int)==(es.length:Int))=false by rw[beq_eq_false_iff_ne];omega];rw[show cL es (.list ys)=false by show (ys.length==es.length&&dq es ys)=_;rw[beq_eq_false_iff_ne.mpr hl];rfl];rfl
 ·have hc:cOr (bY (gT (g1 (bQ "list") (af 1)))) (gT (g2 dNe (gF bj (ae (af 1) aj)) (gF bj (ae (af 0) aj)))) [some (aF es),some d]=.ok true:=by rw[fA,cP,cT,hV,show af 1 [some (aF es),some d]=.ok d from rfl,Rs.ag,kq h1 h2];rfl
  rw[aK,de,hc];rw[show cL es d=false by cases d <;> first|rfl|exact absurd rfl (h2 _)];rfl
end
noncomputable def lwM (every late:Int):Int->Int->List PyData->Bool
 |_,_,[]=>true
 |m,la,.int c::r=>if c<=la\/9999<c then false else if c<(if c-late>m+every then c-late else m+every) then false else lwM every late (if c-late>m+every then c-late else m+every) c r
 |_,_,_::_=>false
def lawB (e:Er) (l:List PyData):Bool:=lwM e.every e.late (-1000) (-1) l&&decide (l.length<=60)
theorem qQ (a:0<=c) (h1:c<=9999):wh (.int c)=true:=by show (decide (0<=c)&&decide (c<=9999))=true;rw[decide_eq_true a,decide_eq_true h1];rfl
theorem ug (h:c<0\/9999<c):wh (.int c)=false:=by
 cases q:wh (.int c) with
 |false=>rfl
 |true=>obtain⟨n,e,h1,h2⟩:=qy q;cases e;omega
theorem ub {every late:Int} (h1:late<every):∀{l:List PyData} {m la:Int},la-late<=m->0<=la->lwM every late m la l=(l.all wh&&hvM every late (m+every) (l.map intOf))
 |[],_,_,_,_=>rfl
 |d::l,m,la,hm,hla=>by
  cases d <;> first|rfl|skip
  rename_i c;rw[AE,Au];show (if c<=la\/9999<c then false else if c<(if c-late>m+every then c-late else m+every) then false else lwM every late (if c-late>m+every then c-late else m+every) c l)=(wh (.int c)&&l.all wh&&(if c<(if c-late>m+every then c-late else m+every) then false else hvM every late ((if c-late>m+every then c-late else m+every)+every) (l.map intOf)))
  have a:c-late<=(if c-late>m+every then c-late else m+every)/\m+every<=(if c-late>m+every then c-late else m+every):=by split <;> omega
  generalize (if c-late>m+every then c-late else m+every)=m' at a ⊢;by_cases hc:c<=la\/9999<c
  ·rw[if_pos hc];by_cases hz:c<0\/9999<c
   ·rw[ug hz];rfl
   ·rw[if_pos (show c<m' by omega),Bc]
  ·rw[if_neg hc,qQ (by omega) (by omega),AS];by_cases hq:c<m'
   ·rw[if_pos hq,if_pos hq,Bc]
   ·rw[if_neg hq,if_neg hq];exact ub h1 a.1 (by omega)
theorem law_row (h:e.Ok) (l:List PyData):lawB e l=fc e l:=by
 have l1:=h.l1;have l3:=h.l3;have hev:e.every<=60:=h.e2;unfold lawB fc hvE;rw[Bool.and_comm];congr 1;cases l with
 |nil=>rfl
 |cons d l =>
  cases d <;> first|rfl|skip
  rename_i c;rw[AE,Au];show (if c<=-1\/9999<c then false else if c<(if c-e.late > -1000+e.every then c-e.late else -1000+e.every) then false else lwM e.every e.late (if c-e.late > -1000+e.every then c-e.late else -1000+e.every) c l)=(wh (.int c)&&l.all wh&&(if c<(if c-e.late>0-e.late then c-e.late else 0-e.late) then false else hvM e.every e.late ((if c-e.late>0-e.late then c-e.late else 0-e.late)+e.every) (l.map intOf)))
  by_cases hc:c<=-1\/9999<c
  ·rw[if_pos hc,ug (by omega)];rfl
  ·have e1:(if c-e.late > -1000+e.every then c-e.late else -1000+e.every)=c-e.late:=if_pos (by omega);have e2:(if c-e.late>0-e.late then c-e.late else 0-e.late)=c-e.late:=by split <;> omega
   rw[if_neg hc,e1,e2,qQ (by omega) (by omega),if_neg (by omega),if_neg (by omega),AS];exact ub (by omega) (by omega) (by omega)
def acB:Ds->Sr:=(av (sIf (cOr (gT (g1 (bQ "bool") (af 4))) (cOr (bY (gT (g1 (bQ "int") (af 4)))) (cOr (gT (g2 dLe (af 4) (af 3))) (gT (g2 dGt (af 4) (gC (.int 9999))))))) (aX (gC (.bool false))) aY)
 (av (aJ [] 2 (gF dC (ae (g2 aH (af 2) (g2 dIx (af 0) (gC (.int 0)))) (ae (g2 eB (af 4) (g2 dIx (af 0) (gC (.int 2)))) aj))))
 (av (sIf (gT (g2 dGt (af 2) (af 4))) (aX (gC (.bool false))) aY)
 (aJ [] 3 (af 4)))))
theorem nC (e:Er) (L:PyData):∀(l:List PyData) (m la:Int) (h:Option PyData),(∀d∈l,lP d=true) ->
   (lwM e.every e.late m la l=true/\∃j i x,forL (bL 4) acB l [some e.d,some L,some (.int m),some (.int la),h]=.nx [some e.d,some L,some (.int j),some (.int i),x])
  \/(lwM e.every e.late m la l=false/\forL (bL 4) acB l [some e.d,some L,some (.int m),some (.int la),h]=.rt (.bool false))
 |[],m,la,h,_=>.inl ⟨rfl,_,_,_,rfl⟩
 |d::r,m,la,h,hd=>by
   have h1:bL 4 d [some e.d,some L,some (.int m),some (.int la),h]=some [some e.d,some L,some (.int m),some (.int la),some d]:=rfl;have a0:dIx e.d (.int 0)=some (.int e.every):=rfl;have a2:dIx e.d (.int 2)=some (.int e.late):=rfl;unfold forL;rw[h1];have hok:=hd d Ad;cases d <;> first|(cases hok;done)|skip
   ·have f:acB [some e.d,some L,some (.int m),some (.int la),some .none]=.rt (.bool false):=rfl;exact .inr ⟨rfl,by simp only[f]⟩
   ·rename_i b;have f:acB [some e.d,some L,some (.int m),some (.int la),some (.bool b)]=.rt (.bool false):=rfl;exact .inr ⟨rfl,by simp only[f]⟩
   ·rename_i c;unfold lwM;have i1:bQ "bool" (.int c)=some (.bool false):=rfl;have i2:bQ "int" (.int c)=some (.bool true):=rfl;by_cases hc:c<=la\/9999<c
    ·have f:acB [some e.d,some L,some (.int m),some (.int la),some (.int c)]=.rt (.bool false):=by
      by_cases a:c<=la
      ·simp[acB,i1,i2,a]
      ·have g:9999<c:=by omega
       simp[acB,i1,i2,a,g]
     refine .inr ⟨if_pos hc,?_⟩;simp only[f]
    ·have a:¬ c<=la:=by omega
     have g:¬ 9999<c:=by omega
     rw[if_neg hc];by_cases hm:c<(if c-e.late>m+e.every then c-e.late else m+e.every)
     ·have f:acB [some e.d,some L,some (.int m),some (.int la),some (.int c)]=.rt (.bool false):=by simp[acB,i1,i2,a,g,a0,a2,hm]
      refine .inr ⟨if_pos hm,?_⟩;simp only[f]
     ·have f:acB [some e.d,some L,some (.int m),some (.int la),some (.int c)]=.nx [some e.d,some L,some (.int (if c-e.late>m+e.every then c-e.late else m+e.every)),some (.int c),some (.int c)]:=by simp[acB,i1,i2,a,g,a0,a2,hm]
      rw[if_neg hm];simp only[f];exact nC e L r _ _ _ λx k=>hd x (Ab _ k)
section
variable {cs:Cs}
theorem law_comings_is (b:e.Ok) (hd:∀d∈l,lP d=true):aN cs [e.d,.list l]=.ok (.bool (fc e l)):=by
 rw[<-law_row b];refine eP rfl ?_;show a7 (br cs [some e.d,some (.list l),none,none,none])=_;unfold br;have c:aJ [] 2 (g1 c9 (gC (.int 1000))) [some e.d,some (.list l),none,none,none]=.nx [some e.d,some (.list l),some (.int (-1000)),none,none]:=bR (show 2<5 by decide) rfl;have s2:aJ [] 3 (g1 c9 (gC (.int 1))) [some e.d,some (.list l),some (.int (-1000)),none,none]=.nx [some e.d,some (.list l),some (.int (-1000)),some (.int (-1)),none]:=bR (show 3<5 by decide) rfl;rw[cq c,cq s2];have g:f7 [] (dg (af 1)) (bL 4) acB [some e.d,some (.list l),some (.int (-1000)),some (.int (-1)),none]=forL (bL 4) acB l [some e.d,some (.list l),some (.int (-1000)),some (.int (-1)),none]:=rfl;show a7 (match f7 [] (dg (af 1)) (bL 4) acB [some e.d,some (.list l),some (.int (-1000)),some (.int (-1)),none] with|.nx a=>aX (g2 dLe (gF bj (ae (af 1) aj)) (gC (.int 60))) a|r=>r)=_;rw[g];unfold lawB;rcases nC e (.list l) l (-1000) (-1) none hd with⟨h1,m',la',x,h2⟩|⟨h1,h2⟩
 ·rw[h2,h1,AS];show a7 (aX _ _)=_;rw[cO,aZ (f:=dLe) (x:=.int (l.length:Int)) (y:=.int 60) rfl rfl (yN _ _)];show Rs.ok (PyData.bool (decide ((l.length:Int)<=60)))=_;rw[show decide ((l.length:Int)<=60)=decide (l.length<=60) from decide_eq_decide.mpr (by omega)]
 ·rw[h2,h1];rfl
end
section
variable {cs:Cs}
def aaB (cs:Cs):Ds->Sr:=sIf (cOr (bY (gT (g1 (bQ "list") (af 3)))) (bY (gT (au (aN cs) (ae (af 2) (ae (af 3) aj)))))) (aX (gC (.bool false))) aY
theorem rV {E Y:Option PyData} (b:e.Ok) (h:jY y):aaB cs [E,Y,some e.d,some y]=if fX e y=true then .nx [E,Y,some e.d,some y] else .rt (.bool false):=by
 unfold aaB;rcases h with⟨l,rfl,h⟩|⟨h1,h2⟩
 ·have c:bQ "list" (.list l)=some (.bool true):=c7 (cu λd a=>ia (h d a));have f:au (aN cs) (ae (af 2) (ae (af 3) aj)) [E,Y,some e.d,some (.list l)]=.ok (.bool (fc e l)):=law_comings_is b h;rw[de,fA,cP,cT,hV,show af 3 [E,Y,some e.d,some (.list l)]=.ok (.list l) from rfl,Rs.ag,c,Rs.ao,Rs.ag,aU,Rs.ag,Rs.ag,if_neg (by decide),cP,cT,f,Rs.ag,aU,Rs.ag,aC];show (if (!fc e l)=true then _ else _)=(if fc e l=true then _ else _)
  cases fc e l <;> rfl
 ·rw[de,fA,cP,cT,hV,show af 3 [E,Y,some e.d,some y]=.ok y from rfl,Rs.ag,kq h1 h2,mL h2];rfl
theorem mK {E Y:Option PyData}:∀(es:List Er) (ys:List PyData) (a b:Option PyData),(∀e∈es,e.Ok)->(∀y∈ys,jY y) ->
  (dq es ys=true/\∃δ,forL (gX [2,3]) (aaB cs) (fy (es.map Er.d) ys) [E,Y,a,b]=.nx δ)\/(dq es ys=false/\forL (gX [2,3]) (aaB cs) (fy (es.map Er.d) ys) [E,Y,a,b]=.rt (.bool false))
 |[],[],_,_,_,_=>.inl ⟨rfl,_,rfl⟩
 |[],_::_,_,_,_,_=>.inl ⟨rfl,_,rfl⟩
 |_::_,[],_,_,_,_=>.inl ⟨rfl,_,rfl⟩
 |e::es,y::ys,a,b,he,hy=>by
  have f:=rV (cs:=cs) (E:=E) (Y:=Y) (he e Ad) (hy y Ad);have h1:gX [2,3] (PyData.tuple [e.d,y]) [E,Y,a,b]=some [E,Y,some e.d,some y]:=rfl;show (((fX e y&&dq es ys)=true/\_)\/((fX e y&&dq es ys)=false/\_));rw[show fy ((e::es).map Er.d) (y::ys)=PyData.tuple [e.d,y]::fy (es.map Er.d) ys from rfl];unfold forL;rw[h1];simp only[f];cases hr:fX e y with
  |false=>exact .inr ⟨rfl,rfl⟩
  |true =>rw[if_pos rfl,AS];exact mK es ys _ _ (λx c=>he x (Ab _ c)) λx c=>hy x (Ab _ c)
theorem vh {d:PyData} (k:∀e∈es,e.Ok) (h:mD d):bg cs [aF es,d]=.ok (.bool (cL es d)):=by
 refine eP rfl ?_;show a7 (cf cs (aN cs) [some (aF es),some d,none,none])=_;unfold cf;rcases h with⟨ys,rfl,j⟩|⟨h1,h2⟩
 ·have g:ax (.list ys)=true:=cu λd i=>(j d i).nd
  have hc:cOr (bY (gT (g1 (bQ "list") (af 1)))) (gT (g2 dNe (gF bj (ae (af 1) aj)) (gF bj (ae (af 0) aj)))) [some (aF es),some (.list ys),none,none]=.ok (!((ys.length:Int)==(es.length:Int))):=by rw[fA,cP,cT,hV,show af 1 [some (aF es),some (.list ys),none,none]=.ok (.list ys) from rfl,Rs.ag,c7 g,Rs.ao,Rs.ag,aU,Rs.ag,Rs.ag,if_neg (by decide)];have hn:=aZ (f:=dNe) (a:=gF bj (ae (af 1) aj)) (b:=gF bj (ae (af 0) aj)) (δ:=[some (aF es),some (.list ys),none,none]) (x:=.int (ys.length:Int)) (y:=.int ((es.map Er.d).length:Int)) rfl rfl (uf _ _);rw[cT,hn,Rs.ag,aU,A7]
  rw[aK,de,hc,aC];by_cases hl:ys.length=es.length
  ·rw[show ((ys.length:Int)==(es.length:Int))=true by rw[beq_iff_eq,hl]];rw[if_neg (by decide)];show a7 (av _ _ _)=_;rw[show cL es (.list ys)=dq es ys by show (ys.length==es.length&&dq es ys)=_;rw[beq_iff_eq.mpr hl];rfl];have l:kL (ae (af 0) (ae (af 1) aj)) (mask [] [some (aF es),some (.list ys),none,none])=.ok (fy (es.map Er.d) ys):=by rw[fh];show (if ys.length=(es.map Er.d).length then Rs.ok (fy (es.map Er.d) ys) else Rs.no)=_;exact if_pos (by rw[A7];exact hl)
   have c:=uR (tgt:=gX [2,3]) (body:=aaB cs) l;rw[aK];show a7 (match f7 [] (kL (ae (af 0) (ae (af 1) aj))) (gX [2,3]) (aaB cs) [some (aF es),some (.list ys),none,none] with|.nx δ'=>_|r=>r)=_;rw[c];rcases mK (cs:=cs) (E:=some (aF es)) (Y:=some (.list ys)) es ys none none k j with⟨h1,δ,h2⟩|⟨h1,h2⟩
   ·rw[h2,h1];rfl
   ·rw[h2,h1];rfl
  ·rw[show ((ys.length:Int)==(es.length:Int))=false by rw[beq_eq_false_iff_ne];omega];rw[show cL es (.list ys)=false by show (ys.length==es.length&&dq es ys)=_;rw[beq_eq_false_iff_ne.mpr hl];rfl];rfl
 ·have hc:cOr (bY (gT (g1 (bQ "list") (af 1)))) (gT (g2 dNe (gF bj (ae (af 1) aj)) (gF bj (ae (af 0) aj)))) [some (aF es),some d,none,none]=.ok true:=by rw[fA,cP,cT,hV,show af 1 [some (aF es),some d,none,none]=.ok d from rfl,Rs.ag,kq h1 h2];rfl
  rw[aK,de,hc];rw[show cL es d=false by cases d <;> first|rfl|exact absurd rfl (h2 _)];rfl
theorem tj {d:PyData} (a:aW cs [aF es]=.ok (aF es)) (b:∀e∈es,e.Sh) (l6:es.length<=6) (h:mD d):cA cs [aF es,d]=.ok (if cL es d=true then d else .str "none"):=by
 refine eP rfl ?_;show a7 (if 2<3 then (match aA cs [aF es,d] with|.ok v=>Sr.rt v|.rz c=>if c=cs.NoComings then .rt (.str "none") else .no|.no=>.no) else .no)=_;rw[if_pos (by decide),uu a b l6 h];cases cL es d with
 |true=>rfl
 |false=>show a7 (if cs.NoComings=cs.NoComings then _ else _)=_;rw[if_pos rfl];rfl
end
section
variable {gk gp ge:Ds->Rs PyData} {d kd:PyData} {q:Nat} {p:Int}
theorem tS (a:δ[i]?=some (some (.list ds))) (b:ge δ=.ok d) (c:gk δ=.ok kd) (e:atJ ds kd=some (j,row)) (g:gp δ=.ok (.int p)) (h:ixN row.length p=some q) (f:bG ds=true) (fd:bX d=true):jL i gk gp ge δ=.nx (dD i δ.length ds j (row.set q d)):=by unfold jL;simp only[a,b,c,e,g,h,aC,f,fd,and_self,if_true]
theorem sH (a:δ[i]?=some (some (.list ds))) (b:gk δ=.ok kd) (c:atJ ds kd=some (j,row)) (e:gp δ=.ok (.int q)) (g:ge δ=.ok d) (f:bG ds=true) (fd:bX d=true) (h:row.length<1000000) (k:q<=row.length):jD i gk gp ge δ=.nx (dD i δ.length ds j (row.take q++d::row.drop q)):=by unfold jD;simp only[a,g,b,c,e,aC,f,fd,h,Aw,k,true_and,and_true,if_true,Int.natCast_nonneg]
theorem tf (a:δ[i]?=some (some (.list ds))) (b:gk δ=.ok kd) (c:atJ ds kd=some (j,row)) (e:ge δ=.ok d) (f:bG ds=true) (fd:bX d=true) (g:row.length<1000000):jB i gk ge δ=.nx (dD i δ.length ds j (row++[d])):=by unfold jB;simp only[a,e,b,c,aC,f,fd,g,and_self,if_true]
theorem tm {k:Int} (a:δ[i]?=some (some (.list ds))) (b:ge δ=.ok d) (c:gk δ=.ok (.int k)) (e:ixN ds.length k=some j) (hn:bZ d=true):jk i gk ge δ=.nx (δ.set i (some (.list (ds.set j d)))):=by unfold jk;simp only[a,b,c,e,aC,hn,if_true]
end
theorem lu (rows:List (List Int)):bG (rows.map a9)=true:=Ak.mpr λd hd=>by obtain⟨r,_,rfl⟩:=Ah.mp hd;exact Ak.mpr λx a=>by obtain⟨n,_,rfl⟩:=Ah.mp a;rfl
theorem iP (r:List Int):∀d∈r.map PyData.int,lP d=true:=λd hd=>by obtain⟨n,_,rfl⟩:=Ah.mp hd;rfl
theorem iL (r:List Int):jY (a9 r):=.inl ⟨_,rfl,iP r⟩
theorem ie (h:jY y):mD (.list ((rows.map a9).set j y)):=.inl ⟨_,rfl,λz a=>by
 rcases List.mem_or_eq_of_mem_set a with a|rfl
 ·obtain⟨r,_,rfl⟩:=Ah.mp a;exact iL r
 ·exact h⟩
def spI:Ds->Sr:=(sIf (mr (gT (g2 dLt (af 4) (gC (.int 4)))) (gT (g2 dLt (af 5) (gF bj (ae (g2 dIx (af 2) (af 3)) aj))))) (jL 2 (af 3) (af 5) (g2 aH (g2 dIx (g2 dIx (af 2) (af 3)) (af 5)) (g2 dIx (dJ (ae (g1 c9 (gC (.int 1))) (ae (gC (.int 1)) (ae (g1 c9 (gC (.int 3))) (ae (gC (.int 2)) aj))))) (af 4)))) (sIf (gT (g2 dLt (af 4) (gC (.int 7)))) (jD 2 (af 3) (af 5) (g2 dIx (dJ (ae (g2 bc (af 1) (gC (.int 90))) (ae (g1 c9 (gC (.int 1))) (ae (gC (.bool true)) aj)))) (g2 bc (af 4) (gC (.int 3))))) (sIf (gT (g2 dEq (af 4) (gC (.int 7)))) (jk 2 (af 3) (gF cQ (ae (g2 dIx (af 2) (af 3)) aj))) (sIf (gT (g2 dEq (af 4) (gC (.int 8)))) (fN [2] 2 (dJ aj)) (sIf (gT (g2 dEq (af 4) (gC (.int 9)))) (aX (gF cQ (ae (af 2) aj))) (sIf (gT (g2 dEq (af 4) (gC (.int 10)))) (jB 2 (af 3) (gC .none)) (aX (g2 dIx (dJ (ae (gC .none) (ae (fK (af 2) (iC (gC (.int 1))) fm) (ae (g2 dIx (af 2) (gC (.int 0))) aj)))) (g2 bc (g2 cJ (af 1) (gC (.int 12))) (gC (.int 3)))))))))))
theorem gU:∀r:List Int,e9 (r.map PyData.int)=true
 |[]=>rfl
 |_::r=>gU r
theorem jX (h:j<n):ixN n (j:Int)=some j:=by unfold ixN;rw[if_pos (by omega),if_pos (by omega)];simp
theorem l5 {c:Ds->Rs Bool} {a:Ds->Sr} (h:c δ=.ok true):sIf c a b δ=a δ:=by rw[de,h];rfl
theorem j9 {c:Ds->Rs Bool} {a:Ds->Sr} (h:c δ=.ok false):sIf c a b δ=b δ:=by rw[de,h];rfl
theorem tU {r:List Int} {q:Nat} {w:Int} (B:rows[k]?=some r) (hl:r.length<=1000) (hn:rows.length<=1000) (hw:0<=w/\w<12) (hq:q<=r.length) (hc:0<=c) :
    ∃d,a7 (av spI (aX (af 2)) [some (cmD rows),some (.int c),some (cmD rows),some (.int k),some (.int w),some (.int q)])=.ok d/\mD d:=by
  generalize hδ:[some (cmD rows),some (.int c),some (cmD rows),some (PyData.int k),some (.int w),some (.int q)]=δ
  have p:k<rows.length:=(Ar.mp B).1
  have J:af 1 δ=.ok (.int c):=by subst hδ;rfl
  have v:af 2 δ=.ok (cmD rows):=by subst hδ;rfl
  have s:af 3 δ=.ok (.int k):=by subst hδ;rfl
  have i:af 4 δ=.ok (.int w):=by subst hδ;rfl
  have A:af 5 δ=.ok (.int q):=by subst hδ;rfl
  have d2:δ[2]?=some (some (.list (rows.map a9))):=by subst hδ;rfl
  have dl:δ.length=6:=by subst hδ;rfl
  have b:dIx (cmD rows) (.int k)=some (a9 r):=by
    show atI (rows.map a9) (k:Int)=_
    exact fq (by rw[An,B];rfl)
  have C:g2 dIx (af 2) (af 3) δ=.ok (a9 r):=aZ v s b
  have gl:gF bj (ae (g2 dIx (af 2) (af 3)) aj) δ=.ok (.int (r.length:Int)):=by
    rw[fI,aB,C,a5,Rs.ag,Rs.ag]
    show Rs.ok (PyData.int ((r.map PyData.int).length:Int))=_
    rw[A7]
  have D:atJ (rows.map a9) (.int k)=some (k,r.map PyData.int):=by
    unfold atJ
    have e1:ixN (rows.map a9).length (k:Int)=some k:=jX (by rw[A7];exact p)
    have e2:(rows.map a9)[k]?=some (.list (r.map PyData.int)):=by rw[An,B];rfl
    simp only[e1,e2]
  have lt:∀{n:Int},gT (g2 dLt (af 4) (gC (.int n))) δ=.ok (decide (w<n)):=λ{n}=>by rw[cT,aZ (f:=dLt) i rfl (vg _ _),Rs.ag,aU]
  have eq:∀{n:Int},gT (g2 dEq (af 4) (gC (.int n))) δ=.ok (w==n):=λ{n}=>by rw[cT,aZ (f:=dEq) i rfl (nA _ _),Rs.ag,aU]
  have K:gT (g2 dLt (af 5) (gF bj (ae (g2 dIx (af 2) (af 3)) aj))) δ=.ok (decide ((q:Int)<(r.length:Int))):=by rw[cT,aZ (f:=dLt) A gl (vg _ _),Rs.ag,aU]
  have E:=lu rows
  have fin:∀{n:Nat} {x:List PyData} {t:Ds},t=dD 2 6 (rows.map a9) n x->a7 (aX (af 2) t)=.ok (.list ((rows.map a9).set n (.list x))):=λe=>by subst e;rfl
  unfold spI
  have c1:mr (gT (g2 dLt (af 4) (gC (.int 4)))) (gT (g2 dLt (af 5) (gF bj (ae (g2 dIx (af 2) (af 3)) aj)))) δ=.ok (decide (w<4)&&decide ((q:Int)<(r.length:Int))):=by
    rw[pL,lt,Rs.ag,K]
    cases decide (w<4) <;> rfl
  by_cases h1:w<4/\(q:Int)<(r.length:Int)
  · have c1:=c1.trans (congrArg Rs.ok (show _=true by rw[decide_eq_true h1.1,decide_eq_true h1.2];rfl))
    obtain⟨n,F⟩:∃n,r[q]?=some n:=⟨_,A5 (by omega)⟩
    have L:g2 dIx (g2 dIx (af 2) (af 3)) (af 5) δ=.ok (.int n):=aZ C A (fq (by rw[An,F];rfl))
    obtain⟨m,G⟩:∃m,g2 dIx (dJ (ae (g1 c9 (gC (.int 1))) (ae (gC (.int 1)) (ae (g1 c9 (gC (.int 3))) (ae (gC (.int 2)) aj))))) (af 4) δ=.ok (.int m):=by
      obtain rfl|rfl|rfl|rfl:w=0\/w=1\/w=2\/w=3:=by omega
      · exact⟨-1,aZ (y:=.int 0) rfl i rfl⟩
      · exact⟨1,aZ (y:=.int 1) rfl i rfl⟩
      · exact⟨-3,aZ (y:=.int 2) rfl i rfl⟩
      · exact⟨2,aZ (y:=.int 3) rfl i rfl⟩
    have u:=tS (gp:=af 5) d2 (aZ (f:=aH) L G (cy _ _)) s D A (jX (by rw[A7];omega)) E rfl
    rw[aK,l5 c1,u]
    exact⟨_,fin (by rw[dl]),ie (.inl ⟨_,rfl,λd hd=>by
      rcases List.mem_or_eq_of_mem_set hd with hd|rfl
      · exact iP r d hd
      · rfl⟩)⟩
  · have c1:=c1.trans (congrArg Rs.ok (show _=false by
      by_cases a:w<4
      · rw[decide_eq_false (λz=>h1 ⟨a,z⟩),Bc]
      · rw[decide_eq_false a];rfl))
    rw[aK,j9 c1]
    by_cases h2:w<7
    · rw[l5 (lt.trans (congrArg Rs.ok (decide_eq_true h2)))]
      obtain⟨d,H,fd,od⟩:∃d,g2 dIx (dJ (ae (g2 bc (af 1) (gC (.int 90))) (ae (g1 c9 (gC (.int 1))) (ae (gC (.bool true)) aj)))) (g2 bc (af 4) (gC (.int 3))) δ=.ok d/\bX d=true/\lP d=true:=by
        have G:g2 bc (af 1) (gC (.int 90)) δ=.ok (.int (c % 90)):=aZ J rfl (by rw[eR,if_pos (by decide)])
        have ge:dJ (ae (g2 bc (af 1) (gC (.int 90))) (ae (g1 c9 (gC (.int 1))) (ae (gC (.bool true)) aj))) δ=.ok (.list [.int (c % 90),.int (-1),.bool true]):=by
          rw[ir,aB,G];rfl
        have l:g2 bc (af 4) (gC (.int 3)) δ=.ok (.int (w % 3)):=aZ i rfl (by rw[eR,if_pos (by decide)])
        obtain e|e|e:w % 3=0\/w % 3=1\/w % 3=2:=by omega
        · exact⟨.int (c % 90),aZ ge l (by rw[e];rfl),rfl,rfl⟩
        · exact⟨.int (-1),aZ ge l (by rw[e];rfl),rfl,rfl⟩
        · exact⟨.bool true,aZ ge l (by rw[e];rfl),rfl,rfl⟩
      have u:=sH (gk:=af 3) (gp:=af 5) d2 s D A H E fd (by rw[A7];omega) (by rw[A7];omega)
      rw[u]
      exact⟨_,fin (by rw[dl]),ie (.inl ⟨_,rfl,λx b=>by
        rcases Aq.mp b with b|b
        · exact iP r x (B7 b)
        · rcases Aa.mp b with rfl|b
          · exact od
          · exact iP r x (B8 b)⟩)⟩
    · rw[j9 (lt.trans (congrArg Rs.ok (decide_eq_false h2)))]
      by_cases h3:w=7
      · rw[l5 (eq.trans (congrArg Rs.ok (beq_iff_eq.mpr h3)))]
        have gt:gF cQ (ae (g2 dIx (af 2) (af 3)) aj) δ=.ok (.tuple (r.map PyData.int)):=by rw[fI,aB,C];rfl
        have M:bZ (.tuple (r.map PyData.int))=true:=gU r
        rw[tm d2 gt s (jX (by rw[A7];exact p)) M]
        refine⟨_,by subst hδ;rfl,ie (.inr ⟨?_,λ_ h=>by cases h⟩)⟩
        exact eY r
      · rw[j9 (eq.trans (congrArg Rs.ok (beq_eq_false_iff_ne.mpr h3)))]
        by_cases h4:w=8
        · rw[l5 (eq.trans (congrArg Rs.ok (beq_iff_eq.mpr h4)))]
          refine⟨.list (rows.map a9++[.list []]),?_,.inl ⟨_,rfl,λz g=>?_⟩⟩
          · have:fN [2] 2 (dJ aj) δ=.nx (δ.set 2 (some (.list (rows.map a9++[.list []])))):=by
              unfold fN
              rw[d2]
              show (if (rows.map a9).length<1000000 then _ else _)=_
              rw[if_pos (by rw[A7];omega)]
            rw[this];subst hδ;rfl
          · rcases Aq.mp g with g|g
            · obtain⟨r,_,rfl⟩:=Ah.mp g;exact iL r
            · rw[Aj.mp g];exact iL []
        · rw[j9 (eq.trans (congrArg Rs.ok (beq_eq_false_iff_ne.mpr h4)))]
          by_cases h5:w=9
          · rw[l5 (eq.trans (congrArg Rs.ok (beq_iff_eq.mpr h5)))]
            have gt:gF cQ (ae (af 2) aj) δ=.ok (.tuple (rows.map a9)):=by rw[fI,aB,v];rfl
            refine⟨.tuple (rows.map a9),by rw[cO,gt];rfl,.inr ⟨?_,λ_ h=>by cases h⟩⟩
            exact fE rows
          · rw[j9 (eq.trans (congrArg Rs.ok (beq_eq_false_iff_ne.mpr h5)))]
            by_cases h6:w=10
            · rw[l5 (eq.trans (congrArg Rs.ok (beq_iff_eq.mpr h6)))]
              have u:=tf (gk:=af 3) (ge:=gC .none) d2 s D rfl E rfl (by rw[A7];omega)
              rw[u]
              exact⟨_,fin (by rw[dl]),ie (.inl ⟨_,rfl,λx b=>by
                rcases Aq.mp b with b|b
                · exact iP r x b
                · rw[Aj.mp b];rfl⟩)⟩
            · rw[j9 (eq.trans (congrArg Rs.ok (beq_eq_false_iff_ne.mpr h6)))]
              obtain⟨o,I⟩:∃o,rows[0]?=some o:=⟨_,A5 (by omega)⟩
              have gs:fK (af 2) (iC (gC (.int 1))) fm δ=.ok (.list (cutD (rows.map a9) (some 1) none)):=by rw[pE,v];rfl
              have N:g2 dIx (af 2) (gC (.int 0)) δ=.ok (a9 o):=aZ v rfl (fq (j:=0) (by rw[An,I];rfl))
              have ge:dJ (ae (gC .none) (ae (fK (af 2) (iC (gC (.int 1))) fm) (ae (g2 dIx (af 2) (gC (.int 0))) aj))) δ=.ok (.list [.none,.list (cutD (rows.map a9) (some 1) none),a9 o]):=by
                rw[ir,aB,show gC .none δ=.ok .none from rfl,Rs.ag,aB,gs,Rs.ag,aB,N];rfl
              have H:g2 cJ (af 1) (gC (.int 12)) δ=.ok (.int (c / 12)):=aZ J rfl (by rw[ik,if_pos ⟨by decide,by decide⟩])
              have l:g2 bc (g2 cJ (af 1) (gC (.int 12))) (gC (.int 3)) δ=.ok (.int (c / 12 % 3)):=aZ H rfl (by rw[eR,if_pos (by decide)])
              obtain e|e|e:c / 12 % 3=0\/c / 12 % 3=1\/c / 12 % 3=2:=by omega
              · exact⟨.none,by rw[cO,aZ (f:=dIx) (z:=.none) ge l (by rw[e];rfl)];rfl,.inr ⟨rfl,λ_ h=>by cases h⟩⟩
              · refine⟨.list (cutD (rows.map a9) (some 1) none),by rw[cO,aZ (f:=dIx) (z:=.list (cutD (rows.map a9) (some 1) none)) ge l (by rw[e];rfl)];rfl,.inl ⟨_,rfl,λz g=>?_⟩⟩
                obtain⟨r,_,rfl⟩:=Ah.mp (B8 (B7 g))
                exact iL r
              · refine⟨a9 o,by rw[cO,aZ (f:=dIx) (z:=a9 o) ge l (by rw[e];rfl)];rfl,.inl ⟨_,rfl,λz g=>?_⟩⟩
                obtain⟨n,_,rfl⟩:=Ah.mp g
                exact .inr ⟨rfl,λ_ h=>by cases h⟩
theorem oC {cs:Cs} (l:rows≠[]) (hn:rows.length<=1000) (hl:∀r∈rows,r.length<=1000) (hc:0<=c):∃d,bz cs [cmD rows,.int c]=.ok d/\mD d:=by
 have hp:0<rows.length:=Ba.mpr l;obtain⟨k,m⟩:∃k:Nat,c / 12 % (rows.length:Int)=k:=Int.eq_ofNat_of_zero_le (Ay _ (by omega));have b:k<rows.length:=by have:=Az (c / 12) (show (0:Int)<rows.length by omega);omega
 obtain⟨r,a⟩:∃r,rows[k]?=some r:=⟨_,A5 b⟩
 obtain⟨q,n⟩:∃q:Nat,c / 97 % ((r.length:Int)+1)=q:=Int.eq_ofNat_of_zero_le (Ay _ (by omega));have e:q<=r.length:=by have:=Az (c / 97) (show (0:Int)<(r.length:Int)+1 by omega);omega
 have g:=hl r (AA a);obtain⟨d,h1,h2⟩:=tU (c:=c) (w:=c % 12) a g hn ⟨Ay _ (by decide),Az _ (by decide)⟩ e hc;refine⟨d,eP rfl (Eq.trans ?_ h1),h2⟩;show a7 (cF cs [some (cmD rows),some (.int c),none,none,none,none])=_;have o:gD [2] 2 (a3 6 (dg (af 0)) bq (gF dZ (ae (af 6) aj)) bf) [some (cmD rows),some (.int c),none,none,none,none]=.nx [some (cmD rows),some (.int c),some (cmD rows),none,none,none]:=by
  have j:a3 6 (dg (af 0)) bq (gF dZ (ae (af 6) aj)) bf [some (cmD rows),some (.int c),none,none,none,none]=.ok ((rows.map a9).map id) :=
   bW rfl rfl (by rw[A7];omega) λd h=>by obtain⟨r,a,rfl⟩:=Ah.mp h;rfl
  rw[B2]at j;exact u9 (show 2<6 by decide) j
 have s2:dG 3 (g2 bc (g2 cJ (af 1) (gC (.int 12))) (gF bj (ae (af 2) aj))) [some (cmD rows),some (.int c),some (cmD rows),none,none,none]=.nx [some (cmD rows),some (.int c),some (cmD rows),some (.int k),none,none]:=by
  have i:g2 cJ (af 1) (gC (.int 12)) [some (cmD rows),some (.int c),some (cmD rows),none,none,none]=.ok (.int (c / 12)):=aZ (x:=.int c) rfl rfl (by rw[ik,if_pos ⟨by decide,by decide⟩]);have gl:gF bj (ae (af 2) aj) [some (cmD rows),some (.int c),some (cmD rows),none,none,none]=.ok (.int (rows.length:Int)):=by show Rs.ok (PyData.int ((rows.map a9).length:Int))=_;rw[A7]
  exact ib (show 3<6 by decide) (aZ i gl (by rw[eR,if_pos (by omega),m])) rfl
 have p:dG 4 (g2 bc (af 1) (gC (.int 12))) [some (cmD rows),some (.int c),some (cmD rows),some (.int k),none,none]=.nx [some (cmD rows),some (.int c),some (cmD rows),some (.int k),some (.int (c % 12)),none] :=
  ib (show 4<6 by decide) (aZ (x:=.int c) rfl rfl (by rw[eR,if_pos (by decide)])) rfl
 have s:dG 5 (g2 bc (g2 cJ (af 1) (gC (.int 97))) (g2 aH (gF bj (ae (g2 dIx (af 2) (af 3)) aj)) (gC (.int 1)))) [some (cmD rows),some (.int c),some (cmD rows),some (.int k),some (.int (c % 12)),none]=.nx [some (cmD rows),some (.int c),some (cmD rows),some (.int k),some (.int (c % 12)),some (.int q)]:=by
  have i:g2 cJ (af 1) (gC (.int 97)) [some (cmD rows),some (.int c),some (cmD rows),some (.int k),some (.int (c % 12)),none]=.ok (.int (c / 97)):=aZ (x:=.int c) rfl rfl (by rw[ik,if_pos ⟨by decide,by decide⟩]);have t:g2 dIx (af 2) (af 3) [some (cmD rows),some (.int c),some (cmD rows),some (.int k),some (.int (c % 12)),none]=.ok (a9 r):=aZ (x:=cmD rows) (y:=.int k) rfl rfl (fq (by rw[An,a];rfl));have gl:gF bj (ae (g2 dIx (af 2) (af 3)) aj) [some (cmD rows),some (.int c),some (cmD rows),some (.int k),some (.int (c % 12)),none]=.ok (.int (r.length:Int)):=by rw[fI,aB,t,a5,Rs.ag,Rs.ag];show Rs.ok (PyData.int ((r.map PyData.int).length:Int))=_;rw[A7]
  exact ib (show 5<6 by decide) (aZ i (aZ (f:=aH) (y:=.int 1) gl rfl (cy _ _)) (by rw[eR,if_pos (by omega),n])) rfl
 unfold cF;rw[cq o,cq s2,cq p,cq s];rfl
end RS
set_option maxHeartbeats 4000000
namespace L2
open PySem PySem.Spec PyProof.Rows
section
variable {E:XK} {k:Expr} {gk:Ds->Rs PyData} {apos:Pos}
end
section
variable {E:XK} {ga:Ds->Rs PyData}
end
def ndB:List Str->Bool
 |[]=>true
 |x::r=>!r.elem x&&ndB r
theorem pd:∀{l:List Str},ndB l=true->l.Nodup
 |[],_=>List.nodup_nil
 |x::r,h=>by simp only[ndB,A3,Bool.not_eq_true']at h;exact AL.mpr ⟨λz=>(by have:=List.elem_eq_true_of_mem z;rw[h.1]at this;cases this),pd h.2⟩
section
variable {n':Nat} {m:Str}
def AtX (X:Cx) (P:Program) (w:World) (K:PySem.W.Frag) (mg:Str->Option Value) (base:Heap):Prop:=X.prog=P/\X.w=w/\X.K=K/\X.mg=mg/\X.base=base
theorem fz.to (h:fz P w K mg base k x n gf) (a:AtX X P w K mg base) (hn:n=n'):fz X.prog X.w X.K X.mg X.base k x n' gf:=by obtain⟨rfl,rfl,rfl,rfl,rfl⟩:=a;subst hn;exact h
theorem qj.to (h:qj P w K mg base k C m n gf) (a:AtX X P w K mg base) (hn:n=n'):qj X.prog X.w X.K X.mg X.base k C m n' gf:=by obtain⟨rfl,rfl,rfl,rfl,rfl⟩:=a;subst hn;exact h
theorem qt.to {g:List (Str×PyData)->Option (List (Str×PyData))} (h:qt P w K mg base k C m g) (a:AtX X P w K mg base):qt X.prog X.w X.K X.mg X.base k C m g:=by obtain⟨rfl,rfl,rfl,rfl,rfl⟩:=a;exact h
theorem p5.to {l:List Str} (h:p5 P w K mg base k x C l) (a:AtX X P w K mg base):p5 X.prog X.w X.K X.mg X.base k x C l:=by obtain⟨rfl,rfl,rfl,rfl,rfl⟩:=a;exact h
end
end L2
namespace RS
open PySem PySem.Spec PyProof.Rows L2
theorem tH (d:α) {us:List α} (h:us.length=n):∃f:Nat->α,us=(List.range n).map f :=
 ⟨λi=>us.getD i d,List.ext_getElem (by simp[h]) λi h1 h2=>by simp[AG,A5 h1]⟩
section
variable {m q:Str} {G:Ds->Sr} {gf:Gf}
abbrev Bod (P:Program) (w:World) (K:PySem.W.Frag) (mg:Str->Option Value) (base:Heap) (q:Str) (st:Stmt) (k:Nat) (O:List Nat) (N:List Str) (G:Ds->Sr):Prop:=∀(f:Addr) (cdv:Value) (A:Around) (outer:List Env) (s:Shared) (H:Hp) (E:XK),N.Nodup->cE k (A.deeper (envOfC q (aw st) s.heap.objs.size f cdv))->PBD (dO (CXW P w) P w K mg base N q (aw st) f cdv A outer s H E) E O (bM st) G
theorem dA (P:Program) (w:World) (base:Heap) (k:Nat) (O:List Nat) (N:List Str) (h:bP K mg x st ps) (a:∀ds,ds.length=ps.length->gf ds≠.no->a7 (G (ds.map some++List.replicate (N.length-ps.length) none))=gf ds)
  (body:Bod P w K mg base x st k O N G) (S:cn N ps (aw st):=by exact⟨rfl,rfl,rfl,by decide +kernel,rfl,by decide +kernel,by decide +kernel⟩) (c:∀i∈O,ps.length<=i:=by decide):fz P w K mg base (k+1) x ps.length gf:=by
 obtain⟨f,fd,F,b,m⟩:=h;exact fz.of F S b m c (λcdv A outer s H E=>body f cdv A outer s H E S.nd) a
theorem dL (k:Nat) (O:List Nat) (N:List Str) {f:Addr} (F:Fun K x x st f fd) (a:∀ds,ds.length=ps.length->gf ds≠.no->a7 (G (ds.map some++List.replicate (N.length-ps.length) none))=gf ds)
  (body:Bod P w K mg base x st k O N G) (S:cn N ps (aw st):=by exact⟨rfl,rfl,rfl,by decide +kernel,rfl,by decide +kernel,by decide +kernel⟩) (b:∀i∈O,ps.length<=i:=by decide):dj P w K mg base (CXW P w) (k+1) f fd ps (spD K ps.length gf) :=
 tQ F S b (λcdv A outer s H E=>body f cdv A outer s H E S.nd) a
end
end RS
namespace L2
open PySem PySem.Spec PyProof.Rows
theorem ud:∀δ,gF dZ gs δ=gL (nJ gs) δ:=λδ=>by
 unfold gF gL nJ;cases gs δ with
 |ok ds =>
  show Rs.cN (dZ ds)=(kT ds).bind λds=>.ok (.list ds)
  unfold dZ;split
  ·rfl
  ·rfl
  ·rename_i h1 h2;rw[show kT ds=.no by unfold kT;split;exact (h1 _ rfl).elim;exact (h2 _ rfl).elim;rfl];rfl
 |rz C=>rfl
 |no=>rfl
theorem iw:mi (eV C gs):=λδ=>by unfold eV;cases gs δ <;> trivial
theorem oh (hl:nv=[x]) (hn:PySem.W.nsIn K mainGlobals x=some none):i4 K h:=by
 have no:∀P q,¬ TabOf K P q:=λP q t=>by obtain⟨y,m,f,oc,od,fd,sl,c,e,_⟩:=t;rw[hl]at m;rw[Aj.mp m,hn]at e;cases e
 exact⟨λP q t=>(no P q t).elim,λP q q' t _=>(no P q t).elim⟩
end L2
namespace RS
open PySem PySem.Spec PyProof.Rows L2
theorem dN {G:Ds->Sr} {gf:Gf} (P:Program) (w:World) (base:Heap) (k:Nat) (O:List Nat) (N:List Str) (h:bP K mg x st ps) (e:∀ds,ds.length=ps.length->gf ds≠.no->a7 (G (ds.map some++List.replicate (N.length-ps.length) none))=gf ds)
  (body:∀(f:Addr) (cdv:Value) (A:Around) (outer:List Env) (s:Shared) (H:Hp) (E:XK),N.Nodup->cE k (A.deeper (envOfC x (aw st) s.heap.objs.size f cdv))->PBM (dO (CXW P w) P w K mg base N x (aw st) f cdv A outer s H E) E O (bM st) G) (a:∀δ c,G δ≠.nx c)
  (S:cn N ps (aw st):=by exact⟨rfl,rfl,rfl,by decide +kernel,rfl,by decide +kernel,by decide +kernel⟩) (g:∀i∈O,ps.length<=i:=by decide):lW P w K mg base (k+1) x ps.length gf:=by
 obtain⟨f,fd,F,b,m⟩:=h;exact lW.of F S b m g (λcdv A outer s H E=>body f cdv A outer s H E S.nd) e a
end RS
set_option maxHeartbeats 1000000
namespace RS
open PySem L2
theorem ny {d:PyData} (h1:ax d=true) (h2:SeqAt.shaped d=true):dEq d d=some (.bool true):=by unfold dEq;rw[h1,h2,SeqAt.eqv_refl d (SeqAt.canLay_of_shaped h2)];rfl
theorem k4 (h:∀d∈ds,d.canLay0=true/\d.depth<=n):PyData.canLayAll0 ds=true/\PyData.depthAll ds<=n:=by
 induction ds with
 |nil=>exact⟨rfl,B1 _⟩
 |cons d r ih =>
  obtain⟨a,b⟩:=h d Ad;obtain⟨c,e⟩:=ih λx f=>h x (Ab _ f)
  refine⟨by simp[PyData.canLayAll0,a,c],?_⟩;simp only[PyData.depthAll];omega
theorem qV (rows:List (List Int)):SeqAt.shaped (cmD rows)=true:=by
 obtain⟨a,b⟩:=k4 (ds:=rows.map a9) (n:=10) λd hd=>by
  obtain⟨r,_,rfl⟩:=Ah.mp hd;obtain⟨a,b⟩:=k4 (ds:=r.map PyData.int) (n:=5) λd hd=>by obtain⟨i,_,rfl⟩:=Ah.mp hd;exact⟨rfl,by simp[PyData.depth]⟩
  refine⟨by simp[a9,PyData.canLay0,a],?_⟩;simp only[a9,PyData.depth];omega
 have c:(PyData.list (rows.map a9)).depth<=64:=by simp only[PyData.depth];omega
 simp[cmD,SeqAt.shaped,PyData.canLay0,a,c]
theorem xo (rows:List (List Int)):dEq (cmD rows) (cmD rows)=some (.bool true):=ny (fE rows) (qV rows)
theorem uw (rows:List (List Int)):dNe (cmD rows) (cmD rows)=some (.bool false):=by unfold dNe;rw[fE,qV,SeqAt.eqv_refl _ (SeqAt.canLay_of_shaped (qV rows))];rfl
theorem m7:∀{es:List Er} {ys:List PyData},ys.length=es.length->dq es ys=true->∃rows:List (List Int),ys=rows.map a9
 |_,[],_,_=>⟨[],rfl⟩
 |[],_::_,hl,_=>by cases hl
 |e::es,y::ys,hl,h=>by
  have h:(fX e y&&dq es ys)=true:=h;rw[A3]at h;obtain⟨rows,rfl⟩:=m7 (by simpa using hl) h.2;obtain⟨l,rfl⟩:∃l,y=.list l:=by have h1:=h.1;cases y <;> first|exact⟨_,rfl⟩|(cases h1;done)
  have h1:(decide (l.length<=60)&&(l.all wh&&hvE e (l.map intOf)))=true:=h.1;rw[A3,A3]at h1;obtain⟨ns,rfl,_⟩:=kE h1.2.1;exact⟨ns::rows,rfl⟩
theorem nY {d:PyData} (h:cL es d=true):∃rows,d=cmD rows:=by
 cases d <;> first|(cases h;done)|skip
 rename_i ys;have h:(ys.length==es.length&&dq es ys)=true:=h;rw[A3,beq_iff_eq]at h;obtain⟨rows,rfl⟩:=m7 h.1 h.2;exact⟨rows,rfl⟩
theorem Cms.all (h:Cms es rows):cL es (cmD rows)=true:=by
 have hl:((rows.map a9).length==es.length)=true:=by rw[beq_iff_eq,A7];exact h.len
 show ((rows.map a9).length==es.length&&dq es (rows.map a9))=true;rw[hl,AS];clear hl
 induction h with
 |nil=>rfl
 |@cons e r es rows hr hv _ ih =>show (fc e (r.map PyData.int)&&dq es (rows.map a9))=true;rw[ih,Bool.and_true];unfold fc;rw[jE,hv,decide_eq_true (by rw[A7];exact hr.few),Bool.and_true,AS];exact Ak.mpr λd hd=>by obtain⟨c,hc,rfl⟩:=Ah.mp hd;exact qQ (hr.lo c hc) (hr.hi c hc)
theorem v8 (rows:List (List Int)):mD (cmD rows):=.inl ⟨_,rfl,λy a=>by obtain⟨r,_,rfl⟩:=Ah.mp a;exact iL r⟩
theorem law_holds (cs:Cs) (ns:List Int):nH cs (cA cs) (bg cs) ai (bz cs) (aA cs) (a8 cs) aO (some (ah ns)::List.replicate 7 none)=.rt (.bool true):=by
 obtain⟨es,rs,_,l1,l4,hok,n,o,hrs⟩:=qX ns 8 28 (by decide) (by decide) (by decide);have l6:es.length<=6:=by omega
 have ok:xn es:=⟨l1,l6,hok⟩
 have j:∀e∈es,e.Sh:=λe A=>(hok e A).sh
 have l:=jr cs l1 l6 hok;obtain⟨rows,p,C⟩:=lS (cs:=cs) ok (ns:=ns) (a:=0) (span:=60) (by decide) (by decide);have m:aA cs [aF es,cmD rows]=.ok (cmD rows):=by rw[uu l j l6 (v8 rows),if_pos C.all]
 have q:=bp (ns:=ns) (k:=5) (many:=1000000) (by decide) (by decide);obtain⟨d,hd,v⟩:=oC (cs:=cs) (rows:=rows) (c:=mixed ns 5 1000000) (λz=>by have:=C.len;rw[z]at this;simp at this;omega) (by have:=C.len;omega) (λr n=>by have:=(C.jT r n).few;omega) (bt _ _ (by decide));have s:=vh (cs:=cs) hok v;have h:=tj (cs:=cs) l j l6 v;have B:aJ [] 1 (au aO (ae (af 0) (ae (gC (.int 8)) (ae (gC (.int 4)) (ae (gC (.int 28)) (ae (gC (.bool true)) aj)))))) [some (ah ns),none,none,none,none,none,none,none]=.nx [some (ah ns),some (aF es),none,none,none,none,none,none]:=bR (by decide:1<8) (dY rfl o);have s2:aJ [] 2 (au (a8 cs) (ae (af 0) (ae (gC (.int 0)) (ae (af 1) (ae (gC (.int 60)) aj))))) [some (ah ns),some (aF es),none,none,none,none,none,none]=.nx [some (ah ns),some (aF es),some (cmD rows),none,none,none,none,none]:=bR (by decide:2<8) (dY rfl p);have D:aJ [] 3 (au (aA cs) (ae (af 1) (ae (af 2) aj))) [some (ah ns),some (aF es),some (cmD rows),none,none,none,none,none]=.nx [some (ah ns),some (aF es),some (cmD rows),some (cmD rows),none,none,none,none]:=bR (by decide:3<8) (dY rfl m);have E:sIf (gT (g2 dNe (af 3) (af 2))) (aX (gC (.bool false))) aY [some (ah ns),some (aF es),some (cmD rows),some (cmD rows),none,none,none,none]=.nx [some (ah ns),some (aF es),some (cmD rows),some (cmD rows),none,none,none,none] :=
  j9 (by rw[cT,aZ (x:=cmD rows) (y:=cmD rows) rfl rfl (uw rows),Rs.ag,aU])
 have F:aJ [] 4 (gL (a3 8 (dg (af 2)) bq (gF dZ (ae (af 8) aj)) bf)) [some (ah ns),some (aF es),some (cmD rows),some (cmD rows),none,none,none,none]=.nx [some (ah ns),some (aF es),some (cmD rows),some (cmD rows),some (cmD rows),none,none,none]:=by
  have w:a3 8 (dg (af 2)) bq (gF dZ (ae (af 8) aj)) bf [some (ah ns),some (aF es),some (cmD rows),some (cmD rows),none,none,none,none]=.ok ((rows.map a9).map id) :=
   bW rfl rfl (by have:=C.len;rw[A7];omega) λd t=>by obtain⟨r,n,rfl⟩:=Ah.mp t;rfl
  rw[B2]at w;exact bR (by decide:4<8) (by rw[fh,lQ,w];rfl)
 have G:sFr 5 (aA cs) (ae (af 1) (ae (af 4) aj)) [some (ah ns),some (aF es),some (cmD rows),some (cmD rows),some (cmD rows),none,none,none]=.nx [some (ah ns),some (aF es),some (cmD rows),some (cmD rows),some (cmD rows),none,none,none]:=by
  unfold sFr;rw[if_pos (show 5<[some (ah ns),some (aF es),some (cmD rows),some (cmD rows),some (cmD rows),none,none,none].length from (by decide:5<8))];have hc:(ae (af 1) (ae (af 4) aj) [some (ah ns),some (aF es),some (cmD rows),some (cmD rows),some (cmD rows),none,none,none]).bind (aA cs)=.ok (cmD rows):=m;have H:pK (cmD rows)=true:=by
   have hl:=C.len;have u:=C.jT;cases rows with
   |nil=>simp at hl;omega
   |cons r rows =>show (Nat.blt (r.map PyData.int).length 1000000&&Nat.blt (rows.map a9).length 1000)=true;have:=(u r Ad).few;simp only[AV]at hl;rw[A3,A7,A7];exact⟨Nat.ble_eq_true_of_le (by omega),Nat.ble_eq_true_of_le (by omega)⟩
  rw[hc,aC,if_pos H];rfl
 have I:sIf (gT (g2 dNe (af 4) (af 2))) (aX (gC (.bool false))) aY [some (ah ns),some (aF es),some (cmD rows),some (cmD rows),some (cmD rows),none,none,none]=.nx [some (ah ns),some (aF es),some (cmD rows),some (cmD rows),some (cmD rows),none,none,none] :=
  j9 (by rw[cT,aZ (x:=cmD rows) (y:=cmD rows) rfl rfl (uw rows),Rs.ag,aU])
 have J:aJ [] 6 (au (bz cs) (ae (af 2) (ae (au ai (ae (af 0) (ae (gC (.int 5)) (ae (g2 km (gC (.int 10)) (gC (.int 6))) aj)))) aj))) [some (ah ns),some (aF es),some (cmD rows),some (cmD rows),some (cmD rows),none,none,none]=.nx [some (ah ns),some (aF es),some (cmD rows),some (cmD rows),some (cmD rows),none,some d,none]:=by
  refine bR (by decide:6<8) (dY (ds:=[cmD rows,.int (mixed ns 5 1000000)]) ?_ hd);have K:g2 km (gC (.int 10)) (gC (.int 6)) [some (ah ns),some (aF es),some (cmD rows),some (cmD rows),some (cmD rows),none,none,none]=.ok (.int 1000000):=aZ (x:=.int 10) (y:=.int 6) rfl rfl rfl;have hm:au ai (ae (af 0) (ae (gC (.int 5)) (ae (g2 km (gC (.int 10)) (gC (.int 6))) aj))) [some (ah ns),some (aF es),some (cmD rows),some (cmD rows),some (cmD rows),none,none,none]=.ok (.int (mixed ns 5 1000000)) :=
   dY (ds:=[ah ns,.int 5,.int 1000000]) (by rw[aB,show af 0 [some (ah ns),some (aF es),some (cmD rows),some (cmD rows),some (cmD rows),none,none,none]=.ok (ah ns) from rfl,Rs.ag,aB,show gC (.int 5) [some (ah ns),some (aF es),some (cmD rows),some (cmD rows),some (cmD rows),none,none,none]=.ok (.int 5) from rfl,Rs.ag,aB,K];rfl) q
  rw[fh,aB,show af 2 [some (ah ns),some (aF es),some (cmD rows),some (cmD rows),some (cmD rows),none,none,none]=.ok (cmD rows) from rfl,Rs.ag,aB,hm];rfl
 have L:aJ [] 7 (gC (.str "none")) [some (ah ns),some (aF es),some (cmD rows),some (cmD rows),some (cmD rows),none,some d,none]=.nx [some (ah ns),some (aF es),some (cmD rows),some (cmD rows),some (cmD rows),none,some d,some (.str "none")]:=bR (by decide:7<8) rfl;have hc:gT (au (bg cs) (ae (af 1) (ae (af 6) aj))) [some (ah ns),some (aF es),some (cmD rows),some (cmD rows),some (cmD rows),none,some d,some (.str "none")]=.ok (cL es d):=by rw[cT,dY (ds:=[aF es,d]) rfl s,Rs.ag,aU]
 unfold nH;show av _ _ [some (ah ns),none,none,none,none,none,none,none]=_;rw[cq B,cq s2,cq D,cq E,cq F,cq G,cq I,cq J,cq L];cases ha:cL es d with
 |true =>rw[ha]at hc;rw[ha,if_pos rfl]at h;obtain⟨b,rfl⟩:=nY ha;rw[aK,l5 hc,bR (O:=[]) (i:=7) (g:=af 6) (d:=cmD b) (δ:=[some (ah ns),some (aF es),some (cmD rows),some (cmD rows),some (cmD rows),none,some (cmD b),some (.str "none")]) (by decide:7<8) rfl];show aX _ [some (ah ns),some (aF es),some (cmD rows),some (cmD rows),some (cmD rows),none,some (cmD b),some (cmD b)]=_;rw[cO,aZ (f:=dEq) (x:=cmD b) (y:=cmD b) (dY (ds:=[aF es,cmD b]) rfl h) rfl (xo b)];rfl
 |false =>rw[ha]at hc;rw[ha,if_neg AB]at h;rw[aK,j9 hc];show aX _ [some (ah ns),some (aF es),some (cmD rows),some (cmD rows),some (cmD rows),none,some d,some (.str "none")]=_;rw[cO,aZ (f:=dEq) (x:=.str "none") (y:=.str "none") (dY (ds:=[aF es,d]) rfl h) rfl (ny rfl (by decide +kernel))];rfl
theorem xv (cs:Cs):LLq (nH cs (cA cs) (bg cs) ai (bz cs) (aA cs) (a8 cs) aO) 1 7 (cX 63):=lawT_of (law_holds cs)
end RS
set_option maxHeartbeats 0
namespace RS
open PySem PySem.Spec PyProof.Rows L2
variable {f:Addr}
def top (i:Nat):Stmt:=PySem.Challenge.pw_ranksure_k03_comings.main.body.getD i (.Pass ⟨0,0,0,0⟩)
structure Tx (K:PySem.W.Frag) (mg:Str->Option Value) (cs:Cs):Prop where
 f_is_whole:bP K mg "is_whole" (top 12) ["thing", "least", "most"]
 f_is_tuple:bP K mg "is_tuple" (top 13) ["thing", "fewest", "most"]
 f_is_part:bP K mg "is_part" (top 14) ["thing"]
 f_are_parts:bP K mg "are_parts" (top 15) ["thing"]
 f_is_errand:bP K mg "is_errand" (top 16) ["thing"]
 f_checked:bP K mg "checked" (top 17) ["errands"]
 f_have_moments:bP K mg "have_moments" (top 21) ["errand", "row"]
 f_is_row:bP K mg "is_row" (top 22) ["errand", "thing"]
 f_checked_comings:bP K mg "checked_comings" (top 23) ["errands", "comings"]
 f_law_cell_at:bP K mg "_law_cell_at" (top 25) ["_law_script", "_law_k"]
 f_law_mixed:bP K mg "_law_mixed" (top 26) ["_law_script", "_law_k", "_law_many"]
 f_law_errand:bP K mg "_law_errand" (top 27) ["_law_script", "_law_at", "_law_top", "_law_tools"]
 f_law_errands:bP K mg "_law_errands" (top 28) ["_law_script", "_law_at", "_law_most", "_law_top", "_law_tools"]
 f_law_coming_row:bP K mg "_law_coming_row" (top 29) ["_law_script", "_law_at", "_law_errand_here", "_law_span"]
 f_law_comings:bP K mg "_law_comings" (top 30) ["_law_script", "_law_at", "_law_errands_here", "_law_span"]
 f_law_are_comings:bP K mg "_law_are_comings" (top 31) ["_law_errand_here", "_law_row"]
 f_law_told:bP K mg "_law_told" (top 32) ["_law_errands_here", "_law_comings_here"]
 f_law_spoilt:bP K mg "_law_spoilt" (top 33) ["_law_comings_here", "_law_cell"]
 f_law_are_all:bP K mg "_law_are_all" (top 34) ["_law_errands_here", "_law_comings_here"]
 f_law:bP K mg "law" (top 35) ["_law_script"]
 bs:∀x∈["ValueError", "all", "bool", "int", "isinstance", "len", "list", "max", "min", "range", "tuple", "zip"],mg x=none
 cst:∀q∈([("LAST_COMING",9999),("LEAST_EVERY",2),("MOST_COMINGS",60),("MOST_ERRANDS",6),("MOST_EVERY",60),("MOST_LATE",20),("MOST_LENGTH",20),("MOST_PARTS",4),("TOOLS",4)]:List (Str×Int)),∃t,mg q.1=some (.int q.2 t)
 e_NoComings:kc K mg "NoComings" cs.NoComings
 e_NoErrands:kc K mg "NoErrands" cs.NoErrands
 e_RankError:kc K mg "RankError" cs.RankError
 x_NoComings:jn K cs.NoComings
 i_NoComings_RankError:PySem.W.kitOne K (.ref cs.NoComings) (.ref cs.RankError)=some true
 i_NoComings_ValueError:PySem.W.kitOne K (.ref cs.NoComings) (.type "ValueError")=some true
structure Ty (K:PySem.W.Frag) (mg:Str->Option Value) (cs:Cs) (base:Heap):Prop extends Tx K mg cs where
 hB:jN mg base
 hK:K.In base
section
variable {cs:Cs}
theorem l9:cn ["_law_script", "_law_k"] ["_law_script", "_law_k"] (aw (top 25)):=⟨rfl,rfl,rfl,by decide +kernel,rfl,by decide +kernel,by decide +kernel⟩
theorem lN (F:Fun K "_law_cell_at" "_law_cell_at" (top 25) f fd) (bl:mg "len"=none):dj P w K mg base CX0 1 f fd ["_law_script", "_law_k"] (pF K):=by
 refine F.ok l9 (λvs H Q E h=>?_) (λcdv A outer s H vs Q E l h=>?_)
 ·obtain⟨a,ns,k,rfl,_⟩:=h;rfl
 ·obtain⟨a,ns,k,rfl,e,m,g⟩:=h;refine⟨_,bT (mU (vn (yb (pv 1) (da eI rfl bl PySem.boot_len (bA (pv 0) cR)))) (dX (fH (ij eF (pv 0) (pv 1) (λ_ _=>rfl)))) kj)
   (bT (mU (fv (lL l.units) (pv 0) (lY cR) (eU _)) (dX (fH d8)) kj)
   (dX (fH (cg gK (cg gn (ij eF (pv 0) (cg iq (pv 1) (da eI rfl bl PySem.boot_len (bA (pv 0) cR))) (λ_ _=>rfl)) d8) (pv 1))))),?_⟩
  refine⟨_,rfl,_,rfl,a,_,rfl,.inl e,k,_,rfl,rfl,_,rfl,?_⟩;have hlen:(ns.map V.int).length=ns.length:=A7 ..;rw[hlen];refine xF (λhc=>?_) (λhc=>?_)
  ·have hc:k<(ns.length:Int):=of_decide_eq_true hc;have hi:k.toNat<ns.length:=by omega
   refine⟨_,rfl,_,rfl,a,_,k,.int (ns.getD k.toNat 0),rfl,rfl,e,kr m ?_,?_⟩
   ·rw[An,A5 hi,AG,A5 hi];rfl
   ·have:=g H (ak.refl H);rw[show cellAt ns k=ns.getD k.toNat 0 by unfold cellAt;rw[if_pos hc]]at this;exact this
  ·have hc:¬ k<(ns.length:Int):=λz=>hc (decide_eq_true z)
   refine⟨_,rfl,B1 _,λp i=>⟨.list (ns.map .int),.list [],(kh e (jW ns)).same (f9 i),kh (SqL.of aV) i8,shaped_ints ns,lX,_,rfl,?_⟩⟩;rw[qD];refine xF (λb=>?_) (λb=>?_)
   ·have b:ns=[]:=of_decide_eq_true b;have:=g _ (f9 (o:=.lst []) i);rw[show cellAt ns k=0 by unfold cellAt;rw[if_neg hc,if_pos b]]at this;exact this
   ·have b:¬ ns=[]:=λz=>b (decide_eq_true z)
    have c:0<(ns.length:Int):=by
     cases ns with
     |nil=>exact absurd rfl b
     |cons _ _=>simp
    have h1:0<=k % (ns.length:Int):=Ay _ (by omega);have h2:k % (ns.length:Int)<(ns.length:Int):=Az _ c;have hi:(k % (ns.length:Int)).toNat<ns.length:=by omega
    have j:ak H (upd H p (.lst [])):=f9 i;refine⟨_,rfl,_,rfl,_,rfl,a,_,rfl,.inl (j.seq e),_,_,rfl,rfl,by rw[hlen];exact c,a,_,_,.int (ns.getD (k % (ns.length:Int)).toNat 0),rfl,rfl,j.seq e,?_,_,_,rfl,rfl,.inr ⟨by decide,by decide⟩,_,rfl,_,_,rfl,rfl,?_⟩
    ·rw[hlen];refine kr h1 ?_;rw[An,A5 hi,AG,A5 hi];rfl
    ·have:=g _ j;rw[show cellAt ns k=ns.getD (k % (ns.length:Int)).toNat 0*31+k by unfold cellAt;rw[if_neg hc,if_neg b]]at this;exact this
theorem lA:cn ["_law_script", "_law_k", "_law_many", "_law_drawn"] ["_law_script", "_law_k", "_law_many"] (aw (top 26)):=⟨rfl,rfl,rfl,by decide +kernel,rfl,by decide +kernel,by decide +kernel⟩
theorem rh {c:Addr} {b:FuncData} (F:Fun K "_law_mixed" "_law_mixed" (top 26) f fd) (e:Fun K "_law_cell_at" "_law_cell_at" (top 25) c b) (g:Binds K b ["_law_script", "_law_k"] []) (j:mg "_law_cell_at"=some (.ref c)) (bl:mg "len"=none):dj P w K mg base CX0 2 f fd ["_law_script", "_law_k", "_law_many"] (um K):=by
 have l:dj P w K mg base CX0 1 c b _ (pF K):=lN e bl;refine F.ok lA (λvs H Q E h=>?_) (λcdv A outer s H vs Q E m h=>?_)
 ·obtain⟨a,ns,k,many,rfl,_⟩:=h;rfl
 ·obtain⟨a,ns,k,many,rfl,n,o,hm,p⟩:=h;refine⟨_,bT (gJ (i:=3) lA.nd rfl (Or.inl rfl) (cg iq (cg gn (cg gK (cg gK (kC l m rfl j e.kp g .nil xD (bA (pv 0) (bA (pv 1) cR))) (cg gn d8 (pv 1))) d8) d8) d8))
   (dX (fH (cg iq (cg iq (cg gK (cg gK (cg gn (pv 3) (pv 3)) (cg gn d8 (pv 3))) (pv 1)) d8) (pv 2)))),?_⟩
  refine⟨_,rfl,_,rfl,a,ns,k,rfl,n,o,λH1 q=>?_⟩;refine⟨_,rfl,_,_,rfl,rfl,.inl ⟨by decide,by decide⟩,_,_,rfl,rfl,_,_,rfl,rfl,_,_,rfl,rfl,.inr ⟨by decide,by decide⟩,_,_,rfl,rfl,(by show (0:Int)<2147483647;decide),?_⟩;have b1:=sg ns k;have b2:=tY ns k;have eD:(cellAt ns k+7919*k+1)*48271 % 2147483647=oq ns k:=rfl;refine⟨_,rfl,_,rfl,_,_,rfl,rfl,.inl ⟨?_,?_⟩,_,rfl,_,_,rfl,rfl,.inl ⟨by decide,by decide⟩,_,_,rfl,rfl,_,rfl,_,_,rfl,rfl,_,_,rfl,rfl,(by show (0:Int)<2147483629;decide),_,rfl,_,_,rfl,rfl,hm,p H1 q⟩
  ·show -(2 ^ 64)<(cellAt ns k+7919*k+1)*48271 % 2147483647;rw[eD];omega
  ·show (cellAt ns k+7919*k+1)*48271 % 2147483647<2 ^ 64;rw[eD];omega
theorem lj (T:Tx K mg cs):fz P w K mg base 2 "_law_mixed" 3 ai:=by obtain⟨f,fd,F,b,m⟩:=T.f_law_mixed;obtain⟨fC,fdC,a,c,e⟩:=T.f_law_cell_at;exact fz.old (rh F a c e (T.bs _ (by decide))) m F.kp b sC
set_option hygiene false
local macro_rules | `(tactic| exists $r)=>`(tactic| refine' $r ..) |`(tactic| exists $r,$rs,*)=>`(tactic| first|refine' $r ..|exists $rs,*)
local macro_rules | `(tactic| infer_instance)=>`(tactic| first|((with_reducible show _=_);exact rfl)|(with_reducible first|(show PD _ _ _ _;first|exists vX,vB,tI,xC,pf,vE,wR,wt,v9,uA,vc,u7,u3,vk,vo,uO,xx,vD,uM,va,pe|(show PD _ _ _ (au _ _);apply rX)|exists oj,vM,uX,pW,l8,nR,sP,sj,xg,w6,wc,sI)|(show PAD _ _ _ _;first|exists pS,tF)|(show PCD _ _ _ _;first|exists vG,vy,u0,vH,uN,sq|refine' qS (mT ..)|refine' qS (pV ..)|refine' rL ..)|(show PSD _ _ _ _ _;first|exists tL,uP,nP|(show PSD _ _ _ (.Assign _ (.ListComp _ _ _ _) _) (aJ _ _ (gL _));apply qI;apply pk;focus with_unfolding_all exact rfl)|exists tu,pD,r8,rn,sT,rl|(show PSD _ _ _ _ (f7 _ _ _ _);apply sL)|refine' oK ..)|(show PBD _ _ _ _ _;first|exists rF,kn,dM)|(show PLD _ _ _ _;first|(show PLD _ _ _ (a3 _ _ _ _ _);apply qN)|exists rN,o1)|(show PID _ _ _ _ _;first|exists mI,su,sF)|(show PIf _ _ _;first|exact PIf.nil|refine' PIf.one ..)|(show PWD _ _ _ _;first|exists mT,pV,q9,sJ)|(show TgS _ _ _ _;first|exists o9,so)|(show POD _ _ _ _;first|exists qR,rk)) <;> infer_instance|((with_reducible show PBD _ _ _ _ _); first|refine' dM ?_ ?_|refine' kn ?_) <;> infer_instance|((with_reducible show PG _ _ _); first|refine' rR ?_ ?_ ?_|refine' uG ?_ ?_) <;> infer_instance|((with_reducible show PGs _ _ _); first|refine' qr ?_ ?_|exact sN) <;> infer_instance|exact rfl|((with_reducible show fz _ _ _ _ _ _ _ _ _);(with_reducible refine' fz.to ?z1 ?z2 ?z3);(case z1=>with_reducible assumption);(case z2=>exact⟨rfl,rfl,rfl,rfl,rfl⟩);(case z3=>rfl))|exact hr|exact mR|exact qh|exact T.bs _ (by decide +kernel)|exact T.cst (_,_) (by decide +kernel)|exact .inl rfl|exact .inr rfl|exact .inr (.inl rfl)|exact .inr (.inr rfl)|exact nd|exact pd (by kernel_rfl)|exact PassesOwn.leaving|exact qB|exact o8|exact λ_=>rfl|exact λ_ _=>rfl|((with_reducible intro _ _ _ _);infer_instance)|exact T.e_NoComings|exact T.e_NoErrands|exact T.e_RankError|exact vO|exact mj|exact bt_bool|exact kH|exact jZ|exact cE.u1 hr|exact hr.units|exact⟨rfl,rfl,rfl,rfl⟩|exact hr.in1.deeper _|exact cE.u1 (hr.in1.deeper _)|decide|with_unfolding_all rfl)
local macro_rules | `(tactic| nofun)=>`(tactic| (try have:=mG P w T;try have:=iT P w T;try have:=pN P w T;try have:=mn P w T;try have:=oa P w T;try have:=k7 P w T;try have:=kW P w T;try have:=n9 P w T;try have:=dS P w T;try have:=lU P w T;try have:=fV P w T;try have:=je P w T;try have:=lj (P:=P) (w:=w) (base:=base) T.toTx;try have:=j8 P w T;try have:=gB P w T;try have:=jm P w T;try have:=kv P w T;try have:=jo P w T))
local macro_rules | `(tactic| and_intros)=>`(tactic| (nofun;intro f cdv A outer s H E nd hr;infer_instance))
variable (P w) (T:Ty K mg cs base)
def mG:=dA P w base 0 [] ["thing", "least", "most"] T.f_is_whole (lR cs) (by delta eM;and_intros)
def iT:=dA P w base 0 [] ["errand", "row", "every", "late", "earliest", "came", "moment"] T.f_have_moments (iX cs) (by delta cH;and_intros)
def pN:=dA P w base 1 [] ["errand", "thing"] (gf:=bx cs) (G:=bF cs _ _) T.f_is_row gQ (by delta bF;and_intros)
def mn:=dA P w base 0 [] ["thing", "fewest", "most"] T.f_is_tuple (me cs) (by delta eO;and_intros)
def oa:=dA P w base 1 [] ["thing"] T.f_is_part (oM cs) (by delta dw;and_intros)
def k7:=dA P w base 2 [] ["thing"] T.f_are_parts (kY cs) (by delta c8;and_intros)
def kW:=dA P w base 3 [] ["thing", "every", "due", "late"] T.f_is_errand (kI cs) (by delta bS;and_intros)
def n9:=dA P w base 4 [] ["errands"] T.f_checked (n5 cs) (by delta eu;and_intros)
def dQ:=dN P w base 5 [] ["errands", "comings"] (gf:=aA cs) (G:=bw cs _ _) T.f_checked_comings gQ (by delta bw;nofun;intro f cdv A outer s H E nd hr;exact iV (by infer_instance) nW (iV (by infer_instance) (nB iw jG) (iV (by infer_instance) (nB iw jG) (tV (rD (gl:=nJ (ae (af 2) aj)) (by infer_instance) (by infer_instance) (by infer_instance) (by infer_instance) (by infer_instance) (by infer_instance) ud (by infer_instance) (by infer_instance)))))) (i7 (i7 (i7 oZ)))
def dS:=(dQ P w T).d
def lU:=dA P w base 6 [] ["_law_errands_here", "_law_comings_here", "e"] (gf:=cA cs) (G:=fM cs _) T.f_law_told gQ (by delta fM;nofun;intro f cdv A outer s H E nd hr;exact (kn (mH (i:=2) (d:=(.str "none")) (dS P w T) hr (by infer_instance) T.e_NoComings nd rfl (by intro ea oe ho;exact oO (by rfl) (sv (sO (pR pb ho T.x_NoComings (T.bs _ (by decide +kernel)) rfl (nz (v:=.ref cs.RankError) rfl T.e_RankError.m rfl) rfl T.i_NoComings_RankError) (rW (pR pb ho T.x_NoComings (T.bs _ (by decide +kernel)) rfl (nI (v:=.ty "ValueError") rfl (T.bs _ (by decide +kernel)) jt rfl) rfl T.i_NoComings_ValueError))) (T.bs _ (by decide +kernel)))))))
def fV:=dA P w base 0 [] ["_law_errand_here", "_law_row", "_law_moment", "_law_last", "_law_come"] (gf:=aN cs) (G:=br cs) T.f_law_are_comings gQ (by delta br;and_intros)
def je:=dA P w base 1 [] ["_law_errands_here", "_law_comings_here", "_law_errand_here", "_law_row"] (gf:=bg cs) (G:=cf cs _) T.f_law_are_all gQ (by delta cf;and_intros)
def j8:=dA P w base 0 [2] ["_law_comings_here", "_law_cell", "_law_rows", "_law_at", "_law_way", "_law_place"] (gf:=bz cs) (G:=cF cs) T.f_law_spoilt gQ (by delta cF;nofun;intro f cdv A outer s H E nd hr;exact (rj (i:=2) (gl:=nJ (ae (af 6) aj)) (qP (iB (m:=3) (by infer_instance) (by infer_instance) (by infer_instance) (by infer_instance) (by infer_instance) (by infer_instance) (by infer_instance)) (qP (iB (m:=4) (by infer_instance) (by infer_instance) (by infer_instance) (by infer_instance) (by infer_instance) (by infer_instance) (by infer_instance)) (qP (iB (m:=5) (by infer_instance) (by infer_instance) (by infer_instance) (by infer_instance) (by infer_instance) (by infer_instance) (by infer_instance)) (xt (gE (qS (by infer_instance)) (dR (qp (i:=2) (by infer_instance) (by infer_instance) (by infer_instance) (by infer_instance) (by infer_instance) (by infer_instance) (λ_=>rfl))) (dR (gE (by infer_instance) (dR (p9 (i:=2) (by infer_instance) (by infer_instance) (by infer_instance) (by infer_instance) (by infer_instance) (by infer_instance))) (dR (gE (by infer_instance) (ng (by infer_instance)) (dR (gE (by infer_instance) (ng (by infer_instance)) (dR (gE (by infer_instance) (ng (by infer_instance)) (dR (gE (by infer_instance) (dR (oN (i:=2) (by infer_instance) pf (by infer_instance) (by infer_instance) (by infer_instance))) (ng (by infer_instance))))))))))))) (by infer_instance))))) (by infer_instance) (by infer_instance) (by infer_instance) (by infer_instance) (by infer_instance) (by infer_instance) (by infer_instance) ud (by infer_instance) (by infer_instance) (by infer_instance) (by infer_instance) (by infer_instance) (by infer_instance) (by infer_instance)))
def gB:=dA P w base 2 [6] ["_law_script", "_law_at", "_law_errand_here", "_law_span", "_law_seed", "_law_moment", "_law_made", "_law_k", "_law_drawn", "_law_come"] T.f_law_coming_row (gr cs) (by delta bD;and_intros)
def jm:=dA P w base 3 [] ["_law_script", "_law_at", "_law_errands_here", "_law_span"] T.f_law_comings (ji cs) (by delta cc;and_intros)
def kv:=dA P w base 2 [7] ["_law_script", "_law_at", "_law_top", "_law_tools", "_law_every", "_law_late", "_law_due", "_law_parts", "_law_k", "_law_cell"] T.f_law_errand (kA cs) (by delta dm;and_intros)
def jo:=dA P w base 3 [] ["_law_script", "_law_at", "_law_most", "_law_top", "_law_tools", "_law_many"] T.f_law_errands (jq cs) (by delta cZ;and_intros)
theorem law_ok (T:Ty K mg cs base) (F:Fun K "law" "law" (top 35) f fd):dj P w K mg base (CXW P w) 8 f fd ["_law_script"] (spD K 1 (cX 63)) :=
 dL (ps:=["_law_script"]) 7 [] ["_law_script", "_law_errands_here", "_law_comings_here", "_law_answer", "_law_handed", "_law_told_here", "_law_bad", "_law_due"] F (xv cs) (by delta nH;nofun;intro f cdv A outer s H E nd hr;exact (dM (by infer_instance)
  (dM (by infer_instance)
  (dM (by infer_instance)
  (dM (by infer_instance)
  (dM (by infer_instance)
  (vY (i:=5) (dQ P w T) hr mR (by infer_instance) d8 lZ lZ (by infer_instance) (by decide) rfl nd (by decide) rfl (by infer_instance) (by infer_instance) (by infer_instance))))))))
end
end RS
namespace L2
open PySem PySem.Spec PyProof.Rows
end L2
set_option maxHeartbeats 4000000
namespace L2
open PySem PySem.Spec PyProof.Rows
end L2
set_option hygiene false
local macro_rules | `(tactic| and_intros)=>`(tactic| first|(refine' RS.qw KX G (λ_ _ _ _ _ _ us hl=>by obtain⟨f,rfl⟩:=RS.tH PySem.Value.none hl;rfl) ?za ?zl ?zc ?zk;(case za=>k_is);(case zl=>k_is);(case zc=>k_is);(case zk=>k_is))|(refine' L2.meth_mk (λ_ _ _ _ _ _ us hl=>by obtain⟨f,rfl⟩:=RS.tH PySem.Value.none hl;rfl) ⟨?zm,?zf,?zp⟩ ?zl ?zc ?zq;(case zm=>k_is);(case zf=>k_is);(case zp=>k_is);(case zl=>k_is);(case zc=>k_is);(case zq=>k_is))|(refine' PySem.W.mg_of KX G ?za;(case za=>k_is))|(refine' PySem.W.mg_none_of KX G ?zz;(case zz=>k_is))|(refine' RS.t6 KX G ?zz;(case zz=>k_is))|(refine' RS.fQ KX G ?za ?ze;(case za=>k_is);(case ze=>k_exc))|(refine'⟨_,RS.fQ KX G ?za ?ze⟩;(case za=>k_is);(case ze=>k_exc))|(refine'⟨?zp,?zh,?zo,?zs⟩;(case zp=>k_is);(case zh=>k_is);(case zo=>k_is);(case zs=>k_is))|(refine' L2.init_mk (λ_ _ _ _ _ _ us hl=>by obtain⟨f,rfl⟩:=RS.tH PySem.Value.none hl;rfl) ?za ?zi ?zl ?zc ?zk ?zm ?zx;(case za=>k_is);(case zi=>k_is);(case zl=>k_is);(case zc=>k_is);(case zk=>k_is);(case zm=>k_is);(case zx=>k_is))|exact List.forall_mem_nil _|((first|refine List.forall_mem_cons.2 ⟨?_,?_⟩|refine List.forall_mem_singleton.2 ?_) <;> (try dsimp only) <;> and_intros)|(refine' L2.jn.mk ?z1 ?z2 ?z3 ?z4 ?z5 ?z6 ?z7 ?z8;(case z1=>k_is);(case z2=>k_is);(case z3=>k_is);(case z4=>k_is);(case z5=>k_is);(case z6=>k_is);(case z7=>k_is);(case z8=>k_is))|kit_is|k_is|(delta L2.NoAttr;k_is)|(dsimp only;and_intros))
open PySem PySem.W PyProof.Rows
set_option maxRecDepth 100000 in
set_option maxHeartbeats 0 in
theorem PySem.Challenge.cw_ranksure_k03_comings_holds : PySem.Challenge.rw_ranksure_k03_comings.Holds := by
 refine RS.hdTop ?_
 k_fill
 refine RS.wM (l:=PySem.Challenge.rw_ranksure_k03_comings) (n:=63) (k:=8) (x:="_law_script") (st:=RS.top 35) rfl (by decide) rfl ⟨rfl,by decide,by decide⟩ (λw h Y=>PySem.W.kIn_of Y) (λ_ _ _ _ _ _ us hl=>by obtain⟨f,rfl⟩:=RS.tH PySem.Value.none hl;rfl) ?F (λw h l m mg mb T X=>L2.oh (x:="picked") rfl (by kernel_rfl))
 case F =>
  intro w mg h KX G;obtain⟨c_NoComings,c_NoErrands,c_RankError,h_NoComings,h_NoErrands,h_RankError,z0,z1,z2⟩:∃c_NoComings c_NoErrands c_RankError:Addr,L2.kc (L2.KOf KX) mg "NoComings" c_NoComings/\L2.kc (L2.KOf KX) mg "NoErrands" c_NoErrands/\L2.kc (L2.KOf KX) mg "RankError" c_RankError/\L2.jn (L2.KOf KX) c_NoComings/\PySem.W.kitOne (L2.KOf KX) (.ref c_NoComings) (.ref c_RankError)=some true/\PySem.W.kitOne (L2.KOf KX) (.ref c_NoComings) (.type "ValueError")=some true:=by
   delta L2.KOf
   refine'⟨_,_,_,RS.fQ KX G ?a_NoComings ?e_NoComings,RS.fQ KX G ?a_NoErrands ?e_NoErrands,RS.fQ KX G ?a_RankError ?e_RankError,?xq0,?xq1,?xq2⟩
   (case a_NoComings=>k_is);(case e_NoComings=>k_exc)
   (case a_NoErrands=>k_is);(case e_NoErrands=>k_exc)
   (case a_RankError=>k_is);(case e_RankError=>k_exc)
   (case xq0=>and_intros)
   (case xq1=>and_intros)
   (case xq2=>and_intros)
  have T:RS.Tx (L2.KOf KX) mg ⟨c_RankError,c_NoErrands,0,c_NoComings,0,0,0,0,0,0⟩:=by constructor <;> first|assumption|((try delta L2.KOf);and_intros)
  exact⟨T.f_law,λf fd F base hb hn hB=>RS.law_ok _ _ ⟨T,hB,hb⟩ F⟩
end
