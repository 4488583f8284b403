import PyProof.Rows.All
import OpenK.AllK
import PySem.Challenge.RW_ranksure_k30_whole_calendar_within
import KE.RegKIsAll
import Wide.All
import OpenK.KWalk
import OpenK.KMake
import OpenK.KDescr
import OpenK.KCall
import OpenK.KOwn
import KE.KIsAll
import KE.KItem
import KE.KxBytes
import Wide.FinOn
import Lean
import PyProof.EqAt
import PyProof.EqKinds
import PyProof.TupleCall
import KE.KLam
import KE.LcSums
import PyProof.Rows.EqDataRows
import PyProof.RulesAs
import PyProof.ZipIter
import PyProof.Draws
import KE.KMinKey
import PyProof.Rows.TupAdd
import PyProof.ListMulRoad
import PyProof.AutoListH
import PyProof.Rows.Range3
import PyProof.ListRange
import PyProof.EnumMake
import PyProof.EnumFor
import PyProof.Rows.SetFrom
import PyProof.WalksMore
import PyProof.StrOps2
import PyProof.Rows.MinMaxN
import PyProof.ConsumeWalk
import PyProof.Rows.SortWalk
import PyProof.ExcArgsOwn
import PyProof.StrBlock2
import PyProof.Rows.CallKwBuiltin
import KE.KDictLaws
import KE.KDictMeth
import KE.KDictObj
import KE.KDictLetter
import OpenK.KDict
import KE.KDictOf
import PyProof.Rows.RegDictMethods
import PySem.PyData
import KE.KNestM
noncomputable section
set_option genSizeOf false
set_option genSizeOfSpec false
set_option genInjectivity false
set_option compiler.extract_closed false
set_option bootstrap.genMatcherCode false
set_option Elab.async false
set_option linter.all false
abbrev My:=@List.getElem?_eq_getElem
abbrev N0:=@List.mem_cons_of_mem
abbrev N1:=@List.map_cons
abbrev N2:=@PySem.Heap.get?_push_of_some
abbrev N3:=@List.mem_cons_self
abbrev N4:=@List.length_map
abbrev N5:=@List.mem_cons
abbrev N6:=@Nat.le_refl
abbrev N7:=@Bool.and_eq_true
abbrev N8:=@List.mem_append_right
abbrev N9:=@List.mem_map
abbrev Nz:=@PySem.Heap.lt_size
abbrev NA:=@List.mem_singleton
abbrev NB:=@PySem.Heap.get?_push_size
abbrev NC:=@List.length_append
abbrev ND:=@Nat.ne_of_lt
abbrev NF:=@List.size_toArray
abbrev NG:=@List.map_map
abbrev NH:=@List.getD_eq_getElem?_getD
abbrev NI:=@List.map_congr_left
abbrev NJ:=@List.length_cons
abbrev NK:=@List.getElem?_map
abbrev NL:=@Nat.lt_of_lt_of_le
abbrev NM:=@List.all_eq_true
abbrev NN:=@List.not_mem_nil
abbrev NO:=@Bool.false_ne_true
abbrev NP:=@List.getElem?_append_left
abbrev NQ:=@List.getElem_mem
abbrev NR:=@List.getElem?_eq_some_iff
abbrev NS:=@Bool.false_eq_true
abbrev NT:=@List.getElem?_append_right
abbrev NU:=@Int.mul_le_mul_of_nonneg_right
abbrev NV:=@List.lookup_cons
abbrev NW:=@List.mem_filter
abbrev NX:=@List.getElem?_set_ne
abbrev NY:=@List.mem_append
abbrev NZ:=@Array.length_toList
abbrev O0:=@List.find?_cons
abbrev O1:=@List.mem_of_getElem?
abbrev O2:=@List.sum_cons
abbrev O3:=@List.nodup_cons
abbrev O4:=@List.mem_append_left
abbrev O5:=@List.map_append
abbrev O6:=@Int.toNat_natCast
abbrev O7:=@Option.map_eq_some_iff
abbrev O8:=@List.getElem?_set_self
abbrev O9:=@List.nil_append
abbrev Oa:=@List.length_singleton
abbrev Ob:=@List.append_nil
abbrev Oc:=@Nat.zero_le
abbrev Od:=@PySem.Heap.get?_update_other
abbrev Oe:=@List.cons_append
abbrev Of:=@List.append_assoc
abbrev Og:=@Nat.lt_succ_of_lt
abbrev Oh:=@Nat.zero_add
abbrev Oi:=@Bool.and_eq_false_iff
abbrev Oj:=@Int.le_refl
abbrev Ol:=@List.length_eq_zero_iff
abbrev Om:=@Bool.and_eq_true_iff
abbrev Oo:=@Nat.le_trans
abbrev Oq:=@List.map_nil
abbrev Ot:=@List.map_id
abbrev Ou:=@List.replicate_succ
abbrev Ov:=@List.length_pos_iff
abbrev Ow:=@List.getElem_of_mem
abbrev Ox:=@Int.emod_nonneg
abbrev Oy:=@Nat.ne_of_gt
abbrev Oz:=@Int.emod_lt_of_pos
abbrev OA:=@Nat.le_add_right
abbrev OB:=@Nat.lt_irrefl
abbrev OC:=@List.getElem?_mapIdx
abbrev OD:=@List.mem_of_mem_take
abbrev OE:=@List.getElem?_cons_succ
abbrev OF:=@List.getElem?_cons_zero
abbrev OG:=@Option.map_some
abbrev OH:=@Nat.lt_succ_self
abbrev OI:=@List.length_nil
abbrev OJ:=@List.flatten_cons
abbrev OK:=@List.mem_range
abbrev OL:=@List.any_eq_true
abbrev OM:=@List.ext_getElem
abbrev ON:=@Int.ediv_nonneg
abbrev OO:=@List.getElem?_eq_none
abbrev OP:=@List.any_cons
abbrev OQ:=@List.drop_eq_getElem_cons
abbrev OR:=@List.mem_of_mem_drop
abbrev OS:=@Int.add_mul
abbrev OT:=@List.filter_cons
abbrev OU:=@Int.toNat_of_nonneg
abbrev OV:=@List.getElem_mapIdx
abbrev OW:=@Bool.and_true
abbrev OX:=@Int.natCast_nonneg
abbrev OY:=@List.find?_eq_none
abbrev OZ:=@List.pairwise_cons
abbrev P0:=@List.zipWith_cons_cons
abbrev P4:=@PySem.Heap.get?_update_self
abbrev P5:=@Array.getElem?_toList
abbrev P6:=@List.length_take
abbrev P7:=@List.length_drop
abbrev P8:=@Option.bind_some
abbrev P9:=@List.all_cons
abbrev Pa:=@List.exists_cons_of_ne_nil
abbrev Pb:=@Nat.le_succ
abbrev Pc:=@List.filterMap_cons
abbrev Pd:=@List.getElem?_range
abbrev Pe:=@List.take_succ_cons
abbrev Pf:=@List.of_mem_zip
abbrev Pg:=@List.foldl_cons
abbrev Ph:=@List.forIn_cons
abbrev Pj:=@List.zip_cons_cons
abbrev Pk:=@List.set_cons_succ
abbrev Pl:=@List.set_cons_zero
abbrev Pm:=@Int.mul_nonneg
abbrev Pn:=@List.getElem?_replicate
abbrev Po:=@List.length_range
abbrev Pp:=@Int.ediv_eq_zero_of_lt
abbrev Pq:=@Bool.true_and
abbrev Pr:=@List.range'_succ
abbrev Pu:=@List.mapIdx_cons
abbrev Pw:=@List.length_replicate
abbrev Px:=@List.set_append_right
abbrev Py:=@Int.mul_ediv_add_emod
abbrev Pz:=@List.take_append_drop
abbrev PB:=@List.mem_iff_getElem?
abbrev PF:=@Int.add_mul_ediv_left
abbrev PH:=@List.nodup_nil
abbrev PJ:=@List.mem_filterMap
abbrev PL:=@List.ne_nil_of_mem
abbrev PM:=@Int.lt_of_lt_of_le
abbrev PN:=@Bool.and_self
abbrev PQ:=@Bool.not_eq_true'
abbrev PR:=@List.nodup_append
abbrev PU:=@List.getLast?_map
abbrev PV:=@List.findIdx_cons
abbrev PX:=@Nat.le_of_lt
abbrev PY:=@List.drop_length
abbrev PZ:=@List.getElem_map
variable {p pos pos' cpos spos pn p2 tp kp:Pos}{q P prog:Program}{loose N M ps own names:List Str}{α β:Type}{us its':List Value}{a b it c C dx f D:Addr}{h base h':Heap}{items:Array Value}{w:World}{g':Array GenState}{ch A fp B A0 as:List Addr}{i j m n0 x1:Nat}{x qual:Str}{E Q:Value->Shared->Prop}{u cd pm ct oc:Value}{s' s:Shared}{pins:List (Addr×Obj)}{op:CmpOp}{K:PySem.W.Frag}{n T many en:Int}{tg body iter elt:Expr}{g:List (Str×PyData)->Option (List (Str×PyData))}{lo hi:Option Int}{mA mg mb:Str->Option Value}{env:Env}{outer:List Env}{fd:FuncData}{scope:Scope}{params:Arguments}{an od:Option Addr}{osl sl:Array (Option Value)}{l:List (Int×Int)}{ns rs row cal:List Int}{XP:(Str->Option Value)->Heap->Prop}{YP:World->Heap->Prop}{st:Stmt}{cl:List (Str×Addr)}{ifs elts:List Expr}{ds:List PyData}{newId:String}{O cap:List Nat}{nd tops:PyData}{tl:List (Str×Int)}{rows:List (List Int)}{mean:ExcName->Option Value}
namespace RS
open PySem PySem.W PyProof.Rows
def Ad(p:Program)(w:World)(m:Nat)(ann:Option Value):Nat->SharedT->Thread->Option SharedT
 |0,_,_=>none
 |n+1,s,t=>match through t with
  |true=>some s
  |false=>match Fast.tw6613529449190102663 m ann t with
   |false=>none
   |true=>match Fast.tw10156331382660048174 (Fast.tw11892475500146522536 Fast.tw14364793385576792824) p w s t with
    |some x=>Ad p w m ann n x.1 x.2
    |none=>none
theorem wq{p:Program}{w:World}{m:Nat}{ann:Option Value}:∀{n:Nat}{s s':SharedT}{t:Thread},Ad p w m ann n s t=some s'->topRun treeTable p w m ann n s.abs t=some s'.abs
 |0,_,_,_,h=>by cases h
 |n+1,s,s',t,h=>by
  unfold Ad at h;rw[<-Fast.te6613529449190102663,<-Fast.te10156331382660048174,<-Fast.te11892475500146522536,<-Fast.te14364793385576792824]at h;unfold topRun;cases ht:through t with
  |true=>rw[ht]at h;cases h;rfl
  |false =>
   rw[ht]at h;cases hk:stepOk m ann t with
   |false=>rw[hk]at h;cases h
   |true =>
    rw[hk]at h;cases hs:stepT (denote treeTable) p w s t with
    |none=>rw[hs]at h;cases h
    |some x =>rw[hs]at h;rw[stepT_spec (s':=x.1) (t':=x.2) hs];exact wq h
def Jh(l:List Obj):BT:=(l.foldl (λx o=>(x.1.ins x.2 o,x.2+1)) (BT.nil,0)).1
def hdS(w:World)(os:OsState):SharedT:=⟨Jh (boot_heap w.params).objs.toList,11,(boot_heap w.params).life,Array.mk [],boot_drawn,boot_toks,os⟩
theorem Hs(w:World):(λos=>(hdS w os).abs)=λos=>⟨boot_heap w.params,Array.mk [],boot_drawn,boot_toks,os⟩:=by kernel_rfl
theorem Jl(w:World):((boot_heap w.params).isNs mainGlobals&&(Array.mk []:Array GenState).size==0,(boot_heap w.params).objs.size,(boot_heap w.params).nsMap mainGlobals "__annotations__")=(true,11,some (.ref 6)):=by kernel_rfl
def ES(p q:Program)(loose:List Str)(Xt:Shared->Bool){α:Type}(Yf:Shared->α)(h:Heap)(s:Shared) :=
 (staticsOk (importedModules p.main.body) h s.heap&&namesBound p s.heap&&gensDone s&&laidKept h s.heap,Fast.tw4187177175401517315 q loose (importedModules p.main.body) Xt true s,Yf s)
theorem KY{p:Program}{Xt:Shared->Bool}{Yf:Shared->α}{Ya:World->α}{N M:Nat}
  (e:opening p=plainProg p.main.scope.names) (a:Nat.ble 600 N=true) (f:∀s,fenceModules? p s=some s) (le:Nat.ble M N=true)
  (h:∀w,(λos=>(Ad p w 11 (some (.ref 6)) M (hdS w os) (topStub p)).map λs=>ES p q loose Xt Yf (boot_heap w.params) s.abs)=λ_=>some (true,openGood q loose,Ya w)):LeftO p q loose Xt Yf Ya N:=λw=>by
 obtain⟨⟨b,gs,d,k,os⟩,e1,c⟩:=O7.mp (boot_open e a f w);obtain⟨rfl,rfl,rfl,rfl⟩:b=boot_heap w.params/\gs=Array.mk []/\d=boot_drawn/\k=boot_toks:=by simpa using c
 obtain⟨z1,z2,z3⟩:_/\_/\_:=by simpa only[Prod.mk.injEq] using Jl w
 obtain⟨s,g,i⟩:=O7.mp (congrFun (h w) os);obtain⟨l1,l2,l3⟩:_/\_/\_:=by simpa only[ES,<-Fast.te4187177175401517315,Prod.mk.injEq] using i
 have r:=wq g;rw[congrFun (Hs w) os]at r;have r:=topRun_mono (N-M) _ _ _ _ r;rw[show M+(N-M)=N by have:=Nat.le_of_ble_eq_true le;omega]at r;unfold openEnds;rw[e1];show (topFrom treeTable p w N _).map _=_;have t:topFrom treeTable p w N ⟨boot_heap w.params,Array.mk [],boot_drawn,boot_toks,os⟩=some s.abs:=by unfold topFrom;dsimp only;rw[z1,z2,z3,r];show (match staticsOk (importedModules p.main.body) (boot_heap w.params) s.abs.heap&&namesBound p s.abs.heap&&gensDone s.abs&&laidKept (boot_heap w.params) s.abs.heap with|true=>_|false=>_)=_;rw[l1]
 rw[t];exact congrArg some (Prod.ext l2 l3)
end RS
section
open PySem PySem.W PyProof.Rows
def RS.vw:Program:=view PySem.Challenge.pw_ranksure_k30_whole_calendar_within [1,2,3,4,5,6,8,9,10,11,12,13,14,15,16,17,18,19,20,21,22,23,24,25,26,27,29,30,31,32,33,34,35,36,38,39,40,41,42,43,44,45,47,48,49,50,51,52,53,54,55,57,58,59,60,61,62,63]
local macro_rules | `(tactic| o_head $H)=>`(tactic| (refine holds_open (N:=6528) (Xt:=λs=>xlAt RS.vw [] s&&recOk (RowW.records (OpenRow.toRowW (OpenLaw.row PySem.Challenge.rw_ranksure_k30_whole_calendar_within))) s) (XP:=XL RS.vw []) (q:=RS.vw) (loose:=[]) (Yf:=Hook.obs $H) (Ya:=Hook.val $H) (YP:=Hook.says $H) ?hl (Hook.of $H) (Hook.keeps $H) (λs e=>xl_of s (Om.mp e).1) XL.keeps (by rfl) (by rfl) (by rfl) (λs e=>recFacts_of (Om.mp e).2) (by rfl) (by assumption) (by decide +kernel) ⟨rfl,rfl,rfl,rfl,rfl,by decide +kernel⟩ ?hw ?hc;(case hl=>refine RS.KY (M:=3314) (by kernel_rfl) (by rfl) (by intro s;kernel_rfl) (by rfl) λw=>?_;kernel_rfl)))
set_option maxRecDepth 100000 in
set_option maxHeartbeats 0 in
open_top RS.hdTop for PySem.Challenge.rw_ranksure_k30_whole_calendar_within
end
set_option maxRecDepth 100000
namespace L2
open PySem PySem.Spec PyProof.Rows
variable {A:Around}{g:Int->Int->Int}{es:List Expr}{c e:Expr}{body:List Stmt}{M:Model}
abbrev Key:=Sum Int Str
def tP:Key->Value->Bool
 |.inl k,v=>Value.isInt k v
 |.inr x,v=>Value.isStrOf x v
def fD(w:World):Key->Int
 |.inl k=>hashInt k
 |.inr x=>hashStr w x
theorem cZ:∀{k:Key}{v:Value},tP k v=true->(∃i t,k=Sum.inl i/\v=Value.int i t)\/(∃x t,k=Sum.inr x/\v=Value.str x t)
 |.inl i,v,h=>by obtain⟨t,e⟩:=Value.isInt_shape (k:=i) (v:=v) h;exact .inl ⟨i,t,rfl,e⟩
 |.inr x,v,h=>by obtain⟨t,e⟩:=Value.isStrOf_shape (x:=x) (v:=v) h;exact .inr ⟨x,t,rfl,e⟩
theorem BP(i:Int)(t:Tok):tP (.inl i) (.int i t)=true:=by simp[tP,Value.isInt]
theorem CQ(x:Str)(t:Tok):tP (.inr x) (.str x t)=true:=by simp[tP,Value.isStrOf]
theorem Kt(a b:Int):decide ((Sum.inl a:Key)=Sum.inl b)=(a==b):=by
 by_cases e:a=b
 ·subst e;simp
 ·have h:¬ (Sum.inl a:Key)=Sum.inl b:=λq=>e (Sum.inl.inj q)
  rw[decide_eq_false h];exact (beq_eq_false_iff_ne.mpr e).symm
theorem Jx(a b:Str):decide ((Sum.inr a:Key)=Sum.inr b)=decide (a=b):=by
 by_cases e:a=b
 ·subst e;simp
 ·have h:¬ (Sum.inr a:Key)=Sum.inr b:=λq=>e (Sum.inr.inj q)
  rw[decide_eq_false h,decide_eq_false e]
theorem Lm(a:Int)(b:Str):decide ((Sum.inl a:Key)=Sum.inr b)=false:=decide_eq_false (λq=>nomatch q)
theorem K4(a:Str)(b:Int):decide ((Sum.inr a:Key)=Sum.inl b)=false:=decide_eq_false (λq=>nomatch q)
def dH(prog:Program)(w:World):PySem.KeyKind prog w Key where
 is:=tP
 hash:=fD w
 inj:=λv a b ha f=>by
  rcases cZ ha with⟨i,t,rfl,rfl⟩|⟨x,t,rfl,rfl⟩
  ·rcases cZ f with⟨j,u,rfl,e⟩|⟨y,u,rfl,e⟩
   ·injection e with e1 _;rw[e1]
   ·exact nomatch e
  ·rcases cZ f with⟨j,u,rfl,e⟩|⟨y,u,rfl,e⟩
   ·exact nomatch e
   ·injection e with e1 _;rw[e1]
 byValue:=λk v h=>by rcases cZ h with⟨i,t,rfl,rfl⟩|⟨x,t,rfl,rfl⟩ <;> rfl
 pyHash:=λc h=>by
  rcases cZ c with⟨i,t,rfl,rfl⟩|⟨x,t,rfl,rfl⟩
  ·exact wpAny_pyHash_int h
  ·exact wpAny_pyHash_str h
 eqBool:=λg c h=>by
  rcases cZ g with⟨i,t,rfl,rfl⟩|⟨x,t,rfl,rfl⟩
  ·rcases cZ c with⟨j,u,rfl,rfl⟩|⟨y,u,rfl,rfl⟩
   ·rw[Kt]at h;exact wpAny_eqBool_int h
   ·rw[Lm]at h;exact SeqAt.EqAt.int_str i t y u _ _ _ _ h
  ·rcases cZ c with⟨j,u,rfl,rfl⟩|⟨y,u,rfl,rfl⟩
   ·rw[K4]at h;exact SeqAt.EqAt.str_int x t j u _ _ _ _ h
   ·rw[Jx]at h;exact wpAny_eqBool_str h
 «strs»:=λk x t v h=>by
  rcases cZ h with⟨i,u,rfl,e⟩|⟨y,u,rfl,e⟩
  ·exact nomatch e
  ·injection e with e1 _
   subst e1;cases v <;> rfl
theorem xk(prog:Program)(w:World)(i:Int)(t:Tok):(dH prog w).is (.inl i) (.int i t)=true:=BP i t
theorem we(prog:Program)(w:World)(x:Str)(t:Tok):(dH prog w).is (.inr x) (.str x t)=true:=CQ x t
inductive V where
 |non|bl (b:Bool)|int (i:Int)|str (x:Str)|byt (b:Array UInt8)|flt (b:UInt64)|ref (a:Addr)|ty (n:String)
 deriving DecidableEq
variable {v:V}{xs vs:List V}
def RelV:V->Value->Prop
 |.non,u=>u=Value.none
 |.bl b,u=>u=Value.bool b
 |.int i,u=>∃t,u=Value.int i t
 |.str x,u=>∃t,u=Value.str x t
 |.byt b,u=>∃t,u=Value.bytes b t
 |.flt b,u=>∃t,u=Value.float b t
 |.ref a,u=>u=Value.ref a
 |.ty n,u=>u=Value.type n
abbrev Vals:List V->List Value->Prop:=Paired RelV
theorem Vals.length(r:Vals xs us):xs.length=us.length:=Paired.length r
theorem Vals.get:∀{xs:List V}{us:List Value}{i:Nat}{x:V},Vals xs us->xs[i]?=some x->∃u,us[i]?=some u/\RelV x u
 |_,_,_,_,.nil,e=>by simp at e
 |_,_,0,_,.cons r _,e=>by simp at e;subst e;exact⟨_,rfl,r⟩
 |_,_,i+1,x,.cons _ t,e=>by obtain⟨u,h1,h2⟩:=Vals.get (i:=i) (x:=x) t (by simpa using e);exact⟨u,by simpa using h1,h2⟩
theorem Vals.set{x:V}{u:Value}(r:RelV x u):∀{xs:List V}{us:List Value}(i:Nat),Vals xs us->Vals (xs.set i x) (us.set i u)
 |_,_,_,.nil=>.nil
 |_,_,0,.cons _ t=>.cons r t
 |_,_,i+1,.cons q t=>.cons q (Vals.set r i t)
theorem Vals.append{ys:List V}{ws:List Value}(h:Vals xs us)(s:Vals ys ws):Vals (xs++ys) (us++ws):=by
 induction h with
 |nil=>exact s
 |cons r t ih=>exact .cons r ih
theorem Vals.take:∀{xs:List V}{us:List Value}(n:Nat),Vals xs us->Vals (xs.take n) (us.take n)
 |_,_,0,_=>.nil
 |_,_,_+1,.nil=>.nil
 |_,_,n+1,.cons r t=>.cons r (Vals.take n t)
theorem Vals.drop:∀{xs:List V}{us:List Value}(n:Nat),Vals xs us->Vals (xs.drop n) (us.drop n)
 |_,_,0,r=>r
 |_,_,_+1,.nil=>.nil
 |_,_,n+1,.cons _ t=>Vals.drop n t
def jG:Option V->Option Value->Prop
 |some v,some u=>RelV v u
 |none,none=>True
 |_,_=>False
def KV{κ:Type}:List (κ×V)->List (κ×Value)->Prop:=Paired λ(p:κ×V)(q:κ×Value)=>p.1=q.1/\RelV p.2 q.2
def kV:Key->V
 |.inl i=>.int i
 |.inr x=>.str x
inductive HO where
 |lst (xs:List V)
 |tup (xs:List V)
 |dK (kvs:List (Key×V))|dT (kvs:List (List Key×V))
 |set (S:Int->Bool) (n:Nat)
 |ins (C dx:Addr) (fs:List (Str×V))
 |own (x:Addr)
 |xd (fs:List (Str×V))
 |met (f x:Addr)
 |rng (lo hi:Int)
 |frz (o:Obj) (u:HO)
 |tbl (q:Str)
 |ext (φ:Heap->Prop)
variable {o:HO}
abbrev Hp:=Addr->Option HO
variable {R:V->V->Hp->Prop}{H:Hp}
def upd(H:Hp)(a:Addr)(o:HO):Hp:=λb=>if b=a then some o else H b
theorem aE:upd H a o a=some o:=by unfold upd;rw[if_pos rfl]
theorem az(h:b≠a):upd H a o b=H b:=by unfold upd;rw[if_neg h]
theorem ME{u:HO}(h:H a=some o)(h':H b=some u)(d:o≠u):a≠b:=by intro e;subst e;rw[h]at h';exact d (Option.some.inj h')
theorem aI(h:H a=some o)(h':H b=none):a≠b:=by intro e;subst e;rw[h]at h';cases h'
def vm(h:Heap)(a:Addr)(items:Array Value):Prop:=∃o,h.get? a=some o/\o.cls=.type "tuple"/\o.dict=none/\∃n,o.data=.seq items n
theorem vm.tup(x:vm h a items):IsTup h a items:=by obtain⟨o,e,c,_,n,d⟩:=x;exact⟨o,e,c,n,d⟩
theorem vm.new(h:Heap)(items:Array Value):vm (h.push { cls:=.type "tuple",data:=.seq items }) h.objs.size items:=⟨_,NB _ rfl,rfl,rfl,_,rfl⟩
section
variable (P:Program)(w:World)
def dr(H:Hp)(h:Heap)(a:Addr):HO->Prop
 |.lst xs=>xs.length<=sizeLine/\∃(b:List Value)(n:Nat),Vals xs b/\h.get? a=some { cls:=.type "list",data:=.seq b.toArray n }
 |.tup xs=>xs.length<=sizeLine/\∃b:List Value,Vals xs b/\vm h a b.toArray
 |.dK kvs=>kvs.length<=sizeLine/\(a==sysModules)=false/\∃vs,KV kvs vs/\h.DictOf (dH P w) a vs
 |.dT kvs=>kvs.length<=sizeLine/\(a==sysModules)=false/\∃xs:List (List Key×Addr×Value),
  Paired (λ(p:List Key×V)(q:List Key×Addr×Value)=>p.1=q.1/\H q.2.1=some (.tup (p.1.map kV))/\RelV p.2 q.2.2) kvs xs /\
  ∃o es e,h.get? a=some o/\o.ExactDict/\o.data=.dict es e/\es.toList=xs.map (entryOfKey (tupleKind (dH P w)))/\(xs.map (·.1)).Nodup
 |.set S n=>h.SetOf (intKind P w) a S n
 |.ins C dx fs=>H dx=some (.own a)/\fs.length<=1000/\dx≠a/\h.get? a=some (W.instObj C dx) /\
  ∃mA,h.Ns1 dx mA/\(∀f,jG (fs.lookup f) (mA f))/\PySem.Within mA (fs.map (·.1))
 |.own _=>∃o,h.get? a=some o
 |.xd fs=>∃mA,h.Ns1 a mA/\∀f,jG (fs.lookup f) (mA f)
 |.rng lo hi=>∃t u v,h.get? a=some { cls:=.type "range",data:=.fields #[.int lo t,.int hi u,.int 1 v] }
 |.frz o u=>h.get? a=some o/\dr H h a u
 |.tbl q=>∃ps:Array Value,h.get? a=some { cls:=.none,data:=.fields ps }/\TriplesOk ps.toList/\∀pos c,codeAmong pos ps.toList=some c->∃c' o vs t,c=.ref c'/\H c'=some (.frz o (.own c'))/\o.data=.fields vs/\vs[1]?=some (.str q t)
 |.met f x=>h.get? a=some (W.methodObj (.ref f) (.ref x))
 |.ext φ=>φ h/\(∃o,h.get? a=some o)/\∀h1 h2:Heap,φ h1->(∀o,h1.get? a=some o->h2.get? a=some o)->φ h2
def HOk(H:Hp)(h:Heap):Prop:=∀a o,H a=some o->dr P w H h a o
end
section
variable {H':Hp}
theorem dr.lt(x:dr P w H h a o):a<h.objs.size:=by
 cases o with
 |lst xs=>obtain⟨_,_,_,_,e⟩:=x;exact Nz e
 |tup xs=>obtain⟨_,_,_,p⟩:=x;exact p.tup.lt
 |dK kvs=>obtain⟨_,_,_,_,o,_,_,e,_⟩:=x;exact Nz e
 |dT kvs=>obtain⟨_,_,_,_,o,_,_,e,_⟩:=x;exact Nz e
 |set S n=>obtain⟨o,_,_,_,e,_⟩:=x;exact Nz e
 |ins C dx fs=>obtain⟨_,_,_,e,_⟩:=x;exact Nz e
 |own y=>obtain⟨_,e⟩:=x;exact Nz e
 |xd fs=>obtain⟨_,⟨_,_,_,e,_⟩,_⟩:=x;exact Nz e
 |rng lo hi=>obtain⟨_,_,_,e⟩:=x;exact Nz e
 |frz ob u=>obtain⟨e,_⟩:=x;exact Nz e
 |tbl q=>obtain⟨_,e,_⟩:=x;exact Nz e
 |met f y=>exact Nz (show h.get? a=some _ from x)
 |ext φ=>obtain⟨_,⟨_,e⟩,_⟩:=x;exact Nz e
theorem Paired.mapP{F G:α->β->Prop}{c:List α}{e:List β}(h:Paired F c e)(f:∀a b,F a b->G a b):Paired G c e:=by
 induction h with
 |nil=>exact .nil
 |cons r t ih=>exact .cons (f _ _ r) ih
theorem dr.stay(x:dr P w H h a o)(k:∀b u,(b=a\/H b=some (.own a))->h.get? b=some u->h'.get? b=some u)
  (l:∀b,H b=some (.own a)->H' b=some (.own a)) (m:∀b xs,H b=some (.tup xs)->H' b=some (.tup xs)) (s:∀b o u,H b=some (.frz o u)->H' b=some (.frz o u):=by exact λ_ _ _ q=>q):dr P w H' h' a o:=by
 induction o with
 |lst xs=>obtain⟨z,j,n,r,e⟩:=x;exact⟨z,j,n,r,k _ _ (.inl rfl) e⟩
 |tup xs=>obtain⟨z,j,r,g,e,c⟩:=x;exact⟨z,j,r,g,k _ _ (.inl rfl) e,c⟩
 |dK kvs=>obtain⟨z,y,vs,r,g,es,i,e,c⟩:=x;exact⟨z,y,vs,r,g,es,i,k _ _ (.inl rfl) e,c⟩
 |dT kvs =>obtain⟨z,y,xs,r,g,es,i,e,c⟩:=x;exact⟨z,y,xs,Paired.mapP r λp q z=>⟨z.1,m _ _ z.2.1,z.2.2⟩,g,es,i,k _ _ (.inl rfl) e,c⟩
 |set S n=>obtain⟨g,es,i,t,e,c⟩:=x;exact⟨g,es,i,t,k _ _ (.inl rfl) e,c⟩
 |ins C dx fs =>obtain⟨d,z,ne,e,mA,⟨od,es,i,e2,c⟩,r⟩:=x;exact⟨l _ d,z,ne,k _ _ (.inl rfl) e,mA,⟨od,es,i,k _ _ (.inr d) e2,c⟩,r⟩
 |own y=>obtain⟨g,e⟩:=x;exact⟨g,k _ _ (.inl rfl) e⟩
 |xd fs=>obtain⟨mA,⟨od,es,i,e,c⟩,r⟩:=x;exact⟨mA,⟨od,es,i,k _ _ (.inl rfl) e,c⟩,r⟩
 |rng lo hi=>obtain⟨t,u,v,e⟩:=x;exact⟨t,u,v,k _ _ (.inl rfl) e⟩
 |frz g u ih=>obtain⟨e,q⟩:=x;exact⟨k _ _ (.inl rfl) e,ih q⟩
 |tbl q =>obtain⟨ps,e,t,c⟩:=x;exact⟨ps,k a _ (.inl rfl) e,t,λpos A z=>by obtain⟨c',o,vs,t',e1,e2,B⟩:=c pos A z;exact⟨c',o,vs,t',e1,s _ _ _ e2,B⟩⟩
 |met f y =>have e:h.get? a=some (W.methodObj (.ref f) (.ref y)):=x;show h'.get? a=some (W.methodObj (.ref f) (.ref y));exact k a _ (.inl rfl) e
 |ext φ=>obtain⟨p,⟨o,e⟩,st⟩:=x;exact⟨st _ _ p λo q=>k _ _ (.inl rfl) q,⟨o,k _ _ (.inl rfl) e⟩,st⟩
theorem HOk.lt(x:HOk P w H h)(e:H a=some o):a<h.objs.size:=(x a o e).lt
theorem HOk.fresh(x:HOk P w H h)(e:h.objs.size<=a):H a=none:=by
 cases q:H a with
 |none=>rfl
 |some u=>exact absurd (NL (x.lt q) e) (OB _)
theorem HOk.kept(x:HOk P w H h)(k:∀b u,h.get? b=some u->h'.get? b=some u):HOk P w H h':=λa o e =>
 (x a o e).stay (λb u _ q=>k b u q) (λ_ q=>q) λ_ _ q=>q
theorem HOk.laid(x:HOk P w H h)(k:∀b u,h.get? b=some u->h'.get? b=some u)(f:h.objs.size<=a)(new:dr P w (upd H a o) h' a o):HOk P w (upd H a o) h':=λb u e=>by
 have hn:=x.fresh f;by_cases hb:b=a
 ·subst hb;rw[aE]at e;cases e;exact new
 ·rw[az hb]at e;exact (x b u e).stay (λc v _ q=>k c v q) (λc q=>by rw[az (aI q hn)];exact q) (λc xs q=>by rw[az (aI q hn)];exact q) λc ob w' q=>by rw[az (aI q hn)];exact q
end
def Rd(H:Hp)(a:Addr)(u:HO):Prop:=H a=some u\/∃o,H a=some (.frz o u)
theorem Rd.ok{u:HO}(r:Rd H a u)(x:HOk P w H h):dr P w H h a u:=by
 rcases r with r|⟨o,r⟩
 ·exact x a u r
 ·obtain⟨_,q⟩:=x a _ r;exact q
def Mut:Option HO->Prop
 |some (.lst _)=>True
 |some (.dK _)=>True
 |some (.dT _)=>True
 |some (.set _ _)=>True
 |some (.ins _ _ _)=>True
 |some (.ext _)=>True
 |_=>False
section
variable {x e:Addr}{o':HO}
theorem HOk.write(ok:HOk P w H h)(f:Mut (H x))(l:e=x\/H e=some (.own x))(k:∀b u,b≠e->h.get? b=some u->h'.get? b=some u)(j:∃u,h'.get? e=some u)
  (new:dr P w (upd H x o') h' x o'):HOk P w (upd H x o') h':=λb u q=>by
 have a:∀c y,H c=some (.own y)->c≠x:=λc y r z=>by subst z;rw[r]at f;exact f
 have g:∀c xs,H c=some (.tup xs)->c≠x:=λc xs r z=>by subst z;rw[r]at f;exact f
 have i:∀c o u,H c=some (.frz o u)->c≠x:=λc o u r z=>by subst z;rw[r]at f;exact f
 by_cases hb:b=x
 ·subst hb;rw[aE]at q;cases q;exact new
 ·rw[az hb]at q;by_cases hbe:b=e
  ·have m:H b=some (.own x):=by
    rcases l with z|z
    ·exact absurd (hbe.trans z) hb
    ·rw[hbe];exact z
   rw[q]at m;cases m;obtain⟨v,n⟩:=j;exact⟨v,by rw[hbe];exact n⟩
  ·refine (ok b u q).stay (λc v hc r=>k c v ?_ r) (λc r=>by rw[az (a c b r)];exact r) (λc xs r=>by rw[az (g c xs r)];exact r) λc o p r=>by rw[az (i c o p r)];exact r
   rcases hc with rfl|hc
   ·exact hbe
   ·rintro rfl
    rcases l with z|z
    ·exact a c b hc z
    ·rw[hc]at z;cases z;exact hb rfl
end
structure Un(fs ex:List Addr)(H H':Hp)(h h':Heap):Prop where
 keep:∀b o,h.get? b=some o->H b=none->b∉fs->b∉ex->h'.get? b=some o
 slot:∀b o,h.get? b=some o->H b=none->b∈fs->b∉ex->∃sl,h'.get? b=some { o with slots:=sl }
 free:∀b o,h.get? b=some o->H b=none->b∉ex->H' b=none
 there:∀b o,h.get? b=some o->b∉ex->∃o',h'.get? b=some o'
 tups:∀b xs,H b=some (.tup xs)->H' b=some (.tup xs)
 frzs:∀b o u,H b=some (.frz o u)->H' b=some (.frz o u)
 tbls:∀b q,H b=some (.tbl q)->H' b=some (.tbl q)
section
variable {fs fs' ex ex':List Addr}{H1 H2:Hp}{h1 h2:Heap}{x e:Addr}
theorem Un.any(u:Un fs ex H H1 h h1){a:Obj}(q:h.get? b=some a)(n:H b=none)(c:b∉ex):∃e,h1.get? b=some { a with slots:=e }:=by
 by_cases hb:b∈fs
 ·exact u.slot b a q n hb c
 ·exact⟨a.slots,u.keep b a q n hb c⟩
theorem Un.kept(k:∀b u,h.get? b=some u->h'.get? b=some u):Un fs ex H H h h' :=
 ⟨λb a q _ _ _=>k b a q,λb a q _ _ _=>⟨a.slots,k b a q⟩,λ_ _ _ n _=>n,λb a q _=>⟨a,k b a q⟩,λ_ _ q=>q,λ_ _ _ q=>q,λ_ _ q=>q⟩
theorem Un.refl:Un fs ex H H h h:=Un.kept λ_ _ q=>q
theorem Un.laid(k:∀b u,h.get? b=some u->h'.get? b=some u)(c:h.objs.size<=a)(hn:H a=none):Un fs ex H (upd H a o) h h' where
 keep:=λb u q _ _ _=>k b u q
 slot:=λb u q _ _ _=>⟨u.slots,k b u q⟩
 free:=λb u q n _=>by rw[az (ND (NL (Nz q) c))];exact n
 there:=λb u q _=>⟨u,k b u q⟩
 tups:=λb xs q=>by rw[az (aI q hn)];exact q
 frzs:=λb u xs q=>by rw[az (aI q hn)];exact q
 tbls:=λb ps q=>by rw[az (aI q hn)];exact q
theorem Un.write(a:Mut (H x))(i:e=x\/H e=some (.own x))(k:∀b u,b≠e->h.get? b=some u->h'.get? b=some u)(c:∃u,h'.get? e=some u):Un fs ex H (upd H x o) h h':=by
 have f:∀b,H b=none->b≠x:=λb n z=>by subst z;rw[n]at a;exact a
 have g:∀b,H b=none->b≠e:=λb n z=>by
  subst z;rcases i with r|r
  ·exact f b n r
  ·rw[n]at r;cases r
 have hm:∀b u,H b=some u->¬ Mut (some u)->b≠x:=λb u q nm z=>by subst z;rw[q]at a;exact nm a
 refine⟨λb u q n _ _=>k b u (g b n) q,λb u q n _ _=>⟨u.slots,k b u (g b n) q⟩,λb u q n _=>by rw[az (f b n)];exact n,λb u q _=>?_,
  λb xs q=>by rw[az (hm b _ q λz=>z)];exact q,λb u xs q=>by rw[az (hm b _ q λz=>z)];exact q,λb ps q=>by rw[az (hm b _ q λz=>z)];exact q⟩
 by_cases hbe:b=e
 ·subst hbe;exact c
 ·exact⟨u,k b u hbe q⟩
end
def trk(h:Heap)(H:Hp):List Addr:=(List.range h.objs.size).filter λa=>(H a).isSome
def rS(h:Heap)(H:Hp):Heap:=W.hideAll h (trk h H)
theorem BS(h:Heap)(H:Hp):(rS h H).objs.size=h.objs.size:=W.hideAll_size _ _
theorem Ec{o:Obj}(e:h.get? b=some o)(n:H b=none):(rS h H).get? b=some o :=
 W.hideAll_get _ e λhm=>by have q:(H b).isSome=true:=(NW.mp hm).2;rw[n]at q;simp at q
theorem Hd{o:Obj}(e:(rS h H).get? b=some o):h.get? b=some o/\H b=none:=by
 have a:h.get? b=some o:=W.of_hideAll (trk h H) e;refine⟨a,?_⟩;cases q:H b with
 |none=>rfl
 |some x =>have hm:b∈trk h H:=NW.mpr ⟨OK.mpr (Nz a),by simp[q]⟩;have z:(rS h H).get? b=none:=W.hideAll_none (trk h H) hm;rw[z]at e;cases e
structure Mod(K:W.Frag)(mg:Str->Option Value)(base:Heap):Prop where
 kin:K.In base
 glob:base.Ns mainGlobals mg
 blt:∃mb,base.Ns builtinsNs mb/\∀x:Str,x≠"__name__"->mb x=bootBuiltins x
 nolimit:base.NoLimit
def l7:List Str:=["picked"]
def TabOf(K:W.Frag)(P:Addr)(q:Str):Prop:=∃x∈l7,∃f oc od fd a c,W.nsIn K mainGlobals x=some (some (.ref f))/\K.lookup f=some ⟨oc,od,.func fd,a⟩/\fd.code=.ref c/\(∃o vs,K.lookup c=some o/\o.data=.fields vs/\vs[11]?=some (.ref P))/\q=x++".<locals>.<lambda>"
structure Cx where
 prog:Program
 w:World
 K:W.Frag
 mg:Str->Option Value
 base:Heap
 A:Around
 N:List Str
 s₀:Shared
 H₀:Hp
 env:Env
 outer:List Env
 stack:List Env
 ex:List Addr
 fn:Str->Bool
 calm:Bool
 pn:List (Addr×Obj)
 xe:Value->Shared->Prop
variable {X:Cx}
def frs(l:List Env):List Addr:=l.filterMap (·.frame)
abbrev Cx.fs(X:Cx):List Addr:=frs X.outer
def Vis(sc:Scope)(x:Str):Prop:=sc.names.lookup x=some .local\/sc.names.lookup x=some .cell\/sc.names.lookup x=some .free
def Loc(sc:Scope)(x:Str):Prop:=sc.names.lookup x=some .local\/sc.names.lookup x=some .cell
def Look(env:Env)(h:Heap)(m:Str->Option Value)(x:Str)(u:Value):Prop :=
 (env.kindOf x=some .local/\m x=some u)\/((env.kindOf x=some .cell\/env.kindOf x=some .free)/\∃c,env.cells.lookup x=some c/\h.IsCell c (some u))
structure Cx.Ok(X:Cx):Prop where
 mod:Mod X.K X.mg X.base
 kind:X.env.scope.kind=.function
 glob:X.env.globals=mainGlobals
 blt:X.env.builtins=builtinsNs
 above:X.s₀.heap.objs.size<=X.env.locals
 inj:∀x y c,X.env.cells.lookup x=some c->X.env.cells.lookup y=some c->x=y
 has:∀x,(X.env.kindOf x=some .cell\/X.env.kindOf x=some .free)->∃c,X.env.cells.lookup x=some c
 cab:∀x c,X.fn x=true->X.env.cells.lookup x=some c->X.s₀.heap.objs.size<=c
 hd:X.calm=true->X.A.handled=none
 frames:X.A.frames=some X.stack
 stk:X.stack=X.outer\/(X.stack=X.env::X.outer/\X.env.frame=some X.env.locals)
 exf:∀b∈X.ex,b≠X.env.locals/\∀x c,X.env.cells.lookup x=some c->c≠b
 bs:∀b o,X.base.get? b=some o->X.s₀.heap.get? b=some o/\X.H₀ b=none
 bsz:X.base.objs.size<=X.s₀.heap.objs.size
 noex:∀b o,X.base.get? b=some o->b∉X.ex
 exfs:∀b∈X.ex,b∉X.fs
 funs:X.s₀.heap.FunFrames X.base X.outer
 frf:∀b∈X.fs,X.H₀ b=none
structure Inv(X:Cx)(pins:List (Addr×Obj))(σ:List (Option V))(H:Hp)(s:Shared):Prop where
 ok:X.Ok
 os:s.os=X.s₀.os
 bare:AllBare s.gens
 base:Un X.fs X.ex X.H₀ H X.s₀.heap s.heap
 loc:∃m,s.heap.Ns X.env.locals m/\∀(i:Nat)(x:Str)(v:V),X.N[i]?=some x->σ[i]?=some (some v)->Vis X.env.scope x->∃u,RelV v u/\Look X.env s.heap m x u
 cell:∀x c,X.env.cells.lookup x=some c->∃v,s.heap.IsCell c v
 free:H X.env.locals=none
 freeC:∀x c,X.env.cells.lookup x=some c->H c=none
 pin:∀p∈X.pn++pins,s.heap.get? p.1=some p.2/\H p.1=none/\p.1≠X.env.locals/\p.1∉X.fs/\∀v,p.2.data≠.cell v
 hok:HOk X.prog X.w H s.heap
 len:σ.length=X.N.length
 tab:∀P q,TabOf X.K P q->H P=some (.tbl q)
section
variable {σ:List (Option V)}{H':Hp}
theorem Cx.Ok.nofr(ok:X.Ok){o:Obj}(e:X.base.get? b=some o):b∉X.fs:=λa=>by have:=(ok.funs.mem a).1;rw[e]at this;cases this
theorem Inv.bs(I:Inv X pins σ H s):∀b o,X.base.get? b=some o->s.heap.get? b=some o/\H b=none:=λb o e =>
 ⟨I.base.keep b o (I.ok.bs b o e).1 (I.ok.bs b o e).2 (I.ok.nofr e) (I.ok.noex b o e),I.base.free b o (I.ok.bs b o e).1 (I.ok.bs b o e).2 (I.ok.noex b o e)⟩
theorem Inv.bk(I:Inv X pins σ H s):∀b o,X.base.get? b=some o->s.heap.get? b=some o:=λb o e=>(I.bs b o e).1
theorem Inv.mod(I:Inv X pins σ H s):Mod X.K X.mg X.base:=I.ok.mod
theorem Inv.kIn(I:Inv X pins σ H s):X.K.In s.heap:=I.ok.mod.kin.keeps I.bk
theorem Inv.lt(I:Inv X pins σ H s):X.env.locals<s.heap.objs.size:=let ⟨_,hn,_⟩:=I.loc;hn.lt
theorem Inv.sz(I:Inv X pins σ H s):X.s₀.heap.objs.size<=s.heap.objs.size:=Oo I.ok.above (PX I.lt)
theorem Inv.nofs(I:Inv X pins σ H s)(h:s.heap.objs.size<=a):a∉X.fs:=λb=>by obtain⟨_,o,c,_⟩:=I.ok.funs.mem b;exact absurd (NL (Nz c) (Oo I.sz h)) (OB _)
theorem Inv.cne(I:Inv X pins σ H s):∀x c,X.env.cells.lookup x=some c->c≠X.env.locals:=λx c e z=>by obtain⟨v,o,f,hd⟩:=I.cell x c e;obtain⟨m,⟨o',es,ep,a,b,_⟩,_⟩:=I.loc;rw[z,a]at f;cases f;rw[b]at hd;cases hd
theorem Inv.funs(I:Inv X pins σ H s):s.heap.FunFrames X.base X.outer:=by
 have all:∀(l:List Env),(∀b∈frs l,b∈X.fs)->X.s₀.heap.FunFrames X.base l->s.heap.FunFrames X.base l:=by
  intro l
  induction l with
  |nil=>intro _ _;trivial
  |cons env r ih =>
   intro g hl;obtain⟨h,⟨L,o,a,hn,i,hd⟩,j⟩:=hl;have c:L∈X.fs:=g L (by unfold frs;rw[Pc,a];exact N3);obtain⟨sl,e⟩:=I.base.slot L o i (I.ok.frf L c) c λz=>I.ok.exfs L z c
   exact⟨h,⟨L,_,a,hn,e,hd⟩,ih (λb f=>g b (by unfold frs;rw[Pc,a];exact N0 _ f)) j⟩
 exact all X.outer (λ_ f=>f) I.ok.funs
theorem Inv.stack(I:Inv X pins σ H s):s.heap.FunFrames X.base X.stack:=by
 rcases I.ok.stk with e|⟨e,a⟩
 ·rw[e];exact I.funs
 ·rw[e];obtain⟨m,hn,_⟩:=I.loc;refine .cons (by rw[I.ok.kind];decide) a hn ?_ I.funs;exact Heap.get?_none_of_le (Oo I.ok.bsz I.ok.above)
theorem Inv.stkSub(I:Inv X pins σ H s):∀b∈frs X.stack,b∈X.env.locals::X.fs:=λb a=>by
 rcases I.ok.stk with e|⟨e,c⟩
 ·rw[e]at a;exact N0 _ a
 ·rw[e]at a;unfold frs at a;rw[Pc,c]at a;exact a
theorem Inv.stkFree(I:Inv X pins σ H s):∀b∈frs X.stack,H b=none:=λb a=>by
 rcases N5.mp (I.stkSub b a) with e|a
 ·rw[e];exact I.free
 ·obtain⟨_,o,c,_⟩:=I.ok.funs.mem a;exact I.base.free b o c (I.ok.frf b a) λz=>I.ok.exfs b z a
theorem Inv.step{t':Nat}{d':Drawn}(I:Inv X pins σ H s)
  (f:∀b∈ch,(b∈X.ex\/X.s₀.heap.objs.size<=b)/\b≠X.env.locals/\(∀x c,X.env.cells.lookup x=some c->c≠b)/\∀p∈X.pn++pins,p.1≠b)
  (keep:∀b o,b≠X.env.locals->b∉X.fs->b∉ch->s.heap.get? b=some o->H b=none->h'.get? b=some o)
  (slot:∀b o,b≠X.env.locals->b∈X.fs->b∉ch->s.heap.get? b=some o->H b=none->∃B,h'.get? b=some { o with slots:=B }) (free:∀b o,b∉ch->s.heap.get? b=some o->H b=none->H' b=none)
  (there:∀b o,b∉ch->s.heap.get? b=some o->∃o',h'.get? b=some o')
  (tups:∀b xs,H b=some (.tup xs)->H' b=some (.tup xs)) (frzs:∀b o u,H b=some (.frz o u)->H' b=some (.frz o u)) (tbls:∀b q,H b=some (.tbl q)->H' b=some (.tbl q))
  (ns:∀m,s.heap.Ns X.env.locals m->h'.Ns X.env.locals m) (hok:HOk X.prog X.w H' h') (G:AllBare g') :
  Inv X pins σ H' { s with heap:=h',gens:=g',drawn:=d',toks:=t' }:=by
 have A:∀b o,X.s₀.heap.get? b=some o->b≠X.env.locals:=λb o e=>ND (NL (Nz e) I.ok.above)
 have h:∀b o,X.s₀.heap.get? b=some o->b∉X.ex->b∉ch:=λb o e a j=>by
  rcases (f b j).1 with z|z
  ·exact a z
  ·exact absurd (NL (Nz e) z) (OB _)
 have cellK:∀x c,X.env.cells.lookup x=some c->∀v,s.heap.IsCell c v->h'.IsCell c v:=λx c e v C=>by
  obtain⟨o,y,hd⟩:=C;have g:c∉ch:=λz=>(f c z).2.2.1 x c e rfl
  by_cases hc:c∈X.fs
  ·obtain⟨B,q⟩:=slot c o (I.cne x c e) hc g y (I.freeC x c e);exact⟨_,q,hd⟩
  ·exact⟨o,keep c o (I.cne x c e) hc g y (I.freeC x c e),hd⟩
 refine⟨I.ok,I.os,G,⟨λb o e n j a=>?_,λb o e n j a=>?_,λb o e n a=>?_,λb o e a=>?_,λb xs e=>tups b xs (I.base.tups b xs e),λb o xs e=>frzs b o xs (I.base.frzs b o xs e),λb ps e=>?_⟩,?_,λx c e=>?_,?_,λx c e=>?_,λp E=>?_,hok,I.len,λP q t=>tbls P q (I.tab P q t)⟩
 ·exact keep b o (A b o e) j (h b o e a) (I.base.keep b o e n j a) (I.base.free b o e n a)
 ·obtain⟨B,e1⟩:=I.base.slot b o e n j a;obtain⟨D,e2⟩:=slot b _ (A b o e) j (h b o e a) e1 (I.base.free b o e n a);exact⟨D,e2⟩
 ·obtain⟨o',e1⟩:=I.base.there b o e a;exact free b o' (h b o e a) e1 (I.base.free b o e n a)
 ·obtain⟨o',e1⟩:=I.base.there b o e a;exact there b o' (h b o e a) e1
 ·exact tbls b _ (I.base.tbls b ps e)
 ·obtain⟨m,hn,hl⟩:=I.loc;refine⟨m,ns m hn,λi x v e1 e2 J=>?_⟩;obtain⟨u,r,l⟩:=hl i x v e1 e2 J;refine⟨u,r,?_⟩;rcases l with l|⟨k,c,e,z⟩
  ·exact .inl l
  ·exact .inr ⟨k,c,e,cellK x c e _ z⟩
 ·obtain⟨v,z⟩:=I.cell x c e;exact⟨v,cellK x c e v z⟩
 ·obtain⟨m,⟨o,_,_,y,_⟩,_⟩:=I.loc;exact free _ o (λz=>(f _ z).2.1 rfl) y I.free
 ·obtain⟨v,o,y,hd⟩:=I.cell x c e;exact free c o (λz=>(f c z).2.2.1 x c e rfl) y (I.freeC x c e)
 ·obtain⟨e,n,ne,F,d⟩:=I.pin p E;have g:p.1∉ch:=λz=>(f p.1 z).2.2.2 p E rfl
  exact⟨keep p.1 p.2 ne F g e n,free p.1 p.2 g e n,ne,F,d⟩
theorem Inv.un{t':Nat}(I:Inv X pins σ H s)(u:Un X.fs [] H H' s.heap h')(hok:HOk X.prog X.w H' h'):Inv X pins σ H' { s with heap:=h',toks:=t' }:=by obtain⟨m,⟨o,es,ep,h,r⟩,_⟩:=id I.loc;obtain⟨sl,i⟩:=u.any h I.free (by simp);exact I.step (g':=s.gens) (d':=s.drawn) (ch:=[]) (λ_ z=>nomatch z) (λb o _ c _ e n=>u.keep b o e n c (by simp)) (λb o _ c _ e n=>u.slot b o e n c (by simp)) (λb o _ e n=>u.free b o e n (by simp)) (λb o _ e=>u.there b o e (by simp)) u.tups u.frzs u.tbls (λm' hm=>by obtain⟨o',f,g,a,j⟩:=hm;rw[h]at a;cases a;exact⟨_,f,g,i,j⟩) hok I.bare
theorem Inv.call{t':Nat}{d':Drawn}(I:Inv X pins σ H s)(u:Un (frs X.stack) ch H H' s.heap h')(hok:HOk X.prog X.w H' h')(l:AllBare g')
  (a:∀b∈ch,(b∈X.ex\/X.s₀.heap.objs.size<=b)/\b≠X.env.locals/\(∀x c,X.env.cells.lookup x=some c->c≠b)/\∀p∈X.pn++pins,p.1≠b) :
  Inv X pins σ H' { s with heap:=h',gens:=g',drawn:=d',toks:=t' }:=by
 obtain⟨m,⟨o,es,ep,j,r⟩,_⟩:=id I.loc;obtain⟨sl,g⟩:=u.any j I.free λz=>(a _ z).2.1 rfl
 exact I.step (ch:=ch) a (λb o g q hc e n=>u.keep b o e n (λz=>(N5.mp (I.stkSub b z)).elim g q) hc) (λb o _ _ hc e n=>u.any e n hc) (λb o hc e n=>u.free b o e n hc) (λb o hc e=>u.there b o e hc) u.tups u.frzs u.tbls (λm' hm=>by obtain⟨o',h,i,f,v⟩:=hm;rw[j]at f;cases f;exact⟨_,h,i,g,v⟩) hok l
theorem Inv.turned{t':Nat}(I:Inv X pins σ H s)(k:∀b o,b≠it->s.heap.get? b=some o->h'.get? b=some o)(hn:H it=none)(f:it≠X.env.locals)
  (h1:it∈X.ex\/X.s₀.heap.objs.size<=it) (h2:∀x c,X.env.cells.lookup x=some c->c≠it) (g:∀p∈X.pn++pins,p.1≠it):Inv X pins σ H { s with heap:=h',toks:=t' }:=by
 have a:∀b u,H b=some u->b≠it:=λb u e z=>by rw[z,hn]at e;cases e
 refine I.step (g':=s.gens) (d':=s.drawn) (ch:=[it]) (λb h=>?_) (λb o _ _ hc e _=>k b o (λz=>hc (by simp[z])) e) (λb o _ _ hc e _=>⟨o.slots,k b o (λz=>hc (by simp[z])) e⟩) (λ_ _ _ _ n=>n)
  (λb o hc e=>⟨o,k b o (λz=>hc (by simp[z])) e⟩) (λ_ _ e=>e) (λ_ _ _ e=>e) (λb ps e=>e) (λm hm=>?_) (λb u e=>?_) I.bare
 ·have e:b=it:=by simpa using h
  subst e;exact⟨h1,f,h2,g⟩
 ·obtain⟨o,es,i,j,r⟩:=hm;exact⟨o,es,i,k _ o (Ne.symm f) j,r⟩
 ·refine (I.hok b u e).stay (λc v hc q=>k c v ?_ q) (λ_ q=>q) λ_ _ q=>q
  rcases hc with z|z
  ·rw[z];exact a b u e
  ·exact a c _ z
theorem Inv.tok(I:Inv X pins σ H s)(t:Nat):Inv X pins σ H { s with toks:=t }:=I.un (h':=s.heap) (t':=t) Un.refl I.hok
theorem Inv.kept{t':Nat}(I:Inv X pins σ H s)(k:∀b u,s.heap.get? b=some u->h'.get? b=some u):Inv X pins σ H { s with heap:=h',toks:=t' }:=I.un (Un.kept k) (I.hok.kept k)
theorem Inv.laid{t':Nat}(I:Inv X pins σ H s)(k:∀b u,s.heap.get? b=some u->h'.get? b=some u)(c:s.heap.objs.size<=a)(new:dr X.prog X.w (upd H a o) h' a o) :
 Inv X pins σ (upd H a o) { s with heap:=h',toks:=t' }:=I.un (Un.laid k c (I.hok.fresh c)) (I.hok.laid k c new)
theorem Inv.write{x e:Addr}{t':Nat}(I:Inv X pins σ H s)(c:Mut (H x))(f:e=x\/H e=some (.own x))(k:∀b u,b≠e->s.heap.get? b=some u->h'.get? b=some u)(a:∃u,h'.get? e=some u)
 (new:dr X.prog X.w (upd H x o) h' x o):Inv X pins σ (upd H x o) { s with heap:=h',toks:=t' }:=I.un (Un.write c f k a) (I.hok.write c f k a new)
theorem Inv.pins_of{pins':List (Addr×Obj)}(I:Inv X pins σ H s)(h:∀p∈pins',s.heap.get? p.1=some p.2/\H p.1=none/\p.1≠X.env.locals/\p.1∉X.fs/\∀v,p.2.data≠.cell v):Inv X pins' σ H s :=
 ⟨I.ok,I.os,I.bare,I.base,I.loc,I.cell,I.free,I.freeC,λp a=>(NY.mp a).elim (λz=>I.pin p (O4 _ z)) (h p),I.hok,I.len,I.tab⟩
theorem xM(c:N.Nodup)(a:N[i]?=some x)(b:N[j]?=some x):i=j:=by obtain⟨h1,e1⟩:=NR.mp a;obtain⟨h2,e2⟩:=NR.mp b;exact (List.getElem_inj c).mp (e1.trans e2.symm)
theorem tJ{Q:Unit->Shared->Prop}(I:Inv X pins σ H s)(hN:X.N.Nodup)(hi:X.N[i]?=some x)(g:Loc X.env.scope x)(r:RelV v u)
  (h:∀s',Inv X pins (σ.set i (some v)) H s'->(∃a,Heap.SameBut a s.heap s'.heap/\(a=X.env.locals\/X.env.cells.lookup x=some a))->Q () s') (hf:X.fn x=true\/X.env.scope.names.lookup x=some .local:=by first|exact .inl rfl|exact .inr rfl|assumption):wpAny M A (storeName X.env x u) Q E s:=by
 obtain⟨m,hn,hl⟩:=id I.loc;have G:(X.env.scope.kind==.class||(X.env.scope.kind==.module&&X.env.locals != X.env.globals))=false:=by rw[I.ok.kind];rfl
 have B:i<σ.length:=by rw[I.len];exact (NR.mp hi).1
 have cne:=I.cne;have tracked:∀{a:Addr}{h':Heap},(∃o,s.heap.get? a=some o/\H a=none)->Heap.SameBut a s.heap h'->HOk X.prog X.w H h':=λ{a h'} ha f b ob e=>by
  obtain⟨_,_,l⟩:=ha;refine (I.hok b ob e).stay (λc O hc q=>(f.2 c ?_).trans q) (λ_ q=>q) λ_ _ q=>q
  rintro rfl
  rcases hc with rfl|hc
  ·rw[l]at e;cases e
  ·rw[l]at hc;cases hc
 rcases g with C|C
 ·refine wpAny_storeName_local C hn (λh' P f=>?_) G;obtain⟨oL,_,_,R,_⟩:=id hn;refine h _ ⟨I.ok,I.os,I.bare,⟨λb o e n D g=>?_,λb o e n D g=>?_,I.base.free,λb o e g=>?_,I.base.tups,I.base.frzs,I.base.tbls⟩,⟨_,P,λj y S e1 e2 T=>?_⟩,λy c e=>?_,I.free,I.freeC,λp U=>?_,tracked ⟨oL,R,I.free⟩ f,by simpa using I.len,I.tab⟩ ⟨_,f,.inl rfl⟩
  ·exact (f.2 b (ND (NL (Nz e) I.ok.above))).trans (I.base.keep b o e n D g)
  ·obtain⟨W,e1⟩:=I.base.slot b o e n D g;exact⟨W,(f.2 b (ND (NL (Nz e) I.ok.above))).trans e1⟩
  ·obtain⟨o',e1⟩:=I.base.there b o e g;exact⟨o',(f.2 b (ND (NL (Nz e) I.ok.above))).trans e1⟩
  ·by_cases hj:j=i
   ·subst hj;rw[hi]at e1;cases e1;rw[O8 B]at e2;cases e2;exact⟨u,r,.inl ⟨C,by simp⟩⟩
   ·rw[NX (Ne.symm hj)]at e2;obtain⟨Y,Z,q⟩:=hl j y S e1 e2 T;refine⟨Y,Z,?_⟩;rcases q with⟨k,e⟩|⟨k,c,e,z⟩
    ·refine .inl ⟨k,?_⟩;have:y≠x:=λe=>hj (xM hN e1 (e▸hi))
     simp[this,e]
    ·exact .inr ⟨k,c,e,z.sameBut f (cne y c e)⟩
  ·obtain⟨O,z⟩:=I.cell y c e;exact⟨O,z.sameBut f (cne y c e)⟩
  ·obtain⟨e,n,ne,nf,d⟩:=I.pin p U;exact⟨(f.2 p.1 ne).trans e,n,ne,nf,d⟩
 ·have F:X.fn x=true:=by
   rcases hf with z|z
   ·exact z
   ·rw[z]at C;cases C
  obtain⟨c,hc⟩:=I.ok.has x (.inl C);obtain⟨O,z⟩:=I.cell x c hc;refine wpAny_storeName_cell I.ok.kind C hc z (λh' J f=>?_);obtain⟨oc,K,L⟩:=id z;refine h { s with heap:=h' } ⟨I.ok,I.os,I.bare,⟨λb o e n D g=>?_,λb o e n D g=>?_,I.base.free,λb o e g=>?_,I.base.tups,I.base.frzs,I.base.tbls⟩,⟨m,hn.sameBut f (Ne.symm (cne x c hc)),λj y S e1 e2 T=>?_⟩,λy c' e=>?_,I.free,I.freeC,λp U=>?_,tracked ⟨oc,K,I.freeC x c hc⟩ f,by simpa using I.len,I.tab⟩ ⟨c,f,.inr hc⟩
  ·exact (f.2 b (ND (NL (Nz e) (I.ok.cab x c F hc)))).trans (I.base.keep b o e n D g)
  ·obtain⟨W,e1⟩:=I.base.slot b o e n D g;exact⟨W,(f.2 b (ND (NL (Nz e) (I.ok.cab x c F hc)))).trans e1⟩
  ·obtain⟨o',e1⟩:=I.base.there b o e g;exact⟨o',(f.2 b (ND (NL (Nz e) (I.ok.cab x c F hc)))).trans e1⟩
  ·by_cases hj:j=i
   ·subst hj;rw[hi]at e1;cases e1;rw[O8 B]at e2;cases e2;exact⟨u,r,.inr ⟨.inl C,c,hc,J⟩⟩
   ·rw[NX (Ne.symm hj)]at e2;obtain⟨Y,Z,q⟩:=hl j y S e1 e2 T;refine⟨Y,Z,?_⟩;rcases q with q|⟨k,c',e,z'⟩
    ·exact .inl q
    ·refine .inr ⟨k,c',e,z'.sameBut f ?_⟩
     rintro rfl
     exact hj (xM hN e1 (I.ok.inj _ _ _ e hc▸hi))
  ·by_cases hcc:c'=c
   ·subst hcc;exact⟨_,J⟩
   ·obtain⟨w2,z2⟩:=I.cell y c' e;exact⟨w2,z2.sameBut f hcc⟩
  ·obtain⟨e,n,ne,nf,d⟩:=I.pin p U;refine⟨(f.2 p.1 ?_).trans e,n,ne,nf,d⟩;intro q;rw[q,K]at e;have q':oc=p.2:=Option.some.inj e;exact d O (by rw[<-q'];exact L)
theorem pN{Q:Unit->Shared->Prop}(I:Inv X pins σ H s)(a:X.N.Nodup)(hi:X.N[i]?=some x)(b:Loc X.env.scope x)(r:RelV v u)
  (h:∀s',Inv X pins (σ.set i (some v)) H s'->Q () s') (c:X.fn x=true\/X.env.scope.names.lookup x=some .local:=by first|exact .inl rfl|exact .inr rfl|assumption):wpAny M A (storeName X.env x u) Q E s :=
 tJ I a hi b r (λs' e _=>h s' e) c
theorem Inv.call'(I:Inv X pins σ H s)(f:s'.os=s.os)(u:Un (frs X.stack) ch H H' s.heap s'.heap)(hok:HOk X.prog X.w H' s'.heap)(g:AllBare s'.gens)
  (a:∀b∈ch,(b∈X.ex\/X.s₀.heap.objs.size<=b)/\b≠X.env.locals/\(∀x c,X.env.cells.lookup x=some c->c≠b)/\∀p∈X.pn++pins,p.1≠b):Inv X pins σ H' s':=by
 obtain⟨h',g',d',t',o'⟩:=s';have e:o'=s.os:=f;subst e;exact I.call (g':=g') (t':=t') (d':=d') u hok g a
end
abbrev XK:=Value->Option Addr->Hp->Prop
abbrev St:=List (Option V)
variable {σ:St}
abbrev VK:=V->Hp->Prop
abbrev TE:=St->Hp->VK->Prop
abbrev TT:=St->Hp->(Bool->Hp->Prop)->Prop
abbrev TA:=St->Hp->(List V->Hp->Prop)->Prop
structure Ends where
 nx:St->Hp->Prop
 rt:VK
 bk:St->Hp->Prop:=λ_ _=>False
 ct:St->Hp->Prop:=λ_ _=>False
abbrev TS:=Ends->St->Hp->Prop
def EP(X:Cx)(pins:List (Addr×Obj))(σ:St)(Q:VK)(u:Value)(s':Shared):Prop:=∃v H',Inv X pins σ H' s'/\RelV v u/\Q v H'
def TP(X:Cx)(pins:List (Addr×Obj))(σ:St)(Q:Bool->Hp->Prop)(b:Bool)(s':Shared):Prop:=∃H',Inv X pins σ H' s'/\Q b H'
def AP(X:Cx)(pins:List (Addr×Obj))(σ:St)(Q:List V->Hp->Prop)(us:List Value)(s':Shared):Prop:=∃vs H',Inv X pins σ H' s'/\Vals vs us/\Q vs H'
def SP(X:Cx)(pins:List (Addr×Obj))(D:Ends)(f:Flow)(s':Shared):Prop :=
 match f with
 |.next=>∃a H',Inv X pins a H' s'/\D.nx a H'
 |.brk=>∃a H',Inv X pins a H' s'/\D.bk a H'
 |.cont=>∃a H',Inv X pins a H' s'/\D.ct a H'
 |.ret u=>∃v a H',Inv X pins a H' s'/\RelV v u/\D.rt v H'
def PE(X:Cx)(e:Expr)(t:TE):Prop :=
 ∀(pins:List (Addr×Obj))(s:Shared)(σ:St)(H:Hp)(Q:VK),Inv X pins σ H s->t σ H Q->wpAny (model X.prog X.w) X.A (eval e X.env) (EP X pins σ Q) X.xe s
def PT(X:Cx)(e:Expr)(t:TT):Prop :=
 ∀(pins:List (Addr×Obj))(s:Shared)(σ:St)(H:Hp)(Q:Bool->Hp->Prop),Inv X pins σ H s->t σ H Q->wpAny (model X.prog X.w) X.A (isTrue e X.env (eval e X.env)) (TP X pins σ Q) X.xe s
def PW(X:Cx)(e:Expr)(t:TT):Prop :=
 ∀(whole:Sem Value)(pins:List (Addr×Obj))(s:Shared)(σ:St)(H:Hp)(Q:Bool->Hp->Prop),Inv X pins σ H s->t σ H Q->wpAny (model X.prog X.w) X.A (isTrue e X.env whole) (TP X pins σ Q) X.xe s
theorem PW.pt{t:TT}(h:PW X e t):PT X e t:=h _
def PA(X:Cx)(es:List Expr)(t:TA):Prop :=
 ∀(pos:Pos)(pins:List (Addr×Obj))(s:Shared)(σ:St)(H:Hp)(Q:List V->Hp->Prop),Inv X pins σ H s->t σ H Q->wpAny (model X.prog X.w) X.A (spliced (backTo pos (starEach es X.env))) (AP X pins σ Q) X.xe s
def PS(X:Cx)(st:Stmt)(t:TS):Prop :=
 ∀(pins:List (Addr×Obj))(s:Shared)(σ:St)(H:Hp)(D:Ends),Inv X pins σ H s->t D σ H->wpAny (model X.prog X.w) X.A (exec st X.env) (SP X pins D) X.xe s
def PSs(X:Cx)(st:List Stmt)(t:TS):Prop :=
 ∀(pins:List (Addr×Obj))(s:Shared)(σ:St)(H:Hp)(D:Ends),Inv X pins σ H s->t D σ H->wpAny (model X.prog X.w) X.A (execs st X.env) (SP X pins D) X.xe s
theorem thn{t:Sem α}{Q b:α->Shared->Prop}(h:wpAny M A t Q E s)(c:∀a s,Q a s->b a s):wpAny M A t b E s:=wpAny_mono h c λ_ _ x=>x
section
theorem bin{a b:Expr}{ta tb:TE}(ha:PE X a ta)(i:PE X b tb)(I:Inv X pins σ H s)(h:ta σ H λx H1=>tb σ H1 λy H2=>R x y H2)
  {Q:α->Shared->Prop} {f:Value->Value->Sem α}
  (j:∀v u s2 x y H2,Inv X pins σ H2 s2->RelV x v->RelV y u->R x y H2->wpAny (model X.prog X.w) X.A (f v u) Q X.xe s2) :
  wpAny (model X.prog X.w) X.A (eval a X.env) (λv e=>wpAny (model X.prog X.w) X.A (eval b X.env) (λu g=>wpAny (model X.prog X.w) X.A (f v u) Q X.xe g) X.xe e) X.xe s:=by
 refine thn (ha pins s σ H _ I h) λv l c=>?_
 obtain⟨x,H1,m,n,o⟩:=c;refine thn (i pins l σ H1 _ m o) λu s2 c=>?_
 obtain⟨y,H2,p,q,r⟩:=c;exact j v u s2 x y H2 p n q r
def Mv(i:Nat):TE:=λσ H Q=>∃v,σ[i]?=some (some v)/\Q v H
def tC(v:V):TE:=λ_ H Q=>Q v H
theorem j9(g:X.N[i]?=some x)(j:Vis X.env.scope x)(hd:(x==("__debug__":Str))=false:=by decide)(f:(x==("__classdict__":Str))=false:=by decide):PE X (.Name x pos) (Mv i):=by
 intro pins s σ H Q I h;obtain⟨v,e,h⟩:=h;obtain⟨m,hn,hl⟩:=I.loc;obtain⟨u,r,l⟩:=hl i x v g e j;have fin:EP X pins σ Q u s:=⟨v,H,I,r,h⟩
 rcases l with⟨b,hm⟩|⟨b,c,hc,a⟩
 ·exact wpAny_Name (wpAny_loadName_local I.ok.kind b hn hm fin) hd
 ·rcases b with b|b
  ·exact wpAny_Name (wpAny_loadName_cell I.ok.kind b hc a fin) hd
  ·exact wpAny_Name (wpAny_loadName_free I.ok.kind b hc a fin f) hd
theorem gp{i j pos}:PE X (.Constant (.int i) j pos) (tC (.int i)):=λ_ _ _ H _ I h=>wpAny_Constant_int ⟨.int i,H,I.tok _,⟨_,rfl⟩,h⟩
theorem Ma{b j pos}:PE X (.Constant (.bool b) j pos) (tC (.bl b)):=λ_ _ _ H _ I h=>Constant_bool ⟨.bl b,H,I,rfl,h⟩
theorem Jt{j pos}:PE X (.Constant .none j pos) (tC .non):=λ_ _ _ H _ I h=>Constant_none ⟨.non,H,I,rfl,h⟩
theorem JJ{x j pos}:PE X (.Constant (.str x) j pos) (tC (.str x)):=λ_ _ _ H _ I h=>Calls.Constant_str ⟨.str x,H,I.tok _,⟨_,rfl⟩,h⟩
def Gl(X:Cx)(x:Str):Prop:=X.env.kindOf x=some .globalImplicit
theorem oP(I:Inv X pins σ H s)(a:Gl X x)(hm:X.mg x=some u)(h:Q u s)
  (hd:(x==("__debug__":Str))=false:=by decide):wpAny (model X.prog X.w) X.A (eval (.Name x pos) X.env) Q E s :=
 Calls.Name_function_global I.ok.kind a (Calls.loadGlobal_global (by rw[I.ok.glob];exact I.mod.glob.keeps I.bk) hm h) hd
theorem fz(I:Inv X pins σ H s)(a:Gl X x)(hm:X.mg x=none)(b:bootBuiltins x=some u)(h:Q u s)
  (hn:x≠"__name__":=by decide) (hd:(x==("__debug__":Str))=false:=by decide):wpAny (model X.prog X.w) X.A (eval (.Name x pos) X.env) Q E s:=by
 obtain⟨mb,h1,h2⟩:=I.mod.blt;exact Calls.Name_function_global I.ok.kind a (Calls.loadGlobal_builtin (by rw[I.ok.glob];exact I.mod.glob.keeps I.bk) hm (by rw[I.ok.blt];exact h1.keeps I.bk) ((h2 x hn).trans b) h) hd
theorem Ik(a:Gl X x)(hm:X.mg x=some u)(r:RelV v u)(hd:(x==("__debug__":Str))=false:=by decide):PE X (.Name x pos) (tC v) :=
 λ_ _ _ H _ I h=>oP I a hm ⟨v,H,I,r,h⟩ hd
theorem HD(a:Gl X x)(hm:X.mg x=none)(b:bootBuiltins x=some u)(r:RelV v u)(hn:x≠"__name__":=by decide)(hd:(x==("__debug__":Str))=false:=by decide):PE X (.Name x pos) (tC v) :=
 λ_ _ _ H _ I h=>fz I a hm b ⟨v,H,I,r,h⟩ hn hd
def t2I(ta tb:TE)(k:Int->Int->Hp->Prop):St->Hp->Prop:=λσ H=>ta σ H λx H1=>tb σ H1 λy H2=>∃i j,x=.int i/\y=.int j/\k i j H2
variable {a b:Expr}{ta tb:TE}
def PC(X:Cx)(op:CmpOp)(a b:Expr)(t:TE):Prop :=
 ∀(pins:List (Addr×Obj))(s:Shared)(σ:St)(H:Hp)(Q:VK),Inv X pins σ H s->t σ H Q ->
  wpAny (model X.prog X.w) X.A (eval a X.env) (λv c=>wpAny (model X.prog X.w) X.A (eval b X.env) (λu e=>wpAny (model X.prog X.w) X.A (compareOp op v u) (EP X pins σ Q) X.xe e) X.xe c) X.xe s
theorem v7(b:Expr)(h:op≠.In)(h2:op≠.NotIn):behindInMarks op b=false:=by
 have e1:(op==CmpOp.In)=false:=by cases op <;> first|rfl|exact absurd rfl h
 have e2:(op==CmpOp.NotIn)=false:=by cases op <;> first|rfl|exact absurd rfl h2
 cases b <;> simp[behindInMarks,e1,e2]
def Ms(p:Int->Int->Bool)(ta tb:TE):TE:=λσ H Q=>t2I ta tb (λi j H2=>Q (.bl (p i j)) H2) σ H
abbrev tLt:TE->TE->TE:=Ms λi j=>decide (i<j)
theorem IV{p:Int->Int->Bool}(ha:PE X a ta)(c:PE X b tb)
  (rule:∀(i j:Int)(t u:Tok)(Q:Value->Shared->Prop)(s:Shared),Q (.bool (p i j)) s->wpAny (model X.prog X.w) X.A (compareOp op (.int i t) (.int j u)) Q X.xe s):PC X op a b (Ms p ta tb):=by
 intro pins s σ H Q I h;refine bin ha c I h λv u s2 x y H2 e f g q=>?_
 obtain⟨i,j,rfl,rfl,q⟩:=q;obtain⟨t,rfl⟩:=f;obtain⟨t',rfl⟩:=g;exact rule i j t t' _ s2 ⟨.bl _,H2,e,rfl,q⟩
theorem MK(ha:PE X a ta)(c:PE X b tb):PC X .Lt a b (tLt ta tb):=IV ha c λ_ _ _ _ _ _ h=>lt_int h
def Ng(ta:TE):TE:=λσ H Q=>ta σ H λx H1=>Q (.bl (decide (x=.non))) H1
def Mz(ta:TE):TE:=λσ H Q=>ta σ H λx H1=>Q (.bl (!decide (x=.non))) H1
theorem RelV.none_iff{x:V}{v:Value}(r:RelV x v):(v==Value.none)=decide (x=.non):=by
 cases x with
 |non=>cases r;rfl
 |bl _=>cases r;rfl
 |int _=>obtain⟨t,rfl⟩:=r;rfl
 |str _=>obtain⟨t,rfl⟩:=r;rfl
 |byt _=>obtain⟨t,rfl⟩:=r;rfl
 |flt _=>obtain⟨t,rfl⟩:=r;rfl
 |ref _=>cases r;rfl
 |ty _=>cases r;rfl
theorem C0{j pos'}(ha:PE X a ta):PC X .Is a (.Constant .none j pos') (Ng ta):=by
 intro pins s σ H Q I h;refine thn (ha pins s σ H _ I h) λv s1 b=>?_
 obtain⟨x,H1,c,e,f⟩:=b;exact Constant_none (is_none_gen ⟨.bl _,H1,c,by rw[e.none_iff];rfl,f⟩)
theorem Gj{j pos'}(ha:PE X a ta):PC X .IsNot a (.Constant .none j pos') (Mz ta):=by
 intro pins s σ H Q I h;refine thn (ha pins s σ H _ I h) λv s1 b=>?_
 obtain⟨x,H1,c,e,f⟩:=b;exact Constant_none (isnot_none_gen ⟨.bl _,H1,c,by rw[e.none_iff];rfl,f⟩)
def tB(t:TE):TT:=λσ H Q=>t σ H λx H1=>∃c,x=.bl c/\Q c H1
theorem KZ{t:TE}(h:PC X op a b t)(h1:behindInMarks op b=false:=by first|exact v7 _ (by decide) (by decide)|rfl):PE X (.Compare a [op] [b] pos) t:=λpins s σ H Q I hw=>wpAny_Compare1 (h pins s σ H Q I hw) h1
theorem zr{t:TE}(h:PC X op a b t)(h1:behindInMarks op b=false:=by first|exact v7 _ (by decide) (by decide)|rfl):PT X (.Compare a [op] [b] pos) (tB t):=by intro pins s σ H Q I hw;refine wpAny_isTrue_Compare1 (thn (h pins s σ H _ I hw) λv s1 h1=>thn h1 λu s2 h2=>thn h2 λc s3 e=>?_) h1;obtain⟨x,H1,f,g,i⟩:=e;obtain⟨d,rfl,q⟩:=i;cases g;exact wpAny_truthy_bool ⟨H1,f,q⟩
theorem Kc{t:TE}(h:PE X e t)(b:∀whole,isTrue e X.env whole=(do let v <-whole;standAt e.pos;holding [v] (truthy v)):=by intro _;rfl):PT X e (tB t):=by intro pins s σ H Q I hw;refine isTrue_plain (thn (h pins s σ H _ I hw) λv s1 a=>?_) (b _);obtain⟨x,H1,c,f,g⟩:=a;obtain⟨d,rfl,q⟩:=g;cases f;exact wpAny_truthy_bool ⟨H1,c,q⟩
variable {tA tB':TT}{rest:List Expr}
def Nd(t u:TT):TT:=λσ H Q=>t σ H λc H1=>if c=true then u σ H1 Q else Q false H1
def tOr(t u:TT):TT:=λσ H Q=>t σ H λc H1=>if c=true then Q true H1 else u σ H1 Q
def M4(t:TT):TT:=λσ H Q=>t σ H λc H1=>Q (!c) H1
theorem Iv(ha:PT X a tA):PW X (.BoolOp .And [a] pos) tA:=by
 intro wh pins s σ H Q I h;refine isTrue_and (thn (ha pins s σ H Q I h) λc s1 e=>?_);cases c with
 |true=>exact isTrue_and_nil e
 |false=>exact e
theorem Kn(ha:PT X a tA):PW X (.BoolOp .Or [a] pos) tA:=by
 intro wh pins s σ H Q I h;refine isTrue_or (thn (ha pins s σ H Q I h) λc s1 e=>?_);cases c with
 |false=>exact isTrue_or_nil e
 |true=>exact e
theorem K8(ha:PT X a tA)(i:PW X (.BoolOp .And (b::rest) pos) tB'):PW X (.BoolOp .And (a::b::rest) pos) (Nd tA tB'):=by
 intro j pins s σ H Q I h;refine isTrue_and (thn (ha pins s σ H _ I h) λc l e=>?_);obtain⟨H1,f,g⟩:=e;cases c with
 |true=>exact i j pins l σ H1 Q f g
 |false=>exact⟨H1,f,g⟩
theorem LG(ha:PT X a tA)(i:PW X (.BoolOp .Or (b::rest) pos) tB'):PW X (.BoolOp .Or (a::b::rest) pos) (tOr tA tB'):=by
 intro j pins s σ H Q I h;refine isTrue_or (thn (ha pins s σ H _ I h) λc l e=>?_);obtain⟨H1,f,g⟩:=e;cases c with
 |true=>exact⟨H1,f,g⟩
 |false=>exact i j pins l σ H1 Q f g
theorem JL(ha:PT X a tA):PT X (.UnaryOp .Not a pos) (M4 tA):=by intro pins s σ H Q I h;exact isTrue_not (ha pins s σ H (λc H1=>Q (!c) H1) I h)
def LK(ta tb:TE):TE:=λσ H Q=>ta σ H λx H1=>∃c,x=.bl c/\if c=true then tb σ H1 Q else Q (.bl false) H1
def MV(ta tb:TE):TE:=λσ H Q=>ta σ H λx H1=>∃c,x=.bl c/\if c=true then Q (.bl true) H1 else tb σ H1 Q
theorem K9{op}{t:TE}(h:PE X a t):PE X (.BoolOp op [a] pos) t:=λpins s σ H Q I hw=>BoolOp_one (h pins s σ H Q I hw)
theorem KS(ha:PE X a ta)(i:PE X (.BoolOp .And (b::rest) pos) tb):PE X (.BoolOp .And (a::b::rest) pos) (LK ta tb):=by
 intro pins s σ H Q I h;refine BoolOp_and (thn (ha pins s σ H _ I h) λv j f=>?_);obtain⟨x,H1,g,l,e⟩:=f;obtain⟨c,rfl,e⟩:=e;cases l;refine wpAny_truthy_bool ?_;cases c with
 |true=>exact i pins j σ H1 Q g e
 |false=>exact⟨.bl false,H1,g,rfl,e⟩
theorem Mw(ha:PE X a ta)(i:PE X (.BoolOp .Or (b::rest) pos) tb):PE X (.BoolOp .Or (a::b::rest) pos) (MV ta tb):=by
 intro pins s σ H Q I h;refine BoolOp_or (thn (ha pins s σ H _ I h) λv j f=>?_);obtain⟨x,H1,g,l,e⟩:=f;obtain⟨c,rfl,e⟩:=e;cases l;refine wpAny_truthy_bool ?_;cases c with
 |false=>exact i pins j σ H1 Q g e
 |true=>exact⟨.bl true,H1,g,rfl,e⟩
def tIf(t:TT)(ta tb:TE):TE:=λσ H Q=>t σ H λc H1=>if c=true then ta σ H1 Q else tb σ H1 Q
theorem D8(hc:PT X c tA)(ha:PE X a ta)(j:PE X b tb):PE X (.IfExp c a b pos) (tIf tA ta tb):=by
 intro pins s σ H Q I h;refine wpAny_IfExp (thn (hc pins s σ H _ I h) λd f e=>?_);obtain⟨H1,g,i⟩:=e;cases d with
 |true=>exact ha pins f σ H1 Q g i
 |false=>exact j pins f σ H1 Q g i
end
def SqL(K:W.Frag)(H:Hp)(a:Addr)(xs:List V):Prop :=
 Rd H a (.lst xs) \/
  ∃(o:Obj)(b:Array Value)(n:Nat),K.lookup a=some o/\o.cls=.type "list"/\o.dict=none/\o.data=.seq b n/\b.size<=sizeLine/\Vals xs b.toList
def SqT(K:W.Frag)(H:Hp)(a:Addr)(xs:List V):Prop :=
 Rd H a (.tup xs) \/
  ∃(o:Obj)(b:Array Value)(n:Nat),K.lookup a=some o/\o.cls=.type "tuple"/\o.data=.seq b n/\b.size<=sizeLine/\Vals xs b.toList
def M6:Value->Option V
 |.none=>some .non
 |.bool b=>some (.bl b)
 |.int i _=>some (.int i)
 |.str x _=>some (.str x)
 |.bytes b _=>some (.byt b)
 |.float b _=>some (.flt b)
 |.ref a=>some (.ref a)
 |.type n=>some (.ty n)
 |_=>none
theorem RelV.abs{x:V}(r:RelV x u):M6 u=some x:=by
 cases x with
 |non=>cases r;rfl
 |bl _=>cases r;rfl
 |int _=>obtain⟨t,rfl⟩:=r;rfl
 |str _=>obtain⟨t,rfl⟩:=r;rfl
 |byt _=>obtain⟨t,rfl⟩:=r;rfl
 |flt _=>obtain⟨t,rfl⟩:=r;rfl
 |ref _=>cases r;rfl
 |ty _=>cases r;rfl
theorem RelV.inj{x y:V}(r:RelV x u)(q:RelV y u):x=y:=Option.some.inj (r.abs.symm.trans q.abs)
theorem Vals.inj{ys:List V}(h:Vals xs us)(h':Vals ys us):xs=ys:=by
 induction h generalizing ys with
 |nil=>cases h';rfl
 |cons r t ih =>
  cases h' with
  |cons r' t'=>rw[r.inj r',ih t']
section
variable {ys:List V}
theorem SqL.of(h:H a=some (.lst xs)):SqL K H a xs:=.inl (.inl h)
theorem SqT.of(h:H a=some (.tup xs)):SqT K H a xs:=.inl (.inl h)
theorem Inv.list(I:Inv X pins σ H s)(h:SqL X.K H a xs):∃b:List Value,Vals xs b/\PlainL s.heap a b.toArray/\xs.length<=sizeLine:=by
 rcases h with h|⟨o,b,n,c,hc,hd,f,hz,r⟩
 ·obtain⟨z,b,n,r,e⟩:=h.ok I.hok;exact⟨b,r,⟨_,n,e,rfl,rfl,rfl⟩,z⟩
 ·refine⟨b.toList,r,⟨o,n,I.kIn a o c,hc,hd,by simpa using f⟩,?_⟩;have e:=r.length;simp only[NZ]at e;omega
theorem Inv.tuple(I:Inv X pins σ H s)(h:SqT X.K H a xs):∃b:List Value,Vals xs b/\IsTup s.heap a b.toArray/\xs.length<=sizeLine:=by
 rcases h with h|⟨o,b,n,c,hc,f,hz,r⟩
 ·obtain⟨z,b,r,p⟩:=h.ok I.hok;exact⟨b,r,p.tup,z⟩
 ·refine⟨b.toList,r,⟨o,I.kIn a o c,hc,n,by simpa using f⟩,?_⟩;have e:=r.length;simp only[NZ]at e;omega
theorem Inv.list_inj(I:Inv X pins σ H s)(h:SqL X.K H a xs)(h':SqL X.K H a ys):xs=ys:=by
 obtain⟨b,r,⟨o,n,e,_,_,d⟩,_⟩:=I.list h;obtain⟨its',f,⟨o',n',c,_,_,d'⟩,_⟩:=I.list h';rw[e]at c;cases c;rw[d]at d';injection d' with d1 _
 have:b=its':=by simpa using congrArg Array.toList d1
 subst this;exact r.inj f
theorem Inv.tuple_inj(I:Inv X pins σ H s)(h:SqT X.K H a xs)(h':SqT X.K H a ys):xs=ys:=by
 obtain⟨b,r,⟨o,e,_,n,d⟩,_⟩:=I.tuple h;obtain⟨its',f,⟨o',c,_,n',d'⟩,_⟩:=I.tuple h';rw[e]at c;cases c;rw[d]at d';injection d' with d1 _
 have:b=its':=by simpa using congrArg Array.toList d1
 subst this;exact r.inj f
end
abbrev Cx.wish(X:Cx)(E:Value->Shared->Prop):Cx:={ X with xe:=E }
abbrev Cx.nox(X:Cx):Cx:=X.wish λ_ _=>False
theorem Cx.Ok.wish(ok:X.Ok)(E:Value->Shared->Prop):(X.wish E).Ok :=
 ⟨ok.mod,ok.kind,ok.glob,ok.blt,ok.above,ok.inj,ok.has,ok.cab,ok.hd,ok.frames,ok.stk,ok.exf,ok.bs,ok.bsz,ok.noex,ok.exfs,ok.funs,ok.frf⟩
theorem Cx.Ok.unwish(ok:(X.wish E).Ok):X.Ok :=
 ⟨ok.mod,ok.kind,ok.glob,ok.blt,ok.above,ok.inj,ok.has,ok.cab,ok.hd,ok.frames,ok.stk,ok.exf,ok.bs,ok.bsz,ok.noex,ok.exfs,ok.funs,ok.frf⟩
section
theorem Inv.wish(I:Inv X pins σ H s)(E:Value->Shared->Prop):Inv (X.wish E) pins σ H s:=⟨I.ok.wish E,I.os,I.bare,I.base,I.loc,I.cell,I.free,I.freeC,I.pin,I.hok,I.len,I.tab⟩
theorem Inv.unwish(I:Inv (X.wish E) pins σ H s):Inv X pins σ H s:=⟨I.ok.unwish,I.os,I.bare,I.base,I.loc,I.cell,I.free,I.freeC,I.pin,I.hok,I.len,I.tab⟩
theorem SP.unwish{D:Ends}{f:Flow}(h:SP (X.wish E) pins D f s'):SP X pins D f s':=by
 cases f with
 |next=>obtain⟨a,H',I,q⟩:=h;exact⟨a,H',I.unwish,q⟩
 |brk=>obtain⟨a,H',I,q⟩:=h;exact⟨a,H',I.unwish,q⟩
 |cont=>obtain⟨a,H',I,q⟩:=h;exact⟨a,H',I.unwish,q⟩
 |ret u=>obtain⟨v,a,H',I,r,q⟩:=h;exact⟨v,a,H',I.unwish,r,q⟩
theorem PSs.nox{st:List Stmt}{t:TS}(h:PSs X.nox st t):PSs X st t:=λpins s σ H D I hw =>
 wpAny_mono (h pins s σ H D (I.wish _) hw) (λ_ _ q=>q.unwish) λ_ _ z=>False.elim z
end
section
variable {rest:List Stmt}{t u:TS}{te:TE}
def Mh:TS:=λD σ H=>D.nx σ H
def M9(t u:TS):TS:=λD σ H=>t { D with nx:=u D } σ H
theorem vq:PSs X [] Mh:=λ_ _ σ H _ I h=>wpAny_execs_nil ⟨σ,H,I,h⟩
theorem cL(h1:PS X st t)(h2:PSs X rest u):PSs X (st::rest) (M9 t u):=by
 intro pins s σ H D I h;refine wpAny_execs_cons (thn (h1 pins s σ H { D with nx:=u D } I h) λf b q=>?_);cases f with
 |next =>obtain⟨a,H',c,q⟩:=q;exact h2 pins b a H' D c q
 |ret v=>exact q
 |brk=>exact q
 |cont=>exact q
theorem iu(h1:PS X st t):PSs X [st] t:=by
 intro pins s σ H D I h;refine wpAny_execs_cons (thn (h1 pins s σ H D I h) λf s1 q=>?_);cases f with
 |next=>exact wpAny_execs_nil q
 |ret v=>exact q
 |brk=>exact q
 |cont=>exact q
theorem Inv.quiet(I:Inv X pins σ H s):interactive X.env=false:=by simp[interactive,I.ok.kind]
def Lx(te:TE):TS:=λD σ H=>te σ H λ_ H1=>D.nx σ H1
theorem oU(b:PE X e te)(c:swapsWith e none pos.line X.env=pure false:=by rfl):PS X (.Expr e pos) (Lx te):=by intro pins s σ H D I h;exact wpAny_Expr_any (thn (b pins s σ H _ I h) λv s1 a=>(by obtain⟨x,H1,f,r1,g⟩:=a;exact⟨σ,H1,f,g⟩)) I.quiet c
def Nl(te:TE):TS:=λD σ H=>te σ H D.rt
theorem qH(b:PE X e te):PS X (.Return (some e) pos) (Nl te):=by intro pins s σ H D I h;exact wpAny_Return_some (thn (b pins s σ H _ I h) λv s1 a=>(by obtain⟨x,H1,c,f,g⟩:=a;exact⟨x,σ,H1,c,f,g⟩))
def Nh(c:TT)(t u:TS):TS:=λD σ H=>c σ H λb H1=>if b=true then t D σ H1 else u D σ H1
theorem AG{a b:List Stmt}{tc:TT}(hc:PT X c tc)(ha:PSs X a t)(j:PSs X b u):PS X (.If c a b pos) (Nh tc t u):=by
 intro pins s σ H D I h;refine wpAny_If (thn (hc pins s σ H _ I h) λd f e=>?_);obtain⟨H1,g,i⟩:=e;cases d with
 |true=>exact ha pins f σ H1 D g i
 |false=>exact j pins f σ H1 D g i
end
abbrev TG:=V->St->Hp->(St->Hp->Prop)->Prop
abbrev TGs:=List V->St->Hp->(St->Hp->Prop)->Prop
def PG(X:Cx)(target:Expr)(t:TG):Prop :=
 ∀(pins:List (Addr×Obj))(s:Shared)(σ:St)(H:Hp)(v:V)(u:Value)(Q:St->Hp->Prop),Inv X pins σ H s->RelV v u->t v σ H Q ->
  wpAny (model X.prog X.w) X.A (assign target X.env u) (λ_ s'=>∃a H',Inv X pins a H' s'/\Q a H') X.xe s
def PGs(X:Cx)(ts:List Expr)(t:TGs):Prop :=
 ∀(pins:List (Addr×Obj))(s:Shared)(σ:St)(H:Hp)(vs:List V)(us:List Value)(Q:St->Hp->Prop),Inv X pins σ H s->Vals vs us->t vs σ H Q ->
  wpAny (model X.prog X.w) X.A (assignInOrder ((assignEach ts X.env).map (·.2)) us) (λ_ s'=>∃a H',Inv X pins a H' s'/\Q a H') X.xe s
abbrev JO:=V->V->V->Hp->(Hp->Prop)->Prop
def L4(X:Cx)(t:JO):Prop :=
 ∀(pins:List (Addr×Obj))(s:Shared)(σ:St)(H:Hp)(o i v:V)(a b u:Value)(Q:Hp->Prop),Inv X pins σ H s->RelV o a->RelV i b->RelV v u->t o i v H Q ->
  wpAny (model X.prog X.w) X.A (setItem a b u) (λ_ s'=>∃H',Inv X pins σ H' s'/\Q H') X.xe s
abbrev TIp:=V->V->Hp->VK->Prop
def PIp(X:Cx)(op:Operator)(t:TIp):Prop :=
 ∀(pins:List (Addr×Obj))(s:Shared)(σ:St)(H:Hp)(x y:V)(v u:Value)(Q:VK),Inv X pins σ H s->RelV x v->RelV y u->t x y H Q ->
  wpAny (model X.prog X.w) X.A (inplaceOp op v u) (EP X pins σ Q) X.xe s
section
def j7(i:Nat):TG:=λv σ H Q=>Q (σ.set i (some v)) H
theorem vE(a:X.N.Nodup)(hi:X.N[i]?=some x)(b:Loc X.env.scope x)(c:X.fn x=true\/X.env.scope.names.lookup x=some .local:=by first|exact .inl rfl|exact .inr rfl|assumption):PG X (.Name x pos) (j7 i):=by intro pins s σ H v u Q I r h;exact wpAny_assign_Name (pN I a hi b r (λs' e=>⟨_,H,e,h⟩) c)
def Lb:TGs:=λvs σ H Q=>vs=[]/\Q σ H
def A3(t:TG)(u:TGs):TGs:=λvs σ H Q=>∃v r,vs=v::r/\t v σ H λa H'=>u r a H' Q
theorem Bl:PGs X [] Lb:=by intro pins s σ H vs us Q I r h;obtain⟨e,h⟩:=h;subst e;cases r;exact assignInOrder_nil ⟨σ,H,I,h⟩
theorem qN{t:TG}{u:TGs}(h1:PG X e t)(h2:PGs X es u)
  (c:(assignEach (e::es) X.env).map (·.2)=assign e X.env::(assignEach es X.env).map (·.2):=by rfl):PGs X (e::es) (A3 t u):=by
 intro pins s σ H vs us Q I r h;obtain⟨v,vr,e1,h⟩:=h;subst e1;cases r with
 |cons r rr =>rw[c];refine assignInOrder_cons (thn (h1 pins s σ H _ _ _ I r h) λ_ f a=>?_);obtain⟨b,H1,g,i⟩:=a;exact h2 pins f b H1 _ _ Q g rr i
def Jw(K:W.Frag)(n:Nat)(t:TGs):TG:=λv σ H Q=>∃a xs,v=.ref a/\SqT K H a xs/\xs.length=n/\t xs σ H Q
theorem EW{k:Nat}{t:TGs}{n:Nat}(hc:X.calm=true)(h:PGs X es t)
  (hn:(assignEach es X.env).length=n:=by rfl) (c:(assignEach es X.env).findIdx? (·.1)=none:=by rfl):PG X (.Tuple es k pos) (Jw X.K n t):=by
 intro pins s σ H v u Q I r hw;obtain⟨a,xs,e1,g,hl,hw⟩:=hw;subst e1;cases r;obtain⟨its,f,i,hz⟩:=I.tuple g;refine assign_Tuple_tuple (I.ok.hd hc) i (by simp[hn,<-hl,f.length]) c λh' j=>?_
 have l:Inv X pins σ H { s with heap:=h' }:=I.kept (t':=s.toks) λb o e=>j b o (ND (Nz e)) e
 exact h pins _ σ H xs _ Q l (by simpa using f) hw
def MU(to a:TE)(t:JO):TG:=λv σ H Q=>to σ H λo H1=>a σ H1 λi H2=>t o i v H2 λb=>Q σ b
theorem KL{o i:Expr}{to e:TE}{t:JO}(f:PE X o to)(hi:PE X i e)(g:L4 X t)
  (ha:∀v,assign (.Subscript o i pos) X.env v=(do
   let b <-holding [v] (eval o X.env);let c <-holding [v,b] (eval i X.env)
   standAt pos
   holding [v,b,c] (setItem b c v)
   release [v,b,c] []):=by intro _;rfl):PG X (.Subscript o i pos) (MU to e t):=by
 intro pins s σ H v u Q I r h;rw[ha];refine wpAny_bind (wpAny_holding (thn (f pins s σ H _ I h) λb j a=>?_));obtain⟨x,H1,l,m,n⟩:=a;refine wpAny_bind (wpAny_holding (thn (hi pins j σ H1 _ l n) λc s2 a=>?_));obtain⟨y,H2,p,q,w⟩:=a;refine wpAny_bind (wpAny_standAt (wpAny_bind (wpAny_holding (thn (g pins s2 σ H2 x y v b c u _ p m q r w) λ_ s3 a=>?_))));obtain⟨z,A,B⟩:=a;exact wpAny_release ⟨σ,z,A,B⟩
def Ej(te:TE)(g:TG):TS:=λD σ H=>te σ H λx H1=>g x σ H1 D.nx
theorem IZ{te:TE}{g:TG}(b:PE X e te)(c:PG X tg g)(f:swapsWithSole [tg] e pos.line X.env=pure false:=by rfl)(hw:swappedStores [tg] e X.env=pure none:=by rfl)
  (h1:(assignEach [tg] X.env).map (·.2)=[assign tg X.env]:=by rfl):PS X (.Assign [tg] e pos) (Ej te g):=by
 intro pins s σ H D I h;refine wpAny_Assign_stores (thn (b pins s σ H _ I h) λv i a=>?_) f hw;obtain⟨x,H1,j,l,m⟩:=a;rw[h1];exact thn (c pins i σ H1 x v _ j l m) λ_ s2 q=>q
theorem rn{te:TE}(b:X.N.Nodup)(hi:X.N[i]?=some x)(c:Loc X.env.scope x)(f:PE X e te)(g:swapsWith e (some (.Name x pos')) pos.line X.env=pure false:=by rfl)(j:X.fn x=true\/X.env.scope.names.lookup x=some .local:=by first|exact .inl rfl|exact .inr rfl|assumption) :
  PS X (.Assign [.Name x pos'] e pos) (Ej te (j7 i)):=by
 intro pins s σ H D I h;refine wpAny_Assign_Name (thn (f pins s σ H _ I h) λv s1 a=>?_) g;obtain⟨y,H1,l,m,n⟩:=a;exact pN l b hi c m (λs2 o=>⟨_,H1,o,n⟩) j
def Nm(i:Nat)(te:TE)(a:TIp):TS:=λD σ H=>∃x,σ[i]?=some (some x)/\te σ H λy H1=>a x y H1 λz H2=>D.nx (σ.set i (some z)) H2
theorem La{te:TE}{op:Operator}{p:TIp}(q:X.N.Nodup)(hi:X.N[i]?=some x)(n:Loc X.env.scope x)(B:PE X e te)(C:PIp X op p)(E:X.fn x=true\/X.env.scope.names.lookup x=some .local:=by first|exact .inl rfl|exact .inr rfl|assumption) :
  PS X (.AugAssign (.Name x pos') op e pos) (Nm i te p):=by
 intro pins s σ H D I h;obtain⟨v,e1,h⟩:=h;obtain⟨m,hn,hl⟩:=I.loc;have o:Vis X.env.scope x:=by rcases n with k|k;exact .inl k;exact .inr (.inl k)
 obtain⟨u,r,l⟩:=hl i x v hi e1 o;refine wpAny_AugAssign_Name ?_;have go:wpAny (model X.prog X.w) X.A (eval e X.env) (λw g=>wpAny (model X.prog X.w) X.A (inplaceOp op u w) (λr j=>wpAny (model X.prog X.w) X.A (storeName X.env x r) (λ_=>SP X pins D .next) X.xe j) X.xe g) X.xe s:=by
  refine thn (B pins s σ H _ I h) λw F b=>?_
  obtain⟨y,H1,G,J,K⟩:=b;refine thn (C pins F σ H1 v y u w _ G r J K) λz s2 b=>?_
  obtain⟨zv,H2,L,M,O⟩:=b;exact pN L q hi n M (λs3 P=>⟨_,H2,P,O⟩) E
 rcases l with⟨a,hm⟩|⟨a,c,hc,f⟩
 ·exact wpAny_loadName_local I.ok.kind a hn hm go
 ·rcases a with a|a
  ·exact wpAny_loadName_cell I.ok.kind a hc f go
  ·rcases n with k|k
   ·have:X.env.scope.names.lookup x=some .free:=a;rw[k]at this;cases this
   ·have:X.env.scope.names.lookup x=some .free:=a;rw[k]at this;cases this
def ipI(f:Int->Int->Int):TIp:=λx y H Q=>∃i j,x=.int i/\y=.int j/\Q (.int (f i j)) H
theorem Jy:PIp X .Add (ipI λi j=>i+j):=by intro pins s σ H x y v u Q I a b h;obtain⟨i,j,e1,e2,q⟩:=h;subst e1;subst e2;obtain⟨t,rfl⟩:=a;obtain⟨t',rfl⟩:=b;exact iadd_int ⟨.int _,H,I.tok _,⟨_,rfl⟩,q⟩
end
section
def Js(c:TT)(tb:TS):TS:=λD σ H=>∃W:Nat->St->Hp->Prop,(∃m,W m σ H)/\∀m σ H,W m σ H ->
 c σ H λb H1=>if b=true then ∃N:St->Hp->Prop,(∀a H',N a H'->∃e,e < m/\W e a H')/\tb { D with nx:=N,ct:=N,bk:=D.nx } σ H1 else D.nx σ H1
theorem xR{tc:TT}{tb:TS}(u:PassesOwn (model X.prog X.w) X.A X.env X.xe)(hc:PT X c tc)(z:PSs X body tb):PS X (.While c body [] pos) (Js tc tb):=by
 intro pins s σ H D I h;obtain⟨W,⟨B,C⟩,turn⟩:=h;refine wpAny_While (codeAny_whileLoop (λn s'=>∃g H',Inv X pins g H' s'/\W n g H') ?_ B ⟨σ,H,I,C⟩)
 rintro n E ⟨e,H1,F,G⟩
 refine wpAny_passesOwn u (thn (hc pins E e H1 _ F (turn n e H1 G)) λb s2 m=>?_);obtain⟨H2,x,j⟩:=m;cases b with
 |true =>
  obtain⟨N,y,j⟩:=j;rw[if_pos rfl];refine wpAny_passesOwn u (thn (z pins s2 e H2 _ x j) λf s3 l=>?_);cases f with
  |next =>obtain⟨a,i,o,p⟩:=l;obtain⟨q,hm,r⟩:=y a i p;exact⟨q,hm,a,i,o,r⟩
  |cont =>obtain⟨a,i,o,p⟩:=l;obtain⟨q,hm,r⟩:=y a i p;exact⟨q,hm,a,i,o,r⟩
  |brk=>exact l
  |ret v=>exact l
 |false =>rw[if_neg NO];exact wpAny_execs_nil ⟨e,H2,x,j⟩
end
structure It where
 go:Nat->Hp->Prop
 yld:Nat->Hp->V->Hp->Prop
 stop:Nat->Hp->Prop
def pV(X:Cx)(pins:List (Addr×Obj))(H:Hp)(b:Addr):Prop :=
 H b=none/\b≠X.env.locals/\b∉X.fs/\(b∈X.ex\/X.s₀.heap.objs.size<=b)/\(∀x c,X.env.cells.lookup x=some c->c≠b)/\∀p∈X.pn++pins,p.1≠b
theorem Inv.fpOk{H':Hp}(I:Inv X pins σ H s)(a:s.heap.objs.size<=b)(hn:H' b=none):pV X pins H' b:=by
 refine⟨hn,Oy (NL I.lt a),I.nofs a,.inr (Oo I.sz a),λx c e z=>?_,λp f z=>?_⟩
 ·obtain⟨v,q⟩:=I.cell x c e;exact absurd (NL q.lt (by rw[z];exact a)) (OB _)
 ·exact absurd (NL (Nz (I.pin p f).1) (by rw[z];exact a)) (OB _)
structure Turn(P:Program)(w:World)(K:W.Frag)(tg:Expr)(J:It)(fp:List Addr)(it:Addr)(tn:Nat->Heap->Prop):Prop where
 mem:it∈fp
 obj:∀i h,tn i h->∀b∈fp,∃o,h.get? b=some o/\∀v,o.data≠.cell v
 keep:∀i h h',tn i h->(∀b∈fp,∀o,h.get? b=some o->h'.get? b=some o)->tn i h'
 item:∀(X:Cx),X.prog=P->X.w=w->X.K=K->X.calm=true->∀(i:Nat)(pins:List (Addr×Obj))(s:Shared)(σ:St)(H:Hp)(E:Value->Shared->Prop),Inv X pins σ H s->(∀b∈fp,pV X pins H b)->tn i s.heap->J.go i H ->
  wpAny (model P w) X.A (pyNext (.ref it)) (λr s1=>∃u,r=some u /\
   wpAny (model P w) X.A (letOwnedTupleGo tg (.ref it) u) (λ_ s2=>∃x H',Inv X pins σ H' s2/\RelV x u/\J.yld i H x H'/\tn (i+1) s2.heap/\∀b∈fp,H' b=none) E s1) E s
 done:∀(X:Cx),X.prog=P->X.w=w->X.K=K->X.calm=true->∀(i:Nat)(pins:List (Addr×Obj))(s:Shared)(σ:St)(H:Hp)(E:Value->Shared->Prop),Inv X pins σ H s->(∀b∈fp,pV X pins H b)->tn i s.heap->J.stop i H ->
  wpAny (model P w) X.A (pyNext (.ref it)) (λr s1=>r=none/\Inv X pins σ H s1) E s
 self:∀(A:Around)(i:Nat)(s:Shared)(Q:Value->Shared->Prop)(E:Value->Shared->Prop),tn i s.heap->Q (.ref it) s->wpAny (model P w) A (pyIter (.ref it)) Q E s
abbrev TI:=St->Hp->(It->Hp->Prop)->Prop
def PIE(X:Cx)(pins:List (Addr×Obj))(σ:St)(tg:Expr)(R:It->Hp->Prop)(a:Value)(s2:Shared):Prop :=
 ∃(it:Addr)(fp:List Addr)(tn:Nat->Heap->Prop)(J:It)(H':Hp),a=.ref it/\Inv X pins σ H' s2/\Turn X.prog X.w X.K tg J fp it tn/\tn 0 s2.heap/\(∀b∈fp,pV X pins H' b)/\R J H'
def PI(X:Cx)(tg iter:Expr)(a:TI):Prop :=
 ∀(pins:List (Addr×Obj))(s:Shared)(σ:St)(H:Hp)(R:It->Hp->Prop),Inv X pins σ H s->a σ H R ->
  wpAny (model X.prog X.w) X.A (eval iter X.env) (λv b=>wpAny (model X.prog X.w) X.A (pyIter v) (PIE X pins σ tg R) X.xe b) X.xe s
theorem Eg{o:Obj}{n:String}{vs:Array Value}{Q:Unit->Shared->Prop}(b:s.heap.get? it=some o)(hc:o.cls=.type n)(hd:o.data=.fields vs)
    (hn:["enumerate", "zip", "dict_itemiterator", "dict_reverseitemiterator", "odict_iterator", "itertools.zip_longest", "itertools.pairwise"].contains n=false) (a:Q () s):wpAny M A (letOwnedTupleGo tg (.ref it) u) Q E s:=by
  unfold letOwnedTupleGo
  cases tg <;> first
    |exact wpAny_pure a
    | (cases u <;> first
        |exact wpAny_pure a
        | (refine wpAny_bind (wpAny_load b ?_)
           rw[hc,hd]
           show wpAny M A (if (["enumerate", "zip", "dict_itemiterator", "dict_reverseitemiterator", "odict_iterator", "itertools.zip_longest", "itertools.pairwise"].contains n&&vs[0]?==some (rawInt _))=true then _ else _) Q E s
           rw[if_neg (by intro h;rw[hn,Bool.false_and]at h;cases h)]
           exact wpAny_pure a))
def Itl(K:W.Frag)(a:Addr):It :=
 ⟨λi H=>∃xs x,SqL K H a xs/\xs[i]?=some x,λi H x H'=>H'=H/\∀xs,SqL K H a xs->xs[i]?=some x,λi H=>∃xs,SqL K H a xs/\xs.length<=i⟩
def Itt(K:W.Frag)(a:Addr):It :=
 ⟨λi H=>∃xs x,SqT K H a xs/\xs[i]?=some x,λi H x H'=>H'=H/\∀xs,SqT K H a xs->xs[i]?=some x,λi H=>∃xs,SqT K H a xs/\xs.length<=i⟩
def Itr(lo:Int)(n:Nat):It:=⟨λi _=>i<n,λi H x H'=>H'=H/\x=.int (lo+i),λi _=>n<=i⟩
theorem BJ(a it:Addr):Turn P w K tg (Itl K a) [it] it (λi h=>h.IsListIter it a i) where
 mem:=by simp
 obj:=λi h st b f=>by
  have e:b=it:=by simpa using f
  subst e;obtain⟨o,e,c,d⟩:=st;exact⟨o,e,λv z=>by rw[d]at z;cases z⟩
 keep:=λi h h' st k=>st.at λo e=>k it (by simp) o e
 item:=by
  intro X m hw hK hc i pins s σ H E I j st n;subst m hw hK;obtain⟨xs,x,l,q⟩:=n;obtain⟨r,y,p,F⟩:=I.list l;obtain⟨u,G,J⟩:=y.get q;obtain⟨A,f1,f2,B,C,D⟩:=j it (by simp);refine wpAny_pyNext_list_item st p.isList (x:=u) (by simpa using G) λh' g L=>?_
  have M:Inv X pins σ H { s with heap:=h' }:=I.turned (t':=s.toks) (λb o f e=>(L.2 b f).trans e) A f1 B C D;obtain⟨o,e,c,d⟩:=id g;exact⟨u,rfl,Eg (s:={ s with heap:=h' }) e c d (by decide) ⟨x,H,M,J,⟨rfl,λys N=>by rw[I.list_inj N l];exact q⟩,g,λb f=>(j b f).1⟩⟩
 done:=by intro X m hw hK hc i pins s σ H E I j st n;subst m hw hK;obtain⟨xs,l,q⟩:=n;obtain⟨r,y,p,F⟩:=I.list l;obtain⟨A,f1,f2,B,C,D⟩:=j it (by simp);have hl:=y.length;exact wpAny_pyNext_list_end (I.ok.hd hc) st p.isList (by simp;omega) λh' O=>⟨rfl,I.turned (t':=s.toks) (λb o f e=>O b o f e) A f1 B C D⟩
 self:=λ_ _ _ _ _ st h=>wpAny_pyIter_listiter st h
theorem zO(a it:Addr):Turn P w K tg (Itt K a) [it] it (λi h=>h.IsTupleIter it a i) where
 mem:=by simp
 obj:=λi h st b f=>by
  have e:b=it:=by simpa using f
  subst e;obtain⟨o,e,c,d⟩:=st;exact⟨o,e,λv z=>by rw[d]at z;cases z⟩
 keep:=λi h h' st k=>st.at λo e=>k it (by simp) o e
 item:=by
  intro X n hw hK hc i pins s σ H E I l st q;subst n hw hK;obtain⟨xs,x,m,r⟩:=q;obtain⟨g,y,p,F⟩:=I.tuple m;obtain⟨u,G,J⟩:=y.get r;obtain⟨A,f1,f2,B,C,D⟩:=l it (by simp);refine wpAny_pyNext_tuple_item st (show s.heap.IsTuple a g.toArray from p) (x:=u) (by simpa using G) λh' j L=>?_
  have M:Inv X pins σ H { s with heap:=h' }:=I.turned (t':=s.toks) (λb o f e=>(L.2 b f).trans e) A f1 B C D;obtain⟨o,e,c,d⟩:=id j;exact⟨u,rfl,Eg (s:={ s with heap:=h' }) e c d (by decide) ⟨x,H,M,J,⟨rfl,λys N=>by rw[I.tuple_inj N m];exact r⟩,j,λb f=>(l b f).1⟩⟩
 done:=by intro X n hw hK hc i pins s σ H E I l st q;subst n hw hK;obtain⟨xs,m,r⟩:=q;obtain⟨g,y,p,F⟩:=I.tuple m;obtain⟨A,f1,f2,B,C,D⟩:=l it (by simp);have hl:=y.length;exact wpAny_pyNext_tuple_end (I.ok.hd hc) st (show s.heap.IsTuple a g.toArray from p) (by simp;omega) λh' O=>⟨rfl,I.turned (t':=s.toks) (λb o f e=>O b o f e) A f1 B C D⟩
 self:=λ_ _ _ _ _ st h=>wpAny_pyIter_tupleiter st h
theorem zt(it:Addr)(lo:Int)(n:Nat):Turn P w K tg (Itr lo n) [it] it (λi h=>IsRangeIter h it (lo+(i:Nat)*1) ((n:Int)-(i:Nat)) 1) where
 mem:=by simp
 obj:=λi h st b a=>by
  have e:b=it:=by simpa using a
  subst e;exact⟨_,st,λv z=>by have r:Data.fields _=Data.cell v:=z;cases r⟩
 keep:=λi h h' st k=>k it (by simp) _ st
 item:=by
  intro X g hw hK hc i pins s σ H E I f st j;subst g hw hK;obtain⟨l,f1,f2,m,p,q⟩:=f it (by simp);have W:=Walks.range (prog:=X.prog) (w:=X.w) (I.ok.hd hc) it lo 1 n;refine W.item i s _ _ j st λv h' tk u c x=>?_
  obtain⟨t,rfl⟩:=u;have y:Inv X pins σ H { s with heap:=h',toks:=tk }:=I.turned (λb o a e=>x b o (by simpa using a) e) l f1 m p q;refine⟨_,rfl,Eg (s:={ s with heap:=h',toks:=tk }) (n:="range_iterator") c rfl rfl (by decide) ⟨.int (lo+i),H,y,⟨t,?_⟩,⟨rfl,rfl⟩,c,λb a=>(f b a).1⟩⟩;rw[Int.mul_one]
 done:=by intro X g hw hK hc i pins s σ H E I f st j;subst g hw hK;obtain⟨l,f1,f2,m,p,q⟩:=f it (by simp);exact wpAny_pyNext_range_end (I.ok.hd hc) st (by have:n<=i:=j;omega) λh' A=>⟨rfl,I.turned (t':=s.toks) (λb o a e=>A b o a e) l f1 m p q⟩
 self:=λ_ _ _ _ _ st h=>wpAny_pyIter_rangeiter st h
section
def LC(K:W.Frag)(tl:TE):TI:=λσ H R=>tl σ H λx H1=>∃a,x=.ref a/\(∃xs,SqL K H1 a xs)/\R (Itl K a) H1
def MX(K:W.Frag)(tl:TE):TI:=λσ H R=>tl σ H λx H1=>∃a,x=.ref a/\(∃xs,SqT K H1 a xs)/\R (Itt K a) H1
theorem Gh{l:Expr}{tl:TE}(hl:PE X l tl):PI X tg l (LC X.K tl):=by
 intro pins s σ H R I h;refine thn (hl pins s σ H _ I h) λv c g=>?_
 obtain⟨x,H1,f,i,j⟩:=g;obtain⟨a,e,⟨xs,m⟩,q⟩:=j;subst e;cases i;obtain⟨its,rv,p,hz⟩:=f.list m;refine wpAny_pyIter_list p.isList ?_;refine⟨c.heap.objs.size,[c.heap.objs.size],_,_,H1,rfl,f.kept (t':=c.toks) λb o e=>N2 _ e,BJ a _,⟨_,NB _ rfl,rfl,rfl⟩,λb n=>?_,q⟩;have e:b=c.heap.objs.size:=by simpa using n
 subst e;exact f.fpOk (N6 _) (f.hok.fresh (N6 _))
theorem Kp{l:Expr}{tl:TE}(hl:PE X l tl):PI X tg l (MX X.K tl):=by
 intro pins s σ H R I h;refine thn (hl pins s σ H _ I h) λv c g=>?_
 obtain⟨x,H1,f,j,m⟩:=g;obtain⟨a,e,⟨xs,n⟩,q⟩:=m;subst e;cases j;obtain⟨i,rv,p,hz⟩:=f.tuple n;refine wpAny_pyIter_tuple (show c.heap.IsTuple a i.toArray from p) ?_;refine⟨c.heap.objs.size,[c.heap.objs.size],_,_,H1,rfl,f.kept (t':=c.toks) λb o e=>N2 _ e,zO a _,⟨_,NB _ rfl,rfl,rfl⟩,λb r=>?_,q⟩;have e:b=c.heap.objs.size:=by simpa using r
 subst e;exact f.fpOk (N6 _) (f.hok.fresh (N6 _))
theorem Fp{R:It->Hp->Prop}{lo hi:Int}{t u v:Tok}{tk:Nat}(I:Inv X pins σ H s)(h1:-(2 ^ 62)<=lo)(h2:lo<2 ^ 62)(c:-(2 ^ 62)<=hi)(f:hi<2 ^ 62)
  (q:R (Itr lo (hi-lo).toNat) H):wpAny (model X.prog X.w) X.A (pyIter (.ref s.heap.objs.size)) (PIE X pins σ tg R) E { s with heap:=s.heap.push { cls:=.type "range",data:=.fields #[.int lo t,.int hi u,.int 1 v] },toks:=tk }:=by
 refine wpAny_pyIter_range (IsRange.new ..) (small_one h1 h2 c f) ?_;have a:Inv X pins σ H { s with heap:=s.heap.push { cls:=.type "range",data:=.fields #[.int lo t,.int hi u,.int 1 v] },toks:=tk }:=I.kept λb o e=>N2 _ e
 refine⟨(s.heap.push { cls:=.type "range",data:=.fields #[.int lo t,.int hi u,.int 1 v] }).objs.size,[(s.heap.push { cls:=.type "range",data:=.fields #[.int lo t,.int hi u,.int 1 v] }).objs.size],_,_,H,rfl,
  a.kept (t':=tk) λb o e=>N2 _ e,zt _ lo (hi-lo).toNat,?_,λb g=>?_,q⟩
 ·have e1:lo+((0:Nat):Int)*1=lo:=by simp
  have e2:(((hi-lo).toNat:Nat):Int)-((0:Nat):Int)=Builtin.Range.rangeSize lo hi 1:=by rw[rangeSize_one];split <;> omega
  show IsRangeIter _ _ (lo+((0:Nat):Int)*1) ((((hi-lo).toNat:Nat):Int)-((0:Nat):Int)) 1;rw[e1,e2];exact NB _ rfl
 ·have e:b=(s.heap.push { cls:=.type "range",data:=.fields #[.int lo t,.int hi u,.int 1 v] }).objs.size:=by simpa using g
  subst e;exact a.fpOk (N6 _) (a.hok.fresh (N6 _))
def L6(ta:TA):TI:=λσ H R=>ta σ H λvs H1=>∃j:Int,vs=[.int j]/\-(2 ^ 62)<=j/\j<2 ^ 62/\R (Itr 0 j.toNat) H1
theorem Bs{a:Expr}{ta:TA}(f:Gl X "range")(hm:X.mg "range"=none)(ha:PA X [a] ta)(g:starEach [a] X.env=[(false,eval a X.env)]:=by rfl):PI X tg (.Call (.Name "range" p) [a] [] pos) (L6 ta):=by
 intro pins s σ H R I h;refine Call_ (fz I f hm boot_range (PyProof.Rows.callWith_type1 (thn (ha pos pins s σ H _ I h) λus s1 b=>?_) g rfl));obtain⟨vs,H1,i,l,c⟩:=b;obtain⟨j,e,c,m,q⟩:=c;subst e;cases l with
 |cons r rr =>cases rr;obtain⟨t,rfl⟩:=r;exact call_range_1 (Fp i (by omega) (by omega) c m (by simpa using q))
def Np(e:TI)(g:TG)(tb:TS):TS:=λD σ H=>e σ H λJ H1=>∃W:Nat->Nat->St->Hp->Prop,(∃m,W 0 m σ H1)/\∀i m σ H,W i m σ H ->
 (J.stop i H/\D.nx σ H)\/(J.go i H/\∃N:St->Hp->Prop,(∀a H',N a H'->∃c,c < m/\W (i+1) c a H')/\∀x H',J.yld i H x H'->g x σ H' λb H2=>tb { D with nx:=N,ct:=N,bk:=D.nx } b H2)
def qb(fp:List Addr)(h:Heap):List (Addr×Obj):=fp.filterMap λb=>(h.get? b).map λo=>(b,o)
theorem je{o:Obj}(a:b∈fp)(e:h.get? b=some o):(b,o)∈qb fp h:=PJ.mpr ⟨b,a,by rw[e];rfl⟩
theorem CH{p:Addr×Obj}(a:p∈qb fp h):p.1∈fp/\h.get? p.1=some p.2:=by
 obtain⟨b,c,e⟩:=PJ.mp a;cases q:h.get? b with
 |none=>rw[q]at e;cases e
 |some o =>rw[q]at e;have f:(b,o)=p:=Option.some.inj e;subst f;exact⟨c,q⟩
theorem Inv.pinned(I:Inv X pins σ H s)(f:∀b∈fp,pV X pins H b)(g:∀b∈fp,∃o,s.heap.get? b=some o/\∀v,o.data≠.cell v):Inv X (pins++qb fp s.heap) σ H s :=
 I.pins_of λp h=>(NY.mp h).elim (λz=>I.pin p (N8 _ z)) λz=>by obtain⟨a,e⟩:=CH z;obtain⟨i,f1,f2,_⟩:=f p.1 a;obtain⟨o,c,d⟩:=g p.1 a;rw[e]at c;cases c;exact⟨e,i,f1,f2,d⟩
theorem Inv.unpinned{pl:List (Addr×Obj)}(I:Inv X (pins++pl) σ H s):Inv X pins σ H s:=I.pins_of λp a=>I.pin p (N8 _ (O4 _ a))
theorem Ln{U:TI}{g:TG}{tb:TS}(E:PassesOwn (model X.prog X.w) X.A X.env X.xe)(hc:X.calm=true)(hi:PI X tg iter U)(hg:PG X tg g)(j:PSs X body tb)
  (hs:∀x,foldedSetIterable iter X.env x=pure x:=by intro _;rfl):PS X (.For tg iter body [] pos) (Np U g tb):=by
 intro pins s σ H D I h;refine wpAny_For (thn (hi pins s σ H _ I h) λv s1 h1=>thn h1 λitv s2 h2=>?_) hs;obtain⟨it,fp,tn,J,H2,e,I2,T,M,f2,W,⟨m0,w0⟩,turn⟩:=h2;subst e
 -- what stays true of the iterator's objects through the loop
 have l:∀{H':Hp},(∀b∈fp,H' b=none)->∀b∈fp,pV X pins H' b:=λhn b j=>⟨hn b j,(f2 b j).2⟩
 refine codeAny_forLoop_any (λn s'=>∃i p H',Inv X pins p H' s'/\tn i s'.heap/\(∀b∈fp,H' b=none)/\W i n p H') ?_ m0 ⟨0,σ,H2,I2,M,λb j=>(f2 b j).1,w0⟩
 rintro n Y ⟨i,q,L,Z,F,G,w3⟩
 rcases turn i n q L w3 with⟨stop,qn⟩|⟨go,N,hN,step⟩
 ·refine wpAny_passesOwn E (thn (T.done X rfl rfl rfl hc i pins Y q L X.xe Z (l G) F stop) λr s4 c=>?_);obtain⟨O,I4⟩:=c;subst O;exact wpAny_execs_nil ⟨q,L,I4,qn⟩
 ·refine wpAny_passesOwn E (thn (T.item X rfl rfl rfl hc i pins Y q L X.xe Z (l G) F go) λr s4 c=>?_);obtain⟨u,O,h4⟩:=c;subst O;refine wpAny_passesOwn E (thn h4 λ_ s5 c=>?_);obtain⟨x,H5,I5,r5,y5,C,P⟩:=c;have Q:=I5.pinned (l P) (T.obj _ _ C);refine wpAny_passesOwn E (thn (hg _ s5 q H5 x u _ Q r5 (step x H5 y5)) λ_ s6 c=>?_);obtain⟨R,H6,I6,q6⟩:=c;refine wpAny_passesOwn E (thn (j _ s6 R H6 _ I6 q6) λf S B=>?_);have again:∀{a:St}{y:Hp},Inv X (pins++qb fp s5.heap) a y S->N a y->∃m,m<n/\∃i p H',Inv X pins p H' S/\tn i S.heap/\(∀b∈fp,H' b=none)/\W i m p H':=λ{a y} z K=>by obtain⟨m',hm,w7⟩:=hN a y K;refine⟨m',hm,i+1,a,y,z.unpinned,T.keep _ _ _ C λb j o e=>(z.pin (b,o) (N8 _ (N8 _ (je j e)))).1,λb j=>?_,w7⟩;obtain⟨o,e,d⟩:=T.obj _ _ C b j;exact (z.pin (b,o) (N8 _ (N8 _ (je j e)))).2.1
  cases f with
  |next=>obtain⟨a,y,z,K⟩:=B;exact again z K
  |cont=>obtain⟨a,y,z,K⟩:=B;exact again z K
  |brk=>obtain⟨a,y,z,B⟩:=B;exact⟨a,y,z.unpinned,B⟩
  |ret v=>obtain⟨x7,a,y,z,r7,B⟩:=B;exact⟨x7,a,y,z.unpinned,r7,B⟩
end
abbrev R2:=V->V->Hp->VK->Prop
variable {r:R2}
def OpR(X:Cx)(f:Value->Value->Sem Value)(r:R2):Prop :=
 ∀(pins:List (Addr×Obj))(s:Shared)(σ:St)(H:Hp)(x y:V)(v u:Value)(Q:VK),Inv X pins σ H s->RelV x v->RelV y u->r x y H Q ->
  wpAny (model X.prog X.w) X.A (f v u) (EP X pins σ Q) X.xe s
def UnR(X:Cx)(f:Value->Sem Value)(r:V->Hp->VK->Prop):Prop :=
 ∀(pins:List (Addr×Obj))(s:Shared)(σ:St)(H:Hp)(x:V)(v:Value)(Q:VK),Inv X pins σ H s->RelV x v->r x H Q ->
  wpAny (model X.prog X.w) X.A (f v) (EP X pins σ Q) X.xe s
def j8(X:Cx)(f:Value)(r:List V->Hp->VK->Prop):Prop :=
 ∀(pins:List (Addr×Obj))(s:Shared)(σ:St)(H:Hp)(xs:List V)(us:List Value)(Q:VK),Inv X pins σ H s->Vals xs us->r xs H Q ->
  wpAny (model X.prog X.w) X.A (call f us) (EP X pins σ Q) X.xe s
def tOp(r:R2)(ta tb:TE):TE:=λσ H Q=>ta σ H λx H1=>tb σ H1 λy H2=>r x y H2 Q
def tUn(r:V->Hp->VK->Prop)(ta:TE):TE:=λσ H Q=>ta σ H λx H1=>r x H1 Q
def rI(C:Int->Int->Prop)(g:Int->Int->V):R2:=λx y H Q=>∃i j,x=.int i/\y=.int j/\C i j/\Q (g i j) H
def rI0(g:Int->Int->V):R2:=λx y H Q=>∃i j,x=.int i/\y=.int j/\Q (g i j) H
def rU(g:Int->V):V->Hp->VK->Prop:=λx H Q=>∃i,x=.int i/\Q (g i) H
section
variable {a b:Expr}{ta tb tc:TE}
theorem J9(ha:PE X a ta)(i:PE X b tb)(I:Inv X pins σ H s)
  (h:ta σ H λx H1=>tb σ H1 λy H2=>R x y H2) {f:Value->Value->Sem Value}
  (j:∀v u s2 x y H2,Inv X pins σ H2 s2->RelV x v->RelV y u->R x y H2->wpAny (model X.prog X.w) X.A (f v u) Q X.xe s2) :
  wpAny (model X.prog X.w) X.A (eval a X.env) (λv e=>wpAny (model X.prog X.w) X.A (eval b X.env) (λu g=>wpAny (model X.prog X.w) X.A (f v u) Q X.xe g) X.xe e) X.xe s:=by
 refine thn (ha pins s σ H _ I h) λv l c=>?_
 obtain⟨x,H1,m,n,o⟩:=c;refine thn (i pins l σ H1 _ m o) λu s2 c=>?_
 obtain⟨y,H2,p,q,r⟩:=c;exact j v u s2 x y H2 p n q r
theorem fA{op:Operator}(c:OpR X (binaryOp op) r)(ha:PE X a ta)(e:PE X b tb):PE X (.BinOp a op b pos) (tOp r ta tb):=by intro pins s σ H Q I h;exact wpAny_BinOp (J9 ha e I h λv u s2 x y H2 f g i q=>c pins s2 σ H2 x y v u Q f g i q)
theorem Mg{op:UnaryOp}{r:V->Hp->VK->Prop}(c:UnR X (unaryOp op) r)(ha:PE X a ta):PE X (.UnaryOp op a pos) (tUn r ta):=by intro pins s σ H Q I h;exact UnaryOp_ (thn (ha pins s σ H _ I h) λv e b=>(by obtain⟨x,H1,f,g,i⟩:=b;exact c pins e σ H1 x v Q f g i))
theorem opI{f:Value->Value->Sem Value}{C:Int->Int->Prop}
  (rule:∀(i j:Int)(t u:Tok)(s:Shared)(Q:Value->Shared->Prop)(E:Value->Shared->Prop),C i j->Q (.int (g i j) s.toks) { s with toks:=s.toks+1 }->wpAny (model X.prog X.w) X.A (f (.int i t) (.int j u)) Q E s) :
  OpR X f (rI C λi j=>.int (g i j)):=by
 intro pins s σ H x y v u Q I a b h;obtain⟨i,j,rfl,rfl,hc,q⟩:=h;obtain⟨t,rfl⟩:=a;obtain⟨t',rfl⟩:=b;exact rule i j t t' s _ _ hc ⟨.int (g i j),H,I.tok _,⟨_,rfl⟩,q⟩
theorem Ly{f:Value->Value->Sem Value}
  (rule:∀(i j:Int)(t u:Tok)(s:Shared)(Q:Value->Shared->Prop)(E:Value->Shared->Prop),Q (.int (g i j) s.toks) { s with toks:=s.toks+1 }->wpAny (model X.prog X.w) X.A (f (.int i t) (.int j u)) Q E s) :
  OpR X f (rI0 λi j=>.int (g i j)):=by
 intro pins s σ H x y v u Q I a b h;obtain⟨i,j,rfl,rfl,q⟩:=h;obtain⟨t,rfl⟩:=a;obtain⟨t',rfl⟩:=b;exact rule i j t t' s _ _ ⟨.int (g i j),H,I.tok _,⟨_,rfl⟩,q⟩
theorem KN{f:Value->Value->Sem Value}{g:Int->Int->Bool}
  (rule:∀(i j:Int)(t u:Tok)(s:Shared)(Q:Value->Shared->Prop)(E:Value->Shared->Prop),Q (.bool (g i j)) s->wpAny (model X.prog X.w) X.A (f (.int i t) (.int j u)) Q E s) :
  OpR X f (rI0 λi j=>.bl (g i j)):=by
 intro pins s σ H x y v u Q I a b h;obtain⟨i,j,rfl,rfl,q⟩:=h;obtain⟨t,rfl⟩:=a;obtain⟨t',rfl⟩:=b;exact rule i j t t' s _ _ ⟨.bl (g i j),H,I,rfl,q⟩
def Lv(i j:Int):Prop:=0<j/\j<1073741824
def Ga(i j:Int):Prop:=(-(2 ^ 64)<i/\i<2 ^ 64)\/(-(2 ^ 64)<j/\j<2 ^ 64)
theorem Ga.ok{i j:Int}(h:Ga i j):IntMulOk i j:=by
 rcases h with⟨h1,h2⟩|⟨h1,h2⟩
 ·exact .of_left (intBits_le_64 h1 h2)
 ·exact .of_right (intBits_le_64 h1 h2)
theorem ng:OpR X (binaryOp .Add) (rI0 λi j=>.int (i+j)):=Ly λ_ _ _ _ _ _ _ q=>add_int q
theorem JY:OpR X (binaryOp .Sub) (rI0 λi j=>.int (i-j)):=Ly λ_ _ _ _ _ _ _ q=>sub_int q
theorem nJ:OpR X (binaryOp .Mult) (rI Ga λi j=>.int (i*j)):=opI λ_ _ _ _ _ _ _ hc q=>mul_int q hc.ok
theorem GG:OpR X (binaryOp .FloorDiv) (rI Lv λi j=>.int (i / j)):=opI λi j _ _ _ _ _ hc q=>by have h1:(0:Int)<j:=hc.1;have h2:j<1073741824:=hc.2;exact floordiv_int (by omega) (by rw[Int.fdiv_eq_ediv_of_nonneg i (by omega)];exact q) (.inl (PyProof.noPylong_small (by omega)))
theorem rF:OpR X (binaryOp .Mod) (rI (λ_ j=>0<j) λi j=>.int (i % j)):=opI λi j _ _ _ _ _ hc q=>by have h1:(0:Int)<j:=hc;exact mod_int' (by omega) (by rw[Int.fmod_eq_emod_of_nonneg i (by omega)];exact q)
theorem unI{f:Value->Sem Value}{g:Int->Int}
  (rule:∀(i:Int)(t:Tok)(s:Shared)(Q:Value->Shared->Prop)(E:Value->Shared->Prop),Q (.int (g i) s.toks) { s with toks:=s.toks+1 }->wpAny (model X.prog X.w) X.A (f (.int i t)) Q E s) :
  UnR X f (rU λi=>.int (g i)):=by
 intro pins s σ H x v Q I a h;obtain⟨i,rfl,q⟩:=h;obtain⟨t,rfl⟩:=a;exact rule i t s _ _ ⟨.int (g i),H,I.tok _,⟨_,rfl⟩,q⟩
theorem KH:UnR X (unaryOp .USub) (rU λi=>.int (-i)):=unI λ_ _ _ _ _ q=>neg_int q
end
section
variable {a b:Expr}{ta tb tc:TE}
theorem FW:OpR X (compareOp .Lt) (rI0 λi j=>.bl (decide (i<j))):=KN λ_ _ _ _ _ _ _ q=>lt_int q
theorem AS:OpR X (compareOp .LtE) (rI0 λi j=>.bl (decide (i<=j))):=KN λ_ _ _ _ _ _ _ q=>le_int q
theorem L5:OpR X (compareOp .Gt) (rI0 λi j=>.bl (decide (j<i))):=KN λ_ _ _ _ _ _ _ q=>gt_int q
theorem OpR.or{f:Value->Value->Sem Value}{a:R2}(h:OpR X f r)(h':OpR X f a):OpR X f (λx y H Q=>r x y H Q\/a x y H Q):=by
 intro pins s σ H x y v u Q I b c q;rcases q with q|q
 ·exact h pins s σ H x y v u Q I b c q
 ·exact h' pins s σ H x y v u Q I b c q
theorem jr(b:Expr)(h:op≠.In:=by decide)(h2:op≠.NotIn:=by decide):behindInMarks op b=false:=by
 have e1:(op==CmpOp.In)=false:=by cases op <;> first|rfl|exact absurd rfl h
 have e2:(op==CmpOp.NotIn)=false:=by cases op <;> first|rfl|exact absurd rfl h2
 cases b <;> simp[behindInMarks,e1,e2]
theorem oS(c:OpR X (compareOp op) r)(ha:PE X a ta)(e:PE X b tb)(hm:behindInMarks op b=false):PE X (.Compare a [op] [b] pos) (tOp r ta tb):=by intro pins s σ H Q I h;exact wpAny_Compare1 (J9 ha e I h λv u s2 x y H2 f g i q=>c pins s2 σ H2 x y v u Q f g i q) hm
def IF(t:TE):TT:=λσ H Q=>t σ H λx H'=>∃k,x=.bl k/\Q k H'
theorem kF(g:OpR X (compareOp op) r)(ha:PE X a ta)(i:PE X b tb)(hm:behindInMarks op b=false):PT X (.Compare a [op] [b] pos) (IF (tOp r ta tb)):=by
 intro pins s σ H Q I h;refine wpAny_isTrue_Compare1 (thn (ha pins s σ H _ I h) λv j f=>?_) hm;obtain⟨x,H1,l,m,n⟩:=f;refine thn (i pins j σ H1 _ l n) λu s2 f=>?_
 obtain⟨y,H2,o,p,q⟩:=f;refine thn (g pins s2 σ H2 x y v u _ o m p q) λc s3 f=>?_
 obtain⟨z,w,A,B,k,e,C⟩:=f;subst e;cases B;exact wpAny_truthy_bool ⟨w,A,C⟩
def J6(r b:R2)(ta tb tc:TE):TE:=λσ H Q=>ta σ H λx H1=>tb σ H1 λy H2=>r x y H2 λz a=>∃k,z=.bl k /\
 (if k=true then tc σ a λc e=>b y c e Q else Q (.bl false) a)
theorem DZ{g:CmpOp}{l:R2}(q:OpR X (compareOp op) r)(i:OpR X (compareOp g) l)(ha:PE X a ta)(w:PE X b tb)(hc:PE X c tc)
  (hm:lastMarks [op,g] [b,c]=false:=by with_unfolding_all rfl):PE X (.Compare a [op,g] [b,c] pos) (J6 r l ta tb tc):=by
 intro pins s σ H Q I h;refine Compare_chain (thn (ha pins s σ H _ I h) λv A f=>?_) hm;obtain⟨x,H1,B,C,D⟩:=f;refine chain_link (thn (w pins A σ H1 _ B D) λu s2 f=>?_);obtain⟨y,H2,E,m,F⟩:=f;refine thn (q pins s2 σ H2 x y v u _ E C m F) λd G f=>?_
 obtain⟨z,n,o,J,k,e,p⟩:=f;subst e;cases J;refine wpAny_truthy_bool ?_;cases k with
 |false=>exact ite_ff ⟨.bl false,n,o,rfl,p⟩
 |true=>exact ite_tt (chain_last (thn (hc pins G σ n _ o p) λK L j=>(by obtain⟨M,N,O,P,R⟩:=j;exact i pins L σ N y M u K Q O m P R)))
theorem uO:(sizeLine:Nat)<2 ^ 63:=by rw[sizeLine_eq];decide
theorem vals1{x:V}(r:Vals [x] us):∃u,us=[u]/\RelV x u:=by
 cases r with
 |cons r1 r2=>cases r2;exact⟨_,rfl,r1⟩
theorem vals2{x y:V}(r:Vals [x,y] us):∃u a,us=[u,a]/\RelV x u/\RelV y a:=by
 cases r with
 |cons r1 r2 =>
  cases r2 with
  |cons r3 r4=>cases r4;exact⟨_,_,rfl,r1,r3⟩
theorem CI(hc:X.calm=true):j8 X (.builtin "min") (λxs H Q=>∃i j,xs=[.int i,.int j]/\Q (.int (if j<i then j else i)) H):=by
 intro pins s σ H xs us Q I r h;obtain⟨i,j,rfl,q⟩:=h;obtain⟨u,w',rfl,⟨t,rfl⟩,⟨t',rfl⟩⟩:=vals2 r;refine min_two_ints (I.ok.hd hc) λh' tk k=>⟨_,H,I.kept k,?_,q⟩
 by_cases hj:j<i
 ·rw[if_pos hj,if_pos hj];exact⟨_,rfl⟩
 ·rw[if_neg hj,if_neg hj];exact⟨_,rfl⟩
theorem BC:j8 X (.type "int") (λxs H Q=>(∃i,xs=[.int i]/\Q (.int i) H)\/∃k,xs=[.bl k]/\Q (.int (if k then 1 else 0)) H):=by
 intro pins s σ H xs us Q I r h;rcases h with⟨i,rfl,q⟩|⟨k,rfl,q⟩
 ·obtain⟨u,rfl,t,rfl⟩:=vals1 r;exact call_int_int ⟨.int i,H,I,⟨_,rfl⟩,q⟩
 ·obtain⟨u,rfl,a⟩:=vals1 r;cases a;exact call_int_bool ⟨.int (if k then 1 else 0),H,I.tok _,⟨_,rfl⟩,q⟩
end
structure yu(h:Heap)(x dx C:Addr)(mA:Str->Option Value):Prop where
 obj:h.get? x=some (W.instObj C dx)
 ns:h.Ns1 dx mA
 ne:dx≠x
theorem BH(n:h.Ns1 dx mA):∃od,h.get? dx=some od/\∀name,W.lookIn name od=some (mA name):=by
 obtain⟨o,es,ep,c,hd,f,_,hm⟩:=n;refine⟨o,c,λname=>?_⟩;have e:=hm name;unfold nsFind findBy at e;rw[<-Array.find?_toList]at e;unfold W.lookIn;rw[hd];dsimp only;split
 ·rename_i y q;rw[q]at e;exact congrArg some e
 ·rename_i q;rw[q]at e;have a:es.toList.any (·.refKey)=false:=by rw[List.any_eq_false];intro y g;obtain⟨z,t,b⟩:=f y (Array.mem_toList_iff.mp g);simp[DictEntry.refKey,b]
  have i:¬ es.toList.any (·.refKey)=true:=by rw[a];exact NO
  rw[if_neg i];exact congrArg some e
theorem yu.look{x:Addr}(I:yu h x dx C mA):∃od,W.InstAt h x (W.instObj C dx) C (some od)/\∀name,W.lookIn name od=some (mA name) :=
 let ⟨od,ho,hl⟩:=BH I.ns
 ⟨od,⟨I.obj,rfl,rfl,ho⟩,hl⟩
section
variable {x:Addr}{name:Str}{v:Value}
theorem get_map{expr:Bool}(X:K.In s.heap)(I:yu s.heap x dx C mA)(b:W.plainGet K C name=true)(c:W.hasDictIn K C=true)
  (ha:W.findIn K (.ref C) name=some none) (e:mA name=some v) (a:W.handedIn v=true) (h:Q v { s with toks:=s.toks+1 }) :
  wpAny (model prog w) A (getAttr (.ref x) name expr) Q E s:=by
 obtain⟨od,J,hl⟩:=I.look;exact W.get_value X J (W.plainGet_of b).1 (W.findObj_own c ha rfl (by rw[hl,e])) a h
theorem Fe{pl:Sem Bool}{Q:Value×List Value->Shared->Prop}(X:K.In s.heap)(I:yu s.heap x dx C mA)(a:W.plainGet K C name=true)
  (b:W.findIn K (.ref C) name=some (some (.ref f))) (c:W.isFn K (.ref f)=true) (e:mA name=none) (h:Q (.ref f,[.ref x]) s) :
  wpAny (model prog w) A (getMethod (.ref x) name pl) Q E s:=by
 obtain⟨od,J,hl⟩:=I.look;exact W.method_fn X J (W.plainGet_of a).1 (W.plainGet_of a).2 b (beq_iff_eq.mp c) (by show (W.lookIn name od).map (·.isSome)=some false;rw[hl,e];rfl) h
theorem HC{ns:List Str}{Q:Unit->Shared->Prop}(X:K.In s.heap)(I:yu s.heap x dx C mA)
  (j:W.findIn K (.ref C) "__setattr__"=some (some (.builtin "object.__setattr__"))) (l:W.plainOver K C=true) (m:W.takerIn K C name=some none) (n:W.hasDictIn K C=true)
  (hw:PySem.Within mA ns) (hsz:ns.length<=sizeLine)
  (h:∀h',yu h' x dx C (λy=>if y=name then some v else mA y)->Heap.SameBut dx s.heap h'->Q () { s with heap:=h',toks:=s.toks+2 }) :
  wpAny (model prog w) A (setAttr (.ref x) name v) Q E s:=by
 obtain⟨od,J,hl⟩:=I.look;refine W.set_plain X J j (W.osa_open (s:={ s with toks:=s.toks+1 }) (r:=none) X J l m λb=>?_);obtain⟨cd,hc,f⟩:=W.any_some n;have o:s.heap.get? x=some ⟨.ref C,some dx,.plain,#[]⟩:=I.obj;refine wpAny_bind (wpAny_pure (wpAny_bind (wpAny_bind (wpAny_loadPart o (wpAny_bind (W.Looks.here (s:={ s with toks:=s.toks+1 }) (W.looks_clsIn X hc) ?_))))));rw[f];refine wpAny_pure (a:=some dx) (wpAny_bind (wpAny_pure (wpAny_bind ?_)));refine wpAny_nsSet1 (s:={ s with toks:=s.toks+1 }) I.ns λh' c e=>?_
 obtain⟨oD,esD,epD,g,hdD,i⟩:=c.count (PySem.Within.cons name v hw);refine wpAny_bind (wpAny_lookBehind g (by rw[hdD];exact pastItsLine_dict (Oo i (by rw[NJ];omega))) ?_);exact wpAny_pure (h _ ⟨(e.2 _ (Ne.symm I.ne)).trans I.obj,c,I.ne⟩ e)
theorem D5{R:Result->Shared->Prop}{vs:List Value}{a:List (Str×Value)}(X:K.In s.heap)(hm:W.makesIn K C=true)
  (hi:W.findIn K (.ref C) "__init__"=some (some (.ref f))) (b:W.typeIn K (.ref f)=some (.type "function"))
  (h:codeAny (model prog w) (A.under (.builtin "type.__call__" ⟨.ref C::vs,a⟩)) (.call (.ref f) ⟨.ref (s.heap.objs.size+1)::vs,a⟩) (W.InitBack (s.heap.objs.size+1) R)
   { s with heap:=(s.heap.push W.emptyDict).push (W.instObj C s.heap.objs.size) }) :
  codeAny (model prog w) A (.call (.ref C) ⟨vs,a⟩) R s:=by
 obtain⟨hh,g,d,t,os⟩:=s;exact W.make_core (W.makes_of X hm) (W.looks_findIn X hi) (λself=>W.bind_fn X self b) (.inl rfl) h
end
def iG(f:Str)(v:V):List (Str×V)->List (Str×V)
 |[]=>[(f,v)]
 |(g,x)::r=>if g=f then (g,v)::r else (g,x)::iG f v r
theorem jW(f g:Str)(v:V):∀fs:List (Str×V),(iG f v fs).lookup g=if g=f then some v else fs.lookup g
 |[]=>by
  show List.lookup g [(f,v)]=_;by_cases h:g=f
  ·have a:(g==f)=true:=beq_iff_eq.mpr h;simp only[List.lookup,a,if_pos h]
  ·have a:(g==f)=false:=beq_eq_false_iff_ne.mpr h;simp only[List.lookup,a,if_neg h]
 |(k,x)::r=>by
  have b:=jW f g v r;rw[show iG f v ((k,x)::r)=(if k=f then (k,v)::r else (k,x)::iG f v r) from rfl];by_cases hk:k=f
  ·rw[if_pos hk];by_cases h:g=k
   ·have a:(g==k)=true:=beq_iff_eq.mpr h;simp only[List.lookup,a,if_pos (h.trans hk)]
   ·have a:(g==k)=false:=beq_eq_false_iff_ne.mpr h;simp only[List.lookup,a,if_neg (λe:g=f=>h (e.trans hk.symm))]
  ·rw[if_neg hk];by_cases h:g=k
   ·have a:(g==k)=true:=beq_iff_eq.mpr h;simp only[List.lookup,a,if_neg (λe:g=f=>hk (h.symm.trans e))]
   ·have a:(g==k)=false:=beq_eq_false_iff_ne.mpr h;simp only[List.lookup,a];exact b
theorem nC(f:Str)(v:V):∀fs:List (Str×V),f∈(iG f v fs).map (·.1)/\∀g,g∈fs.map (·.1)->g∈(iG f v fs).map (·.1)
 |[]=>⟨by simp[iG],λg h=>by simp at h⟩
 |(k,x)::r=>by
  obtain⟨i1,i2⟩:=nC f v r;rw[show iG f v ((k,x)::r)=(if k=f then (k,v)::r else (k,x)::iG f v r) from rfl];by_cases hk:k=f
  ·rw[if_pos hk];subst hk;exact⟨by simp,λg h=>by simpa using h⟩
  ·rw[if_neg hk];refine⟨?_,λg h=>?_⟩
   ·rw[N1];exact N0 _ i1
   ·rw[N1]at h ⊢;rcases N5.mp h with e|e
    ·exact N5.mpr (.inl e)
    ·exact N0 _ (i2 g e)
theorem n8(f:Str)(v:V):∀fs:List (Str×V),(iG f v fs).length<=fs.length+1
 |[]=>by simp[iG]
 |(k,x)::r=>by
  have ih:=n8 f v r;rw[show iG f v ((k,x)::r)=(if k=f then (k,v)::r else (k,x)::iG f v r) from rfl];by_cases hk:k=f
  ·rw[if_pos hk,NJ,NJ];omega
  ·rw[if_neg hk,NJ,NJ];omega
theorem jG.some_of{o:Option Value}(r:jG (some v) o):∃u,o=some u/\RelV v u:=by
 cases o with
 |none=>exact (show False from r).elim
 |some u=>exact⟨u,rfl,r⟩
theorem jG.none_of{o:Option Value}(r:jG none o):o=none:=by
 cases o with
 |none=>rfl
 |some u=>exact (show False from r).elim
theorem Bw(r:RelV v u):W.handedIn u=true:=by
 cases v with
 |non=>cases (show u=Value.none from r);rfl
 |bl b=>cases (show u=Value.bool b from r);rfl
 |int i=>obtain⟨t,e⟩:=(show ∃t,u=Value.int i t from r);cases e;rfl
 |str x=>obtain⟨t,e⟩:=(show ∃t,u=Value.str x t from r);cases e;rfl
 |byt b=>obtain⟨t,e⟩:=(show ∃t,u=Value.bytes b t from r);cases e;rfl
 |flt b=>obtain⟨t,e⟩:=(show ∃t,u=Value.float b t from r);cases e;rfl
 |ref a=>cases (show u=Value.ref a from r);rfl
 |ty n=>cases (show u=Value.type n from r);rfl
section
variable {H':Hp}{fs fs':List (Str×V)}
theorem uT(hok:HOk P w H h)(e:H a=some (.ins C dx fs)):∃mA,yu h a dx C mA/\(∀f,jG (fs.lookup f) (mA f))/\PySem.Within mA (fs.map (·.1))/\fs.length<=1000/\H dx=some (.own a):=by
 obtain⟨d,z,ne,b,mA,n,r,q⟩:=(show dr P w H h a (.ins C dx fs) from hok a _ e)
 exact⟨mA,⟨b,n,ne⟩,r,q,z,d⟩
end
structure Cls(K:W.Frag)(C:Addr):Prop where
 pg:W.plainGet K C Str.empty=true
 hd:W.hasDictIn K C=true
 po:W.plainOver K C=true
 sa:W.findIn K (.ref C) "__setattr__"=some (some (.builtin "object.__setattr__"))
theorem Cls.get(c:Cls K C)(f:Str):W.plainGet K C f=true:=c.pg
def e9(K:W.Frag)(C:Addr)(f:Str):Prop:=W.findIn K (.ref C) f=some none
theorem e9.taker{f:Str}(n:e9 K C f):W.takerIn K C f=some none:=by unfold W.takerIn;rw[show W.findIn K (.ref C) f=some none from n];rfl
structure Meth(K:W.Frag)(C:Addr)(m:Str)(f:Addr):Prop where
 at_:W.findIn K (.ref C) m=some (some (.ref f))
 fn:W.isFn K (.ref f)=true
 kp:W.keepIn K (.ref f)=true
section
variable {fs:List (Str×V)}{f:Str}
theorem qd{b:Bool}(I:Inv X pins σ H s)(e:H a=some (.ins C dx fs))(c:Cls X.K C)(n:e9 X.K C f)(l:fs.lookup f=some v)
  (h:∀u s',Inv X pins σ H s'->RelV v u->Q u s'):wpAny (model X.prog X.w) A (getAttr (.ref a) f b) Q E s:=by
 obtain⟨mA,O,r,_,_,_⟩:=uT I.hok e;obtain⟨u,i,g⟩:=jG.some_of (v:=v) (o:=mA f) (by rw[<-l];exact r f);exact get_map I.kIn O (c.get f) c.hd n i (Bw g) (h u _ (I.tok _) g)
theorem qL{m:Str}{g:Addr}{pl:Sem Bool}{Q:Value×List Value->Shared->Prop}(I:Inv X pins σ H s)(e:H a=some (.ins C dx fs))(c:Cls X.K C)(k:Meth X.K C m g)(l:fs.lookup m=none)
  (h:Q (.ref g,[.ref a]) s):wpAny (model X.prog X.w) A (getMethod (.ref a) m pl) Q E s:=by
 obtain⟨mA,O,r,_,_,_⟩:=uT I.hok e;have hn:mA m=none:=jG.none_of (by rw[<-l];exact r m);exact Fe I.kIn O (c.get m) k.at_ k.fn hn h
theorem pL{y:V}{Q:Unit->Shared->Prop}(I:Inv X pins σ H s)(e:H a=some (.ins C dx fs))(c:Cls X.K C)(n:e9 X.K C f)(hl:fs.length<1000)(m:RelV y u)
  (h:∀s',Inv X pins σ (upd H a (.ins C dx (iG f y fs))) s'->Q () s'):wpAny (model X.prog X.w) A (setAttr (.ref a) f u) Q E s:=by
 obtain⟨mA,O,r,j,_,l⟩:=uT I.hok e;have p:(fs.map (·.1)).length<=sizeLine:=by rw[N4,sizeLine_eq];omega
 refine HC I.kIn O c.sa c.po n.taker c.hd j p λh' i v=>h _ ?_
 have hd:∃o,h'.get? dx=some o:=let ⟨o,_,_,e',_⟩:=i.ns;⟨o,e'⟩;refine I.write (x:=a) (e:=dx) (by rw[e];exact True.intro) (.inr l) (λb q B z=>(v.2 b B).trans z) hd ?_;refine⟨by rw[az O.ne];exact l,?_,O.ne,i.obj,_,i.ns,λg=>?_,λg D=>?_⟩
 ·have:=n8 f y fs;omega
 ·show jG ((iG f y fs).lookup g) (if g=f then some u else mA g);rw[jW];by_cases q:g=f
  ·rw[if_pos q,if_pos q];exact m
  ·rw[if_neg q,if_neg q];exact r g
 ·by_cases q:g=f
  ·rw[q];exact (nC f y fs).1
  ·refine (nC f y fs).2 g (j g λz=>D ?_);show (if g=f then some u else mA g)=none;rw[if_neg q];exact z
theorem Inv.made(I:Inv X pins σ H s):Inv X pins σ (upd (upd H s.heap.objs.size (.own (s.heap.objs.size+1))) (s.heap.objs.size+1) (.ins C s.heap.objs.size []))
  { s with heap:=(s.heap.push W.emptyDict).push (W.instObj C s.heap.objs.size) }:=by
 have e1:(s.heap.push W.emptyDict).get? s.heap.objs.size=some W.emptyDict:=NB s.heap rfl;have e2:((s.heap.push W.emptyDict).push (W.instObj C s.heap.objs.size)).get? (s.heap.objs.size+1)=some (W.instObj C s.heap.objs.size):=by
  have:=NB (s.heap.push W.emptyDict) (o:=W.instObj C s.heap.objs.size) rfl
  rwa[Heap.size_push]at this
 have c:(s.heap.push W.emptyDict).Ns s.heap.objs.size (λ_=>none):=⟨W.emptyDict,#[],_,e1,rfl,(λe f=>absurd f (by simp)),λ_=>rfl⟩
 have g:=I.laid (a:=s.heap.objs.size) (o:=.own (s.heap.objs.size+1)) (h':=s.heap.push W.emptyDict) (t':=s.toks) (λb u q=>N2 _ q) (N6 _) ⟨_,e1⟩;refine g.laid (a:=s.heap.objs.size+1) (o:=.ins C s.heap.objs.size []) (t':=s.toks) (λb u q=>N2 _ q) (Nat.le_of_eq (Heap.size_push _ _)) ?_;have ne:s.heap.objs.size≠s.heap.objs.size+1:=ND (OH _);refine⟨by rw[az ne,aE],Oc _,ne,e2,λ_=>none,(Heap.Ns1.of_empty c).at λo q=>N2 _ q,λ_=>True.intro,λy h=>absurd rfl h⟩
theorem F7{f:Str}(b:attributeBase e f env (eval e env)=eval e env)
  (h:wpAny (model prog w) A (eval e env) (λo a=>wpAny (model prog w) A (getAttr o f true) Q E a) E s):wpAny (model prog w) A (eval (.Attribute e f pos) env) Q E s :=
 Attribute_any_ h (by rw[arm_eval_Attribute,b])
end
def MO(K:W.Frag)(ta:TE)(f:Str):TE:=λσ H Q=>ta σ H λx H1=>∃a C dx fs v,x=.ref a/\H1 a=some (.ins C dx fs)/\Cls K C/\e9 K C f/\fs.lookup f=some v/\Q v H1
def MY(K:W.Frag)(ta tv:TE)(f:Str):TS:=λD σ H=>tv σ H λy H1=>ta σ H1 λx H2=>∃a C dx fs,x=.ref a/\H2 a=some (.ins C dx fs)/\Cls K C/\e9 K C f/\fs.length<1000 /\
 D.nx σ (upd H2 a (.ins C dx (iG f y fs)))
def Me(X:Cx)(op:Operator)(a:V->V->Hp->VK->Prop):Prop :=
 ∀(pins:List (Addr×Obj))(s:Shared)(σ:St)(H:Hp)(x y:V)(u v:Value)(Q:VK),Inv X pins σ H s->RelV x u->RelV y v->a x y H Q->wpAny (model X.prog X.w) X.A (inplaceOp op u v) (EP X pins σ Q) X.xe s
def Gq(K:W.Frag)(ta tv:TE)(e:V->V->Hp->VK->Prop)(f:Str):TS:=λD σ H=>ta σ H λx H1=>∃a C dx fs v,x=.ref a/\H1 a=some (.ins C dx fs)/\Cls K C/\e9 K C f/\fs.lookup f=some v /\
 tv σ H1 λy H2=>e v y H2 λz c=>∃b fs',c a=some (.ins C b fs')/\fs'.length<1000/\D.nx σ (upd c a (.ins C b (iG f z fs')))
section
variable {o value:Expr}{f:Str}{tpos:Pos}{ta tv:TE}
theorem KQ(g:PE X e ta)(i:attributeBase e f X.env (eval e X.env)=eval e X.env):PE X (.Attribute e f pos) (MO X.K ta f):=by intro pins s σ H Q I h;refine F7 i (thn (g pins s σ H _ I h) λu s1 b=>?_);obtain⟨x,H1,j,m,a,C,dx,fs,v,ex,ea,c,n,l,q⟩:=b;subst ex;obtain rfl:u=Value.ref a:=m;exact qd j ea c n l λu' s2 o p=>⟨v,H1,o,p,q⟩
theorem gx(ha:PE X o ta)(e:PE X value tv)(g:swapsWith value (some (.Attribute o f pos')) pos.line X.env=pure false):PS X (.Assign [.Attribute o f pos'] value pos) (MY X.K ta tv f):=by
 intro pins s σ H D I h;refine plainObj_wpAny_Assign_Attribute (thn (e pins s σ H _ I h) λu i b=>?_) g;obtain⟨y,H1,j,m,q⟩:=b;refine thn (ha pins i σ H1 _ j q) λp s2 b=>?_
 obtain⟨x,H2,r,v,a,C,dx,fs,ex,ea,c,n,l,w⟩:=b;subst ex;obtain rfl:p=Value.ref a:=v;exact pL r ea c n l m λs3 z=>⟨σ,_,z,w⟩
theorem BN{op:Operator}{i:V->V->Hp->VK->Prop}(ha:PE X o ta)(j:PE X value tv)(e:Me X op i):PS X (.AugAssign (.Attribute o f tpos) op value pos) (Gq X.K ta tv i f):=by
 intro pins s σ H D I h;refine wpAny_AugAssign_AttributeAny (thn (ha pins s σ H _ I h) λm s1 b=>?_);obtain⟨x,H1,p,r,a,C,dx,fs,v,ex,ea,c,n,l,q⟩:=b;subst ex;obtain rfl:m=Value.ref a:=r;refine qd p ea c n l λu s2 w A=>thn (j pins s2 σ H1 _ w q) λB E b=>?_
 obtain⟨y,H2,F,G,J⟩:=b;refine thn (e pins E σ H2 v y u B _ F A G J) λw4 s4 b=>?_
 obtain⟨z,H3,L,rz,dx',fs',g,M,N⟩:=b;exact pL L g c n M rz λs5 O=>⟨σ,_,O,N⟩
def Nf:V->V->Hp->VK->Prop:=λx y H Q=>∃i j,x=.int i/\y=.int j/\Q (.int (i+j)) H
theorem Jk:Me X .Add Nf:=by
 rintro pins s σ H x y u v Q I a b ⟨i,j,rfl,rfl,q⟩
 obtain⟨t,rfl⟩:=(show ∃t,u=Value.int i t from a)
 obtain⟨t',rfl⟩:=(show ∃t',v=Value.int j t' from b)
 exact PyProof.Rows.iadd_int ⟨.int (i+j),H,I.tok _,⟨_,rfl⟩,q⟩
end
section
variable {c:Value}{b:Bool}
inductive qR (K:W.Frag) (H:Hp):V->Value->Prop where
 |non:qR K H .non (.type "NoneType")
 |bl (x:Bool):qR K H (.bl x) (.type "bool")
 |int (i:Int):qR K H (.int i) (.type "int")
 |str (x:Str):qR K H (.str x) (.type "str")
 |flt (x:UInt64):qR K H (.flt x) (.type "float")
 |lst {a:Addr} {xs:List V} (e:H a=some (.lst xs)):qR K H (.ref a) (.type "list")
 |frz {a:Addr} {o:Obj} {xs:List V} (e:H a=some (.frz o (.lst xs))):qR K H (.ref a) (.type "list")
 |tup {a:Addr} {xs:List V} (e:H a=some (.tup xs)):qR K H (.ref a) (.type "tuple")
 |dK {a:Addr} {kvs:List (Key×V)} (e:H a=some (.dK kvs)):qR K H (.ref a) (.type "dict")
 |dT {a:Addr} {kvs:List (List Key×V)} (e:H a=some (.dT kvs)):qR K H (.ref a) (.type "dict")
 |ins {a C dx:Addr} {fs:List (Str×V)} (e:H a=some (.ins C dx fs)) (cl:Cls K C) (ha:W.findIn K (.ref C) "__class__"=some (some (.builtin "object.__class__")))
  (hn:W.specialIn K (.builtin "object.__class__") "__get__"=some (some (.builtin "getset_descriptor.__get__"))) (htk:W.takesIn K (.builtin "object.__class__")=some true)
  (hm:W.mroIn K C (.type "object")=some true):qR K H (.ref a) (.ref C)
end
structure cj(k:Nat)(A:Around):Prop where
 hd:A.handled=none
 dp:A.depth+3*k+5<recursionLimit
 un:A.units+16*k+200<cLine
theorem cj.mono{k:Nat}(r:cj k A)(h:j<=k):cj j A:=⟨r.hd,by have:=r.dp;omega,by have:=r.un;omega⟩
theorem cj.deeper{k:Nat}(r:cj (k+1) A)(env:Env):cj k (A.deeper env) :=
 ⟨r.hd,by have:=r.dp;show A.depth+1+3*k+5<_;omega,by have:=r.un;show A.units+3+16*k+200<_;omega⟩
theorem cj.in1{k:Nat}(r:cj (k+1) A):cj k A.in1 :=
 ⟨r.hd,by have:=r.dp;show A.depth+3*k+5<_;omega,by have:=r.un;show A.units+1+16*k+200<_;omega⟩
theorem yv{a:List (Str×Value)}:(A.under (.builtin "type.__call__" ⟨.ref C::us,a⟩)).depth=A.depth+1:=by first|rfl|simp[Around.under,Code.weight,Code.isCreation,Code.isGuard,Code.isCaller,Code.frames,Code.isFrame,guardIds]
theorem ye{a:List (Str×Value)}:(A.under (.builtin "type.__call__" ⟨.ref C::us,a⟩)).units=A.units+1:=by first|rfl|simp[Around.under,Code.cUnits,Code.frames,Code.isFrame]
theorem cj.make{k:Nat}(r:cj (k+1) A)(C:Addr)(us:List Value)(a:List (Str×Value)):cj k (A.under (.builtin "type.__call__" ⟨.ref C::us,a⟩)) :=
 ⟨r.hd,by have:=r.dp;rw[yv];omega,by have:=r.un;rw[ye];omega⟩
theorem cj.depth{k:Nat}(r:cj k A):A.depth<recursionLimit:=by have:=r.dp;omega
theorem cj.units{k:Nat}(r:cj k A):A.units+64<cLine:=by have:=r.un;omega
def Jo:TA:=λ_ H Q=>Q [] H
def IU(ta:TE)(a:TA):TA:=λσ H Q=>ta σ H λx H1=>a σ H1 λxs H2=>Q (x::xs) H2
section
variable {te:TE}{t:TA}
theorem gw:PA X [] Jo:=λ_ _ _ _ H Q I h=>Calls.spliced_nil ⟨[],H,I,.nil,h⟩
theorem eM(ha:PE X e te)(c:PA X es t)(f:starEach (e::es) X.env=(false,eval e X.env)::starEach es X.env:=by rfl):PA X (e::es) (IU te t):=by intro pos pins s σ H Q I h;rw[f];show wpAny _ _ (spliced ((false,eval e X.env)::backTo pos (starEach es X.env))) _ _ s;refine Calls.spliced_cons (thn (ha pins s σ H _ I h) λu g a=>?_);obtain⟨x,H1,i,j,l⟩:=a;exact thn (c pos pins g σ H1 _ i l) λus s2 b=>(by obtain⟨xs,H2,m,n,o⟩:=b;exact⟨x::xs,H2,m,.cons j n,o⟩)
def MR(t:TA):TE:=λσ H Q=>t σ H λxs H1=>xs.length<=sizeLine/\∀p,H1 p=none->Q (.ref p) (upd H1 p (.tup xs))
def MQ(t:TA):TE:=λσ H Q=>t σ H λxs H1=>xs.length<=sizeLine/\∀p,H1 p=none->Q (.ref p) (upd H1 p (.lst xs))
theorem IY{x1}(h:PA X es t):PE X (.Tuple es x1 pos) (MR t):=by intro pins s σ H Q I g;refine wpAny_Tuple_spliced (thn (h pos pins s σ H _ I g) λus a c=>?_);obtain⟨xs,H1,f,r,z,q⟩:=c;refine⟨by rw[<-r.length];exact z,?_⟩;have i:H1 a.heap.objs.size=none:=f.hok.fresh (N6 _);refine⟨.ref a.heap.objs.size,upd H1 a.heap.objs.size (.tup xs),f.laid (t':=a.toks) (λb u e=>N2 _ e) (N6 _) ?_,rfl,q _ i⟩;exact⟨z,us,r,⟨_,NB _ rfl,rfl,rfl,_,rfl⟩⟩
theorem zG(h:PA X es t):PE X (.List es pos) (MQ t):=by intro pins s σ H Q I g;refine wpAny_List_spliced (thn (h pos pins s σ H _ I g) λus a c=>?_);obtain⟨xs,H1,f,r,z,q⟩:=c;refine⟨by rw[<-r.length];exact z,?_⟩;have i:H1 a.heap.objs.size=none:=f.hok.fresh (N6 _);refine⟨.ref a.heap.objs.size,upd H1 a.heap.objs.size (.lst xs),f.laid (t':=a.toks) (λb u e=>N2 _ e) (N6 _) ?_,rfl,q _ i⟩;exact⟨z,us,0,r,NB _ rfl⟩
end
abbrev Sp:=List V->Hp->VK->XK->Prop
abbrev CXT:=List Env->Hp->Shared->XK->Value->Shared->Prop
structure vC(P:Program)(w:World)(K:W.Frag)(mg:Str->Option Value)(base:Heap)(A:Around)(outer:List Env)(s:Shared)(H:Hp):Prop where
 frames:A.frames=some outer
 mod:Mod K mg base
 bs:∀b o,base.get? b=some o->s.heap.get? b=some o/\H b=none
 bsz:base.objs.size<=s.heap.objs.size
 funs:s.heap.FunFrames base outer
 frf:∀b∈frs outer,H b=none
 hok:HOk P w H s.heap
 bare:AllBare s.gens
 tab:∀P q,TabOf K P q->H P=some (.tbl q)
def CE(outer:List Env)(P:Program)(w:World)(H:Hp)(s:Shared)(Q:VK)(u:Value)(s':Shared):Prop :=
 ∃v H',s'.os=s.os/\AllBare s'.gens/\Un (frs outer) [] H H' s.heap s'.heap/\HOk P w H' s'.heap/\RelV v u/\Q v H'
def CR(CX:CXT)(outer:List Env)(P:Program)(w:World)(H:Hp)(s:Shared)(Q:VK)(E:XK)(r:Result)(s':Shared):Prop :=
 match r with
 |.ok (.ret u)=>CE outer P w H s Q u s'
 |.ok _=>False
 |.error e=>CX outer H s E e s'
structure gQ(P:Program)(w:World)(K:W.Frag)(mg:Str->Option Value)(base:Heap)(CX:CXT)(k:Nat)(f:Addr)(fd:FuncData)(ps:List Str)(sp:Sp):Prop where
 len:∀vs H Q E,sp vs H Q E->vs.length=ps.length
 run:∀(A:Around)(outer:List Env)(s:Shared)(H:Hp)(args:Args)(us:List Value)(vs:List V)(Q:VK)(E:XK),cj k A->vC P w K mg base A outer s H->BindsTo s fd args (ps.zip us)->Vals vs us->sp vs H Q E ->
  codeAny (model P w) A (.call (.ref f) args) (CR CX outer P w H s Q E) s
theorem vC.make(e:vC P w K mg base A outer s H)(C:Addr)(us:List Value)(a:List (Str×Value)) :
 vC P w K mg base (A.under (.builtin "type.__call__" ⟨.ref C::us,a⟩)) outer s H:=⟨by first|exact e.frames|(simpa[Around.under,Code.envs,Code.isFrame,pushEnvs] using e.frames),e.mod,e.bs,e.bsz,e.funs,e.frf,e.hok,e.bare,e.tab⟩
section
theorem Inv.env0(I:Inv X pins σ H s):vC X.prog X.w X.K X.mg X.base X.A X.stack s H :=
 ⟨I.ok.frames,I.ok.mod,I.bs,Oo I.ok.bsz I.sz,I.stack,I.stkFree,I.hok,I.bare,I.tab⟩
theorem Inv.after{Q:VK}(I:Inv X pins σ H s)(h:CE X.stack X.prog X.w H s Q u s'):EP X pins σ Q u s':=by obtain⟨v,H',os,bare,un,hok,r,q⟩:=h;obtain⟨c,g,d,t,a⟩:=s';obtain rfl:a=s.os:=os;exact⟨v,H',I.call (h':=c) (g':=g) (d':=d) (t':=t) (ch:=[]) un hok bare (λb z=>absurd z (by simp)),r,q⟩
end
def LZ(sp:Sp)(dvs:List V)(E:XK)(t:TA):TE:=λσ H Q=>t σ H λvs H1=>sp (vs++dvs) H1 Q E
def Aa(C:Addr)(m:Str)(sp:Sp)(dvs:List V)(E:XK)(ta:TE)(t:TA):TE:=λσ H Q=>ta σ H λx H1=>∃a dx fs,x=.ref a/\H1 a=some (.ins C dx fs)/\fs.lookup m=none /\
 t σ H1 λvs H2=>sp (x::(vs++dvs)) H2 Q E
def LI(C:Addr)(sp:Sp)(dvs:List V)(E:XK)(t:TA):TE:=λσ H Q=>t σ H λvs H1=>∀x dx,H1 x=none->H1 dx=none->dx≠x ->
 sp (.ref x::(vs++dvs)) (upd (upd H1 dx (.own x)) x (.ins C dx [])) (λv H2=>v=.non/\Q (.ref x) H2) E
def Binds(K:W.Frag)(fd:FuncData)(ps:List Str)(ds:List Value):Prop :=
 ∀(s:Shared)(us:List Value),K.In s.heap->(us++ds).length=ps.length->BindsTo s fd ⟨us,[]⟩ (ps.zip (us++ds))
theorem Binds.all(h:∀us:List Value,us.length=ps.length->bindArgs fd ⟨us,[]⟩=pure (ps.zip us)):Binds K fd ps []:=λs us _ hl=>by rw[Ob]at hl ⊢;exact .of_eq (h us hl)
def Passes(CX:CXT)(X:Cx)(E:XK):Prop:=∀(pins:List (Addr×Obj))(σ:St)(H:Hp)(s:Shared)(e:Value)(s':Shared),Inv X pins σ H s->CX X.stack H s E e s'->X.xe e s'
section
variable {CX:CXT}{k:Nat}{sp:Sp}{dvs:List V}{ds:List Value}{E:XK}{m:Str}{apos:Pos}{o:Expr}{ta:TE}{t:TA}
theorem yO{Q:VK}(F:gQ X.prog X.w X.K X.mg X.base CX k f fd ps sp)(c:cj k X.A)(g:Binds X.K fd ps ds)(hd:Vals dvs ds)(i:Passes CX X E)
  (I:Inv X pins σ H s) (r:Vals vs us) (h:sp (vs++dvs) H Q E):wpAny (model X.prog X.w) X.A (call (.ref f) us) (EP X pins σ Q) X.xe s:=by
 have b:Vals (vs++dvs) (us++ds):=r.append hd;have hl:(us++ds).length=ps.length:=by rw[<-b.length];exact F.len _ _ _ _ h
 refine wpAny_call (codeAny_mono (F.run X.A X.stack s H ⟨us,[]⟩ (us++ds) (vs++dvs) Q E c I.env0 (g s us I.kIn hl) b h) λr s' a=>?_);cases r with
 |error e=>exact i pins σ H s e s' I a
 |ok fl =>
  cases fl with
  |ret u=>exact I.after a
  |next=>exact False.elim a
  |brk=>exact False.elim a
  |cont=>exact False.elim a
theorem A8(F:gQ X.prog X.w X.K X.mg X.base CX k f fd ps sp)(i:cj k X.A)(j:Gl X x)(hm:X.mg x=some (.ref f))(l:W.keepIn X.K (.ref f)=true)(m:Binds X.K fd ps ds)(hd:Vals dvs ds)(n:Passes CX X E)
  (ha:PA X (e::es) t) (a:(x==("__debug__":Str))=false:=by decide) (o:starEach (e::es) X.env=(false,eval e X.env)::starEach es X.env:=by rfl) (b:(backTo pos (starEach es X.env)).any (·.1)=false:=by rfl) :
  PE X (.Call (.Name x p) (e::es) [] pos) (LZ sp dvs E t):=by
 intro pins s σ H Q I h;refine wpAny_Call_Name_kw (oP I j hm ?_ a);refine W.callWith_K (h₀:=X.base) I.ok.mod.kin l (thn (ha pos pins s σ H _ I h) λus s1 c=>?_) o b;obtain⟨vs,H1,g,r,q⟩:=c;refine⟨g.kIn,?_⟩;exact yO F i m hd n g r q
theorem HF{pl:Sem Bool}(p:PE X o ta)(c:Cls X.K C)(hm:Meth X.K C m f)(F:gQ X.prog X.w X.K X.mg X.base CX k f fd ps sp)(v:cj k X.A)(y:Binds X.K fd ps ds)(hd:Vals dvs ds)(z:Passes CX X E)(ha:PA X (e::es) t)
  (g:starEach (e::es) X.env=(false,eval e X.env)::starEach es X.env:=by rfl) (i:(backTo pos (starEach es X.env)).any (·.1)=false:=by rfl)
  (B:eval (.Call (.Attribute o m apos) (e::es) [] pos) X.env=(do
   let ov <-eval o X.env
   standAt apos.atName
   let (f,first) <-holding [ov] (getMethod ov m pl)
   callWith pos f first (backTo pos (starEach (e::es) X.env)) (backToKw pos (keywordEach [] X.env))):=by rfl) :
  PE X (.Call (.Attribute o m apos) (e::es) [] pos) (Aa C m sp dvs E ta t):=by
 intro pins s σ H Q I h;refine W.methodCall_KW (pl:=pl) (thn (p pins s σ H _ I h) λu D b=>?_) B;obtain⟨x,H1,j,G,a,dx,fs,ex,ea,l,q⟩:=b;subst ex;obtain rfl:u=Value.ref a:=G;refine qL j ea c hm l ?_;refine W.callWith_K (first:=[.ref a]) (h₀:=X.base) I.ok.mod.kin hm.kp (thn (ha pos pins D σ H1 _ j q) λus s2 b=>?_) g i;obtain⟨vs,H2,n,r,J⟩:=b;refine⟨n.kIn,?_⟩;exact yO (us:=.ref a::us) (vs:=.ref a::vs) F v y hd z n (.cons rfl r) J
theorem w5{pl:Sem Bool}(g:PE X o ta)(c:Cls X.K C)(hm:Meth X.K C m f)(F:gQ X.prog X.w X.K X.mg X.base CX k f fd ps sp)(i:cj k X.A)(j:Binds X.K fd ps ds)(hd:Vals dvs ds)(n:Passes CX X E)
  (p:eval (.Call (.Attribute o m apos) [] [] pos) X.env=(do
   let ov <-eval o X.env
   standAt apos.atName
   let (f,first) <-holding [ov] (getMethod ov m pl)
   callWith pos f first (backTo pos (starEach [] X.env)) (backToKw pos (keywordEach [] X.env))):=by rfl) :
  PE X (.Call (.Attribute o m apos) [] [] pos) (Aa C m sp dvs E ta Jo):=by
 intro pins s σ H Q I h;refine W.methodCall_KW (pl:=pl) (thn (g pins s σ H _ I h) λu s1 b=>?_) p;obtain⟨x,H1,e,r,a,dx,fs,ex,ea,l,q⟩:=b;subst ex;obtain rfl:u=Value.ref a:=r;refine qL e ea c hm l ?_;exact W.callWith_K0 (first:=[.ref a]) e.kIn hm.kp (yO (us:=[.ref a]) (vs:=[.ref a]) F i j hd n e (.cons rfl .nil) q)
structure Mk(K:W.Frag)(C f:Addr):Prop where
 makes:W.makesIn K C=true
 init:W.findIn K (.ref C) "__init__"=some (some (.ref f))
 fn:W.isFn K (.ref f)=true
 kp:W.keepIn K (.ref C)=true
theorem DC{Q:VK}(M:Mk X.K C f)(F:gQ X.prog X.w X.K X.mg X.base CX k f fd ps sp)(i:cj (k+1) X.A)(j:Binds X.K fd ps ds)(hd:Vals dvs ds)
  (l:Passes CX X E) (I:Inv X pins σ H s) (r:Vals vs us)
  (h:∀x dx,H x=none->H dx=none->dx≠x->sp (.ref x::(vs++dvs)) (upd (upd H dx (.own x)) x (.ins C dx [])) (λv H2=>v=.non/\Q (.ref x) H2) E) :
  wpAny (model X.prog X.w) X.A (call (.ref C) us) (EP X pins σ Q) X.xe s:=by
 have c:=h (s.heap.objs.size+1) s.heap.objs.size (I.hok.fresh (Pb _)) (I.hok.fresh (N6 _)) (ND (OH _));have b:=Inv.made (C:=C) I;have g:Vals (V.ref (s.heap.objs.size+1)::(vs++dvs)) (Value.ref (s.heap.objs.size+1)::(us++ds)):=.cons rfl (r.append hd);have hl:(Value.ref (s.heap.objs.size+1)::us++ds).length=ps.length:=by have e:=g.length;rw[F.len _ _ _ _ c]at e;exact e.symm
 refine wpAny_call (D5 (f:=f) I.kIn M.makes M.init (beq_iff_eq.mp M.fn) (codeAny_mono (F.run _ X.stack _ _ ⟨Value.ref (s.heap.objs.size+1)::us,[]⟩ (Value.ref (s.heap.objs.size+1)::(us++ds)) _ _ E (i.make C us [])
  (b.env0.make C us []) (j _ (Value.ref (s.heap.objs.size+1)::us) b.kIn hl) g c) λr s' a=>?_))
 cases r with
 |error e=>exact l pins σ _ _ e s' b a
 |ok fl =>
  cases fl with
  |ret u =>obtain⟨v,H',m,n,ev,o⟩:=b.after a;subst ev;exact⟨n,⟨V.ref (s.heap.objs.size+1),H',m,rfl,o⟩⟩
  |next=>exact False.elim a
  |brk=>exact False.elim a
  |cont=>exact False.elim a
theorem Aq(M:Mk X.K C f)(F:gQ X.prog X.w X.K X.mg X.base CX k f fd ps sp)(i:cj (k+1) X.A)(j:Gl X x)(hm:X.mg x=some (.ref C))(l:Binds X.K fd ps ds)(hd:Vals dvs ds)(m:Passes CX X E)
  (ha:PA X (e::es) t) (a:(x==("__debug__":Str))=false:=by decide) (n:starEach (e::es) X.env=(false,eval e X.env)::starEach es X.env:=by rfl) (b:(backTo pos (starEach es X.env)).any (·.1)=false:=by rfl) :
  PE X (.Call (.Name x p) (e::es) [] pos) (LI C sp dvs E t):=by
 intro pins s σ H Q I h;refine wpAny_Call_Name_kw (oP I j hm ?_ a);refine W.callWith_K (h₀:=X.base) I.ok.mod.kin M.kp (thn (ha pos pins s σ H _ I h) λus s1 c=>?_) n b;obtain⟨vs,H1,g,r,q⟩:=c;refine⟨g.kIn,?_⟩;exact DC M F i l hd m g r q
end
def PK(X:Cx)(kws:List Keyword)(t:TA):Prop :=
 ∀(pos:Pos)(pins:List (Addr×Obj))(s:Shared)(σ:St)(H:Hp)(Q:List V->Hp->Prop),Inv X pins σ H s->t σ H Q->wpAny (model X.prog X.w) X.A (evalAll ((backToKw pos (keywordEach kws X.env)).map (·.2))) (AP X pins σ Q) X.xe s
section
variable {CX:CXT}{k:Nat}{ks:List Str}{sp:Sp}{E:XK}{m:Str}{apos kpos:Pos}{o:Expr}{kws:List Keyword}{te ta:TE}{t tk:TA}{nm:Option Str}
theorem Dp:PK X [] Jo:=λ_ _ _ _ H Q I h=>wpAny_evalAll_nil ⟨[],H,I,.nil,h⟩
theorem AK(ha:PE X e te)(c:PK X kws t):PK X (⟨nm,e,kpos⟩::kws) (IU te t):=by intro pos pins s σ H Q I h;show wpAny _ _ (evalAll ((do let v <-eval e X.env;standAt pos;pure v)::(backToKw pos (keywordEach kws X.env)).map (·.2))) _ _ s;refine wpAny_evalAll_cons (wpAny_bind (thn (ha pins s σ H _ I h) λu f a=>?_));obtain⟨x,H1,g,i,j⟩:=a;refine wpAny_bind (wpAny_standAt (wpAny_pure ?_));exact thn (c pos pins f σ H1 _ g j) λus s2 b=>(by obtain⟨xs,H2,l,m,n⟩:=b;exact⟨x::xs,H2,l,.cons i m,n⟩)
variable {g:List Value->List Value->List Value}{gV:List V->List V->List V}
end
structure dq(N P:List Str)(sc:Scope):Prop where
 kind:sc.kind=.function
 co:sc.isCoroutine=false
 gen:sc.isGenerator=false
 nd:N.Nodup
 pre:N.take P.length=P
 par:∀x∈P,sc.names.lookup x=some .local\/sc.names.lookup x=some .cell
 nofree:∀y∈sc.names,y.2≠.free
theorem ug{kindOf:Str->Option NameKind}{x:Str}:∀{binds:List (Str×Value)}{m:Str->Option Value},(∀v,(x,v)∉binds)->bindL kindOf binds m x=m x
 |[],_,_=>rfl
 |(n,v)::r,m,h=>by
  unfold bindL;rw[ug λw hw=>h w (N0 _ hw)];split
  ·have:x≠n:=by rintro rfl;exact h v N3
   simp[this]
  ·rfl
theorem tU{kindOf:Str->Option NameKind}{x:Str}:∀{binds:List (Str×Value)}{m:Str->Option Value},(∀v,(x,v)∉binds)->bindC kindOf binds m x=m x
 |[],_,_=>rfl
 |(n,v)::r,m,h=>by
  unfold bindC;rw[tU λw hw=>h w (N0 _ hw)];split
  ·rfl
  ·have:x≠n:=by rintro rfl;exact h v N3
   simp[this]
theorem t8{kindOf:Str->Option NameKind}{x:Str}{v:Value}:∀{P:List Str}{vs:List Value}{i:Nat}{m:Str->Option Value},P.Nodup->P[i]?=some x->vs[i]?=some v->kindOf x=some .local ->
  bindL kindOf (P.zip vs) m x=some v
 |[],_,_,_,_,h,_,_=>by simp at h
 |_::_,[],_,_,_,_,h,_=>by simp at h
 |p::P,w::vs,0,m,nd,h1,h2,hk=>by simp at h1 h2;subst h1;subst h2;show bindL kindOf ((p,w)::P.zip vs) m p=_;unfold bindL;rw[ug λv a=>(O3.mp nd).1 (Pf a).1,if_pos hk];simp
 |p::P,w::vs,i+1,m,nd,h1,h2,hk=>by show bindL kindOf ((p,w)::P.zip vs) m x=_;unfold bindL;exact t8 (i:=i) (O3.mp nd).2 (by simpa using h1) (by simpa using h2) hk
theorem sM{kindOf:Str->Option NameKind}{x:Str}{v:Value}:∀{P:List Str}{vs:List Value}{i:Nat}{m:Str->Option Value},P.Nodup->P[i]?=some x->vs[i]?=some v->kindOf x≠some .local ->
  bindC kindOf (P.zip vs) m x=some v
 |[],_,_,_,_,h,_,_=>by simp at h
 |_::_,[],_,_,_,_,h,_=>by simp at h
 |p::P,w::vs,0,m,nd,h1,h2,hk=>by simp at h1 h2;subst h1;subst h2;show bindC kindOf ((p,w)::P.zip vs) m p=_;unfold bindC;rw[tU λv a=>(O3.mp nd).1 (Pf a).1,if_neg hk];simp
 |p::P,w::vs,i+1,m,nd,h1,h2,hk=>by show bindC kindOf ((p,w)::P.zip vs) m x=_;unfold bindC;exact sM (i:=i) (O3.mp nd).2 (by simpa using h1) (by simpa using h2) hk
def start(N:List Str)(vs:List V):St:=vs.map some++List.replicate (N.length-vs.length) none
def dz(CX:CXT)(P:Program)(w:World)(K:W.Frag)(mg:Str->Option Value)(base:Heap)(N:List Str)(qual:Str)(scope:Scope)(f:Addr)(cd:Value)(A:Around)(outer:List Env)(s:Shared)(H:Hp)(E:XK):Cx where
 prog:=P
 w:=w
 K:=K
 mg:=mg
 base:=base
 A:=A.deeper (envOfC qual scope s.heap.objs.size f cd)
 N:=N
 s₀:=s
 H₀:=H
 env:=envOfC qual scope s.heap.objs.size f cd
 outer:=outer
 stack:=envOfC qual scope s.heap.objs.size f cd::outer
 ex:=[]
 calm:=true
 fn:=λ_=>true
 pn:=[]
 xe:=λe s'=>wpAny (model P w) (A.deeper (envOfC qual scope s.heap.objs.size f cd)) (leaving (envOfC qual scope s.heap.objs.size f cd) e) (λ_ a=>CX outer H s E e a) (λb a=>CX outer H s E b a) s'
theorem rB{sc:Scope}{n:Nat}(h:sc.names.lookup x=some .cell):∃c,(cellsFrom n sc.names []).lookup x=some c:=by have q:=W.cellsFrom_some sc.names n [] (.inl h);exact Option.isSome_iff_exists.mp q
theorem CA{CX:CXT}{B:Shared}{E:XK}
  (S:dq N ps scope) (hd:A.handled=none) (g:vC P w K mg base A outer s H) (hl:vs.length=ps.length) (r:Vals vs us)
  (x:InCallC s s.heap.objs.size (bindL (envOfC qual scope s.heap.objs.size f cd).kindOf (ps.zip us) λ_=>none) (cellsFrom (s.heap.objs.size+1) scope.names []) (bindC (envOfC qual scope s.heap.objs.size f cd).kindOf (ps.zip us) λ_=>none) B) :
  Inv (dz CX P w K mg base N qual scope f cd A outer s H E) [] (start N vs) H B:=by
 have hpl:ps.length<=N.length:=by have:=congrArg List.length S.pre;rw[P6]at this;omega
 obtain⟨h1,tk,rfl,C⟩:=x.done;have j:∀b:Addr,b∉(dz CX P w K mg base N qual scope f cd A outer s H E).ex:=λb z=>absurd (show b∈([]:List Addr) from z) (by simp)
 refine⟨⟨g.mod,S.kind,rfl,rfl,N6 _,λy z c h1 h2=>?_,λy l=>?_,λy c _ h=>?_,λ_=>hd,Around.frames_deeper g.frames,.inr ⟨rfl,rfl⟩,λb z=>absurd z (j b),g.bs,g.bsz,λb _ _=>j b,λb z=>absurd z (j b),g.funs,g.frf⟩,
  rfl,g.bare,Un.kept C,⟨_,x.toInCall.ns,λi y v h1 h2 h3=>?_⟩,λy c h=>⟨_,x.cell y c h⟩,g.hok.fresh (N6 _),λy c h=>?_,λp m=>absurd (show p∈([]:List (Addr×Obj)) from m) (by simp),g.hok.kept C,?_,g.tab⟩
 ·exact name_of_addr x.apart (PySem.mem_of_lookup h1) (PySem.mem_of_lookup h2)
 ·have l:scope.names.lookup y=some .cell\/scope.names.lookup y=some .free:=l;rcases l with l|l
  ·exact rB l
  ·exact absurd rfl (S.nofree _ (PySem.mem_of_lookup l))
 ·exact PX (x.above y c (PySem.mem_of_lookup h))
 ·have hi:i<vs.length:=by
   unfold start at h2;by_cases hi:i<vs.length
   ·exact hi
   ·rw[NT (by simpa using hi)]at h2;rw[Pn]at h2;split at h2 <;> cases h2
  have ha:vs[i]?=some v:=by
   unfold start at h2;rw[NP (by simpa using hi),NK]at h2;cases e:vs[i]? with
   |none=>rw[e]at h2;cases h2
   |some a=>rw[e]at h2;cases h2;rfl
  obtain⟨u,D,F⟩:=r.get ha;have m:ps[i]?=some y:=by rw[<-S.pre,List.getElem?_take_of_lt (by omega)];exact h1
  have o:ps.Nodup:=by rw[<-S.pre];exact S.nd.sublist (List.take_sublist _ _)
  refine⟨u,F,?_⟩;rcases S.par y (O1 m) with k|k
  ·exact .inl ⟨k,t8 o m D k⟩
  ·obtain⟨c,e⟩:=rB (n:=s.heap.objs.size+1) k;refine .inr ⟨.inl k,c,e,?_⟩;have q:=x.cell y c e;rw[sM o m D (by show scope.names.lookup y≠_;rw[k];decide)]at q;exact q
 ·exact g.hok.fresh (PX (x.above y c (PySem.mem_of_lookup h)))
 ·unfold start;show _=N.length;rw[NC,N4,Pw];omega
theorem El{CX:CXT}{k:Nat}{name:Str}{B kV doc cdv:Value}
  {sp:Sp} (F:K.lookup f=some ⟨oc,od,.func (W.fnOf name qual params body scope B kV doc pm an cdv ct),osl⟩) (l:W.codeIn K cdv qual=true) (S:dq N ps scope)
  (len:∀vs H Q E,sp vs H Q E->vs.length=ps.length)
  (c:∀(A:Around)(outer:List Env)(s:Shared)(H:Hp)(vs:List V)(Q:VK)(E:XK),cj k (A.deeper (envOfC qual scope s.heap.objs.size f cdv))->sp vs H Q E ->
   ∃t,PSs (dz CX P w K mg base N qual scope f cdv A outer s H E) body t/\t { nx:=λ_ H'=>Q .non H',rt:=Q } (start N vs) H) :
  gQ P w K mg base CX (k+1) f (W.fnOf name qual params body scope B kV doc pm an cdv ct) ps sp:=by
 refine⟨len,λA outer s H args us vs Q E m i G r j=>?_⟩;have hl:=len _ _ _ _ j;have C:K.In s.heap:=i.mod.kin.keeps λb o e=>(i.bs b o e).1
 have lim:s.heap.NoLimit:=i.mod.nolimit.keeps λb o e=>(i.bs b o e).1
 have g:∀y∈ps.zip us,scope.names.lookup y.1=some .local\/(scope.names.lookup y.1=some .cell/\((cellsFrom (s.heap.objs.size+1) scope.names []).lookup y.1).isSome=true):=λp L=>by
  obtain⟨n,v⟩:=p;rcases S.par n (Pf L).1 with q|q
  ·exact .inl q
  ·exact .inr ⟨q,W.cellsFrom_some _ _ _ (.inl q)⟩
 refine codeAny_call_function m.depth (C _ _ F) rfl S.co S.gen rfl (W.codeRec_of C l) (G _ _ _ _ ?_);refine wpAny_newFunctionEnv_cells S.kind g λenv M D x=>?_
 subst M;refine⟨lim.keeps x.toInCall.keep,codeAny_func ?_⟩;obtain⟨t,O,R⟩:=c A outer s H vs Q E (m.deeper _) j;have I:Inv (dz CX P w K mg base N qual scope f cdv A outer s H E) [] (start N vs) H D:=CA S m.hd i hl r x;refine wpAny_mono (O [] D (start N vs) H _ I R) (λT s' h=>?_) λe s' h=>h
 have fin:∀{a:St}{H':Hp}{v:V}{u:Value},Inv (dz CX P w K mg base N qual scope f cdv A outer s H E) [] a H' s'->RelV v u->Q v H'->CE outer P w H s Q u s' :=
  λ{a H' v u} J z q=>⟨v,H',J.os,J.bare,J.base,J.hok,z,q⟩
 cases T with
 |ret u =>obtain⟨v,a,H',J,z,q⟩:=h;exact fin J z q
 |next =>obtain⟨a,H',J,q⟩:=h;exact fin (v:=V.non) (u:=Value.none) J rfl q
 |brk =>obtain⟨_,_,_,q⟩:=h;exact False.elim q
 |cont =>obtain⟨_,_,_,q⟩:=h;exact False.elim q
section
variable {t:TA}{id T:String}{r:List V->Hp->VK->Prop}
def tCB(r:List V->Hp->VK->Prop)(t:TA):TE:=λσ H Q=>t σ H λvs H1=>r vs H1 Q
theorem fo(hc:j8 X (.builtin id) r)(f:Gl X x)(hm:X.mg x=none)(g:bootBuiltins x=some (.builtin id))(ha:PA X (e::es) t)(hn:x≠"__name__":=by decide)(a:(x==("__debug__":Str))=false:=by decide)
  (i:starEach (e::es) X.env=(false,eval e X.env)::starEach es X.env:=by rfl) (b:(backTo pos (starEach es X.env)).any (·.1)=false:=by rfl):PE X (.Call (.Name x p) (e::es) [] pos) (tCB r t):=by
 intro pins s σ H Q I h;refine wpAny_Call_Name_kw (fz I f hm g ?_ hn a);exact PyProof.Rows.callWith_builtin1 (thn (ha pos pins s σ H _ I h) λus j c=>(by obtain⟨vs,H1,l,m,n⟩:=c;exact hc pins j σ H1 vs us Q l m n)) i b
theorem sA(hc:j8 X (.type T) r)(f:Gl X x)(hm:X.mg x=none)(g:bootBuiltins x=some (.type T))(ha:PA X (e::es) t)(hn:x≠"__name__":=by decide)(a:(x==("__debug__":Str))=false:=by decide)
  (i:starEach (e::es) X.env=(false,eval e X.env)::starEach es X.env:=by rfl) (b:(backTo pos (starEach es X.env)).any (·.1)=false:=by rfl):PE X (.Call (.Name x p) (e::es) [] pos) (tCB r t):=by
 intro pins s σ H Q I h;refine wpAny_Call_Name_kw (fz I f hm g ?_ hn a);exact PyProof.Rows.callWith_type1 (thn (ha pos pins s σ H _ I h) λus j c=>(by obtain⟨vs,H1,l,m,n⟩:=c;exact hc pins j σ H1 vs us Q l m n)) i b
end
end L2
variable {xs ys vs:List L2.V}{ws:List (Option L2.V)}{H H' H1 G H0:L2.Hp}{o:L2.HO}{v y:L2.V}{X:L2.Cx}{σ:L2.St}{ta:L2.TA}{CX:L2.CXT}{sp:L2.Sp}{r:L2.V->Option Int->Option Int->L2.Hp->L2.VK->Prop}{κ:Nat->L2.V->L2.Hp->Prop}{kvs:List (List L2.Key×L2.V)}
namespace HT
open PySem PyProof.Rows
def lexLt:List Int->List Int->Bool
 |[],[]=>false
 |[],_::_=>true
 |_::_,[]=>false
 |x::xs,y::ys=>if x=y then lexLt xs ys else decide (x<y)
theorem pB(x y:Int)(xs ys:List Int):lexLt (x::xs) (y::ys)=if x=y then lexLt xs ys else decide (x<y):=rfl
theorem kM:lexLt [] []=false:=rfl
theorem qB(y:Int)(ys:List Int):lexLt [] (y::ys)=true:=rfl
theorem qQ(x:Int)(xs:List Int):lexLt (x::xs) []=false:=rfl
theorem DJ(A:Around)(s:Shared)(a:Int)(t:Tok)(c:Int)(u:Tok):∃e,SeqAt.EqAt A s (.int a t) (.int c u) e/\(e=true↔a=c) :=
 ⟨(a==c),SeqAt.EqAt.int_int a t c u,by simp⟩
theorem Eb(A:Around)(s:Shared)(a:Int)(t:Tok)(c:Int)(u:Tok)(prog:Program)(w:World)(E:Value->Shared->Prop)(Q:Value->Shared->Prop)(h:Q (.bool (decide (a<c))) s) :
  wpAny (model prog w) A (richCompare .Lt (.int a t) (.int c u)) Q E s :=
 (PyProof.Rows.lt_int h:wpAny (model prog w) A (compareOp .Lt (.int a t) (.int c u)) Q E s)
section
open PySem.SeqAt
open PySem.AutoSeq1 (wpAny_loadPart')
open PySem.MeetsSeq PySem.MeetsSeq2 PySem.MeetsSeq3
theorem rW(l b:Addr)(items f:Array Value)(n n2:Nat)(dd E:Option Addr)(K F:Array (Option Value))(ns C:List Int)(hi:IntsAre items.toList ns)(I:IntsAre f.toList C) :
  Meets (Builtin.«tuple.__lt__» ⟨[.ref l,.ref b],[]⟩)
   (λ_ R s=>s.heap.get? l=some { cls:=.type "tuple",dict:=dd,data:=.seq items n,slots:=K }/\s.heap.get? b=some { cls:=.type "tuple",dict:=E,data:=.seq f n2,slots:=F } /\
    R (.ok (.ret (.bool (lexLt ns C)))) s) :=
 .of_wp λprog w A R s h=>by
  obtain⟨D,g,d,tk,os⟩:=s;obtain⟨hl,L,h⟩:=h;have f2:=AutoSeq1.sub_tuple_tuple;have z1:items.size=ns.length:=by rw[<-hi.length];simp
  have z2:f.size=C.length:=by rw[<-I.length];simp
  wp_walk using wpAny_loadPart' hl,wpAny_loadPart' L,wpAny_forIn_list _ (λrest b s'=>b.1=none/\s'=⟨D,g,d,tk,os⟩/\∃(vs ws:List Value)(i j:List Int),rest=vs.zip ws /\
   IntsAre vs i/\IntsAre ws j/\i.length+f.size=j.length+items.size/\R (.ok (.ret (.bool (lexLt i j)))) ⟨D,g,d,tk,os⟩) _
  case turn =>
   rintro⟨y,x⟩ rest b s' ⟨v,rfl,vs,ws,i,j,m,z,o,hlen,p⟩
   cases z with
   |nil=>rw[List.zip_nil_left]at m;cases m
   |cons a t hvi' =>
    cases o with
    |nil=>rw[List.zip_nil_right]at m;cases m
    |cons c u hwi' =>
     rw[Pj]at m;injection m with G B
     injection G with M N
     subst M N;rw[pB]at p;simp only[NJ]at hlen;obtain⟨e,O,r⟩:=DJ A.in1 ⟨D,g,d,tk,os⟩ a t c u;refine wpAny_bind (O prog w _ _ ?_);cases e with
     |true =>
      rw[if_pos (r.mp rfl)]at p
      wp_walk
      exact⟨rfl,rfl,_,_,_,_,B,hvi',hwi',by omega,p⟩
     |false =>
      rw[if_neg (λq=>absurd (r.mpr q) NO)]at p;have H:=Eb A.in1 ⟨D,g,d,tk,os⟩ a t c u prog w
      wp_walk using H
      exact⟨_,rfl,by simpa using p⟩
  case fin =>
   rintro⟨b1,b2⟩ s' ⟨v,rfl,vs,ws,i,j,m,z,o,hlen,p⟩
   simp only at v;subst v;have J:lexLt i j=decide (items.size<f.size):=by
    cases z with
    |nil =>
     cases o with
     |nil =>simp only[OI]at hlen;rw[kM];exact (decide_eq_false (by omega)).symm
     |cons c u hw =>simp only[OI,NJ]at hlen;rw[qB];exact (decide_eq_true (by omega)).symm
    |cons a t J =>
     cases o with
     |nil =>simp only[OI,NJ]at hlen;rw[qQ];exact (decide_eq_false (by omega)).symm
     |cons c u hw =>rw[Pj]at m;cases m
   rw[J]at p
   wp_walk
   exact⟨_,rfl,by simpa[Builtin.Tuple.tupleCompareSizes] using p⟩
  case h =>exact⟨rfl,rfl,items.toList,f.toList,ns,C,rfl,hi,I,by omega,h⟩
end
section
variable {A:Around}
theorem yU{l:Addr}{a:Array Value}{c:List Int}(hl:IsTup s.heap l items)(m:IsTup s.heap b a)(hi:IntsAre items.toList ns)(o:IntsAre a.toList c)
  (p:A.units<cLine) (h:Q (.bool (lexLt ns c)) s):wpAny (model prog w) A (compareOp .Lt (.ref l) (.ref b)) Q E s:=by
 obtain⟨⟨cls,dd,data,q⟩,j,hc,n,hd⟩:=id hl;obtain⟨⟨cls2,g,data2,i⟩,e,f,n2,hd2⟩:=id m;simp only at hc hd f hd2;subst hc hd f hd2;exact richCompare_meets_room (op:=.Lt) ⟨_,j,rfl⟩ ⟨_,e,rfl⟩ PySem.F.slot_tuple_lt PySem.F.entry_tuple_lt (PySem.F.args_tuple_lt_2 _ _) (rW l b items a n n2 dd g q i ns c hi o)
  ⟨j,e,show Value.bool (lexLt ns c)≠Value.notImplemented/\Q (.bool (lexLt ns c)) s from⟨(λx=>nomatch x),h⟩⟩ p
theorem Gg{t:Addr}{vs ws:List Value}(l:IsTup s.heap t vs.toArray)(m:IsTup s.heap b ws.toArray)(i:vs≠[])
  (h1:ws=[]->Q (.ref t) s) (h2:ws≠[]->Q (.ref s.heap.objs.size) { s with heap:=s.heap.push { cls:=.type "tuple",data:=.seq (vs++ws).toArray } })
  (hsz:vs.length+ws.length<=sizeLine):wpAny (model prog w) A (binaryOp .Add (.ref t) (.ref b)) Q E s:=by
 obtain⟨⟨cls,dd,data,j⟩,h,hc,n,hd⟩:=id l;obtain⟨⟨cls2,c,data2,f⟩,a,g,n2,hd2⟩:=id m;simp only at hc hd g hd2;subst hc hd g hd2;have e:vs.toArray++ws.toArray=(vs++ws).toArray:=by simp
 by_cases hw:ws=[]
 ·exact concat_meets ⟨_,h,rfl⟩ ⟨_,a,rfl⟩ noFill_tuple_add seq_tuple_add PySem.F.slot_tuple_add PySem.F.entry_tuple_add (PySem.F.args_tuple_add_2 _ _)
   (tuple_addW1 t b vs.toArray ws.toArray n n2 dd c j f (by simpa using i) (by simp[hw])) ⟨h,a,h1 hw⟩
 ·refine concat_meets ⟨_,h,rfl⟩ ⟨_,a,rfl⟩ noFill_tuple_add seq_tuple_add PySem.F.slot_tuple_add PySem.F.entry_tuple_add (PySem.F.args_tuple_add_2 _ _)
   (tuple_addW2 t b vs.toArray ws.toArray n n2 dd c j f (by simpa using i) (by simpa using hw) (by rw[NF,NF];exact hsz)) ⟨h,a,?_⟩
  rw[e];exact h2 hw
def sIx(n d:Nat):Option Int->Nat
 |none=>d
 |some v=>if v<0 then (v+(n:Int)).toNat else min v.toNat n
theorem Az(n d k:Nat):sIx n d (some (k:Int))=min k n:=by show (if (k:Int)<0 then ((k:Int)+(n:Int)).toNat else min (k:Int).toNat n)=min k n;rw[if_neg (by omega),O6]
theorem Kk(n d:Nat)(hd:d<=n)(o:Option Int):sIx n d o<=n:=by
 cases o with
 |none=>exact hd
 |some v =>
  show (if v<0 then (v+(n:Int)).toNat else min v.toNat n)<=n;by_cases hv:v<0
  ·rw[if_pos hv];omega
  ·rw[if_neg hv];exact Nat.min_le_right _ _
theorem Bc(v:Int)(n d:Nat):(if v<0 then max (v+(n:Int)) 0 else min v (n:Int))=((sIx n d (some v):Nat):Int):=by
 show (if v<0 then max (v+(n:Int)) 0 else min v (n:Int))=(((if v<0 then (v+(n:Int)).toNat else min v.toNat n):Nat):Int)
 by_cases hv:v<0
 ·simp only[if_pos hv];omega
 ·simp only[if_neg hv];omega
theorem yc(lo hi:Option Int)(n:Nat):Builtin.Slice.sliceAdjust lo hi 1 (n:Int)=(((sIx n 0 lo:Nat):Int),((sIx n n hi:Nat):Int)):=by
 have h1:¬ ((1:Int)<0):=by omega
 unfold Builtin.Slice.sliceAdjust;simp only[h1,if_false];refine Prod.ext ?_ ?_
 ·cases lo with
  |none=>rfl
  |some v=>exact Bc v n 0
 ·cases hi with
  |none=>rfl
  |some v=>exact Bc v n n
theorem y9(i j:Nat):Builtin.Slice.slicePlaces (i:Int) (j:Int) 1=j-i:=by
 unfold Builtin.Slice.slicePlaces;have h1:(1:Int)>0:=by omega
 simp only[h1,if_true,Int.ediv_one];split <;> omega
theorem qU{v:Value}{o:Option Int}{Q:Option Int->Shared->Prop}(p:IsPart v o)(h:Q o s):wpAny (model prog w) A (Builtin.Slice.slicePartIndex v) Q E s:=by
 cases p with
 |none=>exact slicePart_none h
 |int i t=>exact slicePart_int h
theorem i7{c e:Value}{n:Nat}{Q:Int×Int×Nat->Shared->Prop}(g:s.heap.IsSliceOf f c e .none)(pl:IsPart c lo)(i:IsPart e hi)
  (h:Q (((sIx n 0 lo:Nat):Int),1,sIx n n hi-sIx n 0 lo) s):wpAny (model prog w) A (Builtin.Slice.sliceApplied (.ref f) (pure (n:Int))) Q E s:=by
 obtain⟨os,a,hcs,b⟩:=id g;unfold Builtin.Slice.sliceApplied Builtin.Slice.sliceFields;refine wpAny_bind (wpAny_bind (wpAny_field a b (x:=c) rfl (wpAny_bind (wpAny_field a b (x:=e) rfl (wpAny_bind (wpAny_field a b (x:=.none) rfl (wpAny_pure ?_)))))));refine wpAny_bind (slicePart_none ?_);show wpAny _ _ (if ((1:Int)==0)=true then _ else _) _ _ s;rw[if_neg (by decide)];refine wpAny_bind (qU pl (wpAny_bind (qU i (wpAny_bind (wpAny_pure ?_)))));show wpAny _ _ (match Builtin.Slice.sliceAdjust lo hi 1 (n:Int) with|(lo,hi)=>pure (lo,(1:Int),Builtin.Slice.slicePlaces lo hi 1)) _ _ s;rw[yc lo hi n];show wpAny _ _ (pure (((sIx n 0 lo:Nat):Int),(1:Int),Builtin.Slice.slicePlaces ((sIx n 0 lo:Nat):Int) ((sIx n n hi:Nat):Int) 1)) _ _ s;rw[y9];exact wpAny_pure h
theorem Fb(xs:Array Value)(i k:Nat):((List.range k).filterMap λ(m:Nat)=>xs[((i:Int)+(m:Int)*1).toNat]?).toArray=((xs.toList.drop i).take k).toArray:=by
 have e:(λ(m:Nat)=>xs[((i:Int)+(m:Int)*1).toNat]?)=λm=>xs[i+m]?:=by
  funext m;have:((i:Int)+(m:Int)*1).toNat=i+m:=by omega
  rw[this]
 rw[e];have:=pick_run xs i k;rw[List.filterMap_map]at this;have e2:((λx=>xs[x]?)∘λx=>i+x)=λm=>xs[i+m]?:=rfl
 rw[e2]at this;rw[this]
theorem me{t:Addr}{j l:Value}(b:IsTup s.heap t items)(n:s.heap.IsSliceOf c j l .none)(pl:IsPart j lo)(o:IsPart l hi)
  (hw:¬ (sIx items.size 0 lo=0/\sIx items.size items.size hi=items.size))
  (h:Q (.ref s.heap.objs.size) { s with heap:=s.heap.push { cls:=.type "tuple",data:=.seq ((items.toList.drop (sIx items.size 0 lo)).take (sIx items.size items.size hi-sIx items.size 0 lo)).toArray } })
  (hsz:items.size<=sizeLine):wpAny (model prog w) A (getItem (.ref t) (.ref c)) Q E s:=by
 have a:sizeOk (.seq ((items.toList.drop (sIx items.size 0 lo)).take (sIx items.size items.size hi-sIx items.size 0 lo)).toArray):=by show ((items.toList.drop (sIx items.size 0 lo)).take (sIx items.size items.size hi-sIx items.size 0 lo)).toArray.size<=sizeLine;rw[NF,P6,P7,NZ];omega
 have hj:sIx items.size items.size hi<=items.size:=Kk _ _ (N6 _) hi;obtain⟨os,e,f,hds⟩:=id n;have g:s.TypeIs (.ref c) "slice":=⟨os,e,f⟩
 unfold getItem
 try with_reducible refine wpAny_holding ?_
 first|refine wpAny_bind (wpAny_pure ?_)|skip
 refine wpAny_bind (wpAny_sequenceKey b.typeIs (by decide) ?_);refine wpAny_bind (wpAny_callSpecial?_slot (name:=Str.ofString "__getitem__") b.typeIs PyProof.Rows.slot_tuple_getitem
  (wpAny_call_entry PyProof.Rows.slot_tuple_getitem b.typeIs entry_tuple_getitem ?_ (args_tuple_getitem _ _)))
 show wpAny _ _ (Builtin.Tuple.tupleItemsOf (.ref t) >>= _) _ _ s;refine wpAny_bind (tupleItemsOf_ b ?_);refine wpAny_bind (wpAny_typeOf g ?_);rw[if_pos (by decide)];refine wpAny_bind (i7 n pl o ?_);have i:¬ ((((sIx items.size 0 lo:Nat):Int)==0&&(1:Int)==1&&(sIx items.size items.size hi-sIx items.size 0 lo)==items.size)=true):=by intro q;rw[N7,N7]at q;have q1:((sIx items.size 0 lo:Nat):Int)=0:=eq_of_beq q.1.1;have q2:sIx items.size items.size hi-sIx items.size 0 lo=items.size:=eq_of_beq q.2;exact hw ⟨by omega,by omega⟩
 show wpAny _ _ (if (((sIx items.size 0 lo:Nat):Int)==0&&(1:Int)==1&&(sIx items.size items.size hi-sIx items.size 0 lo)==items.size)=true then _ else _) _ _ s;rw[if_neg i,Fb]
 first
  |exact wpAny_bind (m:=Builtin.Tuple.tupleExact _) (wpAny_newObj_type (wpAny_pure ⟨_,rfl,wpAny_pure h⟩) a)
  |exact wpAny_bind (m:=Builtin.Tuple.tupleExact _) (wpAny_newObj_type (wpAny_bind (wpAny_pure (wpAny_pure ⟨_,rfl,wpAny_pure h⟩))) a)
  |exact wpAny_bind (wpAny_bind (m:=Builtin.Tuple.tupleExact _) (wpAny_newObj_type (wpAny_pure (wpAny_pure ⟨_,rfl,wpAny_pure h⟩)) a))
  |exact wpAny_bind (wpAny_bind (m:=Builtin.Tuple.tupleExact _) (wpAny_newObj_type (wpAny_pure ⟨_,rfl,wpAny_pure h⟩) a))
end
end HT
namespace L2
open PySem PySem.Spec PyProof.Rows
variable {a:List Value}{n:Nat}
abbrev TO:=St->Hp->(Option Int->Hp->Prop)->Prop
def PO(X:Cx)(e:Option Expr)(t:TO):Prop :=
 ∀(pins:List (Addr×Obj))(s:Shared)(σ:St)(H:Hp)(Q:Option Int->Hp->Prop),Inv X pins σ H s->t σ H Q ->
  wpAny (model X.prog X.w) X.A (evalPart e X.env) (λu s'=>∃o H',Inv X pins σ H' s'/\IsPart u o/\Q o H') X.xe s
def GW:TO:=λ_ H Q=>Q none H
def Mq(t:TE):TO:=λσ H Q=>t σ H λx H1=>∃i,x=.int i/\Q (some i) H1
theorem intsAre_of:∀{us:List Value},Vals (ns.map V.int) us->IntsAre us ns:=by
 induction ns with
 |nil=>intro us r;rw[Oq]at r;cases r;exact .nil
 |cons n ns ih =>
  intro us r;rw[N1]at r;cases r with
  |cons r1 r2 =>obtain⟨t,e⟩:=r1;subst e;exact .cons n t (ih r2)
section
variable {e:Expr}{te:TE}{lo hi:Option Expr}{tl th:TO}
theorem Gw:PO X none GW:=by intro pins s σ H Q I h;rw[evalPart_none];exact wpAny_pure ⟨none,H,I,.none,h⟩
theorem F3(h:PE X e te):PO X (some e) (Mq te):=by
 intro pins s σ H Q I hw;rw[evalPart_some];refine thn (h pins s σ H _ I hw) λu s1 a=>?_
 obtain⟨x,H1,b,c,f⟩:=a;obtain⟨i,rfl,q⟩:=f;obtain⟨t,rfl⟩:=c;exact⟨some i,H1,b,.int i t,q⟩
def SlR(X:Cx)(r:V->Option Int->Option Int->Hp->VK->Prop):Prop :=
 ∀(pins:List (Addr×Obj))(s:Shared)(σ:St)(H:Hp)(x:V)(v a b:Value)(lo hi:Option Int)(c:Addr)(Q:VK),Inv X pins σ H s->RelV x v->s.heap.IsSliceOf c a b .none->IsPart a lo->IsPart b hi->r x lo hi H Q ->
  ∃T id,typeLookup (.type T) "__getitem__"=pure (some (.builtin id))/\s.TypeIs v T/\wpAny (model X.prog X.w) X.A (getItem v (.ref c)) (EP X pins σ Q) X.xe s
theorem SlR.or{a:V->Option Int->Option Int->Hp->VK->Prop}(h:SlR X r)(h':SlR X a):SlR X (λx lo hi H Q=>r x lo hi H Q\/a x lo hi H Q):=by
 intro pins s σ H x v b c lo hi e Q I f g pl i q;rcases q with q|q
 ·exact h pins s σ H x v b c lo hi e Q I f g pl i q
 ·exact h' pins s σ H x v b c lo hi e Q I f g pl i q
def tSl(r:V->Option Int->Option Int->Hp->VK->Prop)(te:TE)(tl th:TO):TE:=λσ H Q=>te σ H λx H1=>tl σ H1 λl H2=>th σ H2 λu a=>r x l u a Q
theorem E6(j:SlR X r)(m:PE X e te)(hl:PO X lo tl)(n:PO X hi th):PE X (.Subscript e (.Slice lo hi none p2) pos) (tSl r te tl th):=by
 intro pins s σ H Q I h;refine Subscript_ (thn (m pins s σ H _ I h) λv o a=>?_);obtain⟨x,H1,p,y,z⟩:=a;refine wpAny_Slice (thn (hl pins o σ H1 _ p z) λf s2 a=>?_);obtain⟨l,H2,B,pl,C⟩:=a;refine thn (n pins s2 σ H2 _ B C) λg c a=>?_
 obtain⟨u,i,D,E,F⟩:=a;rw[evalPart_none];refine wpAny_pure ?_;have G:Inv X pins σ i { c with heap:=c.heap.push { cls:=.type "slice",data:=.fields #[f,g,.none] } }:=D.kept (t':=c.toks) λb ob q=>N2 _ q
 obtain⟨T,id,J,K,L⟩:=j pins { c with heap:=c.heap.push { cls:=.type "slice",data:=.fields #[f,g,.none] } } σ i x v f g l u c.heap.objs.size Q G y (Heap.IsSliceOf.new ..) pl E F;show wpAny (model X.prog X.w) X.A (subscriptTail e (.Slice lo hi none p2) v (.ref c.heap.objs.size)) (EP X pins σ Q) X.xe { c with heap:=c.heap.push { cls:=.type "slice",data:=.fields #[f,g,.none] } };exact tail_any (ops:=[.ref c.heap.objs.size,v]) K J L (by with_unfolding_all rfl)
def xC(xs:List V)(lo hi:Option Int):List V:=(xs.drop (HT.sIx xs.length 0 lo)).take (HT.sIx xs.length xs.length hi-HT.sIx xs.length 0 lo)
theorem og(xs:List V)(lo hi:Option Int):(xC xs lo hi).length<=xs.length:=by unfold xC;rw[P6,P7];omega
def Nn(K:W.Frag):V->Option Int->Option Int->Hp->VK->Prop:=λx lo hi H Q=>∃a xs,x=.ref a/\SqT K H a xs /\
 ¬ (HT.sIx xs.length 0 lo=0/\HT.sIx xs.length xs.length hi=xs.length)/\∀p,H p=none->Q (.ref p) (upd H p (.tup (xC xs lo hi)))
theorem J5:SlR X (Nn X.K):=by
 intro pins s σ H x v vl vu lo hi sl Q I g i pl j h;obtain⟨a,xs,rfl,l,hw,q⟩:=h;cases g;obtain⟨c,r,e,f⟩:=I.tuple l;have hlen:c.toArray.size=xs.length:=by rw[NF];exact r.length.symm
 refine⟨"tuple",_,PyProof.Rows.slot_tuple_getitem.lookup,e.typeIs,?_⟩;refine HT.me e i pl j (by rw[hlen];exact hw) ?_ (by rw[hlen];exact f);rw[hlen];refine⟨.ref s.heap.objs.size,_,I.laid (t':=s.toks) (o:=.tup (xC xs lo hi)) (λb ob q=>N2 _ q) (N6 _) ?_,rfl,q _ (I.hok.fresh (N6 _))⟩;exact⟨Oo (og xs lo hi) f,_,(r.drop (HT.sIx xs.length 0 lo)).take (HT.sIx xs.length xs.length hi-HT.sIx xs.length 0 lo),vm.new _ _⟩
def MT(K:W.Frag):R2:=λx y H Q=>∃a b ns c,x=.ref a/\y=.ref b/\SqT K H a (ns.map V.int)/\SqT K H b (c.map V.int)/\Q (.bl (HT.lexLt ns c)) H
theorem Lo(g:X.A.units<cLine):OpR X (compareOp .Lt) (MT X.K):=by intro pins s σ H x y v u Q I i j h;obtain⟨a,b,ns,f,rfl,rfl,ha,l,q⟩:=h;cases i;cases j;obtain⟨e,m,p1,_⟩:=I.tuple ha;obtain⟨c,n,p2,_⟩:=I.tuple l;have i1:IntsAre e.toArray.toList ns:=intsAre_of m;have i2:IntsAre c.toArray.toList f:=intsAre_of n;exact HT.yU p1 p2 i1 i2 g ⟨.bl (HT.lexLt ns f),H,I,rfl,q⟩
def LU(K:W.Frag):R2:=λx y H Q=>∃a b xs ys,x=.ref a/\y=.ref b/\SqT K H a xs/\SqT K H b ys/\xs≠[]/\xs.length+ys.length<=sizeLine /\
 (ys=[]->Q (.ref a) H)/\(ys≠[]->∀p,H p=none->Q (.ref p) (upd H p (.tup (xs++ys))))
theorem Vals.nil_iff(r:Vals xs us):us=[]↔xs=[]:=by
 cases r with
 |nil=>simp
 |cons _ _=>simp
theorem HU:OpR X (binaryOp .Add) (LU X.K):=by intro pins s σ H x y v u Q I g i h;obtain⟨a,b,xs,ys,rfl,rfl,ha,j,l,f,m,n⟩:=h;cases g;cases i;obtain⟨its,e,p1,_⟩:=I.tuple ha;obtain⟨its2,c,p2,_⟩:=I.tuple j;refine HT.Gg p1 p2 (λz=>l (e.nil_iff.mp z)) (λz=>⟨.ref a,H,I,rfl,m (c.nil_iff.mp z)⟩) (λz=>?_) (by rw[<-e.length,<-c.length];exact f);refine⟨.ref s.heap.objs.size,_,I.laid (t':=s.toks) (o:=.tup (xs++ys)) (λb ob q=>N2 _ q) (N6 _) ?_,rfl,n (λw=>z (c.nil_iff.mpr w)) _ (I.hok.fresh (N6 _))⟩;exact⟨by rw[NC];exact f,_,e.append c,vm.new _ _⟩
end
def ixN(n:Nat)(i:Int):Option Nat:=if 0<=i then (if i<n then some i.toNat else none) else if -(n:Int)<=i then some (i+n).toNat else none
def atI{α:Type}(xs:List α)(i:Int):Option α:=(ixN xs.length i).bind λj=>xs[j]?
theorem uq{i:Int}(h:ixN n i=some j):seqIndex? i n=some j/\j<n/\-(n:Int)<=i/\i<n:=by
 unfold ixN at h;by_cases h0:0<=i
 ·rw[if_pos h0]at h;by_cases h1:i<n
  ·rw[if_pos h1]at h;have e:i.toNat=j:=Option.some.inj h;exact⟨by rw[seqIndex_of h0 h1,e],by omega,by omega,h1⟩
  ·rw[if_neg h1]at h;cases h
 ·rw[if_neg h0]at h;by_cases h1:-(n:Int)<=i
  ·rw[if_pos h1]at h;have e:(i+n).toNat=j:=Option.some.inj h;exact⟨by rw[seqIndex_neg (by omega) h1,e],by omega,h1,by omega⟩
  ·rw[if_neg h1]at h;cases h
theorem Ay{xs:List α}{i:Int}{v:α}(h:atI xs i=some v):∃j,seqIndex? i xs.length=some j/\xs[j]?=some v/\j<xs.length/\-(xs.length:Int)<=i/\i<xs.length:=by
 unfold atI at h;cases e:ixN xs.length i with
 |none=>rw[e]at h;cases h
 |some j =>rw[e]at h;obtain⟨h1,h2,a,b⟩:=uq e;exact⟨j,h1,h,h2,a,b⟩
theorem oR{xs:List α}{v:α}(h:xs[j]?=some v):atI xs (j:Int)=some v:=by
 have hj:j<xs.length:=(NR.mp h).1;have e:ixN xs.length (j:Int)=some j:=by unfold ixN;rw[if_pos (by omega),if_pos (by omega)];simp
 unfold atI;rw[e];exact h
def Al(b:Expr):Prop:=∀o i,subscripted b false o i=operate [o,i] (getItem o i)
def IxR(X:Cx)(r:R2):Prop :=
 ∀(value slice:Expr)(pins:List (Addr×Obj))(s:Shared)(σ:St)(H:Hp)(x y:V)(v u:Value)(Q:VK),Inv X pins σ H s->RelV x v->RelV y u->r x y H Q ->
  subscripted slice false v u=operate [v,u] (getItem v u)->wpAny (model X.prog X.w) X.A (subscriptTail value slice v u) (EP X pins σ Q) X.xe s
def MtR(X:Cx)(id:String)(r:V->List V->Hp->VK->Prop):Prop :=
 ∀(pins:List (Addr×Obj))(s:Shared)(σ:St)(H:Hp)(x:V)(xs:List V)(v:Value)(us:List Value)(Q:VK),Inv X pins σ H s->RelV x v->Vals xs us->r x xs H Q ->
  wpAny (model X.prog X.w) X.A (call (.builtin id) (v::us)) (EP X pins σ Q) X.xe s
section
variable {a b:Expr}{ta tb:TE}
theorem IxR.or{r a:R2}(h:IxR X r)(h':IxR X a):IxR X (λx y H Q=>r x y H Q\/a x y H Q):=by
 intro value slice pins s σ H x y v u Q I b c q e;rcases q with q|q
 ·exact h value slice pins s σ H x y v u Q I b c q e
 ·exact h' value slice pins s σ H x y v u Q I b c q e
theorem FJ{r:R2}(c:IxR X r)(ha:PE X a ta)(e:PE X b tb)(f:Al b):PE X (.Subscript a b pos) (tOp r ta tb):=by intro pins s σ H Q I h;exact Subscript_ (J9 ha e I h λv u s2 x y H2 g i j q=>c a b pins s2 σ H2 x y v u Q g i j q (f _ _))
def LD(K:W.Frag):R2:=λx y H Q=>∃p xs i v,x=.ref p/\y=.int i/\SqL K H p xs/\atI xs i=some v/\Q v H
def L7(K:W.Frag):R2:=λx y H Q=>∃p xs i v,x=.ref p/\y=.int i/\SqT K H p xs/\atI xs i=some v/\Q v H
theorem vL:IxR X (LD X.K):=by
 intro value slice pins s σ H x y v u Q I g l h e;obtain⟨p,xs,i,z,rfl,rfl,m,n,q⟩:=h;cases g;obtain⟨t,rfl⟩:=l;obtain⟨a,r,pl,hz⟩:=I.list m;obtain⟨j,h1,h2,h3,o,A⟩:=Ay n;obtain⟨w,f,b⟩:=r.get h2;have hl:=r.length;have hn:=uO;have fin:EP X pins σ Q w s:=⟨z,H,I,b,q⟩
 by_cases h0:0<=i
 ·have c:i.toNat=j:=by rw[seqIndex_of h0 A]at h1;exact Option.some.inj h1
  exact item_listR pl.isList h0 (by omega) (by rw[c];simpa using f) fin e
 ·have c:(i+(a.toArray.size:Int)).toNat=j:=by rw[seqIndex_neg (by omega) o]at h1;rw[NF,<-hl];exact Option.some.inj h1
  exact subscriptTail_builtinR (x:=w) pl.isList.typeIs slot_list_getitem.lookup
   (wpAny_getItem_list_neg (Q:=λr s'=>r=w/\EP X pins σ Q r s') pl.isList (by omega) (by rw[NF] <;> omega) (by omega) (by rw[c];simpa using f) ⟨rfl,fin⟩) e
theorem Kd:IxR X (L7 X.K):=by
 intro value slice pins s σ H x y v u Q I b c h e;obtain⟨p,xs,i,z,rfl,rfl,f,g,q⟩:=h;cases b;obtain⟨t,rfl⟩:=c;obtain⟨its,r,pl,hz⟩:=I.tuple f;obtain⟨j,h1,h2,h3,h4,h5⟩:=Ay g;obtain⟨w,l,a⟩:=r.get h2;have hl:=r.length;have hn:=uO;have fin:EP X pins σ Q w s:=⟨z,H,I,a,q⟩
 exact subscriptTail_builtinR (x:=w) pl.typeIs slot_tuple_getitem.lookup
  (getItem_tuple (j:=j) (Q:=λr s'=>r=w/\EP X pins σ Q r s') pl (by omega) (by omega) (by rw[NF,<-hl];exact h1) (by simpa using l) ⟨rfl,fin⟩) e
theorem zC(a:List Value)(n j:Nat)(u:Value):Obj.mapSeq (·.setIfInBounds j u) { cls:=.type "list",data:=.seq a.toArray n }={ cls:=.type "list",data:=.seq (a.set j u).toArray n }:=by simp[Obj.mapSeq]
theorem Inv.lst{p:Addr}(I:Inv X pins σ H s)(h:H p=some (.lst xs)) :
  ∃(a:List Value)(n:Nat),Vals xs a/\s.heap.get? p=some { cls:=.type "list",data:=.seq a.toArray n }/\xs.length<=sizeLine:=by
 obtain⟨z,a,n,r,e⟩:=I.hok p _ h;exact⟨a,n,r,e,z⟩
theorem Inv.lstUpd{p:Addr}{a:List Value}{n':Nat}{f:Obj->Obj}(I:Inv X pins σ H s)(h:H p=some (.lst xs))
  (g:s.heap.get? p=some { cls:=.type "list",data:=.seq a.toArray n }) (c:f { cls:=.type "list",data:=.seq a.toArray n }={ cls:=.type "list",data:=.seq its'.toArray n' }) (r:Vals ys its') (i:ys.length<=sizeLine) (t:Nat) :
  Inv X pins σ (upd H p (.lst ys)) { s with heap:=s.heap.update p f,toks:=t }:=by
 have e:(s.heap.update p f).get? p=some { cls:=.type "list",data:=.seq its'.toArray n' }:=by rw[P4 f g (by rw[c] <;> rfl),c]
 refine I.write (x:=p) (e:=p) (by rw[h];trivial) (.inl rfl) (λb u j q=>(Od _ _ (Ne.symm j)).trans q) ⟨_,e⟩ ?_;exact⟨i,its',n',r,e⟩
def Mu:V->V->V->Hp->(Hp->Prop)->Prop:=λo i v H Q=>∃p xs k j,o=.ref p/\i=.int k/\H p=some (.lst xs)/\ixN xs.length k=some j/\Q (upd H p (.lst (xs.set j v)))
theorem set_list:L4 X Mu:=by
 intro pins s σ H o i v ov iv u Q I m w x h;obtain⟨p,xs,k,j,rfl,rfl,e,y,q⟩:=h;cases m;obtain⟨t,rfl⟩:=w;obtain⟨a,n,r,b,z⟩:=I.lst e;obtain⟨h1,h2,f,g⟩:=uq y;have hl:=r.length;have hn:=uO;have l:Inv X pins σ (upd H p (.lst (xs.set j v))) { s with heap:=s.heap.update p (Obj.mapSeq (·.setIfInBounds j u)) } :=
  I.lstUpd e b (zC a n j u) (r.set x j) (by rw[List.length_set];exact z) s.toks
 by_cases h0:0<=k
 ·have c:k.toNat=j:=by rw[seqIndex_of h0 g]at h1;exact Option.some.inj h1
  exact W.ki_setAt b h0 (by omega) (by rw[NF,<-hl];exact g) (by rw[c];exact⟨_,l,q⟩)
 ·have c:(k+(a.toArray.size:Int)).toNat=j:=by rw[seqIndex_neg (by omega) f]at h1;rw[NF,<-hl];exact Option.some.inj h1
  exact W.ki_setBack b (by omega) (by rw[NF,<-hl];exact f) (by omega) (by rw[c];exact⟨_,l,q⟩)
theorem uN(lo hi:Option Int)(n:Nat):(sliceBounds lo hi none n).1=((HT.sIx n 0 lo:Nat):Int)/\(sliceBounds lo hi none n).2.1=((HT.sIx n n hi:Nat):Int)/\(sliceBounds lo hi none n).2.2=1:=by
 refine⟨?_,?_,rfl⟩
 ·cases lo with
  |none=>simp[sliceBounds,HT.sIx]
  |some i =>
   simp only[sliceBounds,HT.sIx,Option.getD_none,show (1:Int)>0 by decide,if_true];by_cases h:i<0
   ·simp only[h,if_true] <;> omega
   ·simp only[h,if_false] <;> omega
 ·cases hi with
  |none=>simp[sliceBounds,HT.sIx]
  |some i =>
   simp only[sliceBounds,HT.sIx,Option.getD_none,show (1:Int)>0 by decide,if_true];by_cases h:i<0
   ·simp only[h,if_true] <;> omega
   ·simp only[h,if_false] <;> omega
theorem sg(a:List Value)(lo hi:Option Int):slicePick a.toArray lo hi none=((a.drop (HT.sIx a.length 0 lo)).take (HT.sIx a.length a.length hi-HT.sIx a.length 0 lo)).toArray:=by obtain⟨h1,h2,b⟩:=uN lo hi a.toArray.size;unfold slicePick;rw[h1,h2,b];simp only[sliceRange_one,pick_run,NF] <;> rfl
def Nk(K:W.Frag):V->Option Int->Option Int->Hp->VK->Prop:=λx lo hi H Q=>∃a xs,x=.ref a/\SqL K H a xs/\∀p,H p=none->Q (.ref p) (upd H p (.lst (xC xs lo hi)))
theorem F5:SlR X (Nk X.K):=by intro pins s σ H x v vl vu lo hi sl Q I e f pl g h;obtain⟨a,xs,rfl,i,q⟩:=h;cases e;obtain⟨its,r,c,j⟩:=I.list i;have hlen:=r.length;refine⟨"list",_,slot_list_getitem.lookup,c.isList.typeIs,?_⟩;refine wpAny_getItem_list_slice c.isList f pl g .none (by simp) ?_ (by rw[NF] <;> omega);rw[sg,<-hlen];refine⟨.ref s.heap.objs.size,_,I.laid (t':=s.toks) (o:=.lst (xC xs lo hi)) (λb ob q=>N2 _ q) (N6 _) ?_,rfl,q _ (I.hok.fresh (N6 _))⟩;exact⟨Oo (og xs lo hi) j,_,0,(r.drop (HT.sIx xs.length 0 lo)).take (HT.sIx xs.length xs.length hi-HT.sIx xs.length 0 lo),NB _ rfl⟩
def jE:V->Bool
 |.non=>true
 |.bl _=>true
 |.int _=>true
 |.str _=>true
 |_=>false
def eqV:V->V->Bool
 |.non,.non=>true
 |.bl a,.bl b=>a==b
 |.bl a,.int b=>(if a then 1 else 0)==b
 |.int a,.bl b=>a==(if b then 1 else 0)
 |.int a,.int b=>a==b
 |.str a,.str b=>a==b
 |_,_=>false
theorem Kb{A:Around}{x:V}{v:Value}(e:RelV y u)(c:RelV x v)(g:jE y=true)(f:jE x=true):SeqAt.EqAt A s u v (eqV y x):=by
 cases y with
 |non =>
  cases e;cases x with
  |non=>cases c;exact SeqAt.EqAt.same _
  |bl b=>cases c;exact SeqAt.EqAt.none_bool b
  |int b=>obtain⟨t,rfl⟩:=c;exact SeqAt.EqAt.none_int b t
  |str b=>obtain⟨t,rfl⟩:=c;exact SeqAt.EqAt.none_str b t
  |_=>exact absurd (show false=true from f) NO
 |bl a =>
  cases e;cases x with
  |non=>cases c;exact SeqAt.EqAt.bool_none a
  |bl b=>cases c;exact SeqAt.EqAt.bool_bool a b
  |int b=>obtain⟨t,rfl⟩:=c;exact SeqAt.EqAt.bool_int a b t
  |str b=>obtain⟨t,rfl⟩:=c;exact SeqAt.EqAt.bool_str a b t
  |_=>exact absurd (show false=true from f) NO
 |int a =>
  obtain⟨t',rfl⟩:=e;cases x with
  |non=>cases c;exact SeqAt.EqAt.int_none a t'
  |bl b=>cases c;exact SeqAt.EqAt.int_bool a t' b
  |int b=>obtain⟨t,rfl⟩:=c;exact SeqAt.EqAt.int_int a t' b t
  |str b=>obtain⟨t,rfl⟩:=c;exact SeqAt.EqAt.int_str a t' b t
  |_=>exact absurd (show false=true from f) NO
 |str a =>
  obtain⟨t',rfl⟩:=e;cases x with
  |non=>cases c;exact SeqAt.EqAt.str_none a t'
  |bl b=>cases c;exact SeqAt.EqAt.str_bool a t' b
  |int b=>obtain⟨t,rfl⟩:=c;exact SeqAt.EqAt.str_int a t' b t
  |str b=>obtain⟨t,rfl⟩:=c;exact SeqAt.EqAt.str_str a t' b t
  |_=>exact absurd (show false=true from f) NO
 |_=>exact absurd (show false=true from g) NO
def eqU(x:V)(u:Value):Bool:=match u with
 |.none=>eqV .non x
 |.bool b=>eqV (.bl b) x
 |.int i _=>eqV (.int i) x
 |.str z _=>eqV (.str z) x
 |_=>false
theorem zB{x:V}(r:RelV y u)(f:jE y=true):eqU x u=eqV y x:=by
 cases y with
 |non=>cases r;rfl
 |bl b=>cases r;rfl
 |int i=>obtain⟨t,rfl⟩:=r;rfl
 |str z=>obtain⟨t,rfl⟩:=r;rfl
 |_=>exact absurd (show false=true from f) NO
theorem uL{x:V}:∀{xs:List V}{us:List Value},Vals xs us->xs.all jE=true->us.any (eqU x)=xs.any λy=>eqV y x
 |_,_,.nil,_=>rfl
 |y::xs,u::us,.cons r t,f=>by rw[P9,N7]at f;rw[OP,OP,zB r f.1,uL t f.2]
theorem mG{A:Around}{s:Shared}{x:V}{v:Value}(b:RelV x v)(c:jE x=true):∀{xs:List V}{us:List Value},Vals xs us->xs.all jE=true->∀u∈us,SeqAt.EqAt A s u v (eqU x u)
 |_,_,.nil,_=>λu a=>by cases a
 |y::xs,u::us,.cons r t,f=>λe a=>by
  rw[P9,N7]at f;rcases N5.mp a with rfl|a
  ·rw[zB r f.1];exact Kb r b f.1 c
  ·exact mG b c t f.2 e a
def inV(x:V)(xs:List V):Bool:=xs.any λy=>eqV y x
def rIn(K:W.Frag)(neg:Bool):R2:=λx y H Q=>∃p xs,y=.ref p/\(SqL K H p xs\/SqT K H p xs)/\jE x=true/\xs.all jE=true/\Q (.bl (if neg then !inV x xs else inV x xs)) H
theorem BE:OpR X (compareOp .In) (rIn X.K false):=by
 intro pins s σ H x y v u Q I c f h;obtain⟨p,xs,rfl,b,e,fs,q⟩:=h;cases f;rcases b with b|b
 ·obtain⟨a,r,pl,g⟩:=I.list b;refine SeqAt.in_listAt (eqU x) pl.isList (λw hw=>mG c e r fs w (by simpa using hw)) ⟨.bl _,H,I,rfl,?_⟩;rw[show a.toArray.any (eqU x)=a.any (eqU x) by simp,uL r fs];exact q
 ·obtain⟨a,r,pl,g⟩:=I.tuple b;refine SeqAt.in_tupleAt (eqU x) pl (λw hw=>mG c e r fs w (by simpa using hw)) ⟨.bl _,H,I,rfl,?_⟩;rw[show a.toArray.any (eqU x)=a.any (eqU x) by simp,uL r fs];exact q
theorem jl:j8 X (.builtin "len") (λxs H Q=>∃p ys,xs=[.ref p]/\(SqL X.K H p ys\/SqT X.K H p ys)/\Q (.int ys.length) H):=by
 intro pins s σ H xs us Q I r h;obtain⟨p,ys,rfl,a,q⟩:=h;obtain⟨u,rfl,e⟩:=vals1 r;cases e;have hn:=uO;rcases a with a|a
 ·obtain⟨b,c,pl,f⟩:=I.list a;have hlen:=c.length;exact Calls.call_len_list pl.isList (by simp only[NF] <;> omega) ⟨.int ys.length,H,I.tok _,⟨s.toks+1,by rw[NF,hlen]⟩,q⟩
 ·obtain⟨b,c,pl,f⟩:=I.tuple a;have hlen:=c.length;exact len_tuple pl (by simp only[NF] <;> omega) ⟨.int ys.length,H,I.tok _,⟨s.toks+1,by rw[NF,hlen]⟩,q⟩
theorem rX:j8 X (.type "tuple") (λxs H Q=>∃p ys,xs=[.ref p]/\((SqL X.K H p ys/\∀l,H l=none->Q (.ref l) (upd H l (.tup ys)))\/(SqT X.K H p ys/\Q (.ref p) H))):=by
 intro pins s σ H xs us Q I r h;obtain⟨p,ys,rfl,h⟩:=h;obtain⟨u,rfl,j⟩:=vals1 r;cases j;rcases h with⟨c,q⟩|⟨c,q⟩
 ·obtain⟨a,f,pl,g⟩:=I.list c;have hlen:=f.length;refine call_tuple_list pl.isList (λh' kp=>?_) (by simp only[NF] <;> omega);have i:Inv X pins σ H { s with heap:=h' }:=I.kept (t':=s.toks) kp;have m:Inv X pins σ (upd H h'.objs.size (.tup ys)) { s with heap:=h'.push { cls:=.type "tuple",data:=.seq a.toArray } } :=
   i.laid (t':=s.toks) (λb o e=>N2 _ e) (N6 _) (show dr X.prog X.w _ _ _ (.tup ys) from⟨g,a,f,vm.new _ _⟩)
  exact⟨.ref h'.objs.size,_,m,rfl,q _ (i.hok.fresh (N6 _))⟩
 ·obtain⟨a,f,pl,g⟩:=I.tuple c;exact call_tuple_same pl ⟨.ref p,H,I,rfl,q⟩
def tyV(K:W.Frag)(T:String)(x:V)(H:Hp):Prop:=match x with
 |.str _=>T="str"
 |.int _=>T="int"
 |.ref p=>(T="list"/\∃xs,SqL K H p xs)\/(T="tuple"/\∃o,K.lookup p=some o/\o.cls=.type "tuple"/\o.dict=none) \/
  (T="dict"/\((∃kvs,H p=some (.dK kvs))\/∃kvs,H p=some (.dT kvs)))\/(T="set"/\∃S n,H p=some (.set S n))
 |_=>False
theorem Jp{T:String}{x:V}{v:Value}(I:Inv X pins σ H s)(r:RelV x v)(ty:tyV X.K T x H) :
  s.TypeIs v T/\∀a,v=.ref a->∃f,s.heap.get? a=some f/\f.dict=none:=by
 cases x with
 |str z =>obtain⟨t,rfl⟩:=r;cases (show T="str" from ty);exact⟨typeIs_str s z t,λ_ e=>nomatch e⟩
 |int i =>obtain⟨t,rfl⟩:=r;cases (show T="int" from ty);exact⟨typeIs_int s i t,λ_ e=>nomatch e⟩
 |ref p =>
  cases r;rcases ty with⟨rfl,xs,g⟩|⟨rfl,o,b,hc,hd⟩|⟨rfl,b⟩|⟨rfl,S,n,b⟩
  ·obtain⟨its,_,pl,_⟩:=I.list g;refine⟨pl.isList.typeIs,λa e=>?_⟩;cases e;obtain⟨o,n,e,c,hd,_⟩:=pl;exact⟨o,e,hd⟩
  ·refine⟨⟨o,I.kIn p o b,hc⟩,λa e=>?_⟩;cases e;exact⟨o,I.kIn _ o b,hd⟩
  ·have z:∃o,s.heap.get? p=some o/\o.ExactDict:=by
    rcases b with⟨kvs,b⟩|⟨kvs,b⟩
    ·obtain⟨_,_,_,_,o,_,_,e,ex,_⟩:=I.hok p _ b;exact⟨o,e,ex⟩
    ·obtain⟨_,_,_,_,o,_,_,e,ex,_⟩:=I.hok p _ b;exact⟨o,e,ex⟩
   obtain⟨o,e,ex⟩:=z;refine⟨⟨o,e,ex.1⟩,λa e2=>?_⟩;cases e2;exact⟨o,e,ex.2.1⟩
  ·obtain⟨o,_,_,_,e,ex,_⟩:=I.hok p _ b;refine⟨⟨o,e,ex.1⟩,λa e2=>?_⟩;cases e2;exact⟨o,e,ex.2.1⟩
 |_=>exact False.elim ty
def tBM(K:W.Frag)(T:String)(r:V->List V->Hp->VK->Prop)(to:TE)(t:TA):TE:=λσ H Q=>to σ H λx H1=>tyV K T x H1/\t σ H1 λxs H2=>r x xs H2 Q
variable {o e:Expr}{es:List Expr}{to:TE}{t:TA}{name:Str}{apos:Pos}{T id:String}{r:V->List V->Hp->VK->Prop}
theorem Dw(p:PlainAttrs T)(slot:Slot T name id)(g:typeOf (.builtin id)=pure (.type "method_descriptor"))(hm:MtR X id r)(q:PE X o to)(ha:PA X (e::es) t)
  (b:attributeBase o name X.env (eval o X.env)=eval o X.env:=by rfl)
  (f:((backTo cpos (starEach (e::es) X.env)).all (λx=>!x.1)&&(backToKw cpos (keywordEach [] X.env)).all (λx=>x.1.isSome)
  &&decide ((e::es).length+([]:List Keyword).length+(if ([]:List Keyword).isEmpty then 0 else 1)<30))=true:=by rfl)
  (c:(apos.endLine==cpos.line)=true:=by rfl) (u:starEach (e::es) X.env=(false,eval e X.env)::starEach es X.env:=by rfl) (a:(backTo cpos (starEach es X.env)).any (·.1)=false:=by rfl) :
  PE X (.Call (.Attribute o name apos) (e::es) [] cpos) (tBM X.K T r to t):=by
 intro pins s σ H Q I h;refine wpAny_Call_method_late b f c rfl (thn (q pins s σ H _ I h) λv w i=>?_);obtain⟨x,H1,l,m,ty,y⟩:=i;obtain⟨h1,h2⟩:=Jp l m ty;refine⟨T,id,p,slot,g,h1,h2,?_⟩;have n:=ha cpos pins w σ H1 _ l y;rw[u]at n ⊢;refine Calls.callWith_builtin (by show (false||(backTo cpos (starEach es X.env)).any (·.1))=false;rw[a] <;> rfl) (Calls.evalArgs_plain ?_);exact thn n λus s2 j=>(by obtain⟨vs,H2,z,A,B⟩:=j;exact hm pins s2 σ H2 x vs v us Q z m A B)
end
def MtM(X:Cx)(id:String)(r:V->List V->Hp->VK->Prop):Prop :=
 ∀(pins:List (Addr×Obj))(s:Shared)(σ:St)(H:Hp)(x:V)(xs:List V)(v:Value)(us:List Value)(Q:VK),Inv X pins σ H s->RelV x v->Vals xs us->r x xs H Q ->
  wpAny (model X.prog X.w) X.A (call (.builtin id) (v::us)) (EP X pins σ Q) X.xe s
theorem Vals.one{x:V}(h:Vals [x] us):∃u,us=[u]/\RelV x u:=by
 cases h with
 |cons r t=>cases t;exact⟨_,rfl,r⟩
theorem Vals.eraseIdx:∀{xs:List V}{us:List Value}(i:Nat),Vals xs us->Vals (xs.eraseIdx i) (us.eraseIdx i)
 |_,_,_,.nil=>.nil
 |_,_,0,.cons _ t=>t
 |_,_,i+1,.cons r t=>.cons r (Vals.eraseIdx i t)
theorem Vals.rep{xs:List V}{us:List Value}(h:Vals xs us):∀k:Nat,Vals (List.replicate k xs).flatten (List.replicate k us).flatten
 |0=>.nil
 |k+1=>by rw[Ou,Ou,OJ,OJ];exact Vals.append h (Vals.rep h k)
theorem su{α:Type}:∀(l:List α)(i:Nat),(l.eraseIdx i).length<=l.length
 |[],_=>N6 _
 |_::_,0=>Pb _
 |_::r,i+1=>Nat.succ_le_succ (su r i)
theorem foldl_rep(a:List Value):∀(k:Nat)(acc:List Value),
  List.foldl (λx1 x2=>x1++x2) acc.toArray (List.replicate k a.toArray)=(acc++(List.replicate k a).flatten).toArray
 |0,acc=>by simp
 |k+1,acc=>by
  have e:acc.toArray++a.toArray=(acc++a).toArray:=by simp
  have e2:(acc++a)++(List.replicate k a).flatten=acc++(List.replicate (k+1) a).flatten:=by rw[Ou,OJ,Of]
  rw[<-e2,<-foldl_rep a k (acc++a),<-e,Ou,Pg]
section
variable {l:Addr}{zs:List V}
theorem Inv.lset{f:Array Value->Array Value}{t':Nat}(I:Inv X pins σ H s)(b:H l=some (.lst xs))
  (e:s.heap.get? l=some { cls:=.type "list",data:=.seq a.toArray n }) (c:f a.toArray=its'.toArray) (g:Vals ys its') (h:ys.length<=sizeLine) :
  Inv X pins σ (upd H l (.lst ys)) { s with heap:=s.heap.update l (Obj.mapSeq f),toks:=t' }:=by
 have q:=PySem.IsL.update e f;rw[c]at q;refine I.write (x:=l) (e:=l) (by rw[b];exact trivial) (.inl rfl) (λb' u i j=>(Od s.heap (Obj.mapSeq f) (Ne.symm i)).trans j) ⟨_,q⟩ ?_;exact⟨h,its',_,g,q⟩
theorem Inv.lnew{t':Nat}(I:Inv X pins σ H s)(b:Vals ys a)(c:ys.length<=sizeLine) :
  Inv X pins σ (upd H s.heap.objs.size (.lst ys)) { s with heap:=s.heap.push { cls:=.type "list",data:=.seq a.toArray },toks:=t' } :=
 I.laid (λ_ _ q=>N2 _ q) (N6 _) ⟨c,a,0,b,NB _ rfl⟩
theorem Inv.fresh(I:Inv X pins σ H s):H s.heap.objs.size=none:=I.hok.fresh (N6 _)
theorem Inv.lstM(I:Inv X pins σ H s)(b:H l=some (.lst xs)):xs.length<=sizeLine/\∃(a:List Value)(n:Nat),Vals xs a/\xs.length=a.length/\s.heap.get? l=some { cls:=.type "list",data:=.seq a.toArray n }:=by obtain⟨z,a,n,r,e⟩:=I.hok l _ b;exact⟨z,a,n,r,r.length,e⟩
theorem De(h:n<=sizeLine):Builtin.List.listTooLong n=false:=by unfold Builtin.List.listTooLong;exact decide_eq_false (by omega)
end
section
def GH:V->List V->Hp->VK->Prop:=λx vs H Q=>∃l xs y,x=.ref l/\vs=[y]/\H l=some (.lst xs)/\xs.length<sizeLine/\Q .non (upd H l (.lst (xs++[y])))
theorem mM:MtM X "list.append" GH:=by intro pins s σ H x vs v us Q I c f h;obtain⟨l,xs,y,rfl,rfl,b,hz,q⟩:=h;cases c;obtain⟨u,rfl,g⟩:=f.one;obtain⟨z,a,n,r,hl,e⟩:=I.lstM b;refine call_meets F.slot_list_append ⟨_,e,rfl⟩ F.entry_list_append (F.args_list_append_2 _ _) (PySem.list_append l a.toArray n u (by rw[NF];omega)) ⟨e,?_⟩;refine⟨.non,_,I.lset (its':=a++[u]) b e (by simp) (r.append (.cons g .nil)) ?_,rfl,q⟩;rw[NC,Oa];omega
def Ja:V->List V->Hp->VK->Prop:=λx vs H Q=>∃l xs i k y,x=.ref l/\vs=[.int i]/\H l=some (.lst xs)/\-(2 ^ 63)<=i/\i<2 ^ 63/\seqIndex? i xs.length=some k/\xs[k]?=some y/\Q y (upd H l (.lst (xs.eraseIdx k)))
theorem FH:MtM X "list.pop" Ja:=by
 intro pins s σ H x vs v us Q I f g h;obtain⟨l,xs,i,k,y,rfl,rfl,c,h1,h2,j,m,q⟩:=h;cases f;obtain⟨u,rfl,o⟩:=g.one;obtain⟨t,rfl⟩:=o;obtain⟨z,a,n,r,hl,e⟩:=I.lstM c;obtain⟨w,hw,b⟩:=r.get m;refine call_meets F.slot_list_pop ⟨_,e,rfl⟩ F.entry_list_pop (F.args_list_pop_2 _ _)
  (MeetsSeq.list_pop_at l a.toArray n i t k w (fitsIndex_both h1 h2) (by rw[NF,<-hl];exact j) (by rw[<-P5];exact hw) (by rw[NF];omega)) ⟨e,?_⟩
 refine⟨y,_,I.lset (its':=a.eraseIdx k) c e ?_ (r.eraseIdx k) ?_,b,q⟩
 ·show a.toArray.eraseIdxIfInBounds k=(a.eraseIdx k).toArray;rw[List.eraseIdxIfInBounds_toArray]
 ·have:=su xs k;omega
def LO:R2:=λx y H Q=>∃l b xs zs,x=.ref l/\y=.ref b/\H l=some (.lst xs)/\H b=some (.lst zs)/\xs.length+zs.length<=sizeLine/\∀p,H p=none->Q (.ref p) (upd H p (.lst (xs++zs)))
theorem JK:OpR X (binaryOp .Add) LO:=by
 intro pins s σ H x y v u Q I f g h;obtain⟨l,b,xs,zs,rfl,rfl,i,hB,hz,q⟩:=h;cases f;cases g;obtain⟨z,c,n,r,hl,e⟩:=I.lstM i;obtain⟨z2,a,n2,j,hl2,e2⟩:=I.lstM hB;refine PySem.P.add_list e e2 ?_ (by rw[NF,NF];omega);have ea:c.toArray++a.toArray=(c++a).toArray:=by simp
 rw[ea];exact⟨.ref _,_,I.lnew (t':=s.toks) (r.append j) (by rw[NC];omega),rfl,q _ I.fresh⟩
def LM:R2:=λx y H Q=>∃l k xs,x=.ref l/\y=.int k/\H l=some (.lst xs)/\-(2 ^ 63)<=k/\k<2 ^ 63/\xs.length*k.toNat<=sizeLine /\
 ∀p,H p=none->Q (.ref p) (upd H p (.lst (List.replicate k.toNat xs).flatten))
theorem len_rep(xs:List α)(k:Nat):(List.replicate k xs).flatten.length=k*xs.length:=by
 induction k with
 |zero=>simp
 |succ k ih=>rw[Ou,OJ,NC,ih,Nat.succ_mul,Nat.add_comm]
theorem Ka:OpR X (binaryOp .Mult) LM:=by
 intro pins s σ H x y v u Q I o p h;obtain⟨l,k,xs,rfl,rfl,w,h1,h2,j,q⟩:=h;cases o;obtain⟨t,rfl⟩:=p;obtain⟨z,b,n,r,hl,e⟩:=I.lstM w;have hlen:b.toArray.size*k.toNat<=sizeLine:=by rw[NF,<-hl];exact j
 have f:¬ b.toArray.size*k.toNat>(2 ^ 63-1) / 8:=by
  have:(sizeLine:Nat)<=(2 ^ 63-1) / 8:=by decide
  omega
 have g:¬ (!Builtin.List.listFitsIndex k)=true:=by rw[fitsIndex_both h1 h2];exact NO
 have c:¬ Builtin.List.listTooLong (b.toArray.size*k.toNat)=true:=by rw[De hlen];exact NO
 have i:List.foldl (λx1 x2=>x1++x2) #[] (List.replicate (if b.toArray.isEmpty=true then 0 else k.toNat) b.toArray)=(List.replicate k.toNat b).flatten.toArray:=by
  have A:∀m:Nat,List.foldl (λx1 x2=>x1++x2) #[] (List.replicate m b.toArray)=(List.replicate m b).flatten.toArray:=λm=>by have:=foldl_rep b m [];rw[O9]at this;exact this
  rw[A];cases b with
  |nil=>simp
  |cons a r'=>rw[if_neg (by simp)]
 refine wpAny_binaryOp_repeat_ref (T:="list") (U:="int") (by decide) ⟨_,e,rfl⟩ (λs'=>typeIs_int s' k t) noFill_list_mul F.fills_int_mul F.slot_int_rmul repeat_list F.slot_int_index.lookup
  (call_meets F.slot_int_rmul (typeIs_int s k t) F.entry_int_rmul (F.args_int_rmul_2 _ _) (int___rmul___int_list k t l b.toArray n)
   ⟨e,rfl,⟨_,e,rfl⟩,call_meets F.slot_list_mul ⟨_,e,rfl⟩ F.entry_list_mul (F.args_list_mul_2 _ _) (AutoListH.list___mul___list_int_3 l b.toArray n k t g f c) ⟨e,?_⟩⟩)
 rw[i];exact⟨.ref _,_,I.lnew (t':=s.toks) (r.rep k.toNat) (by rw[len_rep,Nat.mul_comm];exact j),rfl,q _ I.fresh⟩
end
section
variable {A:Around}
end
section
end
end L2
namespace Att
open PySem PySem.W PySem.Calls PyProof.Rows
theorem oM{P:Params}:∀(ns:List Int)(vs:List Value),WellAll P h vs (ns.map WData.int)->IntsAre vs ns:=by
 intro ns
 induction ns with
 |nil =>intro vs w;rw[Oq]at w;cases w;exact .nil
 |cons n ns ih =>
  intro vs w;rw[N1]at w;cases w with
  |cons a b =>cases a;exact .cons _ _ (ih _ b)
theorem CO{l:OpenLaw}{n:Nat}(hn:l.most=some n){P:Params}{args:List WData}{vals:List Value}
  (b:l.row.toRowW.claim.pre args=true) (f:WellAll P h vals args) :
  ∃a vs ns,vals=[Value.ref a]/\args=[WData.list (ns.map WData.int)]/\h.get? a=some { cls:=.type "list",data:=.seq vs.toArray }/\IntsAre vs ns/\ns.length<=n:=by
 have g:WShape.hasAll [] args [.list .int]=true:=(pre_splitW b).1;have hc:l.pre.holds [] { args:=args }=true:=(pre_splitW b).2;obtain⟨d,r,rfl,h1,h2⟩:=hasAllW_cons g;obtain rfl:=hasAllW_nil h2;obtain⟨xs,rfl,i⟩:=hasW_list h1;obtain⟨ns,rfl⟩:=items_int i;have hlen:ns.length<=n:=by
  unfold OpenLaw.pre at hc;have c:(WTm.not (.lt (.lit (.int (n:Int))) (.len (.arg 0)))).holds [] { args:=[.list (ns.map .int)] }=true:=by have c:=(holds_andW hc).1;rw[hn]at c;exact c
  have e:=condW_of c (w_not (w_lt w_lit (w_len_list (w_arg rfl))));rw[N4]at e;refine Nat.le_of_not_lt λq=>?_
  have j:(n:Int)<((ns.length:Nat):Int):=by omega
  first
   |(rw[decide_eq_true j]at e;exact absurd e (by decide))
   |(simp at e;omega)
 cases f with
 |cons w1 w2 =>
  cases w2;cases w1 with
  |list ho hall=>exact⟨_,_,ns,rfl,rfl,ho,oM ns _ hall,hlen⟩
theorem BX(l:OpenLaw)(args:List WData):l.row.toRowW.claim.post args (.bool true) args=true :=
 postW_of (r:=l.row.toRowW) (X:=(true==true))
  (show WShape.has [] (.bool true) .bool=true by first|rfl|decide|simp[WShape.has,WShape.arms,WShape.armsAll])
  (show (WTm.eq .res (.lit (.bool true))).value [] { args:=args,res:=some (.bool true),after:=args }=some (.bool (true==true)) from w_eq_bool (w_res rfl) w_lit) rfl
theorem wX{l:OpenLaw}{n:Nat}{d:DefRec}
  (hn:l.most=some n) (h:d.params.defaults=[])
  (call:∀(w:World)(s₀ b:Shared)(mg i:Str->Option Value)(c:Addr)(o:Obj)(pm cd doc:Value)(a:Addr)(vs:List Value)(ns:List Int),
   Ground q loose [] XP w s₀ mg i b.heap->YP w b.heap ->
   b.heap.get? c=some o->o.data=.func (docDef d.name d.params d.body d.scope pm cd doc)->b.heap.CodeRec cd d.name->mg d.name=some (.ref c) ->
   b.heap.get? a=some { cls:=.type "list",data:=.seq vs.toArray }->IntsAre vs ns->ns.length<=n->b.gens=#[] ->
   codeAny (model l.prog w) callerA (.call (.ref c) ⟨[.ref a],[]⟩) (λr s'=>r=.ok (.ret (.bool true))/\OldK b.heap s'.heap/\s'.os=b.os/\AllBare s'.gens) b) :
  WalkO q loose XP YP l.row.toRowW d [] (λf vs=>PySem.call f vs):=by
 intro w s₀ b mg i G Y c o pm cd doc u kV v hd j s m x args vals as e hlay hrd p hlo;obtain rfl:u=.none:=Dflts.none s h;obtain rfl:kV=.none:=Dflts.noKw s;obtain⟨a,vs,ns,rfl,rfl,g,hints,hlen⟩:=CO hn e p;refine enter_call (codeAny_mono (call w s₀ b mg i c o pm cd doc a vs ns G Y v (fd_plain hd) j m g hints hlen x) λr s' y=>?_);obtain⟨rfl,h2,z,A⟩:=y;exact⟨.inl ⟨.bool true,.bool true,[],rfl,λ_=>rfl,.bool true,BX l _,λ_=>⟨List.Pairwise.nil,λ_ hm=>(nomatch hm)⟩⟩,h2,z,A⟩
section
variable {A:Around}{K:Frag}
end
end Att
namespace L2
open PySem PySem.Spec PyProof.Rows
theorem sv:∀{vs:List Value}{ns:List Int},IntsAre vs ns->Vals (ns.map V.int) vs
 |_,_,.nil=>.nil
 |_,_,.cons n t h=>.cons ⟨t,rfl⟩ (sv h)
def K3(H:Hp):Prop:=∀b,H b=none\/(∃o xs,H b=some (.frz o (.lst xs)))\/∃q,H b=some (.tbl q)
def mS(K:W.Frag)(h:Heap):Prop:=(∀P q,TabOf K P q->h.get? P=some { cls:=.none,data:=.fields #[] }/\K.lookup P=none/\isCodeTable h P)/\∀P q a,TabOf K P q->TabOf K P a->q=a
section
open Classical
def kL(K:W.Frag):Hp:=λb=>if h:∃q,TabOf K b q then some (.tbl h.choose) else none
theorem dE(K:W.Frag)(b:Addr):kL K b=none\/∃q,TabOf K b q/\kL K b=some (.tbl q):=by
 unfold kL;split
 ·rename_i h;exact .inr ⟨_,h.choose_spec,rfl⟩
 ·exact .inl rfl
theorem t9(a:mS K h){P:Addr}{q:Str}(t:TabOf K P q):kL K P=some (.tbl q):=by
 rcases dE K P with e|⟨b,t',e⟩
 ·unfold kL at e;rw[dif_pos ⟨q,t⟩]at e;cases e
 ·rw[e,a.2 P q b t t']
end
def nZ(mg:Str->Option Value)(base:Heap):Prop:=∃bm o,mg "__builtins__"=some (.ref bm)/\bm≠builtinsNs/\bm≠mainGlobals/\base.get? bm=some o/\o.cls=.type "module"/\o.dict=some builtinsNs/\o.data=.plain
theorem law_call{O:Str->Option Value}{k:Nat}{Q:Addr}{c:Shared}{vs:List Value}
  (KX:K.In c.heap) (E:c.heap.Ns mainGlobals mg) (i:c.heap.Ns builtinsNs O) (R:∀x:Str,x≠"__name__"->O x=bootBuiltins x) (G:c.heap.NoLimit) (hg:c.gens=#[])
  (ha:c.heap.get? a=some { cls:=.type "list",data:=.seq vs.toArray }) (hi:IntsAre vs ns) (hl:ns.length<=sizeLine) (hr:cj k callerA)
  (S:nZ mg c.heap) (F:∀base:Heap,K.In base->base.Ns mainGlobals mg->nZ mg base->gQ P w K mg base CX k Q fd [x] sp) (A:∀(s:Shared)(u:Value),BindsTo s fd ⟨[u],[]⟩ [(x,u)])
  (T:∀H:Hp,K3 H->SqL K H a (ns.map V.int)->sp [.ref a] H (λv _=>v=.bl true) λ_ _ _=>False)
  (U:∀H e s',CX [] H c (λ_ _ _=>False) e s'->False) (j:mS K c.heap) :
  codeAny (model P w) callerA (.call (.ref Q) ⟨[.ref a],[]⟩) (λr s'=>r=.ok (.ret (.bool true))/\OldK c.heap s'.heap/\s'.os=c.os/\AllBare s'.gens) c:=by
 have rv:=sv hi;have I:=hi.length
 -- from an abstract heap in which nothing but the script may be tracked
 have core:∀H:Hp,K3 H->SqL K H a (ns.map V.int)->HOk P w H c.heap->(∀b,H b≠none->b=a\/∃q,TabOf K b q)->(H a≠none->K.lookup a=none)->(∀P q,TabOf K P q->H P=some (.tbl q)) ->
   codeAny (model P w) callerA (.call (.ref Q) ⟨[.ref a],[]⟩) (λr s'=>r=.ok (.ret (.bool true))/\OldK c.heap s'.heap/\s'.os=c.os/\AllBare s'.gens) c:=by
  intro H hO hS hok N hK X;have f:∀{b:Addr}{o:Obj},c.heap.get? b=some o->H b=none->(rS c.heap H).get? b=some o:=λe n=>Ec e n
  have Y:∀{b:Addr}{o:Obj}{es:Array DictEntry}{J:Nat},c.heap.get? b=some o->o.data=.dict es J->H b=none:=λ{b o es J} e d=>by
   cases q:H b with
   |none=>rfl
   |some u =>
    rcases N b (by rw[q];simp) with g|⟨B,g⟩
    case inr=>rw[(j.1 b B g).1]at e;cases e;cases d
    subst g;rw[ha]at e;cases e;have d':Data.seq vs.toArray _=Data.dict es J:=d;cases d'
  have l:∀{b:Addr}{m:Str->Option Value},c.heap.Ns b m->(rS c.heap H).Ns b m:=λ{b m} qz2=>(by obtain⟨o,es,J,e,d,r⟩:=qz2;exact⟨o,es,J,f e (Y e d),d,r⟩)
  have L:K.In (rS c.heap H):=λb o e=>f (KX b o e) (by
   cases q:H b with
   |none=>rfl
   |some u =>
    rcases N b (by rw[q];simp) with g|⟨B,g⟩
    case inr=>rw[(j.1 b B g).2.1]at e;cases e
    subst g;rw[hK (by rw[q];simp)]at e;cases e)
  have hM:Mod K mg (rS c.heap H):=⟨L,l E,⟨O,l i,R⟩,let ⟨mc,h1,h2⟩:=G;⟨mc,l h1,h2⟩⟩
  have e0:vC P w K mg (rS c.heap H) callerA [] c H:=⟨rfl,hM,λb o e=>Hd e,Nat.le_of_eq (BS _ _),trivial,λb i=>absurd (show b∈([]:List Addr) from i) (by simp),hok,.of_eq hg,X⟩
  have Z:nZ mg (rS c.heap H):=by
   obtain⟨bm,ob,b1,b2,b3,M,b5,b6,b7⟩:=S;refine⟨bm,ob,b1,b2,b3,f M ?_,b5,b6,b7⟩;cases q:H bm with
   |none=>rfl
   |some u =>
    rcases N bm (by rw[q];simp) with g|⟨B,g⟩
    case inr=>rw[(j.1 bm B g).1]at M;cases M;cases b5
    subst g;rw[ha]at M;cases M;simp at b5
  refine codeAny_mono ((F _ L (l E) Z).run callerA [] c H ⟨[.ref a],[]⟩ [.ref a] [.ref a] _ _ hr e0 (A c (.ref a)) (.cons rfl .nil) (T H hO hS)) λr s' h=>?_
  cases r with
  |error e=>exact (U H e s' h).elim
  |ok fl =>
   cases fl with
   |next=>exact False.elim h
   |brk=>exact False.elim h
   |cont=>exact False.elim h
   |ret u =>
    obtain⟨v,H',os,bare,un,p,r',q⟩:=h;have q':v=.bl true:=q;subst q';obtain rfl:u=Value.bool true:=r';have old:∀b o,c.heap.get? b=some o->s'.heap.get? b=some o\/(isCodeTable c.heap b/\o.cls=.none/\∃vs more,o.data=.fields vs/\s'.heap.get? b=some { o with data:=.fields (vs++more) }):=λb o e=>?old
    case old =>
     cases q:H b with
     |none=>exact .inl <|un.keep b o e q (by intro z;exact absurd (show b∈([]:List Addr) from z) (by simp)) (by simp)
     |some u =>
      rcases hO b with z|⟨ob,xs,z⟩|⟨B,z⟩
      ·rw[q]at z;cases z
      ·have z2:=un.frzs b ob _ z;obtain⟨e1,_⟩:=hok b _ z;obtain⟨e2,_⟩:=p b _ z2;rw[e]at e1;cases e1;exact .inl e2
      ·have z2:=un.tbls b B z;obtain⟨ps,e2,_⟩:=p b _ z2;rcases N b (by rw[z];simp) with g|⟨q2,g⟩
       ·obtain⟨ps0,D,_⟩:=hok b _ z;rw[g]at D;rw[ha]at D;cases D
       ·obtain⟨D,_,e4⟩:=j.1 b q2 g;rw[e]at D;cases D;exact .inr ⟨e4,rfl,#[],ps,rfl,by simpa using e2⟩
    exact⟨rfl,⟨λb o e=>(old b o e).imp id λz=>.inl z,λb o e=>by rcases old b o e with z|⟨_,_,_,_,_,z⟩ <;> exact⟨_,z⟩⟩,os,bare⟩
 have tok:∀b q,TabOf K b q->dr P w (λ_=>none) c.heap b (.tbl q):=λb q t=>⟨#[],(j.1 b q t).1,trivial,λpos cv z=>nomatch z⟩
 have y:∀(H:Hp) b q,TabOf K b q->dr P w H c.heap b (.tbl q):=λH b q t=>⟨#[],(j.1 b q t).1,trivial,λpos cv z=>nomatch z⟩
 have na:∀q,¬ TabOf K a q:=λq t=>by have:=(j.1 a q t).1;rw[ha]at this;cases this
 cases hk:K.lookup a with
 |some o =>
  have e:=KX a o hk;rw[ha]at e;cases e;refine core (kL K) (λb=>(dE K b).imp id λC=>(by obtain⟨q,_,e⟩:=C;exact .inr ⟨q,e⟩)) (.inr ⟨_,vs.toArray,_,hk,rfl,rfl,rfl,by rw[NF,I];exact hl,by simpa using rv⟩) (λb u z=>?_) (λb z=>?_) (λz=>?_) λP q t=>t9 j t
  ·rcases dE K b with e|⟨q,t,e⟩
   ·rw[z]at e;cases e
   ·rw[z]at e;cases e;exact y _ b q t
  ·rcases dE K b with e|⟨q,t,e⟩
   ·exact absurd e z
   ·exact .inr ⟨q,t⟩
  ·rcases dE K a with e|⟨q,t,e⟩
   ·exact absurd e z
   ·exact absurd t (na q)
 |none =>
  have eT:∀b,b≠a->(λb=>if b=a then some (HO.frz { cls:=.type "list",data:=.seq vs.toArray } (.lst (ns.map V.int))) else kL K b) b=kL K b:=λb h=>if_neg h
  have eA:(λb=>if b=a then some (HO.frz { cls:=.type "list",data:=.seq vs.toArray } (.lst (ns.map V.int))) else kL K b) a=some (HO.frz { cls:=.type "list",data:=.seq vs.toArray } (.lst (ns.map V.int))):=if_pos rfl;refine core (λb=>if b=a then some (.frz { cls:=.type "list",data:=.seq vs.toArray } (.lst (ns.map V.int))) else kL K b) (λb=>?_) (.inl (.inr ⟨{ cls:=.type "list",data:=.seq vs.toArray },if_pos rfl⟩)) (λb u z=>?_) (λb z=>?_) (λ_=>hk) λP q t=>?_
  ·by_cases i:b=a
   ·exact .inr (.inl ⟨_,_,if_pos i⟩)
   ·rw[eT b i];exact (dE K b).imp id λC=>(by obtain⟨q,_,e⟩:=C;exact .inr ⟨q,e⟩)
  ·by_cases i:b=a
   ·subst i;rw[eA]at z;cases z;exact⟨ha,by rw[N4];exact hl,vs,_,rv,ha⟩
   ·rw[eT b i]at z;rcases dE K b with e|⟨q,t,e⟩
    · rw[z]at e;cases e
    · rw[z]at e;cases e;exact y _ b q t
  ·by_cases i:b=a
   ·exact .inl i
   ·rcases dE K b with e|⟨q,t,e⟩
    · exact absurd ((if_neg i).trans e) z
    · exact .inr ⟨q,t⟩
  ·exact (if_neg (λz=>na q (by rw[<-z];exact t))).trans (t9 j t)
abbrev KOf{K:W.Frag}{h:Heap}(_:K.In h):W.Frag:=K
theorem zY{l:W.OpenLaw}{n k:Nat}{d:DefRec}{K:Params->W.Frag}{CX:World->CXT}{sp:World->Sp}
  (hn:l.most=some n) (r:n<=sizeLine) (y:d.params.defaults=[]) (J:cj k callerA)
  (L:∀(w:World)(h:Heap),YP w h->(K w.params).In h)
  (F:∀(w:World)(mg:Str->Option Value)(p:Addr)(h:Heap),(K w.params).In h->h.Ns mainGlobals mg->mg d.name=some (.ref p) ->
   ∃fd:FuncData,(∀(s:Shared)(u:Value),BindsTo s fd ⟨[u],[]⟩ [(x,u)]) /\
    ∀base:Heap,(K w.params).In base->base.Ns mainGlobals mg->nZ mg base->gQ l.prog w (K w.params) mg base (CX w) k p fd [x] (sp w))
  (A:∀(w:World)(H:Hp)(a:Addr)(ns:List Int),ns.length<=n->K3 H->SqL (K w.params) H a (ns.map V.int)->sp w [.ref a] H (λv _=>v=.bl true) λ_ _ _=>False)
  (B:∀(w:World)(H:Hp)(s:Shared)(e:Value)(s':Shared),CX w [] H s (λ_ _ _=>False) e s'->False) (C:∀(w:World)(h:Heap)(c:List Str)(i:ExcName->Option Value)(mg I:Str->Option Value),PyProof.Rows.Top q c i mg I h->(K w.params).In h->mS (K w.params) h) :
  W.WalkO q loose XP YP l.row.toRowW d [] (λf vs=>PySem.call f vs):=by
 refine Att.wX hn y λw s₀ j mg I p o pm cd doc a vs ns G Y ho hd hcd D m hints hlen N=>?_
 have E:=L w _ Y;obtain⟨fd,O,P⟩:=F w mg p _ E G.T.g D;exact law_call E G.T.g G.T.b G.T.builtins G.T.nolimit N m hints (Oo hlen r) J (by obtain⟨bm,Q,M⟩:=W.bmod_of_top G.T;exact⟨bm,Q,M.name,M.ne,(λz=>by obtain⟨o,es,ep,e1,e2,_⟩:=M.ns;rw[<-z,M.obj]at e1;cases e1;rw[M.data]at e2;cases e2),M.obj,M.cls,M.dict,M.data⟩) P O (λH R S=>A w H a ns hlen R S) (λH e s'=>B w H j e s') (C w _ _ _ _ _ G.T E)
def inClass(s:Stmt)(j:Nat):Stmt:=match s with
 |.ClassDef _ _ _ body _ _ _ _ _ _ _=>body.getD j (.Pass ⟨0,0,0,0⟩)
 |_=>.Pass ⟨0,0,0,0⟩
def fm(s:Stmt):Arguments:=match s with
 |.FunctionDef _ a _ _ _ _ _ _ _ _=>a
 |_=>{ posonlyargs:=[],args:=[],vararg:=none,kwonlyargs:=[],kw_defaults:=[],kwarg:=none,defaults:=[] }
def b0(s:Stmt):List Stmt:=match s with
 |.FunctionDef _ _ b _ _ _ _ _ _ _=>b
 |_=>[]
def aC(s:Stmt):Scope:=match s with
 |.FunctionDef _ _ _ _ _ _ sc _ _ _=>sc
 |_=>{ kind:=.function,names:=[],isGenerator:=false,isCoroutine:=false }
abbrev CX0:CXT:=λ_ _ _ _ _ _=>False
abbrev E0:XK:=λ_ _ _=>False
theorem Mp:Passes CX0 X E0:=λ_ _ _ _ _ _ _ h=>h.elim
structure Fun(K:W.Frag)(x qual:Str)(st:Stmt)(f:Addr)(fd:FuncData):Prop where
 ex:∃(oc:Value)(od:Option Addr)(kV doc pm:Value)(an:Option Addr)(cdv ct:Value)(osl:Array (Option Value)),
  fd=W.fnOf x qual (fm st) (b0 st) (aC st) .none kV doc pm an cdv ct/\K.lookup f=some ⟨oc,od,.func fd,osl⟩/\W.codeIn K cdv qual=true
 kp:W.keepIn K (.ref f)=true
section
theorem Fun.ok{k:Nat}(F:Fun K x qual st f fd)(S:dq N ps (aC st))(len:∀vs H Q E,sp vs H Q E->vs.length=ps.length)
  (a:∀(cdv:Value)(A:Around)(outer:List Env)(s:Shared)(H:Hp)(vs:List V)(Q:VK)(E:XK),cj k (A.deeper (envOfC qual (aC st) s.heap.objs.size f cdv))->sp vs H Q E ->
   ∃t,PSs (dz CX0 P w K mg base N qual (aC st) f cdv A outer s H E).nox (b0 st) t/\t { nx:=λ_ H'=>Q .non H',rt:=Q } (start N vs) H):gQ P w K mg base CX0 (k+1) f fd ps sp:=by
 obtain⟨oc,od,kV,doc,pm,an,cdv,ct,osl,rfl,e,b⟩:=F.ex;refine El e b S len λA outer s H vs Q E g c=>?_
 obtain⟨t,h,q⟩:=a cdv A outer s H vs Q E g c;exact⟨t,h.nox,q⟩
theorem Fun.binds(F:Fun K x qual st f fd)
  (h:∀(kV doc pm:Value)(an:Option Addr)(cdv ct:Value)(us:List Value),us.length=ps.length->bindArgs (W.fnOf x qual (fm st) (b0 st) (aC st) .none kV doc pm an cdv ct) ⟨us,[]⟩=pure (ps.zip us)):Binds K fd ps []:=by
 obtain⟨oc,od,kV,doc,pm,an,cdv,ct,osl,rfl,lk,hcd⟩:=F.ex;exact .all (h kV doc pm an cdv ct)
theorem yR{kV doc cdv:Value}(l:K.lookup f=some ⟨oc,od,.func (W.fnOf x qual (fm st) (b0 st) (aC st) .none kV doc pm an cdv ct),osl⟩)
 (c:W.codeIn K cdv qual=true) (k:W.keepIn K (.ref f)=true):Fun K x qual st f (W.fnOf x qual (fm st) (b0 st) (aC st) .none kV doc pm an cdv ct):=⟨⟨oc,od,kV,doc,pm,an,cdv,ct,osl,rfl,l,c⟩,k⟩
end
section
theorem pv(i:Nat)(b:X.N[i]?=some x:=by rfl)(c:Vis X.env.scope x:=by first|exact Or.inl rfl|exact Or.inr (Or.inl rfl)|exact Or.inr (Or.inr rfl))(hd:(x==("__debug__":Str))=false:=by decide)
 (a:(x==("__classdict__":Str))=false:=by decide):PE X (.Name x pos) (Mv i):=j9 b c hd a
end
theorem MG{c A B:Prop}[Decidable c](h1:c->A)(h2:¬ c->B):if c then A else B:=by
 by_cases h:c
 ·rw[if_pos h];exact h1 h
 ·rw[if_neg h];exact h2 h
def av(H H':Hp):Prop:=∀b o,H b=some o->H' b=some o
theorem av.refl(H:Hp):av H H:=λ_ _ h=>h
theorem av.trans{H2:Hp}(a:av H H1)(b:av H1 H2):av H H2:=λc o h=>b c o (a c o h)
theorem av.free(e:av H H'){l:Addr}(h:H' l=Option.none):H l=Option.none:=by
 cases q:H l with
 |none=>rfl
 |some o =>rw[e l o q]at h;cases h
theorem av.seq(e:av H H')(h:SqL K H a xs):SqL K H' a xs:=by
 rcases h with (h|⟨o,h⟩)|h
 ·exact .inl (.inl (e _ _ h))
 ·exact .inl (.inr ⟨o,e _ _ h⟩)
 ·exact .inr h
end L2
set_option maxHeartbeats 4000000
namespace L2
open PySem PySem.Spec PyProof.Rows
variable {f:PyData->PyData->Option PyData}{g:TG}{E:XK}{es:List Expr}{e:Expr}
def sT(CX:CXT)(P:Program)(w:World)(K:W.Frag)(mg:Str->Option Value)(base:Heap)(N:List Str)(qual:Str)(scope:Scope)(f:Addr)(cd:Value)(cl:List (Str×Addr))(A:Around)(outer:List Env)(s:Shared)(H:Hp)(E:XK):Cx where
 prog:=P
 w:=w
 K:=K
 mg:=mg
 base:=base
 A:=A.deeper (W.envX qual scope s.heap.objs.size f cd cl)
 N:=N
 s₀:=s
 H₀:=H
 env:=W.envX qual scope s.heap.objs.size f cd cl
 outer:=outer
 stack:=W.envX qual scope s.heap.objs.size f cd cl::outer
 ex:=[]
 calm:=true
 fn:=λ_=>false
 pn:=[]
 xe:=λe s'=>wpAny (model P w) (A.deeper (W.envX qual scope s.heap.objs.size f cd cl)) (leaving (W.envX qual scope s.heap.objs.size f cd cl) e) (λ_ a=>CX outer H s E e a) (λb a=>CX outer H s E b a) s'
theorem tD{α:Type}{y:Str}{u:α}:∀{l:List (Str×α)},(l.map (·.1)).Nodup->(y,u)∈l->l.lookup y=some u
 |[],_,h=>by cases h
 |(z,w)::l,nd,h=>by
  rw[NV];rw[N1,O3]at nd;rcases N5.mp h with h|h
  ·cases h;simp
  ·have m:y∈l.map (·.1):=List.mem_map_of_mem (f:=(·.1)) h;have:y≠z:=λq=>nd.1 (by subst q;exact m)
   rw[show (y==z)=false by simpa using this];exact tD nd.2 h
theorem CC{y:Str}{u:α}{us:List α}(nd:ps.Nodup)(hl:us.length=ps.length)(h1:ps[i]?=some y)(h2:us[i]?=some u):(ps.zip us).reverse.lookup y=some u:=by
 refine tD ?_ ?_
 ·rw[List.map_reverse,List.map_fst_zip (by omega)];exact (List.reverse_perm ps).symm.nodup nd
 ·rw[List.mem_reverse];refine O1 (i:=i) ?_;rw[List.getElem?_zip_eq_some];exact⟨h1,h2⟩
structure mE(N ps:List Str)(sc:Scope):Prop where
 kind:sc.kind=.function
 co:sc.isCoroutine=false
 gen:sc.isGenerator=false
 nd:N.Nodup
 pre:N.take ps.length=ps
 par:∀x∈ps,sc.names.lookup x=some .local
 nocell:∀x∈sc.names,x.2≠.cell
structure Jc(s:Shared)(H:Hp)(cl:List (Str×Addr))(sc:Scope)(N:List Str)(n:Nat)(ws:List (Option V)):Prop where
 inj:∀x y c,cl.lookup x=some c->cl.lookup y=some c->x=y
 has:∀x,sc.names.lookup x=some .free->∃c,cl.lookup x=some c
 cell:∀x c,cl.lookup x=some c->∃v,s.heap.IsCell c v
 free:∀x c,cl.lookup x=some c->H c=none
 len:N.length=n+ws.length
 val:∀(i:Nat)(x:Str)(v:V),N[n+i]?=some x->ws[i]?=some (some v)->∃u c,RelV v u/\sc.names.lookup x=some .free/\cl.lookup x=some c/\s.heap.IsCell c (some u)
theorem F2{f:Addr}{A:Around}{h1:Heap}{tk:Nat}
  (S:mE N ps scope) (hd:A.handled=none) (g:vC P w K mg base A outer s H) (hl:vs.length=ps.length) (r:Vals vs us) (C:Jc s H cl scope N ps.length ws)
  (B:h1.Ns s.heap.objs.size (λx=>(ps.zip us).reverse.lookup x)) (D:∀b o,s.heap.get? b=some o->h1.get? b=some o) :
  Inv (sT CX P w K mg base N qual scope f cd cl A outer s H E) [] (vs.map some++ws) H { s with heap:=h1,toks:=tk }:=by
 have j:∀b:Addr,b∉(sT CX P w K mg base N qual scope f cd cl A outer s H E).ex:=λb z=>absurd (show b∈([]:List Addr) from z) (by simp)
 have I:∀c v,s.heap.IsCell c v->h1.IsCell c v:=λc v q=>by obtain⟨o,e,d⟩:=q;exact⟨o,D _ _ e,d⟩
 refine⟨⟨g.mod,S.kind,rfl,rfl,N6 _,λy z c h1 h2=>C.inj y z c h1 h2,λy m=>?_,λy c z _=>(by cases z),λ_=>hd,Around.frames_deeper g.frames,.inr ⟨rfl,rfl⟩,λb z=>absurd z (j b),g.bs,g.bsz,λb _ _=>j b,λb z=>absurd z (j b),g.funs,g.frf⟩,
  rfl,g.bare,Un.kept D,⟨_,B,λi y v h1 h2 h3=>?_⟩,λy c h=>?_,g.hok.fresh (N6 _),λy c h=>C.free y c h,λp n=>absurd (show p∈([]:List (Addr×Obj)) from n) (by simp),g.hok.kept D,?_,g.tab⟩
 ·have m:scope.names.lookup y=some .cell\/scope.names.lookup y=some .free:=m;rcases m with m|m
  ·exact absurd rfl (S.nocell _ (PySem.mem_of_lookup m))
  ·exact C.has y m
 ·have h1:N[i]?=some y:=h1;by_cases hi:i<vs.length
  ·have ha:vs[i]?=some v:=by
    rw[NP (by simpa using hi),NK]at h2;cases e:vs[i]? with
    |none=>rw[e]at h2;cases h2
    |some a=>rw[e]at h2;cases h2;rfl
   obtain⟨u,J,F⟩:=r.get ha;have n:ps[i]?=some y:=by rw[<-S.pre,List.getElem?_take_of_lt (by omega)];exact h1
   have G:ps.Nodup:=by rw[<-S.pre];exact S.nd.sublist (List.take_sublist _ _)
   refine⟨u,F,.inl ⟨S.par y (O1 n),?_⟩⟩;exact CC G (by rw[<-r.length,hl]) n J
  ·rw[NT (by simpa using hi),N4]at h2;have e:N[ps.length+(i-vs.length)]?=some y:=by rw[<-hl,Nat.add_sub_cancel' (by omega)];exact h1
   obtain⟨u,c,F,k,l,q⟩:=C.val _ _ _ e h2;exact⟨u,F,.inr ⟨.inr k,c,l,I _ _ q⟩⟩
 ·obtain⟨v,q⟩:=C.cell y c h;exact⟨v,I _ _ q⟩
 ·show _=N.length;rw[NC,N4,hl,C.len]
theorem HA{k:Nat}{name:Str}{f c':Addr}{h:Value}{A:Around}{Q:VK}{t:TE}
  (S:mE N ps scope) (x:cj (k+1) A) (l:vC P w K mg base A outer s H) (hl:vs.length=ps.length) (r:Vals vs us) (C:Jc s H cl scope N ps.length ws)
  (z:s.heap.get? f=some (W.kla_obj name qual params body scope cl pm c' h)) (m:s.heap.CodeRec (.ref c') qual)
  (B:bindArgs (W.kla_fn name qual params body scope cl pm (.ref c') h) ⟨us,[]⟩=pure (ps.zip us))
  (c:PE (sT CX P w K mg base N qual scope f (.ref c') cl A outer s H E) body t) (D:t (vs.map some++ws) H Q) :
  codeAny (model P w) A (.call (.ref f) ⟨us,[]⟩) (CR CX outer P w H s Q E) s:=by
 have lim:s.heap.NoLimit:=l.mod.nolimit.keeps λb o e=>(l.bs b o e).1
 refine W.kla_callFunE x.depth z rfl S.co S.gen rfl m ?_;rw[B];refine wpAny_pure (wpAny_newFunctionEnv S.nocell (λy F=>S.par y.1 (Pf (a:=y.1) (b:=y.2) F).1) (λi n j=>⟨lim.fresh _ j,?_⟩) S.kind);have g:∀b o,s.heap.get? b=some o->i.get? b=some o:=λb o e=>j.extBut b o (ND (Nz e)) (N2 _ e)
 have I:=F2 (CX:=CX) (qual:=qual) (f:=f) (cd:=.ref c') (E:=E) (tk:=s.toks+(ps.zip us).length) S x.hd l hl r C n g;exact W.kla_codeExpr (wpAny_mono (c [] _ _ H Q I D) (λu s' p=>(by obtain⟨v,H',J,G,q⟩:=p;exact⟨v,H',J.os,J.bare,J.base,J.hok,G,q⟩)) λ_ _ y=>y)
def m8:List (Str×NameKind)->List (Str×Addr)->List (Str×Addr)->List (Str×Addr)
 |[],_,acc=>acc
 |(n,k)::r,cells,acc=>m8 r cells (if k==.free then (match cells.lookup n with|some c=>(n,c)::acc|none=>acc) else acc)
theorem jt(env:Env):∀(names:List (Str×NameKind))(acc:List (Str×Addr)),(∀y∈names,y.2=.free->∃c,env.cells.lookup y.1=some c) ->
  (forIn names acc (λ(x:Str×NameKind)(cs:List (Str×Addr))=>match x with
   | (name,kind)=>if (kind==NameKind.free)=true then do let c <-cellOf env name;pure (ForInStep.yield ((name,c)::cs)) else pure (ForInStep.yield cs)):Sem (List (Str×Addr)))=pure (m8 names env.cells acc)
 |[],acc,_=>rfl
 |(n,k)::r,acc,h=>by
  rw[Ph];have b:∀y∈r,y.2=.free->∃c,env.cells.lookup y.1=some c:=λy g=>h y (N0 _ g)
  dsimp only[m8];by_cases hk:k=.free
  ·subst hk;obtain⟨c,hc⟩:=h (n,.free) N3 rfl;have a:env.cells.lookup n=some c:=hc;have e:cellOf env n=pure c:=by unfold cellOf;rw[a]
   rw[if_pos (show (NameKind.free==NameKind.free)=true by decide),if_pos (show (NameKind.free==NameKind.free)=true by decide),e,a];exact jt env r ((n,c)::acc) b
  ·have f:¬ (k==NameKind.free)=true:=by simpa using hk
   rw[if_neg f,if_neg f];exact jt env r acc b
theorem jB(h:∀y∈scope.names,y.2=.free->∃c,env.cells.lookup y.1=some c):closureFor scope env=pure (m8 scope.names env.cells []):=by have e:=jt env scope.names [] h;unfold closureFor;rw[<-bind_pure (forIn scope.names [] _)]at e;exact e
theorem pD:∀(names:List (Str×NameKind))(cells acc:List (Str×Addr))(x:Str)(c:Addr),(∀x c,acc.lookup x=some c->cells.lookup x=some c)->(m8 names cells acc).lookup x=some c->cells.lookup x=some c
 |[],_,_,x,c,h,e=>h x c e
 |(n,k)::r,cells,acc,x,c,h,e=>by
  refine pD r cells _ x c (λy d a=>?_) e;split at a
  ·split at a
   ·rename_i c' b;rw[NV]at a;by_cases hyn:(y==n)=true
    ·rw[hyn]at a;have f:y=n:=eq_of_beq hyn;subst f;cases a;exact b
    ·have:(y==n)=false:=by simpa using hyn
     rw[this]at a;exact h y d a
   ·exact h y d a
  ·exact h y d a
theorem tF:∀(names:List (Str×NameKind))(cells acc:List (Str×Addr))(x:Str),(∃c,acc.lookup x=some c)->∃c,(m8 names cells acc).lookup x=some c
 |[],_,_,_,h=>h
 |(n,k)::r,cells,acc,x,h=>by
  refine tF r cells _ x ?_;split
  ·split
   ·rw[NV];cases (x==n)
    ·exact h
    ·exact⟨_,rfl⟩
   ·exact h
  ·exact h
theorem mD:∀(names:List (Str×NameKind))(cells acc:List (Str×Addr))(x:Str)(c:Addr),(x,NameKind.free)∈names->cells.lookup x=some c->∃c,(m8 names cells acc).lookup x=some c
 |[],_,_,_,_,h,_=>by simp at h
 |(n,k)::r,cells,acc,x,c,h,e=>by
  rcases N5.mp h with h|h
  ·injection h with h1 h2
   subst h1;subst h2;refine tF r cells _ x ?_;rw[if_pos (by decide),e];exact⟨c,by simp[NV]⟩
  ·exact mD r cells _ x c h e
def blk(X:Cx)(M:List Str)(scope:Scope)(own:List Str)(C:Addr)(s2:Shared)(H2:Hp)(fp:List Addr):Cx where
 prog:=X.prog
 w:=X.w
 K:=X.K
 mg:=X.mg
 base:=X.base
 A:=X.A
 N:=M++own
 s₀:=s2
 H₀:=H2
 env:=compEnvC scope (m8 scope.names X.env.cells []) C X.env
 outer:=X.stack
 stack:=X.stack
 ex:=fp
 fn:=λ_=>false
 calm:=X.calm
 pn:=[]
 xe:=λ_ _=>False
structure kf(X:Cx)(M:List Str)(scope:Scope)(own:List Str):Prop where
 kind:scope.kind=.function
 nocell:∀y∈scope.names,y.2≠.cell
 names:∀y∈scope.names,y.2=.local->scope.names.lookup y.1=some .local
 free:∀y∈scope.names,y.2=.free->Vis X.env.scope y.1/\X.env.scope.names.lookup y.1≠some .local
 own:∀x∈own,scope.names.lookup x=some .local
 outer:∀p∈X.N.zip M,(p.1=p.2/\scope.names.lookup p.2≠some .local)\/scope.names.lookup p.2=none
 len:M.length=X.N.length
def sX(N M:List Str)(a scope:Scope)(own:List Str):Bool :=
 (scope.kind==.function)&&scope.names.all (λy=>y.2 != .cell)&&scope.names.all (λy=>y.2 != .local||scope.names.lookup y.1==some .local) &&
 scope.names.all (λy=>y.2 != .free||(a.names.lookup y.1==some .cell||a.names.lookup y.1==some .free)) &&
 own.all (λx=>scope.names.lookup x==some .local)&&(N.zip M).all (λp=>(p.1==p.2&&scope.names.lookup p.2 != some .local)||scope.names.lookup p.2==none)&&(M.length==N.length)
theorem kf.of(h:sX X.N M X.env.scope scope own=true):kf X M scope own:=by
 unfold sX at h;simp only[N7,NM,Bool.or_eq_true,bne_iff_ne,beq_iff_eq,ne_eq]at h;obtain⟨⟨⟨⟨⟨⟨h1,h2⟩,b⟩,c⟩,f⟩,g⟩,i⟩:=h;refine⟨h1,h2,λy a e=>(b y a).resolve_left λz=>z e,λy a e=>?_,f,g,i⟩;rcases (c y a).resolve_left λz=>z e with q|q
 ·exact⟨.inr (.inl q),by rw[q];intro z;cases z⟩
 ·exact⟨.inr (.inr q),by rw[q];intro z;cases z⟩
theorem eG{env:Env}:∀{names:List (Str×NameKind)}{x:Str}{k:NameKind},
  (names.map λ(n,k)=>if (k==NameKind.free&&env.scope.kind==.function&&env.kindOf n==some .cell) then (n,NameKind.cell) else (n,k)).lookup x=some k->(k=.cell\/k=.free)->(∀y∈names,y.2≠.cell)->(x,NameKind.free)∈names
 |[],_,_,h,_,_=>by simp at h
 |(n,k')::r,x,k,h,a,hn=>by
  have b:∀y∈r,y.2≠NameKind.cell:=λy c=>hn y (N0 _ c)
  rw[N1,NV]at h;by_cases hc:(k'==NameKind.free&&env.scope.kind==.function&&env.kindOf n==some .cell)=true
  ·have f:k'=.free:=by have:=hc;simp only[N7]at this;exact eq_of_beq this.1.1
   simp only[if_pos hc]at h;cases hx:x==n with
   |true =>have:x=n:=eq_of_beq hx;subst this;subst f;exact N3
   |false =>rw[hx]at h;exact N0 _ (eG h a b)
  ·simp only[if_neg hc]at h;cases hx:x==n with
   |true =>
    rw[hx]at h;have e:k'=k:=Option.some.inj h;have:x=n:=eq_of_beq hx;subst this;subst e;rcases a with a|a
    ·exact absurd a (hn _ N3)
    ·subst a;exact N3
   |false =>rw[hx]at h;exact N0 _ (eG h a b)
theorem eK{env:Env}:∀{names:List (Str×NameKind)}{x:Str}{k:NameKind},
  (names.map λ(n,k)=>if (k==NameKind.free&&env.scope.kind==.function&&env.kindOf n==some .cell) then (n,NameKind.cell) else (n,k)).lookup x=some k->(∃k0,names.lookup x=some k0/\(k=k0\/(k=.cell/\k0=.free)))
 |[],_,_,h=>by simp at h
 |(n,k')::r,x,k,h=>by
  rw[N1,NV]at h;rw[NV];by_cases hc:(k'==NameKind.free&&env.scope.kind==.function&&env.kindOf n==some .cell)=true
  ·have a:k'=.free:=by have:=hc;simp only[N7]at this;exact eq_of_beq this.1.1
   simp only[if_pos hc]at h;cases hx:x==n with
   |true =>rw[hx]at h;exact⟨k',rfl,.inr ⟨(Option.some.inj h).symm,a⟩⟩
   |false =>rw[hx]at h;exact eK h
  ·simp only[if_neg hc]at h;cases hx:x==n with
   |true =>rw[hx]at h;exact⟨k',rfl,.inl (Option.some.inj h).symm⟩
   |false =>rw[hx]at h;exact eK h
section
variable {H2:Hp}{s2:Shared}
theorem Inv.blk{h1:Heap}{t':Nat}(I:Inv X pins σ H2 s2)(B:kf X M scope own)(H:∀b∈fp,pV X pins H2 b)(J:∀b∈fp,b<s2.heap.objs.size)
  (A:D=s2.heap.objs.size) (G:C=s2.heap.objs.size+1) (hl:h1.get? D=some { cls:=.type "list",data:=.seq ([]:List Value).toArray 0 })
  (hn:h1.Ns C (λ_=>none)) (g:∀b o,s2.heap.get? b=some o->h1.get? b=some o) :
  Inv (L2.blk X M scope own C s2 H2 fp) [] (σ++List.replicate own.length none) (upd H2 D (.lst [])) { s2 with heap:=h1,toks:=t' }:=by
 have a:∀x c,(m8 scope.names X.env.cells []).lookup x=some c->X.env.cells.lookup x=some c:=λx c e=>pD _ _ _ _ _ (λ_ _ z=>by simp at z) e
 have K:∀x c,(m8 scope.names X.env.cells []).lookup x=some c->c<s2.heap.objs.size:=λx c e=>by obtain⟨v,q⟩:=I.cell x c (a x c e);exact q.lt
 have n:H2 D=none:=I.hok.fresh (by rw[A];exact N6 _);have freeC:H2 C=none:=I.hok.fresh (by rw[G];exact Pb _);have L:C≠D:=by rw[G,A];exact Nat.succ_ne_self _
 have Y:Un (frs X.stack) fp H2 (upd H2 D (.lst [])) s2.heap h1:=Un.laid g (by rw[A];exact N6 _) n;refine⟨⟨I.ok.mod,?_,I.ok.glob,I.ok.blt,?_,?_,?_,?_,I.ok.hd,I.ok.frames,.inl rfl,?_,I.bs,Oo I.ok.bsz I.sz,?_,?_,I.stack,I.stkFree⟩,rfl,I.bare,Y,?_,?_,?_,?_,?_,?_,?_,λP q t=>Y.tbls P q (I.tab P q t)⟩
 ·exact B.kind
 ·show s2.heap.objs.size<=C;rw[G];exact Pb _
 ·intro x y c e1 e2;exact I.ok.inj x y c (a x c e1) (a y c e2)
 ·intro x h;have hm:(x,NameKind.free)∈scope.names:=by
   rcases h with h|h
   ·exact eG h (.inl rfl) B.nocell
   ·exact eG h (.inr rfl) B.nocell
  obtain⟨O,s⟩:=B.free _ hm rfl;have hh:X.env.kindOf x=some .cell\/X.env.kindOf x=some .free:=by
   rcases O with z|z|z
   ·exact absurd z s
   ·exact .inl z
   ·exact .inr z
  obtain⟨c,e⟩:=I.ok.has x hh;exact mD _ _ _ x c hm e
 ·intro x c Q _;exact absurd (show false=true from Q) (by decide)
 ·intro b w;refine⟨?_,λx c e z=>?_⟩
  ·show b≠C;rw[G];exact ND (Og (J b w))
  ·exact (H b w).2.2.2.2.1 x c (a x c e) z
 ·intro b o e w;obtain⟨_,_,_,f3,_⟩:=H b w;rcases f3 with z|z
  ·exact I.ok.noex b o e z
  ·exact absurd (NL (Nz (I.ok.bs b o e).1) z) (OB _)
 ·intro b w hs;obtain⟨_,f1,f2,_⟩:=H b w;rcases N5.mp (I.stkSub b hs) with z|z
  ·exact f1 z
  ·exact f2 z
 ·refine⟨_,hn,λi x v e1 e2 Z=>?_⟩;have hi:i<σ.length:=by
   by_cases hi:i<σ.length
   ·exact hi
   ·rw[NT (by omega),Pn]at e2;split at e2 <;> cases e2
  rw[NP hi]at e2;have E:i<X.N.length:=by rw[<-I.len];exact hi
  have R:i<M.length:=by rw[B.len];exact E
  have S:M[i]?=some x:=by
   have:(M++own)[i]?=some x:=e1
   rwa[NP R]at this
  obtain⟨y,ey⟩:∃y,X.N[i]?=some y:=⟨_,My E⟩
  have hz:(y,x)∈X.N.zip M:=O1 (i:=i) (by rw[List.getElem?_zip_eq_some];exact⟨ey,S⟩);have T:∃k,scope.names.lookup x=some k:=by
   rcases Z with z|z|z
   ·obtain⟨k0,f,_⟩:=eK (show _=some NameKind.local from z);exact⟨k0,f⟩
   ·obtain⟨k0,f,_⟩:=eK (show _=some NameKind.cell from z);exact⟨k0,f⟩
   ·obtain⟨k0,f,_⟩:=eK (show _=some NameKind.free from z);exact⟨k0,f⟩
  have j:y=x/\scope.names.lookup x≠some .local:=by
   rcases B.outer _ hz with q|q
   ·exact q
   ·obtain⟨k,g⟩:=T;rw[q]at g;cases g
  have U:X.N[i]?=some x:=by rw[<-j.1];exact ey
  have h:(relabel scope X.env).names.lookup x=some .cell\/(relabel scope X.env).names.lookup x=some .free:=by
   rcases Z with z|z
   ·obtain⟨k0,f,g⟩:=eK (show _=some NameKind.local from z);rcases g with g|⟨g,_⟩
    ·subst g;exact absurd f j.2
    ·cases g
   ·exact z
  have hm:(x,NameKind.free)∈scope.names:=by
   rcases h with h|h
   ·exact eG h (.inl rfl) B.nocell
   ·exact eG h (.inr rfl) B.nocell
  obtain⟨O,s⟩:=B.free _ hm rfl;obtain⟨m,_,W⟩:=I.loc;obtain⟨u,r,l⟩:=W i x v U e2 O;refine⟨u,r,.inr ⟨h,?_⟩⟩;rcases l with⟨z,_⟩|⟨_,c,hc,z⟩
  ·exact absurd z s
  ·obtain⟨c',F⟩:=mD scope.names X.env.cells [] x c hm hc;have:=a x c' F;rw[hc]at this;cases this;exact⟨c,F,z.keeps g⟩
 ·intro x c e;obtain⟨v,q⟩:=I.cell x c (a x c e);exact⟨v,q.keeps g⟩
 ·show upd H2 D (.lst []) C=none;rw[az L];exact freeC
 ·intro x c e;have h1:=K x c e;rw[az (by rw[A];exact ND h1)];exact I.freeC x c (a x c e)
 ·intro p hp;exact absurd (show p∈([]:List (Addr×Obj))++[] from hp) (by simp)
 ·exact I.hok.laid g (by rw[A];exact N6 _) ⟨Oc _,[],0,.nil,hl⟩
 ·show (σ++List.replicate own.length none).length=(M++own).length;rw[NC,NC,Pw,I.len,B.len]
theorem Inv.unblk{a:St}(I:Inv X pins σ H2 s2)(i:∀b∈fp,pV X pins H2 b)(f:s2.heap.objs.size<=C)
  (J:Inv (L2.blk X M scope own C s2 H2 fp) [] a H' s') (j:Heap.SameBut C s'.heap h'):Inv X pins σ H' { s' with heap:=h' }:=by
 have h:H' C=none:=J.free;have k:∀b o,b≠C->s'.heap.get? b=some o->h'.get? b=some o:=λb o g e=>(j.2 b g).trans e
 have old:∀b o,s2.heap.get? b=some o->b≠C:=λb o e=>ND (NL (Nz e) f)
 have u:Un (frs X.stack) fp H2 H' s2.heap s'.heap:=J.base;refine I.call' (s':={ s' with heap:=h' }) (ch:=fp) J.os ?_ ?_ J.bare λb g=>?_
 ·refine⟨λb o e n h1 h2=>k b o (old b o e) (u.keep b o e n h1 h2),λb o e n h1 h2=>?_,u.free,λb o e h1=>?_,u.tups,u.frzs,u.tbls⟩
  ·obtain⟨l,q⟩:=u.slot b o e n h1 h2;exact⟨l,k b _ (old b o e) q⟩
  ·obtain⟨o',q⟩:=u.there b o e h1;exact⟨o',k b o' (old b o e) q⟩
 ·intro b o e;refine (J.hok b o e).stay (λc v hc q=>k c v ?_ q) (λ_ q=>q) λ_ _ q=>q
  rintro rfl
  rcases hc with z|z
  ·subst z;rw[h]at e;cases e
  ·rw[h]at z;cases z
 ·obtain⟨f0,f1,f2,m,p,r⟩:=i b g;exact⟨m,f1,p,r⟩
end
section
variable {A:Around}{R:Result->Shared->Prop}
theorem vF{target:Expr}{it acc:Value}(I:Nat->Shared->Prop)
  (turn:∀n s,I n s->wpAny (model prog w) A (pyNext it) (λr a=>match r with
   |none=>R (.ok .next) a
   |some v=>wpAny (model prog w) A (letOwnedTupleGo target it v) (λ_ l=>wpAny (model prog w) A (assign target env v) (λ_ e =>
    wpAny (model prog w) A (forIn ifs true λc r=>if r=true then do let ok <-isTrue c env (eval c env);pure (ForInStep.yield ok) else pure (ForInStep.yield r)) (λok b =>
     if ok=true then wpAny (model prog w) A (eval elt env) (λx f =>
      wpAny (model prog w) A (call (.builtin "list.append") [acc,x]) (λ_ g=>∃m,m<n/\I m g) (λ_ _=>False) f) (λ_ _=>False) b
     else ∃m,m<n/\I m b) (λ_ _=>False) e) (λ_ _=>False) l) (λ_ _=>False) a) (λ_ _=>False) s)
  (n:Nat) (h:I n s) :
  codeAny (model prog w) A (.compLoop (.ListComp elt [⟨target,iter,ifs,0⟩] scope pos) 0 it acc env) R s:=by
 refine codeAny_loop rfl I (λn s y=>?_) n h;show wpAny _ A ((compTurn (.ListComp elt [⟨target,iter,ifs,0⟩] scope pos) 0 it acc env).onRaise (λx=>do noteFrame x env;theTreesLotGoes x)) _ _ s;refine wpAny_noted ?_;rw[compTurn_list];refine wpAny_bind (wpAny_standAt (wpAny_bind (wpAny_mono (turn n s y) (λr a i=>?_) λ_ _ h'=>h'.elim)));cases r with
 |none=>exact wpAny_pure i
 |some v =>
  refine wpAny_bind (wpAny_mono i (λ_ l u=>?_) λ_ _ h'=>h'.elim);refine wpAny_bind (wpAny_mono u (λ_ e o=>wpAny_bind (wpAny_mono o (λok b j=>?_) λ_ _ h'=>h'.elim)) λ_ _ h'=>h'.elim);cases ok with
  |false=>exact wpAny_pure ⟨rfl,j⟩
  |true =>exact wpAny_bind (wpAny_bind (wpAny_mono j (λx f p=>wpAny_bind (wpAny_mono p (λ_ g q=>wpAny_pure (wpAny_pure ⟨rfl,q⟩)) λ_ _ h'=>h'.elim)) λ_ _ h'=>h'.elim))
end
def wo:TT:=λ_ H Q=>Q true H
inductive PTs (X:Cx):List Expr->TT->Prop
 |nil:PTs X [] wo
 |one {c:Expr} {t:TT} (h:PT X c t):PTs X [c] t
theorem PTs.run{t:TT}(h:PTs X ifs t){Q:Bool->Hp->Prop}(I:Inv X pins σ H s)(q:t σ H Q) :
  wpAny (model X.prog X.w) X.A (forIn ifs true λc r=>if r=true then do let ok <-isTrue c X.env (eval c X.env);pure (ForInStep.yield ok) else pure (ForInStep.yield r)) (TP X pins σ Q) X.xe s:=by
 cases h with
 |nil=>exact wpAny_tests_nil ⟨H,I,q⟩
 |one h=>exact wpAny_tests_one (h pins s σ H Q I q)
def LCR(J:It)(n:Nat)(g:TG)(tt:TT)(te:TE)(σ:St)(H1:Hp)(Q:VK):Prop:=∀D,H1 D=none->∃W:Nat->Nat->List V->Hp->Prop,(∃m,W 0 m [] (upd H1 D (.lst []))) /\
 ∀i m ys H,W i m ys H->H D=some (.lst ys)/\((J.stop i H/\Q (.ref D) H)\/(J.go i H/\∀x H' e,e.length=n->J.yld i H x H'->g x (σ++e) H' λc H2=>tt c H2 λb h =>
  if b=true then te c h λv j=>j D=some (.lst ys)/\ys.length<sizeLine/\(∃a,c=σ++a/\a.length=n)/\∃f,f < m/\W (i+1) f (ys++[v]) (upd j D (.lst (ys++[v])))
  else (∃a,c=σ++a/\a.length=n)/\∃f,f < m/\W (i+1) f ys h))
def tLC(n:Nat)(a:TI)(g:TG)(tt:TT)(te:TE):TE:=λσ H Q=>a σ H λJ H1=>LCR J n g tt te σ H1 Q
theorem qj{wi:TI}{tt:TT}{te:TE}{use:Option (Value->Sem Unit)}{Qf:Value->Shared->Prop}(hc:X.calm=true)(hi:PI X tg iter wi)
  (hg:∀C s2 H2 fp,PG (blk X M scope own C s2 H2 fp) tg g) (ht:∀C s2 H2 fp,PTs (blk X M scope own C s2 H2 fp) ifs tt) (he:∀C s2 H2 fp,PE (blk X M scope own C s2 H2 fp) elt te)
  (hB:sX X.N M X.env.scope scope own=true) (hs:∀x,foldedSetIterable iter X.env x=pure x) {Q:VK} (I:Inv X pins σ H s) (h:tLC own.length wi g tt te σ H Q)
  (fin:∀(C D:Addr)(R:Shared)(P:Hp),(∀h',Heap.SameBut C R.heap h'->Inv X pins σ P { R with heap:=h' })->(∃m,R.heap.Ns C m)->P C=none->C≠X.env.locals->(∀x c,X.env.cells.lookup x=some c->c≠C)->(∀p∈X.pn++pins,p.1≠C)->X.s₀.heap.objs.size<=C->Q (.ref D) P ->
   compPost (model X.prog X.w) X.A X.xe use Qf (.ref D) C (.ok .next) R) :
  wpAny (model X.prog X.w) X.A (comprehension (.ListComp elt [⟨tg,iter,ifs,0⟩] scope pos) scope X.env cpos (newList []) false (eval iter X.env) use) Qf X.xe s:=by
 have B:kf X M scope own:=kf.of hB;have S:closureFor scope X.env=pure (m8 scope.names X.env.cells []):=jB λy hy hf=>by
  obtain⟨hv,hnl⟩:=B.free y hy hf;have hh:X.env.kindOf y.1=some .cell\/X.env.kindOf y.1=some .free:=by
   rcases hv with z|z|z
   ·exact absurd z hnl
   ·exact .inl z
   ·exact .inr z
  exact I.ok.has y.1 hh
 refine wpAny_comprehension_free (use:=use) rfl hs S B.kind B.names (thn (hi pins s σ H _ I h) λv s1 h1=>thn h1 λitv s2 h2=>?_);obtain⟨it,fp,tn,J,H2,e,U,T,Y,f2,hD⟩:=h2;subst e;have Z:∀b∈fp,b<s2.heap.objs.size:=λb l=>by obtain⟨o,q,_⟩:=T.obj _ _ Y b l;exact Nz q
 obtain⟨W,⟨m0,w0⟩,turn⟩:=hD s2.heap.objs.size (U.hok.fresh (N6 _));refine wpAny_newObj_type (wpAny_newFunctionEnv B.nocell (by intro y hy;simp at hy) (λE j f=>?_) B.kind);dsimp only at j f ⊢;generalize hG:s2.heap.push { cls:=.type "list",dict:=none,data:=.seq ([]:List Value).toArray }=G at j f ⊢;have hC:G.objs.size=s2.heap.objs.size+1:=by rw[<-hG,Heap.size_push]
 have hk:∀b o,s2.heap.get? b=some o->E.get? b=some o:=λb o e=>f.extBut b o (by rw[hC];exact ND (Og (Nz e))) (N2 _ (hG▸N2 _ e))
 have hDC:s2.heap.objs.size≠G.objs.size:=by rw[hC];exact ND (OH _)
 have hl:E.get? s2.heap.objs.size=some { cls:=.type "list",data:=.seq ([]:List Value).toArray 0 }:=f.extBut _ _ hDC (N2 _ (hG▸NB _ rfl));have hns:E.Ns G.objs.size (λ_=>none):=by
  have e:(λx=>([]:List (Str×Value)).reverse.lookup x)=λ_=>none:=by funext x;rfl
  rw[<-e];exact j
 have I3:=λt'=>U.blk (t':=t') (C:=G.objs.size) (D:=s2.heap.objs.size) B f2 Z rfl hC hl hns hk
 have F:∀{H':Hp},(∀b∈fp,H' b=none)->∀b∈fp,pV (blk X M scope own G.objs.size s2 H2 fp) [] H' b:=λhn b l=>by
  refine⟨hn b l,?_,?_,.inl l,λx c e z=>?_,λp hp=>absurd (show p∈([]:List (Addr×Obj))++[] from hp) (by simp)⟩
  ·show b≠G.objs.size;rw[hC];exact ND (Og (Z b l))
  ·exact (I3 0).ok.exfs b l
  ·exact ((I3 0).ok.exf b l).2 x c e z
 have loop:∀s3:Shared,(∃t',s3={ s2 with heap:=E,toks:=t' })->codeAny (model X.prog X.w) X.A (.compLoop (.ListComp elt [⟨tg,iter,ifs,0⟩] scope pos) 0 (.ref it) (.ref s2.heap.objs.size) (compEnvC scope (m8 scope.names X.env.cells []) G.objs.size X.env))
   (compPost (model X.prog X.w) X.A X.xe use Qf (.ref s2.heap.objs.size) G.objs.size) s3:=by
  rintro s3 ⟨t',rfl⟩
  refine vF (λn s'=>∃i ys O H',O.length=own.length/\Inv (blk X M scope own G.objs.size s2 H2 fp) [] (σ++O) H' s'/\tn i s'.heap/\(∀b∈fp,H' b=none)/\W i n ys H') ?_ m0
   ⟨0,[],_,_,by simp,I3 t',T.keep _ _ _ Y λb l o e=>hk b o e,λb l=>by rw[az (ND (Z b l))];exact (f2 b l).1,w0⟩
  rintro n s4 ⟨i,ys,O,P,hl',I4,st4,fr4,w4⟩
  obtain⟨hDl,alt⟩:=turn i n ys P w4;rcases alt with⟨stop,qn⟩|⟨go,step⟩
  ·refine thn (T.done (blk X M scope own G.objs.size s2 H2 fp) rfl rfl rfl hc i [] s4 _ P _ I4 (F fr4) st4 stop) λr R a=>?_
   obtain⟨hr,I5⟩:=a;subst hr;obtain⟨m,hn,_⟩:=I5.loc;have cS:s2.heap.objs.size<=G.objs.size:=by rw[hC];exact Pb _
   refine fin G.objs.size s2.heap.objs.size R P (λh' hs'=>U.unblk (C:=G.objs.size) f2 cS I5 hs') ⟨m,hn⟩ I5.free ?_ (λx c e=>?_) (λp hp=>?_) (Oo U.sz cS) qn
   ·obtain⟨_,hl0,_⟩:=U.loc;exact Oy (NL hl0.lt cS)
   ·obtain⟨_,q⟩:=U.cell x c e;exact ND (NL q.lt cS)
   ·exact ND (NL (Nz (U.pin p hp).1) cS)
  ·refine thn (T.item (blk X M scope own G.objs.size s2 H2 fp) rfl rfl rfl hc i [] s4 _ P _ I4 (F fr4) st4 go) λr R a=>?_
   obtain⟨u,hr,h5⟩:=a;subst hr;refine thn h5 λ_ s6 a=>?_
   obtain⟨x,H6,I6,r6,y6,st6,fr6⟩:=a;have I6':=I6.pinned (F fr6) (T.obj _ _ st6);have kp:∀{K:St}{H7:Hp}{s7:Shared},Inv (blk X M scope own G.objs.size s2 H2 fp) ([]++qb fp s6.heap) K H7 s7->tn (i+1) s7.heap/\∀b∈fp,H7 b=none:=λ{K H7 s7} I7=>by refine⟨T.keep _ _ _ st6 λb l o e=>(I7.pin (b,o) (N8 _ (N8 _ (je l e)))).1,λb l=>?_⟩;obtain⟨o,e,d⟩:=T.obj _ _ st6 b l;exact (I7.pin (b,o) (N8 _ (N8 _ (je l e)))).2.1
   refine thn (hg _ _ _ _ _ s6 _ H6 x u _ I6' r6 (step x H6 O hl' y6)) λ_ s7 a=>?_
   obtain⟨K,H7,I7,q7⟩:=a;refine thn ((ht _ _ _ _).run I7 q7) λok s8 a=>?_
   obtain⟨H8,I8,q8⟩:=a;cases ok with
   |false =>
    obtain⟨⟨L,e,l''⟩,m',hm,w8⟩:=(show if false=true then _ else _ from q8)
    subst e;obtain⟨k1,k2⟩:=kp I8;exact⟨m',hm,i+1,ys,L,H8,l'',I8.unpinned,k1,k2,w8⟩
   |true =>
    have q8:te K H8 _:=q8;refine thn (he _ _ _ _ _ s8 K H8 _ I8 q8) λy s9 a=>?_
    obtain⟨v,H9,I9,r9,d9,z9,⟨L,e,l''⟩,m',hm,w9⟩:=a;subst e;refine thn (mM (X:=blk X M scope own G.objs.size s2 H2 fp) _ s9 _ H9 (.ref s2.heap.objs.size) [v] (.ref s2.heap.objs.size) [y] (λ_ H'=>H'=upd H9 s2.heap.objs.size (.lst (ys++[v]))) I9 rfl (.cons r9 .nil) ⟨_,ys,v,rfl,rfl,d9,z9,rfl⟩) λ_ s10 a=>?_
    obtain⟨_,H10,I10,_,e10⟩:=a;subst e10;obtain⟨k1,k2⟩:=kp I10;exact⟨m',hm,i+1,ys++[v],L,_,l'',I10.unpinned,k1,k2,w9⟩
 exact codeAny_compStart_list (loop _ ⟨_,rfl⟩) (T.self _ 0 _ _ _ (T.keep _ _ _ Y λb l o e=>hk b o e) (loop _ ⟨_,rfl⟩))
theorem DY{c:TI}{tt:TT}{te:TE}(hc:X.calm=true)(hi:PI X tg iter c)
  (e:∀C s2 H2 fp,PG (blk X M scope own C s2 H2 fp) tg g) (f:∀C s2 H2 fp,PTs (blk X M scope own C s2 H2 fp) ifs tt) (i:∀C s2 H2 fp,PE (blk X M scope own C s2 H2 fp) elt te)
  (hB:sX X.N M X.env.scope scope own=true:=by rfl) (j:∀x,foldedSetIterable iter X.env x=pure x:=by intro _;rfl):PE X (.ListComp elt [⟨tg,iter,ifs,0⟩] scope pos) (tLC own.length c g tt te):=by
 intro pins s σ H Q I h;rw[eval_ListComp];refine qj hc hi e f i hB j I h λC D s5 l k a _ _ _ _ _ q=>?_
 obtain⟨m,hn⟩:=a;exact⟨m,hn,λh' b=>⟨.ref D,l,k h' b,rfl,q⟩⟩
theorem qG{B:TI}{tt:TT}{te:TE}(hc:X.calm=true)(O:X.N.Nodup)(j:X.N[i]?=some x)(P:Loc X.env.scope x)
  (l:swapsWith (.ListComp elt [⟨tg,iter,ifs,0⟩] scope pos) (some (.Name x pos')) spos.line X.env=pure true) (hi:PI X tg iter B)
  (Q:∀C s2 H2 fp,PG (blk X M scope own C s2 H2 fp) tg g) (R:∀C s2 H2 fp,PTs (blk X M scope own C s2 H2 fp) ifs tt) (S:∀C s2 H2 fp,PE (blk X M scope own C s2 H2 fp) elt te)
  (hB:sX X.N M X.env.scope scope own=true:=by rfl) (T:∀x,foldedSetIterable iter X.env x=pure x:=by intro _;rfl) (U:X.fn x=true\/X.env.scope.names.lookup x=some .local:=by first|exact .inl rfl|exact .inr rfl|assumption) :
  PS X (.Assign [.Name x pos'] (.ListComp elt [⟨tg,iter,ifs,0⟩] scope pos) spos) (Ej (tLC own.length B g tt te) (j7 i)):=by
 intro pins s σ H D I h;show wpAny _ _ (exec _ X.env) _ _ s;rw[exec_Assign_Name_used _ _ _ _ l];refine wpAny_bind (wpAny_standAt (wpAny_bind ?_));rw[arm_evalThenUse_ListComp];refine wpAny_bind (thn (qj (use:=some (assign (.Name x pos') X.env)) (Qf:=λ_ s'=>SP X pins D .next s') hc hi Q R S hB T I h λC E F W k p G J K Y ns q=>?_) λ_ s' Z=>wpAny_pure (wpAny_pure Z));obtain⟨m,hn⟩:=p;have I5:=k F.heap (Heap.SameBut.refl _ _);show wpAny _ _ (assign (.Name x pos') X.env (.ref E)) _ _ F;refine wpAny_assign_Name (tJ (v:=.ref E) I5 O j P rfl (λL r u=>?_) U);obtain⟨a,sb,ha⟩:=u;have w:C≠a:=by
  rcases ha with rfl|ha
  ·exact J
  ·exact λz=>K x a ha z.symm
 refine⟨m,hn.sameBut sb w,λh' y=>⟨_,W,?_,q⟩⟩;have f:∀b o,b≠C->L.heap.get? b=some o->h'.get? b=some o:=λb o A e=>(y.2 b A).trans e
 refine r.call' (s':={ L with heap:=h' }) (ch:=[C]) rfl ?_ ?_ r.bare λb A=>?_
 ·refine⟨λb o e _ _ z=>f b o (λq=>z (by rw[q];exact NA.mpr rfl)) e,λb o e _ _ z=>⟨o.slots,f b o (λq=>z (by rw[q];exact NA.mpr rfl)) e⟩,λ_ _ _ n _=>n,λb o e z=>⟨o,f b o (λq=>z (by rw[q];exact NA.mpr rfl)) e⟩,λ_ _ q=>q,λ_ _ _ q=>q,λ_ _ q=>q⟩
 ·intro b o e;refine (r.hok b o e).stay (λc v hc q=>f c v ?_ q) (λ_ q=>q) λ_ _ q=>q
  rintro rfl
  rcases hc with z|z
  ·subst z;rw[G]at e;cases e
  ·rw[G]at z;cases z
 ·rw[NA.mp A];exact⟨.inr ns,λz=>J z,K,Y⟩
mutual
def IsD(K:W.Frag)(H:Hp):PyData->V->Prop
 |.none,v=>v=.non
 |.bool b,v=>v=.bl b
 |.int i,v=>v=.int i
 |.str x,v=>v=.str x
 |.list ds,v=>∃a xs,v=.ref a/\SqL K H a xs/\eZ K H ds xs
 |.tuple ds,v=>∃a xs,v=.ref a/\SqT K H a xs/\eZ K H ds xs
 |.dict _,_=>False
def eZ(K:W.Frag)(H:Hp):List PyData->List V->Prop
 |[],vs=>vs=[]
 |d::ds,vs=>∃v r,vs=v::r/\IsD K H d v/\eZ K H ds r
end
theorem av.tupS(e:av H H')(h:SqT K H a xs):SqT K H' a xs:=by
 rcases h with (h|⟨o,h⟩)|h
 ·exact .inl (.inl (e _ _ h))
 ·exact .inl (.inr ⟨o,e _ _ h⟩)
 ·exact .inr h
mutual
theorem IsD.same{K:W.Frag}{H H':Hp}(e:av H H'):∀{d:PyData}{v:V},IsD K H d v->IsD K H' d v
 |.none,_,h=>by unfold IsD at h ⊢;exact h
 |.bool _,_,h=>by unfold IsD at h ⊢;exact h
 |.int _,_,h=>by unfold IsD at h ⊢;exact h
 |.str _,_,h=>by unfold IsD at h ⊢;exact h
 |.list ds,_,h=>by unfold IsD at h ⊢;obtain⟨a,xs,e1,h1,h2⟩:=h;exact⟨a,xs,e1,e.seq h1,eZ.same e h2⟩
 |.tuple ds,_,h=>by unfold IsD at h ⊢;obtain⟨a,xs,e1,h1,h2⟩:=h;exact⟨a,xs,e1,e.tupS h1,eZ.same e h2⟩
 |.dict _,_,h=>by unfold IsD at h;exact h.elim
theorem eZ.same{K:W.Frag}{H H':Hp}(e:av H H'):∀{ds:List PyData}{vs:List V},eZ K H ds vs->eZ K H' ds vs
 |[],_,h=>by unfold eZ at h ⊢;exact h
 |d::ds,_,h=>by unfold eZ at h ⊢;obtain⟨v,r,e1,h1,h2⟩:=h;exact⟨v,r,e1,IsD.same e h1,eZ.same e h2⟩
end
section
theorem vH{i:Int}:IsD K H (.int i) (.int i):=by unfold IsD;rfl
theorem Dl{b:Bool}:IsD K H (.bool b) (.bl b):=by unfold IsD;rfl
theorem Dh:IsD K H .none .non:=by unfold IsD;rfl
theorem Gd:IsD K H (.str x) (.str x):=by unfold IsD;rfl
theorem Ie(h:SqT K H a xs)(h2:eZ K H ds xs):IsD K H (.tuple ds) (.ref a):=by unfold IsD;exact⟨a,xs,rfl,h,h2⟩
theorem vG(h:SqL K H a xs)(h2:eZ K H ds xs):IsD K H (.list ds) (.ref a):=by unfold IsD;exact⟨a,xs,rfl,h,h2⟩
theorem rq:eZ K H [] []:=by unfold eZ;rfl
theorem sY{d:PyData}(h:IsD K H d v)(h2:eZ K H ds vs):eZ K H (d::ds) (v::vs):=by unfold eZ;exact⟨v,vs,rfl,h,h2⟩
theorem IsD.ofInt{i:Int}(h:IsD K H (.int i) v):v=.int i:=by unfold IsD at h;exact h
theorem IsD.ofBool{i:Bool}(h:IsD K H (.bool i) v):v=.bl i:=by unfold IsD at h;exact h
theorem IsD.ofNone(h:IsD K H .none v):v=.non:=by unfold IsD at h;exact h
theorem IsD.ofStr(h:IsD K H (.str x) v):v=.str x:=by unfold IsD at h;exact h
theorem IsD.ofTup(h:IsD K H (.tuple ds) v):∃a xs,v=.ref a/\SqT K H a xs/\eZ K H ds xs:=by unfold IsD at h;exact h
theorem IsD.ofLst(h:IsD K H (.list ds) v):∃a xs,v=.ref a/\SqL K H a xs/\eZ K H ds xs:=by unfold IsD at h;exact h
theorem eZ.nil_of(h:eZ K H [] vs):vs=[]:=by unfold eZ at h;exact h
theorem eZ.cons_of{d:PyData}(h:eZ K H (d::ds) vs):∃v r,vs=v::r/\IsD K H d v/\eZ K H ds r:=by unfold eZ at h;exact h
theorem tK:∀(ns:List Int),eZ K H (ns.map PyData.int) (ns.map V.int)
 |[]=>rq
 |_::r=>sY vH (tK r)
end
section
mutual
theorem Inv.reads(I:Inv X pins σ H s):∀{d:PyData}{v:V}{u:Value},IsD X.K H d v->RelV v u->∃as,Reads s.heap u d as
 |.none,_,_,h,r=>by rw[h.ofNone]at r;cases r;exact⟨_,.none⟩
 |.bool _,_,_,h,r=>by rw[h.ofBool]at r;cases r;exact⟨_,.bool _⟩
 |.int _,_,_,h,r=>by rw[h.ofInt]at r;obtain⟨t,rfl⟩:=r;exact⟨_,.int _ _⟩
 |.str _,_,_,h,r=>by rw[h.ofStr]at r;obtain⟨t,rfl⟩:=r;exact⟨_,.str _ _⟩
 |.list ds,_,_,h,r=>by obtain⟨a,xs,e,h1,h2⟩:=h.ofLst;subst e;cases r;obtain⟨b,f,⟨o,n,g,c,_,d⟩,_⟩:=I.list h1;obtain⟨as,i⟩:=Inv.readsAll I h2 f;exact⟨_,.list g c d (by simpa using i)⟩
 |.tuple ds,_,_,h,r=>by obtain⟨a,xs,e,h1,h2⟩:=h.ofTup;subst e;cases r;obtain⟨b,f,⟨o,g,c,n,d⟩,_⟩:=I.tuple h1;obtain⟨as,i⟩:=Inv.readsAll I h2 f;exact⟨_,.tuple g c d (by simpa using i)⟩
 |.dict _,_,_,h,_=>by unfold IsD at h;exact h.elim
theorem Inv.readsAll(I:Inv X pins σ H s):∀{ds:List PyData}{vs:List V}{us:List Value},eZ X.K H ds vs->Vals vs us->∃as,ReadsAll s.heap us ds as
 |[],_,_,h,r=>by rw[h.nil_of]at r;cases r;exact⟨_,.nil⟩
 |d::ds,_,_,h,r=>by
  obtain⟨v,t,e,h1,h2⟩:=h.cons_of;subst e;cases r with
  |cons r1 r2 =>obtain⟨as,a⟩:=Inv.reads I h1 r1;obtain⟨bs,b⟩:=Inv.readsAll I h2 r2;exact⟨_,.cons a b⟩
end
open PySem.SeqAt in
theorem yL(a:X.A.units+64<cLine):OpR X (compareOp .Eq) (λx y H Q=>∃d e,IsD X.K H d x/\IsD X.K H e y/\shaped d=true/\shaped e=true/\Q (.bl (PyData.eqv d e)) H):=by intro pins s σ H x y v u Q I b c h;obtain⟨d,e,hd,f,g,i,q⟩:=h;obtain⟨as,j⟩:=I.reads hd b;obtain⟨bs,l⟩:=I.reads f c;exact eq_dataH j l g i a ⟨.bl _,H,I,rfl,q⟩
open PySem.SeqAt in
theorem JR(a:X.A.units+64<cLine):OpR X (compareOp .NotEq) (λx y H Q=>∃d e,IsD X.K H d x/\IsD X.K H e y/\shaped d=true/\shaped e=true/\Q (.bl (!PyData.eqv d e)) H):=by intro pins s σ H x y v u Q I b c h;obtain⟨d,e,hd,f,g,i,q⟩:=h;obtain⟨as,j⟩:=I.reads hd b;obtain⟨bs,l⟩:=I.reads f c;exact ne_dataH j l g i a ⟨.bl _,H,I,rfl,q⟩
def tyD:PyData->String
 |.none=>"NoneType"
 |.bool _=>"bool"
 |.int _=>"int"
 |.str _=>"str"
 |.list _=>"list"
 |.tuple _=>"tuple"
 |.dict _=>"dict"
def vn(d:PyData)(T:String):Bool:=tyD d==T||(T=="int"&&tyD d=="bool")
theorem Io(K:W.Frag){a T:String}(ha:a∈["NoneType", "bool", "int", "str", "list", "tuple"])(b:T∈["bool", "int", "list", "tuple"]) :
  W.kitOne K (.type a) (.type T)=some (a==T||(T=="int"&&a=="bool")):=by
 simp only[N5,NN,or_false]at ha b;rcases ha with rfl|rfl|rfl|rfl|rfl|rfl <;> rcases b with rfl|rfl|rfl|rfl <;> rfl
theorem HM{d:PyData}(h:IsD K H d v):tyD d∈["NoneType", "bool", "int", "str", "list", "tuple"]:=by
 cases d with
 |dict _=>unfold IsD at h;exact h.elim
 |_=>simp[tyD]
theorem xW:j8 X (.builtin "isinstance") (λxs H Q=>∃d v T,xs=[v,.ty T]/\IsD X.K H d v/\T∈["bool", "int", "list", "tuple"]/\Q (.bl (vn d T)) H):=by
 intro pins s σ H xs us Q I r h;obtain⟨d,v,T,rfl,hd,l,q⟩:=h;obtain⟨u,c,rfl,f,m⟩:=vals2 r;cases m;have e:W.kitOne X.K (.type (tyD d)) (.type T)=some (vn d T):=Io X.K (HM hd) l;have fin:∀tk,EP X pins σ Q (.bool (vn d T)) { s with toks:=tk }:=λtk=>⟨.bl _,H,I.tok tk,rfl,q⟩
 cases d with
 |none=>rw[hd.ofNone]at f;cases f;exact W.kia_one W.kitx_none I.kIn True.intro e (λz=>nomatch z) fin
 |bool b=>rw[hd.ofBool]at f;cases f;exact W.kia_one W.kitx_bool I.kIn True.intro e (λz=>nomatch z) fin
 |int i=>rw[hd.ofInt]at f;obtain⟨t,rfl⟩:=f;exact W.kia_one W.kitx_int I.kIn True.intro e (λz=>nomatch z) fin
 |str x=>rw[hd.ofStr]at f;obtain⟨t,rfl⟩:=f;exact W.kia_one W.kitx_str I.kIn True.intro e (λz=>nomatch z) fin
 |list ds =>obtain⟨a,xs,e1,h1,h2⟩:=hd.ofLst;subst e1;cases f;obtain⟨j,p,⟨o,n,g,c,_,_⟩,_⟩:=I.list h1;exact W.kia_one W.kitx_list I.kIn ⟨o,g,c⟩ e (λz=>nomatch z) fin
 |tuple ds =>obtain⟨a,xs,e1,h1,h2⟩:=hd.ofTup;subst e1;cases f;obtain⟨j,p,⟨o,g,c,n,_⟩,_⟩:=I.tuple h1;exact W.kia_one W.kitx_tuple I.kIn ⟨o,g,c⟩ e (λz=>nomatch z) fin
 |dict _=>unfold IsD at hd;exact hd.elim
theorem qK:∀{bs:List Bool}{us:List Value},Vals (bs.map V.bl) us->LSm.BoolsAre us bs
 |[],_,.nil=>.nil
 |b::r,_,.cons h t=>by cases (show _=Value.bool b from h);exact .cons b (qK t)
theorem Ez(hc:X.calm=true):j8 X (.builtin "all") (λxs H Q=>∃(a:Addr)(bs:List Bool),xs=[.ref a]/\SqL X.K H a (bs.map V.bl)/\Q (.bl (bs.all id)) H):=by
 intro pins s σ H xs us Q I r h;obtain⟨a,bs,rfl,l,q⟩:=h;obtain⟨u,rfl,m⟩:=vals1 r;cases m;obtain⟨c,n,p,_⟩:=I.list l;have hl:=p.isList;have g:=qK n;have f:a<s.heap.objs.size:=by obtain⟨_,e,_⟩:=hl;exact Nz e
 refine call_all_walk (wpAny_pyIter_list hl ?_);refine⟨s.heap.objs.size,[s.heap.objs.size,a],[s.heap.objs.size],c.toArray.size,_,_,λi=>(bs[i]?).getD true,rfl,Walks.list (A:=X.A.in1) (I.ok.hd hc) _ a (ND f) c.toArray,
  ⟨⟨_,NB _ rfl,rfl,rfl⟩,hl.push _⟩,λi v s' Q' E' o j=>?_,λh' tk w=>?_⟩
 ·obtain⟨b,e,rfl⟩:=g.get i v (by simpa using o);simp only[e,Option.getD_some]at j;exact wpAny_truthy_bool j
 ·have e:((List.range c.toArray.size).all λi=>(bs[i]?).getD true)=bs.all id:=by rw[NF,g.length];exact LSm.range_all bs
  rw[e];exact⟨.bl _,H,I.kept (LSm.kept_iter w),rfl,q⟩
theorem Fg(hc:X.calm=true):j8 X (.builtin "sum") (λxs H Q=>∃(a:Addr)(ns:List Int),xs=[.ref a]/\SqL X.K H a (ns.map V.int)/\Q (.int ns.sum) H):=by
 intro pins s σ H xs us Q I r h;obtain⟨a,ns,rfl,f,q⟩:=h;obtain⟨u,rfl,g⟩:=vals1 r;cases g;obtain⟨b,i,p,_⟩:=I.list f;have hi:IntsAre b ns:=intsAre_of i;obtain⟨xs,e⟩:=hi.allInts.items;have c:s.heap.IsList a (intItems xs):=e▸p.isList;refine sum_intListG (I.ok.hd hc) c λh' tk t' j=>?_
 have e1:ns=xs.toList.map (·.1):=by rw[<-nums_intItems,<-e];exact (show numsOf b.toArray.toList=ns from hi.numsOf).symm
 have e2:preSum (numAt xs) xs.size=ns.sum:=by rw[preSum_eq,List.take_of_length_le (by simp),e1]
 rw[e2];exact⟨.int _,H,I.kept j,⟨_,rfl⟩,q⟩
end
structure Nj(P:Program)(w:World)(outer:List Env)(H:Hp)(s:Shared)(H':Hp)(B:Heap)(ea:Addr)(cls a0:Value)(s':Shared):Prop where
 os:s'.os=s.os
 bare:AllBare s'.gens
 hok:HOk P w H' B
 keep:∀b o,s.heap.get? b=some o->H b=none->b∉frs outer->B.get? b=some o
 there:∀b o,s.heap.get? b=some o->b∉frs outer->∃o',B.get? b=some o'
 slot:∀b o,s.heap.get? b=some o->b∈frs outer->∃sl,s'.heap.get? b=some { o with slots:=sl }
 free:∀b o,s.heap.get? b=some o->H b=none->H' b=none
 tups:∀b xs,H b=some (.tup xs)->H' b=some (.tup xs)
 frzs:∀b o u,H b=some (.frz o u)->H' b=some (.frz o u)
 tbls:∀b q,H b=some (.tbl q)->H' b=some (.tbl q)
 fly:Heap.FlyingW B outer ea cls a0 s'.heap
def CXW(P:Program)(w:World):CXT:=λouter H s E e s'=>∃ea cls a0 H' B,e=.ref ea/\E cls none H'/\Nj P w outer H s H' B ea cls a0 s'
section
variable {f:Addr}{A:Around}
theorem wV{L:Addr}(a:env.frame=some L):frs (env::outer)=L::frs outer:=by unfold frs;rw[Pc,a]
theorem wU{CX:CXT}{g:Shared}{ea:Addr}{cls:Value}{vs:List Value}
  (I:Inv (dz (CXW P w) P w K mg base N qual scope f cd A outer s H E) pins σ H1 g) (p:Heap.MadeExcOf g.heap h' ea cls vs) (r:E cls none H1) :
  (dz (CXW P w) P w K mg base N qual scope f cd A outer s H E).xe (.ref ea) { g with heap:=h' }:=by
 have i:=I.stack;have j:frs (dz (CXW P w) P w K mg base N qual scope f cd A outer s H E).stack=s.heap.objs.size::frs outer:=wV rfl;have l:∀env∈(dz (CXW P w) P w K mg base N qual scope f cd A outer s H E).stack,∀b,env.frame=some b->b∈frs (dz (CXW P w) P w K mg base N qual scope f cd A outer s H E).stack:=λenv v b c=>PJ.mpr ⟨env,v,c⟩
 have out:∀b o,s.heap.get? b=some o->b∉frs outer->b∉frs (dz (CXW P w) P w K mg base N qual scope f cd A outer s H E).stack:=λb o e n z=>by
  rw[j]at z;rcases N5.mp z with z|z
  ·rw[z]at e;exact absurd (Nz e) (OB _)
  ·exact n z
 refine wpAny_leaves_madeW (base:=W.hideAll g.heap (frs (dz (CXW P w) P w K mg base N qual scope f cd A outer s H E).stack)) I.ok.frames rfl (λb o q=>W.of_hideAll _ q) (W.funFrames_hide i l) p λh2 t x1 x2 x3 x4=>?_
 refine⟨ea,cls,.ref t,H1,_,rfl,r,⟨I.os,I.bare,?_,?_,?_,?_,?_,I.base.tups,I.base.frzs,I.base.tbls,x1⟩⟩
 ·intro a o e;refine (I.hok a o e).stay (λb u c q=>W.hideAll_get _ q λz=>?_) (λ_ q=>q) λ_ _ q=>q
  have:=I.stkFree b z;rcases c with c|c
  ·rw[c,e]at this;cases this
  ·rw[c]at this;cases this
 ·intro b o e n c;exact W.hideAll_get _ (I.base.keep b o e n c (NN)) (out b o e c)
 ·intro b o e c;obtain⟨o',q⟩:=I.base.there b o e (NN);exact⟨o',W.hideAll_get _ q (out b o e c)⟩
 ·intro b o e c;obtain⟨sl,q⟩:=I.base.slot b o e (I.ok.frf b c) c (NN);obtain⟨_,x,h,d2⟩:=I.ok.funs.mem c;have h:s.heap.get? b=some x:=h;rw[e]at h;cases h;obtain⟨m,y⟩:=x4 b _ (p.keeps b _ q) d2;exact⟨m,y⟩
 ·intro b o e n;exact I.base.free b o e n (NN)
theorem HJ:Passes (CXW P w) (dz (CXW P w) P w K mg base N qual scope f cd A outer s H E) E:=by
 intro pins σ H1 s1 e s2 I hc;obtain⟨ea,cls,a0,H2,B,rfl,i,F⟩:=hc;have c:frs (dz (CXW P w) P w K mg base N qual scope f cd A outer s H E).stack=s.heap.objs.size::frs outer:=wV rfl;have out:∀b o,s.heap.get? b=some o->b∉frs outer->b∉frs (dz (CXW P w) P w K mg base N qual scope f cd A outer s H E).stack:=λb o e n z=>by
  rw[c]at z;rcases N5.mp z with z|z
  ·rw[z]at e;exact absurd (Nz e) (OB _)
  ·exact n z
 refine wpAny_leaves_onW I.ok.frames rfl F.fly λh2 x1 x2=>⟨ea,cls,a0,H2,B,rfl,i,⟨F.os.trans I.os,F.bare,F.hok,?_,?_,?_,?_,?_,?_,?_,x1⟩⟩
 ·intro b o e n a;exact F.keep b o (I.base.keep b o e n a (NN)) (I.base.free b o e n (NN)) (out b o e a)
 ·intro b o e a;obtain⟨o',q⟩:=I.base.there b o e (NN);exact F.there b o' q (out b o e a)
 ·intro b o e a;obtain⟨sl,q⟩:=I.base.slot b o e (I.ok.frf b a) a (NN);obtain⟨_,j,g,d2⟩:=I.ok.funs.mem a;have g:s.heap.get? b=some j:=g;rw[e]at g;cases g;obtain⟨sl1,l⟩:=F.slot b _ q (by rw[c];exact N0 _ a);obtain⟨h,m⟩:=x2 b _ l d2;exact⟨h,m⟩
 ·intro b o e n;obtain⟨o',q⟩:=I.base.there b o e (NN);exact F.free b o' q (I.base.free b o e n (NN))
 ·intro b xs e;exact F.tups b xs (I.base.tups b xs e)
 ·intro b o u e;exact F.frzs b o u (I.base.frzs b o u e)
 ·intro b ps e;exact F.tbls b ps (I.base.tbls b ps e)
end
theorem GF{a:List Value}(X:K.In h)(q:W.excIn K C a newId=true) :
  ∃bm N nm r bs hdct sn sub ab col dd k0 k1 k2 k3 k5 mN,h.get? C=some (excClassObj nm r C N bs bm hdct sn sub ab col dd k0 k1 k2 k3 k5 newId)/\h.Ns N mN/\mN "__init__"=none/\OwnTail h a bm:=by
 unfold W.excIn at q;split at q
 ·rename_i d1 s l1 g1;split at q
  ·rename_i C2 b g i j m n2 n hm u;simp only[N7,beq_iff_eq,PQ]at q;obtain⟨⟨⟨⟨⟨v,w⟩,o⟩,x⟩,c⟩,p⟩:=q;subst v;subst w;obtain⟨z1,z2,z3,y,z,A,B,D,E,e,z11⟩:=s;dsimp only at hm o c p;subst hm;subst o;have hl:l1=#[g,i,j,m,some (.builtin n2),n]:=by obtain⟨l⟩:=l1;have f:l=_:=u;rw[f]
   subst hl;exact⟨b,y,z1,z,z2,A,B,D,E,e,d1,g,i,j,m,n,_,X _ _ g1,.of_isNs (W.isNs_of_in X c),W.nsMap_none_of_in X c p,W.tail_of_in X x⟩
  ·cases q
 ·cases q
def yN(X:Cx)(E:XK):Prop:=∀(pins:List (Addr×Obj))(σ:St)(H:Hp)(s:Shared)(h':Heap)(ea:Addr)(cls:Value)(vs:List Value),Inv X pins σ H s->Heap.MadeExcOf s.heap h' ea cls vs->E cls none H->X.xe (.ref ea) { s with heap:=h' }
def Ki(C:Addr)(E:XK)(t:TA):TS:=λ_ σ H=>t σ H λvs H1=>vs.length<=sizeLine/\E (.ref C) none H1
theorem C9{B a:String}{bm:List Value}{m:Pos}{t:TA}(hc:X.calm=true)(M:yN X E)(FB:ExcBaseFacts B newId a bm)(n:Gl X x)(hm:X.mg x=some (.ref C))(o:W.excIn X.K C bm newId=true)
  (ha:PA X (e::es) t) (c:(x==("__debug__":Str))=false:=by decide) (j:starEach (e::es) X.env=(false,eval e X.env)::starEach es X.env:=by rfl) (f:(backTo cpos (starEach es X.env)).any (·.1)=false:=by rfl) :
  PS X (.Raise (some (.Call (.Name x m) (e::es) [] cpos)) none pos) (Ki C E t):=by
 intro pins s σ H D I h;obtain⟨tl,N,nm,q,bs,hdct,sn,sub,ab,col,dd,k0,k1,k2,k3,k5,mN,g,p,i,T⟩:=GF I.mod.kin o;refine wpAny_Raise_call_subT (C:=C) (nm:=nm) (q:=q) (N:=N) (bs:=bs) (bm:=tl) (hdct:=hdct) (sn:=sn) (sub:=sub) (ab:=ab) (col:=col) (dd:=dd) (k0:=k0) (k1:=k1) (k2:=k2) (k3:=k3) (k5:=k5)
  FB (mN:=mN) (T.hasType FB.hasBase) (I.ok.hd hc) (by rw[j];show (false||(backTo cpos (starEach es X.env)).any (·.1))=false;rw[f];rfl) i (oP I n hm ⟨rfl,?_⟩ c)
 have l:=ha cpos pins s σ H _ I h;rw[j]at l ⊢;refine Calls.evalArgs_plain (wpAny_mono l (λus s2 h2=>?_) λ_ _ y=>y);obtain⟨vs,H2,b,r,z,u⟩:=h2;exact⟨rfl,by rw[<-r.length];exact z,b.bk _ _ g,p.keeps b.bk,T.keeps b.bk,λh' ea v=>M pins σ H2 s2 h' ea _ _ b v u⟩
theorem g9(h:H D=none):av H (upd H D o):=λb u e=>by rw[az (aI e h)];exact e
theorem av.put(s:av H H')(h:H D=none):av H (upd H' D o):=λb u e=>by rw[az (aI e h)];exact s b u e
mutual
def g0:PyData->Bool
 |.list _=>false
 |.tuple ds=>kZ ds
 |.dict _=>false
 |_=>true
def kZ:List PyData->Bool
 |[]=>true
 |d::ds=>g0 d&&kZ ds
end
theorem set_own(σ:St)(x:Option V)(v:V)(a:St)(h:a.length=1):(σ++a).set σ.length (some v)=σ++[some v]:=by obtain⟨y,rfl⟩:=List.length_eq_one_iff.mp h;simp
structure Rows(H H':Hp)(D:Addr)(qs:List Addr)(rs:List (List Int)):Prop where
 d:H' D=some (.lst (qs.map V.ref))
 len:qs.length=rs.length
 at':∀(i:Nat) q r,qs[i]?=some q->rs[i]?=some r->H' q=some (.lst (r.map V.int))
 new:∀q∈qs,H q=none
 nd:qs.Nodup
 nD:D∉qs
section
variable {A:Around}{E:Value->Shared->Prop}
theorem yj{t:Addr}{a:Array Value}{x:Value}(hi:s.heap.IsTupleIter it t i)(e:s.heap.IsTuple t a)(f:a[i]?=some x)
  (g:∀h',h'.IsTupleIter it t (i+1)->Heap.SameBut it s.heap h'->Q x { s with heap:=h' }):wpAny (model prog w) A (Builtin.SmallTypes.nextOf (.ref it)) Q E s:=by
 obtain⟨oi,c,h,b⟩:=id hi;obtain⟨ot,j,_,nt,l⟩:=e;unfold Builtin.SmallTypes.nextOf;refine wpAny_bind (wpAny_callSpecial?_slot (name:=Str.ofString "__next__") hi.typeIs F.slot_tuple_iterator_next (wpAny_call_entry F.slot_tuple_iterator_next hi.typeIs F.entry_tuple_iterator_next ?_ (F.args_tuple_iterator_next_1 _)));refine wpAny_bind (m:=field (.ref it) 0) (wpAny_field c b (x:=.ref t) rfl ?_);show wpAny (model prog w) _ (if (Value.ref t==Value.none)=true then _ else _) _ _ s;have n:¬ (Value.ref t==Value.none)=true:=λq=>NO q
 rw[if_neg n];refine wpAny_bind (m:=field (.ref it) 1) (wpAny_field c b (x:=.int i 0) rfl ?_);refine wpAny_bind (m:=seqItems? (.ref t)) (wpAny_seqItems j l ?_);simp only[O6,f];refine wpAny_bind (wpAny_setField c b (by simp) (wpAny_pure ⟨x,rfl,wpAny_pure (g _ ⟨_,P4 _ c (Obj.isFreed_of_fields (Obj.data_mapFields b _)),(Obj.cls_mapFields ..).trans h,?_⟩ (Heap.SameBut.update ..))⟩));rw[Obj.data_mapFields b];simp[rawInt]
theorem pC{t:Addr}{c:Array Value}(h:A.handled=none)(hi:s.heap.IsTupleIter it t i)(j:s.heap.IsTuple t c)(l:c[i]?=none)
  (n:∀h' e,Heap.ExtBut it s.heap h'->(∃o,h'.get? e=some o/\o.cls=.type "StopIteration")->E (.ref e) { s with heap:=h' }):wpAny (model prog w) A (Builtin.SmallTypes.nextOf (.ref it)) Q E s:=by
 obtain⟨oi,f,ci,g⟩:=id hi;obtain⟨ot,p,_,nt,r⟩:=j;unfold Builtin.SmallTypes.nextOf;refine wpAny_bind (wpAny_callSpecial?_slot (name:=Str.ofString "__next__") hi.typeIs F.slot_tuple_iterator_next (wpAny_call_entry F.slot_tuple_iterator_next hi.typeIs F.entry_tuple_iterator_next ?_ (F.args_tuple_iterator_next_1 _)));refine wpAny_bind (m:=field (.ref it) 0) (wpAny_field f g (x:=.ref t) rfl ?_);show wpAny (model prog w) _ (if (Value.ref t==Value.none)=true then _ else _) _ _ s;have u:¬ (Value.ref t==Value.none)=true:=λq=>NO q
 rw[if_neg u];refine wpAny_bind (m:=field (.ref it) 1) (wpAny_field f g (x:=.int i 0) rfl ?_);refine wpAny_bind (m:=seqItems? (.ref t)) (wpAny_seqItems p r ?_);simp only[O6,l];refine wpAny_bind (wpAny_rule (wpAny_bind (wpAny_setField f g (by simp) ?_)));refine wpAny_bind (m:=newExc (.type "StopIteration") []) ?_;unfold newExc newTuple;refine wpAny_bind (wpAny_newObj_type ?_ (by size_fits ));refine wpAny_bind (m:=firstArgMember _ _) (wpAny_of_eq (a:=Value.none) (by first|rfl|(unfold firstArgMember;rfl)) ?_);refine wpAny_newObj_type ?_ (by size_fits );unfold raiseNew;refine wpAny_bind (wpAny_handled ?_)
 first|rw[show A.in1.handled=none from h]|rw[h]
 refine wpAny_bind (wpAny_pure (wpAny_throw ?_));refine n _ _ (λb o v e=>?_) ⟨_,NB _ rfl,rfl⟩;exact N2 _ (N2 _ ((Od _ _ (Ne.symm v)).trans e))
theorem kA(j:A.handled=none)(it t:Addr)(c:t≠it)(a:Array Value):Draws prog w A it [it,t] a.size (λi v=>a[i]?=some v) (λi h=>h.IsTupleIter it t i/\h.IsTuple t a) where
 live:=λ_ _ st=>by obtain⟨⟨o,g,_⟩,_⟩:=st;exact⟨o,g⟩
 frame:=λ_ _ _ st k=>by obtain⟨⟨o,g,r⟩,⟨b,g2,e⟩⟩:=st;exact⟨⟨o,k it (by simp) o g,r⟩,⟨b,k t (by simp) b g2,e⟩⟩
 item:=λi s Q E hi st l=>yj st.1 st.2 (x:=a[i]) (by simp[hi]) λh' i' f=>by refine l _ h' s.toks (by simp[hi]) ⟨i',?_⟩ f;obtain⟨b,g2,e⟩:=st.2;exact⟨b,(f.2 t c).trans g2,e⟩
 done:=λs Q E st m=>pC j st.1 st.2 (by simp) m
end
structure mY(z TI TO i1 i2:Addr)(f1 f2:List Addr):Prop where
 TIz:TI≠z
 TOz:TO≠z
 z1:i1≠z
 z2:i2≠z
 TIO:TI≠TO
 TI1:TI≠i1
 TI2:TI≠i2
 TO1:TO≠i1
 TO2:TO≠i2
 i12:i1≠i2
 a1:∀b∈f1,b≠z/\b≠TO/\b≠i2
 a2:∀b∈f2,b≠z/\b≠TO/\b≠i1
section
variable {A:Around}{E:Value->Shared->Prop}{z TI TO i1 i2:Addr}{f1 f2:List Addr}{n1 n2 k:Nat}{P1 P2:Nat->Value->Prop}{S1 S2:Nat->Heap->Prop}{a b:Value}
theorem Fx(p:Draws prog w A i1 f1 n1 P1 S1)(q:Draws prog w A i2 f2 n2 P2 S2)(Z:mY z TI TO i1 i2 f1 f2)(i:IsZip s.heap z TI TO .none)(hI:IsPair s.heap TI (.ref i1) (.ref i2))(hO:IsPair s.heap TO a b)
  (F:S1 k s.heap) (G:S2 k s.heap) (k1:k<n1) (k2:k<n2)
  (hQ:∀h' x y tk,P1 k x->P2 k y->IsZip h' z TI TO (rawInt s.heap.objs.size)->IsPair h' TO x y->S1 (k+1) h'->S2 (k+1) h'->IsPair h' s.heap.objs.size x y ->
   (∀c o,c≠z->c≠TO->c≠i1->c≠i2->s.heap.get? c=some o->h'.get? c=some o)->Q (.ref s.heap.objs.size) { s with heap:=h',toks:=tk }) :
  wpAny (model prog w) A (Builtin.«zip.__next__» ⟨[.ref z],[]⟩) (λfin s'=>∃v,fin=.done (.ret v)/\Q v s') E s:=by
 refine wpAny_bind (m:=field (.ref z) 2) (wpAny_field i rfl (x:=.bool false) rfl ?_);refine wpAny_bind (m:=field (.ref z) 3) (wpAny_field i rfl (x:=.ref TI) rfl ?_);refine wpAny_bind (wpAny_seqItems hI rfl ?_);refine wpAny_bind (m:=Builtin.SmallTypes.ownedTupleIsFree (.ref z)) ?_;unfold Builtin.SmallTypes.ownedTupleIsFree;refine wpAny_bind (wpAny_field i rfl (x:=.none) rfl (wpAny_pure ?_));rw[if_pos (by rfl)];refine wpAny_bind (wpAny_rule (wpAny_bind (wpAny_field i rfl (x:=.ref TO) rfl (wpAny_bind (wpAny_setField_rec i (by simp) λg1 H e1=>?_)))));have H:IsZip g1 z TI TO .ellipsis:=H;refine wpAny_bind ?_;simp only[List.zipIdx_cons,List.zipIdx_nil,Ph,List.forIn_nil];refine wpAny_bind (wpAny_bind (wpAny_onRaise (wpAny_bind (m:=Builtin.SmallTypes.nextOf (.ref i1)) ?_)));have u1:S1 k g1:=p.frame _ _ _ F λb f o e=>(e1.2 b (Z.a1 b f).1).trans e
 refine p.item k { s with heap:=g1 } _ _ k1 u1 λx g2 P px v1 e2=>wpAny_pure ?_
 have R:IsPair g2 TO a b:=(e2.2 TO Z.TO1).trans ((e1.2 TO Z.TOz).trans hO);refine wpAny_bind (wpAny_seqItems (s:={ s with heap:=g2,toks:=P }) R rfl (wpAny_bind (wpAny_updateSeq_pair R λI J j=>?_)));have J:IsPair I TO x b:=J;refine wpAny_bind (wpAny_letGo (wpAny_pure (wpAny_bind (wpAny_bind (wpAny_onRaise (wpAny_bind (m:=Builtin.SmallTypes.nextOf (.ref i2)) ?_))))));have u2:S2 k I:=q.frame _ _ _ G λb f o e=>(j.2 b (Z.a2 b f).2.1).trans ((e2.2 b (Z.a2 b f).2.2).trans ((e1.2 b (Z.a2 b f).1).trans e))
 refine q.item k { s with heap:=I,toks:=P } _ _ k2 u2 λy S K py v2 l=>wpAny_pure ?_
 have T:IsPair S TO x b:=(l.2 TO Z.TO2).trans J;refine wpAny_bind (wpAny_seqItems (s:={ s with heap:=S,toks:=K }) T rfl (wpAny_bind (wpAny_updateSeq_pair T λg r n=>?_)));have r:IsPair g TO x y:=r;refine wpAny_bind (wpAny_letGo (wpAny_pure (wpAny_pure (wpAny_bind (wpAny_seqItems (s:={ s with heap:=g,toks:=K }) r rfl (wpAny_bind (wpAny_newTuple ?_)))))));have sz:g.objs.size=s.heap.objs.size:=by rw[n.1,l.1,j.1,e2.1,e1.1]
 have U:IsZip g z TI TO .ellipsis:=(n.2 z Z.TOz.symm).trans ((l.2 z Z.z2.symm).trans ((j.2 z Z.TOz.symm).trans ((e2.2 z Z.z1.symm).trans H)));have L:∀c o,c≠z->c≠TO->c≠i1->c≠i2->s.heap.get? c=some o->g.get? c=some o:=λc o h u M N e =>
  (n.2 c u).trans ((l.2 c N).trans ((j.2 c u).trans ((e2.2 c M).trans ((e1.2 c h).trans e))))
 have w1:S1 (k+1) g:=p.frame _ _ _ v1 λb f o e=>(n.2 b (Z.a1 b f).2.1).trans ((l.2 b (Z.a1 b f).2.2).trans ((j.2 b (Z.a1 b f).2.1).trans e))
 have w2:S2 (k+1) g:=q.frame _ _ _ v2 λb f o e=>(n.2 b (Z.a2 b f).2.1).trans e
 have zl:z<g.objs.size:=Nz U;refine wpAny_bind (m:=Builtin.SmallTypes.ownedTupleHandOut (.ref z) (.ref g.objs.size)) ?_;unfold Builtin.SmallTypes.ownedTupleHandOut;have y6:IsZip (g.push { cls:=.type "tuple",data:=.seq #[x,y] }) z TI TO .ellipsis:=N2 _ U;refine wpAny_bind (wpAny_setField_rec y6 (by simp) λg7 O W=>?_);have O:IsZip g7 z TI TO (rawInt g.objs.size):=O;refine wpAny_setField_rec O (by simp) λB C X=>?_
 have C:IsZip B z TI TO (rawInt g.objs.size):=C;have D:∀c o,c≠z->g.get? c=some o->B.get? c=some o:=λc o h e=>(X.2 c h).trans ((W.2 c h).trans (N2 _ e))
 have Y:IsPair B g.objs.size x y:=(X.2 _ (Oy zl)).trans ((W.2 _ (Oy zl)).trans (NB _ rfl));refine wpAny_pure ⟨_,rfl,?_⟩;rw[sz]at C Y;show Q (.ref g.objs.size) _;rw[sz];exact hQ B x y K px py C (D _ _ Z.TOz r) (p.frame _ _ _ w1 λb f o e=>D b o (Z.a1 b f).1 e) (q.frame _ _ _ w2 λb f o e=>D b o (Z.a2 b f).1 e) Y λc o h u M N e=>D c o h (L c o h u M N e)
theorem FF(j:Draws prog w A i1 f1 n1 P1 S1)(Z:mY z TI TO i1 i2 f1 f2){Q:Fin->Shared->Prop}(f:IsZip s.heap z TI TO .none)(u:IsPair s.heap TI (.ref i1) (.ref i2))(hO:IsPair s.heap TO a b)(g:S1 n1 s.heap)
  (v:∀h' e,(∀c o,c≠z->c≠TO->c≠i1->c≠i2->s.heap.get? c=some o->h'.get? c=some o)->(∃o,h'.get? e=some o/\o.cls=.type "StopIteration")->E (.ref e) { s with heap:=h' }) :
  wpAny (model prog w) A (Builtin.«zip.__next__» ⟨[.ref z],[]⟩) Q E s:=by
 refine wpAny_bind (m:=field (.ref z) 2) (wpAny_field f rfl (x:=.bool false) rfl ?_);refine wpAny_bind (m:=field (.ref z) 3) (wpAny_field f rfl (x:=.ref TI) rfl ?_);refine wpAny_bind (wpAny_seqItems u rfl ?_);refine wpAny_bind (m:=Builtin.SmallTypes.ownedTupleIsFree (.ref z)) ?_;unfold Builtin.SmallTypes.ownedTupleIsFree;refine wpAny_bind (wpAny_field f rfl (x:=.none) rfl (wpAny_pure ?_));rw[if_pos (by rfl)];refine wpAny_bind (wpAny_rule (wpAny_bind (wpAny_field f rfl (x:=.ref TO) rfl (wpAny_bind (wpAny_setField_rec f (by simp) λg1 h e1=>?_)))));have h:IsZip g1 z TI TO .ellipsis:=h;refine wpAny_bind ?_;simp only[List.zipIdx_cons,List.zipIdx_nil,Ph,List.forIn_nil];refine wpAny_bind (wpAny_bind (wpAny_onRaise (wpAny_bind (m:=Builtin.SmallTypes.nextOf (.ref i1)) ?_)));have u1:S1 n1 g1:=j.frame _ _ _ g λb y o e=>(e1.2 b (Z.a1 b y).1).trans e
 refine j.done { s with heap:=g1 } _ _ u1 λg2 e x2 B=>?_
 obtain⟨oe,ge,l⟩:=B;have n:IsZip g2 z TI TO .ellipsis:=x2 _ _ Z.z1.symm h;have i:e≠z:=λq=>by subst q;rw[n]at ge;cases ge;simp at l
 refine wpAny_setField_rec n (by simp) λC _ p=>v C e (λc o r _ D _ q=>(p.2 c r).trans (x2 _ _ D ((e1.2 c r).trans q))) ⟨oe,(p.2 e i).trans ge,l⟩
theorem ya(i:Draws prog w A.in1 i1 f1 n1 P1 S1)(j:Draws prog w A.in1 i2 f2 n2 P2 S2)(Z:mY z TI TO i1 i2 f1 f2){Q:Option Value->Shared->Prop}(g:IsZip s.heap z TI TO .none)(l:IsPair s.heap TI (.ref i1) (.ref i2))(m:IsPair s.heap TO a b)
  (e:S1 k s.heap) (f:S2 k s.heap) (k1:k<n1) (k2:k<n2)
  (n:∀h' x y tk,P1 k x->P2 k y->IsZip h' z TI TO (rawInt s.heap.objs.size)->IsPair h' TO x y->S1 (k+1) h'->S2 (k+1) h'->IsPair h' s.heap.objs.size x y ->
   (∀c o,c≠z->c≠TO->c≠i1->c≠i2->s.heap.get? c=some o->h'.get? c=some o)->Q (some (.ref s.heap.objs.size)) { s with heap:=h',toks:=tk }):wpAny (model prog w) A (pyNext (.ref z)) Q E s:=by
 have h:s.TypeIs (.ref z) "zip":=⟨_,g,rfl⟩
 unfold pyNext;refine wpAny_bind (wpAny_attempt (wpAny_callSpecial?_slot (name:=Str.ofString "__next__") h F.slot_zip_next (wpAny_call_entry F.slot_zip_next h F.entry_zip_next (Fx i j Z g l m e f k1 k2 λh' x y tk p1 p2 p q r u v B=>?_) (F.args_zip_next_1 _))));exact wpAny_pure (n h' x y tk p1 p2 p q r u v B)
theorem qP(i:Draws prog w A.in1 i1 f1 n1 P1 S1)(Z:mY z TI TO i1 i2 f1 f2){Q:Option Value->Shared->Prop}(g:IsZip s.heap z TI TO .none)(j:IsPair s.heap TI (.ref i1) (.ref i2))(l:IsPair s.heap TO a b)(f:S1 n1 s.heap)
  (m:∀h',(∀c o,c≠z->c≠TO->c≠i1->c≠i2->s.heap.get? c=some o->h'.get? c=some o)->Q none { s with heap:=h' }):wpAny (model prog w) A (pyNext (.ref z)) Q E s:=by
 have h:s.TypeIs (.ref z) "zip":=⟨_,g,rfl⟩
 unfold pyNext;refine wpAny_bind (wpAny_attempt (wpAny_callSpecial?_slot (name:=Str.ofString "__next__") h F.slot_zip_next (wpAny_call_entry F.slot_zip_next h F.entry_zip_next (FF i Z g j l f λh' e k0 n=>?_) (F.args_zip_next_1 _))));obtain⟨o,p,hc⟩:=n;exact wpAny_bind (wpAny_isInstance (T:="StopIteration") (b:=true) ⟨o,p,hc⟩ isSubtype_stop (wpAny_pure (m _ k0)))
end
section
variable {σ:L2.St}
theorem Inv.turnLay{t':Nat}{T:Addr}(I:Inv X pins σ H s)(g:∀b∈ch,pV X pins H b)(h:s.heap.objs.size<=T)(k:∀b u,b∉ch->s.heap.get? b=some u->h'.get? b=some u)
  (new:dr X.prog X.w (upd H T o) h' T o):Inv X pins σ (upd H T o) { s with heap:=h',toks:=t' }:=by
 have hn:H T=none:=I.hok.fresh h;have a:∀b u,H b=some u->b∉ch:=λb u e z=>by rw[(g b z).1]at e;cases e
 have neT:∀b u,s.heap.get? b=some u->b≠T:=λb u e=>ND (NL (Nz e) h)
 refine I.step (g':=s.gens) (d':=s.drawn) (ch:=ch) (λb f=>?_) (λb u _ _ hc e _=>k b u hc e) (λb u _ _ hc e _=>⟨u.slots,k b u hc e⟩) (λb u _ e n=>by rw[az (neT b u e)];exact n)
  (λb u hc e=>⟨u,k b u hc e⟩) (λb xs e=>by rw[az (aI e hn)];exact e) (λb u v e=>by rw[az (aI e hn)];exact e) (λb ps e=>by rw[az (aI e hn)];exact e) (λm hm=>?_) (λb u e=>?_) I.bare
 ·obtain⟨f0,f1,f2,j,l,p⟩:=g b f;exact⟨j,f1,l,p⟩
 ·obtain⟨i,es,x,y,r⟩:=hm;exact⟨i,es,x,k _ i (λz=>(g _ z).2.1 rfl) y,r⟩
 ·by_cases f:b=T
  ·subst f;rw[aE]at e;cases e;exact new
  ·rw[az f]at e;refine (I.hok b u e).stay (λc v hc q=>k c v ?_ q) (λc q=>by rw[az (aI q hn)];exact q) (λc xs q=>by rw[az (aI q hn)];exact q) λc o' w' q=>by rw[az (aI q hn)];exact q
   rcases hc with z|z
   ·rw[z];exact a b u e
   ·exact a c _ z
theorem Inv.turneds{t':Nat}(I:Inv X pins σ H s)(f:∀b∈ch,pV X pins H b)(k:∀b u,b∉ch->s.heap.get? b=some u->h'.get? b=some u):Inv X pins σ H { s with heap:=h',toks:=t' }:=by
 have a:∀b u,H b=some u->b∉ch:=λb u e z=>by rw[(f b z).1]at e;cases e
 refine I.step (g':=s.gens) (d':=s.drawn) (ch:=ch) (λb h=>?_) (λb u _ _ hc e _=>k b u hc e) (λb u _ _ hc e _=>⟨u.slots,k b u hc e⟩) (λb u _ e n=>n)
  (λb u hc e=>⟨u,k b u hc e⟩) (λb xs e=>e) (λb u v e=>e) (λb ps e=>e) (λm hm=>?_) (λb u e=>?_) I.bare
 ·obtain⟨f0,f1,f2,i,j,l⟩:=f b h;exact⟨i,f1,j,l⟩
 ·obtain⟨g,es,o,p,r⟩:=hm;exact⟨g,es,o,k _ g (λz=>(f _ z).2.1 rfl) p,r⟩
 ·refine (I.hok b u e).stay (λc v hc q=>k c v ?_ q) (λ_ q=>q) λ_ _ q=>q
  rcases hc with z|z
  ·rw[z];exact a b u e
  ·exact a c _ z
end
theorem boot_zip:bootBuiltins "zip"=some (.type "zip"):=by decide +kernel
inductive Rs (α:Type) where
 |ok (a:α)
 |rz (C:Addr)
 |no
namespace Rs
def bind{α β:Type}:Rs α->(α->Rs β)->Rs β
 |ok a,f=>f a
 |rz C,_=>rz C
 |no,_=>no
def eN{α:Type}:Option α->Rs α
 |some a=>ok a
 |none=>no
def calm{α:Type}:Rs α->Rs α
 |ok a=>ok a
 |_=>no
@[simp]theorem ag(a:α)(f:α->Rs β):(ok a).bind f=f a:=rfl
@[simp]theorem dZ(C:Addr)(f:α->Rs β):(rz C).bind f=rz C:=rfl
@[simp]theorem bw(f:α->Rs β):(no:Rs α).bind f=no:=rfl
@[simp]theorem aj(a:α):eN (some a)=ok a:=rfl
@[simp]theorem KU:eN (none:Option α)=no:=rfl
@[simp]theorem dj(a:α):(ok a).calm=ok a:=rfl
end Rs
variable {gf:List PyData->Rs PyData}
def del(H:Hp)(A:List Addr):Hp:=λb=>if b∈A then none else H b
theorem AO:del H []=H:=by funext b;simp[del]
theorem ib(h:b∈A):del H A b=none:=by simp[del,h]
theorem aN(h:b∉A):del H A b=H b:=by simp[del,h]
theorem bc(h:del H A b=some o):b∉A/\H b=some o:=by
 by_cases z:b∈A
 ·rw[ib z]at h;cases h
 ·rw[aN z]at h;exact⟨z,h⟩
theorem ay:av (del H A) H:=λ_ _ e=>(bc e).2
theorem av.del(s:av H H'):av (del H A) (L2.del H' A):=λb o e=>by obtain⟨z,e⟩:=bc e;rw[aN z];exact s b o e
def Jg:HO->Bool
 |.lst _=>true
 |.dK _=>true
 |.dT _=>true
 |_=>false
def Ls(H:Hp)(A:List Addr):Prop:=∀a∈A,∃o,H a=some o/\Jg o=true
theorem Ls.same(h:Ls H A)(s:av H H'):Ls H' A:=λa ha=>by obtain⟨o,e,q⟩:=h a ha;exact⟨o,s _ _ e,q⟩
theorem Ls.nil:Ls H []:=λ_ h=>by cases h
theorem Ls.new{p:Addr}(h:Ls H A)(a:H p=none):p∉A:=λz=>by obtain⟨xs,e,_⟩:=h p z;rw[a]at e;cases e
def aq(ns:List Int):PyData:=.dict [(.none,.list (ns.map .int))]
abbrev dtK(l:List ((Int×Int)×Int)):List (PyData×PyData):=(.bool true,.none)::l.map λp=>(.tuple [.int p.1.1,.int p.1.2],.int p.2)
abbrev dtO(l:List ((Int×Int)×Int)):HO:=.dT (l.map λp=>([.inl p.1.1,.inl p.1.2],V.int p.2))
def HE(kvs:List (PyData×PyData))(o:HO):Prop:=(∃l:List (Int×Int),kvs=l.map (λp=>(PyData.int p.1,PyData.int p.2))/\o=.dK (l.map λp=>(.inl p.1,V.int p.2)))\/∃l,kvs=dtK l/\o=dtO l
mutual
def Is(K:W.Frag)(H:Hp):PyData->V->Prop
 |.none,v=>v=.non
 |.bool b,v=>v=.bl b
 |.int i,v=>v=.int i
 |.str x,v=>v=.str x
 |.list ds,v=>∃a xs,v=.ref a/\H a=some (.lst xs)/\Iss K H ds xs
 |.tuple ds,v=>∃a xs,v=.ref a/\H a=some (.tup xs)/\Iss K H ds xs
 |.dict kvs,v=>((∃a ns,v=.ref a/\kvs=[(PyData.none,PyData.list (List.map PyData.int ns))]/\SqL K H a (List.map V.int ns)) \/
  ∃(a:Addr)(o:HO),v=.ref a/\HE kvs o/\H a=some o) \/
  ∃(a C dx:Addr)(fs:List (Str×V)),v=.ref a/\H a=some (.ins C dx fs)/\fs.lookup ("@":Str)=none/\(Isk K H kvs (("",.int (C:Int))::fs)\/Isk K H kvs (("",.int (C:Int))::("@",.int (a:Int))::fs))
def Iss(K:W.Frag)(H:Hp):List PyData->List V->Prop
 |[],vs=>vs=[]
 |d::ds,vs=>∃v r,vs=v::r/\Is K H d v/\Iss K H ds r
def Isk(K:W.Frag)(H:Hp):List (PyData×PyData)->List (Str×V)->Prop
 |[],fs=>fs=[]
 |(k,d)::r,fs=>∃f v fs',fs=(f,v)::fs'/\k=.str f/\Is K H d v/\Isk K H r fs'
end
def cu(C a:Addr)(fds:List (Str×PyData)):PyData:=.dict ((.str "",.int (C:Int))::(.str "@",.int (a:Int))::fds.map λp=>(.str p.1,p.2))
def Dm(C:Addr)(fds:List (Str×PyData)):PyData:=.dict ((.str "",.int (C:Int))::fds.map λp=>(.str p.1,p.2))
section
theorem bF{i:Int}:Is K H (.int i) (.int i):=by unfold Is;rfl
theorem is_bool{b:Bool}:Is K H (.bool b) (.bl b):=by unfold Is;rfl
theorem is_none:Is K H .none .non:=by unfold Is;rfl
theorem EX:Is K H (.str x) (.str x):=by unfold Is;rfl
theorem iM(h:H a=some (.tup xs))(h2:Iss K H ds xs):Is K H (.tuple ds) (.ref a):=by unfold Is;exact⟨a,xs,rfl,h,h2⟩
theorem jT(h:H a=some (.lst xs))(h2:Iss K H ds xs):Is K H (.list ds) (.ref a):=by unfold Is;exact⟨a,xs,rfl,h,h2⟩
theorem BY(h:SqL K H a (ns.map V.int)):Is K H (aq ns) (.ref a):=by unfold aq Is;exact .inl (.inl ⟨a,ns,rfl,rfl,h⟩)
theorem cX:Iss K H [] []:=by unfold Iss;rfl
theorem cJ{d:PyData}(h:Is K H d v)(h2:Iss K H ds vs):Iss K H (d::ds) (v::vs):=by unfold Iss;exact⟨v,vs,rfl,h,h2⟩
theorem jk{d:PyData}(h:Is K H d v):Iss K H [d] [v]:=cJ h cX
theorem Is.ofInt{i:Int}(h:Is K H (.int i) v):v=.int i:=by unfold Is at h;exact h
theorem Is.ofBool{i:Bool}(h:Is K H (.bool i) v):v=.bl i:=by unfold Is at h;exact h
theorem Is.ofNone(h:Is K H .none v):v=.non:=by unfold Is at h;exact h
theorem Is.ofStr(h:Is K H (.str x) v):v=.str x:=by unfold Is at h;exact h
theorem Is.ofTup(h:Is K H (.tuple ds) v):∃a xs,v=.ref a/\H a=some (.tup xs)/\Iss K H ds xs:=by unfold Is at h;exact h
theorem Is.ofLst(h:Is K H (.list ds) v):∃a xs,v=.ref a/\H a=some (.lst xs)/\Iss K H ds xs:=by unfold Is at h;exact h
theorem Is.ofScript(h:Is K H (aq ns) v):∃a,v=.ref a/\SqL K H a (ns.map V.int):=by
 unfold aq Is at h;rcases h with (h|⟨a,l,_,e,_⟩)|⟨a,C,dx,fs,_,_,_,h|h⟩
 case inl.inr=>rcases e with⟨m,e,_⟩|⟨m,e,_⟩ <;> first|(cases e;done)|(cases m <;> cases e)
 case inr.inl=>unfold Isk at h;obtain⟨f,_,_,_,h,_⟩:=h;cases h
 case inr.inr=>unfold Isk at h;obtain⟨f,_,_,_,h,_⟩:=h;cases h
 obtain⟨a,g,e,e2,h⟩:=h;have i:ns.map PyData.int=g.map PyData.int:=by injection e2 with e2 _;injection e2 with _ e2;injection e2
 have j:ns=g:=by
  have inj:∀(a b:List Int),a.map PyData.int=b.map PyData.int->a=b:=by
   intro a
   induction a with
   |nil=>intro b c;cases b with|nil=>rfl|cons _ _=>simp at c
   |cons x r ih =>
    intro b c;cases b with
    |nil=>simp at c
    |cons y s =>simp only[N1,List.cons.injEq,PyData.int.injEq]at c;rw[c.1,ih s c.2]
  exact inj _ _ i
 subst j;exact⟨a,e,h⟩
theorem Iss.nil_of(h:Iss K H [] vs):vs=[]:=by unfold Iss at h;exact h
theorem Iss.cons_of{d:PyData}(h:Iss K H (d::ds) vs):∃v r,vs=v::r/\Is K H d v/\Iss K H ds r:=by unfold Iss at h;exact h
theorem Iss.length:∀{ds:List PyData}{vs:List V},Iss K H ds vs->vs.length=ds.length
 |[],_,h=>by rw[h.nil_of];rfl
 |_::_,_,h=>by obtain⟨v,r,e,_,h2⟩:=h.cons_of;rw[e,NJ,NJ,Iss.length h2]
mutual
theorem Is.same(e:av H H'):∀{d:PyData}{v:V},Is K H d v->Is K H' d v
 |.none,_,h=>by unfold Is at h ⊢;exact h
 |.bool _,_,h=>by unfold Is at h ⊢;exact h
 |.int _,_,h=>by unfold Is at h ⊢;exact h
 |.str _,_,h=>by unfold Is at h ⊢;exact h
 |.list ds,_,h=>by unfold Is at h ⊢;obtain⟨a,xs,e1,h1,h2⟩:=h;exact⟨a,xs,e1,e _ _ h1,Iss.same e h2⟩
 |.tuple ds,_,h=>by unfold Is at h ⊢;obtain⟨a,xs,e1,h1,h2⟩:=h;exact⟨a,xs,e1,e _ _ h1,Iss.same e h2⟩
 |.dict _,_,h=>by
  unfold Is at h ⊢;rcases h with (⟨a,ns,e1,e2,h2⟩|⟨a,l,e1,e2,h2⟩)|⟨a,C,dx,fs,e1,h1,hn,h2|h2⟩
  ·exact .inl (.inl ⟨a,ns,e1,e2,e.seq h2⟩)
  ·exact .inl (.inr ⟨a,l,e1,e2,e _ _ h2⟩)
  ·exact .inr ⟨a,C,dx,fs,e1,e _ _ h1,hn,.inl (Isk.same e h2)⟩
  ·exact .inr ⟨a,C,dx,fs,e1,e _ _ h1,hn,.inr (Isk.same e h2)⟩
theorem Iss.same(e:av H H'):∀{ds:List PyData}{vs:List V},Iss K H ds vs->Iss K H' ds vs
 |[],_,h=>by unfold Iss at h ⊢;exact h
 |d::ds,_,h=>by unfold Iss at h ⊢;obtain⟨v,r,e1,h1,h2⟩:=h;exact⟨v,r,e1,Is.same e h1,Iss.same e h2⟩
theorem Isk.same(e:av H H'):∀{ds:List (PyData×PyData)}{fs:List (Str×V)},Isk K H ds fs->Isk K H' ds fs
 |[],_,h=>by unfold Isk at h ⊢;exact h
 |(k,d)::ds,_,h=>by unfold Isk at h ⊢;obtain⟨f,v,r,e1,e2,h1,h2⟩:=h;exact⟨f,v,r,e1,e2,Is.same e h1,Isk.same e h2⟩
end
theorem pe:Isk K H [] []:=by unfold Isk;rfl
theorem eo{f:Str}{d:PyData}{r:List (PyData×PyData)}{fs:List (Str×V)}(h:Is K H d v)(h2:Isk K H r fs):Isk K H ((.str f,d)::r) ((f,v)::fs):=by unfold Isk;exact⟨f,v,fs,rfl,rfl,h,h2⟩
theorem JI{fds:List (Str×PyData)}{fs:List (Str×V)}(h:H a=some (.ins C dx fs))(hn:fs.lookup ("@":Str)=none)(h2:Isk K H (fds.map λp=>(.str p.1,p.2)) fs):Is K H (Dm C fds) (.ref a):=by unfold Dm Is;exact .inr ⟨a,C,dx,fs,rfl,h,hn,.inl (eo bF h2)⟩
theorem Df{fds:List (Str×PyData)}{fs:List (Str×V)}(h:H a=some (.ins C dx fs))(hn:fs.lookup ("@":Str)=none)(h2:Isk K H (fds.map λp=>(.str p.1,p.2)) fs):Is K H (cu C a fds) (.ref a):=by unfold cu Is;exact .inr ⟨a,C,dx,fs,rfl,h,hn,.inr (eo bF (eo bF h2))⟩
theorem JB(b:Ls H A)(h:H a=some (.tup xs)):del H A a=some (.tup xs):=by rw[aN (λq=>by obtain⟨ys,e2,c⟩:=b a q;rw[h]at e2;cases e2;cases c)];exact h
mutual
theorem Is.dl{A:List Addr}(b:Ls H A):∀{d:PyData}{v:V},g0 d=true->Is K H d v->Is K (del H A) d v
 |.none,_,_,h=>by unfold Is at h ⊢;exact h
 |.bool _,_,_,h=>by unfold Is at h ⊢;exact h
 |.int _,_,_,h=>by unfold Is at h ⊢;exact h
 |.str _,_,_,h=>by unfold Is at h ⊢;exact h
 |.list _,_,n,_=>by unfold g0 at n;cases n
 |.dict _,_,n,_=>by unfold g0 at n;cases n
 |.tuple ds,_,n,h=>by unfold g0 at n;obtain⟨a,xs,e,h1,h2⟩:=h.ofTup;subst e;exact iM (JB b h1) (Iss.dl b n h2)
theorem Iss.dl{A:List Addr}(a:Ls H A):∀{ds:List PyData}{vs:List V},kZ ds=true->Iss K H ds vs->Iss K (del H A) ds vs
 |[],_,_,h=>by rw[h.nil_of];exact cX
 |d::ds,_,n,h=>by unfold kZ at n;obtain⟨n1,n2⟩:=Om.mp n;obtain⟨v,r,e,h1,h2⟩:=h.cons_of;subst e;exact cJ (Is.dl a n1 h1) (Iss.dl a n2 h2)
end
mutual
def aG:PyData->Bool
 |.list ds=>dN ds
 |.tuple ds=>dN ds
 |.dict _=>false
 |_=>true
def dN:List PyData->Bool
 |[]=>true
 |d::ds=>aG d&&dN ds
end
mutual
theorem Is.isd:∀{d:PyData}{v:V},aG d=true->Is K H d v->IsD K H d v
 |.none,_,_,h=>by rw[h.ofNone];exact Dh
 |.bool _,_,_,h=>by rw[h.ofBool];exact Dl
 |.int _,_,_,h=>by rw[h.ofInt];exact vH
 |.str _,_,_,h=>by rw[h.ofStr];exact Gd
 |.list ds,_,n,h=>by unfold aG at n;obtain⟨a,xs,e,h1,h2⟩:=h.ofLst;subst e;exact vG (SqL.of h1) (Iss.isd n h2)
 |.tuple ds,_,n,h=>by unfold aG at n;obtain⟨a,xs,e,h1,h2⟩:=h.ofTup;subst e;exact Ie (SqT.of h1) (Iss.isd n h2)
 |.dict _,_,n,_=>by unfold aG at n;cases n
theorem Iss.isd:∀{ds:List PyData}{vs:List V},dN ds=true->Iss K H ds vs->eZ K H ds vs
 |[],_,_,h=>by rw[h.nil_of];exact rq
 |d::ds,_,n,h=>by unfold dN at n;obtain⟨n1,n2⟩:=Om.mp n;obtain⟨v,r,e,h1,h2⟩:=h.cons_of;subst e;exact sY (Is.isd n1 h1) (Iss.isd n2 h2)
end
def gz:PyData->Bool
 |.none=>true
 |.bool _=>true
 |.int _=>true
 |.str _=>true
 |_=>false
theorem IsD.is{d:PyData}(n:gz d=true)(h:IsD K H d v):Is K H d v:=by
 cases d with
 |none=>rw[h.ofNone];exact is_none
 |bool _=>rw[h.ofBool];exact is_bool
 |int _=>rw[h.ofInt];exact bF
 |str _=>rw[h.ofStr];exact EX
 |_=>cases n
theorem zF{d:PyData}(n:gz d=true):g0 d=true:=by
 cases d with
 |list _=>cases n
 |tuple _=>cases n
 |dict _=>cases n
 |_=>unfold g0;rfl
theorem Iss.get:∀{ds:List PyData}{vs:List V}{i:Nat}{v:V},Iss K H ds vs->vs[i]?=some v->∃d,ds[i]?=some d/\Is K H d v
 |[],_,i,v,h,e=>by rw[h.nil_of]at e;simp at e
 |d::ds,_,i,v,h,e=>by
  obtain⟨w,r,e1,h1,h2⟩:=h.cons_of;subst e1;cases i with
  |zero=>simp at e;subst e;exact⟨d,rfl,h1⟩
  |succ i=>simpa using Iss.get (i:=i) h2 (by simpa using e)
theorem Iss.getD:∀{ds:List PyData}{vs:List V}{i:Nat}{d:PyData},Iss K H ds vs->ds[i]?=some d->∃v,vs[i]?=some v/\Is K H d v
 |[],_,i,v,h,e=>by simp at e
 |d::ds,_,i,v,h,e=>by
  obtain⟨w,r,e1,h1,h2⟩:=h.cons_of;subst e1;cases i with
  |zero=>simp at e;subst e;exact⟨w,rfl,h1⟩
  |succ i=>simpa using Iss.getD (i:=i) h2 (by simpa using e)
theorem Iss.append:∀{ds es:List PyData}{vs us:List V},Iss K H ds vs->Iss K H es us->Iss K H (ds++es) (vs++us)
 |[],_,_,_,h,h'=>by rw[h.nil_of];exact h'
 |d::ds,es,_,us,h,h'=>by obtain⟨v,r,e,h1,h2⟩:=h.cons_of;subst e;exact cJ h1 (Iss.append h2 h')
theorem Iss.take:∀{ds:List PyData}{vs:List V}(n:Nat),Iss K H ds vs->Iss K H (ds.take n) (vs.take n)
 |[],_,n,h=>by rw[h.nil_of];simpa using cX
 |d::ds,_,0,h=>by simpa using cX
 |d::ds,_,n+1,h=>by obtain⟨v,r,e,h1,h2⟩:=h.cons_of;subst e;exact cJ h1 (Iss.take n h2)
theorem Iss.drop:∀{ds:List PyData}{vs:List V}(n:Nat),Iss K H ds vs->Iss K H (ds.drop n) (vs.drop n)
 |[],_,n,h=>by rw[h.nil_of];simpa using cX
 |d::ds,_,0,h=>h
 |d::ds,_,n+1,h=>by obtain⟨v,r,e,h1,h2⟩:=h.cons_of;subst e;exact Iss.drop n h2
theorem Iss.set{d:PyData}{v:V}(a:Is K H d v):∀{ds:List PyData}{vs:List V}(i:Nat),Iss K H ds vs->Iss K H (ds.set i d) (vs.set i v)
 |[],_,n,h=>by rw[h.nil_of];simpa using cX
 |e::ds,_,0,h=>by obtain⟨u,r,z,h1,h2⟩:=h.cons_of;subst z;exact cJ a h2
 |e::ds,_,n+1,h=>by obtain⟨u,r,z,h1,h2⟩:=h.cons_of;subst z;exact cJ h1 (Iss.set a n h2)
theorem Iss.eraseIdx:∀{ds:List PyData}{vs:List V}(i:Nat),Iss K H ds vs->Iss K H (ds.eraseIdx i) (vs.eraseIdx i)
 |[],_,n,h=>by rw[h.nil_of];simpa using cX
 |e::ds,_,0,h=>by obtain⟨u,r,z,h1,h2⟩:=h.cons_of;subst z;exact h2
 |e::ds,_,n+1,h=>by obtain⟨u,r,z,h1,h2⟩:=h.cons_of;subst z;exact cJ h1 (Iss.eraseIdx n h2)
theorem Iss.rep{ds:List PyData}{vs:List V}(h:Iss K H ds vs):∀k:Nat,Iss K H (List.replicate k ds).flatten (List.replicate k vs).flatten
 |0=>cX
 |k+1=>by rw[Ou,Ou,OJ,OJ];exact h.append (Iss.rep h k)
theorem qW:∀(ns:List Int),Iss K H (ns.map PyData.int) (ns.map V.int)
 |[]=>cX
 |_::r=>cJ bF (qW r)
theorem Iss.ofInts:∀{ns:List Int}{vs:List V},Iss K H (ns.map PyData.int) vs->vs=ns.map V.int
 |[],_,h=>h.nil_of
 |n::r,_,h=>by obtain⟨v,t,e,h1,h2⟩:=h.cons_of;rw[e,h1.ofInt,Iss.ofInts h2];rfl
theorem Iss.ofBools:∀{ns:List Bool}{vs:List V},Iss K H (ns.map PyData.bool) vs->vs=ns.map V.bl
 |[],_,h=>h.nil_of
 |n::r,_,h=>by obtain⟨v,t,e,h1,h2⟩:=h.cons_of;rw[e,h1.ofBool,Iss.ofBools h2];rfl
theorem Is.isNone{d:PyData}(h:Is K H d v):(v=.non)↔d=.none:=by
 cases d with
 |none=>simp[h.ofNone]
 |bool b=>simp[h.ofBool]
 |int i=>simp[h.ofInt]
 |str x=>simp[h.ofStr]
 |list ds=>obtain⟨a,xs,e,_⟩:=h.ofLst;simp[e]
 |tuple ds=>obtain⟨a,xs,e,_⟩:=h.ofTup;simp[e]
 |dict _=>unfold Is at h;rcases h with (⟨a,ns,e,_⟩|⟨a,l,e,_⟩)|⟨a,C,dx,fs,e,_⟩ <;> simp[e]
theorem bE{p:Addr}(h:H p=none):av H (upd H p o):=g9 h
theorem kE{p:Addr}(h:p∈A):del (upd H p o) A=del H A:=by
 funext b;by_cases z:b∈A
 ·rw[ib z,ib z]
 ·rw[aN z,aN z,az (by rintro rfl;exact z h)]
theorem l5{p:Addr}(b:Ls H A)(a:H p=none)(h:Iss K (del H A) ds xs):Is K (del (upd H p (.tup xs)) A) (.tuple ds) (.ref p) :=
 iM (by rw[aN (b.new a)];exact aE) (h.same (av.del (bE a)))
theorem oV{p:Addr}(b:Ls H A)(a:H p=none)(h:Iss K (del H A) ds xs):Is K (del (upd H p (.lst xs)) A) (.list ds) (.ref p) :=
 jT (by rw[aN (b.new a)];exact aE) (h.same (av.del (bE a)))
end
abbrev Ds:=List (Option PyData)
variable {ge:Ds->Rs PyData}{gs:Ds->Rs (List PyData)}{cond:Ds->Rs Bool}{δ:Ds}{tgt:PyData->Option Ds}
structure dJ(K:W.Frag)(H:Hp)(A:List Addr)(δ:Ds)(σ:St):Prop where
 ls:Ls H A
 len:δ.length=σ.length
 get:∀(i:Nat)(d:PyData),δ[i]?=some (some d)->∃v,σ[i]?=some (some v)/\Is K (del H A) d v
theorem dJ.same(R:dJ K H A δ σ)(s:av H H'):dJ K H' A δ σ :=
 ⟨R.ls.same s,R.len,λi d e=>by obtain⟨v,e1,h⟩:=R.get i d e;exact⟨v,e1,h.same s.del⟩⟩
def ik(K:W.Frag)(E:XK)(A:List Addr)(H:Hp)(r:Rs PyData)(Q:VK):Prop:=match r with
 |.ok d=>∀v H',av H H'->Is K (del H' A) d v->Q v H'
 |.rz C=>∀H',av H H'->E (.ref C) none H'
 |.no=>False
def Nc(K:W.Frag)(E:XK)(A:List Addr)(H:Hp)(r:Rs (List PyData))(Q:List V->Hp->Prop):Prop:=match r with
 |.ok d=>∀v H',av H H'->Iss K (del H' A) d v->Q v H'
 |.rz C=>∀H',av H H'->E (.ref C) none H'
 |.no=>False
def xw(E:XK)(H:Hp)(r:Rs Bool)(Q:Bool->Hp->Prop):Prop:=match r with
 |.ok d=>∀H',av H H'->Q d H'
 |.rz C=>∀H',av H H'->E (.ref C) none H'
 |.no=>False
def eD(K:W.Frag)(E:XK)(g:Ds->Rs PyData):TE:=λσ H Q=>∃A δ,dJ K H A δ σ/\ik K E A H (g δ) Q
def aD(K:W.Frag)(E:XK)(g:Ds->Rs (List PyData)):TA:=λσ H Q=>∃A δ,dJ K H A δ σ/\Nc K E A H (g δ) Q
def cD(K:W.Frag)(E:XK)(g:Ds->Rs Bool):TT:=λσ H Q=>∃A δ,dJ K H A δ σ/\xw E H (g δ) Q
def PD(X:Cx)(E:XK)(e:Expr)(g:Ds->Rs PyData):Prop:=PE X e (eD X.K E g)
def PAD(X:Cx)(E:XK)(es:List Expr)(g:Ds->Rs (List PyData)):Prop:=PA X es (aD X.K E g)/\∀δ ds,g δ=.ok ds->ds.length=es.length
def PCD(X:Cx)(E:XK)(e:Expr)(g:Ds->Rs Bool):Prop:=PT X e (cD X.K E g)
def PWD(X:Cx)(E:XK)(e:Expr)(g:Ds->Rs Bool):Prop:=PW X e (cD X.K E g)
theorem PE.imp{t t':TE}(h:PE X e t)(k:∀σ H Q,t' σ H Q->t σ H Q):PE X e t':=λpins s σ H Q I q=>h pins s σ H Q I (k σ H Q q)
theorem PT.imp{t t':TT}(h:PT X e t)(k:∀σ H Q,t' σ H Q->t σ H Q):PT X e t':=λpins s σ H Q I q=>h pins s σ H Q I (k σ H Q q)
theorem PW.imp{t t':TT}(h:PW X e t)(k:∀σ H Q,t' σ H Q->t σ H Q):PW X e t':=λw pins s σ H Q I q=>h w pins s σ H Q I (k σ H Q q)
theorem PA.imp{e:List Expr}{t t':TA}(h:PA X e t)(k:∀σ H Q,t' σ H Q->t σ H Q):PA X e t':=λp pins s σ H Q I q=>h p pins s σ H Q I (k σ H Q q)
theorem PS.imp{e:Stmt}{t t':TS}(h:PS X e t)(k:∀D σ H,t' D σ H->t D σ H):PS X e t':=λpins s σ H D I q=>h pins s σ H D I (k D σ H q)
theorem PSs.imp{e:List Stmt}{t t':TS}(h:PSs X e t)(k:∀D σ H,t' D σ H->t D σ H):PSs X e t':=λpins s σ H D I q=>h pins s σ H D I (k D σ H q)
theorem ik.mono{r:Rs PyData}{Q:VK}(h:ik K E A H r Q)(s:av H H1):ik K E A H1 r Q:=by
 cases r with
 |ok d=>exact λv H' s' q=>h v H' (s.trans s') q
 |rz C=>exact λH' s'=>h H' (s.trans s')
 |no=>exact h
theorem xw.mono{r:Rs Bool}{Q:Bool->Hp->Prop}(h:xw E H r Q)(s:av H H1):xw E H1 r Q:=by
 cases r with
 |ok d=>exact λH' s'=>h H' (s.trans s')
 |rz C=>exact λH' s'=>h H' (s.trans s')
 |no=>exact h
theorem eD.run{g:Ds->Rs PyData}{Q:VK}(R:dJ K H A δ σ)
  (ok:∀d,g δ=.ok d->∀v H',av H H'->dJ K H' A δ σ->Is K (del H' A) d v->Q v H') (rz:∀C,g δ=.rz C->∀H',av H H'->E (.ref C) none H') (no:g δ=.no->False):eD K E g σ H Q:=by
 refine⟨A,δ,R,?_⟩;cases e:g δ with
 |ok d=>exact λv H' s q=>ok d e v H' s (R.same s) q
 |rz C=>exact λH' s=>rz C e H' s
 |no=>exact no e
theorem aD.run{g:Ds->Rs (List PyData)}{Q:List V->Hp->Prop}(R:dJ K H A δ σ)
  (ok:∀d,g δ=.ok d->∀v H',av H H'->dJ K H' A δ σ->Iss K (del H' A) d v->Q v H') (rz:∀C,g δ=.rz C->∀H',av H H'->E (.ref C) none H') (no:g δ=.no->False):aD K E g σ H Q:=by
 refine⟨A,δ,R,?_⟩;cases e:g δ with
 |ok d=>exact λv H' s q=>ok d e v H' s (R.same s) q
 |rz C=>exact λH' s=>rz C e H' s
 |no=>exact no e
theorem cD.run{g:Ds->Rs Bool}{Q:Bool->Hp->Prop}(R:dJ K H A δ σ)
  (ok:∀d,g δ=.ok d->∀H',av H H'->dJ K H' A δ σ->Q d H') (rz:∀C,g δ=.rz C->∀H',av H H'->E (.ref C) none H') (no:g δ=.no->False):cD K E g σ H Q:=by
 refine⟨A,δ,R,?_⟩;cases e:g δ with
 |ok d=>exact λH' s=>ok d e H' s (R.same s)
 |rz C=>exact λH' s=>rz C e H' s
 |no=>exact no e
structure Fq(X:Cx)(c P:Addr):Prop where
 tab:TabOf X.K P (X.env.qual++"<lambda>")
 code:X.env.code=.ref c
 hd:W.CodeHd X.base c P
 bl:∃bm o,X.mg "__builtins__"=some (.ref bm)/\bm≠builtinsNs/\bm≠mainGlobals/\X.base.get? bm=some o/\o.cls=.type "module"/\o.dict=some builtinsNs/\o.data=.plain
theorem lU{a b:Int}{t u:Nat}{c:Value}:∀{l:List Value},TriplesOk l->TriplesOk (l++[.int a t,.int b u,c])
 |[],_=>by simp[TriplesOk]
 |[_],h=>by simp[TriplesOk]at h
 |[x,y],h=>by cases x <;> cases y <;> (unfold TriplesOk at h;exact h.elim)
 |x::y::z::r,h=>by
  cases x <;> first|(unfold TriplesOk at h;exact h.elim)|skip
  cases y <;> first|(unfold TriplesOk at h;exact h.elim)|skip
  unfold TriplesOk at h;show TriplesOk (_::_::_::(r++_));unfold TriplesOk;exact lU h
theorem qX{pos:Pos}{a b:Int}{t u:Nat}{c f:Value}:∀{l:List Value},TriplesOk l->codeAmong pos (l++[.int a t,.int b u,c])=some f->codeAmong pos l=some f\/f=c
 |[],_,e=>by
  simp only[O9,codeAmong]at e;split at e
  ·cases e;exact .inr rfl
  ·cases e
 |[_],h,_=>by simp[TriplesOk]at h
 |[x,y],h,_=>by cases x <;> cases y <;> (unfold TriplesOk at h;exact h.elim)
 |x::y::z::r,h,e=>by
  cases x <;> first|(unfold TriplesOk at h;exact h.elim)|skip
  cases y <;> first|(unfold TriplesOk at h;exact h.elim)|skip
  unfold TriplesOk at h;simp only[Oe,codeAmong]at e ⊢;split at e
  ·rename_i q;rw[if_pos q];exact .inl e
  ·rename_i q;rw[if_neg q];exact qX h e
def MS(qual:Str)(mk:Addr->Value->Obj):TE:=λ_ H Q=>∀f c' a H',H f=none->H' f=some (.frz (mk c' a) (.own f))->av H H' ->
 (∃o vs t,H' c'=some (.frz o (.own c'))/\o.data=.fields vs/\vs[1]?=some (.str qual t))->Q (.ref f) H'
theorem J0{P:Addr}{g:List (Str×Addr)}(T:Fq X c P)(x:closureFor scope X.env=pure g)(A:defaultsOf params X.env=([],[]):=by rfl) :
  PE X (.Lambda params body scope pos) (MS (X.env.qual++"<lambda>") λc' f=>W.kla_obj "<lambda>" (X.env.qual++"<lambda>") params body scope g ((X.mg "__name__").getD .none) c' f):=by
 intro pins s σ H Q I h;have i:=I.tab P _ T.tab;obtain⟨ps,B,L,hc⟩:=I.hok P _ i;obtain⟨bm,ob,b1,b2,b3,R,b5,b6,b7⟩:=T.bl;have S:∀b o,X.base.get? b=some o->b≠P:=λb o e z=>by have:=(I.bs b o e).2;rw[z,i]at this;cases this
 have C:s.heap.BuiltinsAt X.mg P:=⟨bm,ob,b1,b2,b3,S _ _ R,I.bk _ _ R,b5,b6,b7⟩
 have U:s.heap.Ns mainGlobals X.mg:=I.mod.glob.keeps I.bk;have M:mainGlobals≠P:=by obtain⟨o,es,Y,e,_⟩:=I.mod.glob;exact S _ _ e
 have Z:=T.hd.keeps I.bk;have fin:∀{H1:Hp}{h1:Heap}{tk:Nat}{o:Obj},Inv X pins σ H1 { s with heap:=h1,toks:=tk }->o.isFreed=false->Inv X pins σ (upd H1 h1.objs.size (.frz o (.own h1.objs.size))) { s with heap:=h1.push o,toks:=tk }:=λ{H1 h1 tk o} J j =>
  J.laid (h':=h1.push o) (t':=tk) (λb u q=>N2 _ q) (N6 _) ⟨NB _ j,o,NB _ j⟩
 refine W.kla_eval A ?_;cases hf:codeAmong pos ps.toList with
 |some N =>
  obtain⟨c',o,vs,t,rfl,D,d1,d2⟩:=hc pos N hf;refine W.kla_makeFunctionHit (mg:=X.mg) x I.ok.glob U T.code Z B L hf C λf h' tk hk hsz=>?_
  have n:H h'.objs.size=none:=I.hok.fresh hsz;exact⟨.ref _,_,fin (I.kept (h':=h') (t':=tk) hk) rfl,rfl,h _ c' f _ n aE (g9 n) ⟨o,vs,t,by rw[az (aI D n)];exact D,d1,d2⟩⟩
 |none =>
  refine W.kla_makeFunction (mg:=X.mg) x I.ok.glob U T.code Z B L hf M C λc' f h' tk E l O F G=>?_
  obtain⟨c₂,oc,vs,t,e2,K,hd,hv⟩:=F;cases e2;have hn:H c'=none:=I.hok.fresh l;have cP:c'≠P:=λz=>by rw[z,i]at hn;cases hn
  have a:∀b u,H b=some u->b≠c':=λb u e z=>by rw[z,hn]at e;cases e
  have J:Inv X pins σ (upd H c' (.frz oc (.own c'))) { s with heap:=h',toks:=tk }:=by
   refine I.step (g':=s.gens) (d':=s.drawn) (ch:=[]) (λ_ z=>nomatch z) (λb o _ _ _ e n=>?_) (λb o _ _ _ e n=>⟨o.slots,?_⟩) (λb o _ e n=>?_) (λb o _ e=>?_) (λb xs e=>?_) (λb o u e=>?_) (λb qs e=>?_) (λm hm=>?_) (λb u e=>?_) I.bare
   ·exact E b o (λz=>by rw[z,i]at n;cases n) e
   ·exact E b o (λz=>by rw[z,i]at n;cases n) e
   ·rw[az (ND (NL (Nz e) l))];exact n
   ·by_cases z:b=P
    ·subst z;exact⟨_,G⟩
    ·exact⟨o,E b o z e⟩
   ·rw[az (a b _ e)];exact e
   ·rw[az (a b _ e)];exact e
   ·rw[az (a b _ e)];exact e
   ·obtain⟨o,es,Y,ho,r⟩:=hm;refine⟨o,es,Y,E _ o (λz=>?_) ho,r⟩;have:=I.free;rw[z,i]at this;cases this
   ·by_cases z:b=c'
    ·subst z;rw[aE]at e;cases e;exact⟨K,oc,K⟩
    ·rw[az z]at e;by_cases y:b=P
     ·subst y;rw[i]at e;cases e;refine⟨ps++#[rawInt pos.line,rawInt pos.col,.ref c'],G,?_,λpos' N e=>?_⟩
      ·rw[Array.toList_append];exact lU L
      ·rw[Array.toList_append]at e;rcases qX L e with e|rfl
       ·obtain⟨c2,o,vs,t,rfl,q,d⟩:=hc pos' N e;exact⟨c2,o,vs,t,rfl,by rw[az (a _ _ q)];exact q,d⟩
       ·exact⟨c',oc,vs,t,rfl,aE,hd,hv⟩
     ·refine (I.hok b u e).stay (λp v w q=>E p v (λy'=>?_) q) (λp q=>?_) (λp xs q=>?_) λp o' u' q=>?_
      ·subst y';rcases w with w|w
       ·exact y w.symm
       ·rw[i]at w;cases w
      ·rw[az (a p _ q)];exact q
      ·rw[az (a p _ q)];exact q
      ·rw[az (a p _ q)];exact q
  have n:upd H c' (.frz oc (.own c')) h'.objs.size=none:=J.hok.fresh (N6 _);have n0:H h'.objs.size=none:=I.hok.fresh (Oo l (PX O));exact⟨.ref _,_,fin J rfl,rfl,h _ c' f _ n0 aE ((g9 hn).trans (g9 n)) ⟨oc,vs,t,by rw[az (aI aE n)];exact aE,hd,hv⟩⟩
abbrev Cx.in1(X:Cx):Cx:={ X with A:=X.A.in1 }
section
theorem Inv.in1(I:Inv X pins σ H s):Inv X.in1 pins σ H s :=
 ⟨⟨I.ok.mod,I.ok.kind,I.ok.glob,I.ok.blt,I.ok.above,I.ok.inj,I.ok.has,I.ok.cab,I.ok.hd,I.ok.frames,I.ok.stk,I.ok.exf,I.ok.bs,I.ok.bsz,I.ok.noex,I.ok.exfs,I.ok.funs,I.ok.frf⟩,I.os,I.bare,I.base,I.loc,I.cell,I.free,I.freeC,I.pin,I.hok,I.len,I.tab⟩
theorem Inv.of1(I:Inv X.in1 pins σ H s):Inv X pins σ H s :=
 ⟨⟨I.ok.mod,I.ok.kind,I.ok.glob,I.ok.blt,I.ok.above,I.ok.inj,I.ok.has,I.ok.cab,I.ok.hd,I.ok.frames,I.ok.stk,I.ok.exf,I.ok.bs,I.ok.bsz,I.ok.noex,I.ok.exfs,I.ok.funs,I.ok.frf⟩,I.os,I.bare,I.base,I.loc,I.cell,I.free,I.freeC,I.pin,I.hok,I.len,I.tab⟩
end
def bst(lt:Nat->Nat->Bool):Nat->Nat
 |0=>0
 |j+1=>if lt (j+1) (bst lt j) then j+1 else bst lt j
theorem vh(lt:Nat->Nat->Bool):∀j,bst lt j<=j
 |0=>N6 _
 |j+1=>by
  unfold bst;split
  ·exact N6 _
  ·exact Nat.le_succ_of_le (vh lt j)
structure lM(X:Cx)(σ:St)(pins:List (Addr×Obj))(q l:Addr)(xs:List V)(Φ:Hp->Prop)(κ:Nat->V->Hp->Prop)(lt:Nat->Nat->Bool):Prop where
 lst:∀H,Φ H->H l=some (.lst xs)
 turn:∀(i:Nat)(x:V),xs[i]?=some x->∀(pins':List (Addr×Obj))(H:Hp)(s:Shared)(u:Value),(∀p∈pins,p∈pins')->Inv X.in1 pins' σ H s->Φ H->RelV x u ->
  wpAny (model X.prog X.w) X.A.in1 (call (.ref q) [u]) (EP X.in1 pins' σ λv H'=>Φ H'/\κ i v H'/\∀j v',κ j v' H->κ j v' H') (λ_ _=>False) s
 cmp:∀(i j:Nat)(x y:V)(pins':List (Addr×Obj))(H:Hp)(s:Shared)(u v:Value),Inv X.in1 pins' σ H s->Φ H->κ i x H->κ j y H->RelV x u->RelV y v ->
  wpAny (model X.prog X.w) X.A.in1 (richCompare .Lt u v) (λr s'=>r=.bool (lt i j)/\Inv X.in1 pins' σ H s') (λ_ _=>False) s
section
variable {q l:Addr}{Φ:Hp->Prop}{lt:Nat->Nat->Bool}{R:Result->Shared->Prop}
theorem Inv.turnPin{ps:List (Addr×Obj)}{o o':Obj}{t':Nat}(I:Inv X ((it,o)::ps) σ H s)(k:∀b u,b≠it->s.heap.get? b=some u->h'.get? b=some u)(f:h'.get? it=some o')
  (h1:X.s₀.heap.objs.size<=it) (g:∀p∈X.pn++ps,p.1≠it) (hc:∀v,o'.data≠.cell v):Inv X ((it,o')::ps) σ H { s with heap:=h',toks:=t' }:=by
 obtain⟨e,n,ne,h,d⟩:=I.pin (it,o) (N8 _ (.head _));have i:Inv X ps σ H s:=I.pins_of λp a=>I.pin p (N8 _ (.tail _ a))
 have J:Inv X ps σ H { s with heap:=h',toks:=t' }:=i.turned k n ne (.inr h1) (λx c hl z=>by obtain⟨v,o2,e2,d2⟩:=I.cell x c hl;subst z;rw[e]at e2;cases e2;exact d v d2) g
 refine J.pins_of λp a=>?_
 rcases N5.mp a with rfl|a
 ·exact⟨f,n,ne,h,hc⟩
 ·exact J.pin p (N8 _ a)
theorem Inv.swap{ps:List (Addr×Obj)}{a b:Addr×Obj}(I:Inv X (a::b::ps) σ H s):Inv X (b::a::ps) σ H s:=I.pins_of λp c=>I.pin p (N8 _ (by
 rcases N5.mp c with rfl|c
 ·exact .tail _ (.head _)
 ·rcases N5.mp c with rfl|c
  ·exact .head _
  ·exact .tail _ (.tail _ c)))
theorem Ir(KK:lM X σ pins q l xs Φ κ lt)(hh:X.A.handled=none)
  (hR:∀H' s' x u,xs[bst lt (xs.length-1)]?=some x->RelV x u->Inv X pins σ H' s'->Φ H'->R (.ok (.ret u)) s') :
  ∀(r j:Nat)(H:Hp)(s:Shared)(h g:Value)(xb kb:V)(c:Nat)(It S:Addr)(G:Obj),xs.length-(j+1)=r->j+1<=xs.length->X.s₀.heap.objs.size<=It->X.s₀.heap.objs.size<=S->S≠It ->
   (∀p∈X.pn++pins,p.1≠It)->(∀p∈X.pn++pins,p.1≠S) ->
   Inv X.in1 ((S,seqObj "list" #[h,g] c)::(It,G)::pins) σ H s->G.cls=.type "list_iterator"->G.data=.fields #[.ref l,.int ((j+1:Nat):Int) 0]->Φ H->xs[bst lt j]?=some xb->RelV xb h->κ (bst lt j) kb H->RelV kb g ->
   codeAny (model X.prog X.w) X.A (.builtin "min.loop" ⟨[.ref It,.ref q,.ref S],[]⟩) R s:=by
 have B:(toString "min"++toString ".loop":String)="min.loop":=by decide
 intro r
 induction r with
 |zero =>
  intro j H s h g xb kb c It S G hr hj zI zS i O nS I P Q C hb rb T rk;have hin:j+1=xs.length:=by omega
  have pS:=I.pin (S,seqObj "list" #[h,g] c) (N8 _ (.head _));have K:=I.pin (It,G) (N8 _ (.tail _ (.head _)));have hl:=KK.lst H C;obtain⟨m,n,rv,eL,_⟩:=I.lst hl;have U:l≠It:=aI hl K.2.1;have hsz:m.toArray.size=xs.length:=by rw[NF,<-rv.length]
  have W:=Walks.list (prog:=X.prog) (w:=X.w) (A:=X.A.in1) hh It l U m.toArray;refine codeAny_builtin F.entry_min_loop ?_;rw[Around.under_plainId F.plain_min_loop _];show wpAny _ X.A.in1 (seqItems? (.ref S) >>= _) _ _ _;refine wpAny_bind (wpAny_seqItems pS.1 rfl ?_);show wpAny _ X.A.in1 (tryCatch (pyNext (.ref It)) _ >>= _) _ _ _;refine wpAny_bind (wpAny_tryCatch (W.done _ _ _ ⟨by rw[hsz,<-hin];exact⟨G,K.1,P,Q⟩,⟨_,eL,rfl,n,rfl⟩⟩ λh' y Y=>?_));have I1:Inv X.in1 ((S,seqObj "list" #[h,g] c)::pins) σ H { s with heap:=h',toks:=y }:=by
   have I0:Inv X.in1 ((S,seqObj "list" #[h,g] c)::pins) σ H s:=I.pins_of λp a=>I.pin p (N8 _ (by
    rcases N5.mp a with rfl|a
    ·exact .head _
    ·exact .tail _ (.tail _ a)))
   refine I0.turned (λb o Z e=>Y b o (by simpa using Z) e) K.2.1 K.2.2.1 (.inr zI) (λx cc hcl z=>?_) λp a=>?_
   ·obtain⟨v,o2,e2,d2⟩:=I.cell x cc hcl;subst z;rw[K.1]at e2;cases e2;exact K.2.2.2.2 v d2
   ·rcases NY.mp a with a|a
    ·exact O p (O4 _ a)
    ·rcases N5.mp a with rfl|a
     ·exact i
     ·exact O p (N8 _ a)
  have D:=I1.pin (S,seqObj "list" #[h,g] c) (N8 _ (.head _));have s1:=Heap.SameBut.update h' S (Obj.mapSeq λ_=>(#[]:Array Value));show wpAny _ X.A.in1 (updateSeq S (λ_=>#[]) >>= _) _ _ _;refine wpAny_bind ?_;refine wpAny_updateSeq D.1 rfl (wpAny_bind (wpAny_letGo (wpAny_pure ?_)));have I2:Inv X.in1 pins σ H { s with heap:=h'.update S (Obj.mapSeq λ_=>(#[]:Array Value)),toks:=y }:=by
   have I0:Inv X.in1 pins σ H { s with heap:=h',toks:=y }:=I1.pins_of λp a=>I1.pin p (N8 _ (.tail _ a))
   refine I0.turned (h':=h'.update S (Obj.mapSeq λ_=>(#[]:Array Value))) (t':=y) (λb o Z e=>(s1.2 b Z).trans e) D.2.1 D.2.2.1 (.inr zS) (λx cc hcl z=>?_) nS;obtain⟨v,o2,e2,d2⟩:=I1.cell x cc hcl;subst z;rw[D.1]at e2;cases e2;exact D.2.2.2.2 v d2
  exact hR H _ xb h (by rw[<-hin];exact hb) rb I2.of1 C
 |succ r ih =>
  intro j H s h g xb kb c It S G hr hj zI zS i O nS I P Q C hb rb T rk;have L:j+1<xs.length:=by omega
  have pS:=I.pin (S,seqObj "list" #[h,g] c) (N8 _ (.head _));have K:=I.pin (It,G) (N8 _ (.tail _ (.head _)));have hl:=KK.lst H C;obtain⟨m,n,rv,eL,_⟩:=I.lst hl;have U:l≠It:=aI hl K.2.1;have hsz:m.toArray.size=xs.length:=by rw[NF,<-rv.length]
  have W:=Walks.list (prog:=X.prog) (w:=X.w) (A:=X.A.in1) hh It l U m.toArray;refine codeAny_builtin F.entry_min_loop ?_;rw[Around.under_plainId F.plain_min_loop _];show wpAny _ X.A.in1 (seqItems? (.ref S) >>= _) _ _ _;refine wpAny_bind (wpAny_seqItems pS.1 rfl ?_);show wpAny _ X.A.in1 (tryCatch (pyNext (.ref It)) _ >>= _) _ _ _;refine wpAny_bind (wpAny_tryCatch (W.item (j+1) _ _ _ (by rw[hsz];exact L) ⟨⟨G,K.1,P,Q⟩,⟨_,eL,rfl,n,rfl⟩⟩ λv h' y hP hst' Y=>?_));have hv:m[j+1]?=some v:=by simpa using hP
  obtain⟨x,hx⟩:∃x,xs[j+1]?=some x:=⟨_,My L⟩
  obtain⟨v',hv',rx⟩:=rv.get hx;rw[hv]at hv';cases hv';obtain⟨M,hoI',hoc,hod⟩:=id hst'.1;have J:Inv X.in1 ((It,M)::(S,seqObj "list" #[h,g] c)::pins) σ H { s with heap:=h',toks:=y } :=
   I.swap.turnPin (λb o Z e=>Y b o (by simpa using Z) e) hoI' zI (λp a=>by
    rcases NY.mp a with a|a
    ·exact O p (O4 _ a)
    ·rcases N5.mp a with rfl|a
     ·exact i
     ·exact O p (N8 _ a)) λvv z=>by rw[hod]at z;cases z
  show wpAny _ X.A.in1 (tryCatch (holding [v] (call (.ref q) [v])) _ >>= _) _ _ _;refine wpAny_bind (wpAny_tryCatch (wpAny_holding (wpAny_mono (KK.turn (j+1) x hx _ H _ v (λp a=>.tail _ (.tail _ a)) J C rx) (λf s2 he=>?_) λ_ _ hF=>hF.elim)));obtain⟨kv,H2,J2,rk2,E,N,hst⟩:=he;show wpAny _ X.A.in1 (tryCatch (holding [v,f] (richCompare .Lt f g >>= _)) _ >>= _) _ _ _;refine wpAny_bind (wpAny_tryCatch (wpAny_holding (wpAny_bind (wpAny_mono (KK.cmp (j+1) (bst lt j) kv kb _ H2 s2 f g J2 E N (hst _ _ T) rk2 rk) (λrr s3 hc3=>?_) λ_ _ hF=>hF.elim))));obtain⟨rfl,J3⟩:=hc3;refine wpAny_bind (wpAny_holding (wpAny_truthy_bool ?_));refine wpAny_bind (wpAny_letGo (wpAny_pure ?_));have pS3:=J3.pin (S,seqObj "list" #[h,g] c) (N8 _ (.tail _ (.head _)));cases hb':lt (j+1) (bst lt j) with
  |true =>
   have s1:=Heap.SameBut.update s3.heap S (Obj.mapSeq λ_=>#[v,f]);obtain⟨c2,hc2⟩:∃c2,(s3.heap.update S (Obj.mapSeq λ_=>#[v,f])).get? S=some (seqObj "list" #[v,f] c2):=⟨_,get?_update_seq pS3.1 λ_=>#[v,f]⟩
   simp only[if_true];refine wpAny_bind ?_;refine wpAny_updateSeq pS3.1 rfl (wpAny_bind (wpAny_letGo ?_));rw[B];have J4:Inv X.in1 ((S,seqObj "list" #[v,f] c2)::(It,M)::pins) σ H2 { s3 with heap:=s3.heap.update S (Obj.mapSeq λ_=>#[v,f]),toks:=s3.toks } :=
    J3.swap.turnPin (λb o Z e=>(s1.2 b Z).trans e) hc2 zS (λp a=>by
     rcases NY.mp a with a|a
     ·exact nS p (O4 _ a)
     ·rcases N5.mp a with rfl|a
      ·exact i.symm
      ·exact nS p (N8 _ a)) λvv z=>by cases z
   have eb:bst lt (j+1)=j+1:=by unfold bst;rw[if_pos hb']
   exact wpAny_pure ⟨plainId_quiet F.plain_min_loop _,ih (j+1) H2 _ v f x kv c2 It S M (by omega) L zI zS i O nS J4 hoc hod E (by rw[eb];exact hx) rx (by rw[eb];exact N) rk2⟩
  |false =>
   simp only[NS,if_false];refine wpAny_bind (wpAny_letGo ?_);rw[B];have eb:bst lt (j+1)=bst lt j:=by rw[bst,if_neg (by rw[hb'];decide)]
   exact wpAny_pure ⟨plainId_quiet F.plain_min_loop _,ih (j+1) H2 _ h g xb kb c It S M (by omega) L zI zS i O nS J3.swap hoc hod E (by rw[eb];exact hb) rb (by rw[eb];exact hst _ _ T) rk⟩
theorem JQ{E:Value->Shared->Prop}(KK:lM X σ pins q l xs Φ κ lt)(hh:X.A.handled=none)(I:Inv X pins σ H s)(y:Φ H)(h:0<xs.length)
  (hQ:∀H' s' x u,xs[bst lt (xs.length-1)]?=some x->RelV x u->Inv X pins σ H' s'->Φ H'->Q u s') :
  wpAny (model X.prog X.w) X.A (call (.builtin "min") [.ref l] [(Str.ofString "key",.ref q)]) Q E s:=by
 have f:(toString "min"++toString ".loop":String)="min.loop":=by decide
 have hl:=KK.lst H y;obtain⟨g,n,rv,P,_⟩:=I.lst hl;have R:s.heap.IsList l g.toArray:=⟨_,P,rfl,n,rfl⟩
 refine kmk_tree F.kind_min F.plain_min F.entry_min (kmk_min_key _ _) ?_;show wpAny _ X.A.in1 (Builtin.Builtins.bindParams "min" ["key", "default"] 0 ⟨[],[(Str.ofString "key",.ref q)]⟩ >>= _) _ _ s;refine wpAny_bind (wpAny_of_eq (show Builtin.Builtins.bindParams "min" ["key", "default"] 0 ⟨[],[(Str.ofString "key",.ref q)]⟩=pure [some (.ref q),none] from rfl) ?_);refine wpAny_bind (wpAny_pure ?_);refine wpAny_bind (wpAny_pyIter_list R ?_);refine wpAny_bind (wpAny_newList ?_ (Oc _));rw[f];have T:(s.heap.push { cls:=.type "list_iterator",data:=.fields #[.ref l,.int 0 0] }).objs.size=s.heap.objs.size+1:=size_push' ..;have U:l<s.heap.objs.size:=Nz P;have Y:l≠s.heap.objs.size:=ND U;have i:(s.heap.push { cls:=.type "list_iterator",data:=.fields #[.ref l,.int 0 0] }).objs.size≠s.heap.objs.size:=by rw[T];exact Oy (OH _)
 have Z:∀p∈X.pn++pins,p.1≠s.heap.objs.size:=λp a=>ND (Nz (I.pin p a).1)
 have nS:∀p∈X.pn++pins,p.1≠(s.heap.push { cls:=.type "list_iterator",data:=.fields #[.ref l,.int 0 0] }).objs.size:=λp a=>by rw[T];exact ND (Og (Nz (I.pin p a).1))
 refine wpAny_pure ⟨plainId_quiet F.plain_min_loop _,?_⟩;have gI:((s.heap.push { cls:=.type "list_iterator",data:=.fields #[.ref l,.int 0 0] }).push (seqObj "list" #[] 0)).get? s.heap.objs.size=some { cls:=.type "list_iterator",data:=.fields #[.ref l,.int 0 0] } :=
  N2 _ (NB _ rfl)
 have gS:((s.heap.push { cls:=.type "list_iterator",data:=.fields #[.ref l,.int 0 0] }).push (seqObj "list" #[] 0)).get? (s.heap.push { cls:=.type "list_iterator",data:=.fields #[.ref l,.int 0 0] }).objs.size=some (seqObj "list" #[] 0):=NB _ rfl;have zI:X.s₀.heap.objs.size<=s.heap.objs.size:=I.sz;have zS:X.s₀.heap.objs.size<=(s.heap.push { cls:=.type "list_iterator",data:=.fields #[.ref l,.int 0 0] }).objs.size:=by rw[T];exact Nat.le_succ_of_le zI
 generalize eSa:(s.heap.push { cls:=.type "list_iterator",data:=.fields #[.ref l,.int 0 0] }).objs.size=S at *;generalize eIa:s.heap.objs.size=It at *;have I0:Inv X.in1 pins σ H { s with heap:=(s.heap.push { cls:=.type "list_iterator",data:=.fields #[.ref l,.int 0 0] }).push (seqObj "list" #[] 0),toks:=s.toks }:=I.in1.kept λb u e=>N2 _ (N2 _ e)
 have j:s.heap.objs.size<=It:=Nat.le_of_eq eIa;have m:s.heap.objs.size<=S:=by omega
 have I1:Inv X.in1 ((S,seqObj "list" #[] 0)::(It,{ cls:=.type "list_iterator",data:=.fields #[.ref l,.int 0 0] })::pins) σ H { s with heap:=(s.heap.push { cls:=.type "list_iterator",data:=.fields #[.ref l,.int 0 0] }).push (seqObj "list" #[] 0),toks:=s.toks }:=by
  refine I0.pins_of λp a=>?_
  rcases N5.mp a with rfl|a
  ·exact⟨gS,I.hok.fresh m,Oy (NL I.lt m),I.nofs m,λv z=>by cases z⟩
  ·rcases N5.mp a with rfl|a
   ·exact⟨gI,I.hok.fresh j,Oy (NL I.lt j),I.nofs j,λv z=>by cases z⟩
   ·exact I0.pin p (N8 _ a)
 have hsz:g.toArray.size=xs.length:=by rw[NF,<-rv.length]
 have W:=Walks.list (prog:=X.prog) (w:=X.w) (A:=X.A.in1) hh It l Y g.toArray;refine codeAny_builtin F.entry_min_loop ?_;rw[Around.under_plainId F.plain_min_loop _];show wpAny _ X.A.in1 (seqItems? (.ref _) >>= _) _ _ _;refine wpAny_bind (wpAny_seqItems gS rfl ?_);show wpAny _ X.A.in1 (tryCatch (pyNext (.ref It)) _ >>= _) _ _ _;refine wpAny_bind (wpAny_tryCatch (W.item 0 _ _ _ (by rw[hsz];exact h) ⟨⟨_,gI,rfl,rfl⟩,⟨_,N2 _ (N2 _ P),rfl,n,rfl⟩⟩ λv h' tk' hP B hk'=>?_));have hv:g[0]?=some v:=by simpa using hP
 obtain⟨x,C⟩:∃x,xs[0]?=some x:=⟨_,My h⟩
 obtain⟨v',D,rx⟩:=rv.get C;rw[hv]at D;cases D;obtain⟨r,G,hoc,K⟩:=id B.1;have J:Inv X.in1 ((It,r)::(S,seqObj "list" #[] 0)::pins) σ H { s with heap:=h',toks:=tk' } :=
  I1.swap.turnPin (λb o nb e=>hk' b o (by simpa using nb) e) G zI (λp a=>by
   rcases NY.mp a with a|a
   ·exact Z p (O4 _ a)
   ·rcases N5.mp a with rfl|a
    ·exact i
    ·exact Z p (N8 _ a)) λvv z=>by rw[K]at z;cases z
 show wpAny _ X.A.in1 (tryCatch (holding [v] (call (.ref q) [v])) _ >>= _) _ _ _;refine wpAny_bind (wpAny_tryCatch (wpAny_holding (wpAny_mono (KK.turn 0 x C _ H _ v (λp a=>.tail _ (.tail _ a)) J y rx) (λc s2 he=>?_) λ_ _ hF=>hF.elim)));obtain⟨kv,H2,J2,rk2,L,M,_⟩:=he;have N:=J2.pin (S,seqObj "list" #[] 0) (N8 _ (.tail _ (.head _)));have s1:=Heap.SameBut.update s2.heap S (Obj.mapSeq λ_=>#[v,c]);obtain⟨O,hc2⟩:∃O,(s2.heap.update S (Obj.mapSeq λ_=>#[v,c])).get? S=some (seqObj "list" #[v,c] O):=⟨_,get?_update_seq N.1 λ_=>#[v,c]⟩
 show wpAny _ X.A.in1 (updateSeq S (λ_=>#[v,c]) >>= _) _ _ _;refine wpAny_bind ?_;refine wpAny_updateSeq N.1 rfl ?_;rw[f];have J4:Inv X.in1 ((S,seqObj "list" #[v,c] O)::(It,r)::pins) σ H2 { s2 with heap:=s2.heap.update S (Obj.mapSeq λ_=>#[v,c]),toks:=s2.toks } :=
  J2.swap.turnPin (λb o nb e=>(s1.2 b nb).trans e) hc2 zS (λp a=>by
   rcases NY.mp a with a|a
   ·exact nS p (O4 _ a)
   ·rcases N5.mp a with rfl|a
    ·exact i.symm
    ·exact nS p (N8 _ a)) λvv z=>by cases z
 exact wpAny_pure ⟨plainId_quiet F.plain_min_loop _,Ir KK hh (λH' s' x u C ru J a=>hQ H' s' x u C ru J a) _ 0 H2 _ v c x kv O It S r rfl h zI zS i Z nS J4 hoc K L C rx M rk2⟩
end
def af(i:Nat):Ds->Rs PyData:=λδ=>match δ[i]? with
 |some (some d)=>.ok d
 |_=>.no
def gC(d:PyData):Ds->Rs PyData:=λ_=>.ok d
def g1(f:PyData->Option PyData)(a:Ds->Rs PyData):Ds->Rs PyData:=λδ=>(a δ).bind λx=>Rs.eN (f x)
def g2(f:PyData->PyData->Option PyData)(a b:Ds->Rs PyData):Ds->Rs PyData:=λδ=>(a δ).bind λx=>(b δ).bind λy=>Rs.eN (f x y)
def gF(f:List PyData->Option PyData)(as:Ds->Rs (List PyData)):Ds->Rs PyData:=λδ=>(as δ).bind λds=>Rs.eN (f ds)
def ah:Ds->Rs (List PyData):=λ_=>.ok []
def ae(a:Ds->Rs PyData)(r:Ds->Rs (List PyData)):Ds->Rs (List PyData):=λδ=>(a δ).bind λx=>(r δ).bind λxs=>.ok (x::xs)
def gu(as:Ds->Rs (List PyData)):Ds->Rs PyData:=λδ=>(as δ).bind λds=>.ok (.tuple ds)
def pq(as:Ds->Rs (List PyData)):Ds->Rs PyData:=λδ=>(as δ).bind λds=>.ok (.list ds)
def ao(gf:List PyData->Rs PyData)(as:Ds->Rs (List PyData)):Ds->Rs PyData:=λδ=>(as δ).bind gf
def truth:PyData->Rs Bool
 |.bool b=>.ok b
 |_=>.no
def gT(a:Ds->Rs PyData):Ds->Rs Bool:=λδ=>(a δ).bind truth
def gm(a:Ds->Rs Bool):Ds->Rs Bool:=λδ=>(a δ).bind λb=>.ok (!b)
def CT(a b:Ds->Rs Bool):Ds->Rs Bool:=λδ=>(a δ).bind λx=>if x=true then b δ else .ok false
def cOr(a b:Ds->Rs Bool):Ds->Rs Bool:=λδ=>(a δ).bind λx=>if x=true then .ok true else b δ
def Dc(a b:Ds->Rs PyData):Ds->Rs PyData:=λδ=>(a δ).bind λx=>(truth x).bind λt=>if t=true then b δ else .ok (.bool false)
def gOr(a b:Ds->Rs PyData):Ds->Rs PyData:=λδ=>(a δ).bind λx=>(truth x).bind λt=>if t=true then .ok (.bool true) else b δ
def Ni(a:Ds->Rs PyData):Ds->Rs PyData:=λδ=>(a δ).bind λx=>(truth x).bind λt=>.ok (.bool (!t))
def gIf(c:Ds->Rs Bool)(a b:Ds->Rs PyData):Ds->Rs PyData:=λδ=>(c δ).bind λx=>if x=true then a δ else b δ
section
variable {a b c:Expr}{ga gb gc:Ds->Rs PyData}
theorem K5(i:Nat)(c:X.N[i]?=some x)(f:Vis X.env.scope x)(hd:(x==("__debug__":Str))=false)
  (a:(x==("__classdict__":Str))=false):PD X E (.Name x pos) (af i) :=
 (j9 c f hd a).imp λσ H Q b=>by
  obtain⟨A,δ,R,o⟩:=b;unfold af at o;split at o
  ·rename_i d e;obtain⟨v,e1,h⟩:=R.get i d e;exact⟨v,e1,o v H (av.refl H) h⟩
  ·exact o.elim
theorem C1{d:PyData}(h:PE X e (tC v))(hi:∀K H,Is K H d v):PD X E e (gC d):=h.imp λσ H Q a=>(by obtain⟨A,δ,R,o⟩:=a;exact o v H (av.refl H) (hi _ _))
theorem Ji{i j pos}:PD X E (.Constant (.int i) j pos) (gC (.int i)):=C1 gp λ_ _=>bF
theorem MH{i j pos}:PD X E (.Constant (.bool i) j pos) (gC (.bool i)):=C1 Ma λ_ _=>is_bool
theorem KP{j pos}:PD X E (.Constant .none j pos) (gC .none):=C1 Jt λ_ _=>is_none
theorem K7{i j pos}:PD X E (.Constant (.str i) j pos) (gC (.str i)):=C1 JJ λ_ _=>EX
theorem FX{i:Int}(hm:∃t,X.mg x=some (.int i t))(a:Gl X x)(hd:(x==("__debug__":Str))=false):PD X E (.Name x pos) (gC (.int i)):=by obtain⟨t,hm⟩:=hm;exact C1 (Ik (v:=.int i) a hm ⟨_,rfl⟩ hd) λ_ _=>bF
def OpD(K:W.Frag)(f:PyData->PyData->Option PyData)(r:R2):Prop :=
 ∀(d1 d2 d:PyData)(x y:V)(H:Hp)(A:List Addr)(Q:VK),f d1 d2=some d->Ls H A->Is K (del H A) d1 x->Is K (del H A) d2 y->(∀v H',av H H'->Is K (del H' A) d v->Q v H')->r x y H Q
theorem g2.read{r:R2}{Q:VK}(b:OpD K f r)(R:dJ K H A δ σ)(o:ik K E A H (g2 f ga gb δ) Q) :
  tOp r (eD K E ga) (eD K E gb) σ H Q:=by
 unfold g2 at o;refine eD.run R (λd1 e1 v H1 a c h1=>?_) (λC e1 H' s'=>?_) (λe1=>?_)
 ·rw[e1]at o;refine eD.run c (λd2 e2 u H2 s2 R2 h2=>?_) (λC e2 H' s'=>?_) (λe2=>?_)
  ·simp only[Rs.ag,e2]at o;cases e3:f d1 d2 with
   |none=>rw[e3]at o;exact o.elim
   |some d =>rw[e3]at o;exact b d1 d2 d v u H2 A Q e3 R2.ls (h1.same s2.del) h2 λw H' s q=>o w H' (a.trans (s2.trans s)) q
  ·simp only[Rs.ag,e2,Rs.dZ]at o;exact o H' (a.trans s')
  ·simp only[Rs.ag,e2,Rs.bw]at o;exact o
 ·rw[e1]at o;exact o H' s'
 ·rw[e1]at o;exact o
theorem iO{r:R2}(g:OpD X.K f r)(ha:PD X E a ga)(h:PD X E b gb)(mk:∀{ta tb:TE},PE X a ta->PE X b tb->PE X e (tOp r ta tb)):PD X E e (g2 f ga gb) :=
 (mk ha h).imp λσ H Q c=>(by obtain⟨A,δ,R,o⟩:=c;exact g2.read g R o)
theorem mf{r:R2}(g:OpD X.K f r)(ha:PD X E a ga)(i:PD X E b gb)(mk:∀{ta tb:TE},PE X a ta->PE X b tb->PT X e (IF (tOp r ta tb))):PCD X E e (gT (g2 f ga gb)) :=
 (mk ha i).imp λσ H Q c=>by
  obtain⟨A,δ,R,o⟩:=c;refine g2.read (Q:=λx H'=>∃k,x=.bl k/\Q k H') g R ?_;unfold gT at o;cases q:g2 f ga gb δ with
  |no=>rw[q]at o;exact o
  |rz C=>rw[q]at o;exact o
  |ok d =>
   rw[q]at o;cases d with
   |bool k=>exact λv H' s h=>⟨k,h.ofBool,o H' s⟩
   |_=>exact o.elim
def dI(f:Int->Int->Option PyData):PyData->PyData->Option PyData
 |.int i,.int j=>f i j
 |_,_=>none
theorem Bb{f:Int->Int->Option PyData}{d1 d2 d:PyData}(h:dI f d1 d2=some d):∃i j,d1=.int i/\d2=.int j/\f i j=some d:=by
 unfold dI at h;split at h
 ·exact⟨_,_,rfl,rfl,h⟩
 ·cases h
def iH:=dI λi j=>some (.int (i-j))
def jS:=dI λi j=>if 0<j then some (.int (i % j)) else none
def rZ:=dI λi j=>if 0<j/\j<1073741824 then some (.int (i / j)) else none
def dLt:=dI λi j=>some (.bool (decide (i<j)))
def dLe:=dI λi j=>some (.bool (decide (i<=j)))
def dGt:=dI λi j=>some (.bool (decide (j<i)))
def dGe:=dI λi j=>some (.bool (decide (j<=i)))
theorem jR{f:Int->Int->PyData}{v:Int->Int->V}(a:∀i j K H,Is K H (f i j) (v i j)):OpD K (dI λi j=>some (f i j)) (rI0 v):=λd1 d2 d x y H A Q e hA h1 h2 k=>by obtain⟨i,j,rfl,rfl,e⟩:=Bb e;cases e;exact⟨i,j,h1.ofInt,h2.ofInt,k _ H (av.refl H) (a _ _ _ _)⟩
theorem IJ{C a:Int->Int->Prop}[∀i j,Decidable (a i j)]{f:Int->Int->PyData}{v:Int->Int->V}(hc:∀i j,a i j->C i j)(b:∀i j K H,Is K H (f i j) (v i j)):OpD K (dI λi j=>if a i j then some (f i j) else none) (rI C v):=λd1 d2 d x y H A Q e hA h1 h2 k=>by
 obtain⟨i,j,rfl,rfl,e2⟩:=Bb e;by_cases z:a i j
 ·simp only[if_pos z]at e2;cases e2;exact⟨i,j,h1.ofInt,h2.ofInt,hc i j z,k _ H (av.refl H) (b _ _ _ _)⟩
 ·simp only[if_neg z]at e2;cases e2
theorem IX(ha:PD X E a ga)(c:PD X E b gb):PD X E (.BinOp a .Sub b pos) (g2 iH ga gb):=iO (jR λ_ _ _ _=>bF) ha c (fA JY)
theorem K1(ha:PD X E a ga)(c:PD X E b gb):PD X E (.BinOp a .Mod b pos) (g2 jS ga gb):=iO (IJ (λ_ _ h=>h) λ_ _ _ _=>bF) ha c (fA rF)
theorem J7(ha:PD X E a ga)(c:PD X E b gb):PD X E (.BinOp a .FloorDiv b pos) (g2 rZ ga gb):=iO (IJ (C:=Lv) (λ_ _ h=>h) λ_ _ _ _=>bF) ha c (fA GG)
theorem MC(ha:PD X E a ga)(c:PD X E b gb):PD X E (.Compare a [.Lt] [b] pos) (g2 dLt ga gb):=iO (jR λ_ _ _ _=>is_bool) ha c λh1 h2=>oS FW h1 h2 (jr _)
theorem LJ(ha:PD X E a ga)(c:PD X E b gb):PD X E (.Compare a [.LtE] [b] pos) (g2 dLe ga gb):=iO (jR λ_ _ _ _=>is_bool) ha c λh1 h2=>oS AS h1 h2 (jr _)
theorem KG(ha:PD X E a ga)(c:PD X E b gb):PCD X E (.Compare a [.Lt] [b] pos) (gT (g2 dLt ga gb)):=mf (jR λ_ _ _ _=>is_bool) ha c λh1 h2=>kF FW h1 h2 (jr _)
theorem Lh(ha:PD X E a ga)(c:PD X E b gb):PCD X E (.Compare a [.LtE] [b] pos) (gT (g2 dLe ga gb)):=mf (jR λ_ _ _ _=>is_bool) ha c λh1 h2=>kF AS h1 h2 (jr _)
theorem Kx(ha:PD X E a ga)(c:PD X E b gb):PCD X E (.Compare a [.Gt] [b] pos) (gT (g2 dGt ga gb)):=mf (jR λ_ _ _ _=>is_bool) ha c λh1 h2=>kF L5 h1 h2 (jr _)
open PySem.SeqAt in
def dEq(x y:PyData):Option PyData:=if aG x&&aG y&&shaped x&&shaped y then some (.bool (PyData.eqv x y)) else none
open PySem.SeqAt in
def dNe(x y:PyData):Option PyData:=if aG x&&aG y&&shaped x&&shaped y then some (.bool (!PyData.eqv x y)) else none
open PySem.SeqAt in
theorem E1:OpD K dEq (λx y H Q=>∃d e,IsD K H d x/\IsD K H e y/\shaped d=true/\shaped e=true/\Q (.bl (PyData.eqv d e)) H):=λd1 d2 d x y H A Q e hA h1 h2 k=>by
 unfold dEq at e;split at e
 ·rename_i z;simp only[N7]at z;cases e;exact⟨d1,d2,(h1.same ay).isd z.1.1.1,(h2.same ay).isd z.1.1.2,z.1.2,z.2,k _ H (av.refl H) is_bool⟩
 ·cases e
open PySem.SeqAt in
theorem K2:OpD K dNe (λx y H Q=>∃d e,IsD K H d x/\IsD K H e y/\shaped d=true/\shaped e=true/\Q (.bl (!PyData.eqv d e)) H):=λd1 d2 d x y H A Q e hA h1 h2 k=>by
 unfold dNe at e;split at e
 ·rename_i z;simp only[N7]at z;cases e;exact⟨d1,d2,(h1.same ay).isd z.1.1.1,(h2.same ay).isd z.1.1.2,z.1.2,z.2,k _ H (av.refl H) is_bool⟩
 ·cases e
theorem LA(c:X.A.units+64<cLine)(ha:PD X E a ga)(e:PD X E b gb):PD X E (.Compare a [.Eq] [b] pos) (g2 dEq ga gb):=iO E1 ha e λh1 h2=>oS (yL c) h1 h2 (jr _)
theorem Lf(c:X.A.units+64<cLine)(ha:PD X E a ga)(e:PD X E b gb):PCD X E (.Compare a [.Eq] [b] pos) (gT (g2 dEq ga gb)):=mf E1 ha e λh1 h2=>kF (yL c) h1 h2 (jr _)
theorem JM(c:X.A.units+64<cLine)(ha:PD X E a ga)(e:PD X E b gb):PCD X E (.Compare a [.NotEq] [b] pos) (gT (g2 dNe ga gb)):=mf K2 ha e λh1 h2=>kF (JR c) h1 h2 (jr _)
def fj:PyData->Bool
 |.none=>true
 |_=>false
def lj(x:PyData):Option PyData:=some (.bool (fj x))
def jw(x:PyData):Option PyData:=some (.bool (!fj x))
theorem g1.read{tt:(VK)->VK}{f:PyData->Option PyData}{Q:VK}(R:dJ K H A δ σ)(o:ik K E A H (g1 f ga δ) Q)
  (b:∀d1 d x H',f d1=some d->Ls H' A->av H H'->Is K (del H' A) d1 x->(∀v H2,av H' H2->Is K (del H2 A) d v->Q v H2)->tt Q x H'):eD K E ga σ H (tt Q):=by
 unfold g1 at o;refine eD.run R (λd1 e1 v H1 a c h1=>?_) (λC e1 H' s'=>?_) (λe1=>?_)
 ·simp only[e1,Rs.ag]at o;cases e3:f d1 with
  |none=>rw[e3]at o;exact o.elim
  |some d=>rw[e3]at o;exact b d1 d v H1 e3 c.ls a h1 λw H' s q=>o w H' (a.trans s) q
 ·rw[e1]at o;exact o H' s'
 ·rw[e1]at o;exact o
theorem yH{d:PyData}(h:Is K H d v):decide (v=.non)=fj d:=by
 by_cases z:v=.non
 ·rw[decide_eq_true z,h.isNone.mp z];rfl
 ·rw[decide_eq_false z];have:d≠.none:=λq=>z (h.isNone.mpr q)
  cases d <;> first|(exact absurd rfl this)|rfl
theorem KW{j pos'}(ha:PD X E a ga):PD X E (.Compare a [.Is] [.Constant .none j pos'] pos) (g1 lj ga) :=
 (KZ (C0 ha)).imp λσ H Q ⟨A,δ,R,o⟩=>g1.read (tt:=λQ x H1=>Q (.bl (decide (x=.non))) H1) R o λd1 d x H' e _ _ h k=>by cases e;rw[yH h];exact k _ H' (av.refl _) is_bool
theorem yw{t:TE}(h:PT X e (tB t))(k:∀σ H Q,eD X.K E ga σ H Q->t σ H Q):PCD X E e (gT ga):=h.imp λσ H Q ⟨A,δ,R,o⟩=>k σ H _ ⟨A,δ,R,by
 unfold gT at o;cases q:ga δ with
 |no=>rw[q]at o;exact o
 |rz C=>rw[q]at o;exact o
 |ok d =>
  rw[q]at o;cases d with
  |bool c=>exact λv H' s h=>⟨c,h.ofBool,o H' s⟩
  |_=>exact o.elim⟩
theorem Hu(h:PD X E e ga)(a:∀whole,isTrue e X.env whole=(do let v <-whole;standAt e.pos;holding [v] (truthy v))):PCD X E e (gT ga):=yw (Kc h a) λ_ _ _ h=>h
theorem GS{j pos'}(ha:PD X E a ga):PCD X E (.Compare a [.Is] [.Constant .none j pos'] pos) (gT (g1 lj ga)) :=
 yw (zr (C0 ha)) λσ H Q ⟨A,δ,R,o⟩=>g1.read (tt:=λQ x H1=>Q (.bl (decide (x=.non))) H1) R o λd1 d x H' e _ _ h k=>by cases e;rw[yH h];exact k _ H' (av.refl _) is_bool
theorem EB{j pos'}(ha:PD X E a ga):PCD X E (.Compare a [.IsNot] [.Constant .none j pos'] pos) (gT (g1 jw ga)) :=
 yw (zr (Gj ha)) λσ H Q ⟨A,δ,R,o⟩=>g1.read (tt:=λQ x H1=>Q (.bl (!decide (x=.non))) H1) R o λd1 d x H' e _ _ h k=>by cases e;rw[yH h];exact k _ H' (av.refl _) is_bool
theorem DG{ca:Ds->Rs Bool}{f:Bool->Rs Bool}{Q:Bool->Hp->Prop}{t:Bool->Hp->Prop}(R:dJ K H A δ σ)(o:xw E H ((ca δ).bind f) Q)
  (k:∀b H1,av H H1->dJ K H1 A δ σ->xw E H1 (f b) Q->t b H1):cD K E ca σ H t:=by
 refine cD.run R (λb e H1 a c=>?_) (λC e H' s'=>?_) (λe=>?_)
 ·rw[e]at o;exact k b H1 a c (xw.mono (show xw E H (f b) Q from o) a)
 ·rw[e]at o;exact o H' s'
 ·rw[e]at o;exact o
variable {ca cb:Ds->Rs Bool}{rest:List Expr}
theorem Ho(ha:PCD X E a ca):PCD X E (.UnaryOp .Not a pos) (gm ca):=(JL ha).imp λσ H Q c=>(by obtain⟨A,δ,R,o⟩:=c;exact DG R o λb H1 s1 R1 o=>o H1 (av.refl _))
theorem FV(ha:PCD X E a ca):PWD X E (.BoolOp .And [a] pos) ca:=Iv ha
theorem Hi(ha:PCD X E a ca):PWD X E (.BoolOp .Or [a] pos) ca:=Kn ha
theorem Ap(ha:PCD X E a ca)(c:PWD X E (.BoolOp .And (b::rest) pos) cb):PWD X E (.BoolOp .And (a::b::rest) pos) (CT ca cb):=PW.imp (K8 ha c) λσ H Q ⟨A,δ,R,o⟩=>DG R o λb H1 s1 e o=>by
 cases b with
 |true=>exact⟨A,δ,e,o⟩
 |false=>exact o H1 (av.refl _)
theorem EI(ha:PCD X E a ca)(c:PWD X E (.BoolOp .Or (b::rest) pos) cb):PWD X E (.BoolOp .Or (a::b::rest) pos) (cOr ca cb):=PW.imp (LG ha c) λσ H Q ⟨A,δ,R,o⟩=>DG R o λb H1 s1 e o=>by
 cases b with
 |false=>exact⟨A,δ,e,o⟩
 |true=>exact o H1 (av.refl _)
theorem IS(h:PWD X E e ca):PCD X E e ca:=PW.pt h
theorem IT{f:PyData->Rs PyData}{Q:VK}{t:VK}(R:dJ K H A δ σ)(o:ik K E A H ((ga δ).bind f) Q)
  (k:∀d v H1,av H H1->dJ K H1 A δ σ->Is K (del H1 A) d v->ik K E A H1 (f d) Q->t v H1):eD K E ga σ H t:=by
 refine eD.run R (λd e v H1 a b h1=>?_) (λC e H' s'=>?_) (λe=>?_)
 ·rw[e]at o;exact k d v H1 a b h1 (ik.mono (show ik K E A H (f d) Q from o) a)
 ·rw[e]at o;exact o H' s'
 ·rw[e]at o;exact o
theorem qk{d:PyData}{f:Bool->Rs PyData}{Q:VK}(o:ik K E A H ((truth d).bind f) Q):∃t,d=.bool t/\ik K E A H (f t) Q:=by
 cases d with
 |bool t=>exact⟨t,rfl,o⟩
 |_=>exact o.elim
theorem JW{op}(ha:PD X E a ga):PD X E (.BoolOp op [a] pos) ga:=K9 ha
theorem J8(ha:PD X E a ga)(c:PD X E (.BoolOp .And (b::rest) pos) gb):PD X E (.BoolOp .And (a::b::rest) pos) (Dc ga gb):=(KS ha c).imp λσ H Q ⟨A,δ,R,o⟩=>IT R o λd v H1 s1 e h1 o=>by
 obtain⟨t,rfl,o⟩:=qk o;refine⟨t,h1.ofBool,?_⟩;cases t with
 |true=>exact⟨A,δ,e,o⟩
 |false=>exact o _ H1 (av.refl _) is_bool
theorem LS(ha:PD X E a ga)(c:PD X E (.BoolOp .Or (b::rest) pos) gb):PD X E (.BoolOp .Or (a::b::rest) pos) (gOr ga gb):=(Mw ha c).imp λσ H Q ⟨A,δ,R,o⟩=>IT R o λd v H1 s1 e h1 o=>by
 obtain⟨t,rfl,o⟩:=qk o;refine⟨t,h1.ofBool,?_⟩;cases t with
 |false=>exact⟨A,δ,e,o⟩
 |true=>exact o _ H1 (av.refl _) is_bool
theorem L8(hc:PCD X E c ca)(ha:PD X E a ga)(h:PD X E b gb):PD X E (.IfExp c a b pos) (gIf ca ga gb):=(D8 hc ha h).imp λσ H Q f=>by
 obtain⟨A,δ,R,o⟩:=f;unfold gIf at o;refine cD.run R (λt e H1 i g=>?_) (λC e H' s'=>?_) (λe=>?_)
 ·rw[e]at o;have o:=ik.mono (show ik X.K E A H (if t=true then ga δ else gb δ) Q from o) i;cases t with
  |true=>exact⟨A,δ,g,o⟩
  |false=>exact⟨A,δ,g,o⟩
 ·rw[e]at o;exact o H' s'
 ·rw[e]at o;exact o
def rQ:PyData->Option PyData
 |.int i=>some (.int (-i))
 |_=>none
theorem Jq(ha:PD X E a ga):PD X E (.UnaryOp .USub a pos) (g1 rQ ga):=(Mg KH ha).imp λσ H Q ⟨A,δ,R,o⟩=>g1.read (tt:=λQ x H1=>∃i,x=.int i/\Q (.int (-i)) H1) R o λd1 d x H' e _ _ h k=>by
 cases d1 with
 |int i=>cases e;exact⟨i,h.ofInt,k _ H' (av.refl _) bF⟩
 |_=>cases e
theorem HH:PAD X E [] ah:=⟨gw.imp λσ H Q a=>(by obtain⟨A,δ,R,o⟩:=a;exact o [] H (av.refl _) cX),λδ ds e=>by cases e;rfl⟩
theorem FA(ha:PD X E a ga)(b:PAD X E es gs)(f:starEach (a::es) X.env=(false,eval a X.env)::starEach es X.env):PAD X E (a::es) (ae ga gs):=by
 refine⟨(eM ha b.1 f).imp λσ H Q ⟨A,δ,R,o⟩=>?_,λδ ds e=>?_⟩
 ·unfold ae at o;refine eD.run R (λd e v H1 c g h1=>?_) (λC e H' s'=>?_) (λe=>?_)
  ·simp only[e,Rs.ag]at o;refine aD.run g (λds e2 vs H2 s2 R2 h2=>?_) (λC e2 H' s'=>?_) (λe2=>?_)
   ·simp only[e2,Rs.ag]at o;exact o _ H2 (c.trans s2) (cJ (h1.same s2.del) h2)
   ·simp only[e2,Rs.dZ]at o;exact o H' (c.trans s')
   ·simp only[e2,Rs.bw]at o;exact o
  ·simp only[e,Rs.dZ]at o;exact o H' s'
  ·simp only[e,Rs.bw]at o;exact o
 ·unfold ae at e;cases q:ga δ with
  |ok d =>
   cases q2:gs δ with
   |ok l =>simp only[q,q2,Rs.ag]at e;cases e;simp[b.2 δ l q2]
   |rz C=>simp only[q,q2,Rs.ag,Rs.dZ]at e;cases e
   |no=>simp only[q,q2,Rs.ag,Rs.bw]at e;cases e
  |rz C=>simp only[q,Rs.dZ]at e;cases e
  |no=>simp only[q,Rs.bw]at e;cases e
theorem tZ{f:List PyData->Rs PyData}{Q:VK}{t:List V->Hp->Prop}(R:dJ K H A δ σ)(o:ik K E A H ((gs δ).bind f) Q)
  (k:∀ds vs H1,gs δ=.ok ds->av H H1->dJ K H1 A δ σ->Iss K (del H1 A) ds vs->ik K E A H1 (f ds) Q->t vs H1):aD K E gs σ H t:=by
 refine aD.run R (λd e v H1 a b h1=>?_) (λC e H' s'=>?_) (λe=>?_)
 ·rw[e]at o;exact k d v H1 e a b h1 (ik.mono (show ik K E A H (f d) Q from o) a)
 ·rw[e]at o;exact o H' s'
 ·rw[e]at o;exact o
theorem Lk{x1}(h:PAD X E es gs)(hl:es.length<=1000):PD X E (.Tuple es x1 pos) (gu gs):=(IY h.1).imp λσ H Q ⟨A,δ,R,o⟩=>tZ R o λds vs H1 e s1 b h1 o=>by have n:=h.2 δ ds e;have m:=h1.length;exact⟨by rw[sizeLine_eq];omega,λp a=>o _ _ (bE a) (l5 b.ls a h1)⟩
theorem Ju(h:PAD X E es gs)(hl:es.length<=1000):PD X E (.List es pos) (pq gs):=(zG h.1).imp λσ H Q ⟨A,δ,R,o⟩=>tZ R o λds vs H1 e s1 b h1 o=>by have n:=h.2 δ ds e;have m:=h1.length;exact⟨by rw[sizeLine_eq];omega,λp a=>o _ _ (bE a) (oV b.ls a h1)⟩
def spD(K:W.Frag)(n:Nat)(gf:List PyData->Rs PyData):Sp:=λvs H Q E=>∃A ds,Ls H A/\Iss K (del H A) ds vs/\ds.length=n/\ik K E A H (gf ds) Q
structure iN(P:Program)(w:World)(K:W.Frag)(mg:Str->Option Value)(base:Heap)(k:Nat)(x:Str)(n:Nat)(gf:List PyData->Rs PyData):Prop where
 ex:∃f fd ps,gQ P w K mg base (CXW P w) k f fd ps (spD K n gf)/\mg x=some (.ref f)/\W.keepIn K (.ref f)=true/\Binds K fd ps []
theorem vQ:Passes (CXW X.prog X.w) X E0:=λ_ _ _ _ _ _ _ a=>(by obtain⟨_,_,_,_,_,_,h,_⟩:=a;exact h.elim)
theorem G5{k:Nat}(D:iN X.prog X.w X.K X.mg X.base k x (e::es).length gf)(h:cj j X.A)(i:Passes (CXW X.prog X.w) X E)(ha:PAD X E (e::es) gs)(l:k<=j)(m:Gl X x)
  (a:(x==("__debug__":Str))=false) (n:starEach (e::es) X.env=(false,eval e X.env)::starEach es X.env) (b:(backTo pos (starEach es X.env)).any (·.1)=false) :
  PD X E (.Call (.Name x p) (e::es) [] pos) (ao gf gs):=by
 obtain⟨f,fd,ps,F,hm,c,q⟩:=D.ex;refine (A8 F (h.mono l) m hm c q .nil i ha.1 a n b).imp λσ H Q g=>?_
 obtain⟨A,δ,R,o⟩:=g;refine tZ R o λds vs H1 e s1 r h1 o=>?_
 refine⟨A,ds,r.ls,by simpa using h1,ha.2 δ ds e,o⟩
def FnD(K:W.Frag)(f:List PyData->Option PyData)(r:List V->Hp->VK->Prop):Prop :=
 ∀(ds:List PyData)(d:PyData)(vs:List V)(H:Hp)(A:List Addr)(Q:VK),f ds=some d->Ls H A->Iss K (del H A) ds vs->(∀v H',av H H'->Is K (del H' A) d v->Q v H')->r vs H Q
theorem fY{r:List V->Hp->VK->Prop}{f:List PyData->Option PyData}(a:FnD X.K f r)(ha:PAD X E es gs)(mk:∀{t:TA},PA X es t->PE X e (tCB r t)):PD X E e (gF f gs) :=
 (mk ha.1).imp λσ H Q ⟨A,δ,R,o⟩=>tZ R o λds vs H1 e s1 b h1 o=>by
  cases q:f ds with
  |none=>rw[q]at o;exact o.elim
  |some d=>rw[q]at o;exact a ds d vs H1 A Q q b.ls h1 o
end
section
variable {a b c:Expr}{ga gb gc:Ds->Rs PyData}
def IQ(K:W.Frag):R2:=λx y H Q=>∃a b xs ys,x=.ref a/\y=.ref b/\SqT K H a xs/\SqT K H b ys/\xs.length+ys.length<=sizeLine /\
 (xs=[]->Q (.ref b) H)/\(xs≠[]->ys=[]->Q (.ref a) H)/\(xs≠[]->ys≠[]->∀p,H p=none->Q (.ref p) (upd H p (.tup (xs++ys))))
theorem GV:OpR X (binaryOp .Add) (IQ X.K):=by
 intro pins s σ H x y v u Q I i j h;obtain⟨a,b,xs,ys,rfl,rfl,ha,l,o,p,q,r⟩:=h;by_cases hx:xs=[]
 ·cases i;cases j;obtain⟨vs,w,p1,_⟩:=I.tuple ha;obtain⟨ws,r2,p2,_⟩:=I.tuple l;obtain⟨⟨cls,dd,data,z⟩,m,hc,n,hd⟩:=id p1;obtain⟨⟨cls2,f,data2,g⟩,c,e,n2,hd2⟩:=id p2;simp only at hc hd e hd2;subst hc hd e hd2;have A:vs=[]:=w.nil_iff.mpr hx;exact concat_meets ⟨_,m,rfl⟩ ⟨_,c,rfl⟩ noFill_tuple_add seq_tuple_add F.slot_tuple_add F.entry_tuple_add (F.args_tuple_add_2 _ _)
   (tuple_addW0 a b vs.toArray ws.toArray n n2 dd f z g (by simp[A])) ⟨m,c,⟨.ref b,H,I,rfl,p hx⟩⟩
 ·exact HU pins s σ H _ _ v u Q I i j ⟨a,b,xs,ys,rfl,rfl,ha,l,hx,o,q hx,r hx⟩
def bP:PyData->PyData->Option PyData
 |.int i,.int j=>some (.int (i+j))
 |.list x,.list y=>if x.length+y.length<=1000000 then some (.list (x++y)) else none
 |.tuple x,.tuple y=>if x.length+y.length<=1000000 then some (.tuple (x++y)) else none
 |_,_=>none
theorem G8:OpD K bP (λx y H Q=>rI0 (λi j=>.int (i+j)) x y H Q\/LO x y H Q\/IQ K x y H Q):=λd1 d2 d x y H A Q e h h1 h2 k=>by
 unfold bP at e;split at e
 ·cases e;exact .inl ⟨_,_,h1.ofInt,h2.ofInt,k _ H (av.refl _) bF⟩
 ·rename_i l1 l2;split at e
  ·rename_i l;cases e;obtain⟨p,xs,rfl,f,a⟩:=h1.ofLst;obtain⟨q,ys,rfl,g,b⟩:=h2.ofLst;refine .inr (.inl ⟨p,q,xs,ys,rfl,rfl,ay _ _ f,ay _ _ g,by rw[a.length,b.length,sizeLine_eq];omega,λr c=>k _ _ (bE c) (oV h c (a.append b))⟩)
  ·cases e
 ·rename_i l1 l2;split at e
  ·rename_i l;cases e;obtain⟨p,xs,rfl,f,a⟩:=h1.ofTup;obtain⟨q,ys,rfl,g,b⟩:=h2.ofTup;refine .inr (.inr ⟨p,q,xs,ys,rfl,rfl,SqT.of (ay _ _ f),SqT.of (ay _ _ g),by rw[a.length,b.length,sizeLine_eq];omega,λz=>?_,λ_ z=>?_,λ_ _ r c=>k _ _ (bE c) (l5 h c (a.append b))⟩)
   ·subst z;have:l1=[]:=Ol.mp (by rw[<-a.length];rfl);subst this;exact k _ H (av.refl _) (iM g b)
   ·subst z;have:l2=[]:=Ol.mp (by rw[<-b.length];rfl);subst this;rw[Ob]at k;exact k _ H (av.refl _) (iM f a)
  ·cases e
 ·cases e
theorem Jf(ha:PD X E a ga)(c:PD X E b gb):PD X E (.BinOp a .Add b pos) (g2 bP ga gb):=iO G8 ha c (fA (ng.or (JK.or GV)))
def dIx:PyData->PyData->Option PyData
 |.list x,.int i=>atI x i
 |.tuple x,.int i=>atI x i
 |_,_=>none
theorem AE{i:Int}{d:PyData}(h:Iss K H ds vs)(e:atI ds i=some d):∃v,atI vs i=some v/\Is K H d v:=by
 unfold atI at e ⊢;rw[h.length];cases q:ixN ds.length i with
 |none=>rw[q]at e;cases e
 |some j=>rw[q]at e;exact h.getD e
theorem KI:OpD K dIx (λx y H Q=>LD K x y H Q\/L7 K x y H Q):=λd1 d2 d x y H A Q e hA h1 h2 k=>by
 unfold dIx at e;split at e
 ·obtain⟨p,xs,rfl,a,b⟩:=h1.ofLst;obtain⟨v,ev,c⟩:=AE b e;exact .inl ⟨p,xs,_,v,rfl,h2.ofInt,SqL.of (ay _ _ a),ev,k _ H (av.refl _) c⟩
 ·obtain⟨p,xs,rfl,a,b⟩:=h1.ofTup;obtain⟨v,ev,c⟩:=AE b e;exact .inr ⟨p,xs,_,v,rfl,h2.ofInt,SqT.of (ay _ _ a),ev,k _ H (av.refl _) c⟩
 ·cases e
theorem LL(ha:PD X E a ga)(c:PD X E b gb)(e:Al b):PD X E (.Subscript a b pos) (g2 dIx ga gb):=iO KI ha c λh1 h2=>FJ (vL.or Kd) h1 h2 e
def cM:List PyData->Option PyData
 |[.list x]=>some (.int x.length)
 |[.tuple x]=>some (.int x.length)
 |_=>none
theorem kI{d:PyData}(h:Iss K H [d] vs):∃v,vs=[v]/\Is K H d v:=by obtain⟨v,r,rfl,h1,h2⟩:=h.cons_of;rw[h2.nil_of];exact⟨v,rfl,h1⟩
theorem HQ{d e:PyData}(h:Iss K H [d,e] vs):∃v u,vs=[v,u]/\Is K H d v/\Is K H e u:=by obtain⟨v,r,rfl,h1,h2⟩:=h.cons_of;obtain⟨u,rfl,a⟩:=kI h2;exact⟨v,u,rfl,h1,a⟩
theorem Gr:FnD K cM (λxs H Q=>∃p ys,xs=[.ref p]/\(SqL K H p ys\/SqT K H p ys)/\Q (.int ys.length) H):=λds d vs H A Q e hA h k=>by
 unfold cM at e;split at e
 ·cases e;obtain⟨v,rfl,a⟩:=kI h;obtain⟨p,xs,rfl,b,c⟩:=a.ofLst;exact⟨p,xs,rfl,.inl (SqL.of (ay _ _ b)),k _ H (av.refl _) (by rw[c.length];exact bF)⟩
 ·cases e;obtain⟨v,rfl,a⟩:=kI h;obtain⟨p,xs,rfl,b,c⟩:=a.ofTup;exact⟨p,xs,rfl,.inr (SqT.of (ay _ _ b)),k _ H (av.refl _) (by rw[c.length];exact bF)⟩
 ·cases e
theorem KC(hm:X.mg "len"=none)(ha:PAD X E (a::es) gs)(c:Gl X "len")(e:starEach (a::es) X.env=(false,eval a X.env)::starEach es X.env)(b:(backTo pos (starEach es X.env)).any (·.1)=false) :
 PD X E (.Call (.Name "len" p) (a::es) [] pos) (gF cM gs):=fY Gr ha λh=>fo jl c hm PySem.boot_len h (by decide) (by decide) e b
theorem Dx:bootBuiltins "int"=some (.type "int"):=by decide +kernel
theorem v9:bootBuiltins "tuple"=some (.type "tuple"):=by decide +kernel
theorem uM:bootBuiltins "list"=some (.type "list"):=by decide +kernel
theorem BD:bootBuiltins "isinstance"=some (.builtin "isinstance"):=by decide +kernel
theorem Ll:bootBuiltins "all"=some (.builtin "all"):=by decide +kernel
theorem JC:bootBuiltins "sum"=some (.builtin "sum"):=by decide +kernel
theorem Jm:bootBuiltins "min"=some (.builtin "min"):=by decide +kernel
def eV:List PyData->Option (List Int)
 |[]=>some []
 |.int i::r=>(eV r).map (i::·)
 |_::_=>none
theorem ee:∀{ds:List PyData}{ns:List Int},eV ds=some ns->ds=ns.map PyData.int
 |[],_,h=>by cases h;rfl
 |.int i::r,ns,h=>by
  unfold eV at h;cases q:eV r with
  |none=>rw[q]at h;cases h
  |some l=>rw[q]at h;cases h;rw[ee q];rfl
 |.none::_,_,h=>by cases h
 |.bool _::_,_,h=>by cases h
 |.str _::_,_,h=>by cases h
 |.list _::_,_,h=>by cases h
 |.tuple _::_,_,h=>by cases h
 |.dict _::_,_,h=>by cases h
theorem eJ:∀(ns:List Int),eV (ns.map PyData.int)=some ns
 |[]=>rfl
 |n::r=>by rw[N1];unfold eV;rw[eJ r];rfl
def iJ:List PyData->Option (List Bool)
 |[]=>some []
 |.bool i::r=>(iJ r).map (i::·)
 |_::_=>none
theorem oC:∀{ds:List PyData}{ns:List Bool},iJ ds=some ns->ds=ns.map PyData.bool
 |[],_,h=>by cases h;rfl
 |.bool i::r,ns,h=>by
  unfold iJ at h;cases q:iJ r with
  |none=>rw[q]at h;cases h
  |some l=>rw[q]at h;cases h;rw[oC q];rfl
 |.none::_,_,h=>by cases h
 |.int _::_,_,h=>by cases h
 |.str _::_,_,h=>by cases h
 |.list _::_,_,h=>by cases h
 |.tuple _::_,_,h=>by cases h
 |.dict _::_,_,h=>by cases h
theorem rh:∀(ns:List Bool),iJ (ns.map PyData.bool)=some ns
 |[]=>rfl
 |n::r=>by rw[N1];unfold iJ;rw[rh r];rfl
def yp:List PyData->Option PyData
 |[.list x]=>(eV x).map λns=>.int ns.sum
 |_=>none
def oN:List PyData->Option PyData
 |[.list x]=>(iJ x).map λns=>.bool (ns.all id)
 |_=>none
theorem Gi:FnD K yp (λxs H Q=>∃(a:Addr)(ns:List Int),xs=[.ref a]/\SqL K H a (ns.map V.int)/\Q (.int ns.sum) H):=λds d vs H A Q e hA h k=>by
 unfold yp at e;split at e
 ·rename_i x;cases q:eV x with
  |none=>rw[q]at e;cases e
  |some ns =>rw[q]at e;cases e;obtain⟨v,rfl,f⟩:=kI h;obtain⟨p,xs,rfl,b,c⟩:=f.ofLst;rw[ee q]at c;rw[c.ofInts]at b;exact⟨p,ns,rfl,SqL.of (ay _ _ b),k _ H (av.refl _) bF⟩
 ·cases e
theorem Gv:FnD K oN (λxs H Q=>∃(a:Addr)(ns:List Bool),xs=[.ref a]/\SqL K H a (ns.map V.bl)/\Q (.bl (ns.all id)) H):=λds d vs H A Q e hA h k=>by
 unfold oN at e;split at e
 ·rename_i x;cases q:iJ x with
  |none=>rw[q]at e;cases e
  |some ns =>rw[q]at e;cases e;obtain⟨v,rfl,f⟩:=kI h;obtain⟨p,xs,rfl,b,c⟩:=f.ofLst;rw[oC q]at c;rw[c.ofBools]at b;exact⟨p,ns,rfl,SqL.of (ay _ _ b),k _ H (av.refl _) is_bool⟩
 ·cases e
theorem Kf(hc:X.calm=true)(hm:X.mg "sum"=none)(ha:PAD X E (a::es) gs)(c:Gl X "sum")(e:starEach (a::es) X.env=(false,eval a X.env)::starEach es X.env)(b:(backTo pos (starEach es X.env)).any (·.1)=false) :
 PD X E (.Call (.Name "sum" p) (a::es) [] pos) (gF yp gs):=fY Gi ha λh=>fo (Fg hc) c hm JC h (by decide) (by decide) e b
theorem Li(hc:X.calm=true)(hm:X.mg "all"=none)(ha:PAD X E (a::es) gs)(c:Gl X "all")(e:starEach (a::es) X.env=(false,eval a X.env)::starEach es X.env)(b:(backTo pos (starEach es X.env)).any (·.1)=false) :
 PD X E (.Call (.Name "all" p) (a::es) [] pos) (gF oN gs):=fY Gv ha λh=>fo (Ez hc) c hm Ll h (by decide) (by decide) e b
def kN:List PyData->Option PyData
 |[.int i,.int j]=>some (.int (if j<i then j else i))
 |_=>none
def MD:List PyData->Option PyData
 |[.int i,.int j]=>some (.int (if j>i then j else i))
 |_=>none
theorem D9:FnD K kN (λxs H Q=>∃i j,xs=[.int i,.int j]/\Q (.int (if j<i then j else i)) H):=λds d vs H A Q e hA h k=>by
 unfold kN at e;split at e
 ·cases e;obtain⟨v,u,rfl,h1,h2⟩:=HQ h;rw[h1.ofInt,h2.ofInt];exact⟨_,_,rfl,k _ H (av.refl _) bF⟩
 ·cases e
theorem GI(hc:X.calm=true)(hm:X.mg "min"=none)(ha:PAD X E (a::es) gs)(c:Gl X "min")(e:starEach (a::es) X.env=(false,eval a X.env)::starEach es X.env)(b:(backTo pos (starEach es X.env)).any (·.1)=false) :
 PD X E (.Call (.Name "min" p) (a::es) [] pos) (gF kN gs):=fY D9 ha λh=>fo (CI hc) c hm Jm h (by decide) (by decide) e b
def BG:List PyData->Option PyData
 |[.int i]=>some (.int i)
 |[.bool k]=>some (.int (if k then 1 else 0))
 |_=>none
theorem HS:FnD K BG (λxs H Q=>(∃i,xs=[.int i]/\Q (.int i) H)\/∃k,xs=[.bl k]/\Q (.int (if k then 1 else 0)) H):=λds d vs H A Q e hA h k=>by
 unfold BG at e;split at e
 ·cases e;obtain⟨v,rfl,h1⟩:=kI h;rw[h1.ofInt];exact .inl ⟨_,rfl,k _ H (av.refl _) bF⟩
 ·cases e;obtain⟨v,rfl,h1⟩:=kI h;rw[h1.ofBool];exact .inr ⟨_,rfl,k _ H (av.refl _) bF⟩
 ·cases e
theorem Fm(hm:X.mg "int"=none)(ha:PAD X E (a::es) gs)(c:Gl X "int")(e:starEach (a::es) X.env=(false,eval a X.env)::starEach es X.env)(b:(backTo pos (starEach es X.env)).any (·.1)=false) :
 PD X E (.Call (.Name "int" p) (a::es) [] pos) (gF BG gs):=fY HS ha λh=>sA BC c hm Dx h (by decide) (by decide) e b
def eX:List PyData->Option PyData
 |[.list x]=>some (.tuple x)
 |[.tuple x]=>some (.tuple x)
 |_=>none
theorem B0:FnD K eX (λxs H Q=>∃p ys,xs=[.ref p]/\((SqL K H p ys/\∀l,H l=none->Q (.ref l) (upd H l (.tup ys)))\/(SqT K H p ys/\Q (.ref p) H))):=λds d vs H A Q e f h k=>by
 unfold eX at e;split at e
 ·cases e;obtain⟨v,rfl,b⟩:=kI h;obtain⟨p,xs,rfl,a,c⟩:=b.ofLst;exact⟨p,xs,rfl,.inl ⟨SqL.of (ay _ _ a),λl hl=>k _ _ (bE hl) (l5 f hl c)⟩⟩
 ·cases e;obtain⟨v,rfl,b⟩:=kI h;obtain⟨p,xs,rfl,a,c⟩:=b.ofTup;exact⟨p,xs,rfl,.inr ⟨SqT.of (ay _ _ a),k _ H (av.refl _) (iM a c)⟩⟩
 ·cases e
theorem yk(hm:X.mg "tuple"=none)(ha:PAD X E (a::es) gs)(c:Gl X "tuple")(e:starEach (a::es) X.env=(false,eval a X.env)::starEach es X.env)(b:(backTo pos (starEach es X.env)).any (·.1)=false) :
 PD X E (.Call (.Name "tuple" p) (a::es) [] pos) (gF eX gs):=fY B0 ha λh=>sA rX c hm v9 h (by decide) (by decide) e b
def uw(T:String)(d:PyData):Option PyData:=if aG d then some (.bool (vn d T)) else none
theorem Bv{T:Str}{b:String}{c:Pos}(hm:X.mg "isinstance"=none)(f:X.mg T=none)(q:bootBuiltins T=some (.type b))(r:b∈["bool", "int", "list", "tuple"])(ha:PD X E a ga)
  (s:Gl X "isinstance") (g:Gl X T) (hn:T≠"__name__") (i:(T==("__debug__":Str))=false) (n:starEach [a,.Name T c] X.env=(false,eval a X.env)::starEach [.Name T c] X.env)
  (j:starEach [.Name T c] X.env=(false,eval (.Name T c) X.env)::starEach [] X.env) (l:(backTo pos (starEach [.Name T c] X.env)).any (·.1)=false) :
  PD X E (.Call (.Name "isinstance" p) [a,.Name T c] [] pos) (g1 (uw b) ga):=by
 refine (fo xW s hm BD (eM ha (eM (HD (v:=.ty b) g f q rfl hn i) gw j) n) (by decide) (by decide) n l).imp λσ H Q m=>?_
 obtain⟨A,δ,R,o⟩:=m;refine g1.read (tt:=λQ x H1=>∃d v T,[x,V.ty b]=[v,.ty T]/\IsD X.K H1 d v/\T∈["bool", "int", "list", "tuple"]/\Q (.bl (vn d T)) H1) R o λd1 d x H' e _ _ h k=>?_
 unfold uw at e;split at e
 ·rename_i z;cases e;exact⟨d1,x,b,rfl,(h.same ay).isd z,r,k _ H' (av.refl _) is_bool⟩
 ·cases e
end
def BU(K:W.Frag)(J:It)(ds:List PyData)(G:Hp):Prop:=∀(H1:Hp)(B:List Addr),av G H1->Ls H1 B->(∀b∈B,G b=none) ->
 (∀i,i<ds.length->J.go i H1)/\J.stop ds.length H1/\∀i x H2,i<ds.length->J.yld i H1 x H2->av H1 H2/\∃d,ds[i]?=some d/\Is K (del H2 B) d x
def outI(K:W.Frag)(E:XK)(A:List Addr)(H:Hp)(r:Rs (List PyData))(R:It->Hp->Prop):Prop:=match r with
 |.ok ds=>∀J H',av H H'->BU K J ds (del H' A)->R J H'
 |.rz C=>∀H',av H H'->E (.ref C) none H'
 |.no=>False
def iD(K:W.Frag)(E:XK)(g:Ds->Rs (List PyData)):TI:=λσ H R=>∃A δ,dJ K H A δ σ/\outI K E A H (g δ) R
def PID(X:Cx)(E:XK)(tg iter:Expr)(g:Ds->Rs (List PyData)):Prop:=PI X tg iter (iD X.K E g)
theorem PI.imp{it:Expr}{t t':TI}(h:PI X tg it t)(k:∀σ H R,t' σ H R->t σ H R):PI X tg it t':=λpins s σ H R I q=>h pins s σ H R I (k σ H R q)
theorem PI.or{it:Expr}{t t':TI}(h:PI X tg it t)(h':PI X tg it t'):PI X tg it (λσ H R=>t σ H R\/t' σ H R):=λpins s σ H R I q=>q.elim (h pins s σ H R I) (h' pins s σ H R I)
section
variable {a:Expr}{ga:Ds->Rs PyData}
def Ab:PyData->Rs (List PyData)
 |.list ds=>.ok ds
 |.tuple ds=>.ok ds
 |_=>.no
theorem lP(s:av G H1)(hB:∀b∈B,G b=none):av G (del H1 B):=λb o e=>by rw[aN (λz=>by rw[hB b z]at e;cases e)];exact s b o e
theorem Cg{p:Addr}(b:G p=some (.lst xs))(h:Iss K G ds xs):BU K (Itl K p) ds G:=λH1 B s _ hB=>by have hl:=h.length;have a:SqL K H1 p xs:=SqL.of (s _ _ b);refine⟨λi hi=>⟨xs,xs[i]'(by omega),a,My _⟩,⟨xs,a,by omega⟩,λi x H2 hi y=>?_⟩;obtain⟨rfl,y⟩:=y;obtain⟨d,e,hd⟩:=h.get (y xs a);exact⟨av.refl _,d,e,hd.same (lP s hB)⟩
theorem EM{p:Addr}(b:G p=some (.tup xs))(h:Iss K G ds xs):BU K (Itt K p) ds G:=λH1 B s _ hB=>by have hl:=h.length;have a:SqT K H1 p xs:=SqT.of (s _ _ b);refine⟨λi hi=>⟨xs,xs[i]'(by omega),a,My _⟩,⟨xs,a,by omega⟩,λi x H2 hi y=>?_⟩;obtain⟨rfl,y⟩:=y;obtain⟨d,e,hd⟩:=h.get (y xs a);exact⟨av.refl _,d,e,hd.same (lP s hB)⟩
def bY(g:Ds->Rs PyData):Ds->Rs (List PyData):=λδ=>(g δ).bind Ab
theorem Ij(h:PD X E a ga):PID X E tg a (bY ga):=(PI.or (Gh h) (Kp h)).imp λσ H R c=>by
 obtain⟨A,δ,f,o⟩:=c;unfold bY at o;cases q:ga δ with
 |no=>rw[q]at o;exact o.elim
 |rz C=>rw[q]at o;exact .inl (eD.run f (λd e=>by rw[q]at e;cases e) (λj e H' s=>by rw[q]at e;cases e;exact o H' s) (λe=>by rw[q]at e;cases e))
 |ok d =>
  rw[q]at o;cases d with
  |list ds =>refine .inl (eD.run f (λd e v H1 g l h1=>?_) (λj e=>by rw[q]at e;cases e) (λe=>by rw[q]at e;cases e));rw[q]at e;cases e;obtain⟨p,xs,rfl,b,i⟩:=h1.ofLst;exact⟨p,rfl,⟨xs,SqL.of (ay _ _ b)⟩,o _ H1 g (Cg b i)⟩
  |tuple ds =>refine .inr (eD.run f (λd e v H1 g l h1=>?_) (λj e=>by rw[q]at e;cases e) (λe=>by rw[q]at e;cases e));rw[q]at e;cases e;obtain⟨p,xs,rfl,b,i⟩:=h1.ofTup;exact⟨p,rfl,⟨xs,SqT.of (ay _ _ b)⟩,o _ H1 g (EM b i)⟩
  |_=>exact o.elim
def bK(lo:Int)(n:Nat):List PyData:=(List.range n).map λ(i:Nat)=>PyData.int (lo+(i:Int))
theorem dG(lo:Int)(n:Nat):(bK lo n).length=n:=by simp[bK]
theorem yr{lo:Int}{n:Nat}:BU K (Itr lo n) (bK lo n) G:=λH1 B s _ hB=>by refine⟨λi hi=>by rw[dG]at hi;exact hi,by rw[dG];exact N6 _,λi x H2 hi y=>?_⟩;obtain⟨rfl,rfl⟩:=y;rw[dG]at hi;exact⟨av.refl _,_,by simp[bK,hi],bF⟩
def Im:List PyData->Rs (List PyData)
 |[.int j]=>if -(2 ^ 62)<=j/\j<2 ^ 62 then .ok (bK 0 j.toNat) else .no
 |_=>.no
def LV:List PyData->Rs (List PyData)
 |[.int i,.int j]=>if -(2 ^ 62)<=i/\i<2 ^ 62/\-(2 ^ 62)<=j/\j<2 ^ 62 then .ok (bK i (j-i).toNat) else .no
 |_=>.no
def fG(g:Ds->Rs (List PyData)):Ds->Rs (List PyData):=λδ=>(g δ).bind Im
def Mx(g:Ds->Rs (List PyData)):Ds->Rs (List PyData):=λδ=>(g δ).bind LV
theorem zQ{f:List PyData->Rs (List PyData)}{R:It->Hp->Prop}{t:List V->Hp->Prop}(b:dJ K H A δ σ)(o:outI K E A H ((gs δ).bind f) R)
  (k:∀ds vs H1,gs δ=.ok ds->av H H1->dJ K H1 A δ σ->Iss K (del H1 A) ds vs->outI K E A H1 (f ds) R->t vs H1):aD K E gs σ H t:=by
 refine aD.run b (λd e v H1 a c h1=>?_) (λC e H' s'=>?_) (λe=>?_)
 ·rw[e]at o;refine k d v H1 e a c h1 ?_;have o:outI K E A H (f d) R:=o;cases q:f d with
  |ok ds=>rw[q]at o;exact λJ H' s j=>o J H' (a.trans s) j
  |rz C=>rw[q]at o;exact λH' s=>o H' (a.trans s)
  |no=>rw[q]at o;exact o
 ·rw[e]at o;exact o H' s'
 ·rw[e]at o;exact o
theorem zU(hm:X.mg "range"=none)(ha:PAD X E [a] gs)(b:Gl X "range")(c:starEach [a] X.env=[(false,eval a X.env)]) :
  PID X E tg (.Call (.Name "range" p) [a] [] pos) (fG gs):=(Bs b hm ha.1 c).imp λσ H R ⟨A,δ,Rp,o⟩=>zQ Rp o λds vs H1 e s1 R1 h1 o=>by
 unfold Im at o;split at o
 ·split at o
  ·rename_i z;obtain⟨v,rfl,h⟩:=kI h1;rw[h.ofInt];exact⟨_,rfl,z.1,z.2,o _ H1 (av.refl _) yr⟩
  ·exact o.elim
 ·exact o.elim
def TgD(K:W.Frag)(n0 n:Nat)(tgt:PyData->Option Ds)(g:TG):Prop:=∀(d:PyData)(v:V)(σ a:St)(H:Hp)(A:List Addr)(Q:St->Hp->Prop)(own:Ds),σ.length=n0->a.length=n->Ls H A->Is K (del H A) d v->tgt d=some own ->
 own.length=n/\((∀vs:St,vs.length=n->(∀(i:Nat) e,own[i]?=some (some e)->∃u,vs[i]?=some (some u)/\Is K (del H A) e u)->Q (σ++vs) H)->g v (σ++a) H Q)
def aS:PyData->Option Ds:=λd=>some [some d]
theorem Ey:TgD K n0 1 aS (j7 n0):=λd v σ a H A Q own h1 h2 hA hd e=>by
 cases e;refine⟨rfl,λk=>?_⟩;unfold j7;subst h1;rw[set_own σ none v a h2];refine k _ rfl λi e z=>?_
 match i,z with
 |0,z=>cases z;exact⟨v,rfl,hd⟩
def eO:PyData->Option Ds
 |.tuple [x,y]=>some [some x,some y]
 |_=>none
theorem xt:TgD K n0 2 eO (L2.Jw K 2 (L2.A3 (j7 n0) (L2.A3 (j7 (n0+1)) L2.Lb))):=λd v σ a H A Q own h1 h2 hA hd e=>by
 unfold eO at e;split at e
 ·rename_i x y;cases e;refine⟨rfl,λk=>?_⟩;obtain⟨p,xs,rfl,b,c⟩:=hd.ofTup;obtain⟨u,w,rfl,f,hw⟩:=HQ c;subst h1;refine⟨p,_,rfl,SqT.of (ay _ _ b),rfl,u,[w],rfl,w,[],rfl,rfl,?_⟩
  match a,h2 with
  |[s1,s2],_ =>
   have:((σ++[s1,s2]).set σ.length (some u)).set (σ.length+1) (some w)=σ++[some u,some w]:=by rw[Px _ _ (N6 _),Px _ _ (by omega)];simp
   rw[this];refine k _ rfl λi e z=>?_
   match i,z with
   |0,z=>cases z;exact⟨u,rfl,f⟩
   |1,z=>cases z;exact⟨w,rfl,hw⟩
 ·cases e
def eR(cond:Ds->Rs Bool)(elt:Ds->Rs PyData)(tgt:PyData->Option Ds)(δ:Ds):List PyData->Rs (List PyData)
 |[]=>.ok []
 |d::r=>match tgt d with
  |none=>.no
  |some own=>(cond (δ++own)).calm.bind λb=>if b=true then (elt (δ++own)).calm.bind λx=>(eR cond elt tgt δ r).bind λxs=>.ok (x::xs) else eR cond elt tgt δ r
def ba(n0:Nat)(src:Ds->Rs (List PyData))(cond:Ds->Rs Bool)(elt:Ds->Rs PyData)(tgt:PyData->Option Ds):Ds->Rs (List PyData):=λδ=>if δ.length=n0 then (src δ).bind λds=>if ds.length<=1000000 then eR cond elt tgt δ ds else .no else .no
def bo:Ds->Rs Bool:=λ_=>.ok true
def Iy(K:W.Frag)(E:XK)(A:List Addr)(H:Hp)(r:Rs (List PyData))(Q:VK):Prop:=match r with
 |.ok ds=>∀a xs H',H a=none->av H H'->H' a=some (.lst xs)->Iss K (del H' (a::A)) ds xs->Q (.ref a) H'
 |.rz C=>∀H',av H H'->E (.ref C) none H'
 |.no=>False
def lD(K:W.Frag)(E:XK)(g:Ds->Rs (List PyData)):TE:=λσ H Q=>∃A δ,dJ K H A δ σ/\Iy K E A H (g δ) Q
def PLD(X:Cx)(E:XK)(e:Expr)(g:Ds->Rs (List PyData)):Prop:=PE X e (lD X.K E g)
def gL(g:Ds->Rs (List PyData)):Ds->Rs PyData:=λδ=>(g δ).bind λds=>.ok (.list ds)
theorem m9{a:Addr}:av (del H (a::A)) (del H A):=λb o e=>by obtain⟨z,e⟩:=bc e;rw[aN (λq=>z (N0 _ q))];exact e
theorem K6{g:Ds->Rs (List PyData)}(h:PLD X E e g):PD X E e (gL g):=PE.imp h λσ H Q ⟨A,δ,R,o⟩=>⟨A,δ,R,by
 unfold gL at o;cases q:g δ with
 |no=>rw[q]at o;exact o
 |rz C=>rw[q]at o;exact o
 |ok ds =>rw[q]at o;intro a xs H' hn s hl hi;exact o _ H' s (jT (by rw[aN (R.ls.new hn)];exact hl) (hi.same m9))⟩
theorem Gy(h:PAD X E es gs)(hl:es.length<=1000):PLD X E (.List es pos) gs:=(zG h.1).imp λσ H Q a=>by
 obtain⟨A,δ,R,o⟩:=a;refine aD.run R (λds e vs H1 f R1 h1=>?_) (λC e H' s'=>by rw[e]at o;exact o H' s') (λe=>by rw[e]at o;exact o);rw[e]at o;have n:=h.2 δ ds e;have m:=h1.length;refine⟨by rw[sizeLine_eq];omega,λp c=>o p vs _ (f.free c) (f.trans (bE c)) aE (h1.same ?_)⟩;refine λb o e=>?_
 obtain⟨z,e⟩:=bc e;have:b≠p:=aI e c;rw[aN (by simp[this,z]),az this];exact e
theorem DT{X:Ds->Rs (List PyData)}{tt:TT}(hT:TgD K n0 own.length tgt g)(Y:∀σ H Q,cD K E0 cond σ H Q->tt σ H Q) :
  ∀σ H Q,lD K E (ba n0 X cond ge tgt) σ H Q->tLC own.length (iD K E X) g tt (eD K E0 ge) σ H Q:=by
 intro σ H Q ⟨A,δ,R,o⟩;unfold ba at o;by_cases hn0:δ.length=n0
 case neg=>rw[if_neg hn0]at o;exact o.elim
 rw[if_pos hn0]at o;have Z:σ.length=n0:=by rw[<-R.len];exact hn0
 refine⟨A,δ,R,?_⟩;cases q:X δ with
 |no=>rw[q]at o;exact o
 |rz C=>rw[q]at o;exact o
 |ok ds =>
  rw[q]at o;have o:Iy K E A H (if ds.length<=1000000 then eR cond ge tgt δ ds else .no) Q:=o;by_cases hz:ds.length<=1000000
  case neg=>rw[if_neg hz]at o;exact o.elim
  rw[if_pos hz]at o;intro J H1 s1 hJ D s;have T:=R.same s1;have nD:D∉A:=T.ls.new s;cases qo:eR cond ge tgt δ ds with
  |rz C =>
   exfalso;have:∀l,eR cond ge tgt δ l≠.rz C:=by
    intro l
    induction l with
    |nil=>intro z;cases z
    |cons d r ih =>
     intro z;unfold eR at z;split at z
     ·cases z
     ·rename_i h _;cases a:cond (δ++h) with
      |ok b =>
       simp only[a,Rs.dj,Rs.ag]at z;split at z
       ·cases j:ge (δ++h) with
        |ok x =>
         simp only[j,Rs.dj,Rs.ag]at z;cases n:eR cond ge tgt δ r with
         |ok l=>simp only[n,Rs.ag]at z;cases z
         |rz C'=>simp only[n,Rs.dZ]at z;cases z;exact ih n
         |no=>simp only[n,Rs.bw]at z;cases z
        |rz C'=>simp only[j,Rs.calm,Rs.bw]at z;cases z
        |no=>simp only[j,Rs.calm,Rs.bw]at z;cases z
       ·exact ih z
      |rz C'=>simp only[a,Rs.calm,Rs.bw]at z;cases z
      |no=>simp only[a,Rs.calm,Rs.bw]at z;cases z
   exact this ds qo
  |no=>rw[qo]at o;exact o.elim
  |ok out =>
   rw[qo]at o;have base:av (del H1 A) (del (upd H1 D (.lst [])) (D::A)):=λb o e=>by obtain⟨z,e⟩:=bc e;have nb:b≠D:=aI e s;rw[aN (by simp[nb,z]),az nb];exact e
   refine⟨λi m ys H'=>m=ds.length-i/\i<=ds.length/\av H1 H'/\H' D=some (.lst ys)/\ys.length<=i/\∃F rest,eR cond ge tgt δ (ds.drop i)=.ok rest/\out=F++rest/\Iss K (del H' (D::A)) F ys,
    ⟨ds.length,by simp,Oc _,bE s,aE,N6 _,[],out,qo,rfl,cX⟩,?_⟩
   rintro i m ys H' ⟨rfl,hi,w,hl,hy,F,rest,a,j,n⟩
   refine⟨hl,?_⟩;have sG:av (del H1 A) H':=ay.trans w;have G:∀b∈D::A,(del H1 A) b=none:=λb I=>by
    rcases N5.mp I with z|z
    ·rw[z,aN nD];exact s
    ·exact ib z
   obtain⟨jg,js,jy⟩:=hJ H' (D::A) sG (λb I=>by
    rcases N5.mp I with z|z
    ·exact⟨_,by rw[z];exact hl,rfl⟩
    ·exact (T.ls.same w) b z) G
   by_cases hlt:i<ds.length
   ·refine .inr ⟨jg i hlt,λx H2 σ' L y=>?_⟩;obtain⟨s2,d,ed,hd⟩:=jy i x H2 hlt y;have edr:ds.drop i=d::ds.drop (i+1):=by
     rw[OQ hlt];have:ds[i]=d:=by have:=My hlt;rw[this]at ed;exact Option.some.inj ed
     rw[this]
    rw[edr]at a;unfold eR at a;cases et:tgt d with
    |none=>rw[et]at a;cases a
    |some ow =>
     rw[et]at a;have l2:H2 D=some (.lst ys):=s2 _ _ hl;have M:Ls H2 (D::A):=λb I=>by
      rcases N5.mp I with z|z
      ·exact⟨_,by rw[z];exact l2,rfl⟩
      ·exact (T.ls.same (w.trans s2)) b z
     obtain⟨hol,hgo⟩:=hT d x σ σ' H2 (D::A) (λf H2=>tt f H2 λb H3 =>
      if b=true then eD K E0 ge f H3 λv N=>N D=some (.lst ys)/\ys.length<sizeLine/\(∃c,f=σ++c/\c.length=own.length)/\∃m',m' < ds.length-i/\_
      else (∃c,f=σ++c/\c.length=own.length)/\∃m',m' < ds.length-i/\_) ow Z L M hd et
     refine hgo λvs p O=>?_
     have P:av (del H1 A) (del H2 (D::A)):=lP (sG.trans s2) G;have RE:dJ K H2 (D::A) (δ++ow) (σ++vs):=by
      refine⟨M,by rw[NC,NC,R.len,p,hol],λk e U=>?_⟩;by_cases hk:k<δ.length
      ·rw[NP hk]at U;obtain⟨u,e1,hu⟩:=T.get k e U;exact⟨u,by rw[NP (by rw[<-R.len];exact hk)];exact e1,hu.same P⟩
      ·rw[NT (by omega)]at U;obtain⟨u,e1,hu⟩:=O _ e U;exact⟨u,by rw[NT (by rw[<-R.len];omega),<-R.len];exact e1,hu⟩
     have bad:∀r:Rs Bool,r=.rz 0->r.calm=.no:=λr e=>by rw[e];rfl
     refine Y _ _ _ (cD.run RE (λb S H3 B R3=>?_) (λC S=>?_) (λS=>?_))
     ·simp only[S,Rs.dj,Rs.ag]at a;cases b with
      |true =>
       simp only[if_true]at a;refine eD.run R3 (λxd ex v N s4 R4 hv=>?_) (λC ex=>?_) (λex=>?_)
       ·simp only[ex,Rs.dj,Rs.ag]at a;cases cr:eR cond ge tgt δ (ds.drop (i+1)) with
        |ok rs =>
         simp only[cr,Rs.ag]at a;cases a;have l4:N D=some (.lst ys):=s4 _ _ (B _ _ l2);have dU:del (upd N D (.lst (ys++[v]))) (D::A)=del N (D::A):=kE (N3);refine⟨l4,by rw[sizeLine_eq];omega,⟨vs,rfl,p⟩,ds.length-(i+1),by omega,rfl,hlt,?_,aE,by simp;omega,F++[xd],rs,cr,by rw[j];simp,?_⟩
         ·exact av.put (((w.trans s2).trans B).trans s4) s
         ·rw[dU];exact (n.same (av.del (s2.trans (B.trans s4)))).append (jk hv)
        |rz C=>simp only[cr,Rs.dZ]at a;cases a
        |no=>simp only[cr,Rs.bw]at a;cases a
       ·simp only[ex,Rs.calm,Rs.bw]at a;cases a
       ·simp only[ex,Rs.calm,Rs.bw]at a;cases a
      |false =>simp only[NS,if_false]at a;exact⟨⟨vs,rfl,p⟩,ds.length-(i+1),by omega,rfl,hlt,(w.trans s2).trans B,B _ _ l2,by omega,F,rest,a,j,n.same (av.del (s2.trans B))⟩
     ·simp only[S,Rs.calm,Rs.bw]at a;cases a
     ·simp only[S,Rs.calm,Rs.bw]at a;cases a
   ·have e:i=ds.length:=by omega
    subst e;rw[PY]at a;cases a;rw[Ob]at j;subst j;exact .inl ⟨js,o D ys H' (s1.free s) (s1.trans w) hl n⟩
def fR:Expr->List Str
 |.Name x _=>[x]
 |.Tuple [.Name x _,.Name y _] _ _=>[x,y]
 |_=>[]
def IC(own N:List Str):List Str:=N.map λx=>bif own.elem x then x++"__" else x
abbrev bk(X:Cx)(tg:Expr)(scope:Scope):=blk X (IC (fR tg) X.N) scope (fR tg)
abbrev Kl(X:Cx)(tg:Expr)(scope:Scope):Bool:=sX X.N (IC (fR tg) X.N) X.env.scope scope (fR tg)
inductive PIf (X:Cx):List Expr->(Ds->Rs Bool)->Prop
 |nil:PIf X [] bo
 |one {c:Expr} {g:Ds->Rs Bool} (h:PCD X E0 c g):PIf X [c] g
def Mm(K:W.Frag)(ifs:List Expr)(g:Ds->Rs Bool):TT:=match ifs with
 |[]=>wo
 |_=>cD K E0 g
theorem PIf.pts{g:Ds->Rs Bool}(h:PIf X ifs g):PTs X ifs (Mm X.K ifs g):=by
 cases h with
 |nil=>exact .nil
 |one h=>exact .one h
theorem PIf.tt{g:Ds->Rs Bool}(h:PIf X ifs g):∀σ H Q,cD K E0 g σ H Q->Mm K ifs g σ H Q:=by
 cases h with
 |nil=>exact λσ H Q a=>(by obtain⟨A,δ,R,o⟩:=a;exact o H (av.refl _))
 |one h=>exact λ_ _ _ h=>h
theorem Dy{a:Ds->Rs (List PyData)}(hc:X.calm=true)(hi:PID X E tg iter a)
  (c:TgD X.K n0 (fR tg).length tgt g) (e:∀C s2 H2 fp,PG (bk X tg scope C s2 H2 fp) tg g) (b:∀C s2 H2 fp,PIf (bk X tg scope C s2 H2 fp) ifs cond) (f:∀C s2 H2 fp,PD (bk X tg scope C s2 H2 fp) E0 elt ge)
  (hB:Kl X tg scope=true) (h:∀x,foldedSetIterable iter X.env x=pure x):PLD X E (.ListComp elt [⟨tg,iter,ifs,0⟩] scope pos) (ba n0 a cond ge tgt) :=
 (DY (own:=fR tg) (te:=eD X.K E0 ge) hc hi e (λC s2 H2 fp=>(b C s2 H2 fp).pts) (λC s2 H2 fp=>f C s2 H2 fp) hB h).imp (DT c (PIf.tt (b 0 X.s₀ X.H₀ [])))
def PLS(X:Cx)(E:XK)(i:Nat)(st:Stmt)(a:Ds->Rs (List PyData)):Prop:=PS X st (Ej (lD X.K E a) (j7 i))
theorem Dq{c:Ds->Rs (List PyData)}(a:swapsWith (.ListComp elt [⟨tg,iter,ifs,0⟩] scope pos) (some (.Name x pos')) spos.line X.env=pure true)(hc:X.calm=true)(f:X.N.Nodup)(hi:PID X E tg iter c)
  (j:TgD X.K n0 (fR tg).length tgt g) (l:∀C s2 H2 fp,PG (bk X tg scope C s2 H2 fp) tg g) (e:∀C s2 H2 fp,PIf (bk X tg scope C s2 H2 fp) ifs cond) (m:∀C s2 H2 fp,PD (bk X tg scope C s2 H2 fp) E0 elt ge)
  (b:X.N[i]?=some x) (n:Loc X.env.scope x) (hB:Kl X tg scope=true) (o:∀x,foldedSetIterable iter X.env x=pure x) (p:X.fn x=true\/X.env.scope.names.lookup x=some .local) :
  PLS X E i (.Assign [.Name x pos'] (.ListComp elt [⟨tg,iter,ifs,0⟩] scope pos) spos) (ba n0 c cond ge tgt) :=
 PS.imp (qG (own:=fR tg) (te:=eD X.K E0 ge) hc f b n a hi l (λC s2 H2 fp=>(e C s2 H2 fp).pts) (λC s2 H2 fp=>m C s2 H2 fp) hB o p) λD σ H h=>DT j (PIf.tt (e 0 X.s₀ X.H₀ [])) σ H _ h
end
inductive Sr where
 |nx (δ:Ds)
 |rt (d:PyData)
 |rz (C:Addr)
 |bk (δ:Ds)
 |ct (δ:Ds)
 |no
def iy(K:W.Frag)(G:Hp):PyData->HO->Prop
 |.list ds,.lst xs=>Iss K G ds xs
 |.dict kvs,o=>HE kvs o
 |_,_=>False
theorem iy.same{G':Hp}{d:PyData}(h:iy K G d o)(s:av G G'):iy K G' d o:=by
 unfold iy at h ⊢;split at h
 ·exact Iss.same s h
 ·exact h
 ·exact h.elim
theorem iy.is{d:PyData}(h:iy K G d o)(ha:G a=some o):Is K G d (.ref a):=by
 unfold iy at h;split at h
 ·exact jT ha h
 ·unfold Is;exact .inl (.inr ⟨a,_,rfl,h,ha⟩)
 ·exact h.elim
theorem iy.lst(h:iy K G (.list ds) o):∃xs,o=.lst xs/\Iss K G ds xs:=by
 unfold iy at h;split at h
 ·rename_i e;cases e;exact⟨_,rfl,h⟩
 ·rename_i e;cases e
 ·exact h.elim
structure bR(K:W.Frag)(H0:Hp)(A0:List Addr)(H:Hp)(A:List Addr)(O:List Nat)(δ:Ds)(σ:St):Prop where
 same:av H0 H
 ls0:Ls H0 A0
 new:∀a∈A,H0 a=none
 ls:Ls H A
 len:δ.length=σ.length
 pl:∀(i:Nat) d,i∉O->δ[i]?=some (some d)->∃v,σ[i]?=some (some v)/\Is K (del H (A++A0)) d v
 own:∀(i:Nat) d,i∈O->δ[i]?=some (some d)->∃a o d',σ[i]?=some (some (.ref a))/\a∈A/\H a=some o/\d=d'/\iy K (del H (A++A0)) d' o
 inj:∀(i j:Nat) d e a,i∈O->j∈O->δ[i]?=some (some d)->δ[j]?=some (some e)->σ[i]?=some (some (.ref a))->σ[j]?=some (some (.ref a))->i=j
def mask(O:List Nat)(δ:Ds):Ds:=if O=[] then δ else δ.mapIdx λi d=>if i∈O then none else d
theorem ej(δ:Ds):mask [] δ=δ:=by simp[mask]
theorem Fd{d:PyData}(h:(mask O δ)[i]?=some (some d)):i∉O/\δ[i]?=some (some d):=by
 unfold mask at h;split at h
 ·rename_i z;subst z;exact⟨by simp,h⟩
 ·rw[OC]at h;cases q:δ[i]? with
  |none=>rw[q]at h;cases h
  |some x =>
   rw[q]at h;simp only[OG,Option.some.injEq]at h;by_cases z:i∈O
   ·rw[if_pos z]at h;cases h
   ·rw[if_neg z]at h;exact⟨z,by rw[h]⟩
theorem wG:(mask O δ).length=δ.length:=by unfold mask;split <;> simp
theorem wI:av (del H (A++B)) (del H B):=λb o e=>by obtain⟨z,e⟩:=bc e;rw[aN (λq=>z (N8 _ q))];exact e
section
theorem bR.lsA(R:bR K H0 A0 H A O δ σ):Ls H (A++A0):=λa h=>(NY.mp h).elim (R.ls a) λz=>(R.ls0.same R.same) a z
theorem bR.step(R:bR K H0 A0 H A O δ σ)(s:av H H1):bR K H0 A0 H1 A O δ σ where
 same:=R.same.trans s
 ls0:=R.ls0
 new:=R.new
 ls:=R.ls.same s
 len:=R.len
 pl:=λi d h e=>by obtain⟨v,e1,h1⟩:=R.pl i d h e;exact⟨v,e1,h1.same s.del⟩
 own:=λi d h e=>by obtain⟨a,xs,ds,e1,h1,h2,b,c⟩:=R.own i d h e;exact⟨a,xs,ds,e1,h1,s _ _ h2,b,c.same s.del⟩
 inj:=R.inj
theorem bR.apart(R:bR K H0 A0 H A O δ σ)(h:a∈A):a∉A0:=λz=>by obtain⟨xs,e,_⟩:=R.ls0 a z;rw[R.new a h]at e;cases e
theorem bR.ownL(R:bR K H0 A0 H A O δ σ)(h:i∈O)(e:δ[i]?=some (some (.list ds))):∃a xs b,σ[i]?=some (some (.ref a))/\a∈A/\H a=some (.lst xs)/\PyData.list ds=.list b/\Iss K (del H (A++A0)) b xs:=by obtain⟨a,o,d',e1,h1,h2,c,f⟩:=R.own i _ h e;subst c;obtain⟨xs,rfl,g⟩:=f.lst;exact⟨a,xs,ds,e1,h1,h2,rfl,g⟩
theorem bR.full(R:bR K H0 A0 H A O δ σ):dJ K H A0 δ σ where
 ls:=R.ls0.same R.same
 len:=R.len
 get:=λi d e=>by
  by_cases h:i∈O
  ·obtain⟨a,xs,ds,e1,h1,h2,b,c⟩:=R.own i d h e;subst b;exact⟨_,e1,(c.same wI).is (by rw[aN (R.apart h1)];exact h2)⟩
  ·obtain⟨v,e1,h1⟩:=R.pl i d h e;exact⟨v,e1,h1.same wI⟩
theorem bR.part(R:bR K H0 A0 H A O δ σ):dJ K H (A++A0) (mask O δ) σ where
 ls:=R.lsA
 len:=by rw[wG];exact R.len
 get:=λi d e=>by obtain⟨h,e⟩:=Fd e;exact R.pl i d h e
theorem get_set{l:List α}{x y:α}(h:(l.set i x)[j]?=some y):(i=j/\y=x)\/(i≠j/\l[j]?=some y):=by
 by_cases z:i=j
 ·subst z;rw[List.getElem?_set_self']at h;cases q:l[i]? with
  |none=>rw[q]at h;cases h
  |some w=>rw[q]at h;simp at h;exact .inl ⟨rfl,h.symm⟩
 ·rw[NX z]at h;exact .inr ⟨z,h⟩
theorem kD{l:List α}{x y:α}(hn:i≠j)(h:l[j]?=some y):(l.set i x)[j]?=some y:=by rw[NX hn];exact h
theorem bR.set{d:PyData}(R:bR K H0 A0 H A O δ σ)(hi:i∉O)(hl:i<δ.length)(h:Is K (del H (A++A0)) d v):bR K H0 A0 H A O (δ.set i (some d)) (σ.set i (some v)) where
 same:=R.same
 ls0:=R.ls0
 new:=R.new
 ls:=R.ls
 len:=by simp[R.len]
 pl:=λj e b q=>by
  rcases get_set q with⟨z,q⟩|⟨z,q⟩
  ·cases q;subst z;exact⟨v,by rw[O8 (by rw[<-R.len];exact hl)],h⟩
  ·obtain⟨u,e1,h1⟩:=R.pl j e b q;exact⟨u,kD z e1,h1⟩
 own:=λj e b q=>by
  rcases get_set q with⟨z,q⟩|⟨z,q⟩
  ·subst z;exact absurd b hi
  ·obtain⟨a,xs,ds,e1,h1⟩:=R.own j e b q;exact⟨a,xs,ds,kD z e1,h1⟩
 inj:=λj k d' e a b c f g p1 p2=>by
  have n1:i≠j:=λz=>hi (z▸b)
  have n2:i≠k:=λz=>hi (z▸c)
  rw[NX n1]at f p1;rw[NX n2]at g p2;exact R.inj j k d' e a b c f g p1 p2
theorem bR.setOwn(R:bR K H0 A0 H A O δ σ)(hi:i∈O)(hl:i<δ.length)(hn:H a=none)(s:av H H1)(ha:H1 a=some (.lst xs))(h:Iss K (del H1 (a::(A++A0))) ds xs) :
  bR K H0 A0 H1 (a::A) O (δ.set i (some (.list ds))) (σ.set i (some (.ref a))) where
 same:=R.same.trans s
 ls0:=R.ls0
 new:=λb m=>by
  rcases N5.mp m with z|z
  ·rw[z];exact R.same.free hn
  ·exact R.new b z
 ls:=λb m=>by
  rcases N5.mp m with z|z
  ·exact⟨_,by rw[z];exact ha,rfl⟩
  ·exact (R.ls.same s) b z
 len:=by simp[R.len]
 pl:=λj e c q=>by
  rcases get_set q with⟨z,q⟩|⟨z,q⟩
  ·subst z;exact absurd hi c
  ·obtain⟨u,e1,h1⟩:=R.pl j e c q;refine⟨u,kD z e1,h1.same λb o e=>?_⟩;obtain⟨y,e⟩:=bc e;have n:b≠a:=aI e hn;rw[aN (by simpa[n] using y)];exact s _ _ e
 own:=λj e c q=>by
  have r:∀b o,del H (A++A0) b=some o->del H1 (a::A++A0) b=some o:=λb o e=>by obtain⟨y,e⟩:=bc e;have n:b≠a:=aI e hn;rw[aN (by simpa[n] using y)];exact s _ _ e
  rcases get_set q with⟨z,q⟩|⟨z,q⟩
  ·cases q;subst z;exact⟨a,_,_,by rw[O8 (by rw[<-R.len];exact hl)],N3,ha,rfl,h⟩
  ·obtain⟨b,ys,es,e1,h1,h2,v,w⟩:=R.own j e c q;exact⟨b,ys,es,kD z e1,N0 _ h1,s _ _ h2,v,w.same r⟩
 inj:=λj k d' e b c f g l p1 p2=>by
  have old:∀k,k∈O->i≠k->∀e,δ[k]?=some (some e)->σ[k]?=some (some (.ref a))->False:=λk f _ e q p=>by obtain⟨b,ys,es,e1,h1,h2,_⟩:=R.own k e f q;rw[p]at e1;cases e1;rw[hn]at h2;cases h2
  by_cases z1:i=j
  ·by_cases z2:i=k
   ·rw[<-z1,z2]
   ·subst z1;rw[O8 (by rw[<-R.len];exact hl)]at p1;cases p1;rw[NX z2]at l p2;exact (old k f z2 e l p2).elim
  ·by_cases z2:i=k
   ·subst z2;rw[O8 (by rw[<-R.len];exact hl)]at p2;cases p2;rw[NX z1]at g p1;exact (old j c z1 d' g p1).elim
   ·rw[NX z1]at g p1;rw[NX z2]at l p2;exact R.inj j k d' e b c f g l p1 p2
theorem bR.put{l:PyData}(R:bR K H0 A0 H A O δ σ)(hi:i∈O)(hd:δ[i]?=some (some l))(p:σ[i]?=some (some (.ref a)))(ha:a∈A)(h:Iss K (del H (A++A0)) ds ys) :
  bR K H0 A0 (upd H a (.lst ys)) A O (δ.set i (some (.list ds))) σ:=by
 have m:del (upd H a (.lst ys)) (A++A0)=del H (A++A0):=kE (O4 _ ha);have hl:i<δ.length:=(NR.mp hd).1;refine⟨λb o e=>?_,R.ls0,R.new,λb s=>?_,by simp[R.len],λj e c q=>?_,λj e c q=>?_,λj k d' e b c r f g p1 p2=>?_⟩
 ·have n:b≠a:=λz=>by rw[z,R.new a ha]at e;cases e
  rw[az n];exact R.same b o e
 ·by_cases z:b=a
  ·exact⟨_,by rw[z,aE],rfl⟩
  ·rw[az z];exact R.ls b s
 ·rcases get_set q with⟨z,q⟩|⟨z,q⟩
  ·subst z;exact absurd hi c
  ·rw[m];exact R.pl j e c q
 ·rcases get_set q with⟨z,q⟩|⟨z,q⟩
  ·cases q;subst z;exact⟨a,_,_,p,ha,aE,rfl,by rw[m];exact h⟩
  ·obtain⟨b,zs,es,e1,h1,h2,u,v⟩:=R.own j e c q;have n:b≠a:=λw=>z (R.inj i j _ _ a hi c hd q p (by rw[<-w];exact e1))
   exact⟨b,zs,es,e1,h1,by rw[az n];exact h2,u,by rw[m];exact v⟩
 ·rcases get_set f with⟨z1,f⟩|⟨z1,f⟩ <;> rcases get_set g with⟨z2,g⟩|⟨z2,g⟩
  ·rw[<-z1,z2]
  ·subst z1;exact R.inj i k l e b hi r hd g p1 p2
  ·subst z2;exact R.inj j i d' l b c hi f hd p1 p2
  ·exact R.inj j k d' e b c r f g p1 p2
def un(H0 G:Hp):Hp:=λb=>match H0 b with|some o=>some o|none=>G b
theorem EN:av H0 (un H0 G):=λb o e=>by unfold un;rw[e]
theorem M5(a:av H0 H)(c:av G H):av G (un H0 G):=λb o e=>by
 unfold un;cases q:H0 b with
 |none=>exact e
 |some o2=>have h2:=a b o2 q;rw[c b o e]at h2;exact h2.symm
theorem Md(a:av H0 H)(c:av G H):av (un H0 G) H:=λb o e=>by
 unfold un at e;cases q:H0 b with
 |none=>rw[q]at e;exact c b o e
 |some o2=>rw[q]at e;rw[<-Option.some.inj e];exact a b o2 q
theorem bR.more(R:bR K H0 A0 H A O δ σ):bR K (un H0 (del H (A++A0))) A0 H A O δ σ :=
 ⟨Md R.same ay,R.ls0.same EN,λa h=>by unfold un;rw[R.new a h];exact ib (O4 _ h),R.ls,R.len,R.pl,R.own,R.inj⟩
theorem bR.less{b:Hp}(R:bR K b A0 H A O δ σ)(s:av H0 b)(l:Ls H0 A0):bR K H0 A0 H A O δ σ:=⟨s.trans R.same,l,λa h=>s.free (R.new a h),R.ls,R.len,R.pl,R.own,R.inj⟩
end
def oG(K:W.Frag)(E:XK)(H0:Hp)(A0:List Addr)(O:List Nat)(r:Sr)(D:Ends):Prop:=match r with
 |.nx δ=>∀A σ H,bR K H0 A0 H A O δ σ->D.nx σ H
 |.rt d=>∀v H,av H0 H->Is K (del H A0) d v->D.rt v H
 |.rz C=>∀H,av H0 H->E (.ref C) none H
 |.bk δ=>∀A σ H,bR K H0 A0 H A O δ σ->D.bk σ H
 |.ct δ=>∀A σ H,bR K H0 A0 H A O δ σ->D.ct σ H
 |.no=>False
def sD(K:W.Frag)(E:XK)(O:List Nat)(G:Ds->Sr):TS:=λD σ H=>∃H0 A0 A δ,bR K H0 A0 H A O δ σ/\oG K E H0 A0 O (G δ) D
def PSD(X:Cx)(E:XK)(O:List Nat)(s:Stmt)(G:Ds->Sr):Prop:=PS X s (sD X.K E O G)
def PBD(X:Cx)(E:XK)(O:List Nat)(ss:List Stmt)(G:Ds->Sr):Prop:=PSs X ss (sD X.K E O G)
def bj:Ds->Sr:=λδ=>.nx δ
def aJ(a b:Ds->Sr):Ds->Sr:=λδ=>match a δ with
 |.nx δ'=>b δ'
 |r=>r
def ofR{α:Type}(r:Rs α)(k:α->Sr):Sr:=match r with
 |.ok a=>k a
 |.rz C=>.rz C
 |.no=>.no
@[simp]theorem ax(a:α)(k:α->Sr):ofR (.ok a) k=k a:=rfl
@[simp]theorem jQ(C:Addr)(k:α->Sr):ofR (.rz C) k=.rz C:=rfl
@[simp]theorem kj(k:α->Sr):ofR (.no:Rs α) k=.no:=rfl
def sIf(c:Ds->Rs Bool)(a b:Ds->Sr):Ds->Sr:=λδ=>ofR (c δ) λt=>if t=true then a δ else b δ
def bp(g:Ds->Rs PyData):Ds->Sr:=λδ=>ofR (g δ) .rt
def g6(g:Ds->Rs PyData):Ds->Sr:=λδ=>ofR (g δ) λ_=>.nx δ
def aU(O:List Nat)(i:Nat)(g:Ds->Rs PyData):Ds->Sr:=λδ=>if i<δ.length then ofR (g (mask O δ)) λd=>.nx (δ.set i (some d)) else .no
def ip(O:List Nat)(i:Nat)(g:Ds->Rs (List PyData)):Ds->Sr:=λδ=>if i<δ.length then ofR (g (mask O δ)) λds=>.nx (δ.set i (some (.list ds))) else .no
def iI(O:List Nat)(i:Nat)(g:Ds->Rs PyData):Ds->Sr:=λδ=>match δ[i]? with
 |some (some (.list ds))=>ofR (g (mask O δ)) λd=>if ds.length<1000000 then .nx (δ.set i (some (.list (ds++[d])))) else .no
 |_=>.no
section
variable {ss:List Stmt}{G G':Ds->Sr}{a b c:Expr}{ga gb:Ds->Rs PyData}{ca:Ds->Rs Bool}
theorem uY:PBD X E O [] bj:=vq.imp λD σ H a=>(by obtain⟨H0,A0,A,δ,R,o⟩:=a;exact o A σ H R)
theorem iU(h1:PSD X E O st G)(h2:PBD X E O ss G'):PBD X E O (st::ss) (aJ G G'):=(cL h1 h2).imp λD σ H ⟨H0,A0,A,δ,R,o⟩=>⟨H0,A0,A,δ,R,by
 unfold aJ at o;cases q:G δ with
 |nx δ'=>rw[q]at o;exact λa σ' H' b=>⟨H0,A0,a,δ',b,o⟩
 |rt d=>rw[q]at o;exact o
 |rz C=>rw[q]at o;exact o
 |bk d=>rw[q]at o;exact o
 |ct d=>rw[q]at o;exact o
 |no=>rw[q]at o;exact o⟩
theorem oO(h1:PSD X E O st G):PBD X E O [st] G:=(iu h1).imp λD σ H h=>h
theorem EJ{a:List Stmt}(hc:PCD X E c ca)(h1:PBD X E O ss G)(h2:PBD X E O a G'):PSD X E O (.If c ss a pos) (sIf ca G G'):=(AG hc h1 h2).imp λD σ H e=>by
 obtain⟨H0,A0,A,δ,R,o⟩:=e;unfold sIf at o;refine cD.run R.full (λt b H1 f R1=>?_) (λC b H' s'=>?_) (λb=>?_)
 ·rw[b]at o;cases t with
  |true=>exact⟨H0,A0,A,δ,R.step f,o⟩
  |false=>exact⟨H0,A0,A,δ,R.step f,o⟩
 ·rw[b]at o;exact o H' (R.same.trans s')
 ·rw[b]at o;exact o
theorem u5(h:PD X E e ga):PSD X E O (.Return (some e) pos) (bp ga):=(qH h).imp λD σ H a=>by
 obtain⟨H0,A0,A,δ,R,o⟩:=a;unfold bp at o;refine eD.run R.full (λd c v H1 f R1 g=>?_) (λC b H' s'=>?_) (λb=>?_)
 ·rw[c]at o;exact o v H1 (R.same.trans f) g
 ·rw[b]at o;exact o H' (R.same.trans s')
 ·rw[b]at o;exact o
theorem DA(h:PD X E e ga)(c:swapsWith e none pos.line X.env=pure false):PSD X E O (.Expr e pos) (g6 ga):=(oU h c).imp λD σ H a=>by
 obtain⟨H0,A0,A,δ,R,o⟩:=a;unfold g6 at o;refine eD.run R.full (λd f v H1 g R1 hv=>?_) (λC b H' s'=>?_) (λb=>?_)
 ·rw[f]at o;exact o A σ H1 (R.step g)
 ·rw[b]at o;exact o H' (R.same.trans s')
 ·rw[b]at o;exact o
theorem G9(h:PD X E e ga)(c:X.N.Nodup)(f:i∉O)(hi:X.N[i]?=some x)(g:Loc X.env.scope x)(j:swapsWith e (some (.Name x pos')) pos.line X.env=pure false)
  (l:X.fn x=true\/X.env.scope.names.lookup x=some .local):PSD X E O (.Assign [.Name x pos'] e pos) (aU O i ga):=(rn c hi g h j l).imp λD σ H a=>by
 obtain⟨H0,A0,A,δ,R,o⟩:=a;unfold aU at o;split at o
 ·rename_i hl;refine eD.run R.part (λd m v H1 n R1 p=>?_) (λC b H' s'=>?_) (λb=>?_)
  ·rw[m]at o;exact o A _ H1 ((R.step n).set f hl p)
  ·rw[b]at o;exact o H' (R.same.trans s')
  ·rw[b]at o;exact o
 ·exact o.elim
theorem Gs{a:Ds->Rs (List PyData)}(h:PLD X E e a)(f:X.N.Nodup)(g:i∈O)(hi:X.N[i]?=some x)(j:Loc X.env.scope x)(l:swapsWith e (some (.Name x pos')) pos.line X.env=pure false)
  (m:X.fn x=true\/X.env.scope.names.lookup x=some .local):PSD X E O (.Assign [.Name x pos'] e pos) (ip O i a):=(rn f hi j h l m).imp λD σ H b=>by
 obtain⟨H0,A0,A,δ,R,o⟩:=b;unfold ip at o;split at o
 ·rename_i hl;refine⟨A++A0,mask O δ,R.part,?_⟩;cases q:a (mask O δ) with
  |ok ds =>rw[q]at o;exact λp xs H' hn s n c=>o (p::A) _ H' (R.setOwn g hl hn s n c)
  |rz C=>rw[q]at o;exact λH' s'=>o H' (R.same.trans s')
  |no=>rw[q]at o;exact o
 ·exact o.elim
theorem Ee{a:Ds->Rs (List PyData)}(h:PLS X E i st a)(f:i∉O):PSD X E O st (aU O i (gL a)):=PS.imp h λD σ H b=>by
 obtain⟨H0,A0,A,δ,R,o⟩:=b;unfold aU gL at o;split at o
 ·rename_i hl;have e:=R.part;refine⟨A++A0,mask O δ,e,?_⟩;cases q:a (mask O δ) with
  |ok ds =>rw[q]at o;intro p xs H' hn s g c;exact o A _ H' ((R.step s).set f hl (jT (by rw[aN (e.ls.new hn)];exact g) (c.same m9)))
  |rz C=>rw[q]at o;exact λH' s'=>o H' (R.same.trans s')
  |no=>rw[q]at o;exact o
 ·exact o.elim
theorem tyL{p:Addr}(h:H p=some (.lst xs)):tyV K "list" (.ref p) H:=.inl ⟨rfl,xs,SqL.of h⟩
theorem HV{j c:Pos}(h:PD X E e ga)(u:i∈O)(hi:X.N[i]?=some x)(l:Vis X.env.scope x)
  (hd:(x==("__debug__":Str))=false) (m:(x==("__classdict__":Str))=false) (f:starEach [e] X.env=(false,eval e X.env)::starEach [] X.env)
  (a:attributeBase (.Name x pn) "append" X.env (eval (.Name x pn) X.env)=eval (.Name x pn) X.env)
  (g:((backTo c (starEach [e] X.env)).all (λx=>!x.1)&&(backToKw c (keywordEach [] X.env)).all (λx=>x.1.isSome)&&decide (([e]:List Expr).length+([]:List Keyword).length+(if ([]:List Keyword).isEmpty then 0 else 1)<30))=true)
  (b:(j.endLine==c.line)=true) (y:swapsWith (.Call (.Attribute (.Name x pn) "append" j) [e] [] c) none pos.line X.env=pure false) :
  PSD X E O (.Expr (.Call (.Attribute (.Name x pn) "append" j) [e] [] c) pos) (iI O i ga) :=
 (oU (Dw F.plainAttrs_list F.slot_list_append F.type_list_append mM (j9 hi l hd m) (eM h gw f) a g b f rfl) y).imp λD σ H n=>by
  obtain⟨H0,A0,A,δ,R,o⟩:=n;unfold iI at o;split at o
  ·rename_i ds q;obtain⟨p,xs,ds',e1,z,hl,e2,w⟩:=R.ownL u q;cases e2;refine⟨_,e1,tyL hl,?_⟩;refine eD.run R.part (λd B v H1 r R1 l=>?_) (λC s H' s'=>?_) (λs=>?_)
   ·rw[B]at o;have o:oG X.K E H0 A0 O (if ds.length<1000000 then .nx (δ.set i (some (.list (ds++[d])))) else .no) D:=o;split at o
    ·rename_i hz;refine⟨p,xs,v,rfl,rfl,r _ _ hl,by rw[w.length,sizeLine_eq];omega,?_⟩;exact o A _ _ ((R.step r).put u q e1 z ((w.same r.del).append (jk l)))
    ·exact o.elim
   ·rw[s]at o;exact o H' (R.same.trans s')
   ·rw[s]at o;exact o
  ·exact o.elim
def TgS(K:W.Frag)(O:List Nat)(tgt:PyData->Ds->Option Ds)(g:TG):Prop:=∀(d:PyData)(v:V)(H0:Hp)(A0:List Addr)(H:Hp)(A:List Addr)(δ a:Ds)(σ:St)(Q:St->Hp->Prop),bR K H0 A0 H A O δ σ->Is K (del H (A++A0)) d v->tgt d δ=some a ->
 (∀b,bR K H0 A0 H A O a b->Q b H)->g v σ H Q
def bO(i:Nat):PyData->Ds->Option Ds:=λd δ=>if i<δ.length then some (δ.set i (some d)) else none
theorem Ex(hi:i∉O):TgS K O (bO i) (j7 i):=λd v H0 A0 H A δ δ' σ Q R h e k=>by
 unfold bO at e;split at e
 ·rename_i hl;cases e;exact k _ (R.set hi hl h)
 ·cases e
def mW:List Nat->List PyData->Ds->Option Ds
 |[],[],δ=>some δ
 |i::is,d::ds,δ=>if i<δ.length then mW is ds (δ.set i (some d)) else none
 |_,_,_=>none
def fH(is:List Nat):PyData->Ds->Option Ds
 |.tuple ds,δ=>mW is ds δ
 |_,_=>none
def zL:List Nat->TGs
 |[]=>L2.Lb
 |i::is=>L2.A3 (j7 i) (zL is)
theorem nV{K:W.Frag}:∀(is:List Nat)(ds:List PyData)(vs:List V)(H0:Hp)(A0:List Addr)(H:Hp)(A:List Addr)(δ a:Ds)(σ:St)(Q:St->Hp->Prop),(∀i∈is,i∉O)->bR K H0 A0 H A O δ σ->Iss K (del H (A++A0)) ds vs->mW is ds δ=some a ->
  (∀b,bR K H0 A0 H A O a b->Q b H)->zL is vs σ H Q
 |[],[],vs,H0,A0,H,A,δ,a,σ,Q,_,R,h,e,k=>by cases e;exact⟨h.nil_of,k σ R⟩
 |i::is,d::ds,vs,H0,A0,H,A,δ,a,σ,Q,hO,R,h,e,k=>by
  obtain⟨v,r,rfl,h1,h2⟩:=h.cons_of;unfold mW at e;split at e
  ·rename_i hl;exact⟨v,r,rfl,nV is ds r H0 A0 H A _ a _ Q (λj c=>hO j (N0 _ c)) (R.set (hO i N3) hl h1) h2 e k⟩
  ·cases e
 |[],_::_,_,_,_,_,_,_,_,_,_,_,_,_,e,_=>by cases e
 |_::_,[],_,_,_,_,_,_,_,_,_,_,_,_,e,_=>by cases e
theorem qh:∀{is:List Nat}{ds:List PyData}{δ a:Ds},mW is ds δ=some a->ds.length=is.length
 |[],[],_,_,_=>rfl
 |_::is,_::ds,δ,a,e=>by
  unfold mW at e;split at e
  ·simp[qh e]
  ·cases e
 |[],_::_,_,_,e=>by cases e
 |_::_,[],_,_,e=>by cases e
theorem Ht{is:List Nat}(hi:∀i∈is,i∉O):TgS K O (fH is) (L2.Jw K is.length (zL is)):=λd v H0 A0 H A δ a σ Q R h e k=>by
 unfold fH at e;split at e
 ·obtain⟨p,xs,rfl,c,b⟩:=h.ofTup;exact⟨p,xs,rfl,SqT.of (ay _ _ c),by rw[b.length,qh e],nV is _ xs H0 A0 H A δ a σ Q hi R b e k⟩
 ·cases e
def forL(tgt:PyData->Ds->Option Ds)(body:Ds->Sr):List PyData->Ds->Sr
 |[],δ=>.nx δ
 |d::r,δ=>match tgt d δ with
  |none=>.no
  |some δ1=>match body δ1 with
   |.nx δ2=>forL tgt body r δ2
   |.ct δ2=>forL tgt body r δ2
   |.bk δ2=>.nx δ2
   |.rt v=>.rt v
   |.rz C=>.rz C
   |.no=>.no
def fP(O:List Nat)(src:Ds->Rs (List PyData))(tgt:PyData->Ds->Option Ds)(body:Ds->Sr):Ds->Sr:=λδ=>ofR (src (mask O δ)) λds=>forL tgt body ds δ
theorem Hh{u:Ds->Rs (List PyData)}{tgt:PyData->Ds->Option Ds}(S:PassesOwn (model X.prog X.w) X.A X.env X.xe)(hc:X.calm=true)(hi:PID X E tg iter u)(T:TgS X.K O tgt g)(U:PG X tg g)(B:PBD X E O ss G)
  (W:∀x,foldedSetIterable iter X.env x=pure x):PSD X E O (.For tg iter ss [] pos) (fP O u tgt G):=(Ln S hc hi U B W).imp λD σ H F=>by
 obtain⟨H0,A0,A,δ,R,o⟩:=F;unfold fP at o;refine⟨A++A0,mask O δ,R.part,?_⟩;cases q:u (mask O δ) with
 |no=>rw[q]at o;exact o
 |rz C=>rw[q]at o;exact λH' s'=>o H' (R.same.trans s')
 |ok ds =>
  rw[q]at o;intro J H1 N Y;have Z:=(R.step N).more;have o:oG X.K E H0 A0 O (forL tgt G ds δ) D:=o;refine⟨λi m f H'=>m=ds.length-i/\i<=ds.length/\∃l c,bR X.K (un H0 (del H1 (A++A0))) A0 H' l O c f/\oG X.K E H0 A0 O (forL tgt G (ds.drop i) c) D,⟨ds.length,by simp,Oc _,A,δ,Z,o⟩,?_⟩
  rintro i m f H' ⟨rfl,hi',l,c,n,o'⟩
  have P:av (del H1 (A++A0)) (un H0 (del H1 (A++A0))):=M5 (R.same.trans N) ay;have hB:∀b∈l++A0,(del H1 (A++A0)) b=none:=λb B=>by
   rcases NY.mp B with z|z
   ·exact P.free (n.new b z)
   ·exact ib (N8 _ z)
  obtain⟨jg,js,jy⟩:=Y H' (l++A0) (P.trans n.same) n.lsA hB;by_cases hlt:i<ds.length
  ·refine .inr ⟨jg i hlt,?_⟩;have I:ds.drop i=ds[i]::ds.drop (i+1):=OQ hlt;rw[I]at o';unfold forL at o';refine⟨λp H2=>∃L a,bR X.K (un H0 (del H1 (A++A0))) A0 H2 L O a p/\oG X.K E H0 A0 O (forL tgt G (ds.drop (i+1)) a) D,λp H2 ⟨L,a,R2,o2⟩=>⟨ds.length-(i+1),by omega,rfl,hlt,L,a,R2,o2⟩,λx H2 y=>?_⟩;obtain⟨s2,d,Q,hd⟩:=jy i x H2 hlt y;have:ds[i]=d:=by have:=My hlt;rw[this]at Q;exact Option.some.inj Q
   rw[this]at o';cases et:tgt d c with
   |none=>rw[et]at o';exact o'.elim
   |some δ1 =>
    simp only[et]at o';refine T d x _ _ _ _ _ _ _ _ (n.step s2) hd et λσ3 R3=>⟨_,_,_,_,R3,?_⟩
    cases eb:G δ1 with
    |nx a=>rw[eb]at o';exact λr h j s=>⟨r,a,s,o'⟩
    |ct a=>rw[eb]at o';exact λr h j s=>⟨r,a,s,o'⟩
    |bk a=>rw[eb]at o';exact λr h j s=>o' r h j (s.less EN R.ls0)
    |rt v=>rw[eb]at o';exact λv4 j M h4=>o' v4 j (EN.trans M) h4
    |rz C=>rw[eb]at o';exact λj M=>o' j (EN.trans M)
    |no=>rw[eb]at o';exact o'
  ·have e:i=ds.length:=by omega
   subst e;rw[PY]at o';exact .inl ⟨js,o' l f H' (n.less EN R.ls0)⟩
end
section
variable {ss:List Stmt}{G G':Ds->Sr}{a b c:Expr}{ga gb gk:Ds->Rs PyData}{ca:Ds->Rs Bool}
def bQ(c:Ds->Rs Bool)(b:Ds->Sr):Nat->Ds->Sr
 |0,_=>.no
 |n+1,δ=>ofR (c δ) λt=>if t=true then (match b δ with
  |.nx δ2=>bQ c b n δ2
  |.ct δ2=>bQ c b n δ2
  |.bk δ2=>.nx δ2
  |.rt v=>.rt v
  |.rz C=>.rz C
  |.no=>.no) else .nx δ
theorem Ct(fuel:Nat)(j:PassesOwn (model X.prog X.w) X.A X.env X.xe)(hc:PCD X E c ca)(l:PBD X E O ss G):PSD X E O (.While c ss [] pos) (λδ=>bQ ca G fuel δ):=(xR j hc l).imp λD σ H e=>by
 obtain⟨H0,A0,A,δ,R,o⟩:=e;refine⟨λm σ H=>∃A δ,bR X.K H0 A0 H A O δ σ/\oG X.K E H0 A0 O (bQ ca G m δ) D,⟨fuel,A,δ,R,o⟩,?_⟩
 rintro m σ H ⟨A,δ,R,o⟩
 cases m with
 |zero=>exact o.elim
 |succ m =>
  unfold bQ at o;refine cD.run R.full (λt a H1 i R1=>?_) (λC a H' s'=>?_) (λa=>?_)
  ·rw[a]at o;cases t with
   |false=>exact o A σ H1 (R.step i)
   |true =>
    refine⟨λb H'=>∃A δ,bR X.K H0 A0 H' A O δ b/\oG X.K E H0 A0 O (bQ ca G m δ) D,λb H' q=>⟨m,OH m,q⟩,H0,A0,A,δ,R.step i,?_⟩;have o:oG X.K E H0 A0 O (match G δ with
     |.nx δ2=>bQ ca G m δ2
     |.ct δ2=>bQ ca G m δ2
     |.bk δ2=>.nx δ2
     |.rt v=>.rt v
     |.rz C=>.rz C
     |.no=>.no) D:=o
    cases eb:G δ with
    |nx δ2=>rw[eb]at o;exact λf g n h=>⟨f,δ2,h,o⟩
    |ct δ2=>rw[eb]at o;exact λf g n h=>⟨f,δ2,h,o⟩
    |bk δ2=>rw[eb]at o;exact o
    |rt v=>rw[eb]at o;exact o
    |rz C=>rw[eb]at o;exact o
    |no=>rw[eb]at o;exact o
  ·rw[a]at o;exact o H' (R.same.trans s')
  ·rw[a]at o;exact o
def Bx(i:Nat)(gk ge:Ds->Rs PyData):Ds->Sr:=λδ=>match δ[i]? with
 |some (some (.list ds))=>ofR (ge δ) λd=>ofR (gk δ) λk=>match k with
  |.int k=>match ixN ds.length k with
   |some j=>if g0 d then .nx (δ.set i (some (.list (ds.set j d)))) else .no
   |none=>.no
  |_=>.no
 |_=>.no
theorem Gu{k:Expr}{ps:Pos}(h:PD X E e ga)(r:PD X E k gk)(l:i∈O)(hi:X.N[i]?=some x)(c:Vis X.env.scope x)
  (hd:(x==("__debug__":Str))=false) (f:(x==("__classdict__":Str))=false)
  (ha:∀v,assign (.Subscript (.Name x pn) k ps) X.env v=(do
   let ov <-holding [v] (eval (.Name x pn) X.env);let iv <-holding [v,ov] (eval k X.env)
   standAt ps
   holding [v,ov,iv] (setItem ov iv v)
   release [v,ov,iv] []))
  (s:swapsWithSole [.Subscript (.Name x pn) k ps] e pos.line X.env=pure false) (hw:swappedStores [.Subscript (.Name x pn) k ps] e X.env=pure none)
  (h1:(assignEach [.Subscript (.Name x pn) k ps] X.env).map (·.2)=[assign (.Subscript (.Name x pn) k ps) X.env]):PSD X E O (.Assign [.Subscript (.Name x pn) k ps] e pos) (Bx i gk ga) :=
 (IZ h (KL (j9 hi c hd f) r set_list ha) s hw h1).imp λD σ H g=>by
  obtain⟨H0,A0,A,δ,R,o⟩:=g;unfold Bx at o;split at o
  ·rename_i ds q;obtain⟨p,xs,ds',e1,w,hl,e2,m⟩:=R.ownL l q;cases e2;refine eD.run R.full (λd y v H1 n z c=>?_) (λC b H' s'=>?_) (λb=>?_)
   ·simp only[y,ax]at o;refine⟨_,e1,?_⟩;refine eD.run z (λkd B u H2 s2 R2 F=>?_) (λC b H' s'=>?_) (λb=>?_)
    ·simp only[B,ax]at o;split at o
     ·rename_i G;split at o
      ·rename_i j I;split at o
       ·rename_i hn;have a:=n.trans s2;refine⟨p,xs,G,j,rfl,F.ofInt,a _ _ hl,by rw[m.length];exact I,?_⟩;exact o A _ _ ((R.step a).put l q e1 w (Iss.set (((c.same s2.del).same ay).dl (R.step a).lsA hn) j (m.same a.del)))
       ·exact o.elim
      ·exact o.elim
     ·exact o.elim
    ·simp only[b,jQ]at o;exact o H' (R.same.trans (n.trans s'))
    ·simp only[b,kj]at o;exact o
   ·simp only[b,jQ]at o;exact o H' (R.same.trans s')
   ·simp only[b,kj]at o;exact o
  ·exact o.elim
structure oJ(K:W.Frag)(mg:Str->Option Value)(x:Str)(C:Addr):Prop where
 m:mg x=some (.ref C)
 e:W.excIn K C [.type "ValueError",.type "Exception",.type "BaseException",.type "object"] "ValueError.__new__"=true
def ie(C:Addr)(gs:Ds->Rs (List PyData)):Ds->Sr:=λδ=>ofR (gs δ) λ_=>.rz C
theorem BL{i:Pos}(hc:X.calm=true)(M:yN X E)(g:oJ X.K X.mg x C)(ha:PAD X E (e::es) gs)(hl:(e::es).length<=1000)(j:Gl X x)
  (a:(x==("__debug__":Str))=false) (l:starEach (e::es) X.env=(false,eval e X.env)::starEach es X.env) (b:(backTo cpos (starEach es X.env)).any (·.1)=false) :
  PSD X E O (.Raise (some (.Call (.Name x i) (e::es) [] cpos)) none pos) (ie C gs) :=
 (C9 hc M F.excBase_ValueError j g.m g.e ha.1 a l b).imp λD σ H c=>by
  obtain⟨H0,A0,A,δ,R,o⟩:=c;unfold ie at o;refine aD.run R.full (λds h vs H1 n R1 p=>?_) (λC f H' s'=>?_) (λf=>?_)
  ·simp only[h,ax]at o;exact⟨by rw[p.length,ha.2 δ ds h,sizeLine_eq];omega,o H1 (R.same.trans n)⟩
  ·simp only[f,jQ]at o;exact o H' (R.same.trans s')
  ·simp only[f,kj]at o;exact o
end
section
theorem lL{f:Addr}{k:Nat}(F:Fun K x qual st f fd)(S:dq N ps (aC st))(len:∀vs H Q E,sp vs H Q E->vs.length=ps.length)
  (a:∀(cdv:Value)(A:Around)(outer:List Env)(s:Shared)(H:Hp)(vs:List V)(Q:VK)(E:XK),cj k (A.deeper (envOfC qual (aC st) s.heap.objs.size f cdv))->sp vs H Q E ->
   ∃t,PSs (dz CX P w K mg base N qual (aC st) f cdv A outer s H E) (b0 st) t/\t { nx:=λ_ H'=>Q .non H',rt:=Q } (start N vs) H):gQ P w K mg base CX (k+1) f fd ps sp:=by
 obtain⟨oc,od,kV,doc,pm,an,cdv,ct,osl,rfl,e,b⟩:=F.ex;exact El e b S len λA outer s H vs Q E g c=>a cdv A outer s H vs Q E g c
def bf:Sr->Rs PyData
 |.rt d=>.ok d
 |.nx _=>.ok .none
 |.rz C=>.rz C
 |_=>.no
theorem Kv{f:Addr}{A:Around}:yN (dz (CXW P w) P w K mg base N qual scope f cd A outer s H E) E :=
 λ_ _ _ _ _ _ _ _ I a b=>wU (CX:=CX0) I a b
theorem bR.start(f:Ls H A0)(hi:Iss K (del H A0) ds vs)(hl:ds.length=ps.length)(c:∀i∈O,ps.length<=i) :
  bR K H A0 H [] O (ds.map some++List.replicate (N.length-ps.length) none) (L2.start N vs):=by
 have g:=hi.length;have at':∀(i:Nat) d,(ds.map some++List.replicate (N.length-ps.length) none)[i]?=some (some d)->i<ds.length/\ds[i]?=some d:=λi d e=>by
  by_cases h:i<ds.length
  ·rw[NP (by simpa using h),NK]at e;refine⟨h,?_⟩;cases q:ds[i]? with
   |none=>rw[q]at e;cases e
   |some z=>rw[q]at e;simp at e;rw[e]
  ·rw[NT (by simpa using h),Pn]at e;split at e <;> cases e
 refine⟨av.refl _,f,(λa h=>by cases h),(λa h=>by cases h),?_,λi d _ e=>?_,λi d h e=>?_,λi j d e a h _ q _ _ _=>?_⟩
 ·unfold L2.start;simp[g,hl]
 ·obtain⟨b,e⟩:=at' i d e;obtain⟨v,ev,hd⟩:=hi.getD e;refine⟨v,?_,hd⟩;unfold L2.start;rw[NP (by simp;omega),NK,ev];rfl
 ·obtain⟨b,_⟩:=at' i d e;exact absurd (c i h) (by omega)
 ·obtain⟨b,_⟩:=at' i d q;exact absurd (c i h) (by omega)
theorem iN.of{f:Addr}{k:Nat}{G:Ds->Sr}(F:Fun K x qual st f fd)(S:dq N ps (aC st))(b:Binds K fd ps [])(m:mg x=some (.ref f))(e:∀i∈O,ps.length<=i)
  (body:∀(cdv:Value)(A:Around)(outer:List Env)(s:Shared)(H:Hp)(E:XK),cj k (A.deeper (envOfC qual (aC st) s.heap.objs.size f cdv))->PBD (dz (CXW P w) P w K mg base N qual (aC st) f cdv A outer s H E) E O (b0 st) G)
  (g:∀ds,ds.length=ps.length->gf ds≠.no->bf (G (ds.map some++List.replicate (N.length-ps.length) none))=gf ds):iN P w K mg base (k+1) x ps.length gf:=by
 refine⟨f,fd,ps,lL F S (λvs H Q E h=>?_) (λcdv A outer s H vs Q E j h=>?_),m,F.kp,b⟩
 ·obtain⟨A,ds,c,hi,hl,o⟩:=h;rw[hi.length,hl]
 ·obtain⟨A0,ds,c,hi,hl,o⟩:=h;refine⟨_,body cdv A outer s H E j,H,A0,[],_,bR.start c hi hl e,?_⟩;have a:=g ds hl (λz=>by rw[z]at o;exact o);cases q:G (ds.map some++List.replicate (N.length-ps.length) none) with
  |rt d=>rw[q]at a;rw[<-a]at o;exact λv H' s' l=>o v H' s' l
  |nx δ=>rw[q]at a;rw[<-a]at o;exact λA' σ H' n=>o .non H' n.same is_none
  |rz C=>rw[q]at a;rw[<-a]at o;exact λH' s'=>o H' s'
  |bk δ=>rw[q]at a;rw[<-a]at o;exact o.elim
  |ct δ=>rw[q]at a;rw[<-a]at o;exact o.elim
  |no=>rw[q]at a;rw[<-a]at o;exact o.elim
theorem iN.old{f:Addr}{k:Nat}(F:gQ P w K mg base CX0 k f fd ps sp)(m:mg x=some (.ref f))(kp:W.keepIn K (.ref f)=true)(b:Binds K fd ps [])
  (h:∀ds,ds.length=ps.length->gf ds≠.no->∃d,gf ds=.ok d/\gz d=true/\∀vs H Q,Iss K H ds vs->(∀v H',av H H'->IsD K H' d v->Q v H')->sp vs H Q E0):iN P w K mg base k x ps.length gf:=by
 refine⟨f,fd,ps,⟨λvs H Q E h'=>?_,λA outer s H args us vs Q E j l n p h'=>?_⟩,m,kp,b⟩
 ·obtain⟨A,ds,g,hi,hl,o⟩:=h';rw[hi.length,hl]
 ·obtain⟨A0,ds,g,hi,hl,o⟩:=h';obtain⟨d,e,i,c⟩:=h ds hl (λz=>by rw[z]at o;exact o);rw[e]at o;refine codeAny_mono (F.run A outer s H args us vs Q E0 j l n p (c vs H Q (hi.same ay) λv H' s' hd=>o v H' s' ((hd.is i).dl (g.same s') (zF i)))) λr s' a=>?_
  cases r with
  |error ev=>exact False.elim a
  |ok fl =>
   cases fl with
   |ret u=>exact a
   |next=>exact False.elim a
   |brk=>exact False.elim a
   |cont=>exact False.elim a
end
open AutoSeq1 (wpAny_loadPart')
theorem nH:fillsNumberSlot (.type "tuple") "mul"=pure false :=
 PySem.fillsNumberSlot_seq (id:="tuple.__mul__") (r:=some (.builtin "tuple.__rmul__")) F.slot_tuple_mul.lookup (by decide +kernel) F.slot_tuple_rmul.lookup (by decide +kernel)
theorem vJ:seqRepeat? (.type "tuple")=pure (some (.builtin "tuple.__mul__")):=by unfold seqRepeat?;rw[PySem.seqSlot_of (T:="tuple") (name:="__mul__") (id:="tuple.__mul__") F.slot_tuple_mul.lookup (by decide +kernel),PySem.seqSlot_of (T:="tuple") (name:="__rmul__") (id:="tuple.__rmul__") F.slot_tuple_rmul.lookup (by decide +kernel)];rfl
theorem uu(a:Int)(t:Tok)(l:Addr)(items:Array Value)(n:Nat)(dd:Option Addr)(b:Array (Option Value)) :
  Meets (Builtin.«int.__rmul__» ⟨[.int a t,.ref l],[]⟩) (λ_ R s=>s.heap.get? l=some { cls:=.type "tuple",dict:=dd,data:=.seq items n,slots:=b }/\R (.ok (.ret Value.notImplemented)) s) :=
 .of_wp λprog w A R s h=>by obtain⟨hp,g,d,tk,os⟩:=s;obtain⟨hl,h⟩:=h;wp_walk;exact⟨_,rfl,h⟩
theorem FP(l:Addr)(items:Array Value)(n:Nat)(x:Int)(u:Tok)(dd:Option Addr)(a:Array (Option Value))(h1:(decide (x < -(2 ^ 63))||decide (x≥2 ^ 63))=false)(h2:(items.isEmpty||x==1)=false)(h3:(decide (x<=0)||items.isEmpty)=false)
  (b:decide ((items.size:Int)*x>(2 ^ 63-1) / 8)=false) (h5:Builtin.Tuple.tupleTooMany ((items.size:Int)*x)=false) (hsz:(List.foldl (λx1 x2=>x1++x2) #[] (List.replicate x.toNat items)).size<=sizeLine) :
  Meets (Builtin.«tuple.__mul__» ⟨[.ref l,.int x u],[]⟩) (λ_ R s=>s.heap.get? l=some { cls:=.type "tuple",dict:=dd,data:=.seq items n,slots:=a }/\R (.ok (.ret (Value.ref s.heap.objs.size))) { s with heap:=s.heap.push { cls:=Value.type "tuple",data:=Data.seq (List.foldl (λx1 x2=>x1++x2) #[] (List.replicate x.toNat items)) } }) :=
 .of_wp λprog w A R s h=>by
  obtain⟨hp,g,d,tk,os⟩:=s;obtain⟨hl,h⟩:=h;have f1:=AutoSeq1.idx_int;have f2:=AutoSeq1.sub_tuple_tuple
  wp_walk using wpAny_loadPart' hl
  refine wpAny_ite_false (by rw[h1];rfl) ?_
  wp_walk using wpAny_loadPart' hl
  refine wpAny_ite_false b ?_
  wp_walk using wpAny_loadPart' hl
  exact⟨_,rfl,h⟩
section
variable {a b c:Expr}{ga gb gc:Ds->Rs PyData}
def IG(K:W.Frag):R2:=λx y H Q=>∃l k xs,x=.ref l/\y=.int k/\SqT K H l xs/\xs≠[]/\2<=k/\k<1000000/\xs.length*k.toNat<=1000000/\∀p,H p=none->Q (.ref p) (upd H p (.tup (List.replicate k.toNat xs).flatten))
theorem GJ:OpR X (binaryOp .Mult) (IG X.K):=by
 intro pins s σ H x y v u Q I m p h;obtain⟨l,k,xs,rfl,rfl,hl,i,hk1,hk2,w,q⟩:=h;cases m;obtain⟨t,rfl⟩:=p;obtain⟨a,r,p1,_⟩:=I.tuple hl;obtain⟨⟨cls,dd,data,j⟩,g,hc,n,hd⟩:=id p1;simp only at hc hd;subst hc hd;have hlen:=r.length;have e:a≠[]:=λz=>i (r.nil_iff.mp z)
 have hpos:0<a.length:=Ov.mpr e;have c:List.foldl (λx1 x2=>x1++x2) #[] (List.replicate k.toNat a.toArray)=(List.replicate k.toNat a).flatten.toArray:=by have:=foldl_rep a k.toNat [];rw[O9]at this;exact this
 have f:a.toArray.isEmpty=false:=by simp[e]
 have hmul:(a.length:Int)*k<=1000000:=by
  have e1:((a.length*k.toNat:Nat):Int)=(a.length:Int)*k:=by rw[Int.natCast_mul,OU (by omega)]
  rw[<-e1,<-hlen];omega
 have hsz2:(List.replicate k.toNat a).flatten.length<=1000000:=by rw[len_rep,Nat.mul_comm,<-hlen];exact w
 refine wpAny_binaryOp_repeat_ref (T:="tuple") (U:="int") (by decide) ⟨_,g,rfl⟩ (λs'=>typeIs_int s' k t) nH F.fills_int_mul F.slot_int_rmul vJ F.slot_int_index.lookup
  (call_meets F.slot_int_rmul (typeIs_int s k t) F.entry_int_rmul (F.args_int_rmul_2 _ _) (uu k t l a.toArray n dd j)
   ⟨g,rfl,⟨_,g,rfl⟩,call_meets F.slot_tuple_mul ⟨_,g,rfl⟩ F.entry_tuple_mul (F.args_tuple_mul_2 _ _) (FP l a.toArray n k t dd j ?_ ?_ ?_ ?_ ?_ ?_) ⟨g,?_⟩⟩)
 ·rw[decide_eq_false (by omega),decide_eq_false (by omega)];rfl
 ·rw[f,Bool.false_or];simp;omega
 ·rw[f,Bool.or_false];exact decide_eq_false (by omega)
 ·rw[NF];exact decide_eq_false (by omega)
 ·rw[NF];unfold Builtin.Tuple.tupleTooMany;rw[sizeLine_eq];exact decide_eq_false (by omega)
 ·rw[c,NF,sizeLine_eq];omega
 ·rw[c];refine⟨.ref s.heap.objs.size,_,I.laid (t':=s.toks) (o:=.tup (List.replicate k.toNat xs).flatten) (λb ob q=>N2 _ q) (N6 _) ?_,rfl,q _ (I.hok.fresh (N6 _))⟩;exact⟨by rw[len_rep,Nat.mul_comm,sizeLine_eq];omega,_,r.rep k.toNat,vm.new _ _⟩
def kJ:PyData->PyData->Option PyData
 |.int i,.int j=>if (-(2 ^ 64)<i/\i<2 ^ 64)\/(-(2 ^ 64)<j/\j<2 ^ 64) then some (.int (i*j)) else none
 |.list x,.int k=>if 0<=k/\k<1000000/\x.length*k.toNat<=1000000 then some (.list (List.replicate k.toNat x).flatten) else none
 |.tuple x,.int k=>if x≠[]/\2<=k/\k<1000000/\x.length*k.toNat<=1000000 then some (.tuple (List.replicate k.toNat x).flatten) else none
 |_,_=>none
theorem Gx:OpD K kJ (λx y H Q=>rI Ga (λi j=>.int (i*j)) x y H Q\/LM x y H Q\/IG K x y H Q):=λd1 d2 d x y H A Q e f h1 h2 k=>by
 unfold kJ at e;split at e
 ·split at e
  ·rename_i z;cases e;exact .inl ⟨_,_,h1.ofInt,h2.ofInt,z,k _ H (av.refl _) bF⟩
  ·cases e
 ·split at e
  ·rename_i z;cases e;obtain⟨p,xs,rfl,c,a⟩:=h1.ofLst;exact .inr (.inl ⟨p,_,xs,rfl,h2.ofInt,ay _ _ c,by omega,by omega,by rw[a.length,sizeLine_eq];omega,λr b=>k _ _ (bE b) (oV f b (a.rep _))⟩)
  ·cases e
 ·split at e
  ·rename_i z;cases e;obtain⟨p,xs,rfl,c,a⟩:=h1.ofTup;refine .inr (.inr ⟨p,_,xs,rfl,h2.ofInt,SqT.of (ay _ _ c),λq=>z.1 ?_,z.2.1,z.2.2.1,by rw[a.length];exact z.2.2.2,λr b=>k _ _ (bE b) (l5 f b (a.rep _))⟩);exact Ol.mp (by rw[<-a.length,q];rfl)
  ·cases e
 ·cases e
theorem Le(ha:PD X E a ga)(c:PD X E b gb):PD X E (.BinOp a .Mult b pos) (g2 kJ ga gb):=iO Gx ha c (fA (nJ.or (Ka.or GJ)))
end
section
variable {A:Around}{E:Value->Shared->Prop}
theorem kK{t:Addr}{i j:Value}(a:IsTup s.heap t items)(l:s.heap.IsSliceOf c i j .none)(pl:IsPart i lo)(n:IsPart j hi)
  (hw:HT.sIx items.size 0 lo=0/\HT.sIx items.size items.size hi=items.size) (h:Q (.ref t) s):wpAny (model prog w) A (getItem (.ref t) (.ref c)) Q E s:=by
 obtain⟨os,e,f,hds⟩:=id l;have g:s.TypeIs (.ref c) "slice":=⟨os,e,f⟩
 unfold getItem
 try with_reducible refine wpAny_holding ?_
 first|refine wpAny_bind (wpAny_pure ?_)|skip
 refine wpAny_bind (wpAny_sequenceKey a.typeIs (by decide) ?_);refine wpAny_bind (wpAny_callSpecial?_slot (name:=Str.ofString "__getitem__") a.typeIs PyProof.Rows.slot_tuple_getitem
  (wpAny_call_entry PyProof.Rows.slot_tuple_getitem a.typeIs entry_tuple_getitem ?_ (args_tuple_getitem _ _)))
 show wpAny _ _ (Builtin.Tuple.tupleItemsOf (.ref t) >>= _) _ _ s;refine wpAny_bind (tupleItemsOf_ a ?_);refine wpAny_bind (wpAny_typeOf g ?_);rw[if_pos (by decide)];refine wpAny_bind (HT.i7 l pl n ?_);have b:(((HT.sIx items.size 0 lo:Nat):Int)==0&&(1:Int)==1&&(HT.sIx items.size items.size hi-HT.sIx items.size 0 lo)==items.size)=true:=by rw[hw.1,hw.2];simp
 show wpAny _ _ (if (((HT.sIx items.size 0 lo:Nat):Int)==0&&(1:Int)==1&&(HT.sIx items.size items.size hi-HT.sIx items.size 0 lo)==items.size)=true then _ else _) _ _ s;rw[if_pos b];refine wpAny_bind (m:=Builtin.Tuple.tupleIsExact (.ref t)) (wpAny_bind (wpAny_typeOf a.typeIs (wpAny_pure ?_)));rw[if_pos (by decide)]
 first
  |exact wpAny_bind (wpAny_rule (wpAny_pure ⟨_,rfl,wpAny_pure h⟩))
  |(refine wpAny_bind (wpAny_rule ?_);trace_state;exact wpAny_pure ⟨_,rfl,wpAny_pure h⟩)
end
end L2
variable {δ:L2.Ds}{gf:List PyData->L2.Rs PyData}{gs gi src:L2.Ds->L2.Rs (List PyData)}{cond:L2.Ds->L2.Rs Bool}{tgt:PyData->Option L2.Ds}{ga gb:L2.Ds->L2.Rs PyData}
namespace L2
open PySem PySem.Spec PyProof.Rows
section
variable {E:XK}{a b c e:Expr}{gc:Ds->Rs PyData}{es:List Expr}
def LP(K:W.Frag):V->Option Int->Option Int->Hp->VK->Prop:=λx lo hi H Q=>∃a xs,x=.ref a/\SqT K H a xs/\(HT.sIx xs.length 0 lo=0/\HT.sIx xs.length xs.length hi=xs.length)/\Q (.ref a) H
theorem Gb:SlR X (LP X.K):=by
 intro pins s σ H x v vl vu lo hi sl Q I e f pl g h;obtain⟨a,xs,rfl,i,hw,q⟩:=h;cases e;obtain⟨b,r,c,hz⟩:=I.tuple i;have hlen:b.toArray.size=xs.length:=by rw[NF,r.length]
 refine⟨"tuple",_,PyProof.Rows.slot_tuple_getitem.lookup,c.typeIs,?_⟩;exact kK c f pl g (by rw[hlen];exact hw) ⟨.ref a,H,I,rfl,q⟩
def cutD(xs:List PyData)(lo hi:Option Int):List PyData:=(xs.drop (HT.sIx xs.length 0 lo)).take (HT.sIx xs.length xs.length hi-HT.sIx xs.length 0 lo)
def GD:PyData->Option Int->Option Int->Option PyData
 |.list x,lo,hi=>some (.list (cutD x lo hi))
 |.tuple x,lo,hi=>some (.tuple (cutD x lo hi))
 |_,_,_=>none
def Fh:PyData->Rs (Option Int)
 |.int i=>.ok (some i)
 |_=>.no
def kz:Ds->Rs (Option Int):=λ_=>.ok none
def rA(g:Ds->Rs PyData):Ds->Rs (Option Int):=λδ=>(g δ).bind Fh
def M3(E:XK)(H:Hp)(r:Rs (Option Int))(Q:Option Int->Hp->Prop):Prop:=match r with
 |.ok o=>∀H',av H H'->Q o H'
 |.rz C=>∀H',av H H'->E (.ref C) none H'
 |.no=>False
def oD(K:W.Frag)(E:XK)(g:Ds->Rs (Option Int)):TO:=λσ H Q=>∃A δ,dJ K H A δ σ/\M3 E H (g δ) Q
def POD(X:Cx)(E:XK)(e:Option Expr)(g:Ds->Rs (Option Int)):Prop:=PO X e (oD X.K E g)
theorem PO.imp{e:Option Expr}{t t':TO}(h:PO X e t)(k:∀σ H Q,t' σ H Q->t σ H Q):PO X e t':=λpins s σ H Q I q=>h pins s σ H Q I (k σ H Q q)
theorem Ek:POD X E none kz:=Gw.imp λσ H Q a=>(by obtain⟨A,δ,R,o⟩:=a;exact o H (av.refl _))
theorem DO(h:PD X E e ga):POD X E (some e) (rA ga):=(F3 h).imp λσ H Q ⟨A,δ,R,o⟩=>⟨A,δ,R,by
 unfold rA at o;cases q:ga δ with
 |no=>rw[q]at o;exact o
 |rz C=>rw[q]at o;exact o
 |ok d =>
  rw[q]at o;cases d with
  |int i=>exact λv H' s h=>⟨i,h.ofInt,o H' s⟩
  |_=>exact o.elim⟩
theorem oD.run{g:Ds->Rs (Option Int)}{Q:Option Int->Hp->Prop}(R:dJ K H A δ σ)
  (ok:∀d,g δ=.ok d->∀H',av H H'->dJ K H' A δ σ->Q d H') (rz:∀C,g δ=.rz C->∀H',av H H'->E (.ref C) none H') (no:g δ=.no->False):oD K E g σ H Q:=by
 refine⟨A,δ,R,?_⟩;cases e:g δ with
 |ok d=>exact λH' s=>ok d e H' s (R.same s)
 |rz C=>exact λH' s=>rz C e H' s
 |no=>exact no e
def lF(g:Ds->Rs PyData)(lo hi:Ds->Rs (Option Int)):Ds->Rs PyData:=λδ=>(g δ).bind λd=>(lo δ).bind λl=>(hi δ).bind λh=>Rs.eN (GD d l h)
theorem Iss.cut(h:Iss K H ds vs)(lo hi:Option Int):Iss K H (cutD ds lo hi) (xC vs lo hi):=by unfold cutD xC;rw[h.length];exact (h.drop _).take _
theorem C4{lo hi:Option Expr}{n r:Ds->Rs (Option Int)}(w:PD X E e ga)(hl:POD X E lo n)(x:POD X E hi r):PD X E (.Subscript e (.Slice lo hi none p2) pos) (lF ga n r) :=
 (E6 (F5.or (J5.or Gb)) w hl x).imp λσ H Q j=>by
  obtain⟨A,δ,R,o⟩:=j;unfold lF at o;refine eD.run R (λd y v H1 m z B=>?_) (λC a H' s'=>by rw[a]at o;exact o H' s') (λa=>by rw[a]at o;exact o);simp only[y,Rs.ag]at o;refine oD.run z (λl D H2 s2 R2=>?_) (λC a H' s'=>by rw[a]at o;exact o H' (m.trans s')) (λa=>by rw[a]at o;exact o);simp only[D,Rs.ag]at o;refine oD.run R2 (λh F H3 s u=>?_) (λC a H' s'=>by rw[a]at o;exact o H' (m.trans (s2.trans s'))) (λa=>by rw[a]at o;exact o);simp only[F,Rs.ag]at o;have f:=B.same (s2.trans s).del;have b:=m.trans (s2.trans s);cases d with
  |list ds =>obtain⟨p,xs,rfl,g,c⟩:=f.ofLst;exact .inl ⟨p,xs,rfl,SqL.of (ay _ _ g),λq i=>o _ _ (b.trans (bE i)) (oV u.ls i (c.cut l h))⟩
  |tuple ds =>
   obtain⟨p,xs,rfl,g,c⟩:=f.ofTup;by_cases hw:HT.sIx xs.length 0 l=0/\HT.sIx xs.length xs.length h=xs.length
   ·refine .inr (.inr ⟨p,xs,rfl,SqT.of (ay _ _ g),hw,o _ _ b ?_⟩);have e:cutD ds l h=ds:=by unfold cutD;rw[<-c.length,hw.1,hw.2];simp[c.length]
    show Is X.K _ (.tuple (cutD ds l h)) _;rw[e];exact iM g c
   ·exact .inr (.inl ⟨p,xs,rfl,SqT.of (ay _ _ g),hw,λq i=>o _ _ (b.trans (bE i)) (l5 u.ls i (c.cut l h))⟩)
  |_=>exact o.elim
def toV:PyData->V
 |.none=>.non
 |.bool b=>.bl b
 |.int i=>.int i
 |.str x=>.str x
 |_=>.non
def inD(x:PyData)(xs:List PyData):Bool:=inV (toV x) (xs.map toV)
def EK(neg:Bool):PyData->PyData->Option PyData
 |x,.list xs=>if gz x&&xs.all gz then some (.bool (if neg then !inD x xs else inD x xs)) else none
 |x,.tuple xs=>if gz x&&xs.all gz then some (.bool (if neg then !inD x xs else inD x xs)) else none
 |_,_=>none
theorem Is.flat{d:PyData}(h:Is K H d v)(f:gz d=true):v=toV d/\jE v=true:=by
 cases d with
 |none=>rw[h.ofNone];exact⟨rfl,rfl⟩
 |bool b=>rw[h.ofBool];exact⟨rfl,rfl⟩
 |int i=>rw[h.ofInt];exact⟨rfl,rfl⟩
 |str x=>rw[h.ofStr];exact⟨rfl,rfl⟩
 |_=>cases f
theorem Iss.flat{K:W.Frag}{H:Hp}:∀{ds:List PyData}{vs:List V},Iss K H ds vs->ds.all gz=true->vs=ds.map toV/\vs.all jE=true
 |[],_,h,_=>by rw[h.nil_of];exact⟨rfl,rfl⟩
 |d::ds,_,h,f=>by rw[P9,N7]at f;obtain⟨v,r,rfl,h1,h2⟩:=h.cons_of;obtain⟨e1,f1⟩:=h1.flat f.1;obtain⟨e2,f2⟩:=Iss.flat h2 f.2;exact⟨by rw[e1,e2];rfl,by rw[P9,f1,f2];rfl⟩
theorem Jj{neg:Bool}:OpD K (EK neg) (rIn K neg):=λd1 d2 d x y H A Q e hA h1 h2 k=>by
 unfold EK at e;split at e
 ·split at e
  ·rename_i z;rw[N7]at z;cases e;obtain⟨p,xs,rfl,a,b⟩:=h2.ofLst;obtain⟨e1,f1⟩:=h1.flat z.1;obtain⟨e2,f2⟩:=b.flat z.2;refine⟨p,xs,rfl,.inl (SqL.of (ay _ _ a)),f1,f2,?_⟩;rw[e1,e2];exact k _ H (av.refl _) is_bool
  ·cases e
 ·split at e
  ·rename_i z;rw[N7]at z;cases e;obtain⟨p,xs,rfl,a,b⟩:=h2.ofTup;obtain⟨e1,f1⟩:=h1.flat z.1;obtain⟨e2,f2⟩:=b.flat z.2;refine⟨p,xs,rfl,.inr (SqT.of (ay _ _ a)),f1,f2,?_⟩;rw[e1,e2];exact k _ H (av.refl _) is_bool
  ·cases e
 ·cases e
theorem Mf(ha:PD X E a ga)(c:PD X E b gb)(hm:behindInMarks .In b=false):PD X E (.Compare a [.In] [b] pos) (g2 (EK false) ga gb):=iO Jj ha c λh1 h2=>oS BE h1 h2 hm
def nu(f e:PyData->PyData->Option PyData)(a b c:Ds->Rs PyData):Ds->Rs PyData:=λδ=>(a δ).bind λx=>(b δ).bind λy=>(Rs.eN (f x y)).bind λz=>(truth z).bind λt=>if t=true then (c δ).bind λw=>Rs.eN (e y w) else .ok (.bool false)
theorem Ed{g:CmpOp}{r p:R2}{f i:PyData->PyData->Option PyData}(y:OpR X (compareOp op) r)(l:OpR X (compareOp g) p)(B:OpD X.K f r)(m:OpD X.K i p)(ha:PD X E a ga)(D:PD X E b gb)(hc:PD X E c gc)
  (hm:lastMarks [op,g] [b,c]=false:=by with_unfolding_all rfl):PD X E (.Compare a [op,g] [b,c] pos) (nu f i ga gb gc):=(DZ y l ha D hc hm).imp λσ H Q n=>by
 obtain⟨A,δ,R,o⟩:=n;unfold nu at o;refine eD.run R (λd1 e1 v H1 j F h1=>?_) (λC e H' s'=>by rw[e]at o;exact o H' s') (λe=>by rw[e]at o;exact o);simp only[e1,Rs.ag]at o;refine eD.run F (λd2 e2 u H2 s2 R2 h2=>?_) (λC e H' s'=>by rw[e]at o;exact o H' (j.trans s')) (λe=>by rw[e]at o;exact o);simp only[e2,Rs.ag]at o;cases e3:f d1 d2 with
 |none=>rw[e3]at o;exact o.elim
 |some z =>
  simp only[e3,Rs.aj,Rs.ag]at o;refine B d1 d2 z v u H2 A _ e3 R2.ls (h1.same s2.del) h2 λw G h I=>?_
  obtain⟨t,rfl,o⟩:=qk o;refine⟨t,I.ofBool,?_⟩;cases t with
  |false=>exact o _ G (j.trans (s2.trans h)) is_bool
  |true =>
   have o:ik X.K E A H ((gc δ).bind λw=>Rs.eN (i d2 w)) Q:=o;refine eD.run (R2.same h) (λq J L M s N O=>?_) (λC e H' s'=>by rw[e]at o;exact o H' (j.trans (s2.trans (h.trans s')))) (λe=>by rw[e]at o;exact o);simp only[J,Rs.ag]at o;cases e5:i d2 q with
   |none=>rw[e5]at o;exact o.elim
   |some d=>rw[e5]at o;exact m d2 q d u L M A Q e5 N.ls (h2.same (h.trans s).del) O λx P S T=>o x P (j.trans (s2.trans (h.trans (s.trans S)))) T
theorem Ia(ha:PD X E a ga)(e:PD X E b gb)(hc:PD X E c gc)(hm:lastMarks [.LtE,.LtE] [b,c]=false):PD X E (.Compare a [.LtE,.LtE] [b,c] pos) (nu dLe dLe ga gb gc):=Ed AS AS (jR λ_ _ _ _=>is_bool) (jR λ_ _ _ _=>is_bool) ha e hc hm
end
section
variable {E:XK}{a b c:Expr}
def kl(i j c:Int):Nat:=(Builtin.Range.rangeSize i j c).toNat
theorem mJ(a b c:Int):0<=Builtin.Range.rangeSize a b c:=by
 unfold Builtin.Range.rangeSize;split
 ·split
  ·rename_i h1 h2;have:0<=(b-a-1) / c:=ON (by omega) (by omega);omega
  ·omega
 ·split
  ·rename_i h1 h2;by_cases hc:c=0
   ·subst hc;simp
   ·have:0<=(a-b-1) / (-c):=ON (by omega) (by omega);omega
  ·omega
def nh(i j c:Int):Bool:=decide (-(1000000)<=i/\i<=1000000/\-(1000000)<=j/\j<=1000000/\-(1000000)<=c/\c<=1000000/\c≠0)&&Builtin.Range.small i j c
def pW(lo c:Int)(n:Nat):List PyData:=(List.range n).map λ(i:Nat)=>PyData.int (lo+(i:Int)*c)
def Mt:List PyData->Rs (List PyData)
 |[.int i,.int j,.int c]=>if nh i j c then .ok (pW i c (kl i j c)) else .no
 |_=>.no
def LB(g:Ds->Rs (List PyData)):Ds->Rs (List PyData):=λδ=>(g δ).bind Mt
theorem M7{d e f:PyData}(h:Iss K H [d,e,f] vs):∃v u w,vs=[v,u,w]/\Is K H d v/\Is K H e u/\Is K H f w:=by obtain⟨v,r,rfl,h1,h2⟩:=h.cons_of;obtain⟨u,w,rfl,a,b⟩:=HQ h2;exact⟨v,u,w,rfl,h1,a,b⟩
def tLR(ta:TA):TE:=λσ H Q=>ta σ H λvs H1=>∃j:Int,vs=[.int j]/\0<=j/\j<=1000000/\∀p,H1 p=none->Q (.ref p) (upd H1 p (.lst ((List.range j.toNat).map λ(i:Nat)=>V.int (i:Int))))
theorem Kz{s2:Shared}{Q:VK}{j:Int}{tk:Nat}{a:Array Value}{c':Nat}(c:Inv X pins σ H1 s2)(g:∀b o,s2.heap.get? b=some o->h'.get? b=some o)
 (hl:h'.get? s2.heap.objs.size=some { cls:=.type "list",dict:=none,data:=.seq a c',slots:=#[] }) (hi:ItemsOf (λi v=>∃t,v=.int ((0:Int)+(i:Int)*1) t) a j.toNat) (q1:0<=j) (q2:j<=1000000)
 (q:∀p,H1 p=none->Q (.ref p) (upd H1 p (.lst ((List.range j.toNat).map λ(i:Nat)=>V.int (i:Int))))):EP X pins σ Q (.ref s2.heap.objs.size) { s2 with heap:=h',toks:=tk }:=by
 have h:Vals ((List.range j.toNat).map λ(i:Nat)=>V.int (i:Int)) a.toList:=by
  have aux:∀(l:List Value)(k:Nat),(∀(m:Nat) v,l[m]?=some v->∃t,v=.int ((0:Int)+((k+m:Nat):Int)*1) t)->Vals ((List.range' k l.length).map λ(i:Nat)=>V.int (i:Int)) l:=by
   intro l
   induction l with
   |nil=>intro k _;exact .nil
   |cons x r ih =>
    intro k f;rw[NJ,Pr,N1];refine .cons ?_ (ih (k+1) λm v hm=>?_)
    ·obtain⟨t,e⟩:=f 0 x rfl;exact⟨t,by rw[e];simp⟩
    ·obtain⟨t,e⟩:=f (m+1) v (by simpa using hm);exact⟨t,by rw[e,show k+(m+1)=k+1+m by omega]⟩
  have h1:=aux a.toList 0 (λm v hm=>by obtain⟨t,e⟩:=hi.2 m v (by rw[<-P5];exact hm);exact⟨t,by rw[e];simp⟩)
  rw[NZ,hi.1]at h1;rw[List.range_eq_range'];exact h1
 exact⟨.ref s2.heap.objs.size,_,c.laid (t':=tk) g (N6 _) (show dr X.prog X.w _ h' _ (.lst ((List.range j.toNat).map λ(i:Nat)=>V.int (i:Int))) from⟨by rw[N4,Po,sizeLine_eq];omega,a.toList,c',h,by simpa using hl⟩),rfl,q _ (c.hok.fresh (N6 _))⟩
theorem vM{c:Pos}(hc:X.calm=true)(v:Gl X "range")(hm:X.mg "range"=none)(g:Gl X "list")(i:X.mg "list"=none)(ha:PA X [a] ta)(w:starEach [a] X.env=[(false,eval a X.env)]:=by rfl)
  (f:starEach [.Call (.Name "range" p) [a] [] pos] X.env=[(false,eval (.Call (.Name "range" p) [a] [] pos) X.env)]:=by rfl) :
  PE X (.Call (.Name "list" p2) [.Call (.Name "range" p) [a] [] pos] [] c) (tLR ta):=by
 intro pins s σ H Q I h;refine Call_ (fz I g i uM (PyProof.Rows.callWith_type1 ?_ f rfl));rw[f];show wpAny _ _ (spliced ((false,eval (.Call (.Name "range" p) [a] [] pos) X.env)::backTo c [])) _ _ s;refine Calls.spliced_cons (Call_ (fz I v hm boot_range (PyProof.Rows.callWith_type1 (thn (ha pos pins s σ H _ I h) λus s1 l=>?_) w rfl)));obtain⟨vs,H1,u,x,m⟩:=l;obtain⟨j,e,m,y,q⟩:=m;subst e;cases x with
 |cons r rr =>
  cases rr;obtain⟨t,rfl⟩:=r;refine call_range_1 (Calls.spliced_nil ?_);have e2:Builtin.Range.rangeSize 0 j 1=((j.toNat:Nat):Int):=by rw[rangeSize_one];split <;> omega
  refine call_list_range (n:=j.toNat) (u.ok.hd hc) (IsRange.new ..) (small_one (by omega) (by omega) (by omega) (by omega)) e2 (by omega) λh' tk acc' c' z hl hi=>?_
  exact Kz (u.kept λb o e=>N2 _ e) z hl hi m y q
def vg:List PyData->Rs (List PyData)
 |[.int j]=>if 0<=j/\j<=1000000 then .ok (bK 0 j.toNat) else .no
 |_=>.no
def gLR(g:Ds->Rs (List PyData)):Ds->Rs (List PyData):=λδ=>(g δ).bind vg
theorem B9{b:Pos}(hc:X.calm=true)(hm:X.mg "range"=none)(c:X.mg "list"=none)(ha:PAD X E [a] gs)(r:Gl X "range")(f:Gl X "list")(s:starEach [a] X.env=[(false,eval a X.env)])
  (g:starEach [.Call (.Name "range" p) [a] [] pos] X.env=[(false,eval (.Call (.Name "range" p) [a] [] pos) X.env)]):PLD X E (.Call (.Name "list" p2) [.Call (.Name "range" p) [a] [] pos] [] b) (gLR gs) :=
 (vM hc r hm f c ha.1 s g).imp λσ H Q l=>by
  obtain⟨A,δ,R,o⟩:=l;unfold gLR at o;refine aD.run R (λds e vs H1 m R1 h1=>?_) (λC e H' s'=>by rw[e]at o;exact o H' s') (λe=>by rw[e]at o;exact o);simp only[e,Rs.ag]at o;unfold vg at o;split at o
  ·split at o
   ·rename_i j z;obtain⟨v,rfl,h⟩:=kI h1;rw[h.ofInt];refine⟨j,rfl,z.1,z.2,λq n=>o q _ _ (m.free n) (m.trans (bE n)) aE ?_⟩;have:bK 0 j.toNat=((List.range j.toNat).map λ(i:Nat)=>(i:Int)).map PyData.int:=by unfold bK;rw[NG];congr 1;funext i;simp
    rw[this,show ((List.range j.toNat).map λ(i:Nat)=>V.int (i:Int))=((List.range j.toNat).map λ(i:Nat)=>(i:Int)).map V.int by rw[NG];rfl];exact qW _
   ·exact o.elim
  ·exact o.elim
end
theorem xI(t:Addr)(xs:Array Value):Meets (Builtin.«enumerate.__new__» ⟨[.type "enumerate",.ref t],[]⟩) (λ_ R s=>s.heap.IsTuple t xs /\
   R (.ok (.ret (.ref (s.heap.push { cls:=.type "tuple_iterator",data:=.fields #[.ref t,.int 0 0] }).objs.size)))
    { s with heap:=(s.heap.push { cls:=.type "tuple_iterator",data:=.fields #[.ref t,.int 0 0] }).push { cls:=.type "enumerate",data:=.fields #[.none,.bool false,.ref s.heap.objs.size,rawInt 0,.none,.none] } }) :=
 .of_wp λprog w A R s h=>by
  obtain⟨b,g,d,tk,os⟩:=s;obtain⟨hl,h⟩:=h;have hsub:=sub_enumerate;have a:Heap.IsTuple (Shared.heap ⟨b,g,d,tk,os⟩) t xs:=hl
  wp_walk
  refine wpAny_stack_any λst=>wpAny_pure ?_
  split
  ·rename_i c _ _ _ _ _;cases (c==Value.type "enumerate")
   ·wp_walk using wpAny_pyIter_tuple a
    exact⟨_,rfl,h⟩
   ·wp_walk using wpAny_pyIter_tuple a
    exact⟨_,rfl,h⟩
  ·wp_walk using wpAny_pyIter_tuple a
   exact⟨_,rfl,h⟩
theorem zN{A:Around}{l:Addr}(f:s.heap.IsTuple l items)
  (h:∀h',IsEnum h' (s.heap.objs.size+1) s.heap.objs.size 0 .none->h'.IsTupleIter s.heap.objs.size l 0->(∀b o,s.heap.get? b=some o->h'.get? b=some o)->Q (.ref (s.heap.objs.size+1)) { s with heap:=h' }) :
  wpAny (model prog w) A (call (.type "enumerate") [.ref l]) Q E s:=by
 refine callType_new F.called_enumerate (by decide) (F.typeCall_enumerate_1 _) (F.newCall_enumerate_1 _) (λobj=>F.args_object_init_2 obj _) F.entry_enumerate_new (xI l items) ⟨f,?_⟩;have a:(s.heap.push { cls:=.type "tuple_iterator",data:=.fields #[.ref l,.int 0 0] }).objs.size=s.heap.objs.size+1:=Heap.size_push ..;show _/\_;rw[a];have c:IsEnum ((s.heap.push { cls:=.type "tuple_iterator",data:=.fields #[.ref l,.int 0 0] }).push
   { cls:=.type "enumerate",data:=.fields #[.none,.bool false,.ref s.heap.objs.size,rawInt 0,.none,.none] }) (s.heap.objs.size+1) s.heap.objs.size 0 .none:=by
  have:=NB (s.heap.push { cls:=.type "tuple_iterator",data:=.fields #[.ref l,.int 0 0] })
   (o:={ cls:=.type "enumerate",data:=.fields #[.none,.bool false,.ref s.heap.objs.size,rawInt 0,.none,.none] }) rfl
  rw[a]at this;exact this
 refine⟨⟨_,c,rfl⟩,h _ c ⟨_,N2 _ (NB _ rfl),rfl,rfl⟩ λb o e=>N2 _ (N2 _ e)⟩
def Ite(P:Hp->List V->Prop)(n:Nat):It :=
 ⟨λi H=>i<n/\∃xs,P H xs/\xs.length=n,
  λi H v H'=>∃t x,v=.ref t/\H t=none/\H'=upd H t (.tup [.int i,x])/\∀xs,P H xs->xs[i]?=some x,
  λi H=>i=n/\∃xs,P H xs/\xs.length=n⟩
theorem sJ{e:Addr}{n:Nat}{r:Hp->List V->Prop}{S:Nat->Heap->Prop}{B:Heap->Array Value->Prop}(f:e≠it)(C:e≠a)
  (M:∀(A:Around),A.handled=none->∀b:Array Value,Draws P w A it [it,a] b.size (λi v=>b[i]?=some v) (λi h=>S i h/\B h b))
  (hB:∀(X:Cx),X.prog=P->X.w=w->X.K=K->∀{pins:List (Addr×Obj)}{s:Shared}{σ:St}{H:Hp}{xs:List V},Inv X pins σ H s->r H xs->∃b:List Value,Vals xs b/\B s.heap b.toArray)
  (R:∀(X:Cx),X.prog=P->X.w=w->X.K=K->∀{pins:List (Addr×Obj)}{s:Shared}{σ:St}{H:Hp}{xs ys:List V},Inv X pins σ H s->r H xs->r H ys->xs=ys)
  (N:∀i h,S i h->∃o,h.get? it=some o/\∀v,o.data≠.cell v) (hK:∀i h h',S i h->(∀o,h.get? it=some o->h'.get? it=some o)->S i h') :
  Turn P w K (.Tuple elts x1 tp) (Ite r n) [e,it] e (λi h=>(∃old,IsEnum h e it i old)/\S i h) where
 mem:=by simp
 obj:=λi h st c hc=>by
  obtain⟨⟨old,h1⟩,h2⟩:=st;simp only[N5,NN,or_false]at hc;rcases hc with rfl|rfl
  ·exact⟨_,h1,λv q=>by cases q⟩
  ·exact N i h h2
 keep:=λi h h' st k=>by obtain⟨⟨old,h1⟩,h2⟩:=st;exact⟨⟨old,k e (by simp) _ h1⟩,hK i h h' h2 λo q=>k it (by simp) o q⟩
 item:=by
  intro X D hw g hc i pins s σ H E I u st F;subst D hw g;obtain⟨hi,xs,y,T⟩:=F;obtain⟨⟨old,h1⟩,h2⟩:=st;obtain⟨b,z,G⟩:=hB X rfl rfl rfl I y;have la:=z.length;refine wpAny_pyNext_enum_itemD (M X.A.in1 (I.ok.hd hc) b.toArray) h1 ⟨h2,G⟩ (by simp;omega) f (by simp[f,C]) λx h' tk U Y Z hT hsz hk=>⟨_,rfl,?_⟩
  refine wpAny_letOwnedTupleGo_enum (s:={ s with heap:=h',toks:=tk+1 }) Y λJ d1 d2=>?_
  have O:e<s.heap.objs.size:=Nz h1;have il:it<s.heap.objs.size:=by obtain⟨o,q,_⟩:=N i _ h2;exact Nz q
  have L:∀c o,c≠e->h'.get? c=some o->J.get? c=some o:=λc o hc q=>(d2.2 c hc).trans q
  obtain⟨l,ex,rx⟩:∃l,xs[i]?=some l/\RelV l x:=by
   have m:i<xs.length:=by omega
   obtain⟨u',e1,e2⟩:=z.get (My m);refine⟨xs[i],My m,?_⟩;have p:b[i]?=some x:=by simpa using U
   rw[e1]at p;cases p;exact e2
  have fr:H s.heap.objs.size=none:=I.hok.fresh (N6 _);refine⟨.ref s.heap.objs.size,upd H s.heap.objs.size (.tup [.int i,l]),?_,rfl,⟨_,l,rfl,fr,rfl,λys h=>by rw[R X rfl rfl rfl I h y];exact ex⟩,?_,λc j=>?_⟩
  ·refine I.turnLay (t':=tk+1) (ch:=[e,it]) u (N6 _) (λc o hn q=>?_) ⟨by show 2<=sizeLine;decide,[.int i tk,x],.cons ⟨tk,rfl⟩ (.cons rx .nil),⟨_,L _ _ (Oy O) hT,rfl,rfl,_,rfl⟩⟩;simp only[N5,NN,or_false,not_or]at hn;exact L c o hn.1 (hk c o hn.1 hn.2 q)
  ·exact⟨⟨x,by simpa using d1⟩,hK _ _ _ Z.1 λo q=>L it o f.symm q⟩
  ·have Q:=(u c j).1;simp only[N5,NN,or_false]at j;rcases j with rfl|rfl
   ·rw[az (ND O)];exact Q
   ·rw[az (ND il)];exact Q
 done:=by
  intro X D hw g hc i pins s σ H E I u st F;subst D hw g;obtain⟨hi,xs,y,T⟩:=F;obtain⟨⟨old,h1⟩,h2⟩:=st;obtain⟨b,z,G⟩:=hB X rfl rfl rfl I y;have la:=z.length;have e':b.toArray.size=i:=by simp;omega
  refine wpAny_pyNext_enum_endD (M X.A.in1 (I.ok.hd hc) b.toArray) h1 ⟨by rw[e'];exact h2,G⟩ λh' k=>⟨rfl,?_⟩
  refine I.turneds (t':=s.toks) (ch:=[e,it]) u λc o hn q=>?_
  simp only[N5,NN,or_false,not_or]at hn;exact k c o hn.2 q
 self:=λ_ _ _ _ _ st h=>by obtain⟨⟨old,h1⟩,_⟩:=st;exact wpAny_pyIter_enum h1 h
theorem G1:bootBuiltins "enumerate"=some (.type "enumerate"):=by decide +kernel
def Lz(K:W.Frag)(ta:TA):TI:=λσ H R=>ta σ H λvs H1=>∃a xs,vs=[.ref a]/\((SqT K H1 a xs/\R (Ite (λH ys=>SqT K H a ys) xs.length) H1)\/(SqL K H1 a xs/\R (Ite (λH ys=>SqL K H a ys) xs.length) H1))
theorem Ip{a:Expr}(G:Gl X "enumerate")(hm:X.mg "enumerate"=none)(ha:PA X [a] ta)(J:starEach [a] X.env=[(false,eval a X.env)]:=by rfl) :
  PI X (.Tuple elts x1 tp) (.Call (.Name "enumerate" p) [a] [] pos) (Lz X.K ta):=by
 intro pins s σ H R I h;refine Call_ (fz I G hm G1 (PyProof.Rows.callWith_type1 (thn (ha pos pins s σ H _ I h) λus f y=>?_) J rfl));obtain⟨vs,H1,l,L,M⟩:=y;obtain⟨j,xs,e,q⟩:=M;subst e;obtain⟨u1,e1,N⟩:=vals1 L;subst e1;cases N;have big:∀c∈[f.heap.objs.size+1,f.heap.objs.size],f.heap.objs.size<=c:=λc hc=>by
  simp only[N5,NN,or_false]at hc;rcases hc with rfl|rfl
  ·exact Pb _
  ·exact N6 _
 have m:f.heap.objs.size+1≠f.heap.objs.size:=Nat.succ_ne_self _;rcases q with⟨z,q⟩|⟨z,q⟩
 ·obtain⟨b,n,pt,_⟩:=l.tuple z;have u:f.heap.IsTuple j b.toArray:=pt;have w:j<f.heap.objs.size:=by obtain⟨_,g,_⟩:=u;exact Nz g
  refine zN u λh' x hit C=>wpAny_pyIter_enum x ?_
  have D:Inv X pins σ H1 { f with heap:=h' }:=l.kept (t':=f.toks) C;refine⟨_,_,_,_,H1,rfl,D,sJ (a:=j) (S:=λi h=>h.IsTupleIter f.heap.objs.size j i) (B:=λh b=>h.IsTuple j b) m (Oy (Og w)) (λA E b=>kA E f.heap.objs.size j (ND w) b)
   (λX' _ _ hK{_ _ _ _ _} I h=>?_) (λX' _ _ hK{_ _ _ _ _ _} I h1 h2=>?_) (λi h st=>?_) (λi h F st k=>?_),⟨⟨_,x⟩,hit⟩,λc hc=>l.fpOk (big c hc) (l.hok.fresh (big c hc)),q⟩
  ·rw[<-hK]at h;obtain⟨b,n,p,_⟩:=I.tuple h;exact⟨b,n,p⟩
  ·rw[<-hK]at h1 h2;exact I.tuple_inj h1 h2
  ·obtain⟨o,g,_,d⟩:=st;exact⟨o,g,λv q=>by rw[d]at q;cases q⟩
  ·obtain⟨o,g,r⟩:=st;exact⟨o,k o g,r⟩
 ·obtain⟨b,n,pl,_⟩:=l.list z;have w:j<f.heap.objs.size:=by obtain⟨_,_,g,_⟩:=pl;exact Nz g
  refine call_enumerate_list pl.isList λh' x hit hz C=>wpAny_pyIter_enum x ?_
  have D:Inv X pins σ H1 { f with heap:=h' }:=l.kept (t':=f.toks) C;refine⟨_,_,_,_,H1,rfl,D,sJ (a:=j) (S:=λi h=>h.IsListIter f.heap.objs.size j i) (B:=λh b=>h.IsList j b) m (Oy (Og w)) (λA E b=>Draws.list E f.heap.objs.size j (ND w) b)
   (λX' _ _ hK{_ _ _ _ _} I h=>?_) (λX' _ _ hK{_ _ _ _ _ _} I h1 h2=>?_) (λi h st=>?_) (λi h F st k=>?_),⟨⟨_,x⟩,hit⟩,λc hc=>l.fpOk (big c hc) (l.hok.fresh (big c hc)),q⟩
  ·rw[<-hK]at h;obtain⟨b,n,p,_⟩:=I.list h;exact⟨b,n,p.isList⟩
  ·rw[<-hK]at h1 h2;exact I.list_inj h1 h2
  ·obtain⟨o,g,_,d⟩:=st;exact⟨o,g,λv q=>by rw[d]at q;cases q⟩
  ·obtain⟨o,g,r⟩:=st;exact⟨o,k o g,r⟩
def fW(ds:List PyData):List PyData:=ds.mapIdx λi d=>.tuple [.int i,d]
theorem i6(ds:List PyData):(fW ds).length=ds.length:=by simp[fW]
theorem sy{f:Hp->List V->Prop}(h:Iss K G ds xs)(a:∀H1,av G H1->f H1 xs):BU K (Ite f xs.length) (fW ds) G:=λH1 B s j hB=>by have hl:=h.length;rw[i6];refine⟨λi hi=>⟨by omega,xs,a H1 s,rfl⟩,⟨hl.symm,xs,a H1 s,rfl⟩,λi x H2 hi y=>?_⟩;obtain⟨t,x0,rfl,c,rfl,l⟩:=y;obtain⟨d,e,hd⟩:=h.get (l xs (a H1 s));refine⟨bE c,.tuple [.int i,d],by unfold fW;rw[OC,e];rfl,?_⟩;have m:t∉B:=j.new c;exact iM (by rw[aN m];exact aE) (cJ bF (jk (hd.same (λb o q=>by have g:=s b o q;have n:b≠t:=aI g c;rw[aN (λz=>by rw[hB b z]at q;cases q),az n];exact g))))
section
variable {E:XK}{a b c e k:Expr}{gk:Ds->Rs PyData}{es:List Expr}
def rC:List PyData->Rs (List PyData)
 |[.list ds]=>.ok (fW ds)
 |[.tuple ds]=>.ok (fW ds)
 |_=>.no
def fJ(g:Ds->Rs (List PyData)):Ds->Rs (List PyData):=λδ=>(g δ).bind rC
theorem FE(hm:X.mg "enumerate"=none)(ha:PAD X E [a] gs)(f:Gl X "enumerate")(g:starEach [a] X.env=[(false,eval a X.env)]) :
  PID X E (.Tuple elts x1 tp) (.Call (.Name "enumerate" p) [a] [] pos) (fJ gs):=(Ip f hm ha.1 g).imp λσ H R ⟨A,δ,Rp,o⟩=>zQ Rp o λds vs H1 e s1 R1 h1 o=>by
 unfold rC at o;split at o
 ·obtain⟨v,rfl,h⟩:=kI h1;obtain⟨p,xs,rfl,b,c⟩:=h.ofLst;exact⟨p,xs,rfl,.inr ⟨SqL.of (ay _ _ b),o _ H1 (av.refl _) (sy c λH2 s2=>SqL.of (s2 _ _ b))⟩⟩
 ·obtain⟨v,rfl,h⟩:=kI h1;obtain⟨p,xs,rfl,b,c⟩:=h.ofTup;exact⟨p,xs,rfl,.inl ⟨SqT.of (ay _ _ b),o _ H1 (av.refl _) (sy c λH2 s2=>SqT.of (s2 _ _ b))⟩⟩
 ·exact o.elim
def ji(y x:Nat)(gk:Ds->Rs PyData):Ds->Sr:=λδ=>match δ[y]?,δ[x]? with
 |some (some (.list ys)),some (some (.list xs))=>ofR (gk δ) λk=>match k with
  |.int k=>if -(1000000)<=k/\k<=1000000/\ys.length<1000000 then (match ixN xs.length k with
   |some j=>match xs[j]? with
    |some d=>.nx ((δ.set x (some (.list (xs.eraseIdx j)))).set y (some (.list (ys++[d]))))
    |none=>.no
   |none=>.no) else .no
  |_=>.no
 |_,_=>.no
theorem zA{y x:Nat}{a nx:Str}{v M B b h c:Pos}(hk:PD X E k gk)(G:x≠y)(i:y∈O)(l:x∈O)(P:X.N[y]?=some a)(Q:X.N[x]?=some nx)
  (S:Vis X.env.scope a) (T:Vis X.env.scope nx)
  (U:(a==("__debug__":Str))=false) (I:(a==("__classdict__":Str))=false) (W:(nx==("__debug__":Str))=false) (J:(nx==("__classdict__":Str))=false)
  (K:starEach [k] X.env=(false,eval k X.env)::starEach [] X.env) (g:starEach [.Call (.Attribute (.Name nx b) "pop" h) [k] [] c] X.env=(false,eval (.Call (.Attribute (.Name nx b) "pop" h) [k] [] c) X.env)::starEach [] X.env)
  (m:attributeBase (.Name nx b) "pop" X.env (eval (.Name nx b) X.env)=eval (.Name nx b) X.env) (e:attributeBase (.Name a v) "append" X.env (eval (.Name a v) X.env)=eval (.Name a v) X.env)
  (L:((backTo c (starEach [k] X.env)).all (λx=>!x.1)&&(backToKw c (keywordEach [] X.env)).all (λx=>x.1.isSome)&&decide (([k]:List Expr).length+([]:List Keyword).length+(if ([]:List Keyword).isEmpty then 0 else 1)<30))=true)
  (n:((backTo B (starEach [.Call (.Attribute (.Name nx b) "pop" h) [k] [] c] X.env)).all (λx=>!x.1)&&(backToKw B (keywordEach [] X.env)).all (λx=>x.1.isSome)&&decide (([.Call (.Attribute (.Name nx b) "pop" h) [k] [] c]:List Expr).length+([]:List Keyword).length+(if ([]:List Keyword).isEmpty then 0 else 1)<30))=true)
  (q:(h.endLine==c.line)=true) (f:(M.endLine==B.line)=true)
  (hs:swapsWith (.Call (.Attribute (.Name a v) "append" M) [.Call (.Attribute (.Name nx b) "pop" h) [k] [] c] [] B) none pos.line X.env=pure false) :
  PSD X E O (.Expr (.Call (.Attribute (.Name a v) "append" M) [.Call (.Attribute (.Name nx b) "pop" h) [k] [] c] [] B) pos) (ji y x gk) :=
 (oU (Dw F.plainAttrs_list F.slot_list_append F.type_list_append mM (j9 P S U I) (eM (Dw F.plainAttrs_list F.slot_list_pop F.type_list_pop FH (j9 Q T W J) (eM hk gw K) m L q K rfl) gw g) e n f g rfl) hs).imp λD σ H Y=>by
  obtain⟨H0,A0,A,δ,R,o⟩:=Y;unfold ji at o;split at o
  ·rename_i ys xs Z qx;obtain⟨p,vy,dy,e1,hp,hl,e2,hx⟩:=R.ownL i Z;cases e2;obtain⟨r,vx,dx,f1,hr,hm,f2,hz⟩:=R.ownL l qx;cases f2;have npr:p≠r:=λz=>G (R.inj x y _ _ p l i qx Z (by rw[z];exact f1) e1)
   refine⟨_,e1,tyL hl,_,f1,tyL hm,?_⟩;refine eD.run R.full (λkd ek u H1 s R1 hu=>?_) (λC et H' s'=>by rw[et]at o;exact o H' (R.same.trans s')) (λet=>by rw[et]at o;exact o);simp only[ek,ax]at o;split at o
   ·rename_i kk;split at o
    ·rename_i hb;split at o
     ·rename_i j hj;split at o
      ·rename_i d hd;obtain⟨w,hw,hwd⟩:=hz.getD hd;have hj':=hj;obtain⟨g1,g2,g3,g4⟩:=uq hj;have RS:=R.step s;have RS2:=RS.put (ds:=xs.eraseIdx j) (ys:=vx.eraseIdx j) l qx f1 hr ((hz.same s.del).eraseIdx j);refine⟨r,vx,kk,j,w,rfl,by rw[hu.ofInt],s _ _ hm,by omega,by omega,by rw[hz.length];exact g1,hw,?_⟩;have dU:del (upd H1 r (.lst (vx.eraseIdx j))) (A++A0)=del H1 (A++A0):=kE (O4 _ hr);refine⟨p,vy,w,rfl,rfl,by rw[az npr];exact s _ _ hl,by rw[hx.length,sizeLine_eq];omega,?_⟩;refine o A _ _ (RS2.put (ds:=ys++[d]) i (by rw[NX G];exact Z) e1 hp ?_);rw[dU];exact (hx.same s.del).append (jk (hwd.same s.del))
      ·exact o.elim
     ·exact o.elim
    ·exact o.elim
   ·exact o.elim
  ·exact o.elim
end
theorem wO:isSubtype (.type "tuple") (.type "set")=pure false:=by rw[isSubtype_type];kernel_rfl
theorem vY:isSubtype (.type "tuple") (.type "frozenset")=pure false:=by rw[isSubtype_type];kernel_rfl
section
variable {A:Around}
def seen(ns:List Int)(n:Nat):List Int:=firstMet (λi=>ns.getD i 0) n
theorem CN{a:Array Value}(G:A.handled=none)(H:s.heap.IsTuple f a)(hi:IntsAre a.toList ns)(l:a.size+1<scanBound)
  (I:∀(h':Heap)(tk:Nat),h'.SetOf (intKind prog w) s.heap.objs.size (λk=>(seen ns a.size).any (·==k)) (seen ns a.size).length->(∀b o,b<s.heap.objs.size->s.heap.get? b=some o->h'.get? b=some o)->Q (.ref s.heap.objs.size) { s with heap:=h',toks:=tk }) :
  wpAny (model prog w) A (call (.type "set") [.ref f]) Q E s:=by
 obtain⟨c,tl,mro⟩:=F.called_set.mro;have m1:=F.called_set.made;have m2:=F.called_set.sub;refine wpAny_call (codeAny_of_tree ?_);show wpAny _ _ (callAny (.type "set") _) _ _ _;refine wpAny_pure ⟨Code.quiet_builtin _ (by decide +kernel),codeAny_builtin F.entry_type_call ?_⟩;rw[Around.under_plain (weight_type_call_type "set" [.ref f] []) rfl];have m3:=F.called_set.notType;have m4:=F.called_set.canCreate;have m5:=F.typeCall_set_1 (.ref f)
 repeat (any_goals (first|assumption|wp_step))
 refine codeAny_mono (PySem.code_set_new_1 (.ref f) (E:=E) (Q₁:=λy z=>∃led:Bool,y=.ref s.heap.objs.size/\z={ s with heap:=s.heap.push { cls:=.type "set",dict:=none,data:=.set #[] 0 (.fresh 0 0 led) } }) λled=>⟨led,rfl,rfl⟩) λr z n=>?_
 cases r with
 |error ev=>exact n
 |ok fl =>
  cases fl with
  |ret y =>
   obtain⟨led,rfl,rfl⟩:=n;have B:(s.heap.push { cls:=.type "set",dict:=none,data:=.set #[] 0 (.fresh 0 0 led) }).get? s.heap.objs.size=some { cls:=.type "set",dict:=none,data:=.set #[] 0 (.fresh 0 0 led) }:=NB _ rfl;have J:Shared.TypeIs { s with heap:=s.heap.push { cls:=.type "set",dict:=none,data:=.set #[] 0 (.fresh 0 0 led) } } (.ref s.heap.objs.size) "set":=⟨_,B,rfl⟩
   have m6:=F.called_set.init.lookup;have m7:=F.called_set.init.bind (.ref s.heap.objs.size)
   repeat (any_goals (first|assumption|wp_step))
   refine codeAny_mono (codeAny_call_builtin (R:=wants (λC s2=>C=.none/\∃h' tk,s2={ s with heap:=h',toks:=tk }/\h'.SetOf (intKind prog w) s.heap.objs.size (λk=>(seen ns a.size).any (·==k)) (seen ns a.size).length /\
     (∀b o,b<s.heap.objs.size->s.heap.get? b=some o->h'.get? b=some o)) E) F.called_set.init.plain F.entry_set_init (PySem.check_set_init_1 J ?_)) λK s2 g=>?_
   ·obtain⟨⟨oc,od,oda,osl⟩,go,gc,p,D⟩:=H;simp only at gc D;subst gc;subst D;have go':(s.heap.push { cls:=.type "set",dict:=none,data:=.set #[] 0 (.fresh 0 0 led) }).get? f=some { cls:=.type "tuple",dict:=od,data:=.seq a p,slots:=osl }:=N2 _ go;have n1:=wO;have n2:=vY;have n3:(Value.type "tuple"==Value.type "dict")=false:=by decide
    have L:(s.heap.push { cls:=.type "set",dict:=none,data:=.set #[] 0 (.fresh 0 0 led) }).IsTuple f a:=⟨_,go',rfl,p,rfl⟩
    unfold Builtin.«set.__init__» noKeywords Builtin.Frozenset.updateFrom;generalize zz:pyIter=PI
    wp_walk
    subst zz;refine wpAny_pyIter_tuple L (wpAny_bind (wpAny_runValue ?_));have j:f<s.heap.objs.size:=Nz go;have M:A.in1.in1.in1.handled=none:=by simp[G]
    have ne1:f≠(s.heap.push { cls:=.type "set",dict:=none,data:=.set #[] 0 (.fresh 0 0 led) }).objs.size:=by rw[Heap.size_push];exact ND (Og j)
    have q:s.heap.objs.size∉[(s.heap.push { cls:=.type "set",dict:=none,data:=.set #[] 0 (.fresh 0 0 led) }).objs.size,f]:=by rw[Heap.size_push];simp only[N5,NA,NN,or_false,not_or];exact⟨ND (OH _),Oy j⟩
    have N:∀(i:Nat)(v:Value),a[i]?=some v->∃t,v=.int ((λi=>ns.getD i 0) i) t:=λi v O=>IntsAre.int_at hi i v (by rw[P5];exact O)
    refine codeAny_set_update_loopS ((Walks.tuple M _ f ne1 a).toS) s.heap.objs.size q (λi=>ns.getD i 0) N l (a.size-0) 0 _ (by omega) (Oc _) ⟨⟨_,NB _ rfl,rfl,rfl⟩,⟨_,N2 _ go',rfl,p,rfl⟩⟩ ?_ ?_
    ·have P:((s.heap.push { cls:=.type "set",dict:=none,data:=.set #[] 0 (.fresh 0 0 led) }).push { cls:=.type "tuple_iterator",data:=.fields #[.ref f,.int 0 0] }).get? s.heap.objs.size=some { cls:=.type "set",dict:=none,data:=.set #[] 0 (.fresh 0 0 led) }:=N2 _ B;exact SetOf_congr ((setObjOf_fresh (knd:=intKind prog w) led).setOf P (by unfold scanBound;omega)) (λ_=>rfl) rfl
    ·intro s' m h;obtain⟨h',g',d',u,x⟩:=s';have e1:g'=s.gens:=m.gens;have e2:d'=s.drawn:=m.drawn;have S:x=s.os:=m.os;subst e1;subst e2;subst S;show wpAny _ _ _ _ _ _;refine wpAny_pure ?_;show wpAny _ _ (ret Value.none) _ _ _;refine wpAny_pure ⟨rfl,h',u,rfl,h,λb o l e=>?_⟩;have T:b≠(s.heap.push { cls:=.type "set",dict:=none,data:=.set #[] 0 (.fresh 0 0 led) }).objs.size:=by rw[Heap.size_push];exact ND (Og l)
     exact m.heap b o (by simp only[N5,NA,NN,or_false,not_or];exact⟨ND l,T⟩) (N2 _ (N2 _ e))
   ·cases K with
    |error ev=>exact g
    |ok fl2 =>
     cases fl2 with
     |ret C =>
      obtain⟨rfl,h',tk,rfl,h,U⟩:=g
      repeat (any_goals (first|assumption|wp_step))
      exact I _ _ h U
     |_=>exact g.elim
  |_=>exact n.elim
end
section
variable {E:XK}{a b c e:Expr}{gc:Ds->Rs PyData}{es:List Expr}
theorem JP:bootBuiltins "set"=some (.type "set"):=by decide +kernel
def tLS(K:W.Frag)(ta:TA):TE:=λσ H Q=>ta σ H λvs H1=>∃(p:Addr)(ns:List Int),vs=[.ref p]/\SqT K H1 p (ns.map V.int)/\ns.length<=1000/\Q (.int (seen ns ns.length).length) H1
theorem BM{c:Pos}(hc:X.calm=true)(y:Gl X "set")(hm:X.mg "set"=none)(i:Gl X "len")(j:X.mg "len"=none)(ha:PA X [a] ta)(z:starEach [a] X.env=[(false,eval a X.env)]:=by rfl)
  (f:starEach [.Call (.Name "set" p) [a] [] pos] X.env=(false,eval (.Call (.Name "set" p) [a] [] pos) X.env)::starEach [] X.env:=by rfl) (l:(backTo c (starEach [] X.env)).any (·.1)=false:=by rfl) :
  PE X (.Call (.Name "len" p2) [.Call (.Name "set" p) [a] [] pos] [] c) (tLS X.K ta):=by
 intro pins s σ H Q I h;refine wpAny_Call_Name_kw (fz I i j PySem.boot_len ?_);refine PyProof.Rows.callWith_builtin1 ?_ f l;rw[f];show wpAny _ _ (spliced ((false,eval (.Call (.Name "set" p) [a] [] pos) X.env)::backTo c [])) _ _ s;refine Calls.spliced_cons (Call_ (fz I y hm JP (PyProof.Rows.callWith_type1 (thn (ha pos pins s σ H _ I h) λus v m=>?_) z rfl)));obtain⟨vs,H1,n,A,B⟩:=m;obtain⟨q,ns,e,C,hz,fin⟩:=B;subst e;obtain⟨u,rfl,D⟩:=vals1 A;cases D;obtain⟨g,w,pt,_⟩:=n.tuple C;have hl:=w.length;rw[N4]at hl;refine CN (n.ok.hd hc) (show v.heap.IsTuple q g.toArray from pt) (intsAre_of w) (by rw[NF];unfold scanBound;omega) λh' tk x E=>Calls.spliced_nil ?_
 have F:Inv X pins σ H1 { v with heap:=h',toks:=tk }:=n.kept λb o e=>E b o (Nz e) e
 have r:g.toArray.size=ns.length:=by rw[NF];exact hl.symm
 rw[r]at x;obtain⟨o,es',ep,t,G,ex,hd,_,_,J,L,hsz⟩:=x;refine PySem.call_len_set G ex hd L (by unfold scanBound at J;omega) ⟨.int (seen ns ns.length).length,H1,F.tok _,⟨_,by rw[hsz]⟩,fin⟩
def l9:List PyData->Option PyData
 |[.tuple x]=>(eV x).bind λns=>if ns.length<=1000 then some (.int (seen ns ns.length).length) else none
 |_=>none
theorem B2{b:Pos}(hc:X.calm=true)(hm:X.mg "set"=none)(c:X.mg "len"=none)(ha:PAD X E [a] gs)(l:Gl X "set")(f:Gl X "len")(m:starEach [a] X.env=[(false,eval a X.env)])
  (g:starEach [.Call (.Name "set" p) [a] [] pos] X.env=(false,eval (.Call (.Name "set" p) [a] [] pos) X.env)::starEach [] X.env) (h:(backTo b (starEach [] X.env)).any (·.1)=false) :
  PD X E (.Call (.Name "len" p2) [.Call (.Name "set" p) [a] [] pos] [] b) (gF l9 gs):=(BM hc l hm f c ha.1 m g h).imp λσ H Q ⟨A,δ,R,o⟩=>tZ R o λds vs H1 e s1 R1 h1 o=>by
 unfold l9 at o;split at o
 ·rename_i x;cases q:eV x with
  |none=>rw[q]at o;exact o.elim
  |some ns =>
   rw[q]at o;obtain⟨v,rfl,n⟩:=kI h1;obtain⟨p,xs,rfl,i,j⟩:=n.ofTup;rw[ee q]at j;rw[j.ofInts]at i;by_cases z:ns.length<=1000
   ·simp only[P8,if_pos z]at o;exact⟨p,ns,rfl,SqT.of (ay _ _ i),z,o _ H1 (av.refl _) bF⟩
   ·simp only[P8,if_neg z]at o;exact o.elim
 ·exact o.elim
end
open AutoSeq1 (wpAny_loadPart')
open SeqAt (EqAt)
theorem xu{prog:Program}{w:World}{A:Around}{E:Value->Shared->Prop}{s:Shared}{a:Array Value}{x:Value}{e:Value->Bool}{j:Nat}{Q:Option PySem.Fin×Unit->Shared->Prop}(f:j<a.size)(hit:e a[j]=true)(c:∀m(hm:m<a.size),m<j->e a[m]=false)
  (g:∀y,y∈a->EqAt A s y x (e y)) (h:Q (some (.done (.ret (.int j s.toks))),()) { s with toks:=s.toks+1 }):∀(k i m:Nat),i+k=j->j<i+m ->
  wpAny (model prog w) A (forIn (List.range' i m) ((none:Option PySem.Fin),()) λ(i:Nat) _=>match a[i]? with
   |some y=>do
    let b <-eqBool y x
    if b=true then do
      let r <-retInt (i:Int)
      pure (ForInStep.done (some r,()))
     else pure (ForInStep.yield (none,()))
   |_=>pure (ForInStep.yield (none,()))) Q E s
 |0,i,0,h1,h2=>by omega
 |0,i,m+1,h1,h2=>by
  have:i=j:=by omega
  subst this;rw[Pr,Ph];have q:a[i]?=some a[i]:=by simp[f]
  simp only[q];refine wpAny_bind (wpAny_bind (g _ (Array.getElem_mem f) prog w _ _ ?_));rw[hit,if_pos rfl];unfold retInt;exact wpAny_bind (wpAny_bind (wpAny_mkInt (wpAny_pure (wpAny_pure (wpAny_pure h)))))
 |k+1,i,0,h1,h2=>by omega
 |k+1,i,m+1,h1,h2=>by
  have hi:i<a.size:=by omega
  rw[Pr,Ph];have q:a[i]?=some a[i]:=by simp[hi]
  simp only[q];refine wpAny_bind (wpAny_bind (g _ (Array.getElem_mem hi) prog w _ _ ?_));rw[c i hi (by omega),if_neg NO];exact wpAny_pure (xu f hit c g h k (i+1) m (by omega) (by omega))
theorem BW(c:Addr)(a:Array Value)(n:Nat)(dd:Option Addr)(f:Array (Option Value))(x:Value)(e:Value->Bool)(j:Nat)(h:j<a.size)(hit:e a[j]=true)(b:∀m(hm:m<a.size),m<j->e a[m]=false) :
  Meets (Builtin.«tuple.index» ⟨[.ref c,x],[]⟩)
   (λA R s=>s.heap.get? c=some { cls:=.type "tuple",dict:=dd,data:=.seq a n,slots:=f }/\(∀y,y∈a->EqAt A.in1 s y x (e y))/\R (.ok (.ret (.int j s.toks))) { s with toks:=s.toks+1 }):=by
 intro prog w A R s i;obtain⟨hp,g,d,tk,os⟩:=s;obtain⟨hl,l,o⟩:=i;unfold Builtin.«tuple.index»;simp only[Std.Legacy.Range.forIn_eq_forIn_range',Std.Legacy.Range.size];generalize hF:(@forIn Sem (List Nat))=F
 wp_walk using wpAny_loadPart' hl
 subst hF;refine xu h hit b l ?_ j 0 _ (by omega) (by simp;omega);exact wpAny_pure o
section
variable {E:XK}{a o e:Expr}{go:Ds->Rs PyData}{es:List Expr}
def J1:V->List V->Hp->VK->Prop:=λx vs H Q=>∃l xs y j,x=.ref l/\vs=[y]/\H l=some (.tup xs)/\jE y=true/\xs.all jE=true/\(xs.findIdx? λz=>eqV z y)=some j/\Q (.int j) H
def tIx(to:TE)(t:TA):TE:=λσ H Q=>to σ H λx H1=>(∃l xs,x=.ref l/\H1 l=some (.tup xs))/\t σ H1 λvs H2=>J1 x vs H2 Q
theorem EY{to:TE}{t:TA}{apos:Pos}(U:PE X o to)(ha:PA X [e] t)(c:attributeBase o "index" X.env (eval o X.env)=eval o X.env:=by rfl)
  (r:((backTo cpos (starEach [e] X.env)).all (λx=>!x.1)&&(backToKw cpos (keywordEach [] X.env)).all (λx=>x.1.isSome)&&decide (([e]:List Expr).length+([]:List Keyword).length+(if ([]:List Keyword).isEmpty then 0 else 1)<30))=true:=by rfl)
  (f:(apos.endLine==cpos.line)=true:=by rfl) (W:starEach [e] X.env=(false,eval e X.env)::starEach [] X.env:=by rfl) (b:(backTo cpos (starEach [] X.env)).any (·.1)=false:=by rfl) :
  PE X (.Call (.Attribute o "index" apos) [e] [] cpos) (tIx to t):=by
 intro pins s σ H Q I h;refine wpAny_Call_method_late c r f rfl (thn (U pins s σ H _ I h) λv Y g=>?_);obtain⟨x,H1,O,Z,⟨l,xs,hx,hl⟩,q1⟩:=g;subst hx;cases Z;obtain⟨P,its,rv,R,ge,gc,gd,n,gq⟩:=O.hok l _ hl;refine⟨"tuple", "tuple.index",F.plainAttrs_tuple,F.slot_tuple_index,F.type_tuple_index,⟨R,ge,gc⟩,λa ea=>by cases ea;exact⟨R,ge,gd⟩,?_⟩;have S:=ha cpos pins Y σ H1 _ O q1;rw[W]at S ⊢;refine Calls.callWith_builtin (by show (false||(backTo cpos (starEach [] X.env)).any (·.1))=false;rw[b];rfl) (Calls.evalArgs_plain ?_);refine thn S λus s2 g=>?_
 obtain⟨vs,H2,T,r2,q2⟩:=g;obtain⟨l',i,y,j,e1,e2,D,fy,fs,hj,q⟩:=q2;cases e1;subst e2;obtain⟨hz',its',p,E,w,A,B,n',C⟩:=T.hok l _ D;obtain⟨u,rfl,ru⟩:=vals1 r2;obtain⟨oc,od,oda,osl⟩:=E;simp only at A B C;subst A B C;have hlen:=p.length;obtain⟨G,J,K⟩:=List.findIdx?_eq_some_iff_getElem.mp hj;have at':∀(m:Nat)(hm:m<i.length),eqU y (its'[m]'(by omega))=eqV i[m] y:=λm hm=>by
  obtain⟨w',hw,L⟩:=p.get (My hm);have:its'[m]'(by omega)=w':=by have h2:=My (show m<its'.length by omega);rw[h2]at hw;exact Option.some.inj hw
  rw[this];exact zB L (NM.mp fs _ (NQ hm))
 refine call_meets F.slot_tuple_index ⟨_,w,rfl⟩ F.entry_tuple_index (F.args_tuple_index_2 _ _) (BW l its'.toArray n' none osl u (eqU y) j (by simp;omega) (by simpa[at' j G] using J) (λm hm M=>?_)) ⟨w,λz P=>mG ru fy p fs z (by simpa using P),⟨.int j,H2,T.tok _,⟨_,rfl⟩,q⟩⟩;have N:m<i.length:=by simp at hm;omega
 have:=K m M;simpa[at' m N] using this
def nr(xs:List PyData)(y:PyData):Option PyData:=if gz y&&xs.all gz then ((xs.map toV).findIdx? λz=>eqV z (toV y)).map λj=>.int j else none
def ql(go ga:Ds->Rs PyData):Ds->Rs PyData:=λδ=>(go δ).bind λd=>match d with
 |.tuple xs=>(ga δ).bind λy=>Rs.eN (nr xs y)
 |_=>.no
theorem DF{apos:Pos}(r:PD X E o go)(ha:PD X E e ga)(c:attributeBase o "index" X.env (eval o X.env)=eval o X.env)
  (h:((backTo cpos (starEach [e] X.env)).all (λx=>!x.1)&&(backToKw cpos (keywordEach [] X.env)).all (λx=>x.1.isSome)&&decide (([e]:List Expr).length+([]:List Keyword).length+(if ([]:List Keyword).isEmpty then 0 else 1)<30))=true)
  (f:(apos.endLine==cpos.line)=true) (l:starEach [e] X.env=(false,eval e X.env)::starEach [] X.env) (b:(backTo cpos (starEach [] X.env)).any (·.1)=false) :
  PD X E (.Call (.Attribute o "index" apos) [e] [] cpos) (ql go ga):=(EY r (eM ha gw l) c h f l b).imp λσ H Q i=>by
 obtain⟨A,δ,R,a⟩:=i;unfold ql at a;refine eD.run R (λd1 e1 v H1 m s h1=>?_) (λC g H' s'=>by rw[g]at a;exact a H' s') (λg=>by rw[g]at a;exact a);simp only[e1,Rs.ag]at a;cases d1 with
 |tuple xs =>
  obtain⟨p,vs,rfl,n,w⟩:=h1.ofTup;refine⟨⟨p,vs,rfl,ay _ _ n⟩,?_⟩;have a:ik X.K E A H ((ga δ).bind λy=>Rs.eN (nr xs y)) Q:=a;refine eD.run s (λd2 e2 u H2 s2 R2 h2=>?_) (λC g H' s'=>by rw[g]at a;exact a H' (m.trans s')) (λg=>by rw[g]at a;exact a);simp only[e2,Rs.ag]at a;unfold nr at a;split at a
  ·rename_i z;rw[N7]at z;obtain⟨f1,f2⟩:=h2.flat z.1;obtain⟨B,D⟩:=w.flat z.2;cases q:((xs.map toV).findIdx? λz=>eqV z (toV d2)) with
   |none=>rw[q]at a;exact a.elim
   |some j =>rw[q]at a;exact⟨p,vs,u,j,rfl,rfl,s2 _ _ (ay _ _ n),f2,D,by rw[f1,B];exact q,a _ H2 (m.trans s2) bF⟩
  ·exact a.elim
 |_=>exact a.elim
end
end L2
namespace L2
open PySem PySem.Spec PyProof.Rows
def gH:List Int->Option Int
 |[]=>none
 |x::r=>some (r.foldl (λa b=>if b>a then b else a) x)
theorem fold_max:∀(r:List Int)(x:Int),(r.foldl (λa b=>if b>a then b else a) x)∈x::r/\∀a∈x::r,a<=r.foldl (λa b=>if b>a then b else a) x
 |[],x=>⟨N3,λa ha=>by cases NA.mp ha;exact Oj _⟩
 |y::r,x=>by
  obtain⟨h1,h2⟩:=fold_max r (if y>x then y else x);rw[Pg];have c:=h2 _ N3;refine⟨?_,λa ha=>?_⟩
  ·rcases N5.mp h1 with z|z
   ·rw[z];split <;> simp
   ·exact N0 _ (N0 _ z)
  ·have e:x<=(if y>x then y else x):=by split <;> omega
   have f:y<=(if y>x then y else x):=by split <;> omega
   rcases N5.mp ha with rfl|ha
   ·exact Int.le_trans e c
   ·rcases N5.mp ha with rfl|ha
    ·exact Int.le_trans f c
    ·exact h2 a (N0 _ ha)
theorem um{M m:Int}(h1:M∈ns)(h2:∀a∈ns,a<=M)(e:gH ns=some m):M=m:=by
 cases ns with
 |nil=>cases e
 |cons x r =>cases e;obtain⟨g1,g2⟩:=fold_max r x;have a1:=h2 _ g1;have a2:=g2 _ h1;omega
section
variable {E:XK}{a:Expr}{es:List Expr}
theorem BA(hc:X.calm=true):j8 X (.builtin "max") (λxs H Q=>∃(a:Addr)(ns:List Int)(m:Int),xs=[.ref a]/\SqL X.K H a (ns.map V.int)/\gH ns=some m/\Q (.int m) H):=by
 intro pins s σ H xs us Q I r h;obtain⟨a,ns,m,rfl,x,hm,q⟩:=h;obtain⟨u,rfl,y⟩:=vals1 r;cases y;obtain⟨f,z,p,_⟩:=I.list x;have hi:IntsAre f ns:=intsAre_of z;have g:0<ns.length:=by cases ns with|nil=>cases hm|cons _ _=>simp
 obtain⟨xs,n⟩:=hi.allInts.items;have c:ns=xs.toList.map (·.1):=by rw[<-hi.numsOf,<-nums_intItems,<-n]
 have hsz:0<xs.size:=by have o:=g;rw[c,N4,NZ]at o;exact o
 have l:s.heap.IsList a (intItems xs):=n▸p.isList;refine max_intList (I.ok.hd hc) l hsz λv h' tk A B=>?_
 obtain⟨t,rfl⟩:=intItems_at A;obtain⟨h1,h2⟩:=argBest_gt (numAt xs) (xs.size-1);have e:numAt xs (argBest (λi j=>decide (numAt xs i>numAt xs j)) (xs.size-1))=m:=by
  refine um ?_ (λb w=>?_) hm
  ·rw[c,numAt_eq];exact getD_mem (by rw[N4,NZ];omega)
  ·rw[c]at w;obtain⟨j,C,rfl⟩:=mem_getD w;rw[N4,NZ]at C;rw[<-numAt_eq];exact h2 j (by omega)
 exact⟨.int m,H,I.kept B,⟨_,by rw[<-e]⟩,q⟩
def oj:List PyData->Option PyData
 |[.list x]=>(eV x).bind λns=>(gH ns).map PyData.int
 |_=>none
theorem FL:FnD K oj (λxs H Q=>∃(a:Addr)(ns:List Int)(m:Int),xs=[.ref a]/\SqL K H a (ns.map V.int)/\gH ns=some m/\Q (.int m) H):=λds d vs H A Q e hA h k=>by
 unfold oj at e;split at e
 ·rename_i x;obtain⟨ns,q,e⟩:=Option.bind_eq_some_iff.mp e;obtain⟨m,f,rfl⟩:=O7.mp e;obtain⟨v,rfl,g⟩:=kI h;obtain⟨p,xs,rfl,b,c⟩:=g.ofLst;rw[ee q]at c;rw[c.ofInts]at b;exact⟨p,ns,m,rfl,SqL.of (ay _ _ b),f,k _ H (av.refl _) bF⟩
 ·cases e
theorem uJ:bootBuiltins "max"=some (.builtin "max"):=by decide +kernel
theorem Iw:bootBuiltins "min"=some (.builtin "min"):=by decide +kernel
theorem Hv(hc:X.calm=true)(hm:X.mg "max"=none)(ha:PAD X E (a::es) gs)(c:Gl X "max")(e:starEach (a::es) X.env=(false,eval a X.env)::starEach es X.env)(b:(backTo pos (starEach es X.env)).any (·.1)=false) :
 PD X E (.Call (.Name "max" p) (a::es) [] pos) (gF oj gs):=fY FL ha λh=>fo (BA hc) c hm uJ h (by decide) (by decide) e b
end
section
variable {E:XK}
end
section
variable {E:XK}{a b c:Expr}{gc:Ds->Rs PyData}
end
section
variable {E:XK}{a:Expr}{es:List Expr}
end
section
variable {E:XK}{a:Expr}
end
end L2
namespace PyProof.Rows
open PySem
section
variable {A:Around}
end
end PyProof.Rows
namespace L2
open PySem PySem.Spec PyProof.Rows
section
variable {E:XK}{a:Expr}{es:List Expr}
end
end L2
namespace L2
open PySem PySem.Spec PySem.Calls PyProof.Rows PySem.W PySem.Builtin Builtin.ObjectAttr Builtin.Getset_descriptor
section
variable {A:Around}{K:Frag}{x:Addr}{ox:Obj}
structure IM(h:Heap)(x:Addr)(D:Addr):Prop where
 ex:∃o,h.get? x=some o/\o.cls=.ref D
theorem IM.type{M:Model}(I:IM h x D):Looks M h (typeOf (.ref x)) (.ref D):=by obtain⟨o,h1,h2⟩:=I.ex;exact h2▸(Looks.ld h1).andThen .now
end
end L2
namespace L2
open PySem PySem.Spec PyProof.Rows
section
variable {E:XK}{ea:Addr}{oe:Obj}
end
section
variable {E:XK}{ea:Addr}{oe:Obj}
end
variable {xs:List (List Key×Addr×Value)}{G:List Addr->Ds->Sr}{m:Str}
def rY(O:List Nat)(i:Nat)(g:Ds->Rs PyData):Ds->Sr:=λδ=>match δ[i]? with
 |some (some (.int a))=>ofR (g (mask O δ)) λd=>match d with
  |.int b=>.nx (δ.set i (some (.int (a+b))))
  |_=>.no
 |_=>.no
section
variable {E:XK}{e a b:Expr}{es:List Expr}
theorem HP(h:PD X E e ga)(g:X.N.Nodup)(c:i∉O)(hi:X.N[i]?=some x)(j:Loc X.env.scope x)
  (l:X.fn x=true\/X.env.scope.names.lookup x=some .local):PSD X E O (.AugAssign (.Name x pos') .Add e pos) (rY O i ga):=(La g hi j h Jy l).imp λD σ H a=>by
 obtain⟨H0,A0,A,δ,R,o⟩:=a;unfold rY at o;split at o
 ·rename_i z f;obtain⟨v,ev,m⟩:=R.pl i _ c f;have hl:i<δ.length:=(NR.mp f).1;refine⟨v,ev,?_⟩;refine eD.run R.part (λd n u H1 p R1 q=>?_) (λC b H' s'=>?_) (λb=>?_)
  ·rw[n,ax]at o;split at o
   ·refine⟨_,_,m.ofInt,q.ofInt,o A _ H1 ((R.step p).set c hl bF)⟩
   ·exact o.elim
  ·rw[b,jQ]at o;exact o H' (R.same.trans s')
  ·rw[b,kj]at o;exact o
 ·exact o.elim
def jx(f:Str):List (PyData×PyData)->Option PyData
 |[]=>none
 |(k,d)::r=>match k with
  |.str g=>if g=f then some d else jx f r
  |_=>none
def bx(C:Addr)(f:Str):PyData->Option PyData
 |.dict (k::r)=>match k with
  |(.str z,.int c)=>if z=""/\c=(C:Int) then jx f r else none
  |_=>none
 |_=>none
theorem Isk.jx{K:W.Frag}{H:Hp}:∀{r:List (PyData×PyData)}{fs:List (Str×V)}{f:Str}{d:PyData},Isk K H r fs->L2.jx f r=some d->∃v,fs.lookup f=some v/\Is K H d v
 |[],_,f,d,_,l=>by simp[L2.jx]at l
 |(k,x)::r,fs,f,d,h,l=>by
  unfold Isk at h;obtain⟨g,v,fs',rfl,rfl,h1,h2⟩:=h;simp only[L2.jx]at l;rw[NV];by_cases z:g=f
  ·subst z;rw[if_pos rfl]at l;cases l;exact⟨v,by simp,h1⟩
  ·rw[if_neg z]at l;have:(f==g)=false:=by simpa using λq=>z q.symm
   rw[this];exact Isk.jx h2 l
theorem GA{f:Str}{d x:PyData}(s:f≠"@")(e:bx C f d=some x)(h:Is K H d v):∃a dx fs u,v=.ref a/\H a=some (.ins C dx fs)/\fs.lookup f=some u/\Is K H x u:=by
 unfold bx at e;split at e
 ·rename_i k r;split at e
  ·rename_i z c;split at e
   ·rename_i q;obtain⟨rfl,rfl⟩:=q;unfold Is at h;rcases h with (⟨a,ns,_,b,_⟩|⟨a,l,_,b,_⟩)|⟨a,p,dx,fs,ev,h1,hn,h2|h2⟩
    ·injection b with b _;cases b
    ·rcases b with⟨m,b,_⟩|⟨m,b,_⟩ <;> first|(cases b;done)|(cases m <;> cases b)
    ·unfold Isk at h2;obtain⟨g,u,fs',e1,e2,j,n⟩:=h2;cases e1;have i:=j.ofInt;injection i with i
     obtain rfl:p=C:=Int.ofNat.inj i;obtain⟨u,l,o⟩:=n.jx e;exact⟨a,dx,fs,u,ev,h1,l,o⟩
    ·unfold Isk at h2;obtain⟨g,u,fs',e1,e2,j,n⟩:=h2;cases e1;have i:=j.ofInt;injection i with i
     obtain rfl:p=C:=Int.ofNat.inj i;obtain⟨u,l,o⟩:=n.jx e;rw[NV,show (f==("@":Str))=false by simpa using s]at l;exact⟨a,dx,fs,u,ev,h1,l,o⟩
   ·cases e
  ·cases e
 ·cases e
theorem Ld{f:Str}(cl:Cls X.K C)(n:e9 X.K C f)(ha:PD X E a ga)(b:attributeBase a f X.env (eval a X.env)=eval a X.env)(c:f≠"@"):PD X E (.Attribute a f pos) (g1 (bx C f) ga) :=
 (KQ ha b).imp λσ H Q ⟨A,δ,R,o⟩=>g1.read (tt:=λQ x H1=>∃a C dx fs v,x=.ref a/\H1 a=some (.ins C dx fs)/\Cls X.K C/\e9 X.K C f/\fs.lookup f=some v/\Q v H1) R o λd1 d x H' e _ _ h k=>by obtain⟨p,dx,fs,u,rfl,g,l,i⟩:=GA c e h;exact⟨p,C,dx,fs,u,rfl,ay _ _ g,cl,n,l,k _ H' (av.refl _) i⟩
def Jz(C:Addr)(names:List Str):Sp:=λvs H Q _=>∃(x dx:Addr)(args:List V),vs=.ref x::args/\args.length=names.length/\H x=some (.ins C dx []) /\
 ∀H':Hp,(∀b,b≠x->H' b=H b)->H' x=some (.ins C dx (names.zip args))->Q .non H'
structure rD(P:Program)(w:World)(K:W.Frag)(mg:Str->Option Value)(base:Heap)(k:Nat)(x:Str)(C:Addr)(names:List Str):Prop where
 ex:∃f fd ps,Mk K C f/\gQ P w K mg base (CXW P w) k f fd ps (Jz C names)/\Binds K fd ps []/\mg x=some (.ref C)
def sS(C:Addr)(names:List Str):List PyData->Rs PyData:=λds=>if ds.length=names.length then .ok (Dm C (names.zip ds)) else .no
theorem vt{K:W.Frag}{H:Hp}:∀{names:List Str}{ds:List PyData}{vs:List V},Iss K H ds vs->Isk K H ((names.zip ds).map λp=>(.str p.1,p.2)) (names.zip vs)
 |[],_,_,_=>by simpa using pe
 |_::_,[],_,h=>by rw[h.nil_of];simpa using pe
 |n::ns,d::ds,_,h=>by obtain⟨v,r,rfl,h1,h2⟩:=h.cons_of;simp only[Pj,N1];exact eo h1 (vt h2)
theorem yA{f:Str}:∀{names:List Str}{vs:List V},f∉names->(names.zip vs).lookup f=none
 |[],_,_=>rfl
 |_::_,[],_=>rfl
 |n::ns,v::vs,h=>by rw[Pj,NV,show (f==n)=false by simpa using λq=>h (by rw[q];exact N3)];exact yA λq=>h (N0 _ q)
theorem F8{k:Nat}(D:rD X.prog X.w X.K X.mg X.base k x C names)(m:cj j X.A)(n:Passes (CXW X.prog X.w) X E)(ha:PAD X E (e::es) gs)(r:k+1<=j)(s:Gl X x)
  (a:(x==("__debug__":Str))=false) (u:starEach (e::es) X.env=(false,eval e X.env)::starEach es X.env) (c:(backTo pos (starEach es X.env)).any (·.1)=false) (hn:("@":Str)∉names) :
  PD X E (.Call (.Name x p) (e::es) [] pos) (ao (sS C names) gs):=by
 obtain⟨f,fd,ps,M,F,v,hm⟩:=D.ex;refine (Aq M F (m.mono r) s hm v .nil n ha.1 a u c).imp λσ H Q g=>?_
 obtain⟨A,δ,R,o⟩:=g;refine tZ R o λds vs H1 e s1 y h1 o=>?_
 unfold sS at o;split at o
 ·rename_i hl;intro x dx nx h ne;refine⟨x,dx,vs++[],rfl,by rw[Ob,h1.length,hl],aE,λH' k1 k2=>⟨rfl,?_⟩⟩;rw[Ob]at k2;have l:av H1 H':=λb q i=>by have n1:b≠x:=aI i nx;rw[k1 b n1,az n1,az (aI i h)];exact i
  refine o (.ref x) H' l (JI (dx:=dx) (fs:=names.zip vs) ?_ (yA hn) (vt (h1.same l.del)));rw[aN (y.ls.new nx)];exact k2
 ·exact o.elim
def xP:PyData->PyData->Option PyData
 |.list x,.int d=>(eV x).map λns=>.int ((gH ns).getD d)
 |_,_=>none
end
section
variable {A:Around}{R:Result->Shared->Prop}{I:Addr}{wr:List Addr}{n:Nat}{T:Nat->Value->Prop}{St:Nat->Heap->Prop}{dv:Value}
theorem E3(a v:Value):argsOk "max" ⟨[a],[(Str.ofString "default",v)]⟩:=by unfold argsOk;kernel_rfl
theorem vc:(toString "max"++toString ".loop":String)="max.loop":=by decide
theorem qm(W:Walks prog w A.in1 I fp wr n T St)(g:Nat->Nat->Bool)(hc:CmpOf prog w A.in1 .Gt T g)(S:Addr)(m:S∉fp):∀(k j:Nat)(s:Shared)(f:Value)(c:Nat),n=j+1+k->St (j+1) s.heap->T (argBest g j) f ->
  s.heap.get? S=some { cls:=.type "list",dict:=none,data:=.seq #[f,f] c,slots:=#[] }->(∀v h' tk,T (argBest g (n-1)) v->(∀b o,b∉wr->b≠S->s.heap.get? b=some o->h'.get? b=some o)->R (.ok (.ret v)) { s with heap:=h',toks:=tk }) ->
  codeAny (model prog w) A (.builtin "max.loop" ⟨[.ref I,.none,.ref S],[(Str.ofString "default",dv)]⟩) R s
 |0,j,s,f,c,hn,hst,hb,hS,hR=>by
  have r:S∉wr:=λh=>m (W.sub _ h)
  refine codeAny_builtin F.entry_max_loop ?_;rw[Around.under_plainId F.plain_max_loop _];show wpAny _ A.in1 (seqItems? (.ref S) >>= _) _ _ s;refine wpAny_bind (wpAny_seqItems hS rfl ?_);show wpAny _ A.in1 (tryCatch (pyNext (.ref I)) _ >>= _) _ _ s;refine wpAny_bind (wpAny_tryCatch (W.done s _ _ (by rw[show n=j+1 from hn];exact hst) λh1 B k1=>?_));have a:=k1 S _ r hS;show wpAny _ A.in1 (updateSeq S (λ_=>#[]) >>= _) _ _ _;refine wpAny_bind (wpAny_updateSeq a rfl (wpAny_bind (wpAny_letGo (wpAny_pure ?_))));exact hR f _ B (by rw[show n-1=j by omega];exact hb) λb o i l z=>(Od _ _ (Ne.symm l)).trans (k1 b o i z)
 |k+1,j,s,f,c,hn,hst,hb,hS,hR=>by
  have r:S∉wr:=λh=>m (W.sub _ h)
  refine codeAny_builtin F.entry_max_loop ?_;rw[Around.under_plainId F.plain_max_loop _];show wpAny _ A.in1 (seqItems? (.ref S) >>= _) _ _ s;refine wpAny_bind (wpAny_seqItems hS rfl ?_);show wpAny _ A.in1 (tryCatch (pyNext (.ref I)) _ >>= _) _ _ s;refine wpAny_bind (wpAny_tryCatch (W.item (j+1) s _ _ (by omega) hst λv h1 B C p k1=>?_));have a:=k1 S _ r hS;show wpAny _ A.in1 (tryCatch (holding [v,v] (richCompare .Gt v f >>= _)) _ >>= _) _ _ _;refine wpAny_bind (wpAny_tryCatch (wpAny_holding (wpAny_bind (hc (j+1) (argBest g j) v f _ _ _ C hb (wpAny_bind (wpAny_holding (wpAny_truthy_bool (wpAny_bind (wpAny_letGo (wpAny_pure ?_))))))))));cases q:g (j+1) (argBest g j) with
  |true =>
   rw[if_pos rfl];refine wpAny_bind (wpAny_updateSeq a rfl (wpAny_bind (wpAny_letGo ?_)));rw[vc];refine wpAny_pure ⟨plainId_quiet F.plain_max_loop _,qm W g hc S m k (j+1) _ v _ (by omega) (W.frame _ _ _ p λb u o e=>?_) (by unfold argBest;rw[q];exact C) (P4 _ a rfl) λx h2 y p2 k2=>?_⟩
   ·exact (Od _ _ (λz:S=b=>m (z▸u))).trans e
   ·exact hR x h2 y p2 λb o i l z=>k2 b o i l ((Od _ _ (Ne.symm l)).trans (k1 b o i z))
  |false =>rw[if_neg (by decide)];refine wpAny_bind (wpAny_letGo ?_);rw[vc];refine wpAny_pure ⟨plainId_quiet F.plain_max_loop _,qm W g hc S m k (j+1) _ f c (by omega) p (by unfold argBest;rw[q];exact hb) a λx h2 y p2 k2=>?_⟩;exact hR x h2 y p2 λb o i l z=>k2 b o i l (k1 b o i z)
variable {l:Addr}{xs:Array (Int×Tok)}
theorem DP(u:A.handled=none)(hl:s.heap.IsList l (intItems xs))
  (x:xs.size=0->∀h' tk,(∀b o,s.heap.get? b=some o->h'.get? b=some o)->Q dv { s with heap:=h',toks:=tk })
  (h:0<xs.size->∀v h' tk,(intItems xs)[argBest (λi j=>decide (numAt xs i>numAt xs j)) (xs.size-1)]?=some v->(∀b o,s.heap.get? b=some o->h'.get? b=some o)->Q v { s with heap:=h',toks:=tk }) :
  wpAny (model prog w) A (call (.builtin "max") [.ref l] [(Str.ofString "default",dv)]) Q E s:=by
 refine kmk_tree F.kind_max F.plain_max F.entry_max (E3 _ _) ?_;show wpAny _ A.in1 (Builtin.Builtins.bindParams "max" ["key", "default"] 0 ⟨[],[(Str.ofString "default",dv)]⟩ >>= _) _ _ s;refine wpAny_bind (wpAny_of_eq (show Builtin.Builtins.bindParams "max" ["key", "default"] 0 ⟨[],[(Str.ofString "default",dv)]⟩=pure [none,some dv] from rfl) (wpAny_bind (wpAny_pure ?_)));refine wpAny_bind (iter_intList hl λs2 e st g m=>wpAny_bind (wpAny_newObj_type ?_));subst e;have W:=Walks.list (prog:=prog) (w:=w) (A:=A.in1) u s.heap.objs.size l m (intItems xs);have hsz:(intItems xs).size=xs.size:=by simp[intItems]
 have a:(s.heap.push { cls:=.type "list_iterator",data:=.fields #[.ref l,.int 0 0] }).objs.size∉[s.heap.objs.size,l]:=λhm=>OB _ (g _ hm)
 rw[vc];refine wpAny_pure ⟨plainId_quiet F.plain_max_loop _,codeAny_builtin F.entry_max_loop ?_⟩;rw[Around.under_plainId F.plain_max_loop _];show wpAny _ A.in1 (seqItems? (.ref _) >>= _) _ _ _;refine wpAny_bind (wpAny_seqItems (NB _ rfl) rfl ?_);show wpAny _ A.in1 (tryCatch (pyNext (.ref _)) _ >>= _) _ _ _;have c:=W.frame _ _ _ st λb _ o e=>N2 { cls:=.type "list",data:=.seq #[] } e
 have y:(s.heap.push { cls:=.type "list_iterator",data:=.fields #[.ref l,.int 0 0] }).objs.size∉[s.heap.objs.size]:=λz=>a (N5.mpr (.inl (NA.mp z)))
 have kp:∀b o,s.heap.get? b=some o->b∉[s.heap.objs.size]/\((s.heap.push { cls:=.type "list_iterator",data:=.fields #[.ref l,.int 0 0] }).push { cls:=.type "list",data:=.seq #[] }).get? b=some o/\b≠(s.heap.push { cls:=.type "list_iterator",data:=.fields #[.ref l,.int 0 0] }).objs.size:=λb o e=>by
  have n:b<s.heap.objs.size:=Nz e;refine⟨λz=>?_,N2 _ (N2 _ e),?_⟩
  ·rw[NA.mp z]at n;exact OB _ n
  ·rw[Heap.size_push];exact ND (Og n)
 by_cases hz:xs.size=0
 ·refine wpAny_bind (wpAny_tryCatch (W.done _ _ _ (by rw[hsz,hz];exact c) λh1 r k1=>?_));show wpAny _ A.in1 (rule _ >>= _) _ _ _;refine wpAny_bind (wpAny_rule (wpAny_pure ?_));exact x hz h1 r λb o e=>k1 b o (kp b o e).1 (kp b o e).2.1
 ·refine wpAny_bind (wpAny_tryCatch (W.item 0 _ _ _ (by rw[hsz];omega) c λv h1 r B p k1=>?_));have f:=k1 _ _ y (NB _ rfl);show wpAny _ A.in1 (updateSeq _ (λ_=>#[v,v]) >>= _) _ _ _;refine wpAny_bind (wpAny_updateSeq f rfl ?_);rw[vc];refine wpAny_pure ⟨plainId_quiet F.plain_max_loop _,qm W _ (CmpOf.ints_gt (numAt xs) λ_ _=>intItems_at) _ a (xs.size-1) 0 _ v _ (by rw[hsz];omega) (W.frame _ _ _ p λb q o e=>?_) B (P4 _ f rfl) λC h2 D p2 k2=>?_⟩
  ·exact (Od _ _ (λz:(s.heap.push { cls:=.type "list_iterator",data:=.fields #[.ref l,.int 0 0] }).objs.size=b=>a (by rw[z];exact q))).trans e
  ·refine h (by omega) C h2 D (by rw[hsz]at p2;exact p2) λb o e=>k2 b o (kp b o e).1 (kp b o e).2.2 ?_
   exact (Od _ _ (Ne.symm (kp b o e).2.2)).trans (k1 b o (kp b o e).1 (kp b o e).2.1)
end
section
variable {E:XK}{e a b:Expr}{es:List Expr}
theorem Bz(h:ns.length=0)(d:Int):(gH ns).getD d=d:=by cases ns with|nil=>rfl|cons _ _=>simp at h
theorem eD.weak{g:Ds->Rs PyData}{Q a:VK}(h:eD K E g σ H Q)(k:∀v H',Q v H'->a v H'):eD K E g σ H a:=by
 obtain⟨A,δ,R,o⟩:=h;refine⟨A,δ,R,?_⟩;cases q:g δ with
 |ok d=>rw[q]at o;exact λv H' b h1=>k v H' (o v H' b h1)
 |rz C=>rw[q]at o;exact o
 |no=>rw[q]at o;exact o
theorem Iq(hc:X.calm=true)(hm:X.mg "max"=none)(ha:PD X E a ga)(g:PD X E b gb)(G:Gl X "max")(r:starEach [a] X.env=[(false,eval a X.env)]) :
  PD X E (.Call (.Name "max" p) [a] [⟨some "default",b,kp⟩] pos) (g2 xP ga gb):=by
 have key:PE X (.Call (.Name "max" p) [a] [⟨some "default",b,kp⟩] pos) (tOp (λx y H Q=>∃(p:Addr)(ns:List Int)(d:Int),x=.ref p/\y=.int d/\SqL X.K H p (ns.map V.int)/\Q (.int ((gH ns).getD d)) H) (eD X.K E ga) (eD X.K E gb)):=by
  intro pins s σ H Q I h;refine wpAny_Call_Name_kw (fz I G hm uJ ?_ (by decide) (by decide));refine callWith_kw ?_ (by rw[r];rfl) (by rw[r];rfl) rfl rfl;refine thn ((eM ha gw r) pos pins s σ H (λvs H1=>∃x,vs=[x]/\eD X.K E gb σ H1 λy H2=>∃(p:Addr)(ns:List Int)(d:Int),x=.ref p/\y=.int d/\SqL X.K H2 p (ns.map V.int)/\Q (.int ((gH ns).getD d)) H2) I
   (eD.weak h λx H1 q=>⟨x,rfl,q⟩)) λus s1 ⟨vs,H1,I1,r1,x,q0,q1⟩=>?_
  subst q0;obtain⟨u,rfl,J⟩:=vals1 r1;refine thn ((AK g Dp) pos pins s1 σ H1 (λvs H2=>∃y,vs=[y]/\∃(p:Addr)(ns:List Int)(d:Int),x=.ref p/\y=.int d/\SqL X.K H2 p (ns.map V.int)/\Q (.int ((gH ns).getD d)) H2) I1
   (eD.weak q1 λy H2 q=>⟨y,rfl,q⟩)) λws s2 ⟨zs,H2,I2,r2,y,q2,p,ns,d,ex,ey,hS,q3⟩=>?_
  subst q2;obtain⟨v,rfl,L⟩:=vals1 r2;subst ex ey;obtain rfl:u=Value.ref p:=J;obtain⟨td,rfl⟩:=(show ∃t,v=Value.int d t from L)
  obtain⟨w,M,pl,_⟩:=I2.list hS;have hi:IntsAre w ns:=intsAre_of M;obtain⟨xs,f⟩:=hi.allInts.items;have c:ns=xs.toList.map (·.1):=by rw[<-hi.numsOf,<-nums_intItems,<-f]
  have z:s2.heap.IsList p (intItems xs):=f▸pl.isList;have B:ns.length=xs.size:=by rw[c,N4,NZ]
  refine DP (I2.ok.hd hc) z (λN h' tk C=>?_) λN v h' tk O C=>?_
  ·rw[Bz (by omega) d]at q3;exact⟨.int d,H2,I2.kept C,⟨_,rfl⟩,q3⟩
  ·obtain⟨t,rfl⟩:=intItems_at O;obtain⟨h1,h2⟩:=argBest_gt (numAt xs) (xs.size-1);obtain⟨m,D⟩:∃m,gH ns=some m:=by
    cases ns with
    |nil=>simp at B;omega
    |cons _ _=>exact⟨_,rfl⟩
   have e:numAt xs (argBest (λi j=>decide (numAt xs i>numAt xs j)) (xs.size-1))=m:=by
    refine um ?_ (λb g=>?_) D
    ·rw[c,numAt_eq];exact getD_mem (by rw[N4,NZ];omega)
    ·rw[c]at g;obtain⟨j,P,rfl⟩:=mem_getD g;rw[N4,NZ]at P;rw[<-numAt_eq];exact h2 j (by omega)
   rw[D]at q3;exact⟨.int m,H2,I2.kept C,⟨_,by rw[<-e]⟩,q3⟩
 exact key.imp λσ H Q ⟨A,δ,R,o⟩=>g2.read (λd1 d2 d x y H' A' Q' n hA h1 h2 k=>by
  unfold xP at n;split at n
  ·rename_i l dd;obtain⟨ns,q,rfl⟩:=O7.mp n;obtain⟨p,xs,rfl,F,f⟩:=h1.ofLst;rw[ee q]at f;rw[f.ofInts]at F;exact⟨p,ns,dd,rfl,h2.ofInt,SqL.of (ay _ _ F),k _ H' (av.refl _) bF⟩
  ·cases n) R o
end
theorem HI{b:Array (Option Value)}{kV e:Value}
  (g:∀(kV doc pm:Value)(an:Option Addr)(cdv ct:Value)(us:List Value),us.length=ps.length->bindArgs (W.fnOf "__init__" qual (fm st) (b0 st) (aC st) .none kV doc pm an cdv ct) ⟨us,[]⟩=pure (ps.zip us))
  (a:W.findIn K (.ref C) "__init__"=some (some (.ref f))) (i:W.isFn K (.ref f)=true)
  (l:K.lookup f=some ⟨oc,od,.func (W.fnOf "__init__" qual (fm st) (b0 st) (aC st) .none kV e pm an cd ct),b⟩)
  (c:W.codeIn K cd qual=true) (k:W.keepIn K (.ref f)=true) (mk:W.makesIn K C=true) (h:W.keepIn K (.ref C)=true):∃f fd,Mk K C f/\Fun K "__init__" qual st f fd/\Binds K fd ps [] :=
 have F:=yR (st:=st) l c k
 ⟨f,_,⟨mk,a,i,h⟩,F,F.binds g⟩
theorem lM.more{q l:Addr}{xs:List V}{Φ:Hp->Prop}{lt:Nat->Nat->Bool}(K:lM X σ [] q l xs Φ κ lt):lM X σ pins q l xs Φ κ lt :=
 ⟨K.lst,λi x a pins' H s u _=>K.turn i x a pins' H s u (λ_ h=>nomatch h),K.cmp⟩
def Gk(X:Cx)(ta tb:TE):TE:=λσ H Q=>ta σ H λx H1=>tb σ H1 λy H2=>∃(l q:Addr)(xs:List V)(Φ:Hp->Prop)(κ:Nat->V->Hp->Prop)(lt:Nat->Nat->Bool),x=.ref l/\y=.ref q/\0<xs.length/\Φ H2/\lM X σ [] q l xs Φ κ lt /\
 ∀a v,Φ a->xs[bst lt (xs.length-1)]?=some v->Q v a
section
variable {a b:Expr}{ta tb:TE}
theorem CF(hc:X.calm=true)(hm:X.mg "min"=none)(ha:PE X a ta)(j:PE X b tb)(m:Gl X "min":=by rfl)(f:starEach [a] X.env=[(false,eval a X.env)]:=by rfl)(wk:∀{σ H} {Q c:VK},ta σ H Q->(∀x H,Q x H->c x H)->ta σ H c)(g:∀{σ H} {Q c:VK},tb σ H Q->(∀x H,Q x H->c x H)->tb σ H c) :
  PE X (.Call (.Name "min" p) [a] [⟨some "key",b,kp⟩] pos) (Gk X ta tb):=by
 intro pins s σ H Q I h;refine wpAny_Call_Name_kw (fz I m hm Iw ?_ (by decide) (by decide));refine callWith_kw ?_ (by rw[f];rfl) (by rw[f];rfl) rfl rfl;refine thn ((eM ha gw f) pos pins s σ H (λvs H1=>∃x,vs=[x]/\tb σ H1 λy H2=>∃(l q:Addr)(xs:List V)(Φ:Hp->Prop)(κ:Nat->V->Hp->Prop)(lt:Nat->Nat->Bool),x=.ref l/\y=.ref q/\0<xs.length/\Φ H2/\lM X σ [] q l xs Φ κ lt /\
   ∀e v,Φ e->xs[bst lt (xs.length-1)]?=some v->Q v e) I
  (wk h λx H1 q=>⟨x,rfl,q⟩)) λus s1 ⟨vs,H1,I1,r1,x,q0,q1⟩=>?_
 subst q0;obtain⟨u,rfl,i⟩:=vals1 r1;refine thn ((AK j Dp) pos pins s1 σ H1 (λvs H2=>∃y,vs=[y]/\∃(l q:Addr)(xs:List V)(Φ:Hp->Prop)(κ:Nat->V->Hp->Prop)(lt:Nat->Nat->Bool),x=.ref l/\y=.ref q/\0<xs.length/\Φ H2/\lM X σ [] q l xs Φ κ lt /\
   ∀e v,Φ e->xs[bst lt (xs.length-1)]?=some v->Q v e) I1
  (g q1 λy H2 q=>⟨y,rfl,q⟩)) λws s2 ⟨zs,H2,I2,r2,y,q2,l,q,xs,Φ,κ,lt,ex,ey,hn,hΦ,KK,hQ⟩=>?_
 subst q2;obtain⟨v,rfl,n⟩:=vals1 r2;subst ex ey;obtain rfl:u=Value.ref l:=i;obtain rfl:v=Value.ref q:=n;exact JQ KK.more (I2.ok.hd hc) I2 hΦ hn λH' s' x u o i J r=>⟨x,H',J,i,hQ H' x r o⟩
theorem Cw{q l c':Addr}{xs:List V}{Φ:Hp->Prop}{lt:Nat->Nat->Bool}{k:Nat}{p:Str}{n:Value}{t:TE}
  (S:mE N [p] scope) (T:cj (k+2) X.A) (f:∀x c,cl.lookup x=some c->X.env.cells.lookup x=some c) (has:∀x,scope.names.lookup x=some .free->∃c,cl.lookup x=some c) (U:N.length=1+cap.length)
  (B:∀(i m:Nat)(x:Str),N[1+i]?=some x->cap[i]?=some m->X.N[m]?=some x/\scope.names.lookup x=some .free/\(X.env.kindOf x=some .cell\/X.env.kindOf x=some .free)/\Vis X.env.scope x)
  (Y:∀u,bindArgs (W.kla_fn "<lambda>" qual params body scope cl pm (.ref c') n) ⟨[u],[]⟩=pure ([p].zip [u]))
  (D:∀H,Φ H->H l=some (.lst xs)) (L:∀H,Φ H->H q=some (.frz (W.kla_obj "<lambda>" qual params body scope cl pm c' n) (.own q))/\∃o vs t,H c'=some (.frz o (.own c'))/\o.data=.fields vs/\vs[1]?=some (.str qual t))
  (g:∀(s:Shared)(H:Hp),PE (sT (CXW X.prog X.w) X.prog X.w X.K X.mg X.base N qual scope q (.ref c') cl X.A.in1 X.stack s H E0) body t)
  (turn:∀(i:Nat)(x:V)(H:Hp),xs[i]?=some x->Φ H->t (some x::cap.map λm=>(σ[m]?).join) H λv H'=>Φ H'/\κ i v H'/\∀j O,κ j O H->κ j O H')
  (cmp:∀(i j:Nat)(x y:V)(pins':List (Addr×Obj))(H:Hp)(s:Shared)(u v:Value),Inv X.in1 pins' σ H s->Φ H->κ i x H->κ j y H->RelV x u->RelV y v ->
   wpAny (model X.prog X.w) X.A.in1 (richCompare .Lt u v) (λr s'=>r=.bool (lt i j)/\Inv X.in1 pins' σ H s') (λ_ _=>False) s):lM X σ [] q l xs Φ κ lt:=by
 refine⟨D,λi x Z pins' H s u _ I F ru=>?_,cmp⟩;obtain⟨h,oc,vs,tt,h1,h2,h3⟩:=L H F;have C:Jc s H cl scope N [p].length (cap.map λm=>(σ[m]?).join):=by
  refine⟨λa b c e1 e2=>I.ok.inj a b c (f a c e1) (f b c e2),has,λa c e=>I.cell a c (f a c e),λa c e=>I.freeC a c (f a c e),by rw[N4];exact U,λj y v e1 e2=>?_⟩;rw[NK]at e2;cases hm:cap[j]? with
  |none=>rw[hm]at e2;cases e2
  |some m =>
   rw[hm]at e2;have G:(σ[m]?).join=some v:=by simpa using e2
   obtain⟨hX,P,J,hv⟩:=B j m y e1 hm;have e4:σ[m]?=some (some v):=by
    cases z:σ[m]? with
    |none=>rw[z]at G;cases G
    |some w=>rw[z]at G;cases w with
     |none=>cases G
     |some w=>cases G;rfl
   obtain⟨mm,hn,hl⟩:=I.loc;obtain⟨u,rv,lk⟩:=hl m y v hX e4 hv;rcases lk with⟨z,_⟩|⟨_,c,M,e6⟩
   ·have z:X.env.kindOf y=some .local:=z;rcases J with J|J <;> (rw[z]at J;cases J)
   ·obtain⟨c2,Q⟩:=has y P;have R:=f y c2 Q;have M:X.env.cells.lookup y=some c:=M;rw[M]at R;cases R;exact⟨u,c,rv,P,Q,e6⟩
 refine wpAny_call (codeAny_mono (HA (CX:=CXW X.prog X.w) (E:=E0) S T.in1 I.env0 rfl (.cons ru .nil) C (I.hok q _ h).1 ⟨c',oc,vs,tt,rfl,(I.hok c' _ h1).1,h2,h3⟩ (Y u) (g s H) (turn i x H Z F)) λr s' h=>?_);cases r with
 |error e=>obtain⟨_,_,_,_,_,_,z,_⟩:=h;exact z.elim
 |ok fl =>
  cases fl with
  |ret u=>exact I.after h
  |next=>exact False.elim h
  |brk=>exact False.elim h
  |cont=>exact False.elim h
end
section
variable {E:XK}{a b:Expr}
theorem JD{s2:Shared}{Q:VK}{i c:Int}{n:Nat}{tk:Nat}{a:Array Value}{c':Nat}(f:Inv X pins σ H1 s2)(h:∀b o,s2.heap.get? b=some o->h'.get? b=some o)
  (hl:h'.get? s2.heap.objs.size=some { cls:=.type "list",dict:=none,data:=.seq a c',slots:=#[] }) (hi:ItemsOf (λk v=>∃t,v=.int (i+(k:Int)*c) t) a n) (hn:n<=1000000)
  (q:∀p,H1 p=none->Q (.ref p) (upd H1 p (.lst ((List.range n).map λ(k:Nat)=>V.int (i+(k:Int)*c))))):EP X pins σ Q (.ref s2.heap.objs.size) { s2 with heap:=h',toks:=tk }:=by
 have j:Vals ((List.range n).map λ(k:Nat)=>V.int (i+(k:Int)*c)) a.toList:=by
  have aux:∀(l:List Value)(k:Nat),(∀(m:Nat) v,l[m]?=some v->∃t,v=.int (i+((k+m:Nat):Int)*c) t)->Vals ((List.range' k l.length).map λ(k:Nat)=>V.int (i+(k:Int)*c)) l:=by
   intro l
   induction l with
   |nil=>intro k _;exact .nil
   |cons x r ih =>
    intro k g;rw[NJ,Pr,N1];refine .cons ?_ (ih (k+1) λm v hm=>?_)
    ·obtain⟨t,e⟩:=g 0 x rfl;exact⟨t,by rw[e];rfl⟩
    ·obtain⟨t,e⟩:=g (m+1) v (by simpa using hm);exact⟨t,by rw[e,show k+(m+1)=k+1+m by omega]⟩
  have h1:=aux a.toList 0 (λm v hm=>by obtain⟨t,e⟩:=hi.2 m v (by rw[<-P5];exact hm);exact⟨t,by rw[e,Oh]⟩)
  rw[NZ,hi.1]at h1;rw[List.range_eq_range'];exact h1
 exact⟨.ref s2.heap.objs.size,_,f.laid (t':=tk) h (N6 _) (show dr X.prog X.w _ h' _ (.lst ((List.range n).map λ(k:Nat)=>V.int (i+(k:Int)*c))) from⟨by rw[N4,Po,sizeLine_eq];omega,a.toList,c',j,by simpa using hl⟩),rfl,q _ (f.hok.fresh (N6 _))⟩
end
section
variable {E:XK}
end
structure iR(P:Program)(w:World)(K:W.Frag)(mg:Str->Option Value)(base:Heap)(k:Nat)(C:Addr)(m:Str)(n:Nat)(gf:List PyData->Rs PyData):Prop where
 ex:∃f fd ps,Cls K C/\Meth K C m f/\gQ P w K mg base (CXW P w) k f fd ps (spD K n gf)/\Binds K fd ps []
def jA(m:Str):List (PyData×PyData)->Bool
 |[]=>true
 |(k,_)::r=>match k with
  |.str g=>decide (g≠m)&&jA m r
  |_=>false
def isC(C:Addr)(m:Str):PyData->Bool
 |.dict (k::r)=>match k with
  |(.str z,.int c)=>decide (z="")&&decide (c=(C:Int))&&jA m r
  |_=>false
 |_=>false
theorem Isk.jA{K:W.Frag}{H:Hp}{m:Str}:∀{r:List (PyData×PyData)}{fs:List (Str×V)},Isk K H r fs->L2.jA m r=true->fs.lookup m=none
 |[],_,h,_=>by unfold Isk at h;rw[h];rfl
 |(k,d)::r,fs,h,n=>by unfold Isk at h;obtain⟨f,v,fs',rfl,rfl,h1,h2⟩:=h;simp only[L2.jA,N7,decide_eq_true_eq]at n;rw[NV,show (m==f)=false by simpa using λq=>n.1 q.symm];exact Isk.jA h2 n.2
theorem Kj{d:PyData}(e:isC C m d=true)(h:Is K H d v):∃a dx fs,v=.ref a/\H a=some (.ins C dx fs)/\fs.lookup m=none:=by
 unfold isC at e;split at e
 ·rename_i k r;split at e
  ·rename_i z c;simp only[N7,decide_eq_true_eq]at e;obtain⟨⟨rfl,rfl⟩,n⟩:=e;unfold Is at h;rcases h with (⟨a,ns,_,b,_⟩|⟨a,l,_,b,_⟩)|⟨a,o,dx,fs,ev,h1,hn,h2|h2⟩
   ·injection b with b _;cases b
   ·rcases b with⟨m,b,_⟩|⟨m,b,_⟩ <;> first|(cases b;done)|(cases m <;> cases b)
   ·unfold Isk at h2;obtain⟨g,u,fs',e1,e2,i,j⟩:=h2;cases e1;have f:=i.ofInt;injection f with f
    obtain rfl:o=C:=Int.ofNat.inj f;exact⟨a,dx,fs,ev,h1,j.jA n⟩
   ·unfold Isk at h2;obtain⟨g,u,fs',e1,e2,i,j⟩:=h2;cases e1;have f:=i.ofInt;injection f with f
    obtain rfl:o=C:=Int.ofNat.inj f;have l:=j.jA n;rw[NV]at l;cases q:(m==("@":Str)) with
    |true=>rw[q]at l;cases l
    |false=>rw[q]at l;exact⟨a,dx,fs,ev,h1,l⟩
  ·cases e
 ·cases e
def br(C:Addr)(m:Str)(gf:List PyData->Rs PyData)(ga:Ds->Rs PyData)(gs:Ds->Rs (List PyData)):Ds->Rs PyData:=λδ=>(ga δ).bind λd=>if isC C m d then (gs δ).bind λds=>gf (d::ds) else .no
section
variable {E:XK}{o e:Expr}{es:List Expr}{apos:Pos}
theorem br.read{n:Nat}{Q:VK}(hn:∀δ ds,gs δ=.ok ds->ds.length+1=n)(R:dJ X.K H A δ σ)(b:ik X.K E A H (br C m gf ga gs δ) Q):Aa C m (spD X.K n gf) [] E (eD X.K E ga) (aD X.K E gs) σ H Q:=by
 unfold br at b;refine eD.run R (λd f v H1 e g h1=>?_) (λC c H' s'=>?_) (λc=>?_)
 ·simp only[f,Rs.ag]at b;split at b
  ·rename_i hc;obtain⟨a,dx,fs,rfl,h,l⟩:=Kj hc h1;refine⟨a,dx,fs,rfl,ay _ _ h,l,?_⟩;refine aD.run g (λds e2 vs H2 s2 R2 h2=>?_) (λC c H' s'=>?_) (λc=>?_)
   ·simp only[e2,Rs.ag]at b;refine⟨A,d::ds,R2.ls,?_,hn δ ds e2,b.mono (e.trans s2)⟩;rw[Ob];exact cJ (h1.same s2.del) h2
   ·rw[c]at b;exact b H' (e.trans s')
   ·rw[c]at b;exact b
  ·exact b.elim
 ·rw[c]at b;exact b H' s'
 ·rw[c]at b;exact b
theorem Iu{k:Nat}{pl:Sem Bool}(D:iR X.prog X.w X.K X.mg X.base k C m (es.length+2) gf)(c:cj j X.A)(g:Passes (CXW X.prog X.w) X E)(h:PD X E o ga)(ha:PAD X E (e::es) gs)(i:k<=j)
  (a:starEach (e::es) X.env=(false,eval e X.env)::starEach es X.env) (b:(backTo pos (starEach es X.env)).any (·.1)=false)
  (l:eval (.Call (.Attribute o m apos) (e::es) [] pos) X.env=(do
   let ov <-eval o X.env
   standAt apos.atName
   let (f,first) <-holding [ov] (getMethod ov m pl)
   callWith pos f first (backTo pos (starEach (e::es) X.env)) (backToKw pos (keywordEach [] X.env)))) :
  PD X E (.Call (.Attribute o m apos) (e::es) [] pos) (br C m gf ga gs):=by
 obtain⟨f,fd,ps,cl,hm,F,n⟩:=D.ex;exact (HF h cl hm F (c.mono i) n .nil g ha.1 a b l).imp λσ H Q ⟨A,δ,R,ou⟩=>br.read (λδ ds e=>by rw[ha.2 δ ds e];rfl) R ou
theorem C8{k:Nat}{pl:Sem Bool}(D:iR X.prog X.w X.K X.mg X.base k C m 1 gf)(c:cj j X.A)(g:Passes (CXW X.prog X.w) X E)(i:PD X E o ga)(p:k<=j)
  (r:eval (.Call (.Attribute o m apos) [] [] pos) X.env=(do
   let ov <-eval o X.env
   standAt apos.atName
   let (f,first) <-holding [ov] (getMethod ov m pl)
   callWith pos f first (backTo pos (starEach [] X.env)) (backToKw pos (keywordEach [] X.env)))) :
  PD X E (.Call (.Attribute o m apos) [] [] pos) (br C m gf ga ah):=by
 obtain⟨f,fd,ps,cl,hm,F,s⟩:=D.ex;refine (w5 i cl hm F (c.mono p) s .nil g r).imp λσ H Q b=>?_
 obtain⟨A,δ,R,u⟩:=b;have h:=br.read (gs:=ah) (X:=X) (n:=1) (λδ ds e=>by cases e;rfl) R u;unfold Aa at h ⊢;exact h.weak λv H1 ⟨a,dx,fs,e,hp,l,q⟩=>⟨a,dx,fs,e,hp,l,by obtain⟨A',δ',R',o'⟩:=q;exact o' [] H1 (av.refl _) cX⟩
end
def intsOf:List PyData->Option (List Int)
 |[]=>some []
 |.int a::r=>(intsOf r).map (a::·)
 |_::_=>none
def lE:PyData->Option (Bool×List Int)
 |.int a=>some (false,[a])
 |.tuple ds=>(intsOf ds).map λl=>(true,l)
 |_=>none
def ltD(a b:PyData):Bool:=match lE a,lE b with
 |some (_,l),some (_,m)=>HT.lexLt l m
 |_,_=>false
def keysOk(ks:List PyData):Bool:=ks.all (λk=>match lE k with|some (false,_)=>true|_=>false)||ks.all λk=>match lE k with|some (true,_)=>true|_=>false
def allR(g:PyData->Rs PyData):List PyData->Rs (List PyData)
 |[]=>.ok []
 |d::r=>(g d).bind λk=>(allR g r).bind λks=>.ok (k::ks)
theorem xj{g:PyData->Rs PyData}:∀{ds ks:List PyData},allR g ds=.ok ks->ks.length=ds.length/\∀(i:Nat)(d:PyData),ds[i]?=some d->∃k,ks[i]?=some k/\g d=.ok k
 |[],ks,h=>by cases h;exact⟨rfl,λi d e=>by simp at e⟩
 |d::r,ks,h=>by
  unfold allR at h;cases e1:g d with
  |rz _=>rw[e1]at h;cases h
  |no=>rw[e1]at h;cases h
  |ok k =>
   rw[e1]at h;cases e2:allR g r with
   |rz _=>rw[Rs.ag,e2]at h;cases h
   |no=>rw[Rs.ag,e2]at h;cases h
   |ok t =>
    rw[Rs.ag,e2]at h;cases h;obtain⟨hl,a⟩:=xj e2;refine⟨by simp[hl],λi d' e=>?_⟩;cases i with
    |zero=>simp at e;subst e;exact⟨k,rfl,e1⟩
    |succ i=>simpa using a i d' (by simpa using e)
def u7(cap:List Nat)(δ:Ds):Ds:=cap.map λm=>(δ[m]?).join
def okR:Rs (List PyData)->(List PyData->Rs PyData)->Rs PyData
 |.ok a,f=>f a
 |_,_=>.no
def jq(cap:List Nat)(ga gb:Ds->Rs PyData):Ds->Rs PyData:=λδ=>(ga δ).bind λd=>match d with
 |.list ds=>if 0<ds.length then okR (allR (λx=>gb (some x::u7 cap δ)) ds) λks=>if keysOk ks then .eN (ds[bst (λi j=>ltD (ks.getD i .none) (ks.getD j .none)) (ds.length-1)]?) else .no else .no
 |_=>.no
theorem AI{d:PyData}{l:List Int}(e:lE d=some (false,l))(h:Is K H d v):∃n,l=[n]/\v=.int n:=by
 unfold lE at e;split at e
 ·cases e;exact⟨_,rfl,h.ofInt⟩
 ·rename_i ds;cases q:intsOf ds with
  |none=>rw[q]at e;cases e
  |some l=>rw[q]at e;cases e
 ·cases e
theorem ue:∀{ds:List PyData}{l:List Int},intsOf ds=some l->ds=l.map PyData.int
 |[],l,e=>by cases e;rfl
 |d::r,l,e=>by
  cases d <;> first|(cases e;done)|skip
  rename_i a;unfold intsOf at e;cases q:intsOf r with
  |none=>rw[q]at e;cases e
  |some t=>rw[q]at e;cases e;rw[ue q];rfl
theorem xX{d:PyData}{l:List Int}(e:lE d=some (true,l))(h:Is K H d v):∃a,v=.ref a/\H a=some (.tup (l.map V.int)):=by
 unfold lE at e;split at e
 ·cases e
 ·rename_i ds;cases q:intsOf ds with
  |none=>rw[q]at e;cases e
  |some l' =>rw[q]at e;cases e;obtain⟨a,xs,ev,c,b⟩:=h.ofTup;rw[ue q]at b;exact⟨a,ev,by rw[c,b.ofInts]⟩
 ·cases e
section
theorem EA{ks:List PyData}(Q:X.A.in1.units<cLine)(g:keysOk ks=true){x:V}{v:Value}{a b:PyData}(I:Inv X.in1 pins σ H s)
  (ea:ks[i]?=some a) (R:ks[j]?=some b) (G:Is X.K (del H A) a x) (L:Is X.K (del H A) b y) (M:RelV x u) (N:RelV y v) :
  wpAny (model X.prog X.w) X.A.in1 (richCompare .Lt u v) (λr s'=>r=.bool (ltD a b)/\Inv X.in1 pins σ H s') (λ_ _=>False) s:=by
 have J:=I.wish λ_ _=>False
 have O:a∈ks:=O1 ea;have P:b∈ks:=O1 R;unfold keysOk at g;rcases Bool.or_eq_true_iff.mp g with g|g
 ·have c:=NM.mp g a O;have f:=NM.mp g b P;cases ka:lE a with
  |none=>rw[ka]at c;cases c
  |some p=>obtain⟨o,la⟩:=p;cases o with
   |true=>rw[ka]at c;cases c
   |false=>cases kb:lE b with
    |none=>rw[kb]at f;cases f
    |some p=>obtain⟨B,l⟩:=p;cases B with
     |true=>rw[kb]at f;cases f
     |false =>
      obtain⟨n,rfl,rfl⟩:=AI ka G;obtain⟨m,rfl,rfl⟩:=AI kb L;have e:ltD a b=decide (n<m):=by
       unfold ltD;rw[ka,kb];show HT.lexLt [n] [m]=_;rw[HT.pB,HT.kM];by_cases z:n=m
       ·subst z;simp
       ·simp[z]
      rw[e];refine thn (FW (X:=X.in1.wish λ_ _=>False) pins s σ H (.int n) (.int m) u v (λr H'=>r=.bl (decide (n<m))/\H'=H) J M N ⟨n,m,rfl,rfl,rfl,rfl⟩) λr s' h=>?_
      obtain⟨S,H',C,D,E,F⟩:=h;subst E F;exact⟨D,C.unwish⟩
 ·have c:=NM.mp g a O;have f:=NM.mp g b P;cases ka:lE a with
  |none=>rw[ka]at c;cases c
  |some p=>obtain⟨o,la⟩:=p;cases o with
   |false=>rw[ka]at c;cases c
   |true=>cases kb:lE b with
    |none=>rw[kb]at f;cases f
    |some p=>obtain⟨B,l⟩:=p;cases B with
     |false=>rw[kb]at f;cases f
     |true =>
      obtain⟨p,rfl,T⟩:=xX ka G;obtain⟨q,rfl,U⟩:=xX kb L;have e:ltD a b=HT.lexLt la l:=by unfold ltD;rw[ka,kb]
      rw[e];refine thn (Lo (X:=X.in1.wish λ_ _=>False) Q pins s σ H (.ref p) (.ref q) u v (λr H'=>r=.bl (HT.lexLt la l)/\H'=H) J M N ⟨p,q,la,l,rfl,rfl,SqT.of (ay _ _ T),SqT.of (ay _ _ U),rfl,rfl⟩) λr s' h=>?_
      obtain⟨S,H',C,D,E,F⟩:=h;subst E F;exact⟨D,C.unwish⟩
theorem B6{E:XK}{a:Expr}{G p0:Pos}{g:List (Str×Addr)}{P:Addr}{k:Nat}{p:Str}
  (hc:X.calm=true) (hm:X.mg "min"=none) (hr:cj (k+2) X.A) (ha:PD X E a ga) (T:Fq X c P) (U:closureFor scope X.env=pure g) (S:mE N [p] scope)
  (J:∀x c,g.lookup x=some c->X.env.cells.lookup x=some c) (has:∀x,scope.names.lookup x=some .free->∃c,g.lookup x=some c) (hN:N.length=1+cap.length)
  (L:∀(i m:Nat)(x:Str),N[1+i]?=some x->cap[i]?=some m->X.N[m]?=some x/\scope.names.lookup x=some .free/\(X.env.kindOf x=some .cell\/X.env.kindOf x=some .free)/\Vis X.env.scope x)
  (hb:∀(c':Addr)(pm r u:Value),bindArgs (W.kla_fn "<lambda>" (X.env.qual++"<lambda>") params body scope g pm (.ref c') r) ⟨[u],[]⟩=pure ([p].zip [u]))
  (D:∀(q c':Addr)(s:Shared)(H:Hp),PD (sT (CXW X.prog X.w) X.prog X.w X.K X.mg X.base N (X.env.qual++"<lambda>") scope q (.ref c') g X.A.in1 X.stack s H E0) E0 body gb)
  (hg:Gl X "min":=by rfl) (he:starEach [a] X.env=[(false,eval a X.env)]:=by rfl) (M:defaultsOf params X.env=([],[]):=by rfl) :
  PD X E (.Call (.Name "min" p0) [a] [⟨some "key",.Lambda params body scope G,kp⟩] pos) (jq cap ga gb):=by
 refine (CF hc hm ha (J0 T U M) hg he (λh k=>eD.weak h k) (λh k f c' r H' n e s c=>k _ _ (h f c' r H' n e s c))).imp λσ H Q Y=>?_
 obtain⟨A,δ,R,b⟩:=Y;unfold jq at b;refine eD.run R (λd ed v H1 s1 R1 h1=>?_) (λC Z H' s'=>?_) (λZ=>?_)
 ·rw[ed,Rs.ag]at b;cases d with
  |list ds =>
   by_cases hpos:0<ds.length
   case neg=>simp only[if_neg hpos]at b;exact b.elim
   simp only[if_pos hpos]at b;cases ek:allR (λx=>gb (some x::u7 cap δ)) ds with
   |rz _=>rw[ek]at b;exact b.elim
   |no=>rw[ek]at b;exact b.elim
   |ok ks =>
    rw[ek]at b;cases hko:keysOk ks with
    |false=>simp only[okR,hko]at b;exact b.elim
    |true =>
     simp only[okR,hko,if_true]at b;intro f c' r H2 hn hf s2 F;obtain⟨l,xs,rfl,hl,hx⟩:=h1.ofLst;have hlen:=hx.length;obtain⟨hkl,hkg⟩:=xj ek;refine⟨l,f,xs,λH=>av H2 H,λi v H=>∃O,ks[i]?=some O/\Is X.K (del H A) O v,λi j=>ltD (ks.getD i .none) (ks.getD j .none),rfl,rfl,by omega,av.refl _,?_,λH3 v s3 ev=>?_⟩
     ·refine Cw (t:=eD X.K E0 gb) (c':=c') (cap:=cap) S hr J has hN L (hb c' _ r) (λH s=>s _ _ (s2 _ _ (ay _ _ hl))) (λH s=>⟨s _ _ hf,?_⟩) (λs H=>D f c' s H) (λi x H ex s=>?_) (λi j x y pins' H s u v I sΦ hx' hy' rx ry=>?_)
      ·obtain⟨o,vs,t,e1,e2,B⟩:=F;exact⟨o,vs,t,s _ _ e1,e2,B⟩
      ·obtain⟨d,e1,hd⟩:=hx.get ex;obtain⟨O,e2,gk⟩:=hkg i d e1;have R':dJ X.K H A δ σ:=R.same (s1.trans (s2.trans s));refine⟨A,some d::u7 cap δ,⟨R'.ls,by simp[u7],λn d' e=>?_⟩,?_⟩
       ·cases n with
        |zero =>have e:some (some d)=some (some d'):=e;cases e;exact⟨x,rfl,hd.same (av.del (s2.trans s))⟩
        |succ n =>
         have e:(u7 cap δ)[n]?=some (some d'):=by simpa using e
         unfold u7 at e;rw[NK]at e;cases hm':cap[n]? with
         |none=>rw[hm']at e;cases e
         |some m =>
          rw[hm']at e;have B:(δ[m]?).join=some d':=by simpa using e
          have e4:δ[m]?=some (some d'):=by
           cases z:δ[m]? with
           |none=>rw[z]at B;cases B
           |some w=>rw[z]at B;cases w with
            |none=>cases B
            |some w=>cases B;rfl
          obtain⟨v',e5,h5⟩:=R'.get m d' e4;exact⟨v',by simp[hm',e5],h5⟩
       ·have gk':gb (some d::u7 cap δ)=.ok O:=gk;rw[gk'];exact λv H' s' q=>⟨s.trans s',⟨O,e2,q⟩,λj v' qz2=>(by obtain⟨kd',B,e4⟩:=qz2;exact⟨kd',B,e4.same s'.del⟩)⟩
      ·obtain⟨ka,e1,h1'⟩:=hx';obtain⟨kb,e2,h2'⟩:=hy';have:=EA (X:=X) (by have:=hr.un;show X.A.units+1<_;omega) hko I e1 e2 h1' h2' rx ry;rw[NH,NH,e1,e2];exact this
     ·rw[hlen]at ev;obtain⟨d,e1,hd⟩:=hx.get ev;rw[e1]at b;exact b v H3 (s1.trans (s2.trans s3)) (hd.same (av.del (s2.trans s3)))
  |_=>exact b.elim
 ·rw[Z]at b;exact b H' s'
 ·rw[Z]at b;exact b
end
section
mutual
theorem Is.off{C dx:Addr}{fs:List (Str×V)}(ha:H a=some (.ins C dx fs)):∀{d:PyData}{v:V},aG d=true->Is K H d v->Is K (del H [a]) d v
 |.none,_,_,h=>by unfold Is at h ⊢;exact h
 |.bool _,_,_,h=>by unfold Is at h ⊢;exact h
 |.int _,_,_,h=>by unfold Is at h ⊢;exact h
 |.str _,_,_,h=>by unfold Is at h ⊢;exact h
 |.dict _,_,n,_=>by unfold aG at n;cases n
 |.list ds,_,n,h=>by unfold aG at n;obtain⟨b,xs,e,h1,h2⟩:=h.ofLst;subst e;exact jT (by rw[aN (λz=>by rw[NA.mp z,ha]at h1;cases h1)];exact h1) (Iss.off ha n h2)
 |.tuple ds,_,n,h=>by unfold aG at n;obtain⟨b,xs,e,h1,h2⟩:=h.ofTup;subst e;exact iM (by rw[aN (λz=>by rw[NA.mp z,ha]at h1;cases h1)];exact h1) (Iss.off ha n h2)
theorem Iss.off{C dx:Addr}{fs:List (Str×V)}(ha:H a=some (.ins C dx fs)):∀{ds:List PyData}{vs:List V},dN ds=true->Iss K H ds vs->Iss K (del H [a]) ds vs
 |[],_,_,h=>by rw[h.nil_of];exact cX
 |d::ds,_,n,h=>by unfold dN at n;obtain⟨n1,n2⟩:=Om.mp n;obtain⟨v,r,e,h1,h2⟩:=h.cons_of;subst e;exact cJ (Is.off ha n1 h1) (Iss.off ha n2 h2)
end
def lA:List (PyData×PyData)->Bool
 |[]=>true
 |(_,d)::r=>aG d&&lA r
theorem Isk.off{C dx:Addr}{fs:List (Str×V)}(ha:H a=some (.ins C dx fs)):∀{ds:List (PyData×PyData)}{gs:List (Str×V)},lA ds=true->Isk K H ds gs->Isk K (del H [a]) ds gs
 |[],_,_,h=>by unfold Isk at h ⊢;exact h
 |(k,d)::ds,_,n,h=>by unfold lA at n;obtain⟨n1,n2⟩:=Om.mp n;unfold Isk at h ⊢;obtain⟨f,v,r,e1,e2,h1,h2⟩:=h;exact⟨f,v,r,e1,e2,Is.off ha n1 h1,Isk.off ha n2 h2⟩
def jP:List (PyData×PyData)->Option Int
 |(.str x,.int _)::(.str y,.int b)::r=>if x=""/\y="@"/\lA r then some b else none
 |_=>none
mutual
def objs:PyData->Bool
 |.list ds=>jX ds
 |.tuple ds=>jX ds
 |.dict kvs=>(jP kvs).isSome
 |_=>true
def jX:List PyData->Bool
 |[]=>true
 |d::ds=>objs d&&jX ds
end
mutual
def fE(a:Addr)(nd:PyData):PyData->PyData
 |.list ds=>.list (jC a nd ds)
 |.tuple ds=>.tuple (jC a nd ds)
 |.dict kvs=>if jP kvs=some (a:Int) then nd else .dict kvs
 |d=>d
def jC(a:Addr)(nd:PyData):List PyData->List PyData
 |[]=>[]
 |d::ds=>fE a nd d::jC a nd ds
end
end
def kS(a:Addr)(nd:PyData)(δ:Ds):Ds:=δ.map λd=>d.map (fE a nd)
theorem mj{d:PyData}(h:(kS a nd δ)[i]?=some (some d)):∃b,δ[i]?=some (some b)/\d=fE a nd b:=by
 unfold kS at h;rw[NK]at h;cases e:δ[i]? with
 |none=>rw[e]at h;cases h
 |some x=>cases x with
  |none=>rw[e]at h;cases h
  |some b=>rw[e]at h;cases h;exact⟨b,rfl,rfl⟩
theorem xy(h:a∉B):del (upd H a o) B=upd (del H B) a o:=by
 funext b;by_cases z:b=a
 ·subst z;rw[aN h,aE,aE]
 ·rw[az z];by_cases y:b∈B
  ·rw[ib y,ib y]
  ·rw[aN y,aN y,az z]
section
theorem iX{fs:List (Str×V)}(e:av (del H [a]) H')(ha:H a=some (.ins C dx fs))(f:H b=some o)(c:b≠a):H' b=some o :=
 e _ _ (by rw[aN (λz=>c (NA.mp z))];exact f)
mutual
theorem Is.mutH{C dx:Addr}{fs:List (Str×V)}{nd:PyData}(ha:H a=some (.ins C dx fs))(j:av (del H [a]) H')(hn:Is K H' nd (.ref a)):∀{d:PyData}{v:V},objs d=true->Is K H d v->Is K H' (fE a nd d) v
 |.none,_,_,h=>by unfold fE;unfold Is at h ⊢;exact h
 |.bool _,_,_,h=>by unfold fE;unfold Is at h ⊢;exact h
 |.int _,_,_,h=>by unfold fE;unfold Is at h ⊢;exact h
 |.str _,_,_,h=>by unfold fE;unfold Is at h ⊢;exact h
 |.list ds,_,n,h=>by unfold objs at n;obtain⟨b,xs,e,h1,h2⟩:=h.ofLst;subst e;unfold fE;exact jT (iX j ha h1 (λz=>by rw[z,ha]at h1;cases h1)) (Iss.mutH ha j hn n h2)
 |.tuple ds,_,n,h=>by unfold objs at n;obtain⟨b,xs,e,h1,h2⟩:=h.ofTup;subst e;unfold fE;exact iM (iX j ha h1 (λz=>by rw[z,ha]at h1;cases h1)) (Iss.mutH ha j hn n h2)
 |.dict kvs,v,n,h=>by
  unfold objs at n;unfold fE;unfold jP at n ⊢;split at n
  case h_2=>cases n
  rename_i x I y b r;split at n
  case isFalse=>cases n
  rename_i J;obtain⟨rfl,rfl,D⟩:=J;have L:∃(g:Addr)(o c:Addr)(gs:List (Str×V)),v=.ref g/\b=(g:Int)/\I=(o:Int)/\H g=some (.ins o c gs)/\gs.lookup ("@":Str)=none/\Isk K H r gs:=by
   unfold Is at h;rcases h with (⟨s,ns,_,e,_⟩|⟨s,l,_,e,_⟩)|⟨s,o,c,gs,e,h1,i,h2|h2⟩
   ·cases e
   ·rcases e with⟨m,e,_⟩|⟨m,e,_⟩ <;> first|(cases e;done)|(cases m <;> cases e)
   ·unfold Isk at h2;obtain⟨f,u,w,e1,e2,E,p⟩:=h2;cases e1;unfold Isk at p;obtain⟨f,u,w,e1,e2,F,G⟩:=p;injection e2 with e2
    subst e2 e1;rw[NV]at i;simp at i
   ·unfold Isk at h2;obtain⟨f,u,w,e1,e2,E,p⟩:=h2;cases e1;have A:=E.ofInt;injection A with A
    unfold Isk at p;obtain⟨f,u,w,e1,e2,F,G⟩:=p;cases e1;have B:=F.ofInt;injection B with B
    exact⟨s,o,c,gs,e,B.symm,A.symm,h1,i,G⟩
  obtain⟨g,o,c,gs,rfl,rfl,rfl,h1,hl,h2⟩:=L;simp only[D,and_self,if_true];by_cases z:g=a
  ·subst z;rw[if_pos rfl];exact hn
  ·have zz:¬ (some (g:Int)=some (a:Int)):=λq=>z (Int.ofNat.inj (Option.some.inj q))
   rw[if_neg zz];unfold Is;refine .inr ⟨g,o,c,gs,rfl,iX j ha h1 z,hl,.inr (eo bF (eo bF ?_))⟩;exact (Isk.off ha D h2).same j
theorem Iss.mutH{C dx:Addr}{fs:List (Str×V)}{nd:PyData}(ha:H a=some (.ins C dx fs))(b:av (del H [a]) H')(hn:Is K H' nd (.ref a)):∀{ds:List PyData}{vs:List V},jX ds=true->Iss K H ds vs->Iss K H' (jC a nd ds) vs
 |[],_,_,h=>by rw[h.nil_of];unfold jC;exact cX
 |d::ds,_,n,h=>by unfold jX at n;obtain⟨n1,n2⟩:=Om.mp n;obtain⟨v,r,e,h1,h2⟩:=h.cons_of;subst e;unfold jC;exact cJ (Is.mutH ha b hn n1 h1) (Iss.mutH ha b hn n2 h2)
end
theorem F4:av (del H [a]) H'->av (del (del H B) [a]) (del H' B):=λc b o e=>by obtain⟨e1,e2⟩:=bc e;obtain⟨f,g⟩:=bc e2;rw[aN f];exact c b o (by rw[aN e1];exact g)
theorem bR.mutH{fs:List (Str×V)}(R:bR K H0 A0 H A O δ σ)
  (ha:H a=some (.ins C dx fs)) (s:H0 a=none) (n:∀(i:Nat) d,δ[i]?=some (some d)->objs d=true) (l:av (del H [a]) H') (hn:Is K (del H' (A++A0)) nd (.ref a)):bR K H0 A0 H' A O (kS a nd δ) σ:=by
 have o:Ls H A0:=R.ls0.same R.same;have na:a∉A++A0:=λz=>by
  rcases NY.mp z with z|z
  ·obtain⟨xs,e,q⟩:=R.ls a z;rw[ha]at e;cases e;cases q
  ·obtain⟨xs,e,q⟩:=o a z;rw[ha]at e;cases e;cases q
 have hd:del H (A++A0) a=some (.ins C dx fs):=by rw[aN na];exact ha
 have g:av (del (del H (A++A0)) [a]) (del H' (A++A0)):=F4 l;refine⟨λb u e=>?_,R.ls0,R.new,λb p=>?_,?_,λi d hi e=>?_,λi d hi e=>?_,λi j d e b hi w e1 e2 x y=>?_⟩
 ·exact iX l ha (R.same b u e) (λz=>by rw[z,s]at e;cases e)
 ·obtain⟨xs,e,q⟩:=R.ls b p;exact⟨xs,iX l ha e (λz=>by rw[z,ha]at e;cases e;cases q),q⟩
 ·unfold kS;rw[N4];exact R.len
 ·obtain⟨c,f,rfl⟩:=mj e;obtain⟨v,e1,h1⟩:=R.pl i c hi f;exact⟨v,e1,Is.mutH hd g hn (n i c f) h1⟩
 ·obtain⟨c,f,rfl⟩:=mj e;obtain⟨b,o',d1,e1,p,r,rfl,h1⟩:=R.own i c hi f;have h:=n i _ f;obtain⟨ds,xs,rfl,rfl⟩:∃ds xs,c=.list ds/\o'=.lst xs:=by
   unfold iy at h1;split at h1
   ·exact⟨_,_,rfl,rfl⟩
   ·exfalso;rcases h1 with⟨m,rfl,_⟩|⟨m,rfl,_⟩ <;> unfold objs jP at h <;> cases m <;> simp at h
   ·exact h1.elim
  have h1:Iss K _ ds xs:=h1;have:=n i _ f;unfold objs at this;exact⟨b,.lst xs,.list (jC a nd ds),e1,p,iX l ha r (λz=>by rw[z,ha]at r;cases r),by unfold fE;rfl,Iss.mutH hd g hn this h1⟩
 ·obtain⟨c,B,_⟩:=mj e1;obtain⟨d1,D,_⟩:=mj e2;exact R.inj i j c d1 b hi w B D x y
end
def sDN(as:List Addr)(K:W.Frag)(E:XK)(O:List Nat)(G:Ds->Sr):TS:=λD σ H=>∃H0 A0 A δ,(∀a∈as,H0 a=none)/\bR K H0 A0 H A O δ σ/\oG K E H0 A0 O (G δ) D
def PSN(as:List Addr)(X:Cx)(E:XK)(O:List Nat)(s:Stmt)(G:Ds->Sr):Prop:=PS X s (sDN as X.K E O G)
def PBN(as:List Addr)(X:Cx)(E:XK)(O:List Nat)(ss:List Stmt)(G:Ds->Sr):Prop:=PSs X ss (sDN as X.K E O G)
section
variable {E:XK}{ss:List Stmt}{G G':Ds->Sr}{c:Expr}{ca:Ds->Rs Bool}
theorem JE(h:PSD X E O st G):PSN as X E O st G:=h.imp λD σ H a=>(by obtain⟨H0,A0,A,δ,_,R,o⟩:=a;exact⟨H0,A0,A,δ,R,o⟩)
theorem JF(h:PBD X E O ss G):PBN as X E O ss G:=h.imp λD σ H a=>(by obtain⟨H0,A0,A,δ,_,R,o⟩:=a;exact⟨H0,A0,A,δ,R,o⟩)
theorem HK:PBN as X E O [] bj:=JF uY
theorem v8(h1:PSN as X E O st G)(h2:PBN as X E O ss G'):PBN as X E O (st::ss) (aJ G G'):=(cL h1 h2).imp λD σ H ⟨H0,A0,A,δ,hn,R,o⟩=>⟨H0,A0,A,δ,hn,R,by
 unfold aJ at o;cases q:G δ with
 |nx δ'=>rw[q]at o;exact λa σ' H' b=>⟨H0,A0,a,δ',hn,b,o⟩
 |rt d=>rw[q]at o;exact o
 |rz C=>rw[q]at o;exact o
 |bk d=>rw[q]at o;exact o
 |ct d=>rw[q]at o;exact o
 |no=>rw[q]at o;exact o⟩
theorem Ag(h1:PSN as X E O st G):PBN as X E O [st] G:=(iu h1).imp λD σ H h=>h
theorem KR{a:List Stmt}(hc:PCD X E c ca)(h1:PBN as X E O ss G)(h2:PBN as X E O a G'):PSN as X E O (.If c ss a pos) (sIf ca G G'):=(AG hc h1 h2).imp λD σ H e=>by
 obtain⟨H0,A0,A,δ,hn,R,o⟩:=e;unfold sIf at o;refine cD.run R.full (λt b H1 f R1=>?_) (λC b H' s'=>?_) (λb=>?_)
 ·rw[b]at o;cases t with
  |true=>exact⟨H0,A0,A,δ,hn,R.step f,o⟩
  |false=>exact⟨H0,A0,A,δ,hn,R.step f,o⟩
 ·rw[b]at o;exact o H' (R.same.trans s')
 ·rw[b]at o;exact o
theorem BK(fuel:Nat)(j:PassesOwn (model X.prog X.w) X.A X.env X.xe)(hc:PCD X E c ca)(l:PBN as X E O ss G):PSN as X E O (.While c ss [] pos) (λδ=>bQ ca G fuel δ):=(xR j hc l).imp λD σ H e=>by
 obtain⟨H0,A0,A,δ,hn,R,o⟩:=e;refine⟨λm σ H=>∃A δ,bR X.K H0 A0 H A O δ σ/\oG X.K E H0 A0 O (bQ ca G m δ) D,⟨fuel,A,δ,R,o⟩,?_⟩
 rintro m σ H ⟨A,δ,R,o⟩
 cases m with
 |zero=>exact o.elim
 |succ m =>
  unfold bQ at o;refine cD.run R.full (λt a H1 i R1=>?_) (λC a H' s'=>?_) (λa=>?_)
  ·rw[a]at o;cases t with
   |false=>exact o A σ H1 (R.step i)
   |true =>
    refine⟨λb H'=>∃A δ,bR X.K H0 A0 H' A O δ b/\oG X.K E H0 A0 O (bQ ca G m δ) D,λb H' q=>⟨m,OH m,q⟩,H0,A0,A,δ,hn,R.step i,?_⟩;have o:oG X.K E H0 A0 O (match G δ with
     |.nx δ2=>bQ ca G m δ2
     |.ct δ2=>bQ ca G m δ2
     |.bk δ2=>.nx δ2
     |.rt v=>.rt v
     |.rz C=>.rz C
     |.no=>.no) D:=o
    cases eb:G δ with
    |nx δ2=>rw[eb]at o;exact λf g n h=>⟨f,δ2,h,o⟩
    |ct δ2=>rw[eb]at o;exact λf g n h=>⟨f,δ2,h,o⟩
    |bk δ2=>rw[eb]at o;exact o
    |rt v=>rw[eb]at o;exact o
    |rz C=>rw[eb]at o;exact o
    |no=>rw[eb]at o;exact o.elim
  ·rw[a]at o;exact o H' (R.same.trans s')
  ·rw[a]at o;exact o
end
def k6:List (PyData×PyData)->Option (List (Str×PyData))
 |[]=>some []
 |(.str f,d)::r=>(k6 r).map λl=>(f,d)::l
 |_=>none
theorem tT:∀{r:List (PyData×PyData)}{fds:List (Str×PyData)},k6 r=some fds->r=fds.map λp=>(.str p.1,p.2)
 |[],fds,e=>by cases e;rfl
 |(k,d)::r,fds,e=>by
  cases k <;> first|(cases e;done)|skip
  rename_i f;unfold k6 at e;cases q:k6 r with
  |none=>rw[q]at e;cases e
  |some l=>rw[q]at e;cases e;rw[tT q];rfl
theorem rj:∀fds:List (Str×PyData),k6 (fds.map λp=>(.str p.1,p.2))=some fds
 |[]=>rfl
 |p::r=>by rw[N1];unfold k6;rw[rj r];rfl
def objOf:PyData->Option (Addr×Addr×List (Str×PyData))
 |.dict ((.str x,.int c)::(.str y,.int b)::r)=>if x=""/\y="@"/\0<=c/\0<=b then (k6 r).map λl=>(c.toNat,b.toNat,l) else none
 |_=>none
theorem Fz{d:PyData}{fds:List (Str×PyData)}(e:objOf d=some (C,a,fds)):d=cu C a fds:=by
 unfold objOf at e;split at e
 ·rename_i x c y b r;split at e
  ·rename_i h;obtain⟨rfl,rfl,f,h1⟩:=h;obtain⟨l,q,e⟩:=O7.mp e;cases e;rw[tT q];unfold cu;rw[OU f,OU h1]
  ·cases e
 ·cases e
theorem tW(C a:Addr)(fds:List (Str×PyData)):objOf (cu C a fds)=some (C,a,fds):=by unfold cu objOf;simp only[OX,and_self,if_true,rj,OG,O6]
def oz(f:Str):List (Str×PyData)->Option PyData
 |[]=>none
 |(g,d)::r=>if g=f then some d else oz f r
def pz(f:Str)(v:PyData):List (Str×PyData)->List (Str×PyData)
 |[]=>[(f,v)]
 |(g,x)::r=>if g=f then (g,v)::r else (g,x)::pz f v r
theorem Isk.put{K:W.Frag}{H:Hp}{f:Str}{d:PyData}{v:V}(b:Is K H d v):∀{fds:List (Str×PyData)}{gs:List (Str×V)},Isk K H (fds.map λp=>(.str p.1,p.2)) gs->Isk K H ((pz f d fds).map λp=>(.str p.1,p.2)) (iG f v gs)
 |[],gs,h=>by rw[Oq]at h;unfold Isk at h;subst h;exact eo b pe
 |(g,x)::r,gs,h=>by
  rw[N1]at h;unfold Isk at h;obtain⟨g',u,a,rfl,e,h1,h2⟩:=h;injection e with e
  subst e;show Isk K H ((if g=f then (g,d)::r else (g,x)::pz f d r).map _) (if g=f then (g,v)::a else (g,u)::iG f v a);by_cases z:g=f
  ·rw[if_pos z,if_pos z];exact eo b h2
  ·rw[if_neg z,if_neg z];exact eo h1 (Isk.put b h2)
theorem Isk.look{K:W.Frag}{H:Hp}{f:Str}{d:PyData}:∀{fds:List (Str×PyData)}{gs:List (Str×V)},Isk K H (fds.map λp=>(.str p.1,p.2)) gs->oz f fds=some d->∃v,gs.lookup f=some v/\Is K H d v
 |[],gs,h,e=>by cases e
 |(g,x)::r,gs,h,e=>by
  rw[N1]at h;unfold Isk at h;obtain⟨g',u,gs',rfl,e2,h1,h2⟩:=h;injection e2 with e2
  subst e2;unfold oz at e;rw[NV];by_cases z:g=f
  ·rw[if_pos z]at e;cases e;subst z;simp only[beq_self_eq_true];exact⟨u,rfl,h1⟩
  ·rw[if_neg z]at e;rw[show (f==g)=false by simpa using λq=>z q.symm];exact Isk.look h2 e
theorem Isk.len{K:W.Frag}{H:Hp}:∀{fds:List (PyData×PyData)}{gs:List (Str×V)},Isk K H fds gs->gs.length=fds.length
 |[],_,h=>by unfold Isk at h;rw[h];rfl
 |(k,d)::r,_,h=>by unfold Isk at h;obtain⟨_,_,_,rfl,_,_,h2⟩:=h;rw[NJ,NJ,Isk.len h2]
theorem Is.atObj{fds:List (Str×PyData)}(h:Is K H (cu C a fds) v):v=.ref a/\∃dx gs,H a=some (.ins C dx gs)/\gs.lookup ("@":Str)=none/\Isk K H (fds.map λp=>(.str p.1,p.2)) gs:=by
 unfold cu at h;unfold Is at h;rcases h with (⟨g,ns,_,e,_⟩|⟨g,l,_,e,_⟩)|⟨g,w,i,gs,e,h1,b,h2|h2⟩
 ·cases e
 ·rcases e with⟨m,e,_⟩|⟨m,e,_⟩ <;> first|(cases e;done)|(cases m <;> cases e)
 ·unfold Isk at h2;obtain⟨f,u,j,e1,e2,q,c⟩:=h2;cases e1;unfold Isk at c;obtain⟨f,u,j,e1,e2,r,s⟩:=c;injection e2 with e2
  subst e2 e1;rw[NV]at b;simp at b
 ·unfold Isk at h2;obtain⟨f,u,j,e1,e2,q,c⟩:=h2;cases e1;have n:=q.ofInt;injection n with n
  obtain rfl:w=C:=Int.ofNat.inj n;unfold Isk at c;obtain⟨f,u,j,e1,e2,r,s⟩:=c;cases e1;have o:=r.ofInt;injection o with o
  obtain rfl:g=a:=Int.ofNat.inj o;exact⟨e,i,gs,h1,b,s⟩
def gB(fds:List (Str×PyData)):Bool:=lA (fds.map λp=>(.str p.1,p.2))
theorem xB(C a:Addr)(fds:List (Str×PyData)):objs (cu C a fds)=gB fds:=by unfold cu objs jP gB;cases h:lA (fds.map λp=>(PyData.str p.1,p.2)) <;> simp[h]
def gJ(δ:Ds):Bool:=δ.all λo=>match o with|some d=>objs d|none=>true
theorem kn(h:gJ δ=true)(i:Nat)(d:PyData)(e:δ[i]?=some (some d)):objs d=true:=by have:=NM.mp h _ (O1 e);exact this
theorem E7{fds:List (Str×PyData)}{gs:List (Str×V)}{f:Str}{z:Int}(hB:a∉B)(ha:H a=some (.ins C dx gs))(hl:gs.lookup ("@":Str)=none)(c:f≠"@")(g:gB fds=true)(h:Isk K (del H B) (fds.map λp=>(.str p.1,p.2)) gs) :
  Is K (del (upd H a (.ins C dx (iG f (.int z) gs))) B) (cu C a (pz f (.int z) fds)) (.ref a):=by
 rw[xy hB];refine Df (dx:=dx) (fs:=iG f (.int z) gs) (aE) (by rw[jW,if_neg (λq=>c q.symm)];exact hl) (Isk.put bF ?_);have hd:del H B a=some (.ins C dx gs):=by rw[aN hB];exact ha
 refine (Isk.off hd g h).same λb o e=>?_
 obtain⟨e1,e2⟩:=bc e;rw[az (λq=>e1 (by rw[q];exact NA.mpr rfl))];exact e2
theorem xv:av (del H [a]) (upd H a o):=λb u e=>by obtain⟨e1,e2⟩:=bc e;rw[az (λq=>e1 (by rw[q];exact NA.mpr rfl))];exact e2
def oE(as:List Addr)(C:Addr)(i:Nat)(δ:Ds):Option (Addr×List (Str×PyData)):=match δ[i]? with
 |some (some d)=>(match objOf d with
  |some (C',a,fds)=>if C'=C/\a∈as/\gJ δ=true/\gB fds=true/\fds.length<1000 then some (a,fds) else none
  |none=>none)
 |_=>none
theorem nA{fds:List (Str×PyData)}(h:oE as C i δ=some (a,fds)):δ[i]?=some (some (cu C a fds))/\a∈as/\gJ δ=true/\gB fds=true/\fds.length<1000:=by
 unfold oE at h;split at h
 ·rename_i d e;split at h
  ·rename_i C' a' fds' q;split at h
   ·rename_i c;cases h;obtain⟨rfl,b,f,g,j⟩:=c;rw[e,Fz q];exact⟨rfl,b,f,g,j⟩
   ·cases h
  ·cases h
 ·cases h
def lX(as:List Addr)(C:Addr)(i:Nat)(f:Str)(g:Ds->Rs PyData):Ds->Sr:=λδ=>match oE as C i δ with
 |some (a,fds)=>ofR (g δ) λd=>match d with
  |.int z=>.nx (kS a (cu C a (pz f (.int z) fds)) δ)
  |_=>.no
 |none=>.no
def eW(as:List Addr)(C:Addr)(i:Nat)(f:Str)(g:Ds->Rs PyData):Ds->Sr:=λδ=>match oE as C i δ with
 |some (a,fds)=>(match oz f fds with
  |some (.int n)=>ofR (g δ) λd=>match d with
   |.int z=>.nx (kS a (cu C a (pz f (.int (n+z)) fds)) δ)
   |_=>.no
  |_=>.no)
 |none=>.no
section
variable {E:XK}{o value:Expr}{g:Ds->Rs PyData}{tpos:Pos}{f:Str}
theorem GB(L:PD X E o (af i))(s:PD X E value g)(cl:Cls X.K C)(na:e9 X.K C f)(hi:i∉O)(M:f≠"@")(N:swapsWith value (some (.Attribute o f pos')) pos.line X.env=pure false):PSN as X E O (.Assign [.Attribute o f pos'] value pos) (lX as C i f g):=(gx L s N).imp λD σ H u=>by
 obtain⟨H0,A0,A,δ,hn,R,b⟩:=u;unfold lX at b;split at b
 case h_2=>exact b.elim
 rename_i a fds q;obtain⟨e,ha,w,x,y⟩:=nA q;refine eD.run R.full (λd P v H1 J R1 s=>?_) (λC c H' s'=>?_) (λc=>?_)
 ·rw[P]at b;cases d with
  |int z =>
   have B:=s.ofInt;subst B;have e2:af i δ=.ok (cu C a fds):=by unfold af;rw[e]
   refine eD.run (R.step J).full (λd2 j v2 H2 s2 R2 F=>?_) (λC c H' s'=>?_) (λc=>?_)
   ·rw[e2]at j;cases j;obtain⟨rfl,dx,gs,hp,hl,hk⟩:=F.atObj;have l:=R.step (J.trans s2);obtain⟨v3,e3,Q⟩:=l.pl i _ hi e;obtain⟨rfl,m,n,p,G,r⟩:=Q.atObj;have h:H2 a=some (.ins C m n):=(bc p).2;have I:a∉A++A0:=(bc p).1;refine⟨a,C,m,n,rfl,h,cl,na,by rw[r.len,N4];exact y,?_⟩;exact b A σ _ (l.mutH h (hn a ha) (kn w) xv (E7 I h G M x r))
   ·rw[e2]at c;cases c
   ·rw[e2]at c;cases c
  |_=>exact b.elim
 ·rw[c]at b;exact b H' (R.same.trans s')
 ·rw[c]at b;exact b
theorem zu(Q:PD X E o (af i))(S:PD X E value g)(cl:Cls X.K C)(na:e9 X.K C f)(hi:i∉O)(T:f≠"@"):PSN as X E O (.AugAssign (.Attribute o f tpos) .Add value pos) (eW as C i f g):=(BN Q S Jk).imp λD σ H u=>by
 obtain⟨H0,A0,A,δ,hn,R,b⟩:=u;unfold eW at b;split at b
 case h_2=>exact b.elim
 rename_i a fds q;obtain⟨e,ha,x,y,B⟩:=nA q;split at b
 case h_2=>exact b.elim
 rename_i n F;have e2:af i δ=.ok (cu C a fds):=by unfold af;rw[e]
 refine eD.run R.full (λd2 j v2 H1 G R1 I=>?_) (λC c H' s'=>?_) (λc=>?_)
 ·rw[e2]at j;cases j;obtain⟨rfl,dx,gs,U,hl,W⟩:=I.atObj;obtain⟨v,ev,J⟩:=W.look F;have L:=J.ofInt;subst L;refine⟨a,C,dx,gs,.int n,rfl,(bc U).2,cl,na,ev,?_⟩;refine eD.run (R.step G).full (λd Y w H2 s2 R2 hw=>?_) (λC c H' s'=>?_) (λc=>?_)
  ·rw[Y]at b;cases d with
   |int z =>have M:=hw.ofInt;subst M;refine⟨n,z,rfl,rfl,?_⟩;have l:=R.step (G.trans s2);obtain⟨v3,e3,Z⟩:=l.pl i _ hi e;obtain⟨rfl,m,p,r,N,s⟩:=Z.atObj;have h:H2 a=some (.ins C m p):=(bc r).2;have P:a∉A++A0:=(bc r).1;refine⟨m,p,h,by rw[s.len,N4];exact B,?_⟩;exact b A σ _ (l.mutH h (hn a ha) (kn x) xv (E7 P h N T y s))
   |_=>exact b.elim
  ·rw[c]at b;exact b H' (R.same.trans (G.trans s'))
  ·rw[c]at b;exact b
 ·rw[e2]at c;cases c
 ·rw[e2]at c;cases c
end
def spM(K:W.Frag)(C:Addr)(g:List (Str×PyData)->Option (List (Str×PyData))):Sp:=λvs H Q E=>∃A a fds b,vs=[.ref a]/\Ls H A/\Is K (del H A) (cu C a fds) (.ref a)/\gB fds=true/\fds.length<1000/\g fds=some b /\
 ∀H',av (del H [a]) H'->Is K (del H' A) (cu C a b) (.ref a)->Q .non H'
structure ki(P:Program)(w:World)(K:W.Frag)(mg:Str->Option Value)(base:Heap)(k:Nat)(C:Addr)(m:Str)(g:List (Str×PyData)->Option (List (Str×PyData))):Prop where
 ex:∃f fd ps,Cls K C/\Meth K C m f/\gQ P w K mg base (CXW P w) k f fd ps (spM K C g)/\Binds K fd ps []
theorem p6{K:W.Frag}{H:Hp}{f:Str}:∀{fds:List (Str×PyData)}{gs:List (Str×V)},Isk K H (fds.map λp=>(.str p.1,p.2)) gs->oz f fds=none->gs.lookup f=none
 |[],gs,h,_=>by rw[Oq]at h;unfold Isk at h;rw[h];rfl
 |(g,x)::r,gs,h,e=>by
  rw[N1]at h;unfold Isk at h;obtain⟨g',u,gs',rfl,e2,h1,h2⟩:=h;injection e2 with e2
  subst e2;unfold oz at e;rw[NV];by_cases z:g=f
  ·rw[if_pos z]at e;cases e
  ·rw[if_neg z]at e;rw[show (f==g)=false by simpa using λq=>z q.symm];exact p6 h2 e
def k9(as:List Addr)(C:Addr)(m:Str)(i:Nat)(g:List (Str×PyData)->Option (List (Str×PyData))):Ds->Sr:=λδ=>match oE as C i δ with
 |some (a,fds)=>if oz m fds=none then (match g fds with
  |some fds'=>.nx (kS a (cu C a fds') δ)
  |none=>.no) else .no
 |none=>.no
section
variable {E:XK}{o:Expr}{apos:Pos}
theorem Fw{k:Nat}{pl:Sem Bool}(D:ki X.prog X.w X.K X.mg X.base k C m g)(I:cj j X.A)(J:Passes (CXW X.prog X.w) X E)(L:PD X E o (af i))(p:k<=j)(hi:i∉O)
  (M:eval (.Call (.Attribute o m apos) [] [] pos) X.env=(do
   let ov <-eval o X.env
   standAt apos.atName
   let (f,first) <-holding [ov] (getMethod ov m pl)
   callWith pos f first (backTo pos (starEach [] X.env)) (backToKw pos (keywordEach [] X.env))))
  (N:swapsWith (.Call (.Attribute o m apos) [] [] pos) none spos.line X.env=pure false) :
  PSN as X E O (.Expr (.Call (.Attribute o m apos) [] [] pos) spos) (k9 as C m i g):=by
 obtain⟨f,fd,ps,cl,hm,F,P⟩:=D.ex;refine (oU (w5 L cl hm F (I.mono p) P .nil J M) N).imp λD σ H r=>?_
 obtain⟨H0,A0,A,δ,hn,R,b⟩:=r;unfold k9 at b;split at b
 case h_2=>exact b.elim
 rename_i a fds q;obtain⟨e,ha,s,u,v⟩:=nA q;split at b
 case isFalse=>exact b.elim
 rename_i x;split at b
 case h_2=>exact b.elim
 rename_i h Q;have e2:af i δ=.ok (cu C a fds):=by unfold af;rw[e]
 refine eD.run R.full (λd2 l v2 H1 S R1 y=>?_) (λC n H' s'=>?_) (λn=>?_)
 ·rw[e2]at l;cases l;obtain⟨rfl,dx,gs,T,hl,p⟩:=y.atObj;have c:=R.step S;obtain⟨v3,e3,G⟩:=c.pl i _ hi e;obtain⟨rfl,dx',gs',z,hl',hk'⟩:=G.atObj;refine⟨a,dx,gs,rfl,(bc T).2,p6 p x,?_⟩;refine⟨A++A0,a,fds,h,rfl,c.lsA,G,u,v,Q,λH' U B=>?_⟩;exact b A σ H' (c.mutH (bc z).2 (hn a ha) (kn s) U B)
 ·rw[e2]at n;cases n
 ·rw[e2]at n;cases n
end
theorem ki.of{p:Str}{k:Nat}(F:Fun K m qual st f fd)(S:dq N [p] (aC st))(b:Binds K fd [p] [])(cl:Cls K C)(hm:Meth K C m f)
  (body:∀(as:List Addr)(cdv:Value)(A:Around)(outer:List Env)(s:Shared)(H:Hp)(E:XK),cj k (A.deeper (envOfC qual (aC st) s.heap.objs.size f cdv))->PBN as (dz (CXW P w) P w K mg base N qual (aC st) f cdv A outer s H E) E [] (b0 st) (G as))
  (L:∀a fds c,gB fds=true->fds.length<1000->g fds=some c->∃δ,G [a] (some (cu C a fds)::List.replicate (N.length-1) none)=.nx δ/\δ[0]?=some (some (cu C a c))):ki P w K mg base (k+1) C m g:=by
 refine⟨f,fd,[p],cl,hm,lL F S (λvs H Q E h=>?_) (λcdv A outer s H vs Q E M h=>?_),b⟩
 ·obtain⟨A,a,fds,c,rfl,_⟩:=h;rfl
 ·obtain⟨A0,a,fds,c,rfl,I,hi,n,r,x,o⟩:=h;obtain⟨_,dx,gs,O,hl,hk⟩:=hi.atObj;have ha:=bc O;obtain⟨δ,e1,e2⟩:=L a fds c n r x;have l:bR K H A0 H [] [] (some (cu C a fds)::List.replicate (N.length-1) none) (L2.start N [.ref a]):=bR.start (ps:=[p]) (ds:=[cu C a fds]) I (cJ hi cX) rfl (λi h=>by cases h);have y:Ls (del H [a]) A0:=λb j=>by
   obtain⟨xs,e,q⟩:=I b j;exact⟨xs,by
    have B:b∉[a]:=λz=>ha.1 (by rw[<-NA.mp z];exact j)
    rw[aN B];exact e,q⟩
  refine⟨_,body [a] cdv A outer s H E M,del H [a],A0,[],_,λb j=>by rw[NA.mp j];exact ib (NA.mpr rfl),⟨ay,y,λb j=>(NN j).elim,l.ls,l.len,l.pl,l.own,l.inj⟩,?_⟩;rw[e1];intro A' σ' H' J;refine o H' J.same ?_;obtain⟨v,_,h2⟩:=J.pl 0 _ (by simp) e2;have D:=h2.same (H':=del H' A0) (λb u e=>by obtain⟨R,T⟩:=bc e;rw[aN (λz=>R (N8 _ z))];exact T)
  rw[D.atObj.1]at D;exact D
def Nr(C:Addr)(names:List Str)(tl:List (Str×Int)):Sp:=λvs H Q _=>∃(x dx:Addr)(args:List V),vs=.ref x::args/\args.length=names.length/\H x=some (.ins C dx []) /\
 ∀H':Hp,(∀b,b≠x->H' b=H b)->H' x=some (.ins C dx (names.zip args++tl.map λp=>(p.1,.int p.2)))->Q .non H'
structure MkD(P:Program)(w:World)(K:W.Frag)(mg:Str->Option Value)(base:Heap)(k:Nat)(x:Str)(C:Addr)(names:List Str)(tl:List (Str×Int)):Prop where
 ex:∃f fd ps,Mk K C f/\gQ P w K mg base (CXW P w) k f fd ps (Nr C names tl)/\Binds K fd ps []/\mg x=some (.ref C)
def tlD(tl:List (Str×Int)):List (Str×PyData):=tl.map λp=>(p.1,.int p.2)
theorem Dz{K:W.Frag}{H:Hp}:∀tl:List (Str×Int),Isk K H ((tlD tl).map λp=>(.str p.1,p.2)) (tl.map λp=>(p.1,.int p.2))
 |[]=>pe
 |p::r=>eo bF (Dz r)
theorem AJ{K:W.Frag}{H:Hp}{e:List (PyData×PyData)}{gs:List (Str×V)}(h2:Isk K H e gs):∀{d:List (PyData×PyData)}{fs:List (Str×V)},Isk K H d fs->Isk K H (d++e) (fs++gs)
 |[],fs,h=>by unfold Isk at h;subst h;exact h2
 |(k,x)::r,fs,h=>by unfold Isk at h;obtain⟨f,v,fs',rfl,rfl,h1,a⟩:=h;exact eo h1 (AJ h2 a)
theorem pE{f:Str}{b:List (Str×V)}(c:b.lookup f=none):∀{a:List (Str×V)},a.lookup f=none->(a++b).lookup f=none
 |[],_=>c
 |(g,x)::r,h=>by
  rw[Oe,NV];rw[NV]at h;cases q:(f==g) with
  |true=>rw[q]at h;cases h
  |false=>rw[q]at h;exact pE c h
theorem IB{f:Str}:∀{tl:List (Str×Int)},(f∉tl.map (·.1))->(tl.map λp=>((p.1,V.int p.2):Str×V)).lookup f=none
 |[],_=>rfl
 |p::r,h=>by rw[N1,NV,show (f==p.1)=false by simpa using λq=>h (by rw[q];exact N3)];exact IB λq=>h (N0 _ q)
def eMk(K:W.Frag)(E:XK)(C:Addr)(names:List Str)(tl:List (Str×Int))(gs:Ds->Rs (List PyData)):TE:=λσ H Q=>∃A δ,dJ K H A δ σ/\(match gs δ with
 |.ok ds=>ds.length=names.length/\∀x H',H x=none->av H H'->Is K (del H' A) (cu C x (names.zip ds++tlD tl)) (.ref x)->Q (.ref x) H'
 |.rz C'=>∀H',av H H'->E (.ref C') none H'
 |.no=>False)
section
variable {E:XK}{e:Expr}{es:List Expr}
theorem LF{k:Nat}(D:MkD X.prog X.w X.K X.mg X.base k x C names tl)(s:cj j X.A)(u:Passes (CXW X.prog X.w) X E)(ha:PAD X E (e::es) gs)(v:k+1<=j:=by decide)(y:Gl X x:=by rfl)
  (a:(x==("__debug__":Str))=false:=by decide) (z:starEach (e::es) X.env=(false,eval e X.env)::starEach es X.env:=by rfl) (c:(backTo pos (starEach es X.env)).any (·.1)=false:=by rfl) (hn:("@":Str)∉names:=by decide) (g:("@":Str)∉tl.map (·.1):=by decide) :
  PE X (.Call (.Name x p) (e::es) [] pos) (eMk X.K E C names tl gs):=by
 obtain⟨f,fd,ps,M,F,B,hm⟩:=D.ex;refine (Aq M F (s.mono v) y hm B .nil u ha.1 a z c).imp λσ H Q h=>?_
 obtain⟨A,δ,R,o⟩:=h;refine aD.run R (λds e1 vs H1 n G h1=>?_) (λC i H' s'=>?_) (λi=>?_)
 ·rw[e1]at o;obtain⟨hl,o⟩:=o;intro x dx nx l ne;refine⟨x,dx,vs++[],rfl,by rw[Ob,h1.length,hl],aE,λH' k1 k2=>⟨rfl,?_⟩⟩;rw[Ob]at k2;have r:av H1 H':=λb q m=>by have n1:b≠x:=aI m nx;rw[k1 b n1,az n1,az (aI m l)];exact m
  refine o x H' (n.free nx) (n.trans r) (Df (dx:=dx) (fs:=names.zip vs++tl.map λp=>(p.1,.int p.2)) ?_ (pE (IB g) (yA hn)) ?_)
  ·rw[aN (G.ls.new nx)];exact k2
  ·rw[O5];exact AJ (Dz tl) (vt (h1.same r.del))
 ·rw[i]at o;exact o H' s'
 ·rw[i]at o;exact o
end
def kP(C:Addr)(names:List Str)(tl:List (Str×Int))(as:List Addr)(a:List (List PyData)):List PyData:=(as.zip a).map λp=>cu C p.1 (names.zip p.2++tlD tl)
def lJ(K:W.Frag)(E:XK)(C:Addr)(names:List Str)(tl:List (Str×Int))(n0:Nat)(e gs:Ds->Rs (List PyData))(tgt:PyData->Option Ds):TE:=λσ H Q=>∃A δ,dJ K H A δ σ/\δ.length=n0/\∃ds b,e δ=.ok ds/\ds.length<=1000000/\b.length=ds.length /\
 (∀(i:Nat) d,ds[i]?=some d->∃c fs,tgt d=some c/\b[i]?=some fs/\gs (δ++c)=.ok fs/\fs.length=names.length) /\
 ∀(as:List Addr)(D:Addr)(H':Hp),as.length=ds.length->as.Nodup->(∀a∈as,H a=none)->av H H'->Is K (del H' A) (.list (kP C names tl as b)) (.ref D)->Q (.ref D) H'
theorem JV{E:XK}{g:TG}(hT:TgD K n0 own.length tgt g) :
  ∀σ H Q,lJ K E C names tl n0 gi gs tgt σ H Q->tLC own.length (iD K E gi) g wo (eMk K E0 C names tl gs) σ H Q:=by
 intro σ H Q ⟨A,δ,R,Y,ds,j,q,hz,Z,hel,o⟩;have hσ:σ.length=n0:=by rw[<-R.len];exact Y
 refine⟨A,δ,R,?_⟩;rw[q];intro J H1 s1 hJ D S;have T:=R.same s1;have nD:D∉A:=T.ls.new S;refine⟨λi m ys H'=>m=ds.length-i/\i<=ds.length/\av H1 H'/\H' D=some (.lst ys)/\∃as:List Addr,as.length=i/\ys=as.map V.ref/\as.Nodup/\(∀a∈as,H1 a=none/\a≠D/\∃u,H' a=some u)/\Iss K (del H' (D::A)) (kP C names tl as (j.take i)) ys,
  ⟨ds.length,by simp,Oc _,bE S,aE,[],rfl,rfl,PH,λa h=>(NN h).elim,cX⟩,?_⟩
 rintro i m ys H' ⟨rfl,hi,B,hl,as,n,rfl,nd,l,c3⟩
 refine⟨hl,?_⟩;have sG:av (del H1 A) H':=ay.trans B;have G:∀b∈D::A,(del H1 A) b=none:=λb r=>by
  rcases N5.mp r with z|z
  ·rw[z,aN nD];exact S
  ·exact ib z
 obtain⟨jg,js,jy⟩:=hJ H' (D::A) sG (λb r=>by
  rcases N5.mp r with z|z
  ·exact⟨_,by rw[z];exact hl,rfl⟩
  ·exact (T.ls.same B) b z) G
 by_cases hlt:i<ds.length
 ·refine .inr ⟨jg i hlt,λx H2 σ' I y=>?_⟩;obtain⟨s2,d,ed,hd⟩:=jy i x H2 hlt y;obtain⟨ow,fs,et,ef,eg,hfs⟩:=hel i d ed;have l2:H2 D=some (.lst (as.map V.ref)):=s2 _ _ hl;have L:Ls H2 (D::A):=λb r=>by
   rcases N5.mp r with z|z
   ·exact⟨_,by rw[z];exact l2,rfl⟩
   ·exact (T.ls.same (B.trans s2)) b z
  obtain⟨hol,hgo⟩:=hT d x σ σ' H2 (D::A) (λs H2=>wo s H2 λb H3 =>
   if b=true then eMk K E0 C names tl gs s H3 λv F=>F D=some (.lst (as.map V.ref))/\(as.map V.ref).length<sizeLine/\(∃f,s=σ++f/\f.length=own.length)/\∃m',m' < ds.length-i/\_
   else (∃f,s=σ++f/\f.length=own.length)/\∃m',m' < ds.length-i/\_) ow hσ I L hd et
  refine hgo λvs M N=>?_
  have O:av (del H1 A) (del H2 (D::A)):=lP (sG.trans s2) G;have RE:dJ K H2 (D::A) (δ++ow) (σ++vs):=by
   refine⟨L,by rw[NC,NC,R.len,M,hol],λk e U=>?_⟩;by_cases hk:k<δ.length
   ·rw[NP hk]at U;obtain⟨u,e1,w⟩:=T.get k e U;exact⟨u,by rw[NP (by rw[<-R.len];exact hk)];exact e1,w.same O⟩
   ·rw[NT (by omega)]at U;obtain⟨u,e1,w⟩:=N _ e U;exact⟨u,by rw[NT (by rw[<-R.len];omega),<-R.len];exact e1,w⟩
  unfold wo;have hI:∀{p q:Prop},p->(if true=true then p else q):=λh=>by rw[if_pos rfl];exact h
  refine hI ?_;refine⟨D::A,δ++ow,RE,?_⟩;rw[eg];refine⟨hfs,λa F na X ha=>?_⟩;have l4:F D=some (.lst (as.map V.ref)):=X _ _ l2;have P:a≠D:=λz=>by rw[z,l2]at na;cases na
  have naA:a∉as:=λz=>by obtain⟨_,_,u,w⟩:=l a z;rw[s2 _ _ w]at na;cases na
  have dU:del (upd F D (.lst (as.map V.ref++[.ref a]))) (D::A)=del F (D::A):=kE (N3);have h4a:∃u,F a=some u:=by obtain⟨_,dx,gs',hp,_⟩:=ha.atObj;exact⟨_,(bc hp).2⟩
  have hex:kP C names tl (as++[a]) (j.take (i+1))=kP C names tl as (j.take i)++[cu C a (names.zip fs++tlD tl)]:=by
   have ht:j.take (i+1)=j.take i++[fs]:=by rw[List.take_add_one,ef];rfl
   unfold kP;rw[ht,List.zip_append (by rw[n,P6];omega),O5];rfl
  refine⟨l4,by rw[sizeLine_eq,N4,n];omega,⟨vs,rfl,M⟩,ds.length-(i+1),by omega,rfl,hlt,?_,aE,as++[a],by rw[NC,n];rfl,by rw[O5];rfl,?_,λb r=>?_,?_⟩
  ·exact av.put ((B.trans s2).trans X) S
  ·exact PR.mpr ⟨nd,by simp,λb r c hc e=>by rw[NA.mp hc]at e;exact naA (e▸r)⟩
  ·rcases NY.mp r with z|z
   ·obtain⟨h1,h2,u,w⟩:=l b z;refine⟨h1,h2,u,?_⟩;rw[az h2];exact X _ _ (s2 _ _ w)
   ·cases NA.mp z;obtain⟨u,w⟩:=h4a;refine⟨(B.trans s2).free na,P,u,?_⟩;rw[az P];exact w
  ·rw[dU,hex];exact (c3.same (av.del (s2.trans X))).append (jk ha)
 ·have e:i=ds.length:=by omega
  subst e;rw[<-Z,List.take_length]at c3;refine .inl ⟨js,o as D H' (by rw[n]) nd (λa ha=>s1.free (l a ha).1) (s1.trans B) ?_⟩;have hs:av (del H' (D::A)) (del H' A):=λb u eb=>by obtain⟨q1,q2⟩:=bc eb;rw[aN (λz=>q1 (N0 _ z))];exact q2
  exact jT (by rw[aN nD];exact hl) (c3.same hs)
section
variable {E:XK}{ss:List Stmt}
theorem Ib{r:Ds->Rs (List PyData)}{e:Ds->Sr}(v:PS X st (Ej (lJ X.K E C names tl n0 r gs tgt) (j7 i)))(f:∀as,PBN as X E O ss (G as))(hi:i∉O)
  (g:∀δ,e δ≠.no->∃d ds b,e δ=.rt d/\i<δ.length/\δ.length=n0/\r (mask O δ)=.ok ds/\ds.length<=1000000/\b.length=ds.length/\(∀(i:Nat) d,ds[i]?=some d->∃u fs,tgt d=some u/\b[i]?=some fs/\gs (mask O δ++u)=.ok fs/\fs.length=names.length) /\
   ∀as:List Addr,as.length=ds.length->as.Nodup->G as (δ.set i (some (.list (kP C names tl as b))))=.rt d):PBD X E O (st::ss) e:=by
 have h2:PSs X ss (λD σ H=>∃as,sDN as X.K E O (G as) D σ H):=λpins s σ H D I j=>(by obtain⟨as,h⟩:=j;exact f as pins s σ H D I h)
 refine (cL v h2).imp λD σ H l=>?_
 obtain⟨H0,A0,A,δ,R,o⟩:=l;by_cases z:e δ=.no
 ·rw[z]at o;exact o.elim
 obtain⟨d,ds,b,e1,hl,hn,e2,w,x,m,y⟩:=g δ z;rw[e1]at o;have n:(mask O δ).length=n0:=by rw[wG];exact hn
 refine⟨A++A0,mask O δ,R.part,n,ds,b,e2,w,x,m,λas Dd H' p nd c B q=>?_⟩;refine⟨as,H0,A0,A,_,λa ha=>R.same.free (c a ha),(R.step B).set hi hl q,?_⟩;rw[y as p nd];exact o
end
section
variable {κ:Type}[DecidableEq κ]
def kH(kvs:List (κ×V))(k:κ):Option V:=(kvs.find? λa=>decide (a.1=k)).map (·.2)
def putK(kvs:List (κ×V))(k:κ)(v:V):List (κ×V) :=
 if (kvs.any λa=>decide (a.1=k))=true then kvs.map (λa=>if a.1=k then (a.1,v) else a) else kvs++[(k,v)]
theorem pP{p:κ×V}{r:List (κ×V)}{k:κ}(e:p.1=k):kH (p::r) k=some p.2:=by simp[kH,O0,e]
theorem qE{p:κ×V}{r:List (κ×V)}{k:κ}(e:¬ p.1=k):kH (p::r) k=kH r k:=by simp[kH,O0,e]
theorem wy(k:κ):∀kvs:List (κ×V),(kvs.any λa=>decide (a.1=k))=(kH kvs k).isSome
 |[]=>rfl
 |p::r=>by
  rw[OP];by_cases e:p.1=k
  ·simp only[pP e,decide_eq_true e,Bool.true_or,Option.isSome_some]
  ·rw[qE e,decide_eq_false e,Bool.false_or];exact wy k r
theorem oq(kvs:List (κ×V))(k:κ)(v:V):(putK kvs k v).length<=kvs.length+1:=by
 unfold putK;split
 ·rw[N4];omega
 ·rw[NC,NJ,OI];omega
theorem jG.isSome_eq{o:Option V}{u:Option Value}(r:jG o u):o.isSome=u.isSome:=by
 cases o with
 |none=>cases u with
  |none=>rfl
  |some _=>exact (show False from r).elim
 |some _=>cases u with
  |none=>exact (show False from r).elim
  |some _=>rfl
theorem jG.getD{o:Option V}{u:Option Value}{d:V}{d':Value}(r:jG o u)(a:RelV d d'):RelV (o.getD d) (u.getD d'):=by
 cases o with
 |none=>cases u with
  |none=>exact a
  |some _=>exact (show False from r).elim
 |some _=>cases u with
  |none=>exact (show False from r).elim
  |some _=>exact r
theorem KV.val{kvs:List (κ×V)}{vs:List (κ×Value)}(r:KV kvs vs)(k:κ):jG (kH kvs k) (valueAt vs k):=by
 unfold KV at r
 induction r with
 |nil=>exact True.intro
 |@cons p q ps qs h t ih =>
  obtain⟨h1,h2⟩:=h;by_cases e:p.1=k
  ·have a:q.1=k:=h1.symm.trans e;have b:valueAt (q::qs) k=some q.2:=by simp[valueAt,O0,a]
   rw[pP e,b];exact h2
  ·have a:¬ q.1=k:=λz=>e (h1.trans z)
   have b:valueAt (q::qs) k=valueAt qs k:=by simp[valueAt,O0,a]
   rw[qE e,b];exact ih
theorem KV.any{kvs:List (κ×V)}{vs:List (κ×Value)}(r:KV kvs vs)(k:κ):(kvs.any λa=>decide (a.1=k))=vs.any λa=>decide (a.1=k):=by
 unfold KV at r
 induction r with
 |nil=>rfl
 |cons h t ih=>rw[OP,OP,ih,h.1]
theorem KV.repl{kvs:List (κ×V)}{vs:List (κ×Value)}(r:KV kvs vs)(k:κ)(b:RelV y u) :
  KV (kvs.map λa=>if a.1=k then (a.1,y) else a) (vs.map λa=>if a.1=k then (a.1,u) else a):=by
 unfold KV at r ⊢
 induction r with
 |nil=>exact .nil
 |@cons p q ps qs h t ih =>
  rw[N1,N1];refine .cons ?_ ih;obtain⟨h1,h2⟩:=h;by_cases e:p.1=k
  ·rw[if_pos e,if_pos (h1.symm.trans e)];exact⟨h1,b⟩
  ·rw[if_neg e,if_neg (λz=>e (h1.trans z))];exact⟨h1,h2⟩
theorem KV.put{kvs:List (κ×V)}{vs:List (κ×Value)}(r:KV kvs vs)(k:κ)(a:RelV y u):KV (putK kvs k y) (stored vs k u):=by
 unfold putK stored;rw[r.any k];by_cases e:(vs.any λb=>decide (b.1=k))=true
 ·rw[if_pos e,if_pos e];exact r.repl k a
 ·rw[if_neg e,if_neg e];exact Paired.snoc r ⟨rfl,a⟩
theorem KV.length{kvs:List (κ×V)}{vs:List (κ×Value)}(r:KV kvs vs):kvs.length=vs.length:=Paired.length r
end
theorem An{k:Key}(r:RelV (kV k) u):(dH P w).is k u=true:=by
 cases k with
 |inl i=>obtain⟨t,e⟩:=(show ∃t,u=Value.int i t from r);subst e;exact xk P w i t
 |inr x=>obtain⟨t,e⟩:=(show ∃t,u=Value.str x t from r);subst e;exact we P w x t
theorem uh{P:Program}{w:World}:∀{ks:List Key}{us:List Value},Vals (ks.map kV) us->ItemsAre (dH P w) ks us
 |[],_,r=>by rw[Oq]at r;cases r;exact .nil
 |k::ks,_,r=>by
  rw[N1]at r;cases r with
  |cons h t=>exact .cons (An h) (uh t)
abbrev KT(H:Hp):List (List Key×V)->List (List Key×Addr×Value)->Prop:=Paired λp q=>p.1=q.1/\H q.2.1=some (.tup (p.1.map kV))/\RelV p.2 q.2.2
theorem KT.val(r:KT H kvs xs)(k:List Key):jG (kH kvs k) ((atKey xs k).map (·.2)):=by
 induction r with
 |nil=>exact True.intro
 |@cons p q ps qs h t ih =>
  obtain⟨h1,_,h2⟩:=h;by_cases e:p.1=k
  ·have a:q.1=k:=h1.symm.trans e;have b:atKey (q::qs) k=some q.2:=by simp[atKey,O0,a]
   rw[pP e,b];exact h2
  ·have a:¬ q.1=k:=λz=>e (h1.trans z)
   have b:atKey (q::qs) k=atKey qs k:=by simp[atKey,O0,a]
   rw[qE e,b];exact ih
theorem KT.repl(r:KT H kvs xs)(k:List Key)(b:RelV y u) :
  KT H (kvs.map λa=>if a.1=k then (a.1,y) else a) (xs.map (putAt k u)):=by
 induction r with
 |nil=>exact .nil
 |@cons p q ps qs h t ih =>
  rw[N1,N1];refine .cons ?_ ih;obtain⟨h1,h2,c⟩:=h;unfold putAt;by_cases e:p.1=k
  ·rw[if_pos e,if_pos (h1.symm.trans e)];exact⟨h1,h2,b⟩
  ·rw[if_neg e,if_neg (λz=>e (h1.trans z))];exact⟨h1,h2,c⟩
theorem KT.put(r:KT H kvs xs)(k:List Key)(c:H b=some (.tup (k.map kV)))(a:RelV y u) :
  KT H (putK kvs k y) (storedH xs k b u):=by
 have e:(kvs.any λf=>decide (f.1=k))=(atKey xs k).isSome:=by rw[wy,(r.val k).isSome_eq,Option.isSome_map]
 unfold putK storedH;rw[e];by_cases q:(atKey xs k).isSome=true
 ·rw[if_pos q,if_pos q];exact r.repl k a
 ·rw[if_neg q,if_neg q];exact Paired.snoc r ⟨rfl,c,a⟩
theorem KT.keeps(r:KT H kvs xs)(a:∀b ys,H b=some (.tup ys)->H' b=some (.tup ys)):KT H' kvs xs :=
 Paired.mapP r λ_ _ z=>⟨z.1,a _ _ z.2.1,z.2.2⟩
section
theorem IA{u:HO}(ok:HOk P w H h)(e:Rd H a u):dr P w H h a u:=e.ok ok
theorem xi{kvs:List (Key×V)}(ok:HOk P w H h)(e:Rd H a (.dK kvs)):kvs.length<=sizeLine/\(a==sysModules)=false/\∃vs,KV kvs vs/\h.DictOf (dH P w) a vs :=
 show dr P w H h a (.dK kvs) from IA ok e
theorem MF{kvs:List (Key×V)}(ok:HOk P w H h)(e:H a=some (.dK kvs)):kvs.length<=sizeLine/\(a==sysModules)=false/\∃vs,KV kvs vs/\h.DictOf (dH P w) a vs:=xi ok (.inl e)
theorem u6{ks:List Key}(ok:HOk P w H h)(e:H a=some (.tup (ks.map kV))):(tupleKind (dH P w)).is h ks a:=by
 obtain⟨_,b,r,o,h1,h2,_,n,c⟩:=(show dr P w H h a (.tup (ks.map kV)) from ok a _ e)
 exact⟨o,b.toArray,n,h1,h2,c,by simpa using uh r⟩
theorem wz(ok:HOk P w H h)(e:Rd H a (.dT kvs)):kvs.length<=sizeLine/\(a==sysModules)=false /\
  ∃xs,KT H kvs xs/\h.DictOfH (tupleKind (dH P w)) a xs:=by
 obtain⟨z,y,xs,r,o,es,c,h1,h2,f,g,i⟩:=(show dr P w H h a (.dT kvs) from IA ok e)
 refine⟨z,y,xs,r,o,es,c,h1,h2,f,g,λx b=>?_,i⟩;have all:∀{l:List (List Key×V)}{m:List (List Key×Addr×Value)},KT H l m->∀x∈m,(tupleKind (dH P w)).is h x.1 x.2.1:=by
  intro l m q
  induction q with
  |nil=>intro x b;exact nomatch b
  |@cons p q ps qs hq t ih =>
   intro x b;rcases N5.mp b with e|b
   ·subst e;exact u6 ok (by rw[<-hq.1];exact hq.2.1)
   ·exact ih x b
 exact all r x b
theorem LQ(ok:HOk P w H h)(e:H a=some (.dT kvs)):kvs.length<=sizeLine/\(a==sysModules)=false /\
 ∃xs,KT H kvs xs/\h.DictOfH (tupleKind (dH P w)) a xs:=wz ok (.inl e)
end
def pZ(H:Hp)(a:Addr)(y:V)(r:Option V):Prop :=
 (∃kvs k,Rd H a (.dK kvs)/\y=kV k/\r=kH kvs k)\/∃kvs k b,Rd H a (.dT kvs)/\y=.ref b/\H b=some (.tup (k.map kV))/\r=kH kvs k
def wZ(H:Hp)(a:Addr)(y v:V)(H':Hp):Prop :=
 (∃kvs k,H a=some (.dK kvs)/\y=kV k/\kvs.length<sizeLine/\H'=upd H a (.dK (putK kvs k v))) \/
 ∃kvs k b,H a=some (.dT kvs)/\y=.ref b/\H b=some (.tup (k.map kV))/\kvs.length<sizeLine/\H'=upd H a (.dT (putK kvs k v))
theorem pZ.k{kvs:List (Key×V)}{k:Key}(e:H a=some (.dK kvs)):pZ H a (kV k) (kH kvs k):=.inl ⟨kvs,k,.inl e,rfl,rfl⟩
theorem pZ.t{k:List Key}(e:H a=some (.dT kvs))(c:H b=some (.tup (k.map kV))):pZ H a (.ref b) (kH kvs k):=.inr ⟨kvs,k,b,.inl e,rfl,c,rfl⟩
theorem wZ.k{kvs:List (Key×V)}{k:Key}(e:H a=some (.dK kvs))(hl:kvs.length<sizeLine):wZ H a (kV k) v (upd H a (.dK (putK kvs k v))):=.inl ⟨kvs,k,e,rfl,hl,rfl⟩
theorem wZ.t{k:List Key}(e:H a=some (.dT kvs))(c:H b=some (.tup (k.map kV)))(hl:kvs.length<sizeLine) :
 wZ H a (.ref b) v (upd H a (.dT (putK kvs k v))):=.inr ⟨kvs,k,b,e,rfl,c,hl,rfl⟩
section
variable {r:Value}{o:Option V}{A:Around}
theorem Inv.big(I:Inv X pins σ H s):sysModules<s.heap.objs.size:=by have h:mainGlobals<s.heap.objs.size:=(I.mod.glob.keeps I.bk).lt;exact Nat.lt_trans (by decide) h
theorem CU(n:A.units+1<cLine)(I:Inv X pins σ H s)(g:pZ H a y (some v))(m:RelV y u)(h:∀f s',Inv X pins σ H s'->RelV v f->Q f s') :
  wpAny (model X.prog X.w) A (getItem (.ref a) u) Q E s:=by
 rcases g with⟨kvs,k,e,i,l⟩|⟨kvs,k,b,e,i,q,l⟩
 ·subst i;obtain⟨z,hd,vs,rel,dd⟩:=xi I.hok e;obtain⟨f,hw,c⟩:=jG.some_of (v:=v) (o:=valueAt vs k) (by rw[l];exact rel.val k);exact wpAny_getItem_of (An m) dd.mapOf hw (h f _ (I.tok _) c)
 ·subst i;cases (show u=Value.ref b from m);obtain⟨z,hd,xs,rel,dd⟩:=wz I.hok e;obtain⟨f,hw,c⟩:=jG.some_of (v:=v) (o:=(atKey xs k).map (·.2)) (by rw[l];exact rel.val k);obtain⟨p,r,j⟩:=O7.mp hw;refine wpAny_getItem_heap (tupleKind_room_in1 n) (u6 I.hok q) dd r ?_;rw[j];exact h f _ (I.tok _) c
theorem AA{t':Nat}{c:HO}(I:Inv X pins σ H s)(f:Mut (H a))(g:Heap.SameBut a s.heap h')(h:∃q,h'.get? a=some q)(new:dr X.prog X.w (upd H a c) h' a c) :
  Inv X pins σ (upd H a c) { s with heap:=h',toks:=t' } :=
 I.write (x:=a) (e:=a) f (.inl rfl) (λb q i z=>(g.2 b i).trans z) h new
theorem Jn{kvs:List (Key×V)}{vs:List (Key×Value)}(z:kvs.length<=sizeLine)(hd:(a==sysModules)=false)(rel:KV kvs vs)(dd:h'.DictOf (dH P w) a vs) :
 dr P w H' h' a (.dK kvs):=⟨z,hd,vs,rel,dd⟩
theorem Bu{Q:Unit->Shared->Prop}(D:A.units+1<cLine)(I:Inv X pins σ H s)(g:wZ H a y v H')(p:RelV y u)(x:RelV v r)(h:∀s',Inv X pins σ H' s'->Q () s') :
  wpAny (model X.prog X.w) A (setItem (.ref a) u r) Q E s:=by
 rcases g with⟨kvs,k,e,j,l,m⟩|⟨kvs,k,b,e,j,B,l,m⟩
 ·subst j m;obtain⟨z,hd,vs,rel,dd⟩:=MF I.hok e;have n:vs.length<=sizeLine:=by rw[<-rel.length];exact z
  have hl:(putK kvs k v).length<=sizeLine:=by have:=oq kvs k v;omega
  refine wpAny_setItem_pairs (hsz:=n) (An p) dd λh' f o=>h _ ?_
  have F:∃q,h'.get? a=some q:=let ⟨q,_,_,i,_⟩:=f;⟨q,i⟩;exact AA I (by rw[e];exact True.intro) o F (Jn hl hd (rel.put k x) f)
 ·subst j m;cases (show u=Value.ref b from p);obtain⟨z,hd,xs,rel,dd⟩:=LQ I.hok e;have n:xs.length<=sizeLine:=by rw[<-Paired.length rel];exact z
  have hl:(putK kvs k v).length<=sizeLine:=by have:=oq kvs k v;omega
  refine wpAny_setItem_heap (hsz:=n) (tupleKind_room_in1 D) (u6 I.hok B) dd λh' f o=>h _ ?_
  obtain⟨q,es,G,i,h2,J,K,_,L⟩:=f;refine AA I (by rw[e];exact True.intro) o ⟨q,i⟩ ⟨hl,hd,_,(rel.put k B x).keeps λc ys C=>?_,q,es,G,i,h2,J,K,L⟩;rw[az (ME C e (λz=>nomatch z))];exact C
end
section
variable {kvs:List (Key×V)}{k:Key}{A:Around}
end
def JA(i:Expr):Prop:=∀a b,subscripted i false a b=operate [a,b] (getItem a b)
theorem Gp{A:Around}{value slice:Expr}{T id:String}
  (hl:typeLookup (.type T) "__getitem__"=pure (some (.builtin id))) (l:JA slice)
  (h:wpAny (model prog w) A (eval value env) (λo c=>wpAny (model prog w) A (eval slice env) (λi a=>a.TypeIs o T/\wpAny (model prog w) A (getItem o i) Q E a) E c) E s) :
  wpAny (model prog w) A (eval (.Subscript value slice pos) env) Q E s:=by
 refine Subscript_ (wpAny_mono h (λo c f=>wpAny_mono f (λi a b=>?_) λ_ _ x=>x) λ_ _ x=>x);obtain⟨j,b⟩:=b;unfold subscriptTail;refine wpAny_bind ?_;rw[getitemInPython_of_ne j.not_modules];refine wpAny_bind (wpAny_specialOf j hl ?_);have fin:wpAny (model prog w) A (subscripted slice false o i) (λr e=>wpAny (model prog w) A (letTemporaryGo value o r >>= λ_=>pure r) Q E e) E a:=by rw[l o i];exact wpAny_operating (wpAny_mono b (λr e g=>wpAny_bind (wpAny_letTemporaryGo (wpAny_pure g))) λ_ _ x=>x)
 first
  |exact wpAny_pure (wpAny_bind fin)
  |exact wpAny_bind (wpAny_pure (wpAny_bind fin))
  |exact wpAny_bind fin
theorem wK{o:Option V}(I:Inv X pins σ H s)(g:pZ H a y o):s.TypeIs (.ref a) "dict":=by
 rcases g with⟨kvs,k,e,_,_⟩|⟨kvs,k,b,e,_,_,_⟩
 ·obtain⟨_,_,vs,_,dd⟩:=xi I.hok e;exact dd.typeIs
 ·obtain⟨_,_,xs,_,dd⟩:=wz I.hok e;exact dd.typeIs
def MB(td ty:TE):TE:=λσ H Q=>td σ H λx H1=>ty σ H1 λy H2=>∃a v,x=.ref a/\pZ H2 a y (some v)/\Q v H2
def Mj(td ty tv:TE):TS:=λD σ H=>tv σ H λv H1=>td σ H1 λx H2=>ty σ H2 λy c=>∃a b,x=.ref a/\wZ c a y v b/\D.nx σ b
section
variable {o i e value:Expr}{tpos:Pos}{td ty tv:TE}
theorem Hj(f:X.A.units+1<cLine)(j:PE X o td)(hi:PE X i ty)(l:JA i):PE X (.Subscript o i pos) (MB td ty):=by
 intro pins s σ H Q I h;refine Gp F.slot_dict_getitem.lookup l (thn (j pins s σ H _ I h) λu m b=>?_);obtain⟨x,H1,n,p,q⟩:=b;refine thn (hi pins m σ H1 _ n q) λiv s2 b=>?_
 obtain⟨y,H2,e,r,a,v,ex,g,w⟩:=b;subst ex;obtain rfl:u=Value.ref a:=p;exact⟨wK e g,CU f e g r λw' s3 z c=>⟨v,H2,z,c,w⟩⟩
theorem AL(c:X.A.units+1<cLine)(e:PE X o td)(hi:PE X i ty)(f:PE X value tv)(j:swapsWith value (some (.Subscript o i pos')) pos.line X.env=pure false) :
  PS X (.Assign [.Subscript o i pos'] value pos) (Mj td ty tv):=by
 intro pins s σ H D I h;refine wpAny_Assign_Subscript (thn (f pins s σ H _ I h) λr l b=>?_) j;obtain⟨v,H1,m,n,p⟩:=b;refine thn (e pins l σ H1 _ m p) λu s2 b=>?_
 obtain⟨x,H2,q,w,z⟩:=b;refine thn (hi pins s2 σ H2 _ q z) λiv s3 b=>?_
 obtain⟨y,H3,B,C,a,E,ex,g,F⟩:=b;subst ex;obtain rfl:u=Value.ref a:=w;exact Bu c B g C n λs4 G=>⟨σ,E,G,F⟩
end
theorem DK(h:Heap)(a:sysModules<h.objs.size):dr P w H (h.push { cls:=.type "dict",data:=.dict #[] }) h.objs.size (.dK []) :=
 ⟨Oc _,beq_eq_false_iff_ne.mpr (Ne.symm (ND a)),[],.nil,Heap.DictOf.new h⟩
theorem FD(h:Heap)(a:sysModules<h.objs.size):dr P w H (h.push { cls:=.type "dict",data:=.dict #[] }) h.objs.size (.dT []) :=
 ⟨Oc _,beq_eq_false_iff_ne.mpr (Ne.symm (ND a)),[],.nil,_,#[],0,NB _ rfl,⟨rfl,rfl,rfl⟩,rfl,rfl,PH⟩
def JH:TE:=λ_ H Q=>∀p,H p=none->Q (.ref p) (upd H p (.dK []))
def Km:TE:=λ_ H Q=>∀p,H p=none->Q (.ref p) (upd H p (.dT []))
section
theorem xx:PE X (.Dict [] [] pos) JH:=λpins s σ H Q I h =>
 wpAny_Dict_empty ⟨.ref s.heap.objs.size,_,I.laid (a:=s.heap.objs.size) (o:=.dK []) (t':=s.toks) (λ_ _ q=>N2 _ q) (N6 _) (DK s.heap I.big),rfl,h _ (I.hok.fresh (N6 _))⟩
theorem Ft:PE X (.Dict [] [] pos) Km:=λpins s σ H Q I h =>
 wpAny_Dict_empty ⟨.ref s.heap.objs.size,_,I.laid (a:=s.heap.objs.size) (o:=.dT []) (t':=s.toks) (λ_ _ q=>N2 _ q) (N6 _) (FD s.heap I.big),rfl,h _ (I.hok.fresh (N6 _))⟩
end
structure M1(X:Cx)(o:Expr)(m:Str)(apos:Pos)(e:Expr)(cpos:Pos):Prop where
 base:attributeBase o m X.env (eval o X.env)=eval o X.env
 few:((backTo cpos (starEach [e] X.env)).all (λx=>!x.1)&&(backToKw cpos (keywordEach [] X.env)).all (λx=>x.1.isSome)
 &&decide (([e]:List Expr).length+([]:List Keyword).length+(if ([]:List Keyword).isEmpty then 0 else 1)<30))=true
 line:(apos.endLine==cpos.line)=true
 trees:backTo cpos (starEach [e] X.env)=[(false,eval e X.env)]
structure M2(X:Cx)(o:Expr)(m:Str)(apos:Pos)(e f:Expr)(cpos:Pos):Prop where
 base:attributeBase o m X.env (eval o X.env)=eval o X.env
 few:((backTo cpos (starEach [e,f] X.env)).all (λx=>!x.1)&&(backToKw cpos (keywordEach [] X.env)).all (λx=>x.1.isSome)
 &&decide (([e,f]:List Expr).length+([]:List Keyword).length+(if ([]:List Keyword).isEmpty then 0 else 1)<30))=true
 line:(apos.endLine==cpos.line)=true
 trees:backTo cpos (starEach [e,f] X.env)=[(false,eval e X.env),(false,eval f X.env)]
def L0(H:Hp)(a:Addr):Prop:=(∃kvs,Rd H a (.dK kvs))\/∃kvs,Rd H a (.dT kvs)
theorem KA(I:Inv X pins σ H s)(d:L0 H a) :
  s.TypeIs (.ref a) "dict"/\(∀b,Value.ref a=.ref b->∃c,s.heap.get? b=some c/\c.dict=none)/\(a==sysModules)=false:=by
 rcases d with⟨kvs,e⟩|⟨kvs,e⟩
 ·obtain⟨_,hd,vs,_,dd⟩:=xi I.hok e;refine⟨dd.typeIs,λb q=>?_,hd⟩;cases q;obtain⟨c,_,_,h1,h2,_⟩:=dd;exact⟨c,h1,h2.2.1⟩
 ·obtain⟨_,hd,xs,_,dd⟩:=wz I.hok e;refine⟨dd.typeIs,λb q=>?_,hd⟩;cases q;obtain⟨c,_,_,h1,h2,_⟩:=dd;exact⟨c,h1,h2.2.1⟩
section
variable {d:V}{r:Value}{o:Option V}{A:Around}
theorem IW(m:A.units+1<cLine)(I:Inv X pins σ H s)(g:pZ H a y o)(f:RelV y u)(i:RelV d r)(h:∀j s',Inv X pins σ H s'->RelV (o.getD d) j->Q j s') :
  wpAny (model X.prog X.w) A (call (.builtin "dict.get") [.ref a,u,r]) Q E s:=by
 rcases g with⟨kvs,k,e,c,l⟩|⟨kvs,k,b,e,c,n,l⟩
 ·subst c;obtain⟨z,hd,vs,rel,dd⟩:=xi I.hok e;refine call_meetsIn F.slot_dict_get dd.typeIs F.entry_dict_get (F.args_dict_get_3 _ _ _) (meets_dict_get_default (dH X.prog X.w) a (An f) hd r) ⟨_,dd.mapOf,h _ _ (I.tok _) ?_⟩;rw[l];exact (rel.val k).getD i
 ·subst c;cases (show u=Value.ref b from f);obtain⟨z,hd,xs,rel,dd⟩:=wz I.hok e;refine call_meetsIn F.slot_dict_get dd.typeIs F.entry_dict_get (F.args_dict_get_3 _ _ _) (meetsH_dict_get_default (tupleKind (dH X.prog X.w)) a b hd r) ⟨tupleKind_room_in1 m,k,xs,u6 I.hok n,dd,h _ _ (I.tok _) ?_⟩;rw[l];exact (rel.val k).getD i
end
def JG(td ty tx:TE):TE:=λσ H Q=>td σ H λx H1=>∃a,x=.ref a/\L0 H1 a/\ty σ H1 λy H2=>tx σ H2 λz b=>∃o,pZ b a y o/\Q (o.getD z) b
section
variable {o e f:Expr}{apos:Pos}{td ty tx:TE}
theorem E2(j:X.A.units+1<cLine)(l:PE X o td)(n:PE X e ty)(p:PE X f tx)(m:M2 X o "get" apos e f cpos):PE X (.Call (.Attribute o "get" apos) [e,f] [] cpos) (JG td ty tx):=by intro pins s σ H Q I h;refine wpAny_Call_method m.base m.few m.line F.plainAttrs_dict F.slot_dict_get F.type_dict_get (thn (l pins s σ H _ I h) λu q b=>?_);obtain⟨x,H1,i,r,a,ex,d,v⟩:=b;subst ex;obtain rfl:u=Value.ref a:=r;obtain⟨w,B,_⟩:=KA i d;refine⟨w,B,?_⟩;rw[m.trees];refine Calls.callWith_builtin rfl (Calls.evalArgs_plain (Calls.spliced_cons (thn (n pins q σ H1 _ i v) λiv s2 b=>?_)));obtain⟨y,H2,C,D,E⟩:=b;refine Calls.spliced_cons (thn (p pins s2 σ H2 _ C E) λfv s3 b=>?_);obtain⟨z,G,J,rz,ov,g,K⟩:=b;refine Calls.spliced_nil ?_;exact IW j J g D rz λw' s4 L c=>⟨_,G,L,c,K⟩
end
section
variable {kvs:List (Key×V)}{A:Around}
end
section
variable {A:Around}
end
section
theorem bR.setOwnO{v:PyData}(R:bR K H0 A0 H A O δ σ)(hi:i∈O)(hl:i<δ.length)(hn:H a=none)(s:av H H1)(ha:H1 a=some o)(m:Jg o=true)(h:iy K (del H1 (a::(A++A0))) v o) :
  bR K H0 A0 H1 (a::A) O (δ.set i (some v)) (σ.set i (some (.ref a))) where
 same:=R.same.trans s
 ls0:=R.ls0
 new:=λb n=>by
  rcases N5.mp n with z|z
  ·rw[z];exact R.same.free hn
  ·exact R.new b z
 ls:=λb n=>by
  rcases N5.mp n with z|z
  ·exact⟨_,by rw[z];exact ha,m⟩
  ·exact (R.ls.same s) b z
 len:=by simp[R.len]
 pl:=λj e c q=>by
  rcases get_set q with⟨z,q⟩|⟨z,q⟩
  ·subst z;exact absurd hi c
  ·obtain⟨u,e1,h1⟩:=R.pl j e c q;refine⟨u,kD z e1,h1.same λb o e=>?_⟩;obtain⟨y,e⟩:=bc e;have r:b≠a:=aI e hn;rw[aN (by simpa[r] using y)];exact s _ _ e
 own:=λj e c q=>by
  have w:∀b o,del H (A++A0) b=some o->del H1 (a::A++A0) b=some o:=λb o e=>by obtain⟨y,e⟩:=bc e;have r:b≠a:=aI e hn;rw[aN (by simpa[r] using y)];exact s _ _ e
  rcases get_set q with⟨z,q⟩|⟨z,q⟩
  ·cases q;subst z;exact⟨a,_,_,by rw[O8 (by rw[<-R.len];exact hl)],N3,ha,rfl,h⟩
  ·obtain⟨b,ys,es,e1,h1,h2,x,B⟩:=R.own j e c q;exact⟨b,ys,es,kD z e1,N0 _ h1,s _ _ h2,x,B.same w⟩
 inj:=λj k d' e b c f g l p1 p2=>by
  have old:∀k,k∈O->i≠k->∀e,δ[k]?=some (some e)->σ[k]?=some (some (.ref a))->False:=λk f _ e q p=>by obtain⟨b,ys,es,e1,h1,h2,_⟩:=R.own k e f q;rw[p]at e1;cases e1;rw[hn]at h2;cases h2
  by_cases z1:i=j
  ·by_cases z2:i=k
   ·rw[<-z1,z2]
   ·subst z1;rw[O8 (by rw[<-R.len];exact hl)]at p1;cases p1;rw[NX z2]at l p2;exact (old k f z2 e l p2).elim
  ·by_cases z2:i=k
   ·subst z2;rw[O8 (by rw[<-R.len];exact hl)]at p2;cases p2;rw[NX z1]at g p1;exact (old j c z1 d' g p1).elim
   ·rw[NX z1]at g p1;rw[NX z2]at l p2;exact R.inj j k d' e b c f g l p1 p2
theorem bR.putO{d1 l:PyData}(R:bR K H0 A0 H A O δ σ)(hi:i∈O)(hd:δ[i]?=some (some l))(r:σ[i]?=some (some (.ref a)))(ha:a∈A)(m:Jg o=true)(h:iy K (del H (A++A0)) d1 o) :
  bR K H0 A0 (upd H a o) A O (δ.set i (some d1)) σ:=by
 have n:del (upd H a (o)) (A++A0)=del H (A++A0):=kE (O4 _ ha);have hl:i<δ.length:=(NR.mp hd).1;refine⟨λb o e=>?_,R.ls0,R.new,λb u=>?_,by simp[R.len],λj e c q=>?_,λj e c q=>?_,λj k d' e b c s f g p1 p2=>?_⟩
 ·have p:b≠a:=λz=>by rw[z,R.new a ha]at e;cases e
  rw[az p];exact R.same b o e
 ·by_cases z:b=a
  ·exact⟨_,by rw[z,aE],m⟩
  ·rw[az z];exact R.ls b u
 ·rcases get_set q with⟨z,q⟩|⟨z,q⟩
  ·subst z;exact absurd hi c
  ·rw[n];exact R.pl j e c q
 ·rcases get_set q with⟨z,q⟩|⟨z,q⟩
  ·cases q;subst z;exact⟨a,_,_,r,ha,aE,rfl,by rw[n];exact h⟩
  ·obtain⟨b,zs,es,e1,h1,h2,v,x⟩:=R.own j e c q;have p:b≠a:=λw=>z (R.inj i j _ _ a hi c hd q r (by rw[<-w];exact e1))
   exact⟨b,zs,es,e1,h1,by rw[az p];exact h2,v,by rw[n];exact x⟩
 ·rcases get_set f with⟨z1,f⟩|⟨z1,f⟩ <;> rcases get_set g with⟨z2,g⟩|⟨z2,g⟩
  ·rw[<-z1,z2]
  ·subst z1;exact R.inj i k l e b hi s hd g p1 p2
  ·subst z2;exact R.inj j i d' l b c hi f hd p1 p2
  ·exact R.inj j k d' e b c s f g p1 p2
end
def cV(l:List (Int×Int)):PyData:=.dict (l.map λp=>(PyData.int p.1,PyData.int p.2))
def dkO(l:List (Int×Int)):HO:=.dK (l.map λp=>(.inl p.1,V.int p.2))
theorem pK:∀{l m:List (Int×Int)},l.map (λp=>(PyData.int p.1,PyData.int p.2))=m.map (λp=>(PyData.int p.1,PyData.int p.2))->l=m
 |[],[],_=>rfl
 |[],_::_,h=>by simp at h
 |_::_,[],h=>by simp at h
 |(a,b)::l,(c,d)::m,h=>by simp only[N1,List.cons.injEq,Prod.mk.injEq,PyData.int.injEq]at h;obtain⟨⟨rfl,rfl⟩,h⟩:=h;rw[pK h]
theorem Is.ofDic(h:Is K H (cV l) v):∃a,v=.ref a/\H a=some (dkO l):=by
 unfold cV Is at h;rcases h with (⟨a,ns,_,e,_⟩|⟨a,m,e1,e,h2⟩)|⟨a,C,dx,fs,_,_,_,h|h⟩
 ·cases l with
  |nil=>simp at e
  |cons p l=>simp at e
 ·rcases e with⟨b,e,rfl⟩|⟨b,e,rfl⟩
  ·rw[pK e];exact⟨a,e1,h2⟩
  ·cases l <;> cases e
 ·cases l with
  |nil=>unfold Isk at h;simp at h
  |cons p l=>rw[N1]at h;unfold Isk at h;obtain⟨f,_,_,_,q,_⟩:=h;cases q
 ·cases l with
  |nil=>unfold Isk at h;simp at h
  |cons p l=>rw[N1]at h;unfold Isk at h;obtain⟨f,_,_,_,q,_⟩:=h;cases q
theorem Ks(h:H a=some (dkO l)):Is K H (cV l) (.ref a):=by unfold cV Is;exact .inl (.inr ⟨a,_,rfl,.inl ⟨l,rfl,rfl⟩,h⟩)
def lC:List (PyData×PyData)->Option (List (Int×Int))
 |[]=>some []
 |(.int a,.int b)::r=>(lC r).map λl=>(a,b)::l
 |_=>none
theorem sL:∀{r:List (PyData×PyData)}{l:List (Int×Int)},lC r=some l->r=l.map λp=>(PyData.int p.1,PyData.int p.2)
 |[],l,e=>by cases e;rfl
 |(a,b)::r,l,e=>by
  cases a <;> cases b <;> first|(cases e;done)|skip
  unfold lC at e;cases q:lC r with
  |none=>rw[q]at e;cases e
  |some m=>rw[q]at e;cases e;rw[sL q];rfl
theorem p9:∀l:List (Int×Int),lC (l.map λp=>(PyData.int p.1,PyData.int p.2))=some l
 |[]=>rfl
 |p::r=>by rw[N1];unfold lC;rw[p9 r];rfl
def vX:PyData->Option (List (Int×Int))
 |.dict kvs=>lC kvs
 |_=>none
theorem wc{d:PyData}(h:vX d=some l):d=cV l:=by
 unfold vX at h;split at h
 ·unfold cV;rw[sL h]
 ·cases h
theorem sP(l:List (Int×Int)):vX (cV l)=some l:=p9 l
def lK(l:List (Int×Int))(k:Int):Option Int:=(l.find? λp=>decide (p.1=k)).map (·.2)
def zw(l:List (Int×Int))(k v:Int):List (Int×Int):=if (l.any λp=>decide (p.1=k))=true then l.map (λp=>if p.1=k then (p.1,v) else p) else l++[(k,v)]
theorem Es(l:List (Int×Int))(k:Int):kH (l.map λp=>((.inl p.1,V.int p.2):Key×V)) (.inl k)=(lK l k).map V.int:=by
 unfold kH lK
 induction l with
 |nil=>rfl
 |cons p r ih =>
  rw[N1,O0,O0];by_cases z:p.1=k
  ·have h1:decide ((Sum.inl p.1:Key)=.inl k)=true:=decide_eq_true (by rw[z]);simp only[h1,decide_eq_true z];rfl
  ·have h1:decide ((Sum.inl p.1:Key)=.inl k)=false:=decide_eq_false λq=>z (Sum.inl.inj q)
   simp only[h1,decide_eq_false z];exact ih
theorem HX(l:List (Int×Int))(k v:Int):putK (l.map λp=>((.inl p.1,V.int p.2):Key×V)) (.inl k) (.int v)=(zw l k v).map λp=>(.inl p.1,V.int p.2):=by
 have ha:((l.map λp=>((.inl p.1,V.int p.2):Key×V)).any λa=>decide (a.1=.inl k))=l.any λp=>decide (p.1=k):=by
  rw[List.any_map];congr 1;funext p;by_cases z:p.1=k
  ·simp[z]
  ·have:¬ ((Sum.inl p.1:Key)=.inl k):=λq=>z (Sum.inl.inj q)
   simp[z,this]
 unfold putK zw;rw[ha];split
 ·rw[NG,NG];refine NI λp _=>?_
  by_cases z:p.1=k
  ·simp[z]
  ·have:¬ ((Sum.inl p.1:Key)=.inl k):=λq=>z (Sum.inl.inj q)
   simp[z,this]
 ·rw[O5];rfl
section
variable {E:XK}{o e f i' value:Expr}{go ge gf:Ds->Rs PyData}{apos:Pos}
theorem Hn:PD X E (.Dict [] [] pos) (gC (cV [])):=(xx).imp λσ H Q ⟨A,δ,R,o⟩=>λp a=>o (.ref p) _ (bE a) (Ks (l:=[]) (by rw[aN (R.ls.new a)];exact aE))
def lH(go ge gf:Ds->Rs PyData):Ds->Rs PyData:=λδ=>(go δ).bind λd=>match vX d with
 |some l=>(ge δ).bind λk=>(gf δ).bind λz=>(match k,z with
  |.int k,.int z=>.ok (.int ((lK l k).getD z))
  |_,_=>.no)
 |none=>.no
end
section
variable {E:XK}{o e f k value:Expr}{go ge gf gk gv:Ds->Rs PyData}{apos:Pos}
theorem F0(q:X.A.units+1<cLine)(r:PD X E o go)(s:PD X E e ge)(w:PD X E f gf)(m:M2 X o "get" apos e f cpos):PD X E (.Call (.Attribute o "get" apos) [e,f] [] cpos) (lH go ge gf) :=
 (E2 q r s w m).imp λσ H Q i=>by
  obtain⟨A,δ,R,b⟩:=i;unfold lH at b;refine eD.run R (λd x v H1 j y h1=>?_) (λC c H' s'=>?_) (λc=>?_)
  ·simp only[x,Rs.ag]at b;split at b
   ·rename_i l hl;rw[wc hl]at h1;obtain⟨a,rfl,ha⟩:=h1.ofDic;have g:H1 a=some (dkO l):=ay _ _ ha;refine⟨a,rfl,.inl ⟨_,.inl g⟩,?_⟩;refine eD.run y (λkd B u H2 s2 R2 n=>?_) (λC c H' s'=>?_) (λc=>?_)
    ·simp only[B,Rs.ag]at b;refine eD.run R2 (λzd D z F p R3 G=>?_) (λC c H' s'=>?_) (λc=>?_)
     ·simp only[D,Rs.ag]at b;split at b
      ·rename_i h zz;have e1:=n.ofInt;have e2:=G.ofInt;subst e1 e2;refine⟨_,pZ.k (k:=.inl h) (p _ _ (s2 _ _ g)),?_⟩;rw[Es];have:((lK l h).map V.int).getD (.int zz)=.int ((lK l h).getD zz):=by cases lK l h <;> rfl
       rw[this];exact b _ F (j.trans (s2.trans p)) bF
      ·exact b.elim
     ·simp only[c,Rs.dZ]at b;exact b H' (j.trans (s2.trans s'))
     ·simp only[c,Rs.bw]at b;exact b
    ·simp only[c,Rs.dZ]at b;exact b H' (j.trans s')
    ·simp only[c,Rs.bw]at b;exact b
   ·exact b.elim
  ·simp only[c,Rs.dZ]at b;exact b H' s'
  ·simp only[c,Rs.bw]at b;exact b
def xN(i:Nat):Ds->Sr:=λδ=>if i<δ.length then .nx (δ.set i (some (cV []))) else .no
theorem Ew(c:X.N.Nodup)(e:i∈O)(hi:X.N[i]?=some x)(f:Loc X.env.scope x)(g:swapsWith (.Dict [] [] pos') (some (.Name x apos)) pos.line X.env=pure false)
  (h:X.fn x=true\/X.env.scope.names.lookup x=some .local):PSD X E O (.Assign [.Name x apos] (.Dict [] [] pos') pos) (xN i):=(rn c hi f xx g h).imp λD σ H a=>by
 obtain⟨H0,A0,A,δ,R,o⟩:=a;unfold xN at o;split at o
 ·rename_i hl;intro p b;exact o (p::A) _ _ (R.setOwnO (o:=dkO []) e hl b (bE b) aE rfl (.inl ⟨[],rfl,rfl⟩))
 ·exact o.elim
def qe(i:Nat)(gk gv:Ds->Rs PyData):Ds->Sr:=λδ=>match δ[i]? with
 |some (some d)=>(match vX d with
  |some l=>ofR (gv δ) λv=>ofR (gk δ) λk=>(match k,v with
   |.int k,.int v=>if l.length<1000000 then .nx (δ.set i (some (cV (zw l k v)))) else .no
   |_,_=>.no)
  |none=>.no)
 |_=>.no
theorem EZ(F:X.A.units+1<cLine)(h:PD X E value gv)(G:PD X E k gk)(y:i∈O)(hi:X.N[i]?=some x)(I:Vis X.env.scope x)
  (hd:(x==("__debug__":Str))=false) (f:(x==("__classdict__":Str))=false) (J:swapsWith value (some (.Subscript (.Name x pn) k pos')) pos.line X.env=pure false):PSD X E O (.Assign [.Subscript (.Name x pn) k pos'] value pos) (qe i gk gv) :=
 (AL F (j9 hi I hd f) G h J).imp λD σ H g=>by
  obtain⟨H0,A0,A,δ,R,a⟩:=g;unfold qe at a;split at a
  ·rename_i d q;split at a
   ·rename_i l hl;rw[wc hl]at q;obtain⟨p,o',d',e1,K,j,e2,n⟩:=R.own i _ y q;subst e2;have r:o'=dkO l:=by
     have n:HE _ o':=n;rcases n with⟨m,c,rfl⟩|⟨m,c,_⟩
     ·rw[pK c];rfl
     ·cases l <;> cases c
    subst r;refine eD.run R.full (λvd L v H1 z M s=>?_) (λC b H' s'=>?_) (λb=>?_)
    ·simp only[L,ax]at a;refine⟨_,e1,?_⟩;refine eD.run M (λkd P u H2 s2 R2 w=>?_) (λC b H' s'=>?_) (λb=>?_)
     ·simp only[P,ax]at a;split at a
      ·rename_i B Q;split at a
       ·rename_i hlen;have c:=w.ofInt;have S:=s.ofInt;subst c S;have e:=z.trans s2;refine⟨p,_,rfl,wZ.k (k:=.inl B) (e _ _ j) (by rw[N4,sizeLine_eq];omega),?_⟩;rw[HX];exact a A _ _ ((R.step e).putO (o:=dkO (zw l B Q)) y q e1 K rfl (.inl ⟨_,rfl,rfl⟩))
       ·exact a.elim
      ·exact a.elim
     ·simp only[b,jQ]at a;exact a H' (R.same.trans (z.trans s'))
     ·simp only[b,kj]at a;exact a
    ·simp only[b,jQ]at a;exact a H' (R.same.trans s')
    ·simp only[b,kj]at a;exact a
   ·exact a.elim
  ·exact a.elim
end
theorem cj.u1{k:Nat}{A:Around}(r:cj k A):A.units+1<cLine:=by have:=r.un;omega
def II(b N:List Str)(p:Str)(cap:List Nat)(a sc:Scope):Bool :=
 (sc.kind==.function)&&!sc.isCoroutine&&!sc.isGenerator&&decide N.Nodup&&decide (N.take 1=[p])&&(sc.names.lookup p==some .local)&&sc.names.all (λx=>x.2 != .cell) &&
 sc.names.all (λy=>y.2 != .free||a.names.lookup y.1==some .cell)&&decide (N.length=1+cap.length) &&
 (List.range cap.length).all (λi=>match N[1+i]?,cap[i]? with
  |some x,some m=>(b[m]?==some x)&&(sc.names.lookup x==some .free)&&(a.names.lookup x==some .cell)
  |_,_=>false)
theorem nY{α:Type}{x:Str}{k:α}:∀{l:List (Str×α)},l.lookup x=some k->(x,k)∈l
 |[],h=>by cases h
 |(y,j)::r,h=>by
  rw[NV]at h;cases q:(x==y) with
  |true=>rw[q]at h;cases h;rw[eq_of_beq q];exact N3
  |false=>rw[q]at h;exact N0 _ (nY h)
theorem qa{e:List Str}{b:Scope}{A:Around}{E:XK}
  {D:XK} {a:Expr} {n I:Pos} {J:Addr} {k:Nat} {p:Str}
  (hm:mg "min"=none) (L:cj (k+2) (dz CX P w K mg base e qual b f cd A outer s H E).A) (ha:PD (dz CX P w K mg base e qual b f cd A outer s H E) D a ga) (T:Fq (dz CX P w K mg base e qual b f cd A outer s H E) c J)
  (l:∀(q c':Addr)(s':Shared)(H':Hp),PD (sT (CXW P w) P w K mg base N ((dz CX P w K mg base e qual b f cd A outer s H E).env.qual++"<lambda>") scope q (.ref c') (m8 scope.names (dz CX P w K mg base e qual b f cd A outer s H E).env.cells []) (dz CX P w K mg base e qual b f cd A outer s H E).A.in1 (dz CX P w K mg base e qual b f cd A outer s H E).stack s' H' E0) E0 body gb)
  (hok:II e N p cap b scope=true:=by decide +kernel)
  (M:∀(q:Str)(cl:List (Str×Addr))(c':Addr)(pm v u:Value),bindArgs (W.kla_fn "<lambda>" q params body scope cl pm (.ref c') v) ⟨[u],[]⟩=pure ([p].zip [u]):=by intro _ _ _ _ _ _;rfl)
  (O:Gl (dz CX P w K mg base e qual b f cd A outer s H E) "min":=by rfl) (Q:starEach [a] (dz CX P w K mg base e qual b f cd A outer s H E).env=[(false,eval a (dz CX P w K mg base e qual b f cd A outer s H E).env)]:=by rfl) (o:defaultsOf params (dz CX P w K mg base e qual b f cd A outer s H E).env=([],[]):=by rfl) :
  PD (dz CX P w K mg base e qual b f cd A outer s H E) D (.Call (.Name "min" I) [a] [⟨some "key",.Lambda params body scope n,kp⟩] pos) (jq cap ga gb):=by
 unfold II at hok;simp only[N7,NM,decide_eq_true_eq,beq_iff_eq,bne_iff_ne,Bool.or_eq_true,PQ]at hok;obtain⟨⟨⟨⟨⟨⟨⟨⟨⟨R,S⟩,U⟩,X⟩,Y⟩,Z⟩,o7⟩,F⟩,o9⟩,B⟩:=hok;have g:∀x,b.names.lookup x=some .cell->∃c,(dz CX P w K mg base e qual b f cd A outer s H E).env.cells.lookup x=some c:=λx r=>rB r
 refine B6 (cap:=cap) rfl hm L ha T (jB λy hy hf=>?_) ⟨R,S,U,X,Y,λx r=>by rw[NA.mp r];exact Z,o7⟩ (λx c h=>pD _ _ _ x c (λ_ _ z=>by cases z) h) (λx r=>?_) o9 (λi m x h1 h2=>?_) (M _ _) (λq c' s' H'=>l q c' s' H') O Q o
 ·rcases F y hy with z|z
  ·exact absurd hf z
  ·exact g y.1 z
 ·have j:=nY r;rcases F (x,.free) j with z|z
  ·exact absurd rfl z
  ·obtain⟨c,hc⟩:=g x z;exact mD _ _ _ x c j hc
 ·have C:i<cap.length:=(NR.mp h2).1;have:=B i (OK.mpr C);rw[h1,h2]at this;simp only[N7,beq_iff_eq]at this;obtain⟨⟨q1,q2⟩,G⟩:=this;exact⟨q1,q2,.inl G,.inr (.inl G)⟩
end L2
namespace RS
open PySem
set_option genInjectivity true in
structure Er where
 every:Int
 due:Int
 late:Int
 parts:List (Int×Option Int)
def bW:Option Int->PyData
 |none=>.none
 |some i=>.int i
def aQ(p:Int×Option Int):PyData:=.tuple [.int p.1,bW p.2]
def Er.d(e:Er):PyData:=.tuple [.int e.every,.int e.due,.int e.late,.tuple (e.parts.map aQ)]
def ar(es:List Er):PyData:=.tuple (es.map Er.d)
def isWhole(d:PyData)(lo hi:Int):Bool:=match d with
 |.int i=>decide (lo<=i)&&decide (i<=hi)
 |_=>false
def bV(d:PyData)(lo hi:Int):Bool:=match d with
 |.tuple ds=>decide (lo<=(ds.length:Int))&&decide ((ds.length:Int)<=hi)
 |_=>false
def dD(d:PyData):Bool:=match d with
 |.tuple [a,b]=>isWhole a 1 20&&(match b with|.none=>true|b=>isWhole b 0 3)
 |_=>false
def iW(ds:List PyData):Bool:=match ds.getLast? with
 |some (.tuple [_,.none])=>true
 |_=>false
def eC(d:PyData):Bool:=match d with
 |.tuple ds=>decide (1<=ds.length)&&decide (ds.length<=4)&&ds.all dD&&iW ds
 |_=>false
def bL(d:PyData):Bool:=match d with
 |.tuple [.int e,du,.int l,ps]=>decide (2<=e)&&decide (e<=60)&&(decide (0<=l)&&decide (l<=(if e-1<20 then e-1 else 20)))&&isWhole du 1 (e-l)&&eC ps
 |_=>false
def dC(d:PyData):Bool:=match d with
 |.tuple ds=>decide (1<=ds.length)&&decide (ds.length<=6)&&ds.all bL
 |_=>false
structure Er.Ok(e:Er):Prop where
 e1:2<=e.every
 e2:e.every<=60
 l1:0<=e.late
 l2:e.late<=20
 l3:e.late<e.every
 d1:1<=e.due
 d2:e.due<=e.every-e.late
 p1:e.parts≠[]
 p2:e.parts.length<=4
 pl:∀p∈e.parts,1<=p.1/\p.1<=20/\∀t,p.2=some t->0<=t/\t<=3
 la:∀p,e.parts.getLast?=some p->p.2=none
theorem Cy{p:Int×Option Int}(h1:1<=p.1)(h2:p.1<=20)(c:∀t,p.2=some t->0<=t/\t<=3):dD (aQ p)=true:=by
 obtain⟨l,t⟩:=p;cases t with
 |none=>simp[dD,aQ,bW,isWhole,h1,h2]
 |some t =>obtain⟨a,b⟩:=c t rfl;simp[dD,aQ,bW,isWhole,h1,h2,a,b]
theorem xc{e:Er}(h:e.Ok):bL e.d=true:=by
 have f:(e.parts.map aQ).all dD=true:=by rw[NM];intro d hd;obtain⟨p,f,rfl⟩:=N9.mp hd;obtain⟨a,b,c⟩:=h.pl p f;exact Cy a b c
 have hl:iW (e.parts.map aQ)=true:=by
  unfold iW;rw[PU];cases q:e.parts.getLast? with
  |none=>exact absurd (List.getLast?_eq_none_iff.mp q) h.p1
  |some p =>obtain⟨l,t⟩:=p;have:t=none:=h.la _ q;subst this;rfl
 have hn:1<=e.parts.length:=by
  cases q:e.parts with
  |nil=>exact absurd q h.p1
  |cons _ _=>simp
 have h1:=h.e1;have h2:=h.e2;have i:=h.l1;have h4:=h.l2;have h5:=h.l3;have j:=h.d1;have m:=h.d2;have n:=h.p2;have g:e.late<=if e.every-1<20 then e.every-1 else 20:=by split <;> omega
 simp[bL,Er.d,eC,isWhole,f,hl,hn,h1,h2,i,j,m,n,g]
theorem lN{es:List Er}(h1:1<=es.length)(h2:es.length<=6)(h:∀e∈es,e.Ok):dC (ar es)=true:=by
 have a:(es.map Er.d).all bL=true:=by rw[NM];intro d hd;obtain⟨e,b,rfl⟩:=N9.mp hd;exact xc (h e b)
 simp[dC,ar,h1,h2,a]
def cellAt(ns:List Int)(k:Int):Int :=
 if k<(ns.length:Int) then ns.getD k.toNat 0 else if ns=[] then 0 else ns.getD (k % (ns.length:Int)).toNat 0*31+k
def B8(ns:List Int)(k:Int):Int:=(cellAt ns k+7919*k+1)*48271 % 2147483647
def mixed(ns:List Int)(k many:Int):Int:=(B8 ns k*B8 ns k+7*B8 ns k+k) % 2147483629 % many
theorem G4(ns:List Int)(k:Int):0<=B8 ns k:=Ox _ (by decide)
theorem Hg(ns:List Int)(k:Int):B8 ns k<2147483647:=Oz _ (by decide)
theorem cq(ns:List Int)(k:Int)(h:0<many):0<=mixed ns k many:=Ox _ (by omega)
theorem cN(ns:List Int)(k:Int)(h:0<many):mixed ns k many<many:=Oz _ h
def kR(i:Int):Option Int:=if i=0 then some 0 else if i=1 then some 1 else if i=2 then some 1 else if i=3 then some 0 else none
def eY(ns:List Int)(j:Int)(a:Bool):Int×Option Int:=(1+mixed ns j 40 % 4,if a then kR (mixed ns j 40 / 4 % 5) else none)
def iK(ns:List Int)(at' a:Int):Int :=
 if a-1<mixed ns (at' + 1) 4*(if mixed ns (at' + 2) 3=0 then 1 else 0) then a-1 else mixed ns (at' + 1) 4*(if mixed ns (at' + 2) 3=0 then 1 else 0)
def n6(ns:List Int)(at' a:Int):Int:=if mixed ns (at' + 1) 3=0 then a-mixed ns (at' + 2) a else a
def mkE(ns:List Int)(at' top:Int)(a:Bool):Er where
 every:=3+mixed ns at' top
 late:=iK ns at' (3+mixed ns at' top)
 due:=n6 ns at' (3+mixed ns at' top-iK ns at' (3+mixed ns at' top))
 parts:=((List.range (mixed ns (at' + 3) 3).toNat).map λ(k:Nat)=>eY ns (at' + 4+(k:Int)) a)++[(1+mixed ns (at' + 6) 3,none)]
def oK(ns:List Int)(at' most top:Int)(a:Bool):List Er:=(List.range (1+mixed ns at' most).toNat).map λ(k:Nat)=>mkE ns (at' + 1+7*(k:Int)) top a
theorem v5(ns:List Int)(at' a:Int)(h:3<=a):0<=iK ns at' a/\iK ns at' a<=3/\iK ns at' a<a:=by
 have h1:=cq ns (at' + 1) (many:=4) (by decide);have h2:=cN ns (at' + 1) (many:=4) (by decide);unfold iK;generalize mixed ns (at' + 1) 4=x at *;by_cases hc:mixed ns (at' + 2) 3=0
 ·simp only[hc,if_true,Int.mul_one];split <;> omega
 ·simp only[hc,if_false,Int.mul_zero];split <;> omega
theorem GY(ns:List Int)(at' a:Int)(h:1<=a):1<=n6 ns at' a/\n6 ns at' a<=a:=by have h1:=cq ns (at' + 2) (many:=a) (by omega);have h2:=cN ns (at' + 2) (many:=a) (by omega);unfold n6;split <;> omega
theorem G2(i t:Int)(h:kR i=some t):0<=t/\t<=1:=by
 unfold kR at h
 repeat' split at h
 all_goals (first|(cases h;decide)|cases h)
theorem DX(ns:List Int)(j:Int)(a:Bool):1<=(eY ns j a).1/\(eY ns j a).1<=4/\∀t,(eY ns j a).2=some t->0<=t/\t<=1:=by
 have h1:0<=mixed ns j 40 % 4:=Ox _ (by decide);have h2:mixed ns j 40 % 4<4:=Oz _ (by decide);refine⟨by unfold eY;simp only;omega,by unfold eY;simp only;omega,λt h=>?_⟩;unfold eY at h;simp only at h;cases a with
 |false=>simp at h
 |true=>simp at h;exact G2 _ _ h
theorem Lj(ns:List Int)(at' top:Int)(a:Bool)(h1:0<top)(h2:top<=58):(mkE ns at' top a).Ok:=by
 have a1:=cq ns at' h1;have a2:=cN ns at' h1;have l:=v5 ns at' (3+mixed ns at' top) (by omega);have d:=GY ns at' (3+mixed ns at' top-iK ns at' (3+mixed ns at' top)) (by omega);have n1:=cq ns (at' + 3) (many:=3) (by decide);have n2:=cN ns (at' + 3) (many:=3) (by decide);have n3:=cq ns (at' + 6) (many:=3) (by decide);have n4:=cN ns (at' + 6) (many:=3) (by decide);refine⟨?_,?_,l.1,?_,l.2.2,d.1,d.2,?_,?_,?_,?_⟩
 ·show 2<=3+mixed ns at' top;omega
 ·show 3+mixed ns at' top<=60;omega
 ·have:=l.2.1;show iK ns at' (3+mixed ns at' top)<=20;omega
 ·simp[mkE]
 ·simp only[mkE,NC,N4,Po,Oa];omega
 ·intro p b;simp only[mkE,NY,N9,NA]at b;rcases b with⟨k,_,rfl⟩|rfl
  ·have:=DX ns (at' + 4+(k:Int)) a;refine⟨this.1,by omega,λt c=>?_⟩;have:=this.2.2 t c;omega
  ·exact⟨by simp only;omega,by simp only;omega,λt c=>by cases c⟩
 ·intro p b;simp only[mkE,List.getLast?_append,List.getLast?_singleton,Option.some_or]at b;cases b;rfl
theorem Fv(ns:List Int)(at' most top:Int)(a:Bool)(h:0<most):1<=(oK ns at' most top a).length/\((oK ns at' most top a).length:Int)<=most:=by have h1:=cq ns at' h;have h2:=cN ns at' h;simp only[oK,N4,Po];omega
theorem Hy(ns:List Int)(at' most top:Int)(a:Bool)(h1:0<top)(h2:top<=58):∀e∈oK ns at' most top a,e.Ok:=by intro e b;simp only[oK,N9]at b;obtain⟨k,_,rfl⟩:=b;exact Lj _ _ _ _ h1 h2
end RS
variable {e:RS.Er}{es:List RS.Er}
namespace RS
open PySem L2
structure Cs where
 RankError:Addr
 NoErrands:Addr
 NoRanks:Addr
 NoComings:Addr
 NoErrand:Addr
 NoNumber:Addr
 TooLong:Addr
 NoText:Addr
 Holding:Addr
 Jobs:Addr
abbrev Gf:=List PyData->Rs PyData
def bG(K:W.Frag)(mg:Str->Option Value)(x:Str)(st:Stmt)(ps:List Str):Prop:=∃f fd,Fun K x x st f fd/\Binds K fd ps []/\mg x=some (.ref f)
def ja(cs:Cs):Ds->Sr :=
 (aJ (sIf (cOr (gm (gT (g1 (uw "int") (af 0)))) (gT (g1 (uw "bool") (af 0)))) (bp (gC (.bool false))) bj)
  (bp (nu dLe dLe (af 1) (af 0) (af 2))))
def jc(cs:Cs):Ds->Sr :=
 (bp (Dc (g1 (uw "tuple") (af 0)) (nu dLe dLe (af 1) (gF cM (ae (af 0) ah)) (af 2))))
def gY(cs:Cs)(aH aK:Gf):Ds->Sr :=
 (aJ (sIf (cOr (gm (gT (ao aK (ae (af 0) (ae (gC (.int 2)) (ae (gC (.int 2)) ah)))))) (gm (gT (ao aH (ae (g2 dIx (af 0) (gC (.int 0))) (ae (gC (.int 1)) (ae (gC (.int 20)) ah))))))) (bp (gC (.bool false))) bj)
  (bp (gOr (g1 lj (g2 dIx (af 0) (gC (.int 1)))) (ao aH (ae (g2 dIx (af 0) (gC (.int 1))) (ae (gC (.int 0)) (ae (g2 iH (gC (.int 4)) (gC (.int 1))) ah)))))))
def f7(cs:Cs)(aK a:Gf):Ds->Sr :=
 (aJ (sIf (cOr (gm (gT (ao aK (ae (af 0) (ae (gC (.int 1)) (ae (gC (.int 4)) ah)))))) (gm (gT (gF oN (ae (gL (ba 1 (bY (af 0)) bo (ao a (ae (af 1) ah)) aS)) ah))))) (bp (gC (.bool false))) bj)
  (bp (g1 lj (g2 dIx (g2 dIx (af 0) (g1 rQ (gC (.int 1)))) (gC (.int 1))))))
def eB(cs:Cs)(aH a aK:Gf):Ds->Sr :=
 (aJ (sIf (gm (gT (ao aK (ae (af 0) (ae (gC (.int 4)) (ae (gC (.int 4)) ah)))))) (bp (gC (.bool false))) bj)
  (aJ (aU [] 1 (g2 dIx (af 0) (gC (.int 0))))
  (aJ (aU [] 2 (g2 dIx (af 0) (gC (.int 1))))
  (aJ (aU [] 3 (g2 dIx (af 0) (gC (.int 2))))
  (aJ (sIf (gm (gT (ao aH (ae (af 1) (ae (gC (.int 2)) (ae (gC (.int 60)) ah)))))) (bp (gC (.bool false))) bj)
  (aJ (sIf (gm (gT (ao aH (ae (af 3) (ae (gC (.int 0)) (ae (gF kN (ae (gC (.int 20)) (ae (g2 iH (af 1) (gC (.int 1))) ah))) ah)))))) (bp (gC (.bool false))) bj)
  (bp (Dc (ao aH (ae (af 2) (ae (gC (.int 1)) (ae (g2 iH (af 1) (af 3)) ah)))) (ao a (ae (g2 dIx (af 0) (gC (.int 3))) ah))))))))))
def iP(cs:Cs)(aK a:Gf):Ds->Sr :=
 (aJ (sIf (cOr (gm (gT (ao aK (ae (af 0) (ae (gC (.int 1)) (ae (gC (.int 6)) ah)))))) (gm (gT (gF oN (ae (gL (ba 1 (bY (af 0)) bo (ao a (ae (af 1) ah)) aS)) ah))))) (ie cs.NoErrands (ae (gC (.str "errands are a tuple of 1 to 6 errands (every, due, late, parts)")) ah)) bj)
  (bp (af 0)))
def cT(cs:Cs)(aK aH:Gf):Ds->Sr :=
 (aJ (aU [] 2 (g2 iH (gF cM (ae (af 0) ah)) (gC (.int 1))))
  (aJ (sIf (cOr (gm (gT (ao aK (ae (af 1) (ae (gF cM (ae (af 0) ah)) (ae (gF cM (ae (af 0) ah)) ah)))))) (gm (gT (gF oN (ae (gL (ba 3 (bY (af 1)) bo (ao aH (ae (af 3) (ae (gC (.int 0)) (ae (af 2) ah)))) aS)) ah))))) (ie cs.NoRanks (ae (gC (.str "ranks are a tuple of the numbers of all errands")) ah)) bj)
  (aJ (sIf (gT (g2 dLt (gF l9 (ae (af 1) ah)) (gF cM (ae (af 1) ah)))) (ie cs.NoRanks (ae (gC (.str "ranks have each errand's number once")) ah)) bj)
  (bp (af 1)))))
def eF(cs:Cs)(aH:Gf):Ds->Sr :=
 (aJ (sIf (gm (gT (ao aH (ae (af 1) (ae (gC (.int 0)) (ae (g2 iH (gF cM (ae (af 0) ah)) (gC (.int 1))) ah)))))) (ie cs.NoErrand (ae (gC (.str "no errand has this number")) ah)) bj)
  (bp (af 1)))
def fS(cs:Cs)(bz aR aW:Gf):Ds->Sr :=
 (aJ (g6 (ao aW (ae (af 0) ah)))
  (aJ (g6 (ao aR (ae (af 0) (ae (af 1) ah))))
  (g6 (ao bz (ae (af 0) (ae (af 2) ah))))))
def tL(cs:Cs):Ds->Sr :=
 (bp (gF yp (ae (gL (ba 1 (bY (g2 dIx (af 0) (gC (.int 3)))) bo (g2 dIx (af 1) (gC (.int 0))) aS)) ah)))
def jh(cs:Cs):Ds->Sr :=
 (bp (g2 (EK false) (af 1) (gL (ba 2 (bY (g2 dIx (af 0) (gC (.int 3)))) bo (g2 dIx (af 2) (gC (.int 1))) aS))))
def l8(cs:Cs)(cA:Gf):Ds->Sr :=
 (aJ (fP [] (fJ (ae (af 1) ah)) (fH [3,4]) (sIf (gT (ao cA (ae (g2 dIx (af 0) (af 4)) (ae (af 2) ah)))) (bp (af 3)) bj))
  (bp (gC .none)))
def gM(cs:Cs)(dR:Gf):Ds->Sr :=
 (bp (gL (ba 2 (fG (ae (gC (.int 4)) ah)) bo (ao dR (ae (af 0) (ae (af 1) (ae (af 2) ah)))) aS)))
def jm(cs:Cs)(aP:Gf):Ds->Sr :=
 (aJ (aU [5] 3 (ql (af 1) (af 2)))
  (aJ (aU [5] 4 (ao aP (ae (af 0) (ae (af 1) ah))))
  (aJ (ip [5] 5 ah)
  (aJ (fP [5] (bY (lF (af 1) (rA (g2 bP (af 3) (gC (.int 1)))) kz)) (bO 6) (fP [5] (fJ (ae (g2 dIx (g2 dIx (af 0) (af 6)) (gC (.int 3))) ah)) (fH [7,8]) (sIf (CT (gT (g1 jw (g2 dIx (af 8) (gC (.int 1))))) (gT (g2 dLe (g2 dIx (af 4) (g2 dIx (af 8) (gC (.int 1)))) (af 3)))) (iI [5] 5 (ao (sS cs.Holding ["number", "part", "tool", "times"]) (ae (af 6) (ae (af 7) (ae (g2 dIx (af 8) (gC (.int 1))) (ae (g2 iH (g2 dIx (af 8) (gC (.int 0))) (gC (.int 1))) ah)))))) bj)))
  (bp (af 5))))))
def fe(cs:Cs)(cW:Gf):Ds->Sr :=
 (bp (g2 xP (gL (ba 3 (bY (ao cW (ae (af 0) (ae (af 1) (ae (af 2) ah))))) bo (g1 (bx cs.Holding "times") (af 3)) aS)) (gC (.int 0))))
def gG(cs:Cs):Ds->Sr :=
 (bp (g2 rZ (g2 iH (g2 bP (af 0) (af 1)) (gC (.int 1))) (af 1)))
def vA(cs:Cs)(a bM:Gf):Ds->Sr :=
 (aJ (aU [] 5 (g2 bP (af 3) (ao a (ae (g2 dIx (af 0) (af 2)) ah))))
  (aJ (fP [] (bY (lF (af 1) kz (rA (ql (af 1) (af 2))))) (bO 6) (aJ (aU [] 7 (g2 dIx (af 0) (af 6)))
  (rY [] 5 (g2 kJ (ao a (ae (af 7) ah)) (ao bM (ae (g2 bP (af 4) (g2 dIx (af 7) (gC (.int 2)))) (ae (g2 dIx (af 7) (gC (.int 0))) ah)))))))
  (bp (af 5))))
def iE(cs:Cs)(dk:Gf):Ds->Sr :=
 (aJ (aU [5] 4 (g2 iH (g2 dIx (g2 dIx (af 0) (af 2)) (gC (.int 0))) (g2 dIx (g2 dIx (af 0) (af 2)) (gC (.int 2)))))
  (aJ (ip [5] 5 ah)
  (aJ (aU [5] 6 (ao dk (ae (af 0) (ae (af 1) (ae (af 2) (ae (af 3) (ae (gC (.int 1)) ah)))))))
  (aJ (λδ=>bQ (gT (g2 dLe (af 6) (af 4))) (aJ (iI [5] 5 (af 6))
  (aJ (aU [5] 7 (ao dk (ae (af 0) (ae (af 1) (ae (af 2) (ae (af 3) (ae (af 6) ah)))))))
  (aJ (sIf (gT (g2 dEq (af 7) (af 6))) (bp (af 5)) bj)
  (aU [5] 6 (af 7))))) 1000000 δ)
  (bp (gC .none))))))
def fc(cs:Cs)(c7:Gf):Ds->Sr :=
 (aJ (aU [] 4 (ao c7 (ae (af 0) (ae (af 1) (ae (af 2) (ae (af 3) ah))))))
  (bp (gIf (gT (g1 lj (af 4))) (gC .none) (g2 dIx (af 4) (g1 rQ (gC (.int 1)))))))
def d6(cs:Cs)(bT cx:Gf):Ds->Sr :=
 (bp (ao cx (ae (af 0) (ae (af 1) (ae (af 2) (ae (ao bT (ae (af 0) (ae (af 1) (ae (af 2) ah)))) ah))))))
def kG(cs:Cs)(bD cg:Gf):Ds->Sr :=
 (aJ (g6 (ao cg (ae (af 0) (ae (af 1) (ae (af 2) ah)))))
  (bp (ao bD (ae (af 0) (ae (af 1) (ae (af 2) ah))))))
def gN(cs:Cs)(ak:Gf):Ds->Sr :=
 (aJ (aU [7] 4 (g2 bP (gC (.int 3)) (ao ak (ae (af 0) (ae (af 1) (ae (af 2) ah))))))
  (aJ (aU [7] 5 (g2 kJ (ao ak (ae (af 0) (ae (g2 bP (af 1) (gC (.int 1))) (ae (gC (.int 4)) ah)))) (gF BG (ae (g2 dEq (ao ak (ae (af 0) (ae (g2 bP (af 1) (gC (.int 2))) (ae (gC (.int 3)) ah)))) (gC (.int 0))) ah))))
  (aJ (aU [7] 5 (gF kN (ae (af 5) (ae (g2 iH (af 4) (gC (.int 1))) ah))))
  (aJ (aU [7] 6 (g2 iH (af 4) (af 5)))
  (aJ (sIf (gT (g2 dEq (ao ak (ae (af 0) (ae (g2 bP (af 1) (gC (.int 1))) (ae (gC (.int 3)) ah)))) (gC (.int 0)))) (aU [7] 6 (g2 iH (af 6) (ao ak (ae (af 0) (ae (g2 bP (af 1) (gC (.int 2))) (ae (af 6) ah)))))) bj)
  (aJ (ip [7] 7 ah)
  (aJ (fP [7] (fG (ae (ao ak (ae (af 0) (ae (g2 bP (af 1) (gC (.int 3))) (ae (gC (.int 3)) ah)))) ah)) (bO 8) (aJ (aU [7] 9 (ao ak (ae (af 0) (ae (g2 bP (g2 bP (af 1) (gC (.int 4))) (af 8)) (ae (gC (.int 40)) ah)))))
  (aJ (iI [7] 7 (gu (ae (g2 bP (gC (.int 1)) (g2 jS (af 9) (gC (.int 4)))) (ae (g2 dIx (pq (ae (gC (.int 0)) (ae (gC (.int 1)) (ae (gC (.int 1)) (ae (gC (.int 0)) (ae (gC .none) ah)))))) (g2 jS (g2 rZ (af 9) (gC (.int 4))) (gC (.int 5)))) ah))))
  (sIf (gm (gT (af 3))) (Bx 7 (g1 rQ (gC (.int 1))) (gu (ae (g2 dIx (g2 dIx (af 7) (g1 rQ (gC (.int 1)))) (gC (.int 0))) (ae (gC .none) ah)))) bj))))
  (bp (gu (ae (af 4) (ae (af 6) (ae (af 5) (ae (gF eX (ae (g2 bP (af 7) (pq (ae (gu (ae (g2 bP (gC (.int 1)) (ao ak (ae (af 0) (ae (g2 bP (af 1) (gC (.int 6))) (ae (gC (.int 3)) ah))))) (ae (gC .none) ah))) ah))) ah)) ah)))))))))))))
def fQ(cs:Cs)(b9 ak:Gf):Ds->Sr :=
 (aJ (aU [] 5 (g2 bP (gC (.int 1)) (ao ak (ae (af 0) (ae (af 1) (ae (af 2) ah))))))
  (bp (gF eX (ae (gL (ba 6 (fG (ae (af 5) ah)) bo (ao b9 (ae (af 0) (ae (g2 bP (g2 bP (af 1) (gC (.int 1))) (g2 kJ (gC (.int 7)) (af 6))) (ae (af 3) (ae (af 4) ah))))) aS)) ah))))
def iz(cs:Cs)(ak:Gf):Ds->Sr :=
 (aJ (ip [3,4] 3 (gLR (ae (af 2) ah)))
  (aJ (ip [3,4] 4 ah)
  (aJ (fP [3,4] (fG (ae (af 2) ah)) (bO 5) (ji 4 3 (ao ak (ae (af 0) (ae (g2 bP (af 1) (af 5)) (ae (gF cM (ae (af 3) ah)) ah))))))
  (bp (gF eX (ae (af 4) ah))))))
def qr(cs:Cs):Ds->Sr :=
 (bp (gF yp (ae (gL (ba 1 (bY (g2 dIx (af 0) (gC (.int 3)))) bo (g2 dIx (af 1) (gC (.int 0))) aS)) ah)))
end RS
set_option maxHeartbeats 1000000
variable {cs:RS.Cs}
namespace RS
open PySem L2
variable {g:PyData->Bool}{xs:List PyData}{a:Int}{b:PyData}
theorem Hf(h:i∉O):(mask O δ)[i]?=δ[i]?:=by
 unfold mask;by_cases z:O=[]
 ·rw[if_pos z]
 ·rw[if_neg z,OC];cases δ[i]? with
  |none=>rfl
  |some d=>simp[h]
theorem aB(h:i∉O):af i (mask O δ)=af i δ:=by unfold af;rw[Hf h]
@[simp]theorem au(d:PyData)(δ:Ds):af 0 (some d::δ)=.ok d:=rfl
@[simp]theorem aw(i:Nat)(x:Option PyData)(δ:Ds):af (i+1) (x::δ)=af i δ:=rfl
@[simp]theorem dY(d:PyData)(δ:Ds):gC d δ=.ok d:=rfl
@[simp]theorem jF(f:PyData->Option PyData)(a:Ds->Rs PyData)(δ:Ds):g1 f a δ=(a δ).bind λx=>Rs.eN (f x):=rfl
@[simp]theorem cO(f:PyData->PyData->Option PyData)(a b:Ds->Rs PyData)(δ:Ds):g2 f a b δ=(a δ).bind λx=>(b δ).bind λy=>Rs.eN (f x y):=rfl
@[simp]theorem ig(f:List PyData->Option PyData)(a:Ds->Rs (List PyData))(δ:Ds):gF f a δ=(a δ).bind λx=>Rs.eN (f x):=rfl
@[simp]theorem aM(δ:Ds):ah δ=.ok []:=rfl
@[simp]theorem aA(a:Ds->Rs PyData)(r:Ds->Rs (List PyData))(δ:Ds):ae a r δ=(a δ).bind λx=>(r δ).bind λxs=>.ok (x::xs):=rfl
@[simp]theorem k7(a:Ds->Rs (List PyData))(δ:Ds):gu a δ=(a δ).bind λds=>.ok (.tuple ds):=rfl
@[simp]theorem EO(a:Ds->Rs (List PyData))(δ:Ds):pq a δ=(a δ).bind λds=>.ok (.list ds):=rfl
@[simp]theorem bI(f:Gf)(a:Ds->Rs (List PyData))(δ:Ds):ao f a δ=(a δ).bind f:=rfl
@[simp]theorem fB(a:Ds->Rs PyData)(δ:Ds):gT a δ=(a δ).bind truth:=rfl
@[simp]theorem bH(b:Bool):truth (.bool b)=.ok b:=rfl
@[simp]theorem uZ(a:Ds->Rs Bool)(δ:Ds):gm a δ=(a δ).bind λb=>.ok (!b):=rfl
@[simp]theorem Ky(a b:Ds->Rs Bool)(δ:Ds):CT a b δ=(a δ).bind λx=>if x=true then b δ else .ok false:=rfl
@[simp]theorem Lw(a b:Ds->Rs Bool)(δ:Ds):cOr a b δ=(a δ).bind λx=>if x=true then .ok true else b δ:=rfl
@[simp]theorem Et(a b:Ds->Rs PyData)(δ:Ds):Dc a b δ=(a δ).bind λx=>(truth x).bind λt=>if t=true then b δ else .ok (.bool false):=rfl
@[simp]theorem Nt(a b:Ds->Rs PyData)(δ:Ds):gOr a b δ=(a δ).bind λx=>(truth x).bind λt=>if t=true then .ok (.bool true) else b δ:=rfl
@[simp]theorem M8(a:Ds->Rs PyData)(δ:Ds):Ni a δ=(a δ).bind λx=>(truth x).bind λt=>.ok (.bool (!t)):=rfl
@[simp]theorem kX(a:Ds->Rs (List PyData))(δ:Ds):gL a δ=(a δ).bind λds=>.ok (.list ds):=rfl
@[simp]theorem yE(a:Ds->Rs PyData)(δ:Ds):bY a δ=(a δ).bind Ab:=rfl
@[simp]theorem MZ(ds:List PyData):Ab (.list ds)=.ok ds:=rfl
@[simp]theorem C3(ds:List PyData):Ab (.tuple ds)=.ok ds:=rfl
@[simp]theorem pf(a:Ds->Rs (List PyData))(δ:Ds):fG a δ=(a δ).bind Im:=rfl
@[simp]theorem ML(a:Ds->Rs (List PyData))(δ:Ds):Mx a δ=(a δ).bind LV:=rfl
@[simp]theorem MN(a:Ds->Rs (List PyData))(δ:Ds):LB a δ=(a δ).bind Mt:=rfl
@[simp]theorem LR(a:Ds->Rs (List PyData))(δ:Ds):gLR a δ=(a δ).bind vg:=rfl
@[simp]theorem Ac(a:Ds->Rs (List PyData))(δ:Ds):fJ a δ=(a δ).bind rC:=rfl
@[simp]theorem MM(ds:List PyData):rC [.list ds]=.ok (fW ds):=rfl
@[simp]theorem Bi(ds:List PyData):rC [.tuple ds]=.ok (fW ds):=rfl
@[simp]theorem Mb(f f':PyData->PyData->Option PyData)(a b c:Ds->Rs PyData)(δ:Ds):nu f f' a b c δ=(a δ).bind λx=>(b δ).bind λy=>(Rs.eN (f x y)).bind λz=>(truth z).bind λt=>if t=true then (c δ).bind λw=>Rs.eN (f' y w) else .ok (.bool false):=rfl
@[simp]theorem sV(δ:Ds):kz δ=.ok none:=rfl
@[simp]theorem Bn(g:Ds->Rs PyData)(δ:Ds):rA g δ=(g δ).bind Fh:=rfl
@[simp]theorem A7(i:Int):Fh (.int i)=.ok (some i):=rfl
@[simp]theorem xQ(g:Ds->Rs PyData)(lo hi:Ds->Rs (Option Int))(δ:Ds):lF g lo hi δ=(g δ).bind λd=>(lo δ).bind λl=>(hi δ).bind λh=>Rs.eN (GD d l h):=rfl
@[simp]theorem Nb(x:List PyData)(lo hi:Option Int):GD (.list x) lo hi=some (.list (cutD x lo hi)):=rfl
@[simp]theorem FU(x:List PyData)(lo hi:Option Int):GD (.tuple x) lo hi=some (.tuple (cutD x lo hi)):=rfl
@[simp]theorem aX(a b:Ds->Sr)(δ:Ds):aJ a b δ=match a δ with|.nx δ'=>b δ'|r=>r:=rfl
@[simp]theorem iF(δ:Ds):bj δ=.nx δ:=rfl
@[simp]theorem dP(c:Ds->Rs Bool)(a b:Ds->Sr)(δ:Ds):sIf c a b δ=ofR (c δ) λt=>if t=true then a δ else b δ:=rfl
@[simp]theorem bU(g:Ds->Rs PyData)(δ:Ds):bp g δ=ofR (g δ) .rt:=rfl
@[simp]theorem mz(g:Ds->Rs PyData)(δ:Ds):g6 g δ=ofR (g δ) λ_=>.nx δ:=rfl
@[simp]theorem jd(i:Nat)(g:Ds->Rs PyData)(δ:Ds):aU [] i g δ=if i<δ.length then ofR (g δ) λd=>.nx (δ.set i (some d)) else .no:=by unfold aU;rw[ej]
@[simp]theorem Lu(C:Addr)(gs:Ds->Rs (List PyData))(δ:Ds):ie C gs δ=ofR (gs δ) λ_=>.rz C:=rfl
theorem lq(O:List Nat)(src:Ds->Rs (List PyData))(tgt:PyData->Ds->Option Ds)(body:Ds->Sr)(δ:Ds):fP O src tgt body δ=ofR (src (mask O δ)) λds=>forL tgt body ds δ:=rfl
@[simp]theorem a9(d:PyData):bf (.rt d)=.ok d:=rfl
@[simp]theorem Lp(δ:Ds):bf (.nx δ)=.ok .none:=rfl
@[simp]theorem Lr(C:Addr):bf (.rz C)=.rz C:=rfl
@[simp]theorem Lq:bf .no=.no:=rfl
@[simp]theorem gE(a b:Int):bP (.int a) (.int b)=some (.int (a+b)):=rfl
@[simp]theorem uf(a b:Int):iH (.int a) (.int b)=some (.int (a-b)):=rfl
@[simp]theorem IE(a b:Int):jS (.int a) (.int b)=if 0<b then some (.int (a % b)) else none:=rfl
@[simp]theorem D4(a b:Int):rZ (.int a) (.int b)=if 0<b/\b<1073741824 then some (.int (a / b)) else none:=rfl
@[simp]theorem LY(a b:Int):dLt (.int a) (.int b)=some (.bool (decide (a<b))):=rfl
@[simp]theorem LW(a b:Int):dLe (.int a) (.int b)=some (.bool (decide (a<=b))):=rfl
@[simp]theorem E8(a b:Int):dGt (.int a) (.int b)=some (.bool (decide (b<a))):=rfl
@[simp]theorem Nu(a b:Int):dGe (.int a) (.int b)=some (.bool (decide (b<=a))):=rfl
@[simp]theorem MJ(a:Int):rQ (.int a)=some (.int (-a)):=rfl
@[simp]theorem Dg(d:PyData):lj d=some (.bool (fj d)):=rfl
@[simp]theorem MP(d:PyData):jw d=some (.bool (!fj d)):=rfl
@[simp]theorem FT:fj .none=true:=rfl
@[simp]theorem Cq(i:Int):fj (.int i)=false:=rfl
@[simp]theorem xl(x:List PyData)(i:Int):dIx (.tuple x) (.int i)=atI x i:=rfl
@[simp]theorem IH(x:List PyData)(i:Int):dIx (.list x) (.int i)=atI x i:=rfl
@[simp]theorem DR(x:List PyData):cM [.tuple x]=some (.int x.length):=rfl
@[simp]theorem pF(x:List PyData):cM [.list x]=some (.int x.length):=rfl
@[simp]theorem yn(a b:Int):kN [.int a,.int b]=some (.int (if b<a then b else a)):=rfl
@[simp]theorem Nq(a b:Int):MD [.int a,.int b]=some (.int (if b>a then b else a)):=rfl
@[simp]theorem Ko(b:Bool):BG [.bool b]=some (.int (if b then 1 else 0)):=rfl
@[simp]theorem Fy(x:List PyData):eX [.list x]=some (.tuple x):=rfl
@[simp]theorem MW(x:List PyData):eX [.tuple x]=some (.tuple x):=rfl
@[simp]theorem jV(a b:Int):dEq (.int a) (.int b)=some (.bool (a==b)):=by
 have h:∀i:Int,SeqAt.shaped (.int i)=true:=λi=>by simp[SeqAt.shaped,PyData.canLay0,PyData.depth]
 unfold dEq;rw[h,h];simp[aG,PyData.eqv]
@[simp]theorem MA(a b:Int):dNe (.int a) (.int b)=some (.bool (!(a==b))):=by
 have h:∀i:Int,SeqAt.shaped (.int i)=true:=λi=>by simp[SeqAt.shaped,PyData.canLay0,PyData.depth]
 unfold dNe;rw[h,h];simp[aG,PyData.eqv]
theorem nv{xs:List α}{i:Int}(h:i=j):atI xs i=xs[j]?:=by
 subst h;unfold atI ixN;by_cases z:(j:Int)<xs.length
 ·rw[if_pos (by omega),if_pos z];simp
 ·rw[if_pos (by omega),if_neg z];simp;omega
@[simp]theorem Nv(xs:List α):atI xs 0=xs[0]?:=nv (j:=0) rfl
@[simp]theorem Nx(xs:List α):atI xs 1=xs[1]?:=nv (j:=1) rfl
@[simp]theorem Ny(xs:List α):atI xs 2=xs[2]?:=nv (j:=2) rfl
@[simp]theorem Nw(xs:List α):atI xs 3=xs[3]?:=nv (j:=3) rfl
theorem mV(xs:List α):atI xs (-1)=xs.getLast?:=by
 unfold atI ixN;rw[if_neg (by decide)];by_cases z:xs=[]
 ·subst z;rfl
 ·have:0<xs.length:=Ov.mpr z;rw[if_pos (by omega),List.getLast?_eq_getElem?];simp only[P8];congr 1;omega
theorem km(g:α->Bool)(xs:List α):oN [.list (xs.map λd=>.bool (g d))]=some (.bool (xs.all g)):=by
 have a:iJ (xs.map λd=>PyData.bool (g d))=some (xs.map g):=by rw[show (xs.map λd=>PyData.bool (g d))=(xs.map g).map PyData.bool by rw[NG];rfl];exact rh _
 show (iJ (xs.map λd=>PyData.bool (g d))).map (λns=>PyData.bool (ns.all id))=_;rw[a,OG,List.all_map];rfl
theorem wM(g:α->Int)(xs:List α):yp [.list (xs.map λd=>.int (g d))]=some (.int (xs.map g).sum):=by
 have a:eV (xs.map λd=>PyData.int (g d))=some (xs.map g):=by rw[show (xs.map λd=>PyData.int (g d))=(xs.map g).map PyData.int by rw[NG];rfl];exact eJ _
 show (eV (xs.map λd=>PyData.int (g d))).map (λns=>PyData.int ns.sum)=_;rw[a,OG]
theorem comp_map{elt:Ds->Rs PyData}{δ:Ds}{f:PyData->PyData}:∀(ds:List PyData),(∀d∈ds,elt (δ++[some d])=.ok (f d))->eR bo elt aS δ ds=.ok (ds.map f)
 |[],_=>rfl
 |d::r,h=>by unfold eR;simp only[aS,bo,Rs.dj,Rs.ag,if_true,h d N3,comp_map r λe a=>h e (N0 _ a),N1]
theorem cH{elt:Ds->Rs PyData}{f:PyData->PyData}(hn:δ.length=n0)(a:src δ=.ok ds)(hl:ds.length<=1000000)(h:∀d∈ds,elt (δ++[some d])=.ok (f d)) :
  ba n0 src bo elt aS δ=.ok (ds.map f):=by
 unfold ba;rw[if_pos hn,a];simp only[Rs.ag,if_pos hl];exact comp_map ds h
theorem jf:∀{ds:List PyData},dN ds=true->∀d∈ds,aG d=true
 |[],_,d,hd=>by cases hd
 |e::r,h,d,hd=>by
  unfold dN at h;obtain⟨h1,h2⟩:=Om.mp h;rcases N5.mp hd with z|z
  ·rw[z];exact h1
  ·exact jf h2 d z
theorem eI(h:aG (.tuple ds)=true):∀d∈ds,aG d=true:=by unfold aG at h;exact jf h
def aH:Gf
 |[d,.int a,.int b]=>if aG d then .ok (.bool (isWhole d a b)) else .no
 |_=>.no
theorem oW{f:PyData->Int->Int->Rs PyData}(h:(match ds with|[a,.int x1,.int x2]=>f a x1 x2|_=>.no)≠.no):∃a x1 x2,ds=[a,.int x1,.int x2]/\f a x1 x2≠.no:=by
 rcases ds with _|⟨a,_|⟨x1,_|⟨x2,_|⟨y,ys⟩⟩⟩⟩
 ·exact absurd rfl h
 ·exact absurd rfl h
 ·first|exact absurd rfl h|(cases x1 <;> exact absurd rfl h)
 ·skip
  cases x1 with
  |int x1 =>
   cases x2 with
   |int x2 =>exact⟨_,_,_,rfl,h⟩
   |_=>exact absurd rfl h
  |_=>first|exact absurd rfl h|(cases x2 <;> exact absurd rfl h)
 ·first|exact absurd rfl h|(cases x1 <;> first|exact absurd rfl h|(cases x2 <;> exact absurd rfl h))
abbrev LLq(G:Ds->Sr)(n k:Nat)(g:Gf):Prop:=∀ds,ds.length=n->g ds≠.no->bf (G (ds.map some++List.replicate k none))=g ds
theorem yJ(cs:Cs):LLq (ja cs) 3 0 aH:=by
 intro ds hl c;obtain⟨d,a,b,f,e⟩:=oW c;clear c;subst f;have c:=e;clear e;unfold aH
 ·skip
  split at c
  ·rename_i hd;simp only[hd,if_true];cases d with
   |int i=>by_cases h:a<=i <;> simp[ja,uw,hd,vn,tyD,isWhole,h]
   |dict _=>simp[aG]at hd
   |_=>simp[ja,uw,hd,vn,tyD,isWhole]
  ·exact absurd rfl c
def aK:Gf
 |[d,.int a,.int b]=>if aG d then .ok (.bool (bV d a b)) else .no
 |_=>.no
theorem yi(cs:Cs):LLq (jc cs) 3 0 aK:=by
 intro ds hl c;obtain⟨d,a,b,f,e⟩:=oW c;clear c;subst f;have c:=e;clear e;unfold aK
 ·skip
  split at c
  ·rename_i hd;simp only[hd,if_true];cases d with
   |tuple x=>by_cases h:a<=(x.length:Int) <;> simp[jc,uw,hd,vn,tyD,bV,h]
   |dict _=>simp[aG]at hd
   |_=>simp[jc,uw,hd,vn,tyD,bV]
  ·exact absurd rfl c
def gy(g:PyData->Bool):Gf
 |[d]=>if aG d then .ok (.bool (g d)) else .no
 |_=>.no
theorem qA(h:gy g ds≠.no):∃d,ds=[d]/\aG d=true/\gy g ds=.ok (.bool (g d)):=by
 unfold gy at h ⊢;split at h
 ·rename_i d;split at h
  ·rename_i hd;exact⟨d,rfl,hd,by simp[hd]⟩
  ·exact absurd rfl h
 ·exact absurd rfl h
theorem qC{d:PyData}(h:aG d=true):gy g [d]=.ok (.bool (g d)):=by unfold gy;simp[h]
@[simp]theorem CV{d:PyData}{b:Int}(h:aG d=true):aK [d,.int a,.int b]=.ok (.bool (bV d a b)):=by unfold aK;simp[h]
@[simp]theorem vV{d:PyData}{b:Int}(h:aG d=true):aH [d,.int a,.int b]=.ok (.bool (isWhole d a b)):=by unfold aH;simp[h]
theorem xO{d:PyData}(h:bV d 2 2=true):∃a b,d=.tuple [a,b]:=by
 cases d with
 |tuple ds =>
  simp[bV]at h
  match ds,h with
  |[a,b],_=>exact⟨a,b,rfl⟩
  |[],h=>simp at h
  |[_],h=>simp at h
  |_::_::_::_,h=>simp at h;omega
 |_=>cases h
theorem CB(cs:Cs):LLq (gY cs aH aK) 1 0 (gy dD):=by
 intro ds hl c;obtain⟨d,rfl,hd,e⟩:=qA c;rw[e];cases e1:bV d 2 2 with
 |false =>
  have:dD d=false:=by
   unfold dD;split
   ·simp[bV]at e1
   ·rfl
  simp[gY,hd,e1,this]
 |true =>
  obtain⟨a,b,rfl⟩:=xO e1;have ha:=eI hd a (by simp);have f:=eI hd b (by simp);cases e2:isWhole a 1 20 with
  |false=>simp[gY,hd,ha,e1,e2,dD]
  |true =>
   cases b with
   |none=>simp[gY,hd,ha,e1,e2,dD]
   |_=>simp[gY,hd,ha,f,e1,e2,dD,fj]
theorem vR(cs:Cs):LLq (f7 cs aK (gy dD)) 1 0 (gy eC):=by
 intro ds hl c;obtain⟨d,rfl,hd,e⟩:=qA c;rw[e];cases e1:bV d 1 4 with
 |false =>
  have:eC d=false:=by
   cases d with
   |tuple ds =>simp only[bV,Oi,decide_eq_false_iff_not]at e1;simp only[eC,Oi,decide_eq_false_iff_not];refine .inl (.inl ?_);omega
   |_=>rfl
  simp[f7,hd,e1,this]
 |true =>
  obtain⟨xs,rfl⟩:∃ds,d=.tuple ds:=by cases d <;> first|exact⟨_,rfl⟩|cases e1
  have hn:1<=xs.length/\xs.length<=4:=by simp only[bV,N7,decide_eq_true_eq]at e1;omega
  have hc:ba 1 (bY (af 0)) bo (ao (gy dD) (ae (af 1) ah)) aS [some (.tuple xs)]=.ok (xs.map λd=>.bool (dD d)) :=
   cH rfl rfl (by omega) λd h=>by simp[qC (eI hd d h)]
  have l:=km dD xs;cases e2:xs.all dD with
  |false=>simp[f7,hd,e1,hc,l,e2,eC]
  |true =>
   have c:xs≠[]:=by intro z;subst z;simp at hn
   have f:xs.getLast?=some (xs.getLast c):=List.getLast?_eq_some_getLast c;have g:=NM.mp e2 _ (List.getLast_mem c);obtain⟨a,b,i⟩:∃a b,xs.getLast c=.tuple [a,b]:=by
    revert g;generalize xs.getLast c=z;intro g;unfold dD at g;split at g
    ·exact⟨_,_,rfl⟩
    ·cases g
   rw[i]at f;have j:iW xs=fj b:=by unfold iW;rw[f];cases b <;> rfl
   simp[f7,hd,e1,hc,l,e2,eC,mV,f,j,hn.1,hn.2]
theorem uV{d:PyData}(h:bV d 4 4=true):∃a b c e,d=.tuple [a,b,c,e]:=by
 cases d with
 |tuple ds =>
  simp[bV]at h
  match ds,h with
  |[a,b,c,e],_=>exact⟨a,b,c,e,rfl⟩
  |[],h=>simp at h
  |[_],h=>simp at h
  |[_,_],h=>simp at h
  |[_,_,_],h=>simp at h
  |_::_::_::_::_::_,h=>simp at h;omega
 |_=>cases h
theorem dF{d:PyData}{b:Int}(h:isWhole d a b=true):∃i,d=.int i/\a<=i/\i<=b:=by
 cases d with
 |int i=>simp[isWhole]at h;exact⟨i,rfl,h⟩
 |_=>cases h
theorem pU{a c e:PyData}(h:isWhole a 2 60=false):bL (.tuple [a,b,c,e])=false:=by
 cases a with
 |int i =>
  cases c with
  |int l =>simp only[isWhole,Oi,decide_eq_false_iff_not]at h;simp only[bL,Oi,decide_eq_false_iff_not];omega
  |_=>rfl
 |_=>rfl
theorem rJ{c e:PyData}{i:Int}(h:isWhole c 0 (if i-1<20 then i-1 else 20)=false):bL (.tuple [.int i,b,c,e])=false:=by
 cases c with
 |int l =>simp only[isWhole,Oi,decide_eq_false_iff_not]at h;simp only[bL,Oi,decide_eq_false_iff_not];exact .inl (.inl (.inr h))
 |_=>rfl
theorem sk{e:PyData}{i l:Int}(h1:2<=i/\i<=60)(h2:0<=l/\l<=if i-1<20 then i-1 else 20):bL (.tuple [.int i,b,.int l,e])=(isWhole b 1 (i-l)&&eC e):=by simp[bL,h1.1,h1.2,h2.1,h2.2]
theorem wH(cs:Cs):LLq (eB cs aH (gy eC) aK) 1 3 (gy bL):=by
 intro ds hl h;obtain⟨d,rfl,hd,e⟩:=qA h;rw[e];cases e1:bV d 4 4 with
 |false =>
  have:bL d=false:=by
   unfold bL;split
   ·simp[bV]at e1
   ·rfl
  simp[eB,hd,e1,this]
 |true =>
  obtain⟨a,b,c,q,rfl⟩:=uV e1;have ha:=eI hd a (by simp);have g:=eI hd b (by simp);have hc:=eI hd c (by simp);have f:=eI hd q (by simp);cases e2:isWhole a 2 60 with
  |false=>simp[eB,hd,ha,g,hc,f,e1,e2,pU e2]
  |true =>
   obtain⟨i,rfl,i1,i2⟩:=dF e2;cases e3:isWhole c 0 (if i-1<20 then i-1 else 20) with
   |false=>simp[eB,hd,ha,g,hc,f,e1,e2,e3,rJ e3]
   |true =>
    obtain⟨l,rfl,l1,l2⟩:=dF e3;have j:=sk (b:=b) (e:=q) ⟨i1,i2⟩ ⟨l1,l2⟩;cases e4:isWhole b 1 (i-l) with
    |false=>simp[eB,hd,ha,g,hc,f,e1,e2,e3,e4,j]
    |true=>simp[eB,hd,ha,g,hc,f,e1,e2,e3,e4,j,qC f]
def aW(cs:Cs):Gf
 |[d]=>if aG d then (if dC d then .ok d else .rz cs.NoErrands) else .no
 |_=>.no
theorem Cf(cs:Cs):LLq (iP cs aK (gy bL)) 1 0 (aW cs):=by
 intro ds hl a;obtain⟨d,rfl⟩:∃d,ds=[d]:=by
  match ds,hl with
  |[d],_=>exact⟨d,rfl⟩
 have hd:aG d=true:=by
  unfold aW at a;by_cases z:aG d=true
  ·exact z
  ·simp[z]at a
 have e:aW cs [d]=if dC d then .ok d else .rz cs.NoErrands:=by unfold aW;simp[hd]
 rw[e];cases e1:bV d 1 6 with
 |false =>
  have:dC d=false:=by
   cases d with
   |tuple ds =>simp only[bV,Oi,decide_eq_false_iff_not]at e1;simp only[dC,Oi,decide_eq_false_iff_not];refine .inl ?_;omega
   |_=>rfl
  simp[iP,hd,e1,this]
 |true =>
  obtain⟨xs,rfl⟩:∃ds,d=.tuple ds:=by cases d <;> first|exact⟨_,rfl⟩|cases e1
  have hn:1<=xs.length/\xs.length<=6:=by simp only[bV,N7,decide_eq_true_eq]at e1;omega
  have hc:ba 1 (bY (af 0)) bo (ao (gy bL) (ae (af 1) ah)) aS [some (.tuple xs)]=.ok (xs.map λd=>.bool (bL d)) :=
   cH rfl rfl (by omega) λd b=>by simp[qC (eI hd d b)]
  have c:=km bL xs;cases e2:xs.all bL with
  |false=>simp[iP,hd,e1,hc,c,e2,dC]
  |true=>simp[iP,hd,e1,hc,c,e2,dC,hn.1,hn.2]
theorem lg{β:Type}{tgt:PyData->Ds->Option Ds}{body:Ds->Sr}(inv:Nat->Ds->Prop):∀(ds:List PyData)(k:Nat),(∀(i:Nat) d δ,ds[i]?=some d->inv (k+i) δ->∃δ1 a,tgt d δ=some δ1/\body δ1=.nx a/\inv (k+i+1) a) ->
  ∀δ,inv k δ->∃b,forL tgt body ds δ=.nx b/\inv (k+ds.length) b
 |[],k,_,δ,h=>⟨δ,rfl,h⟩
 |d::r,k,hs,δ,h=>by
  obtain⟨δ1,a,e1,e2,h2⟩:=hs 0 d δ rfl h;obtain⟨b,c,e⟩:=lg (β:=β) inv r (k+1) (λi x δ f hi=>by have:=hs (i+1) x δ (by simpa using f) (by rw[show k+(i+1)=k+1+i by omega];exact hi);rw[show k+1+i+1=k+(i+1)+1 by omega];exact this) a h2
  exact⟨b,by unfold forL;rw[e1];simp only[e2];exact c,by rw[NJ,show k+(r.length+1)=k+1+r.length by omega];exact e⟩
def DM:PyData->Option Int
 |.int i=>some i
 |_=>none
def cp:PyData->Int×Option Int
 |.tuple [.int l,t]=>(l,DM t)
 |_=>(0,none)
def deE:PyData->Er
 |.tuple [.int e,.int d,.int l,.tuple ps]=>⟨e,d,l,ps.map cp⟩
 |_=>⟨0,0,0,[]⟩
theorem sO(e:Int)(d:Int)(l:Int)(ps:List PyData):deE (.tuple [.int e,.int d,.int l,.tuple ps])=⟨e,d,l,ps.map cp⟩:=rfl
def de:PyData->List Er
 |.tuple ds=>ds.map deE
 |_=>[]
theorem yz(o:Option Int):DM (bW o)=o:=by cases o <;> rfl
theorem jL(p:Int×Option Int):cp (aQ p)=p:=by obtain⟨l,t⟩:=p;simp[aQ,cp,yz]
theorem Au(e:Er):deE e.d=e:=by
 obtain⟨a,b,c,ps⟩:=e;simp[Er.d,sO,NG]
 conv=>rhs;rw[<-Ot ps]
 exact NI λp _=>jL p
theorem fh(es:List Er):de (ar es)=es:=by
 simp[ar,de,NG]
 conv=>rhs;rw[<-Ot es]
 exact NI λe _=>Au e
theorem part_of{d:PyData}(h:dD d=true):aQ (cp d)=d/\1<=(cp d).1/\(cp d).1<=20/\∀t,(cp d).2=some t->0<=t/\t<=3:=by
 unfold dD at h;split at h
 ·rename_i a b;rw[N7]at h;obtain⟨i,rfl,h1,h2⟩:=dF h.1;have c:=h.2;cases b with
  |none=>exact⟨rfl,h1,h2,λt q=>by cases q⟩
  |int t =>obtain⟨t',q,e,f⟩:=dF c;cases q;exact⟨rfl,h1,h2,λt q=>by cases q;exact⟨e,f⟩⟩
  |_=>cases c
 ·cases h
theorem sC{d:PyData}(h:bL d=true):(deE d).d=d/\(deE d).Ok:=by
 unfold bL at h;split at h
 ·rename_i e j l ps;simp only[N7,decide_eq_true_eq]at h;obtain⟨⟨⟨⟨h1,h2⟩,m,n⟩,o⟩,c⟩:=h;obtain⟨j,rfl,d1,d2⟩:=dF o;unfold eC at c;split at c
  ·rename_i ps;simp only[N7,decide_eq_true_eq]at c;obtain⟨⟨⟨p1,p2⟩,r⟩,f⟩:=c;have g:=NM.mp r;have i:l<=20/\l<e:=by split at n <;> omega
   refine⟨?_,?_⟩
   ·have s:ps.map (aQ∘cp)=ps:=by
     conv=>rhs;rw[<-Ot ps]
     exact NI λp b=>(part_of (g p b)).1
    simp only[sO,Er.d,NG,s]
   ·refine⟨h1,h2,m,i.1,i.2,d1,d2,λz=>?_,by simpa[sO] using p2,λp b=>?_,λp b=>?_⟩
    ·have:ps=[]:=by simpa[sO] using z
     subst this;simp at p1
    ·obtain⟨q,u,rfl⟩:=N9.mp (show p∈ps.map cp from b);exact (part_of (g q u)).2
    ·have b:(ps.map cp).getLast?=some p:=b;rw[PU]at b;unfold iW at f;cases q:ps.getLast? with
     |none=>rw[q]at b;cases b
     |some z =>
      rw[q]at b f;simp at b;split at f
      ·rename_i a heq;cases heq;subst b;unfold cp;split
       ·rename_i l t e1;injection e1 with e1;injection e1 with _ e1;injection e1 with e1 _
        rw[<-e1];rfl
       ·rfl
      ·cases f
  ·cases c
 ·cases h
theorem yy{d:PyData}(h:dC d=true):ar (de d)=d/\1<=(de d).length/\(de d).length<=6/\∀e∈de d,e.Ok:=by
 unfold dC at h;split at h
 ·rename_i ds;simp only[N7,decide_eq_true_eq]at h;obtain⟨⟨h1,h2⟩,b⟩:=h;have a:=NM.mp b;refine⟨?_,by simpa[de] using h1,by simpa[de] using h2,λe c=>?_⟩
  ·simp only[de,ar,NG];congr 1
   conv=>rhs;rw[<-Ot ds]
   exact NI λp f=>(sC (a p f)).1
  ·obtain⟨q,g,rfl⟩:=N9.mp (show e∈ds.map deE from c);exact (sC (a q g)).2
 ·cases h
def deI:PyData->Int
 |.int i=>i
 |_=>0
def cn:PyData->List Int
 |.tuple ds=>ds.map deI
 |_=>[]
def ai(ns:List Int):PyData:=.tuple (ns.map .int)
theorem eQ(ns:List Int):cn (ai ns)=ns:=by
 simp[ai,cn,NG]
 conv=>rhs;rw[<-Ot ns]
 exact NI λ_ _=>rfl
def d7(n:Nat):PyData->Bool
 |.tuple ds=>decide (ds.length=n)&&ds.all (λd=>isWhole d 0 ((n:Int)-1))&&decide (ds.map deI).Nodup
 |_=>false
structure cC(n:Nat)(rs:List Int):Prop where
 len:rs.length=n
 rng:∀r∈rs,0<=r/\r<n
 nd:rs.Nodup
theorem mn{n:Nat}{d:PyData}(h:d7 n d=true):ai (cn d)=d/\cC n (cn d):=by
 unfold d7 at h;split at h
 ·rename_i ds;simp only[N7,decide_eq_true_eq]at h;obtain⟨⟨h1,h2⟩,e⟩:=h;have c:=NM.mp h2;refine⟨?_,by simpa[cn] using h1,λr f=>?_,e⟩
  ·simp only[cn,ai,NG];congr 1
   conv=>rhs;rw[<-Ot ds]
   refine NI λp g=>?_
   obtain⟨i,rfl,_⟩:=dF (c p g);rfl
  ·obtain⟨q,j,rfl⟩:=N9.mp (show r∈ds.map deI from f);obtain⟨i,rfl,a,b⟩:=dF (c q j);exact⟨a,by show i<n;omega⟩
 ·cases h
theorem hZ{n:Nat}(h:cC n rs):d7 n (ai rs)=true:=by
 have e:(rs.map PyData.int).map deI=rs:=by
  rw[NG];conv=>rhs;rw[<-Ot rs]
  exact NI λ_ _=>rfl
 unfold d7 ai;simp only[N4,h.len,decide_true,Pq,e,h.nd,OW];rw[NM];intro d hd;obtain⟨r,a,rfl⟩:=N9.mp hd;have:=h.rng r a;simp[isWhole,this.1];omega
theorem nN:∀(l acc:List Int),acc.Nodup->((l.foldl PyProof.Rows.step_dedup acc).length<=acc.length+l.length)/\((l.foldl PyProof.Rows.step_dedup acc).length=acc.length+l.length↔(acc++l).Nodup)
 |[],acc,h=>by simpa using h
 |x::r,acc,h=>by
  rw[Pg];by_cases z:acc.any (·==x)=true
  ·have e:PyProof.Rows.step_dedup acc x=acc:=by unfold PyProof.Rows.step_dedup;rw[if_pos z]
   rw[e];have:=nN r acc h;refine⟨by rw[NJ];omega,λq=>?_,λq=>?_⟩
   ·rw[NJ]at q;omega
   ·exfalso;obtain⟨y,c,f⟩:=OL.mp z;have:y=x:=by simpa using f
    subst this;rw[PR]at q;exact q.2.2 y c y N3 rfl
  ·have e:PyProof.Rows.step_dedup acc x=acc++[x]:=by unfold PyProof.Rows.step_dedup;rw[if_neg z]
   have g:x∉acc:=λq=>z (OL.mpr ⟨x,q,by simp⟩)
   have hn:(acc++[x]).Nodup:=by rw[PR];exact⟨h,by simp,λa ha b i=>by rw[NA.mp i];rintro rfl;exact g ha⟩
   rw[e];have:=nN r (acc++[x]) hn;rw[NC,Oa,Of]at this;refine⟨by rw[NJ];omega,?_⟩;rw[NJ,show acc.length+(r.length+1)=acc.length+1+r.length by omega];exact this.2
theorem yo(ns:List Int):((seen ns ns.length).length:Int)<ns.length↔¬ ns.Nodup:=by
 have e:(List.range ns.length).map (λi=>ns.getD i 0)=ns:=by
  apply List.ext_getElem?;intro i;rw[NK];by_cases h:i<ns.length
  ·rw[Pd h,My h];simp[NH,My h]
  ·rw[OO (by simpa using h),OO (by simpa using h)];rfl
 have:=nN ns [] PH;unfold seen PyProof.Rows.firstMet;rw[e];simp only[OI,Oh,O9]at this;constructor
 ·intro h q;have:=this.2.mpr q;omega
 ·intro h;have h1:=this.1;have h2:¬ (List.foldl PyProof.Rows.step_dedup [] ns).length=ns.length:=λq=>h (this.2.mp q)
  omega
def aR(cs:Cs):Gf
 |[.tuple es,r]=>if aG r&&decide (es.length<=100) then (if d7 es.length r then .ok r else .rz cs.NoRanks) else .no
 |_=>.no
theorem ED{f:List PyData->PyData->Rs PyData}(h:(match ds with|[.tuple a,x1]=>f a x1|_=>.no)≠.no):∃a x1,ds=[.tuple a,x1]/\f a x1≠.no:=by
 rcases ds with _|⟨a,_|⟨x1,_|⟨y,ys⟩⟩⟩
 ·exact absurd rfl h
 ·first|exact absurd rfl h|(cases a <;> exact absurd rfl h)
 ·skip
  cases a with
  |tuple a =>exact⟨_,_,rfl,h⟩
  |_=>exact absurd rfl h
 ·first|exact absurd rfl h|(cases a <;> exact absurd rfl h)
theorem oH(cs:Cs):LLq (cT cs aK aH) 2 1 (aR cs):=by
 intro ds hl a;obtain⟨es,r,l,j⟩:=ED a;clear a;subst l;have a:=j;clear j;unfold aR
 ·skip
  split at a
  ·rename_i c;simp only[c,if_true];rw[N7,decide_eq_true_eq]at c;obtain⟨hd,h100⟩:=c;cases e1:bV r es.length es.length with
   |false =>
    have:d7 es.length r=false:=by
     cases r with
     |tuple xs =>
      have:xs.length≠es.length:=λq=>by simp[bV,q]at e1
      simp[d7,this]
     |_=>rfl
    simp[cT,hd,e1,this]
   |true =>
    obtain⟨xs,rfl⟩:∃ds,r=.tuple ds:=by cases r <;> first|exact⟨_,rfl⟩|cases e1
    have hn:xs.length=es.length:=by simp only[bV,N7,decide_eq_true_eq]at e1;omega
    have hc:ba 3 (bY (af 1)) bo (ao aH (ae (af 3) (ae (gC (.int 0)) (ae (af 2) ah)))) aS [some (.tuple es),some (.tuple xs),some (.int ((es.length:Int)-1))]=.ok (xs.map λd=>.bool (isWhole d 0 ((es.length:Int)-1))) :=
     cH rfl rfl (by omega) λd e=>by simp[eI hd d e]
    have f:=km (λd=>isWhole d 0 ((es.length:Int)-1)) xs;cases e2:xs.all (λd=>isWhole d 0 ((es.length:Int)-1)) with
    |false=>simp[cT,hd,e1,hc,f,e2,d7]
    |true =>
     have m:=NM.mp e2;have n:xs=(xs.map deI).map PyData.int:=by
      rw[NG]
      conv=>lhs;rw[<-Ot xs]
      refine NI λp o=>?_
      obtain⟨i,rfl,_⟩:=dF (m p o);rfl
     have g:l9 [.tuple xs]=some (.int (seen (xs.map deI) (xs.map deI).length).length):=by
      unfold l9
      conv=>lhs;rw[n]
      simp only[eJ,P8];rw[if_pos (by simp;omega)]
     have b:=yo (xs.map deI);have h:(xs.map deI).length=es.length:=by rw[N4];exact hn
     rw[h]at g b;by_cases hnd:(xs.map deI).Nodup
     ·have h2:¬ (seen (xs.map deI) es.length).length<es.length:=λq=>b.mp (by omega) hnd
      simp[cT,hd,e1,hc,f,e2,g,hn,h2,d7,hnd]
     ·have h2:(seen (xs.map deI) es.length).length<es.length:=by have:=b.mpr hnd;omega
      simp[cT,hd,e1,hc,f,e2,g,hn,h2,d7,hnd]
  ·exact absurd rfl a
def jM:PyData->Bool
 |.tuple [.int l,b]=>decide (0<=l)&&decide (l<=1000000)&&(match b with|.none=>true|.int t=>decide (0<=t)&&decide (t<=3)|_=>false)
 |_=>false
def yt:PyData->Bool
 |.tuple [.int e,.int _,.int l,.tuple ps]=>decide (1<=e)&&decide (e<1073741824)&&decide (-1000000000<=l)&&decide (l<=1000000000)&&decide (ps.length<=1000)&&ps.all jM
 |_=>false
def qS:PyData->Bool
 |.tuple ds=>decide (ds.length<=100)&&ds.all yt
 |_=>false
structure Er.Sh(e:Er):Prop where
 e1:1<=e.every
 e2:e.every<1073741824
 l1:-1000000000<=e.late
 l2:e.late<=1000000000
 pn:e.parts.length<=1000
 pl:∀p∈e.parts,0<=p.1/\p.1<=1000000/\∀t,p.2=some t->0<=t/\t<=3
theorem sQ{d:PyData}(h:jM d=true):aQ (cp d)=d/\0<=(cp d).1/\(cp d).1<=1000000/\∀t,(cp d).2=some t->0<=t/\t<=3:=by
 unfold jM at h;split at h
 ·rename_i l b;simp only[N7,decide_eq_true_eq]at h;obtain⟨⟨h1,h2⟩,a⟩:=h;cases b with
  |none=>exact⟨rfl,h1,h2,λt q=>by cases q⟩
  |int t =>simp only[N7,decide_eq_true_eq]at a;exact⟨rfl,h1,h2,λt q=>by cases q;exact a⟩
  |_=>cases a
 ·cases h
theorem Bf{d:PyData}(h:yt d=true):(deE d).d=d/\(deE d).Sh:=by
 unfold yt at h;split at h
 ·rename_i e du l ps;simp only[N7,decide_eq_true_eq]at h;obtain⟨⟨⟨⟨⟨h1,h2⟩,a⟩,b⟩,g⟩,i⟩:=h;have f:=NM.mp i;have j:ps.map (aQ∘cp)=ps:=by
   conv=>rhs;rw[<-Ot ps]
   exact NI λp c=>(sQ (f p c)).1
  refine⟨by simp only[sO,Er.d,NG,j],h1,h2,a,b,by simpa[sO] using g,λp c=>?_⟩;obtain⟨q,m,rfl⟩:=N9.mp (show p∈ps.map cp from c);exact (sQ (f q m)).2
 ·cases h
theorem u3(h:e.Sh):yt e.d=true:=by
 unfold yt Er.d;simp only[h.e1,h.e2,h.l1,h.l2,decide_true,Pq,N4,h.pn];rw[NM];intro d hd;obtain⟨p,f,rfl⟩:=N9.mp hd;obtain⟨a,b,c⟩:=h.pl p f;obtain⟨l,t⟩:=p;cases t with
 |none=>simp at a b;simp[jM,aQ,bW,a,b]
 |some t=>have:=c t rfl;simp at a b;simp[jM,aQ,bW,a,b,this.1,this.2]
theorem Er.Ok.sh(h:e.Ok):e.Sh:=⟨by have:=h.e1;omega,by have:=h.e2;omega,by have:=h.l1;omega,by have:=h.l2;omega,by have:=h.p2;omega,λp f=>by obtain⟨a,b,c⟩:=h.pl p f;exact⟨by omega,by omega,c⟩⟩
theorem yQ{d:PyData}(h:qS d=true):ar (de d)=d/\(de d).length<=100/\∀e∈de d,e.Sh:=by
 unfold qS at h;split at h
 ·rename_i ds;simp only[N7,decide_eq_true_eq]at h;have a:=NM.mp h.2;refine⟨?_,by simpa[de] using h.1,λe b=>?_⟩
  ·simp only[de,ar,NG];congr 1
   conv=>rhs;rw[<-Ot ds]
   exact NI λp c=>(Bf (a p c)).1
  ·obtain⟨q,f,rfl⟩:=N9.mp (show e∈ds.map deE from b);exact (Bf (a q f)).2
 ·cases h
theorem qO(h1:es.length<=100)(h:∀e∈es,e.Sh):qS (ar es)=true:=by unfold qS ar;simp only[N4,h1,decide_true,Pq];rw[NM];intro d hd;obtain⟨e,a,rfl⟩:=N9.mp hd;exact u3 (h e a)
def Er.work(e:Er):Int:=(e.parts.map (·.1)).sum
def Er.has(e:Er)(t:Int):Bool:=e.parts.any λp=>p.2==some t
def er0:Er:=⟨1,1,0,[]⟩
def aY(es:List Er)(n:Int):Er:=es.getD n.toNat er0
def hts(es:List Er):List Int->Int->Int->Option Int
 |[],_,_=>none
 |r::rs,k,t=>if (aY es r).has t then some k else hts es rs (k+1) t
def bu(es:List Er)(rs:List Int)(t:Int):Option Int:=hts es rs 0 t
def placeOf(rs:List Int)(n:Int):Nat:=rs.findIdx (·==n)
def iZ(es:List Er)(rs:List Int)(pl:Int)(acc:Int)(p:Int×Option Int):Int:=match p.2 with
 |some t=>(match bu es rs t with
  |some h=>if h<=pl then max acc (p.1-1) else acc
  |none=>acc)
 |none=>acc
def jj(es:List Er)(rs:List Int)(n:Int):Int:=(((rs.drop (placeOf rs n+1)).map λm=>(aY es m).parts).flatten).foldl (iZ es rs (placeOf rs n)) 0
def Er.times(e:Er)(t:Int):Int:=(t+e.late) / e.every+(if (t+e.late) % e.every>0 then 1 else 0)
def mQ(es:List Er)(rs:List Int)(n t:Int):Int:=jj es rs n+(aY es n).work+((rs.take (placeOf rs n)).map λm=>(aY es m).times t*(aY es m).work).sum
def cG(es:List Er)(rs:List Int)(n:Int):Option Int:=((List.range ((aY es n).every-(aY es n).late).toNat).map λ(i:Nat)=>(1+(i:Int))).find? λt=>decide (mQ es rs n t<=t)
theorem pJ(h0:0<=n)(h1:n<es.length):es[n.toNat]?=some (aY es n):=by unfold aY;rw[NH,My (by omega)];rfl
theorem cY(a:0<=n)(h1:n<es.length):aY es n∈es:=O1 (pJ a h1)
theorem kx(a:0<=n)(h1:n<es.length):atI (es.map Er.d) n=some (aY es n).d:=by rw[nv (j:=n.toNat) (by omega),NK,pJ a h1];rfl
def bB:Gf
 |[d]=>if yt d then .ok (.int (deE d).work) else .no
 |_=>.no
theorem fq(h:e.Sh):bB [e.d]=.ok (.int e.work):=by unfold bB;simp[u3 h,Au]
theorem DI(p:Int×Option Int):dIx (aQ p) (.int 0)=some (.int p.1):=rfl
theorem Fs(p:Int×Option Int):dIx (aQ p) (.int 1)=some (bW p.2):=rfl
theorem HY(e:Er):dIx e.d (.int 3)=some (.tuple (e.parts.map aQ)):=rfl
theorem LH{f:PyData->Rs PyData}(h:(match ds with|[a]=>f a|_=>.no)≠.no):∃a,ds=[a]/\f a≠.no:=by
 rcases ds with _|⟨a,_|⟨y,ys⟩⟩
 ·exact absurd rfl h
 ·skip
  exact⟨_,rfl,h⟩
 ·exact absurd rfl h
theorem yX(cs:Cs):LLq (qr cs) 1 0 bB:=by
 intro ds hl a;obtain⟨d,f,c⟩:=LH a;clear a;subst f;have a:=c;clear c
 ·skip
  split at a
  ·rename_i hd;obtain⟨e1,sh⟩:=Bf hd;rw[<-e1];generalize deE d=e at sh;rw[fq sh];have hc:ba 1 (bY (g2 dIx (af 0) (gC (.int 3)))) bo (g2 dIx (af 1) (gC (.int 0))) aS [some e.d]=.ok ((e.parts.map aQ).map λd=>.int (cp d).1) :=
    cH rfl (by simp[HY]) (by have:=sh.pn;simp;omega) λd b=>by obtain⟨p,hp,rfl⟩:=N9.mp b;simp[DI,jL]
   have hm:((e.parts.map aQ).map λd=>PyData.int (cp d).1)=e.parts.map λp=>.int p.1:=by rw[NG];exact NI λp _=>by simp[jL]
   rw[hm]at hc;simp[qr,hc,wM,Er.work]
  ·exact absurd rfl a
theorem lp(h:n∈rs):placeOf rs n<rs.length:=List.findIdx_lt_length_of_exists ⟨n,h,by simp⟩
theorem wB:∀{l m:List Int},l.Nodup->(∀x∈l,x∈m)->l.length<=m.length
 |[],m,_,_=>Oc _
 |x::r,m,hn,hs=>by
  rw[O3]at hn;have a:=hs x N3;have:=wB (l:=r) (m:=m.erase x) hn.2 λy b=>by rw[List.mem_erase_of_ne (by rintro rfl;exact hn.1 b)];exact hs y (N0 _ b)
  rw[List.length_erase_of_mem a]at this;have hp:=List.length_pos_of_mem a;rw[NJ];omega
theorem cC.mem{k:Nat}(h:cC k rs)(c:0<=n)(h1:n<k):n∈rs:=by
 have base:∀x:Int,0<=x->x<k->x∈(List.range k).map λ(i:Nat)=>(i:Int):=λx a b=>N9.mpr ⟨x.toNat,OK.mpr (by omega),by omega⟩
 by_cases z:n∈rs
 ·exact z
 ·exfalso;have:=wB (l:=n::rs) (m:=(List.range k).map λ(i:Nat)=>(i:Int)) (O3.mpr ⟨z,h.nd⟩) λx e=>by
   rcases N5.mp e with q|q
   ·rw[q];exact base n c h1
   ·have:=h.rng x q;exact base x this.1 this.2
  have hl:=h.len;simp at this;omega
theorem Ck(ns:List Int):(ns.map PyData.int).all gz=true:=by rw[NM];intro d hd;obtain⟨n,_,rfl⟩:=N9.mp hd;rfl
theorem ml(n:Int):∀rs:List Int,n∈rs->(((rs.map PyData.int).map toV).findIdx? λz=>eqV z (.int n))=some (placeOf rs n)
 |[],h=>by cases h
 |r::rs,h=>by
  have ev:eqV (.int r) (.int n)=(r==n):=rfl;rw[N1,N1,List.findIdx?_cons];unfold placeOf;rw[PV];show (if eqV (.int r) (.int n)=true then some 0 else _)=_;rw[ev];cases hr:r==n with
  |true=>rfl
  |false =>
   have a:r≠n:=by simpa using hr
   have:=ml n rs ((N5.mp h).resolve_left λq=>a q.symm);rw[if_neg NO,this];rfl
theorem ke(h:n∈rs):nr (rs.map .int) (.int n)=some (.int (placeOf rs n)):=by unfold nr;rw[Ck,show gz (.int n)=true from rfl];simp only[PN,if_true];rw[show toV (.int n)=.int n from rfl,ml n rs h];rfl
@[simp]theorem yY(go ga:Ds->Rs PyData)(δ:Ds):ql go ga δ=(go δ).bind λd=>match d with|.tuple xs=>(ga δ).bind λy=>Rs.eN (nr xs y)|_=>.no:=rfl
theorem FR{k:Nat}:cutD xs (some (k:Int)) none=xs.drop k:=by
 unfold cutD;have e1:HT.sIx xs.length 0 (some (k:Int))=min k xs.length:=HT.Az _ _ _;have e2:HT.sIx xs.length xs.length none=xs.length:=rfl;rw[e1,e2];by_cases h:k<=xs.length
 ·rw[Nat.min_eq_left h];exact List.take_of_length_le (by simp)
 ·rw[Nat.min_eq_right (by omega),List.drop_of_length_le (N6 _),List.drop_of_length_le (by omega)];simp
theorem Jr{k:Nat}:cutD xs none (some (k:Int))=xs.take k:=by unfold cutD;have e1:HT.sIx xs.length 0 none=0:=rfl;have e2:HT.sIx xs.length xs.length (some (k:Int))=min k xs.length:=HT.Az _ _ _;rw[e1,e2];simp
theorem qI(es:List Er)(t:Int):∀(rs:List Int)(k:Int)(m:Int),m∈rs->(aY es m).has t=true->∃h,hts es rs k t=some h
 |[],_,_,h,_=>by cases h
 |r::rs,k,m,h,ht=>by
  unfold hts;by_cases z:(aY es r).has t=true
  ·exact⟨k,by rw[if_pos z]⟩
  ·rw[if_neg z];rcases N5.mp h with q|q
   ·subst q;exact absurd ht z
   ·exact qI es t rs (k+1) m q ht
theorem yg{t:Int}(a:0<=t)(h3:t<=3):atI ((List.range 4).map λ(t:Nat)=>bW (bu es rs t)) t=some (bW (bu es rs t)):=by rw[nv (j:=t.toNat) (by omega),NK,Pd (by omega)];simp only[OG];rw[OU a]
theorem Kw{p:Int×Option Int}{t:Int}(a:p∈e.parts)(h:p.2=some t):e.has t=true:=OL.mpr ⟨p,a,by simp[h]⟩
theorem qg:∀(ps:List (Int×Option Int)),(∀p∈ps,0<=p.1/\p.1<=1000000)->0<=(ps.map (·.1)).sum/\(ps.map (·.1)).sum<=1000000*ps.length
 |[],_=>by simp
 |p::r,h=>by
  have h1:=h p N3;have h2:=qg r λq a=>h q (N0 _ a)
  simp only[N1,O2,NJ];omega
theorem Er.Sh.work_b(h:e.Sh):0<=e.work/\e.work<=1000000000:=by
 have:=qg e.parts λp a=>⟨(h.pl p a).1,(h.pl p a).2.1⟩
 have h2:=h.pn;unfold Er.work;omega
theorem pG{b:Int}(h1:-(2 ^ 64)<a)(h2:a<2 ^ 64):kJ (.int a) (.int b)=some (.int (a*b)):=by show (if _ then _ else _)=_;rw[if_pos (.inl ⟨h1,h2⟩)]
def fw:PyData->Option (List Int)
 |.dict [(.none,.list l)]=>eV l
 |_=>none
theorem fN(ns:List Int):fw (aq ns)=some ns:=eJ ns
def ak:Gf
 |[s,.int k,.int many]=>(match fw s with
  |some ns=>if 0<=k/\0<many then .ok (.int (mixed ns k many)) else .no
  |none=>.no)
 |_=>.no
theorem ck{k:Int}(h1:0<=k)(h2:0<many):ak [aq ns,.int k,.int many]=.ok (.int (mixed ns k many)):=by unfold ak;simp[fN,h1,h2]
theorem gr(O:List Nat)(i:Nat)(g:Ds->Rs PyData)(δ:Ds):aU O i g δ=if i<δ.length then ofR (g (mask O δ)) λd=>.nx (δ.set i (some d)) else .no:=rfl
def b9:Gf
 |[s,.int a,.int top,.bool tools]=>(match fw s with
  |some ns=>if 0<=a/\0<top/\top<=58 then .ok (mkE ns a top tools).d else .no
  |none=>.no)
 |_=>.no
theorem iQ{top:Int}{b:Bool}(h1:0<=a)(h2:0<top)(c:top<=58):b9 [aq ns,.int a,.int top,.bool b]=.ok (mkE ns a top b).d:=by unfold b9;simp[fN,h1,h2,c]
theorem Cc(o:Option Int):g0 (bW o)=true:=by cases o <;> (unfold bW g0;rfl)
theorem zE(p:Int×Option Int):g0 (aQ p)=true:=by unfold aQ g0 kZ;rw[show g0 (.int p.1)=true by unfold g0;rfl];unfold kZ;rw[Cc];unfold kZ;rfl
theorem DS{i:Int}(h0:0<=i)(h1:i<5):atI [PyData.int 0,PyData.int 1,PyData.int 1,PyData.int 0,PyData.none] i=some (bW (kR i)):=by
 have:i=0\/i=1\/i=2\/i=3\/i=4:=by omega
 rcases this with rfl|rfl|rfl|rfl|rfl <;> rfl
theorem xE(ns:List Int)(a top:Int)(b:Bool)(ev la e:PyData)(ha:0<=a)(L:List PyData)(hL:L.length<1000)(i:Nat)(x8 f:Option PyData) :
   aJ (aU [7] 9 (ao ak (ae (af 0) (ae (g2 bP (g2 bP (af 1) (gC (.int 4))) (af 8)) (ae (gC (.int 40)) ah)))))
   (aJ (iI [7] 7 (gu (ae (g2 bP (gC (.int 1)) (g2 jS (af 9) (gC (.int 4)))) (ae (g2 dIx (pq (ae (gC (.int 0)) (ae (gC (.int 1)) (ae (gC (.int 1)) (ae (gC (.int 0)) (ae (gC .none) ah)))))) (g2 jS (g2 rZ (af 9) (gC (.int 4))) (gC (.int 5)))) ah))))
   (sIf (gm (gT (af 3))) (Bx 7 (g1 rQ (gC (.int 1))) (gu (ae (g2 dIx (g2 dIx (af 7) (g1 rQ (gC (.int 1)))) (gC (.int 0))) (ae (gC .none) ah)))) bj))
     [some (aq ns),some (.int a),some (.int top),some (.bool b),some ev,some la,some e,some (.list L),some (.int (0+(i:Int))),f]
  =.nx [some (aq ns),some (.int a),some (.int top),some (.bool b),some ev,some la,some e,some (.list (L++[aQ (eY ns (a+4+(i:Int)) b)])),some (.int (0+(i:Int))),some (.int (mixed ns (a+4+(0+(i:Int))) 40))]:=by
 have hm:=ck (ns:=ns) (k:=a+4+(0+(i:Int))) (many:=40) (by omega) (by decide);have m0:=cq ns (a+4+(0+(i:Int))) (many:=40) (by decide);have m1:=cN ns (a+4+(0+(i:Int))) (many:=40) (by decide);have h:a+4+(0+(i:Int))=a+4+(i:Int):=by omega
 generalize hc:mixed ns (a+4+(0+(i:Int))) 40=c at *;have j:0<=c / 4 % 5:=Ox _ (by decide);have l:c / 4 % 5<5:=Oz _ (by decide);have m:=DS j l;have g:eY ns (a+4+(i:Int)) b=(1+c % 4,if b then kR (c / 4 % 5) else none):=by unfold eY;rw[<-h,hc]
 have n:aU [7] 9 (ao ak (ae (af 0) (ae (g2 bP (g2 bP (af 1) (gC (.int 4))) (af 8)) (ae (gC (.int 40)) ah)))) [some (aq ns),some (.int a),some (.int top),some (.bool b),some ev,some la,some e,some (.list L),some (.int (0+(i:Int))),f]
    =.nx [some (aq ns),some (.int a),some (.int top),some (.bool b),some ev,some la,some e,some (.list L),some (.int (0+(i:Int))),some (.int c)]:=by
   rw[gr,if_pos (by simp)];simp only[bI,aA,aM,cO,aB (show 0∉[7] by decide),aB (show 1∉[7] by decide),aB (show 8∉[7] by decide),au,aw,dY,Rs.ag,gE,Rs.aj,hm,ax];rfl
 have s2:iI [7] 7 (gu (ae (g2 bP (gC (.int 1)) (g2 jS (af 9) (gC (.int 4)))) (ae (g2 dIx (pq (ae (gC (.int 0)) (ae (gC (.int 1)) (ae (gC (.int 1)) (ae (gC (.int 0)) (ae (gC .none) ah)))))) (g2 jS (g2 rZ (af 9) (gC (.int 4))) (gC (.int 5)))) ah)))
     [some (aq ns),some (.int a),some (.int top),some (.bool b),some ev,some la,some e,some (.list L),some (.int (0+(i:Int))),some (.int c)]
    =.nx [some (aq ns),some (.int a),some (.int top),some (.bool b),some ev,some la,some e,some (.list (L++[aQ (1+c % 4,kR (c / 4 % 5))])),some (.int (0+(i:Int))),some (.int c)]:=by
   unfold iI;simp only[OE,OF];simp only[k7,EO,aA,aM,cO,aB (show 9∉[7] by decide),au,aw,dY,Rs.ag,gE,Rs.aj,IE,D4,if_pos (show (0:Int)<4 by decide),if_pos (show (0:Int)<5 by decide),if_pos (show (0:Int)<4/\(4:Int)<1073741824 by decide),IH,m,ax,if_pos (show L.length<1000000 by omega)];rfl
 rw[aX,n];simp only;rw[aX,s2];simp only;cases b with
 |true =>rw[g];simp
 |false =>
   rw[g];have hl:atI (L++[aQ (1+c % 4,kR (c / 4 % 5))]) (-1)=some (aQ (1+c % 4,kR (c / 4 % 5))):=by rw[mV];simp
   have o:ixN (L++[aQ (1+c % 4,kR (c / 4 % 5))]).length (-1)=some L.length:=by unfold ixN;rw[if_neg (by decide),NC,Oa,if_pos (by omega)];congr 1;omega
   have p:(L++[aQ (1+c % 4,kR (c / 4 % 5))]).set L.length (.tuple [.int (1+c % 4),.none])=L++[aQ (1+c % 4,none)]:=by rw[Px _ _ (N6 _)];simp;rfl
   have q:g0 (.tuple [.int (1+c % 4),.none])=true:=zE (1+c % 4,none);rw[dP];simp only[uZ,fB,au,aw,Rs.ag,bH,ax,Bool.not_false,if_true];unfold Bx;simp only[OE,OF,k7,aA,aM,cO,jF,au,aw,dY,Rs.ag,MJ,Rs.aj,IH,hl,DI,ax,o,q,if_true,p];rfl
theorem ky{j:Int}(h0:0<=j)(h1:j<1000000):Im [.int j]=.ok (bK 0 j.toNat):=by show (if _ then _ else _)=_;rw[if_pos (by omega)]
theorem hU{lo:Int}{n:Nat}{d:PyData}(h:(bK lo n)[i]?=some d):i<n/\d=.int (lo+(i:Int)):=by have hi:=(NR.mp h).1;rw[dG]at hi;unfold bK at h;rw[NK,Pd hi]at h;exact⟨hi,(Option.some.inj h).symm⟩
theorem qi(n:Nat)(g:Nat->α):(List.range (n+1)).map g=(List.range n).map g++[g n]:=by rw[List.range_succ,O5];rfl
theorem E9{f:PyData->Int->Int->Bool->Rs PyData}(h:(match ds with|[a,.int x1,.int x2,.bool x3]=>f a x1 x2 x3|_=>.no)≠.no):∃a x1 x2 x3,ds=[a,.int x1,.int x2,.bool x3]/\f a x1 x2 x3≠.no:=by
 rcases ds with _|⟨a,_|⟨x1,_|⟨x2,_|⟨x3,_|⟨y,ys⟩⟩⟩⟩⟩
 ·exact absurd rfl h
 ·exact absurd rfl h
 ·first|exact absurd rfl h|(cases x1 <;> exact absurd rfl h)
 ·first|exact absurd rfl h|(cases x1 <;> first|exact absurd rfl h|(cases x2 <;> exact absurd rfl h))
 ·skip
  cases x1 with
  |int x1 =>
   cases x2 with
   |int x2 =>
    cases x3 with
    |bool x3 =>exact⟨_,_,_,_,rfl,h⟩
    |_=>exact absurd rfl h
   |_=>first|exact absurd rfl h|(cases x3 <;> exact absurd rfl h)
  |_=>first|exact absurd rfl h|(cases x2 <;> first|exact absurd rfl h|(cases x3 <;> exact absurd rfl h))
 ·first|exact absurd rfl h|(cases x1 <;> first|exact absurd rfl h|(cases x2 <;> first|exact absurd rfl h|(cases x3 <;> exact absurd rfl h)))
theorem vz(cs:Cs):LLq (gN cs ak) 4 6 b9:=by
 intro ds hl c;obtain⟨s,a,top,b,q,p⟩:=E9 c;clear c;subst q;have c:=p;clear p
 ·skip
  split at c
  ·rename_i ns h;have es:s=aq ns:=by
    unfold fw at h;split at h
    ·rename_i l;rw[ee h];rfl
    ·cases h
   subst es;split at c
   ·rename_i hc;obtain⟨ha,j,m⟩:=hc;rw[iQ ha j m];show bf (gN cs ak [some (aq ns),some (.int a),some (.int top),some (.bool b),none,none,none,none,none,none])=_;have hm:∀k many:Int,0<=k->0<many->ak [aq ns,.int k,.int many]=.ok (.int (mixed ns k many)):=λk many h1 h2=>ck h1 h2
    have a1:=cq ns a j;have lb:=v5 ns a (3+mixed ns a top) (by omega);have b1:=cq ns (a+1) (many:=4) (by decide);have b2:=cN ns (a+1) (many:=4) (by decide);have n1:=cq ns (a+3) (many:=3) (by decide);have n2:=cN ns (a+3) (many:=3) (by decide);have c1:=cq ns (a+6) (many:=3) (by decide);have c2:=cN ns (a+6) (many:=3) (by decide)
    -- every
    have r:aU [7] 4 (g2 bP (gC (.int 3)) (ao ak (ae (af 0) (ae (af 1) (ae (af 2) ah))))) [some (aq ns),some (.int a),some (.int top),some (.bool b),none,none,none,none,none,none]
      =.nx [some (aq ns),some (.int a),some (.int top),some (.bool b),some (.int (3+mixed ns a top)),none,none,none,none,none]:=by
     rw[gr,if_pos (by simp)];simp only[bI,aA,aM,cO,aB (show 0∉[7] by decide),aB (show 1∉[7] by decide),aB (show 2∉[7] by decide),au,aw,dY,Rs.ag,hm a top ha j,gE,Rs.aj,ax];rfl
    generalize hev:3+mixed ns a top=ev at *;have evp:3<=ev:=by omega
    have s2:aU [7] 5 (g2 kJ (ao ak (ae (af 0) (ae (g2 bP (af 1) (gC (.int 1))) (ae (gC (.int 4)) ah)))) (gF BG (ae (g2 dEq (ao ak (ae (af 0) (ae (g2 bP (af 1) (gC (.int 2))) (ae (gC (.int 3)) ah)))) (gC (.int 0))) ah))) [some (aq ns),some (.int a),some (.int top),some (.bool b),some (.int ev),none,none,none,none,none]
      =.nx [some (aq ns),some (.int a),some (.int top),some (.bool b),some (.int ev),some (.int (mixed ns (a+1) 4*(if mixed ns (a+2) 3=0 then 1 else 0))),none,none,none,none]:=by
     rw[gr,if_pos (by simp)];simp only[bI,aA,aM,cO,ig,aB (show 0∉[7] by decide),aB (show 1∉[7] by decide),au,aw,dY,Rs.ag,gE,Rs.aj,hm (a+1) 4 (by omega) (by decide),hm (a+2) 3 (by omega) (by decide),jV,Ko];rw[pG (by omega) (by omega)];simp only[Rs.aj,ax,beq_iff_eq];rfl
    have u:aU [7] 5 (gF kN (ae (af 5) (ae (g2 iH (af 4) (gC (.int 1))) ah))) [some (aq ns),some (.int a),some (.int top),some (.bool b),some (.int ev),some (.int (mixed ns (a+1) 4*(if mixed ns (a+2) 3=0 then 1 else 0))),none,none,none,none]
      =.nx [some (aq ns),some (.int a),some (.int top),some (.bool b),some (.int ev),some (.int (iK ns a ev)),none,none,none,none]:=by
     rw[gr,if_pos (by simp)];simp only[ig,aA,aM,cO,aB (show 4∉[7] by decide),aB (show 5∉[7] by decide),au,aw,dY,Rs.ag,uf,Rs.aj,yn,ax];rfl
    generalize hla:iK ns a ev=la at *;have v:aU [7] 6 (g2 iH (af 4) (af 5)) [some (aq ns),some (.int a),some (.int top),some (.bool b),some (.int ev),some (.int la),none,none,none,none]
      =.nx [some (aq ns),some (.int a),some (.int top),some (.bool b),some (.int ev),some (.int la),some (.int (ev-la)),none,none,none]:=by
     rw[gr,if_pos (by simp)];simp only[cO,aB (show 4∉[7] by decide),aB (show 5∉[7] by decide),au,aw,Rs.ag,uf,Rs.aj,ax];rfl
    have w:sIf (gT (g2 dEq (ao ak (ae (af 0) (ae (g2 bP (af 1) (gC (.int 1))) (ae (gC (.int 3)) ah)))) (gC (.int 0)))) (aU [7] 6 (g2 iH (af 6) (ao ak (ae (af 0) (ae (g2 bP (af 1) (gC (.int 2))) (ae (af 6) ah)))))) bj
        [some (aq ns),some (.int a),some (.int top),some (.bool b),some (.int ev),some (.int la),some (.int (ev-la)),none,none,none]
      =.nx [some (aq ns),some (.int a),some (.int top),some (.bool b),some (.int ev),some (.int la),some (.int (n6 ns a (ev-la))),none,none,none]:=by
     rw[dP];simp only[fB,cO,bI,aA,aM,au,aw,dY,Rs.ag,gE,Rs.aj,hm (a+1) 3 (by omega) (by decide),jV,bH,ax];by_cases z:mixed ns (a+1) 3=0
     · rw[if_pos (by simp[z]),gr,if_pos (by simp)];simp only[bI,aA,aM,cO,aB (show 0∉[7] by decide),aB (show 1∉[7] by decide),aB (show 6∉[7] by decide),au,aw,dY,Rs.ag,gE,Rs.aj,hm (a+2) (ev-la) (by omega) (by omega),uf,ax];unfold n6;rw[if_pos z];rfl
     · rw[if_neg (by simp[z])];unfold n6;rw[if_neg z];rfl
    generalize hdu:n6 ns a (ev-la)=du at *;have x:ip [7] 7 ah [some (aq ns),some (.int a),some (.int top),some (.bool b),some (.int ev),some (.int la),some (.int du),none,none,none]
      =.nx [some (aq ns),some (.int a),some (.int top),some (.bool b),some (.int ev),some (.int la),some (.int du),some (.list []),none,none]:=rfl
    have src:fG (ae (ao ak (ae (af 0) (ae (g2 bP (af 1) (gC (.int 3))) (ae (gC (.int 3)) ah)))) ah) (mask [7] [some (aq ns),some (.int a),some (.int top),some (.bool b),some (.int ev),some (.int la),some (.int du),some (.list []),none,none])=.ok (bK 0 (mixed ns (a+3) 3).toNat):=by simp only[pf,bI,aA,aM,cO,aB (show 0∉[7] by decide),aB (show 1∉[7] by decide),au,aw,dY,Rs.ag,gE,Rs.aj,hm (a+3) 3 (by omega) (by decide)];exact ky n1 (by omega)
    obtain⟨δ',e,x8,f,n⟩:=lg (β:=Unit) (tgt:=bO 8) (body:=aJ (aU [7] 9 (ao ak (ae (af 0) (ae (g2 bP (g2 bP (af 1) (gC (.int 4))) (af 8)) (ae (gC (.int 40)) ah)))))
  (aJ (iI [7] 7 (gu (ae (g2 bP (gC (.int 1)) (g2 jS (af 9) (gC (.int 4)))) (ae (g2 dIx (pq (ae (gC (.int 0)) (ae (gC (.int 1)) (ae (gC (.int 1)) (ae (gC (.int 0)) (ae (gC .none) ah)))))) (g2 jS (g2 rZ (af 9) (gC (.int 4))) (gC (.int 5)))) ah))))
  (sIf (gm (gT (af 3))) (Bx 7 (g1 rQ (gC (.int 1))) (gu (ae (g2 dIx (g2 dIx (af 7) (g1 rQ (gC (.int 1)))) (gC (.int 0))) (ae (gC .none) ah)))) bj)))
     (λi δ=>∃x8 f,δ=[some (aq ns),some (.int a),some (.int top),some (.bool b),some (.int ev),some (.int la),some (.int du),some (.list ((List.range i).map λ(k:Nat)=>aQ (eY ns (a+4+(k:Int)) b))),x8,f])
     (bK 0 (mixed ns (a+3) 3).toNat) 0 (λi d δ hi o=>by obtain⟨x8,f,y⟩:=o;subst y;rw[Oh]at *;obtain⟨hil,rfl⟩:=hU hi;refine⟨[some (aq ns),some (.int a),some (.int top),some (.bool b),some (.int ev),some (.int la),some (.int du),some (.list ((List.range i).map λ(k:Nat)=>aQ (eY ns (a+4+(k:Int)) b))),some (.int (0+(i:Int))),f],_,rfl,xE ns a top b (.int ev) (.int la) (.int du) ha _ (by simp;omega) i none f,some (.int (0+(i:Int))),some (.int (mixed ns (a+4+(0+(i:Int))) 40)),?_⟩;rw[qi]) [some (aq ns),some (.int a),some (.int top),some (.bool b),some (.int ev),some (.int la),some (.int du),some (.list []),none,none] ⟨none,none,rfl⟩
    subst n;rw[Oh,dG]at e;have hd:(mkE ns a top b).d=.tuple [.int ev,.int du,.int la,.tuple (((List.range (mixed ns (a+3) 3).toNat).map λ(k:Nat)=>aQ (eY ns (a+4+(k:Int)) b))++[aQ (1+mixed ns (a+6) 3,none)])]:=by simp only[mkE,Er.d,O5,NG,hev,hla,hdu];rfl
    rw[hd];simp only[gN];rw[aX,r];simp only;rw[aX,s2];simp only;rw[aX,u];simp only;rw[aX,v];simp only;rw[aX,w];simp only;rw[aX,x];simp only;rw[aX,lq,src,ax,e];simp only;simp only[bU,k7,EO,aA,aM,cO,ig,bI,au,aw,dY,Rs.ag,gE,Rs.aj,hm (a+6) 3 (by omega) (by decide)];have g:bP (.list ((List.range (mixed ns (a+3) 3).toNat).map λ(k:Nat)=>aQ (eY ns (a+4+(k:Int)) b))) (.list [.tuple [.int (1+mixed ns (a+6) 3),.none]])=some (.list (((List.range (mixed ns (a+3) 3).toNat).map λ(k:Nat)=>aQ (eY ns (a+4+(k:Int)) b))++[aQ (1+mixed ns (a+6) 3,none)])):=by show (if _ then _ else _)=_;rw[if_pos (by simp;omega)];rfl
    rw[g];simp
   ·exact absurd rfl c
  ·exact absurd rfl c
def bA:Gf
 |[s,.int a,.int most,.int top,.bool tools]=>(match fw s with
  |some ns=>if 0<=a/\0<most/\most<=6/\0<top/\top<=58 then .ok (ar (oK ns a most top tools)) else .no
  |none=>.no)
 |_=>.no
theorem iB{most top:Int}{b:Bool}(h1:0<=a)(h2:0<most)(c:most<=6)(e:0<top)(f:top<=58):bA [aq ns,.int a,.int most,.int top,.bool b]=.ok (ar (oK ns a most top b)):=by unfold bA;simp[fN,h1,h2,c,e,f]
theorem iq{s:PyData}(a:fw s=some ns):s=aq ns:=by
 unfold fw at a;split at a
 ·rename_i l;rw[ee a];rfl
 ·cases a
theorem B3{f:PyData->Int->Int->Int->Bool->Rs PyData}(h:(match ds with|[a,.int x1,.int x2,.int x3,.bool x4]=>f a x1 x2 x3 x4|_=>.no)≠.no):∃a x1 x2 x3 x4,ds=[a,.int x1,.int x2,.int x3,.bool x4]/\f a x1 x2 x3 x4≠.no:=by
 rcases ds with _|⟨a,_|⟨x1,_|⟨x2,_|⟨x3,_|⟨x4,_|⟨y,ys⟩⟩⟩⟩⟩⟩
 ·exact absurd rfl h
 ·exact absurd rfl h
 ·first|exact absurd rfl h|(cases x1 <;> exact absurd rfl h)
 ·first|exact absurd rfl h|(cases x1 <;> first|exact absurd rfl h|(cases x2 <;> exact absurd rfl h))
 ·first|exact absurd rfl h|(cases x1 <;> first|exact absurd rfl h|(cases x2 <;> first|exact absurd rfl h|(cases x3 <;> exact absurd rfl h)))
 ·skip
  cases x1 with
  |int x1 =>
   cases x2 with
   |int x2 =>
    cases x3 with
    |int x3 =>
     cases x4 with
     |bool x4 =>exact⟨_,_,_,_,_,rfl,h⟩
     |_=>exact absurd rfl h
    |_=>first|exact absurd rfl h|(cases x4 <;> exact absurd rfl h)
   |_=>first|exact absurd rfl h|(cases x3 <;> first|exact absurd rfl h|(cases x4 <;> exact absurd rfl h))
  |_=>first|exact absurd rfl h|(cases x2 <;> first|exact absurd rfl h|(cases x3 <;> first|exact absurd rfl h|(cases x4 <;> exact absurd rfl h)))
 ·first|exact absurd rfl h|(cases x1 <;> first|exact absurd rfl h|(cases x2 <;> first|exact absurd rfl h|(cases x3 <;> first|exact absurd rfl h|(cases x4 <;> exact absurd rfl h))))
theorem sj(cs:Cs):LLq (fQ cs b9 ak) 5 1 bA:=by
 intro ds hl c;obtain⟨s,a,most,top,b,n,l⟩:=B3 c;clear c;subst n;have c:=l;clear l
 ·skip
  split at c
  ·rename_i ns o;have es:=iq o;subst es;split at c
   ·rename_i hc;obtain⟨ha,e,g,m,f⟩:=hc;rw[iB ha e g m f];have hm:=ck (ns:=ns) ha e;have m1:=cq ns a e;have m2:=cN ns a e;have h:ba 6 (fG (ae (af 5) ah)) bo (ao b9 (ae (af 0) (ae (g2 bP (g2 bP (af 1) (gC (.int 1))) (g2 kJ (gC (.int 7)) (af 6))) (ae (af 3) (ae (af 4) ah))))) aS
      [some (aq ns),some (.int a),some (.int most),some (.int top),some (.bool b),some (.int (1+mixed ns a most))]=.ok ((bK 0 (1+mixed ns a most).toNat).map λd=>(mkE ns (a+1+7*deI d) top b).d) :=
     cH rfl (by simp only[pf,aA,aM,au,aw,Rs.ag];exact ky (by omega) (by omega)) (by rw[dG];omega) λd hd=>by obtain⟨i,hi⟩:=List.getElem?_of_mem hd;obtain⟨_,rfl⟩:=hU hi;simp only[Oe,O9,bI,aA,aM,cO,au,aw,dY,Rs.ag,gE,Rs.aj];rw[pG (by decide) (by decide)];simp only[Rs.aj,Rs.ag,gE];exact iQ (by omega) m f
    have j:ar (oK ns a most top b)=.tuple ((bK 0 (1+mixed ns a most).toNat).map λd=>(mkE ns (a+1+7*deI d) top b).d):=by
     unfold ar oK bK;rw[NG,NG];congr 1;refine NI λk _=>?_
     simp[deI]
    rw[j];show bf (fQ cs b9 ak [some (aq ns),some (.int a),some (.int most),some (.int top),some (.bool b),none])=_;simp only[fQ,aX,jd,NJ,OI,Nat.reduceAdd,Nat.reduceLT,if_true,bI,aA,aM,cO,au,aw,dY,Rs.ag,hm,gE,Rs.aj,ax,Pk,Pl,bU,ig,kX,h,Fy,a9]
   ·exact absurd rfl c
  ·exact absurd rfl c
end RS
namespace RS
open PySem PySem.Spec PyProof.Rows L2
section
theorem Bd{k:Nat}{G:Ds->Sr}(F:Fun K x qual st f fd)(S:dq N ps (aC st))(c:∀i∈O,ps.length<=i)
  (body:∀(cdv:Value)(A:Around)(outer:List Env)(s:Shared)(H:Hp)(E:XK),cj k (A.deeper (envOfC qual (aC st) s.heap.objs.size f cdv))->PBD (dz (CXW P w) P w K mg base N qual (aC st) f cdv A outer s H E) E O (b0 st) G)
  (e:∀ds,ds.length=ps.length->gf ds≠.no->bf (G (ds.map some++List.replicate (N.length-ps.length) none))=gf ds):gQ P w K mg base (CXW P w) (k+1) f fd ps (spD K ps.length gf):=by
 refine lL F S (λvs H Q E h=>?_) (λcdv A outer s H vs Q E g h=>?_)
 ·obtain⟨A,ds,b,hi,hl,o⟩:=h;rw[hi.length,hl]
 ·obtain⟨A0,ds,b,hi,hl,o⟩:=h;refine⟨_,body cdv A outer s H E g,H,A0,[],_,bR.start b hi hl c,?_⟩;have a:=e ds hl (λz=>by rw[z]at o;exact o);cases q:G (ds.map some++List.replicate (N.length-ps.length) none) with
  |rt d=>rw[q]at a;rw[<-a]at o;exact λv H' s' j=>o v H' s' j
  |nx δ=>rw[q]at a;rw[<-a]at o;exact λA' σ H' l=>o .non H' l.same is_none
  |rz C=>rw[q]at a;rw[<-a]at o;exact λH' s'=>o H' s'
  |bk δ=>rw[q]at a;rw[<-a]at o;exact o.elim
  |ct δ=>rw[q]at a;rw[<-a]at o;exact o.elim
  |no=>rw[q]at a;rw[<-a]at o;exact o.elim
theorem FO{b:Array (Option Value)}{kV e:Value}(X:K.In h)(G:h.Ns mainGlobals mg)
  (g:∀(kV doc pm:Value)(an:Option Addr)(cdv ct:Value)(us:List Value),us.length=ps.length->bindArgs (W.fnOf x x (fm st) (b0 st) (aC st) .none kV doc pm an cdv ct) ⟨us,[]⟩=pure (ps.zip us))
  (a:W.nsIn K mainGlobals x=some (some (.ref f)))
  (l:K.lookup f=some ⟨oc,od,.func (W.fnOf x x (fm st) (b0 st) (aC st) .none kV e pm an cd ct),b⟩)
  (c:W.codeIn K cd x=true) (k:W.keepIn K (.ref f)=true):bG K mg x st ps :=
 have F:=yR (st:=st) l c k
 ⟨f,_,F,F.binds g,W.mg_of X G a⟩
theorem AQ(X:K.In h)(G:h.Ns mainGlobals mg)(a:W.nsIn K mainGlobals x=some (some (.ref C)))
 (e:W.excIn K C [.type "ValueError",.type "Exception",.type "BaseException",.type "object"] "ValueError.__new__"=true):oJ K mg x C:=⟨W.mg_of X G a,e⟩
theorem F9{t:_}(X:K.In h)(G:h.Ns mainGlobals mg)(a:W.nsIn K mainGlobals x=some (some (.int n t))):∃t,mg x=some (.int n t):=⟨t,W.mg_of X G a⟩
end
def fT(n:Nat):Gf
 |[s]=>(match fw s with
  |some ns=>if ns.length<=n then .ok (.bool true) else .no
  |none=>.no)
 |_=>.no
theorem L9{l:W.OpenLaw}{n k:Nat}{d:DefRec}{K:Params->W.Frag}
  (hn:l.most=some n) (i:n<=sizeLine) (j:d.params.defaults=[]) (B:cj k callerA)
  (C:∀(w:World)(h:Heap),YP w h->(K w.params).In h)
  (D:∀(kV doc pm:Value)(an:Option Addr)(cdv ct:Value)(us:List Value),us.length=1->bindArgs (W.fnOf d.name d.name (fm st) (b0 st) (aC st) .none kV doc pm an cdv ct) ⟨us,[]⟩=pure ([x].zip us))
  (F:∀(w:World)(mg:Str->Option Value)(h:Heap),(K w.params).In h->h.Ns mainGlobals mg->
   bG (K w.params) mg d.name st [x]/\∀f fd,Fun (K w.params) d.name d.name st f fd->∀base:Heap,(K w.params).In base->base.Ns mainGlobals mg->L2.nZ mg base->gQ l.prog w (K w.params) mg base (CXW l.prog w) k f fd [x] (spD (K w.params) 1 (fT n)))
  (o:∀(w:World)(h:Heap)(c:List Str)(g:ExcName->Option Value)(mg E:Str->Option Value),PyProof.Rows.Top q c g mg E h->(K w.params).In h->L2.mS (K w.params) h:=by exact λ_ _ _ _ _ _ _ _=>L2.tabsIn_nil rfl) :
  W.WalkO q loose XP YP l.row.toRowW d [] (λf vs=>PySem.call f vs) :=
 L2.zY (n:=n) (k:=k) (x:=x) (CX:=λw=>CXW l.prog w) (sp:=λw=>spD (K w.params) 1 (fT n)) hn i j B C
  (λw mg I h X G p=>by obtain⟨⟨f,fd,A,b,m⟩,J⟩:=F w mg h X G;have e:=p.symm.trans m;cases e;refine⟨fd,λs u=>?_,J I fd A⟩;obtain⟨oc,od,kV,doc,pm,an,cdv,ct,osl,rfl,lk,hcd⟩:=A.ex;exact .of_eq (D kV doc pm an cdv ct [u] rfl))
  (λw H a ns hl hO L=>by
   refine⟨[],[aq ns],?_,?_,rfl,?_⟩
   ·exact Ls.nil
   ·rw[AO];exact⟨_,[],rfl,BY L,rfl⟩
   ·have M:fT n [aq ns]=.ok (.bool true):=by unfold fT;simp[fN,hl]
    rw[M];intro v H' _ r;rw[AO]at r;unfold Is at r;exact r)
  (λw H s e s' y=>(by obtain⟨_,_,_,_,_,_,z,_⟩:=y;exact z)) o
end RS
set_option maxHeartbeats 4000000
namespace L2
open PySem PySem.Spec PyProof.Rows
variable {ge:Ds->Rs PyData}
def GQ(K:W.Frag)(x:Str):Prop:=∃f oc od fd a c P o vs,W.nsIn K mainGlobals x=some (some (.ref f))/\K.lookup f=some ⟨oc,od,.func fd,a⟩/\fd.code=.ref c/\K.lookup c=some o/\o.data=.fields vs/\vs[11]?=some (.ref P)/\W.codeHdIn K c P=true
section
theorem iN.ofL{k:Nat}{G:Ds->Sr}(F:Fun K x x st f fd)(S:dq N ps (aC st))(b:Binds K fd ps [])(m:mg x=some (.ref f))(D:∀i∈O,ps.length<=i)
  (I:x∈l7) (hm:∀g,W.nsIn K mainGlobals x=some (some (.ref g))->mg x=some (.ref g)) (J:GQ K x) (hB:nZ mg base) (hK:K.In base) (M:∀(L:Addr)(cdv:Value),(envOfC x (aC st) L f cdv).qual++"<lambda>"=x++".<locals>.<lambda>")
  (body:∀(cdv:Value)(A:Around)(outer:List Env)(s:Shared)(H:Hp)(E:XK),cj k (A.deeper (envOfC x (aC st) s.heap.objs.size f cdv))->∀c l,Fq (dz (CXW P w) P w K mg base N x (aC st) f cdv A outer s H E) c l->PBD (dz (CXW P w) P w K mg base N x (aC st) f cdv A outer s H E) E O (b0 st) G)
  (R:∀ds,ds.length=ps.length->gf ds≠.no->bf (G (ds.map some++List.replicate (N.length-ps.length) none))=gf ds):iN P w K mg base (k+1) x ps.length gf:=by
 obtain⟨oc,od,kV,doc,pm,an,cdv,ct,osl,rfl,n,p⟩:=F.ex;obtain⟨j,oc',od',fd',sl',c,l,o,vs,u,y,T,U,X,Y,Z⟩:=J;have hf:j=f:=by have:=hm j u;rw[m]at this;cases this;rfl
 subst hf;rw[n]at y;have r:cdv=.ref c:=by cases y;exact T
 subst r;obtain⟨bm,ob,b1,b2,b3,b4,b5,b6,b7⟩:=hB;refine⟨j,_,ps,El n p S (λvs H Q E h=>?_) (λA outer s H vs' Q E hr h=>?_),m,F.kp,b⟩
 ·obtain⟨A,ds,B,hi,hl,o⟩:=h;rw[hi.length,hl]
 ·obtain⟨A0,ds,B,hi,hl,e⟩:=h;refine⟨_,body (.ref c) A outer s H E hr c l ⟨?_,rfl,W.codeHd_of_K hK Z,bm,ob,b1,b2,b3,b4,b5,b6,b7⟩,H,A0,[],_,bR.start B hi hl D,?_⟩
  ·exact⟨x,I,j,_,_,_,_,c,u,n,rfl,⟨o,vs,U,X,Y⟩,M _ _⟩
  ·have a:=R ds hl (λz=>by rw[z]at e;exact e);cases q:G (ds.map some++List.replicate (N.length-ps.length) none) with
   |rt d=>rw[q]at a;rw[<-a]at e;exact λv H' s' hv=>e v H' s' hv
   |nx δ=>rw[q]at a;rw[<-a]at e;exact λA' σ H' R'=>e .non H' R'.same is_none
   |rz C=>rw[q]at a;rw[<-a]at e;exact λH' s'=>e H' s'
   |bk δ=>rw[q]at a;rw[<-a]at e;exact e.elim
   |ct δ=>rw[q]at a;rw[<-a]at e;exact e.elim
   |no=>rw[q]at a;rw[<-a]at e;exact e.elim
end
def fL(cond:Ds->Rs Bool)(elt:Ds->Rs PyData)(tgt:PyData->Option Ds)(δ a:Ds):List PyData->Rs (List PyData)
 |[]=>.ok []
 |d::r=>match tgt d with
  |none=>.no
  |some own=>(cond (a++own)).calm.bind λb=>if b=true then (elt (δ++own)).calm.bind λx=>(fL cond elt tgt δ a r).bind λxs=>.ok (x::xs) else fL cond elt tgt δ a r
def mT(n0:Nat)(src:Ds->Rs (List PyData))(cond:Ds->Rs Bool)(elt:Ds->Rs PyData)(tgt:PyData->Option Ds):Ds->Ds->Rs (List PyData):=λδ a=>if δ.length=n0 then (src δ).bind λds=>if ds.length<=1000000 then fL cond elt tgt δ a ds else .no else .no
theorem Ge{E:XK}{g:TG}{tt:TT}(hT:TgD K n0 own.length tgt g)(htt:∀σ H Q,cD K E0 cond σ H Q->tt σ H Q){Q:VK}{X:List Addr}{f:Ds}(R:dJ K H A δ σ)(T:dJ K H X f σ)(M:∀a∈X,a∈A)(o:Iy K E A H (mT n0 gi cond ge tgt δ f) Q) :
  tLC own.length (iD K E gi) g tt (eD K E0 ge) σ H Q:=by
 unfold mT at o;by_cases hn0:δ.length=n0
 case neg=>rw[if_neg hn0]at o;exact o.elim
 rw[if_pos hn0]at o;have hσ:σ.length=n0:=by rw[<-R.len];exact hn0
 refine⟨A,δ,R,?_⟩;cases q:gi δ with
 |no=>rw[q]at o;exact o
 |rz C=>rw[q]at o;exact o
 |ok ds =>
  rw[q]at o;have o:Iy K E A H (if ds.length<=1000000 then fL cond ge tgt δ f ds else .no) Q:=o;by_cases hz:ds.length<=1000000
  case neg=>rw[if_neg hz]at o;exact o.elim
  rw[if_pos hz]at o;intro J H1 U hJ D N;have R1:=R.same U;have nD:D∉A:=R1.ls.new N;cases qo:fL cond ge tgt δ f ds with
  |rz C =>
   exfalso;have:∀l,fL cond ge tgt δ f l≠.rz C:=by
    intro l
    induction l with
    |nil=>intro z;cases z
    |cons d r ih =>
     intro z;unfold fL at z;split at z
     ·cases z
     ·rename_i B _;cases c:cond (f++B) with
      |ok b =>
       simp only[c,Rs.dj,Rs.ag]at z;split at z
       ·cases F:ge (δ++B) with
        |ok x =>
         simp only[F,Rs.dj,Rs.ag]at z;cases G:fL cond ge tgt δ f r with
         |ok l=>simp only[G,Rs.ag]at z;cases z
         |rz C'=>simp only[G,Rs.dZ]at z;cases z;exact ih G
         |no=>simp only[G,Rs.bw]at z;cases z
        |rz C'=>simp only[F,Rs.calm,Rs.bw]at z;cases z
        |no=>simp only[F,Rs.calm,Rs.bw]at z;cases z
       ·exact ih z
      |rz C'=>simp only[c,Rs.calm,Rs.bw]at z;cases z
      |no=>simp only[c,Rs.calm,Rs.bw]at z;cases z
   exact this ds qo
  |no=>rw[qo]at o;exact o.elim
  |ok out =>
   rw[qo]at o;have base:av (del H1 A) (del (upd H1 D (.lst [])) (D::A)):=λb o e=>by obtain⟨z,e⟩:=bc e;have nb:b≠D:=aI e N;rw[aN (by simp[nb,z]),az nb];exact e
   refine⟨λi m ys H'=>m=ds.length-i/\i<=ds.length/\av H1 H'/\H' D=some (.lst ys)/\ys.length<=i/\∃Y rest,fL cond ge tgt δ f (ds.drop i)=.ok rest/\out=Y++rest/\Iss K (del H' (D::A)) Y ys,
    ⟨ds.length,by simp,Oc _,bE N,aE,N6 _,[],out,qo,rfl,cX⟩,?_⟩
   rintro i m ys H' ⟨rfl,hi,I,hl,hy,Y,rest,c,F,G⟩
   refine⟨hl,?_⟩;have sG:av (del H1 A) H':=ay.trans I;have Z:∀b∈D::A,(del H1 A) b=none:=λb O=>by
    rcases N5.mp O with z|z
    ·rw[z,aN nD];exact N
    ·exact ib z
   obtain⟨jg,js,jy⟩:=hJ H' (D::A) sG (λb O=>by
    rcases N5.mp O with z|z
    ·exact⟨_,by rw[z];exact hl,rfl⟩
    ·exact (R1.ls.same I) b z) Z
   by_cases hlt:i<ds.length
   ·refine .inr ⟨jg i hlt,λx H2 σ' hσ' y=>?_⟩;obtain⟨s2,d,ed,hd⟩:=jy i x H2 hlt y;have edr:ds.drop i=d::ds.drop (i+1):=by
     rw[OQ hlt];have:ds[i]=d:=by have:=My hlt;rw[this]at ed;exact Option.some.inj ed
     rw[this]
    rw[edr]at c;unfold fL at c;cases et:tgt d with
    |none=>rw[et]at c;cases c
    |some ow =>
     rw[et]at c;have l2:H2 D=some (.lst ys):=s2 _ _ hl;have j:Ls H2 (D::A):=λb O=>by
      rcases N5.mp O with z|z
      ·exact⟨_,by rw[z];exact l2,rfl⟩
      ·exact (R1.ls.same (I.trans s2)) b z
     obtain⟨hol,hgo⟩:=hT d x σ σ' H2 (D::A) (λn H2=>tt n H2 λb H3 =>
      if b=true then eD K E0 ge n H3 λv H4=>H4 D=some (.lst ys)/\ys.length<sizeLine/\(∃h,n=σ++h/\h.length=own.length)/\∃m',m' < ds.length-i/\_
      else (∃h,n=σ++h/\h.length=own.length)/\∃m',m' < ds.length-i/\_) ow hσ hσ' j hd et
     refine hgo λvs p L=>?_
     have sAll:av (del H1 A) (del H2 (D::A)):=lP (sG.trans s2) Z;have RE:dJ K H2 (D::A) (δ++ow) (σ++vs):=by
      refine⟨j,by rw[NC,NC,R.len,p,hol],λk e s=>?_⟩;by_cases hk:k<δ.length
      ·rw[NP hk]at s;obtain⟨u,e1,P⟩:=R1.get k e s;exact⟨u,by rw[NP (by rw[<-R.len];exact hk)];exact e1,P.same sAll⟩
      ·rw[NT (by omega)]at s;obtain⟨u,e1,P⟩:=L _ e s;exact⟨u,by rw[NT (by rw[<-R.len];omega),<-R.len];exact e1,P⟩
     have RE2:dJ K H2 (D::X) (f++ow) (σ++vs):=by
      have hsub:av (del H2 (D::A)) (del H2 (D::X)):=λb u w=>by
       obtain⟨q1,q2⟩:=bc w;rw[aN (λz=>q1 (by
        rcases N5.mp z with z|z
        ·rw[z];exact N3
        ·exact N0 _ (M b z)))];exact q2
      have Rf1:=T.same (U.trans (I.trans s2));have nD2:D∉X:=λz=>nD (M D z)
      have hD0:H D=none:=U.free N;refine⟨λb O=>?_,by rw[NC,NC,T.len,p,hol],λk e s=>?_⟩
      ·rcases N5.mp O with z|z
       ·exact j b (by rw[z];exact N3)
       ·exact j b (N0 _ (M b z))
      ·by_cases hk:k<f.length
       ·rw[NP hk]at s;obtain⟨u,e1,P⟩:=T.get k e s;refine⟨u,by rw[NP (by rw[<-T.len];exact hk)];exact e1,P.same λb u w=>?_⟩;obtain⟨q1,q2⟩:=bc w;have nb:b≠D:=λz=>by rw[z,hD0]at q2;cases q2
        rw[aN (by simp[nb,q1])];exact (U.trans (I.trans s2)) _ _ q2
       ·rw[NT (by omega)]at s;obtain⟨u,e1,P⟩:=L _ e s;exact⟨u,by rw[NT (by rw[<-T.len];omega),<-T.len];exact e1,P.same hsub⟩
     have bad:∀r:Rs Bool,r=.rz 0->r.calm=.no:=λr e=>by rw[e];rfl
     refine htt _ _ _ (cD.run RE2 (λb w H3 S R3f=>?_) (λC w=>?_) (λw=>?_))
     ·simp only[w,Rs.dj,Rs.ag]at c;cases b with
      |true =>
       simp only[if_true]at c;refine eD.run (RE.same S) (λxd ex v H4 s4 R4 hv=>?_) (λC ex=>?_) (λex=>?_)
       ·simp only[ex,Rs.dj,Rs.ag]at c;cases cr:fL cond ge tgt δ f (ds.drop (i+1)) with
        |ok rs =>
         simp only[cr,Rs.ag]at c;cases c;have l4:H4 D=some (.lst ys):=s4 _ _ (S _ _ l2);have dU:del (upd H4 D (.lst (ys++[v]))) (D::A)=del H4 (D::A):=kE (N3);refine⟨l4,by rw[sizeLine_eq];omega,⟨vs,rfl,p⟩,ds.length-(i+1),by omega,rfl,hlt,?_,aE,by simp;omega,Y++[xd],rs,cr,by rw[F];simp,?_⟩
         ·exact av.put (((I.trans s2).trans S).trans s4) N
         ·rw[dU];exact (G.same (av.del (s2.trans (S.trans s4)))).append (jk hv)
        |rz C=>simp only[cr,Rs.dZ]at c;cases c
        |no=>simp only[cr,Rs.bw]at c;cases c
       ·simp only[ex,Rs.calm,Rs.bw]at c;cases c
       ·simp only[ex,Rs.calm,Rs.bw]at c;cases c
      |false =>simp only[NS,if_false]at c;exact⟨⟨vs,rfl,p⟩,ds.length-(i+1),by omega,rfl,hlt,(I.trans s2).trans S,S _ _ l2,by omega,Y,rest,c,F,G.same (av.del (s2.trans S))⟩
     ·simp only[w,Rs.calm,Rs.bw]at c;cases c
     ·simp only[w,Rs.calm,Rs.bw]at c;cases c
   ·have e:i=ds.length:=by omega
    subst e;rw[PY]at c;cases c;rw[Ob]at F;subst F;exact .inl ⟨js,o D ys H' (U.free N) (U.trans I) hl G⟩
def rH(O:List Nat)(i n0:Nat)(a:Ds->Rs (List PyData))(cond:Ds->Rs Bool)(ge:Ds->Rs PyData)(tgt:PyData->Option Ds):Ds->Sr:=λδ=>if i<δ.length then ofR (mT n0 a cond ge tgt (mask O δ) δ) λds=>.nx (δ.set i (some (.list ds))) else .no
section
variable {E:XK}
theorem DD{b:Ds->Rs (List PyData)}{g:TG}(hc:X.calm=true)(m:X.N.Nodup)(hi:PID X E tg iter b)
  (n:TgD X.K n0 (fR tg).length tgt g) (r:∀C s2 H2 fp,PG (bk X tg scope C s2 H2 fp) tg g) (j:∀C s2 H2 fp,PIf (bk X tg scope C s2 H2 fp) ifs cond) (u:∀C s2 H2 fp,PD (bk X tg scope C s2 H2 fp) E0 elt ge) (v:i∉O)
  (c:X.N[i]?=some x) (w:Loc X.env.scope x) (e:swapsWith (.ListComp elt [⟨tg,iter,ifs,0⟩] scope pos) (some (.Name x pos')) spos.line X.env=pure true)
  (hB:Kl X tg scope=true) (y:∀x,foldedSetIterable iter X.env x=pure x) (z:X.fn x=true\/X.env.scope.names.lookup x=some .local) :
  PSD X E O (.Assign [.Name x pos'] (.ListComp elt [⟨tg,iter,ifs,0⟩] scope pos) spos) (rH O i n0 b cond ge tgt) :=
 PS.imp (qG (own:=fR tg) (te:=eD X.K E0 ge) hc m c w e hi r (λC s2 H2 fp=>(j C s2 H2 fp).pts) (λC s2 H2 fp=>u C s2 H2 fp) hB y z) λD σ H f=>by
  obtain⟨H0,A0,A,δ,R,o⟩:=f;unfold rH at o;split at o
  ·rename_i hl;have l:=R.part;refine Ge n (PIf.tt (j 0 X.s₀ X.H₀ [])) l R.full (λa ha=>N8 _ ha) ?_;cases q:mT n0 b cond ge tgt (mask O δ) δ with
   |ok ds =>rw[q]at o;intro p xs H' hn s B h;exact o A _ H' ((R.step s).set v hl (jT (by rw[aN (l.ls.new hn)];exact B) (h.same m9)))
   |rz C=>rw[q]at o;exact λH' s'=>o H' (R.same.trans s')
   |no=>rw[q]at o;exact o
  ·exact o.elim
end
theorem iR.of{m:Str}{k:Nat}{G:Ds->Sr}(F:Fun K m qual st f fd)(S:dq N ps (aC st))(b:Binds K fd ps [])(cl:Cls K C)(hm:Meth K C m f)(a:∀i∈O,ps.length<=i)
  (body:∀(cdv:Value)(A:Around)(outer:List Env)(s:Shared)(H:Hp)(E:XK),cj k (A.deeper (envOfC qual (aC st) s.heap.objs.size f cdv))->PBD (dz (CXW P w) P w K mg base N qual (aC st) f cdv A outer s H E) E O (b0 st) G)
  (c:∀ds,ds.length=ps.length->gf ds≠.no->bf (G (ds.map some++List.replicate (N.length-ps.length) none))=gf ds):iR P w K mg base (k+1) C m ps.length gf :=
 ⟨f,fd,ps,cl,hm,RS.Bd F S a body c,b⟩
def pH(xs ys:List PyData):List PyData:=List.zipWith (λa b=>PyData.tuple [a,b]) xs ys
section
variable {E:XK}{a b:Expr}
end
end L2
namespace RS
open PySem L2
abbrev JN:List Str:=["number", "parts", "rank", "row"]
abbrev JT:List (Str×Int):=[("job",0),("part",0),("spent",0)]
def dQ(cs:Cs):Ds->Sr :=
 (bp (g2 dEq (g1 (bx cs.Jobs "job") (af 0)) (gF cM (ae (g1 (bx cs.Jobs "row") (af 0)) ah))))
def eU(cs:Cs):Ds->Sr :=
 (bp (gIf (gT (g2 dEq (g1 (bx cs.Jobs "spent") (af 0)) (gC (.int 0)))) (g2 dIx (g2 dIx (g1 (bx cs.Jobs "parts") (af 0)) (g1 (bx cs.Jobs "part") (af 0))) (gC (.int 1))) (gC .none)))
def fV(cs:Cs):Ds->Sr :=
 (bp (gIf (gT (g2 dGt (g1 (bx cs.Jobs "spent") (af 0)) (gC (.int 0)))) (g2 dIx (g2 dIx (g1 (bx cs.Jobs "parts") (af 0)) (g1 (bx cs.Jobs "part") (af 0))) (gC (.int 1))) (gC .none)))
def kg(cs:Cs)(aT:Gf):Ds->Sr :=
 (aJ (sIf (gT (g1 lj (af 1))) (bp (gC .none)) bj)
  (aJ (fP [] (bY (af 0)) (bO 2) (sIf (gT (g2 dEq (br cs.Jobs "held" aT (af 2) ah) (af 1))) (bp (af 2)) bj))
  (bp (gC .none))))
def gP(cs:Cs)(aL bJ:Gf):Ds->Sr :=
 (aJ (xN 1)
  (aJ (fP [1] (bY (af 0)) (bO 2) (aJ (aU [1] 3 (ao bJ (ae (af 0) (ae (br cs.Jobs "wanted" aL (af 2) ah) ah))))
  (sIf (gT (g1 jw (af 3))) (qe 1 (g1 (bx cs.Jobs "number") (af 3)) (gF kN (ae (g1 (bx cs.Jobs "rank") (af 2)) (ae (lH (af 1) (g1 (bx cs.Jobs "number") (af 3)) (g1 (bx cs.Jobs "rank") (af 3))) ah)))) bj)))
  (bp (af 1))))
def bX(cs:Cs)(aT:Gf):Ds->Sr :=
 (aJ (aU [] 2 (br cs.Jobs "held" aT (af 0) ah))
  (aJ (sIf (gT (g1 lj (af 2))) (bp (gu (ae (g1 (bx cs.Jobs "rank") (af 0)) (ae (gC (.int 1)) ah)))) bj)
  (bp (gu (ae (gF kN (ae (g1 (bx cs.Jobs "rank") (af 0)) (ae (g2 dIx (af 1) (af 2)) ah))) (ae (gC (.int 0)) ah))))))
def dO(cs:Cs):Ds->Sr :=
 (bp (Dc (g2 dLt (g1 (bx cs.Jobs "job") (af 0)) (gF cM (ae (g1 (bx cs.Jobs "row") (af 0)) ah))) (g2 dLe (g2 dIx (g1 (bx cs.Jobs "row") (af 0)) (g1 (bx cs.Jobs "job") (af 0))) (af 1))))
def jn(cs:Cs)(aP aV cR aO:Gf)(a:List (Str×PyData)->Option (List (Str×PyData)))(as:List Addr):Ds->Sr :=
 (aJ (ip [6] 6 ah)
  (aJ (λδ=>bQ (gm (gT (gF oN (ae (gL (ba 9 (bY (af 5)) bo (br cs.Jobs "are_done" aV (af 9) ah) aS)) ah)))) (aJ (rH [6] 7 9 (bY (af 5)) (gT (br cs.Jobs "is_there" aO (af 9) (ae (gF cM (ae (af 6) ah)) ah))) (af 9) aS)
  (sIf (gT (g2 dEq (gF cM (ae (af 7) ah)) (gC (.int 0)))) (iI [6] 6 (gC .none)) (aJ (aU [6] 8 (ao cR (ae (af 7) (ae (af 4) (ae (af 3) ah)))))
  (aJ (iI [6] 6 (gu (ae (g1 (bx cs.Jobs "number") (af 8)) (ae (g1 (bx cs.Jobs "job") (af 8)) ah))))
  (k9 as cs.Jobs "go_on" 8 a))))) 1000000 δ)
  (bp (af 6))))
def gK(cs:Cs)(as:List Addr):Ds->Sr :=
 (aJ (eW as cs.Jobs 0 "spent" (gC (.int 1)))
  (aJ (sIf (gT (g2 dEq (g1 (bx cs.Jobs "spent") (af 0)) (g2 dIx (g2 dIx (g1 (bx cs.Jobs "parts") (af 0)) (g1 (bx cs.Jobs "part") (af 0))) (gC (.int 0))))) (aJ (lX as cs.Jobs 0 "spent" (gC (.int 0)))
  (eW as cs.Jobs 0 "part" (gC (.int 1)))) bj)
  (sIf (gT (g2 dEq (g1 (bx cs.Jobs "part") (af 0)) (gF cM (ae (g1 (bx cs.Jobs "parts") (af 0)) ah)))) (aJ (lX as cs.Jobs 0 "part" (gC (.int 0)))
  (eW as cs.Jobs 0 "job" (gC (.int 1)))) bj)))
def kh(cs:Cs)(cB aL bJ bS:Gf):Ds->Sr :=
 (aJ (sIf (gT (g2 dEq (af 2) (gC (.str "high")))) (bp (jq [1] (af 0) (ao bS (ae (af 0) (ae (af 1) ah))))) bj)
  (aJ (aU [] 3 (gL (ba 5 (bY (af 0)) (gT (g1 lj (ao bJ (ae (af 0) (ae (br cs.Jobs "wanted" aL (af 5) ah) ah))))) (af 5) aS)))
  (aJ (aU [] 4 (gIf (gT (g2 dEq (af 2) (gC (.str "asked")))) (ao cB (ae (af 0) ah)) (gC (cV []))))
  (bp (jq [4] (af 3) (lH (af 1) (g1 (bx cs.Jobs "number") (af 0)) (g1 (bx cs.Jobs "rank") (af 0))))))))
end RS
namespace L2
open PySem PySem.Spec PyProof.Rows
section
variable {E:XK}{k:Expr}{gk:Ds->Rs PyData}{apos:Pos}
end
section
variable {E:XK}{e:Expr}
end
abbrev PTl:=List ((Int×Int)×Int)
def dtD(l:PTl):PyData:=.dict (dtK l)
def kT(p:Int×Int):List Key:=[.inl p.1,.inl p.2]
theorem Ep{p r:Int×Int}(h:kT p=kT r):p=r:=by unfold kT at h;simp only[List.cons.injEq,Sum.inl.injEq,and_true]at h;exact Prod.ext h.1 h.2
def dg(l:PTl)(k:Int×Int):Option Int:=(l.find? λp=>decide (p.1=k)).map (·.2)
def qD(l:PTl)(k:Int×Int)(v:Int):PTl:=if (l.any λp=>decide (p.1=k))=true then l.map (λp=>if p.1=k then (p.1,v) else p) else l++[(k,v)]
theorem CG(l:PTl)(k:Int×Int):kH (l.map λp=>(([.inl p.1.1,.inl p.1.2],V.int p.2):List Key×V)) (kT k)=(dg l k).map V.int:=by
 unfold kH dg
 induction l with
 |nil=>rfl
 |cons p r ih =>
  rw[N1,O0,O0];by_cases z:p.1=k
  ·have h1:decide (([.inl p.1.1,.inl p.1.2]:List Key)=kT k)=true:=decide_eq_true (by rw[<-z];rfl);simp only[h1,decide_eq_true z];rfl
  ·have h1:decide (([.inl p.1.1,.inl p.1.2]:List Key)=kT k)=false:=decide_eq_false λq=>z (Ep (p:=p.1) q)
   simp only[h1,decide_eq_false z];exact ih
theorem DV(l:PTl)(k:Int×Int)(v:Int):putK (l.map λp=>(([.inl p.1.1,.inl p.1.2],V.int p.2):List Key×V)) (kT k) (.int v)=(qD l k v).map λp=>([.inl p.1.1,.inl p.1.2],V.int p.2):=by
 have a:∀p:(Int×Int)×Int,(([.inl p.1.1,.inl p.1.2]:List Key)=kT k)↔p.1=k:=λp=>⟨λq=>Ep (p:=p.1) q,λq=>by rw[<-q];rfl⟩
 have ha:((l.map λp=>(([.inl p.1.1,.inl p.1.2],V.int p.2):List Key×V)).any λb=>decide (b.1=kT k))=l.any λp=>decide (p.1=k):=by rw[List.any_map];congr 1;funext p;show decide (([.inl p.1.1,.inl p.1.2]:List Key)=kT k)=_;exact decide_eq_decide.mpr (a p)
 unfold putK qD;rw[ha];split
 ·rw[NG,NG];refine NI λp _=>?_
  show (if ([.inl p.1.1,.inl p.1.2]:List Key)=kT k then _ else _)=_;by_cases z:p.1=k
  ·rw[if_pos ((a p).mpr z)];simp[z]
  ·rw[if_neg λq=>z ((a p).mp q)];simp[z]
 ·rw[O5];rfl
theorem xA:∀{l m:PTl},l.map (λp=>((.tuple [.int p.1.1,.int p.1.2],.int p.2):PyData×PyData))=m.map (λp=>(.tuple [.int p.1.1,.int p.1.2],.int p.2))->l=m
 |[],[],_=>rfl
 |[],_::_,h=>by simp at h
 |_::_,[],h=>by simp at h
 |((a,b),c)::l,((a',b'),c')::m,h=>by simp only[N1,List.cons.injEq,Prod.mk.injEq,PyData.int.injEq,PyData.tuple.injEq,and_true]at h;obtain⟨⟨⟨rfl,rfl⟩,rfl⟩,h⟩:=h;rw[xA h]
theorem Fj{l:PTl}(h:HE (dtK l) o):o=dtO l:=by
 rcases h with⟨m,e,_⟩|⟨m,e,rfl⟩
 ·cases m <;> cases e
 ·rw[xA (List.cons.inj e).2]
theorem Is.ofDt{l:PTl}(h:Is K H (dtD l) v):∃a,v=.ref a/\H a=some (dtO l):=by
 unfold dtD Is at h;rcases h with (⟨a,ns,_,e,_⟩|⟨a,o,e1,e,h2⟩)|⟨a,C,dx,fs,_,_,_,h|h⟩
 ·cases e
 ·rw[Fj e]at h2;exact⟨a,e1,h2⟩
 ·unfold Isk at h;obtain⟨f,_,_,_,q,_⟩:=h;cases q
 ·unfold Isk at h;obtain⟨f,_,_,_,q,_⟩:=h;cases q
def kU:List (PyData×PyData)->Option PTl
 |[]=>some []
 |(.tuple [.int a,.int b],.int c)::r=>(kU r).map λl=>((a,b),c)::l
 |_=>none
theorem sF:∀{r:List (PyData×PyData)}{l:PTl},kU r=some l->r=l.map λp=>(.tuple [.int p.1.1,.int p.1.2],.int p.2)
 |[],l,e=>by cases e;rfl
 |x::r,l,e=>by
  unfold kU at e;split at e
  ·rename_i z;cases z
  ·rename_i z;injection z with z1 z2
   subst z1 z2;cases q:kU r with
   |none=>rw[q]at e;cases e
   |some m=>rw[q]at e;cases e;rw[sF q];rfl
  ·cases e
theorem p7:∀l:PTl,kU (l.map λp=>(.tuple [.int p.1.1,.int p.1.2],.int p.2))=some l
 |[]=>rfl
 |p::r=>by rw[N1];unfold kU;rw[p7 r];rfl
def ym:PyData->Option PTl
 |.dict ((.bool true,.none)::kvs)=>kU kvs
 |_=>none
theorem Bh{d:PyData}{l:PTl}(h:ym d=some l):d=dtD l:=by
 unfold ym at h;split at h
 ·unfold dtD dtK;rw[sF h]
 ·cases h
theorem AF(l:PTl):ym (dtD l)=some l:=p7 l
def iC:PyData->Option (Int×Int)
 |.tuple [.int a,.int b]=>some (a,b)
 |_=>none
theorem xV{d:PyData}{k:Int×Int}(h:iC d=some k):d=.tuple [.int k.1,.int k.2]:=by
 unfold iC at h;split at h
 ·cases h;rfl
 ·cases h
theorem Is.ofPair{k:Int×Int}(h:Is K H (.tuple [.int k.1,.int k.2]) v):∃b,v=.ref b/\H b=some (.tup ((kT k).map kV)):=by obtain⟨b,xs,rfl,a,h⟩:=h.ofTup;unfold Iss at h;obtain⟨v1,r,rfl,h1,h⟩:=h;unfold Iss at h;obtain⟨v2,r,rfl,h2,h⟩:=h;unfold Iss at h;subst h;rw[h1.ofInt,h2.ofInt]at a;exact⟨b,rfl,a⟩
section
variable {E:XK}{o e f k value:Expr}{go ge gf gk gv:Ds->Rs PyData}{apos:Pos}
def Dr(go gk:Ds->Rs PyData):Ds->Rs PyData:=λδ=>(go δ).bind λd=>(gk δ).bind λk=>match ym d,iC k with
 |some l,some k=>(match dg l k with
  |some v=>.ok (.int v)
  |none=>.no)
 |_,_=>.no
theorem Jd(m:X.A.units+1<cLine)(n:PD X E o go)(h:PD X E k gk)(p:JA k):PD X E (.Subscript o k pos) (Dr go gk) :=
 (Hj m n h p).imp λσ H Q i=>by
  obtain⟨A,δ,R,c⟩:=i;unfold Dr at c;refine eD.run R (λd q v H1 j r h1=>?_) (λC e H' s'=>?_) (λe=>?_)
  ·simp only[q,Rs.ag]at c;refine eD.run r (λkd s u H2 s2 R2 f=>?_) (λC e H' s'=>?_) (λe=>?_)
   ·simp only[s,Rs.ag]at c;split at c
    ·rename_i l k hl h;rw[Bh hl]at h1;rw[xV h]at f;obtain⟨a,rfl,ha⟩:=h1.ofDt;obtain⟨b,rfl,x⟩:=f.ofPair;split at c
     ·rename_i w hw;have g:=pZ.t (k:=kT k) (s2 _ _ (ay _ _ ha)) (ay _ _ x);rw[CG,hw]at g;exact⟨a,_,rfl,g,c _ H2 (j.trans s2) bF⟩
     ·exact c.elim
    ·exact c.elim
   ·simp only[e,Rs.dZ]at c;exact c H' (j.trans s')
   ·simp only[e,Rs.bw]at c;exact c
  ·simp only[e,Rs.dZ]at c;exact c H' s'
  ·simp only[e,Rs.bw]at c;exact c
def Ax(i:Nat):Ds->Sr:=λδ=>if i<δ.length then .nx (δ.set i (some (dtD []))) else .no
theorem E4(c:X.N.Nodup)(e:i∈O)(hi:X.N[i]?=some x)(f:Loc X.env.scope x)(g:swapsWith (.Dict [] [] pos') (some (.Name x apos)) pos.line X.env=pure false)
  (h:X.fn x=true\/X.env.scope.names.lookup x=some .local):PSD X E O (.Assign [.Name x apos] (.Dict [] [] pos') pos) (Ax i):=(rn c hi f Ft g h).imp λD σ H a=>by
 obtain⟨H0,A0,A,δ,R,o⟩:=a;unfold Ax at o;split at o
 ·rename_i hl;intro p b;exact o (p::A) _ _ (R.setOwnO (o:=dtO []) e hl b (bE b) aE rfl (.inr ⟨[],rfl,rfl⟩))
 ·exact o.elim
def nO(i:Nat)(gk gv:Ds->Rs PyData):Ds->Sr:=λδ=>match δ[i]? with
 |some (some d)=>(match ym d with
  |some l=>ofR (gv δ) λv=>ofR (gk δ) λk=>(match iC k,v with
   |some k,.int v=>if l.length<1000000 then .nx (δ.set i (some (dtD (qD l k v)))) else .no
   |_,_=>.no)
  |none=>.no)
 |_=>.no
theorem BQ(B:X.A.units+1<cLine)(h:PD X E value gv)(F:PD X E k gk)(w:i∈O)(hi:X.N[i]?=some x)(G:Vis X.env.scope x)
  (hd:(x==("__debug__":Str))=false) (g:(x==("__classdict__":Str))=false) (I:swapsWith value (some (.Subscript (.Name x pn) k pos')) pos.line X.env=pure false):PSD X E O (.Assign [.Subscript (.Name x pn) k pos'] value pos) (nO i gk gv) :=
 (AL B (j9 hi G hd g) F h I).imp λD σ H j=>by
  obtain⟨H0,A0,A,δ,R,a⟩:=j;unfold nO at a;split at a
  ·rename_i d q;split at a
   ·rename_i l hl;rw[Bh hl]at q;obtain⟨p,o',d',e1,J,m,e2,K⟩:=R.own i _ w q;subst e2;have n:o'=dtO l:=Fj K;subst n;refine eD.run R.full (λvd L v H1 y M r=>?_) (λC c H' s'=>?_) (λc=>?_)
    ·simp only[L,ax]at a;refine⟨_,e1,?_⟩;refine eD.run M (λkd P u H2 s2 R2 e=>?_) (λC c H' s'=>?_) (λc=>?_)
     ·simp only[P,ax]at a;split at a
      ·rename_i z Q s;split at a
       ·rename_i hlen;rw[xV s]at e;obtain⟨b,rfl,S⟩:=e.ofPair;have T:=r.ofInt;subst T;have f:=y.trans s2;refine⟨p,_,rfl,wZ.t (k:=kT z) (f _ _ m) (ay _ _ S) (by rw[N4,sizeLine_eq];omega),?_⟩;rw[DV];exact a A _ _ ((R.step f).putO (o:=dtO (qD l z Q)) w q e1 J rfl (.inr ⟨_,rfl,rfl⟩))
       ·exact a.elim
      ·exact a.elim
     ·simp only[c,jQ]at a;exact a H' (R.same.trans (y.trans s'))
     ·simp only[c,kj]at a;exact a
    ·simp only[c,jQ]at a;exact a H' (R.same.trans s')
    ·simp only[c,kj]at a;exact a
   ·exact a.elim
  ·exact a.elim
end
end L2
namespace RS
open PySem L2
def ft(cs:Cs):Ds->Sr :=
 (bp (gL (ba 3 (fJ (ae (af 1) ah)) bo (g2 iH (Dr (af 2) (gu (ae (af 0) (ae (af 3) ah)))) (af 4)) eO)))
def ff(cs:Cs)(c8:Gf):Ds->Sr :=
 (aJ (Ax 2)
  (aJ (fP [2] (fJ (ae (af 1) ah)) (fH [3,4]) (sIf (gT (g1 jw (af 4))) (nO 2 (af 4) (g2 bP (af 3) (gC (.int 1)))) bj))
  (bp (gL (ba 5 (fJ (ae (af 0) ah)) bo (ao c8 (ae (af 5) (ae (af 6) (ae (af 2) ah)))) eO)))))
end RS
set_option maxHeartbeats 1000000
namespace RS
open PySem L2
variable {p:Int×Option Int}
def cA:Gf
 |[d,.int t]=>if yt d then .ok (.bool ((deE d).has t)) else .no
 |_=>.no
theorem jZ{t:Int}(h:e.Sh):cA [e.d,.int t]=.ok (.bool (e.has t)):=by unfold cA;simp[u3 h,Au]
theorem xT(t:Int):∀ps:List (Int×Option Int),inD (.int t) ((ps.map aQ).map λd=>bW (cp d).2)=ps.any λp=>p.2==some t
 |[]=>rfl
 |p::r=>by
  have h1:eqV (toV (bW p.2)) (.int t)=(p.2==some t):=by
   rcases hp:p.2 with _|z
   ·rfl
   ·show (z==t)=(some z==some t)
    simp
  have:=xT t r;unfold inD inV at this ⊢;rw[N1,N1,N1,OP,OP,this,jL];show (eqV (toV (bW p.2)) (.int t)||_)=_;rw[h1]
theorem Cm(ps:List (Int×Option Int)):((ps.map aQ).map λd=>bW (cp d).2).all gz=true:=by rw[NM];intro d hd;obtain⟨n,_,rfl⟩:=N9.mp hd;cases (cp n).2 <;> rfl
theorem KJ{f:PyData->Int->Rs PyData}(h:(match ds with|[a,.int x1]=>f a x1|_=>.no)≠.no):∃a x1,ds=[a,.int x1]/\f a x1≠.no:=by
 rcases ds with _|⟨a,_|⟨x1,_|⟨y,ys⟩⟩⟩
 ·exact absurd rfl h
 ·exact absurd rfl h
 ·skip
  cases x1 with
  |int x1 =>exact⟨_,_,rfl,h⟩
  |_=>exact absurd rfl h
 ·first|exact absurd rfl h|(cases x1 <;> exact absurd rfl h)
theorem zW(cs:Cs):LLq (jh cs) 2 0 cA:=by
 intro ds hl a;obtain⟨d,t,f,c⟩:=KJ a;clear a;subst f;have a:=c;clear c
 ·skip
  split at a
  ·rename_i hd;obtain⟨e1,sh⟩:=Bf hd;rw[<-e1];generalize deE d=e at sh;rw[jZ sh];have hc:ba 2 (bY (g2 dIx (af 0) (gC (.int 3)))) bo (g2 dIx (af 2) (gC (.int 1))) aS [some e.d,some (.int t)]=.ok ((e.parts.map aQ).map λd=>bW (cp d).2) :=
    cH rfl (by simp[HY]) (by have:=sh.pn;simp;omega) λd b=>by obtain⟨p,hp,rfl⟩:=N9.mp b;simp[Fs,jL]
   have hi:EK false (.int t) (.list ((e.parts.map aQ).map λd=>bW (cp d).2))=some (.bool (e.has t)):=by show (if (gz (.int t)&&_)=true then some (PyData.bool (if false=true then _ else inD _ _)) else none)=_;rw[Cm,xT];rfl
   show bf (jh cs [some e.d,some (.int t)])=_;simp only[jh,bU,cO,au,aw,kX,hc,Rs.ag,hi,Rs.aj,ax,a9]
  ·exact absurd rfl a
def dR:Gf
 |[d,r,.int t]=>if qS d&&d7 (de d).length r then .ok (bW (bu (de d) (cn r) t)) else .no
 |_=>.no
theorem mB{t:Int}(h1:es.length<=100)(h:∀e∈es,e.Sh)(a:cC es.length rs):dR [ar es,ai rs,.int t]=.ok (bW (bu es rs t)):=by unfold dR;simp[qO h1 h,fh,hZ a,eQ]
theorem oA(es:List Er)(a:∀e∈es,e.Sh)(R:PyData)(t:Int):∀(rs:List Int)(k:Nat)(x3 x4:Option PyData),(∀m∈rs,0<=m/\m<es.length) ->
   (∃i,hts es rs k t=some i/\forL (fH [3,4]) (sIf (gT (ao cA (ae (g2 dIx (af 0) (af 4)) (ae (af 2) ah)))) (bp (af 3)) bj) ((rs.map PyData.int).mapIdx λi d=>.tuple [.int ((k+i:Nat):Int),d]) [some (ar es),some R,some (.int t),x3,x4]=.rt (.int i))
  \/(hts es rs k t=none/\∃δ,forL (fH [3,4]) (sIf (gT (ao cA (ae (g2 dIx (af 0) (af 4)) (ae (af 2) ah)))) (bp (af 3)) bj) ((rs.map PyData.int).mapIdx λi d=>.tuple [.int ((k+i:Nat):Int),d]) [some (ar es),some R,some (.int t),x3,x4]=.nx δ)
 |[],k,x3,x4,_=>.inr ⟨rfl,_,rfl⟩
 |m::r,k,x3,x4,hm=>by
   have b:=hm m N3;have a2:atI (es.map Er.d) m=some (aY es m).d:=kx b.1 b.2;have f:=jZ (t:=t) (a _ (cY b.1 b.2));rw[N1,Pu];unfold forL;have e1:fH [3,4] (PyData.tuple [.int ((k+0:Nat):Int),.int m]) [some (ar es),some R,some (.int t),x3,x4]=some [some (ar es),some R,some (.int t),some (.int (k:Int)),some (.int m)]:=rfl;rw[e1];simp only[dP,fB,bI,aA,aM,cO,au,aw,Rs.ag,ar,xl,a2,Rs.aj,f,bH,ax,bU,iF];unfold hts;cases hh:(aY es m).has t with
   |true=>exact .inl ⟨k,rfl,rfl⟩
   |false =>
    simp only[NS,if_false];have c:=oA es a R t r (k+1) (some (.int (k:Int))) (some (.int m)) (λx g=>hm x (N0 _ g));rw[show ((k+1:Nat):Int)=(k:Int)+1 by omega]at c;have h:(λ(i:Nat)(d:PyData)=>PyData.tuple [.int ((k+(i+1):Nat):Int),d])=λi d=>.tuple [.int ((k+1+i:Nat):Int),d]:=by funext i d;rw[show k+(i+1)=k+1+i by omega]
    rw[h];exact c
theorem kB{f:PyData->PyData->Int->Rs PyData}(h:(match ds with|[a,x1,.int x2]=>f a x1 x2|_=>.no)≠.no):∃a x1 x2,ds=[a,x1,.int x2]/\f a x1 x2≠.no:=by
 rcases ds with _|⟨a,_|⟨x1,_|⟨x2,_|⟨y,ys⟩⟩⟩⟩
 ·exact absurd rfl h
 ·exact absurd rfl h
 ·exact absurd rfl h
 ·skip
  cases x2 with
  |int x2 =>exact⟨_,_,_,rfl,h⟩
  |_=>exact absurd rfl h
 ·first|exact absurd rfl h|(cases x2 <;> exact absurd rfl h)
theorem FN(cs:Cs):LLq (l8 cs cA) 3 2 dR:=by
 intro ds hl a;obtain⟨d,r,t,h,f⟩:=kB a;clear a;subst h;have a:=f;clear f
 ·skip
  split at a
  ·rename_i hc;simp only[N7]at hc;obtain⟨j,l⟩:=hc;obtain⟨e1,hlen,c⟩:=yQ j;obtain⟨e2,g⟩:=mn l;rw[<-e1,<-e2];generalize de d=es at *;generalize cn r=rs at *;rw[mB hlen c g];have loop:=oA es c (ai rs) t rs 0 none none g.rng;show bf (l8 cs cA [some (ar es),some (ai rs),some (.int t),none,none])=_;have src:fJ (ae (af 1) ah) [some (ar es),some (ai rs),some (.int t),none,none]=.ok ((rs.map PyData.int).mapIdx λi d=>.tuple [.int ((0+i:Nat):Int),d]):=by simp only[Ac,aA,aM,au,aw,Rs.ag,ai,Bi,fW,Oh]
   simp only[l8];rw[aX,lq,ej,src,ax];unfold bu;rcases loop with⟨i,b,e⟩|⟨b,δ,e⟩
   ·rw[e];have b:hts es rs 0 t=some i:=b;rw[b];rfl
   ·rw[e];have b:hts es rs 0 t=none:=b;rw[b];rfl
  ·exact absurd rfl a
def aF(es:List Er)(rs:List Int):PyData:=.list ((List.range 4).map λ(t:Nat)=>bW (bu es rs t))
def aP:Gf
 |[d,r]=>if qS d&&d7 (de d).length r then .ok (aF (de d) (cn r)) else .no
 |_=>.no
theorem fM(h1:es.length<=100)(h:∀e∈es,e.Sh)(a:cC es.length rs):aP [ar es,ai rs]=.ok (aF es rs):=by unfold aP;simp[qO h1 h,fh,hZ a,eQ]
theorem Kq{f:PyData->PyData->Rs PyData}(h:(match ds with|[a,x1]=>f a x1|_=>.no)≠.no):∃a x1,ds=[a,x1]/\f a x1≠.no:=by
 rcases ds with _|⟨a,_|⟨x1,_|⟨y,ys⟩⟩⟩
 ·exact absurd rfl h
 ·exact absurd rfl h
 ·skip
  exact⟨_,_,rfl,h⟩
 ·exact absurd rfl h
theorem vp(cs:Cs):LLq (gM cs dR) 2 0 aP:=by
 intro ds hl a;obtain⟨d,r,g,e⟩:=Kq a;clear a;subst g;have a:=e;clear e
 ·skip
  split at a
  ·rename_i hc;simp only[N7]at hc;obtain⟨h,j⟩:=hc;obtain⟨e1,hlen,b⟩:=yQ h;obtain⟨e2,f⟩:=mn j;rw[<-e1,<-e2];generalize de d=es at *;generalize cn r=rs at *;rw[fM hlen b f];have l:∀t:Int,dR [ar es,ai rs,.int t]=.ok (bW (bu es rs t)):=λt=>mB hlen b f
   have c:ba 2 (fG (ae (gC (.int 4)) ah)) bo (ao dR (ae (af 0) (ae (af 1) (ae (af 2) ah)))) aS [some (ar es),some (ai rs)]=.ok ((bK 0 (4:Int).toNat).map λx=>bW (bu es rs (deI x))) :=
    cH rfl (by simp only[pf,aA,aM,dY,Rs.ag];exact ky (by decide) (by decide)) (by rw[dG];decide) λx m=>by obtain⟨i,hi⟩:=List.getElem?_of_mem m;obtain⟨_,rfl⟩:=hU hi;simp only[Oe,O9,bI,aA,aM,au,aw,Rs.ag,l];rfl
   have hd:aF es rs=.list ((bK 0 (4:Int).toNat).map λx=>bW (bu es rs (deI x))):=by
    unfold aF bK;rw[NG];congr 1
    try exact NI λk _=>by simp[deI]
   rw[hd];show bf (gM cs dR [some (ar es),some (ai rs)])=_;simp only[gM,bU,kX,c,Rs.ag,ax,a9]
  ·exact absurd rfl a
def dX(ns:List Int)(a:Int)(many:Nat):Nat->List Int×List Int
 |0=>((List.range many).map λ(i:Nat)=>(i:Int),[])
 |i+1=>((dX ns a many i).1.eraseIdx (mixed ns (a+(i:Int)) ((dX ns a many i).1.length:Int)).toNat,(dX ns a many i).2++[(dX ns a many i).1.getD (mixed ns (a+(i:Int)) ((dX ns a many i).1.length:Int)).toNat 0])
def ph(ns:List Int)(a:Int)(many:Nat):List Int:=(dX ns a many many).2
theorem pw{α:Type}:∀(l:List α)(j:Nat)(h:j<l.length),(l[j]::l.eraseIdx j).Perm l
 |[],j,h=>by simp at h
 |x::r,0,h=>by simp
 |x::r,j+1,h=>by
  simp only[List.getElem_cons_succ,List.eraseIdx_cons_succ];have h':j<r.length:=by simpa using h
  exact (List.Perm.swap _ _ _).trans ((pw r j h').cons x)
theorem sZ{α β:Type}(f:α->β):∀(l:List α)(j:Nat),(l.map f).eraseIdx j=(l.eraseIdx j).map f
 |[],j=>by simp
 |x::r,0=>by simp
 |x::r,j+1=>by simp[sZ f r j]
theorem qt(ns:List Int)(a:Int)(many:Nat):∀i,i<=many->(dX ns a many i).1.length=many-i/\(dX ns a many i).2.length=i/\((dX ns a many i).1++(dX ns a many i).2).Perm ((List.range many).map λ(i:Nat)=>(i:Int))
 |0,_=>⟨by simp[dX],rfl,by simp[dX]⟩
 |i+1,h=>by
  obtain⟨h1,h2,e⟩:=qt ns a many i (by omega);simp only[dX];generalize (dX ns a many i).1=L at *;generalize (dX ns a many i).2=M at *;have c:0<(L.length:Int):=by omega
  have m0:=cq ns (a+(i:Int)) c;have m1:=cN ns (a+(i:Int)) c;generalize mixed ns (a+(i:Int)) (L.length:Int)=z at *;have b:z.toNat<L.length:=by omega
  refine⟨by rw[List.length_eraseIdx_of_lt b];omega,by simp[h2],?_⟩;refine List.Perm.trans ?_ e;rw[NH,My b,Option.getD_some];have p1:(L[z.toNat]::L.eraseIdx z.toNat).Perm L:=pw L z.toNat b;have p2:(L.eraseIdx z.toNat++(M++[L[z.toNat]])).Perm ((L[z.toNat]::L.eraseIdx z.toNat)++M):=by rw[<-Of];exact (List.perm_append_singleton _ _)
  exact p2.trans (p1.append_right M)
theorem yI(ns:List Int)(a:Int)(many:Nat):cC many (ph ns a many):=by
 obtain⟨h1,h2,b⟩:=qt ns a many many (N6 _);unfold ph;have e:(dX ns a many many).1=[]:=Ol.mp (by omega);rw[e,O9]at b;refine⟨h2,λr c=>?_,b.nodup_iff.mpr ?_⟩
 ·obtain⟨k,g,rfl⟩:=N9.mp (b.mem_iff.mp c);have:=OK.mp g;omega
 ·exact (List.nodup_range).map (f:=λ(i:Nat)=>(i:Int)) λx y h=>by intro q;have q:(x:Int)=(y:Int):=q;exact h (by omega)
def cf:Gf
 |[s,.int a,.int many]=>(match fw s with
  |some ns=>if 0<=a/\0<=many/\many<=100 then .ok (ai (ph ns a many.toNat)) else .no
  |none=>.no)
 |_=>.no
theorem jz{a:Int}(h1:0<=a)(h2:0<=many)(b:many<=100):cf [aq ns,.int a,.int many]=.ok (ai (ph ns a many.toNat)):=by unfold cf;simp[fN,h1,h2,b]
theorem CM(ns:List Int)(a:Int)(n i:Nat)(L M:List Int)(ha:0<=a)(c:0<(L.length:Int))(hL2:L.length<=100)(hM:M.length<=100) :
   ji 4 3 (ao ak (ae (af 0) (ae (g2 bP (af 1) (af 5)) (ae (gF cM (ae (af 3) ah)) ah)))) [some (aq ns),some (.int a),some (.int (n:Int)),some (.list (L.map .int)),some (.list (M.map .int)),some (.int (0+(i:Int)))]
  =.nx [some (aq ns),some (.int a),some (.int (n:Int)),some (.list ((L.eraseIdx (mixed ns (a+(i:Int)) (L.length:Int)).toNat).map .int)),some (.list ((M++[L.getD (mixed ns (a+(i:Int)) (L.length:Int)).toNat 0]).map .int)),some (.int (0+(i:Int)))]:=by
 have b:=ck (ns:=ns) (k:=a+(0+(i:Int))) (many:=(L.length:Int)) (by omega) c;have h:=cq ns (a+(i:Int)) c;have m1:=cN ns (a+(i:Int)) c;rw[show a+(0+(i:Int))=a+(i:Int) by omega]at b;generalize mixed ns (a+(i:Int)) (L.length:Int)=z at *;have g:z.toNat<L.length:=by omega
 have j:ao ak (ae (af 0) (ae (g2 bP (af 1) (af 5)) (ae (gF cM (ae (af 3) ah)) ah))) [some (aq ns),some (.int a),some (.int (n:Int)),some (.list (L.map .int)),some (.list (M.map .int)),some (.int (0+(i:Int)))]=.ok (.int z):=by simp only[bI,aA,aM,cO,ig,au,aw,Rs.ag,gE,Rs.aj,pF,N4];rw[show a+(0+(i:Int))=a+(i:Int) by omega];exact b
 have e:ixN (L.map PyData.int).length z=some z.toNat:=by unfold ixN;rw[if_pos h,if_pos (by rw[N4];omega)]
 have f:(L.map PyData.int)[z.toNat]?=some (.int (L.getD z.toNat 0)):=by rw[NK,My g,NH,My g];rfl
 unfold ji;simp only[OE,OF,j,ax];rw[if_pos (by refine⟨by omega,by omega,?_⟩;rw[N4];omega)];simp only[e,f,Pk,Pl,O5,N1,Oq];rw[sZ]
theorem Cu(ns:List Int)(a:Int)(n i:Nat)(ha:0<=a)(hi:i<n)(hn:n<=100) :
   ji 4 3 (ao ak (ae (af 0) (ae (g2 bP (af 1) (af 5)) (ae (gF cM (ae (af 3) ah)) ah)))) [some (aq ns),some (.int a),some (.int (n:Int)),some (.list ((dX ns a n i).1.map .int)),some (.list ((dX ns a n i).2.map .int)),some (.int (0+(i:Int)))]
  =.nx [some (aq ns),some (.int a),some (.int (n:Int)),some (.list ((dX ns a n (i+1)).1.map .int)),some (.list ((dX ns a n (i+1)).2.map .int)),some (.int (0+(i:Int)))]:=by
 obtain⟨h1,h2,h3⟩:=qt ns a n i (by omega);simp only[dX];exact CM ns a n i _ _ ha (by omega) (by omega) (by omega)
theorem rk1(ns:List Int)(a:Int)(n:Nat)(hm2:(n:Int)<=100):ip [3,4] 3 (gLR (ae (af 2) ah)) [some (aq ns),some (.int a),some (.int (n:Int)),none,none,none]=.nx [some (aq ns),some (.int a),some (.int (n:Int)),some (.list ((dX ns a n 0).1.map .int)),none,none]:=by
 have b:gLR (ae (af 2) ah) (mask [3,4] [some (aq ns),some (.int a),some (.int (n:Int)),none,none,none])=.ok (bK 0 n):=by simp only[LR,aA,aM,aB (show 2∉[3,4] by decide),au,aw,Rs.ag];unfold vg;simp only;rw[if_pos (by omega),O6]
 have c:(dX ns a n 0).1.map PyData.int=bK 0 n:=by
  simp only[dX,bK,NG];refine NI λk _=>?_
  simp
 rw[c];unfold ip;rw[b,if_pos (by simp)];simp only[ax,Pk,Pl]
theorem rk2(ns:List Int)(a:Int)(n:Nat):ip [3,4] 4 ah [some (aq ns),some (.int a),some (.int (n:Int)),some (.list ((dX ns a n 0).1.map .int)),none,none]=.nx [some (aq ns),some (.int a),some (.int (n:Int)),some (.list ((dX ns a n 0).1.map .int)),some (.list ((dX ns a n 0).2.map .int)),none]:=by unfold ip;rw[if_pos (by simp)];simp only[aM,ax,Pk,Pl];rfl
theorem rk3(ns:List Int)(a:Int)(n:Nat)(hm2:(n:Int)<=100):fG (ae (af 2) ah) (mask [3,4] [some (aq ns),some (.int a),some (.int (n:Int)),some (.list ((dX ns a n 0).1.map .int)),some (.list ((dX ns a n 0).2.map .int)),none])=.ok (bK 0 n):=by have c:ae (af 2) ah (mask [3,4] [some (aq ns),some (.int a),some (.int (n:Int)),some (.list ((dX ns a n 0).1.map .int)),some (.list ((dX ns a n 0).2.map .int)),none])=.ok [.int (n:Int)]:=rfl;have b:=ky (j:=(n:Int)) (OX n) (by omega);rw[O6]at b;rw[pf,c,Rs.ag,b]
theorem xf(cs:Cs):LLq (iz cs ak) 3 3 cf:=by
 intro ds hl b;obtain⟨s,a,many,m,l⟩:=oW b;clear b;subst m;have b:=l;clear l
 ·skip
  split at b
  ·rename_i ns o;have es:=iq o;subst es;split at b
   ·rename_i hc;obtain⟨ha,hm,c⟩:=hc;rw[jz ha hm c];obtain⟨n,rfl⟩:∃n:Nat,many=(n:Int):=⟨many.toNat,by omega⟩
    rw[O6];show bf (iz cs ak [some (aq ns),some (.int a),some (.int (n:Int)),none,none,none])=_;have p:=rk1 ns a n c;have s2:=rk2 ns a n;have src:=rk3 ns a n c;obtain⟨δ',e,f,g⟩:=lg (β:=Unit) (tgt:=bO 5) (body:=ji 4 3 (ao ak (ae (af 0) (ae (g2 bP (af 1) (af 5)) (ae (gF cM (ae (af 3) ah)) ah)))))
     (λi δ=>∃f,δ=[some (aq ns),some (.int a),some (.int (n:Int)),some (.list ((dX ns a n i).1.map .int)),some (.list ((dX ns a n i).2.map .int)),f])
     (bK 0 n) 0 (λi d δ hi h=>by obtain⟨f,q⟩:=h;subst q;rw[Oh]at *;obtain⟨j,rfl⟩:=hU hi;refine⟨[some (aq ns),some (.int a),some (.int (n:Int)),some (.list ((dX ns a n i).1.map .int)),some (.list ((dX ns a n i).2.map .int)),some (.int (0+(i:Int)))],_,rfl,?_,some (.int (0+(i:Int))),rfl⟩;exact Cu ns a n i ha j (by omega)) [some (aq ns),some (.int a),some (.int (n:Int)),some (.list ((dX ns a n 0).1.map .int)),some (.list ((dX ns a n 0).2.map .int)),none] ⟨none,rfl⟩
    subst g;rw[Oh,dG]at e;simp only[iz];rw[aX,p];simp only;rw[aX,s2];simp only;rw[aX,lq,src,ax,e];simp only;simp only[bU,ig,aA,aM,au,aw,Rs.ag,Fy,Rs.aj,ax,a9];rfl
   ·exact absurd rfl b
  ·exact absurd rfl b
def hvM(b a:Int):Int->List Int->Bool
 |_,[]=>true
 |m,c::r=>if c<(if c-a>m then c-a else m) then false else hvM b a ((if c-a>m then c-a else m)+b) r
def hvE(e:Er)(ns:List Int):Bool:=hvM e.every e.late (0-e.late) ns
structure xF(ns:List Int):Prop where
 few:ns.length<=60
 lo:∀c∈ns,0<=c
 hi:∀c∈ns,c<=9999
def xS(ns:List Int):Bool:=decide (ns.length<=60)&&ns.all λc=>decide (0<=c)&&decide (c<=9999)
theorem om(ns:List Int):aG (.list (ns.map PyData.int))=true:=by
 induction ns with
 |nil=>rfl
 |cons a r ih =>
  have:aG (.list (PyData.int a::r.map PyData.int))=aG (.list (r.map PyData.int)):=by simp[aG,dN]
  rw[N1,this];exact ih
def gO(B:Nat)(p:Int->Bool):Option Int:=((List.range B).map λ(i:Nat)=>(1+(i:Int))).find? p
theorem u9(B:Nat)(p:Int->Bool):gO (B+1) p=(gO B p).or (if p (1+(B:Int)) then some (1+(B:Int)) else none):=by unfold gO;rw[List.range_succ,O5,List.find?_append];congr 1;simp only[N1,Oq,O0,List.find?_nil];cases p (1+(B:Int)) <;> rfl
theorem lI{p:Int->Bool}:∀{B:Nat}{t:Int},gO B p=some t->1<=t/\t<=B/\p t=true/\∀s,1<=s->s<t->p s=false
 |0,t,h=>by cases h
 |B+1,t,h=>by
  rw[u9]at h;cases q:gO B p with
  |some u =>rw[q]at h;cases h;obtain⟨h1,h2,a,b⟩:=lI q;exact⟨h1,by omega,a,b⟩
  |none =>
   rw[q,Option.none_or]at h;split at h
   ·rename_i c;cases h;refine⟨by omega,by omega,c,λs h1 h2=>?_⟩;unfold gO at q;have:=OY.mp q s (N9.mpr ⟨(s-1).toNat,OK.mpr (by omega),by omega⟩);simpa using this
   ·cases h
theorem uQ{B:Nat}{p:Int->Bool}(h:gO B p=none):∀s:Int,1<=s->s<=(B:Int)->p s=false:=λs h1 h2=>by unfold gO at h;have:=OY.mp h s (N9.mpr ⟨(s-1).toNat,OK.mpr (by omega),by omega⟩);simpa using this
theorem Er.times_mono(h:1<=e.every){t u:Int}(ht:t<=u):e.times t<=e.times u:=by
 unfold Er.times;have q:=Int.ediv_le_ediv (c:=e.every) (by omega) (show t+e.late<=u+e.late by omega);have r1:=Ox (t+e.late) (b:=e.every) (by omega);have r2:=Ox (u+e.late) (b:=e.every) (by omega);have d1:=Py (t+e.late) e.every;have d2:=Py (u+e.late) e.every;by_cases z:(t+e.late) / e.every=(u+e.late) / e.every
 ·rw[<-z]at d2 ⊢;split <;> split <;> omega
 ·split <;> split <;> omega
theorem wR{α:Type}(f g:α->Int):∀l:List α,(∀x∈l,f x<=g x)->(l.map f).sum<=(l.map g).sum
 |[],_=>Oj _
 |x::r,h=>by
  have h1:=h x N3;have h2:=wR f g r λy a=>h y (N0 _ a)
  simp only[N1,O2];omega
theorem lu{α:Type}(f:α->Int):∀l:List α,(∀x∈l,0<=f x)->0<=(l.map f).sum
 |[],_=>Oj _
 |x::r,h=>by
  have h1:=h x N3;have h2:=lu f r λy a=>h y (N0 _ a)
  simp only[N1,O2];omega
theorem vS{t u:Int}(b:∀e∈es,e.Sh)(f:cC es.length rs)(g:t<=u):mQ es rs n t<=mQ es rs n u:=by
 unfold mQ;have:=wR (λm=>(aY es m).times t*(aY es m).work) (λm=>(aY es m).times u*(aY es m).work) (rs.take (placeOf rs n)) λm hm=>by have a:=f.rng m (OD hm);have c:=b _ (cY a.1 a.2);exact NU (Er.times_mono c.e1 g) c.work_b.1
 omega
structure nz(f:Int->Int):Prop where
 mono:∀t u,1<=t->t<=u->f t<=f u
 one:∀t,1<=t->1<=f t
theorem nz.fix{f:Int->Int}(R:nz f){t:Int}(h1:1<=t)(h:f t<=t)(a:∀s,1<=s->s<t->¬ f s<=s):f t=t:=by
 by_cases z:f t<t
 ·exact absurd (R.mono _ _ (R.one t h1) h) (λq=>a (f t) (R.one t h1) z q)
 ·omega
theorem Er.times_pos(h:1<=e.every){t:Int}(a:0<=t+e.late):0<=e.times t:=by unfold Er.times;have:=ON a (show 0<=e.every by omega);split <;> omega
inductive Fa2 {α β:Type} (R:α->β->Prop):List α->List β->Prop where
 |nil:Fa2 R [] []
 |cons {a:α} {b:β} {l:List α} {m:List β} (h:R a b) (t:Fa2 R l m):Fa2 R (a::l) (b::m)
def cnd(es:List Er)(rs:List Int)(pl:Int)(t:Int):Bool:=match bu es rs t with
 |some h=>decide (h<=pl)
 |none=>false
def wJ(c:Int->Bool)(acc:Int)(p:Int×Option Int):Int:=match p.2 with
 |some t=>if c t then max acc (p.1-1) else acc
 |none=>acc
theorem wd(es:List Er)(rs:List Int)(pl:Int):iZ es rs pl=wJ (cnd es rs pl):=by
 funext acc p;unfold iZ wJ cnd;cases p.2 with
 |none=>rfl
 |some t =>
  simp only;cases bu es rs t with
  |none=>rfl
  |some h=>simp
theorem Dt{c:Int->Bool}{acc M:Int}:wJ c acc p<=M↔acc<=M/\∀t,p.2=some t->c t=true->p.1-1<=M:=by
 unfold wJ;rcases hp:p.2 with _|t
 ·simp
 ·simp only;cases hc:c t with
  |false=>simp[hc]
  |true =>
   simp only[if_true];constructor
   ·intro h;refine⟨by omega,λu a _=>by cases a;omega⟩
   ·rintro⟨h1,h2⟩
    have:=h2 t rfl hc;omega
theorem vZ{c:Int->Bool}{M:Int}:∀(l:List (Int×Option Int))(acc:Int),l.foldl (wJ c) acc<=M↔acc<=M/\∀p∈l,∀t,p.2=some t->c t=true->p.1-1<=M
 |[],acc=>by simp
 |p::l,acc=>by
  rw[Pg,vZ l,Dt];constructor
  ·rintro⟨⟨h1,h2⟩,b⟩
   exact⟨h1,λq a=>(N5.mp a).elim (λz=>by rw[z];exact h2) (b q)⟩
  ·rintro⟨h1,h2⟩
   exact⟨⟨h1,h2 p N3⟩,λq a=>h2 q (N0 _ a)⟩
theorem qc(es:List Er)(t:Int):∀(rs:List Int)(k:Int)(j:Nat),(∃h,hts es rs k t=some h/\h<=k+j)↔∃m∈rs.take (j+1),(aY es m).has t=true
 |[],k,j=>by simp[hts]
 |r::rs,k,j=>by
  unfold hts;rw[Pe];by_cases hr:(aY es r).has t=true
  ·rw[if_pos hr];exact⟨λ_=>⟨r,N3,hr⟩,λ_=>⟨k,rfl,by omega⟩⟩
  ·rw[if_neg hr];cases j with
   |zero =>
    have lo:∀(rs:List Int)(k:Int) h,hts es rs k t=some h->k<=h:=by
     intro rs
     induction rs with
     |nil=>intro k h e;cases e
     |cons a l c =>
      intro k h e;unfold hts at e;split at e
      ·cases e;exact Oj _
      ·have:=c _ _ e;omega
    constructor
    ·rintro⟨h,e,hl⟩
     have:=lo rs (k+1) h e;omega
    ·rintro⟨m,hm,b⟩
     simp at hm;subst hm;exact absurd b hr
   |succ j =>
    have c:=qc es t rs (k+1) j;constructor
    ·rintro⟨h,e,hl⟩
     obtain⟨m,hm,b⟩:=c.mp ⟨h,e,by omega⟩;exact⟨m,N0 _ hm,b⟩
    ·rintro⟨m,hm,b⟩
     rcases N5.mp hm with z|z
     ·rw[z]at b;exact absurd b hr
     ·obtain⟨h,e,hl⟩:=c.mpr ⟨m,z,b⟩;exact⟨h,e,by omega⟩
theorem AN{pl:Nat}{t:Int}:cnd es rs (pl:Int) t=true↔∃m∈rs.take (pl+1),(aY es m).has t=true:=by
 rw[<-qc es t rs 0 pl];unfold cnd bu;cases hts es rs 0 t with
 |none=>simp
 |some h=>simp
def wD(es:List Er)(a:List Int):List (Int×Option Int):=(a.map λm=>(aY es m).parts).flatten
theorem AB{b:List Int}:p∈wD es b↔∃m∈b,p∈(aY es m).parts:=by
 unfold wD;rw[List.mem_flatten];constructor
 ·rintro⟨l,hl,a⟩
  obtain⟨m,hm,rfl⟩:=N9.mp hl;exact⟨m,hm,a⟩
 ·rintro⟨m,hm,a⟩
  exact⟨_,N9.mpr ⟨m,hm,rfl⟩,a⟩
theorem tM{M:Int}:jj es rs n<=M↔0<=M/\∀m∈rs.drop (placeOf rs n+1),∀p∈(aY es m).parts,∀t,p.2=some t->(∃u∈rs.take (placeOf rs n+1),(aY es u).has t=true)->p.1-1<=M:=by
 unfold jj;rw[wd,vZ];constructor
 ·rintro⟨h1,h2⟩
  exact⟨h1,λm hm p a t b c=>h2 p (AB.mpr ⟨m,hm,a⟩) t b (AN.mpr c)⟩
 ·rintro⟨h1,h2⟩
  refine⟨h1,λp a t b hc=>?_⟩;obtain⟨m,hm,a⟩:=AB.mp a;exact h2 m hm p a t b (AN.mp hc)
theorem yl{A r:List Int}(h:n∈A):placeOf (A++r) n=placeOf A n:=by
 unfold placeOf
 induction A with
 |nil=>cases h
 |cons a l ih =>
  rw[Oe,PV,PV];cases hn:a==n with
  |true=>rfl
  |false =>
   have b:a≠n:=by simpa using hn
   rw[cond_false,cond_false,ih ((N5.mp h).resolve_left λq=>b q.symm)]
theorem pQ(es:List Er)(rs:List Int)(n:Int):0<=jj es rs n:=(tM.mp (Oj _)).1
theorem oh:∀(ps:List (Int×Option Int)),(∀p∈ps,0<=p.1)->∀p∈ps,p.1<=(ps.map (·.1)).sum
 |[],_,p,a=>by cases a
 |q::r,h,p,a=>by
  have h0:=h q N3;have h1:=lu (λp:Int×Option Int=>p.1) r λp a=>h p (N0 _ a)
  simp only[N1,O2];rcases N5.mp a with rfl|a
  ·omega
  ·have:=oh r (λp a=>h p (N0 _ a)) p a;omega
theorem Er.Sh.part_le(h:e.Sh)(a:p∈e.parts):p.1<=e.work:=oh e.parts (λp a=>(h.pl p a).1) p a
section
variable {A B:List Int}{x y:Int}
end
theorem kr(h:n∈rs):rs[placeOf rs n]?=some n:=by have lt:=lp h;rw[My lt];have a:(rs[placeOf rs n]==n)=true:=List.findIdx_getElem (p:=(·==n)) (xs:=rs) (w:=lt);rw[beq_iff_eq.mp a]
section
variable {ot:List Int}
end
theorem nE:∀{ds:List PyData},(∀d∈ds,aG d=true)->dN ds=true
 |[],_=>by unfold dN;rfl
 |d::r,h=>by unfold dN;rw[h d N3,nE λe a=>h e (N0 _ a)];rfl
theorem ij(h:∀d∈ds,aG d=true):aG (.tuple ds)=true:=by unfold aG;exact nE h
theorem ia(h:∀d∈ds,aG d=true):aG (.list ds)=true:=by unfold aG;exact nE h
theorem gX(i:Int):aG (.int i)=true:=by unfold aG;rfl
theorem ud(o:Option Int):aG (bW o)=true:=by cases o <;> (unfold bW aG;rfl)
theorem yZ(p:Int×Option Int):aG (aQ p)=true:=ij λd hd=>by
 rcases N5.mp hd with rfl|hd
 ·exact gX _
 ·cases NA.mp hd;exact ud _
theorem Dv(e:Er):aG e.d=true:=ij λd hd=>by
 rcases N5.mp hd with rfl|hd
 ·exact gX _
 ·rcases N5.mp hd with rfl|hd
  ·exact gX _
  ·rcases N5.mp hd with rfl|hd
   ·exact gX _
   ·cases NA.mp hd;exact ij λd hd=>by obtain⟨p,_,rfl⟩:=N9.mp hd;exact yZ p
theorem sR(es:List Er):aG (ar es)=true:=ij λd hd=>by obtain⟨p,_,rfl⟩:=N9.mp hd;exact Dv p
theorem rG(rs:List Int):∀d∈rs.map PyData.int,aG d=true:=λd hd=>by obtain⟨p,_,rfl⟩:=N9.mp hd;exact gX p
theorem lz(rs:List Int):aG (ai rs)=true:=ij (rG rs)
end RS
namespace RS
open PySem PySem.Spec PyProof.Rows L2
section
theorem vO{xs:List α}{k:Int}{v:α}(a:0<=k)(h:xs[k.toNat]?=some v):atI xs k=some v:=by
 have:=oR h
 rwa[OU a]at this
theorem depthAll_ints:∀ns:List Int,PyData.depthAll (ns.map PyData.int)<=1
 |[]=>by simp[PyData.depthAll]
 |n::r=>by have:=depthAll_ints r;simp only[N1,PyData.depthAll,PyData.depth];omega
theorem n9:∀ns:List Int,PyData.canLayAll0 (ns.map PyData.int)=true
 |[]=>by simp[PyData.canLayAll0]
 |n::r=>by simp[PyData.canLayAll0,PyData.canLay0,n9 r]
theorem shaped_ints(ns:List Int):SeqAt.shaped (.list (ns.map PyData.int))=true:=by
 have:=depthAll_ints ns;have h2:(PyData.list (ns.map PyData.int)).depth<=64:=by simp only[PyData.depth];omega
 simp[SeqAt.shaped,PyData.canLay0,n9,h2]
theorem yM:SeqAt.shaped (.list [])=true:=shaped_ints []
theorem Fi:∀ns:List Int,PyData.eqv (.list (ns.map PyData.int)) (.list [])=decide (ns=[])
 |[]=>by simp[PyData.eqv,PyData.eqvAll]
 |_::_=>by simp[PyData.eqv,PyData.eqvAll]
def Eh(K:W.Frag):Sp:=λvs H Q _=>∃(a:Addr)(ns:List Int)(k:Int),vs=[.ref a,.int k]/\SqL K H a (ns.map V.int)/\0<=k/\∀H',av H H'->Q (.int (cellAt ns k)) H'
def Iz(K:W.Frag):Sp:=λvs H Q _=>∃(a:Addr)(ns:List Int)(k many:Int),vs=[.ref a,.int k,.int many]/\SqL K H a (ns.map V.int)/\0<=k/\0<many/\∀H',av H H'->Q (.int (mixed ns k many)) H'
theorem GU(ds:List PyData)(hl:ds.length=3)(b:ak ds≠.no):∃d,ak ds=.ok d/\gz d=true/\∀vs H Q,Iss K H ds vs->(∀v H',av H H'->IsD K H' d v->Q v H')->Iz K vs H Q E0:=by
 obtain⟨s,k,many,e,c⟩:=oW b;clear b;subst e;have b:=c;clear c
 ·skip
  split at b
  ·rename_i ns f;have es:=iq f;subst es;split at b
   ·rename_i hc;refine⟨_,ck hc.1 hc.2,rfl,λvs H Q hi g=>?_⟩;obtain⟨v0,r0,rfl,h,v1,r1,rfl,h1,v2,r2,rfl,h2,rfl⟩:=hi;obtain⟨a,rfl,i⟩:=h.ofScript;rw[h1.ofInt,h2.ofInt];exact⟨a,ns,k,many,rfl,i,hc.1,hc.2,λH' s'=>g _ _ s' vH⟩
   ·exact absurd rfl b
  ·exact absurd rfl b
end
end RS
namespace RS
open PySem L2
def okIn(d r:PyData):Bool:=dC d&&d7 (de d).length r
def okN(d r:PyData)(n:Int):Bool:=okIn d r&&decide (0<=n)&&decide (n<(de d).length)
def df:Gf
 |[d,r,.int n]=>if okN d r n then .ok (bW (cG (de d) (cn r) n)) else .no
 |_=>.no
section
theorem Gn(h1:1<=es.length)(h2:es.length<=6)(h:∀e∈es,e.Ok)(a:cC es.length rs):okIn (ar es) (ai rs)=true:=by unfold okIn;rw[lN h1 h2 h,fh,hZ a];rfl
theorem C5(h1:1<=es.length)(h2:es.length<=6)(h:∀e∈es,e.Ok)(a:cC es.length rs)(n0:0<=n)(n1:n<es.length):okN (ar es) (ai rs) n=true:=by unfold okN;rw[Gn h1 h2 h a,fh];simp[n0,n1]
theorem kQ(h1:1<=es.length)(h2:es.length<=6)(h:∀e∈es,e.Ok)(a:cC es.length rs)(n0:0<=n)(n1:n<es.length):df [ar es,ai rs,.int n]=.ok (bW (cG es rs n)):=by unfold df;simp only[C5 h1 h2 h a n0 n1,if_true,fh,eQ]
end
theorem nW{cond:Ds->Rs Bool}{elt:Ds->Rs PyData}{δ:Ds}{p:PyData->Bool}:∀(ds:List PyData),(∀d∈ds,cond (δ++[some d])=.ok (p d)/\elt (δ++[some d])=.ok d)->eR cond elt aS δ ds=.ok (ds.filter p)
 |[],_=>rfl
 |d::r,h=>by
  obtain⟨h1,h2⟩:=h d N3;have a:=nW r λe b=>h e (N0 _ b)
  unfold eR;cases hp:p d with
  |true=>simp only[aS,h1,hp,Rs.dj,Rs.ag,if_true,h2,a,OT]
  |false=>simp only[aS,h1,hp,Rs.dj,Rs.ag,if_false,NS,a,OT]
theorem uF{elt:Ds->Rs PyData}{p:PyData->Bool}(hn:δ.length=n0)(a:src δ=.ok ds)(hl:ds.length<=1000000)(h:∀d∈ds,cond (δ++[some d])=.ok (p d)/\elt (δ++[some d])=.ok d) :
  ba n0 src cond elt aS δ=.ok (ds.filter p):=by
 unfold ba;rw[if_pos hn,a];simp only[Rs.ag,if_pos hl];exact nW ds h
theorem Fu(ns:List Int)(a top:Int)(ha:0<=a)(g:0<top)(b:top<=58):∃es rs,oK ns a 4 top true=es/\1<=es.length/\es.length<=4/\(∀e∈es,e.Ok)/\cC es.length rs/\bA [aq ns,.int a,.int 4,.int top,.bool true]=.ok (ar es)/\cf [aq ns,.int 0,.int (es.length:Int)]=.ok (ai rs):=by have hl:=Fv ns a 4 top true (by decide);have hok:=Hy ns a 4 top true g b;have f:bA [aq ns,.int a,.int 4,.int top,.bool true]=.ok (ar (oK ns a 4 top true)):=iB ha (by decide) (by decide) g b;generalize oK ns a 4 top true=es at *;have c:=jz (ns:=ns) (a:=0) (many:=(es.length:Int)) (by decide) (by omega) (by omega);rw[O6]at c;exact⟨es,_,rfl,hl.1,by omega,hok,yI ns 0 es.length,f,c⟩
theorem Ig(es:List Er):cM [ar es]=some (.int (es.length:Int)):=by unfold ar;rw[DR,N4]
theorem lawT_of{n:Nat}{G:Ds->Sr}{k:Nat}(h:∀ns:List Int,G (some (aq ns)::List.replicate k none)=.rt (.bool true)):∀ds,ds.length=1->fT n ds≠.no->bf (G (ds.map some++List.replicate k none))=fT n ds:=by
 intro ds hl a
 match ds,hl with
 |[s],_ =>
  unfold fT at a ⊢;simp only at a ⊢;split at a
  ·rename_i ns b;have es:=iq b;subst es;split at a
   ·rename_i hc;simp only[fN,if_pos hc];show bf (G (some (aq ns)::List.replicate k none))=_;rw[h];rfl
   ·exact absurd rfl a
  ·exact absurd rfl a
theorem Cb(cs:Cs):LLq (tL cs) 1 0 bB:=yX cs
def bz(cs:Cs):Gf
 |[.tuple es,x]=>if aG x then (if isWhole x 0 ((es.length:Int)-1) then .ok x else .rz cs.NoErrand) else .no
 |_=>.no
theorem mO(cs:Cs):LLq (eF cs aH) 2 0 (bz cs):=by
 intro ds hl a;obtain⟨es,x,c,b⟩:=ED a;clear a;subst c;have a:=b;clear b;unfold bz
 ·skip
  split at a
  ·rename_i hd;simp only[hd,if_true];cases e:isWhole x 0 ((es.length:Int)-1) with
   |true=>simp[eF,hd,e]
   |false=>simp[eF,hd,e]
  ·exact absurd rfl a
theorem sN{d r:PyData}(h:okN d r n=true):∃es rs,d=ar es/\r=ai rs/\de d=es/\cn r=rs/\1<=es.length/\es.length<=6/\(∀e∈es,e.Ok)/\cC es.length rs/\0<=n/\n<es.length:=by unfold okN okIn at h;simp only[N7,decide_eq_true_eq]at h;obtain⟨⟨⟨a,b⟩,n0⟩,n1⟩:=h;obtain⟨e1,l1,l6,hok⟩:=yy a;obtain⟨e2,c⟩:=mn b;exact⟨de d,cn r,e1.symm,e2.symm,rfl,rfl,l1,l6,hok,c,n0,n1⟩
theorem iL(cs:Cs)(h1:1<=es.length)(h2:es.length<=6)(h:∀e∈es,e.Ok):aW cs [ar es]=.ok (ar es):=by unfold aW;simp[sR,lN h1 h2 h]
theorem gD(cs:Cs)(h2:es.length<=6)(a:cC es.length rs):aR cs [ar es,ai rs]=.ok (ai rs):=by unfold ar aR;simp only[N4,lz,hZ a,Pq,if_true];rw[if_pos (by simp;omega)]
theorem jK(cs:Cs)(n0:0<=n)(n1:n<es.length):bz cs [ar es,.int n]=.ok (.int n):=by unfold ar bz;simp only[gX,if_true,N4,isWhole];rw[if_pos (by simp;omega)]
def cg:Gf
 |[d,r,.int n]=>if okN d r n then .ok .none else .no
 |_=>.no
theorem iA(h1:1<=es.length)(h2:es.length<=6)(h:∀e∈es,e.Ok)(a:cC es.length rs)(n0:0<=n)(n1:n<es.length):cg [ar es,ai rs,.int n]=.ok .none:=by unfold cg;simp only[C5 h1 h2 h a n0 n1,if_true]
theorem rT(cs:Cs):LLq (fS cs (bz cs) (aR cs) (aW cs)) 3 0 cg:=by
 intro ds hl a;obtain⟨d,r,n,e,b⟩:=kB a;clear a;subst e;have a:=b;clear b
 ·skip
  split at a
  ·rename_i hc;obtain⟨es,rs,rfl,rfl,_,_,l1,l6,hok,c,n0,n1⟩:=sN hc;rw[iA l1 l6 hok c n0 n1];show bf (fS cs (bz cs) (aR cs) (aW cs) [some (ar es),some (ai rs),some (.int n)])=_;simp[fS,iL cs l1 l6 hok,gD cs l6 c,jK cs n0 n1]
  ·exact absurd rfl a
def fi(r:List Int):PyData:=.list (r.map PyData.int)
def cmD(rows:List (List Int)):PyData:=.list (rows.map fi)
inductive Cms:List Er->List (List Int)->Prop
 |nil:Cms [] []
 |cons {e:Er} {r:List Int} {es:List Er} {rows:List (List Int)}:xF r->hvE e r=true->Cms es rows->Cms (e::es) (r::rows)
theorem Cms.len(h:Cms es rows):rows.length=es.length:=by
 induction h with
 |nil=>rfl
 |cons _ _ _ ih=>simp[ih]
theorem Cms.xS(h:Cms es rows):∀r∈rows,xF r:=by
 induction h with
 |nil=>intro r a;cases a
 |cons a _ _ ih =>
  intro b h';rcases N5.mp h' with rfl|h'
  ·exact a
  ·exact ih b h'
structure En(es:List Er):Prop where
 l1:1<=es.length
 l6:es.length<=6
 ok:∀e∈es,e.Ok
theorem zy(rows:List (List Int)):aG (cmD rows)=true:=by
 unfold cmD
 induction rows with
 |nil=>rfl
 |cons a r ih =>
  have h1:=om a;have:aG (.list (fi a::r.map fi))=(aG (fi a)&&aG (.list (r.map fi))):=by simp[aG,dN]
  rw[N1,this,ih];simp only[OW];exact h1
structure Jb where
 num:Int
 parts:List (Int×Option Int)
 rank:Int
 row:List Int
 job:Nat
 part:Nat
 spent:Nat
variable {s:List Jb×List PyData}{p q:Addr×Jb}{js:List Jb}{j:Jb}{ts:List (Addr×Jb)}{key:Jb->PyData}
def Jb.fds(j:Jb):List (Str×PyData):=[("number",.int j.num),("parts",.tuple (j.parts.map aQ)),("rank",.int j.rank),("row",fi j.row),("job",.int j.job),("part",.int j.part),("spent",.int j.spent)]
def Jb.d(C a:Addr)(j:Jb):PyData:=cu C a j.fds
theorem lr{f:Str}{r:List (Str×PyData)}(h:("@":Str)≠f):bx C f (cu C a r)=jx f (r.map λp=>(.str p.1,p.2)):=by show (if ("":Str)=""/\(C:Int)=(C:Int) then (if ("@":Str)=f then some (PyData.int (a:Int)) else jx f (r.map λp=>(.str p.1,p.2))) else none)=_;rw[if_pos ⟨rfl,rfl⟩,if_neg h]
section
theorem yq:bx C "number" (j.d C a)=some (.int j.num):=by unfold Jb.d;rw[lr (by decide)];rfl
theorem mw:bx C "parts" (j.d C a)=some (.tuple (j.parts.map aQ)):=by unfold Jb.d;rw[lr (by decide)];rfl
theorem oQ:bx C "rank" (j.d C a)=some (.int j.rank):=by unfold Jb.d;rw[lr (by decide)];rfl
theorem zT:bx C "row" (j.d C a)=some (fi j.row):=by unfold Jb.d;rw[lr (by decide)];rfl
theorem uE:bx C "job" (j.d C a)=some (.int j.job):=by unfold Jb.d;rw[lr (by decide)];rfl
theorem oX:bx C "part" (j.d C a)=some (.int j.part):=by unfold Jb.d;rw[lr (by decide)];rfl
theorem jN:bx C "spent" (j.d C a)=some (.int j.spent):=by unfold Jb.d;rw[lr (by decide)];rfl
end
def gfG(n k:Nat)(G:Ds->Sr):Gf:=λds=>if ds.length=n then bf (G (ds.map some++List.replicate k none)) else .no
theorem gA{n k:Nat}{G:Ds->Sr}:∀ds,ds.length=n->gfG n k G ds≠.no->bf (G (ds.map some++List.replicate k none))=gfG n k G ds:=by intro ds hl _;unfold gfG;rw[if_pos hl]
def aV(cs:Cs):Gf:=gfG 1 0 (dQ cs)
def aL(cs:Cs):Gf:=gfG 1 0 (eU cs)
def aT(cs:Cs):Gf:=gfG 1 0 (fV cs)
def aO(cs:Cs):Gf:=gfG 2 0 (dO cs)
theorem wt:aV cs [j.d cs.Jobs a]=.ok (.bool ((j.job:Int)==(j.row.length:Int))):=by
 have hl:cM [fi j.row]=some (.int (j.row.length:Int)):=by unfold fi;rw[pF,N4]
 show bf (dQ cs [some (j.d cs.Jobs a)])=_;unfold dQ;simp only[bU,cO,jF,au,Rs.ag,uE,zT,Rs.aj,ig,aA,aM,hl,jV,ax,a9]
def Jb.tool(j:Jb):Option Int:=(j.parts[j.part]?.map (·.2)).getD none
theorem ux{p:Int×Option Int}(h:j.parts[j.part]?=some p):dIx (.tuple (j.parts.map aQ)) (.int (j.part:Int))=some (aQ p):=by rw[xl];exact oR (by rw[NK,h];rfl)
theorem part1(p:Int×Option Int):dIx (aQ p) (.int 1)=some (bW p.2):=rfl
theorem sq(h:j.part<j.parts.length):aL cs [j.d cs.Jobs a]=.ok (bW (if j.spent=0 then j.tool else none)):=by
 show bf (eU cs [some (j.d cs.Jobs a)])=_;unfold eU;have b:j.parts[j.part]?=some j.parts[j.part]:=My h;have c:j.tool=j.parts[j.part].2:=by unfold Jb.tool;rw[b];rfl
 by_cases z:j.spent=0
 ·have e:((j.spent:Int)==0)=true:=by rw[z];rfl
  rw[if_pos z,c];simp only[bU,gIf,fB,cO,jF,au,dY,Rs.ag,jN,mw,oX,Rs.aj,jV,e,bH,if_true,ux b,part1,ax,a9]
 ·have e:((j.spent:Int)==0)=false:=by rw[beq_eq_false_iff_ne];omega
  rw[if_neg z];simp only[bU,gIf,fB,cO,jF,au,dY,Rs.ag,jN,Rs.aj,jV,e,bH,NS,if_false,ax,a9];rfl
theorem zZ(h:j.part<j.parts.length):aT cs [j.d cs.Jobs a]=.ok (bW (if j.spent=0 then none else j.tool)):=by
 show bf (fV cs [some (j.d cs.Jobs a)])=_;unfold fV;have b:j.parts[j.part]?=some j.parts[j.part]:=My h;have c:j.tool=j.parts[j.part].2:=by unfold Jb.tool;rw[b];rfl
 by_cases z:j.spent=0
 ·have e:decide ((0:Int)<(j.spent:Int))=false:=by rw[z];rfl
  rw[if_pos z];simp only[bU,gIf,fB,cO,jF,au,dY,Rs.ag,jN,Rs.aj,E8,e,bH,NS,if_false,ax,a9];rfl
 ·have e:decide ((0:Int)<(j.spent:Int))=true:=by rw[decide_eq_true_eq];omega
  rw[if_neg z,c];simp only[bU,gIf,fB,cO,jF,au,dY,Rs.ag,jN,mw,oX,Rs.aj,E8,e,bH,if_true,ux b,part1,ax,a9]
def Jb.there(j:Jb)(t:Int):Bool:=match j.row[j.job]? with
 |some c=>decide (c<=t)
 |none=>false
theorem xg{t:Int}(h:j.job<=j.row.length):aO cs [j.d cs.Jobs a,.int t]=.ok (.bool (j.there t)):=by
 have hl:cM [fi j.row]=some (.int (j.row.length:Int)):=by unfold fi;rw[pF,N4]
 show bf (dO cs [some (j.d cs.Jobs a),some (.int t)])=_;unfold dO Jb.there;by_cases z:j.job<j.row.length
 ·have b:j.row[j.job]?=some j.row[j.job]:=My z;have e:decide ((j.job:Int)<(j.row.length:Int))=true:=by rw[decide_eq_true_eq];omega
  have c:dIx (fi j.row) (.int (j.job:Int))=some (.int j.row[j.job]):=by show atI (j.row.map PyData.int) _=_;exact oR (by rw[NK,b];rfl)
  rw[b];simp only[bU,Et,cO,jF,au,aw,Rs.ag,uE,zT,Rs.aj,ig,aA,aM,hl,LY,e,bH,if_true,c,LW,ax,a9]
 ·have b:j.row[j.job]?=none:=OO (by omega);have e:decide ((j.job:Int)<(j.row.length:Int))=false:=by rw[decide_eq_false_iff_not];omega
  rw[b];simp only[bU,Et,cO,jF,au,aw,Rs.ag,uE,zT,Rs.aj,ig,aA,aM,hl,LY,e,bH,NS,if_false,ax,a9]
def jD(C:Addr)(p:Addr×Jb):PyData:=p.2.d C p.1
def Jb.held(j:Jb):Option Int:=if j.spent=0 then none else j.tool
def Jb.wanted(j:Jb):Option Int:=if j.spent=0 then j.tool else none
def holdsT(t:Int)(p:Addr×Jb):Bool:=p.2.held==some t
theorem eq_none_int(x:Int):dEq .none (.int x)=some (.bool false):=by
 have h:SeqAt.shaped (.int x)=true:=by simp[SeqAt.shaped,PyData.canLay0,PyData.depth]
 unfold dEq;rw[h];simp[aG,PyData.eqv]
 first|done|rfl|decide
theorem K0(o:Option Int)(t:Int):dEq (bW o) (.int t)=some (.bool (o==some t)):=by
 cases o with
 |none=>exact eq_none_int t
 |some i=>rw[show bW (some i)=.int i from rfl,jV];simp
theorem vD{m:Str}(h1:("@":Str)≠m)(h:jA m (j.fds.map λp=>(.str p.1,p.2))=true):isC C m (j.d C a)=true:=by
 show (decide (("":Str)="")&&decide ((C:Int)=(C:Int))&&jA m ((.str "@",.int (a:Int))::(j.fds.map λp=>(.str p.1,p.2))))=true;have:jA m ((.str "@",.int (a:Int))::(j.fds.map λp=>(PyData.str p.1,p.2)))=true:=by unfold jA;simp only[h,OW];simpa using h1
 rw[this];simp
theorem xJ:isC C "held" (j.d C a)=true:=vD (by decide) rfl
theorem qM:isC C "wanted" (j.d C a)=true:=vD (by decide) rfl
theorem uC:isC C "are_done" (j.d C a)=true:=vD (by decide) rfl
theorem vk:isC C "is_there" (j.d C a)=true:=vD (by decide) rfl
def bJ(cs:Cs):Gf:=gfG 2 1 (kg cs (aT cs))
def jO(C:Addr)(ts:List (Addr×Jb))(tool:Option Int):PyData:=match tool with
 |none=>.none
 |some t=>match ts.find? (holdsT t) with
  |none=>.none
  |some p=>jD C p
theorem oa{cs:Cs}{t:Int}{X:PyData}:∀(ts:List (Addr×Jb))(x2:Option PyData),(∀p∈ts,p.2.part<p.2.parts.length) ->
   (∃p,ts.find? (holdsT t)=some p/\forL (bO 2) (sIf (gT (g2 dEq (br cs.Jobs "held" (aT cs) (af 2) ah) (af 1))) (bp (af 2)) bj) (ts.map (jD cs.Jobs)) [some X,some (.int t),x2]=.rt (jD cs.Jobs p))
  \/(ts.find? (holdsT t)=none/\∃δ,forL (bO 2) (sIf (gT (g2 dEq (br cs.Jobs "held" (aT cs) (af 2) ah) (af 1))) (bp (af 2)) bj) (ts.map (jD cs.Jobs)) [some X,some (.int t),x2]=.nx δ)
 |[],x2,_=>.inr ⟨rfl,_,rfl⟩
 |p::r,x2,h=>by
   have h1:bO 2 (jD cs.Jobs p) [some X,some (.int t),x2]=some [some X,some (.int t),some (jD cs.Jobs p)]:=rfl;have hm:br cs.Jobs "held" (aT cs) (af 2) ah [some X,some (.int t),some (jD cs.Jobs p)]=.ok (bW p.2.held):=by unfold br;simp only[au,aw,Rs.ag];rw[if_pos (show isC cs.Jobs "held" (jD cs.Jobs p)=true from xJ)];simp only[aM,Rs.ag];exact zZ (h p N3)
   have hc:gT (g2 dEq (br cs.Jobs "held" (aT cs) (af 2) ah) (af 1)) [some X,some (.int t),some (jD cs.Jobs p)]=.ok (holdsT t p):=by simp only[fB,cO,hm,au,aw,Rs.ag,K0,Rs.aj,bH];rfl
   rw[N1];unfold forL;rw[h1];cases z:holdsT t p with
   |true =>refine .inl ⟨p,by rw[List.find?_cons_of_pos z],?_⟩;simp only[dP,hc,z,ax,if_true,bU,au,aw]
   |false =>simp only[dP,hc,z,ax,NS,if_false,iF];rw[List.find?_cons_of_neg (by rw[z];exact NO)];exact oa r _ λq a=>h q (N0 _ a)
theorem tH{tool:Option Int}(h:∀p∈ts,p.2.part<p.2.parts.length):bJ cs [.list (ts.map (jD cs.Jobs)),bW tool]=.ok (jO cs.Jobs ts tool):=by
 show bf (kg cs (aT cs) [some (.list (ts.map (jD cs.Jobs))),some (bW tool),none])=_;unfold kg jO;cases tool with
 |none=>rfl
 |some t =>
  have hn:gT (g1 lj (af 1)) [some (.list (ts.map (jD cs.Jobs))),some (.int t),none]=.ok false:=rfl;show bf (aJ (sIf (gT (g1 lj (af 1))) (bp (gC .none)) bj) (aJ (fP [] (bY (af 0)) (bO 2) (sIf (gT (g2 dEq (br cs.Jobs "held" (aT cs) (af 2) ah) (af 1))) (bp (af 2)) bj)) (bp (gC .none))) [some (.list (ts.map (jD cs.Jobs))),some (.int t),none])=_;have a:fP [] (bY (af 0)) (bO 2) (sIf (gT (g2 dEq (br cs.Jobs "held" (aT cs) (af 2) ah) (af 1))) (bp (af 2)) bj) [some (.list (ts.map (jD cs.Jobs))),some (.int t),none]=forL (bO 2) (sIf (gT (g2 dEq (br cs.Jobs "held" (aT cs) (af 2) ah) (af 1))) (bp (af 2)) bj) (ts.map (jD cs.Jobs)) [some (.list (ts.map (jD cs.Jobs))),some (.int t),none]:=rfl;simp only[aX,dP,hn,ax,NS,if_false,iF,a];rcases oa (cs:=cs) (t:=t) (X:=.list (ts.map (jD cs.Jobs))) ts none h with⟨p,f1,f2⟩|⟨f1,δ,f2⟩
  ·rw[f1,f2];rfl
  ·rw[f1,f2];rfl
def cB(cs:Cs):Gf:=gfG 1 3 (gP cs (aL cs) (bJ cs))
theorem GK:jw (jD C q)=some (.bool true):=rfl
def lrB(cs:Cs):Ds->Sr:=(aJ (aU [1] 3 (ao (bJ cs) (ae (af 0) (ae (br cs.Jobs "wanted" (aL cs) (af 2) ah) ah))))
 (sIf (gT (g1 jw (af 3))) (qe 1 (g1 (bx cs.Jobs "number") (af 3)) (gF kN (ae (g1 (bx cs.Jobs "rank") (af 2)) (ae (lH (af 1) (g1 (bx cs.Jobs "number") (af 3)) (g1 (bx cs.Jobs "rank") (af 3))) ah)))) bj))
theorem G3(l:List (Int×Int))(k v:Int):(zw l k v).length<=l.length+1:=by unfold zw;split <;> simp
def bS(cs:Cs):Gf:=gfG 2 1 (bX cs (aT cs))
theorem sr{x y:Option PyData}(h:p.2.part<p.2.parts.length):br cs.Jobs "held" (aT cs) (af 0) ah [some (jD cs.Jobs p),x,y]=.ok (bW p.2.held):=by unfold br;simp only[au,Rs.ag];rw[if_pos (show isC cs.Jobs "held" (jD cs.Jobs p)=true from xJ)];simp only[aM,Rs.ag];exact zZ h
theorem Fo(h:ts≠[]):∃p∈ts,jO C ts p.2.wanted=.none:=by
 by_cases z:∃p∈ts,p.2.spent≠0
 ·obtain⟨p,a,b⟩:=z;refine⟨p,a,?_⟩;unfold Jb.wanted;rw[if_neg b];rfl
 ·have c:∀p∈ts,p.2.spent=0:=λp a=>by
   by_cases q:p.2.spent=0
   ·exact q
   ·exact absurd ⟨p,a,q⟩ z
  obtain⟨p,r,rfl⟩:=Pa h;refine⟨p,N3,?_⟩;unfold jO;cases p.2.wanted with
  |none=>rfl
  |some t =>
   have:(p::r).find? (holdsT t)=none:=by rw[OY];intro q e;unfold holdsT Jb.held;rw[if_pos (c q e)];exact NO
   simp only[this]
def cR(cs:Cs):Gf:=gfG 3 2 (kh cs (cB cs) (aL cs) (bJ cs) (bS cs))
theorem eq_str{s t:Str}(h1:SeqAt.shaped (.str s)=true)(h2:SeqAt.shaped (.str t)=true):dEq (.str s) (.str t)=some (.bool (s==t)):=by unfold dEq;rw[h1,h2];simp[aG,PyData.eqv]
def DN(cs:Cs)(δ:Ds)(d:PyData):Bool:=match ao (bJ cs) (ae (af 0) (ae (br cs.Jobs "wanted" (aL cs) (af 5) ah) ah)) (δ++[some d]) with
 |.ok x=>fj x
 |_=>false
theorem As{x1 x2 x3 x4:Option PyData}(h:∀p∈ts,p.2.part<p.2.parts.length)(a:q∈ts) :
  ao (bJ cs) (ae (af 0) (ae (br cs.Jobs "wanted" (aL cs) (af 5) ah) ah)) [some (.list (ts.map (jD cs.Jobs))),x1,x2,x3,x4,some (jD cs.Jobs q)]=.ok (jO cs.Jobs ts q.2.wanted):=by
 have h2:br cs.Jobs "wanted" (aL cs) (af 5) ah [some (.list (ts.map (jD cs.Jobs))),x1,x2,x3,x4,some (jD cs.Jobs q)]=.ok (bW q.2.wanted):=by unfold br;simp only[au,aw,Rs.ag];rw[if_pos (show isC cs.Jobs "wanted" (jD cs.Jobs q)=true from qM)];simp only[aM,Rs.ag];exact sq (h q a)
 simp only[bI,aA,aM,au,h2,Rs.ag];exact tH h
structure uS(s:Str):Prop where
 sh:SeqAt.shaped (.str s)=true
theorem vN:SeqAt.shaped (.str "high")=true:=by decide +kernel
theorem Fn:SeqAt.shaped (.str "asked")=true:=by decide +kernel
theorem ve(ps:List (Int×Option Int)):aG (.tuple (ps.map aQ))=true:=by
 induction ps with
 |nil=>rfl
 |cons a r ih =>
  have h1:aG (aQ a)=true:=by obtain⟨x,o⟩:=a;cases o <;> rfl
  have:aG (.tuple (aQ a::r.map aQ))=(aG (aQ a)&&aG (.tuple (r.map aQ))):=by simp[aG,dN]
  rw[N1,this,h1,ih];rfl
theorem Jb.flat(j:Jb):gB j.fds=true:=by have h1:=ve j.parts;have h2:aG (fi j.row)=true:=om j.row;unfold gB Jb.fds;simp only[N1,Oq,lA,h1,h2,OW,Pq];rfl
theorem md:oE [a] C 0 [some (j.d C a)]=some (a,j.fds):=by
 unfold oE;have h1:gJ [some (j.d C a)]=true:=by unfold gJ Jb.d;simp only[P9,List.all_nil,OW,xB];exact j.flat
 show (match objOf (j.d C a) with|some (c,b,fds)=>if c=C/\b∈[a]/\gJ [some (j.d C a)]=true/\gB fds=true/\fds.length<1000 then some (b,fds) else none|none=>none)=_;unfold Jb.d at *;rw[tW];exact if_pos ⟨rfl,NA.mpr rfl,h1,j.flat,show 7<1000 by decide⟩
theorem j6{fds:List (Str×PyData)}(b:gB fds=true):kS a nd [some (cu C a fds)]=[some nd]:=by show [some (fE a nd (cu C a fds))]=_;unfold cu fE;refine congrArg (λx=>[some x]) (if_pos ?_);unfold jP;unfold gB at b;simp[b]
section
theorem tQ:eW [a] C 0 "spent" (gC (.int 1)) [some (j.d C a)]=.nx [some (Jb.d C a { j with spent:=j.spent+1 })]:=by unfold eW;rw[md];show Sr.nx (kS a (cu C a (pz "spent" (.int ((j.spent:Int)+1)) j.fds)) [some (cu C a j.fds)])=_;rw[j6 j.flat];rfl
theorem EG:eW [a] C 0 "part" (gC (.int 1)) [some (j.d C a)]=.nx [some (Jb.d C a { j with part:=j.part+1 })]:=by unfold eW;rw[md];show Sr.nx (kS a (cu C a (pz "part" (.int ((j.part:Int)+1)) j.fds)) [some (cu C a j.fds)])=_;rw[j6 j.flat];rfl
theorem GL:eW [a] C 0 "job" (gC (.int 1)) [some (j.d C a)]=.nx [some (Jb.d C a { j with job:=j.job+1 })]:=by unfold eW;rw[md];show Sr.nx (kS a (cu C a (pz "job" (.int ((j.job:Int)+1)) j.fds)) [some (cu C a j.fds)])=_;rw[j6 j.flat];rfl
theorem By:lX [a] C 0 "spent" (gC (.int 0)) [some (j.d C a)]=.nx [some (Jb.d C a { j with spent:=0 })]:=by unfold lX;rw[md];show Sr.nx (kS a (cu C a (pz "spent" (.int 0) j.fds)) [some (cu C a j.fds)])=_;rw[j6 j.flat];rfl
theorem E5:lX [a] C 0 "part" (gC (.int 0)) [some (j.d C a)]=.nx [some (Jb.d C a { j with part:=0 })]:=by unfold lX;rw[md];show Sr.nx (kS a (cu C a (pz "part" (.int 0) j.fds)) [some (cu C a j.fds)])=_;rw[j6 j.flat];rfl
end
def Jb.step1(j:Jb)(n:Int):Jb:=if (j.spent:Int)+1=n then { j with spent:=0,part:=j.part+1 } else { j with spent:=j.spent+1 }
def Jb.step2(j:Jb):Jb:=if j.part=j.parts.length then { j with part:=0,job:=j.job+1 } else j
def Jb.len(j:Jb):Int:=(j.parts[j.part]?.map (·.1)).getD 0
def Jb.next(j:Jb):Jb:=(j.step1 j.len).step2
theorem Ic(h:j.part<j.parts.length):gK cs [a] [some (j.d cs.Jobs a)]=.nx [some (j.next.d cs.Jobs a)]:=by
 have b:j.parts[j.part]?=some j.parts[j.part]:=My h;have hn:j.len=j.parts[j.part].1:=by unfold Jb.len;rw[b];rfl
 have second:∀k:Jb,sIf (gT (g2 dEq (g1 (bx cs.Jobs "part") (af 0)) (gF cM (ae (g1 (bx cs.Jobs "parts") (af 0)) ah)))) (aJ (lX [a] cs.Jobs 0 "part" (gC (.int 0))) (eW [a] cs.Jobs 0 "job" (gC (.int 1)))) bj [some (k.d cs.Jobs a)]=.nx [some (k.step2.d cs.Jobs a)]:=by
  intro k;have hc:gT (g2 dEq (g1 (bx cs.Jobs "part") (af 0)) (gF cM (ae (g1 (bx cs.Jobs "parts") (af 0)) ah))) [some (k.d cs.Jobs a)]=.ok ((k.part:Int)==(k.parts.length:Int)):=by simp only[fB,cO,jF,ig,aA,aM,au,Rs.ag,oX,mw,Rs.aj,DR,N4,jV,bH]
  unfold Jb.step2;by_cases z:k.part=k.parts.length
  ·have e:((k.part:Int)==(k.parts.length:Int))=true:=by rw[z];exact beq_self_eq_true _
   rw[if_pos z];simp only[dP,hc,e,ax,if_true,aX,E5,GL]
  ·have e:((k.part:Int)==(k.parts.length:Int))=false:=by rw[beq_eq_false_iff_ne];omega
   rw[if_neg z];simp only[dP,hc,e,ax,NS,if_false,iF]
 have hc:gT (g2 dEq (g1 (bx cs.Jobs "spent") (af 0)) (g2 dIx (g2 dIx (g1 (bx cs.Jobs "parts") (af 0)) (g1 (bx cs.Jobs "part") (af 0))) (gC (.int 0)))) [some (Jb.d cs.Jobs a { j with spent:=j.spent+1 })]=.ok (((j.spent:Int)+1)==j.len):=by have q:=ux (j:={ j with spent:=j.spent+1 }) b;have c:dIx (aQ j.parts[j.part]) (.int 0)=some (.int j.parts[j.part].1):=rfl;simp only[fB,cO,jF,au,dY,Rs.ag,jN,mw,oX,Rs.aj,q,c,jV,bH,hn];rfl
 unfold gK Jb.next Jb.step1;by_cases z:(j.spent:Int)+1=j.len
 ·have e:(((j.spent:Int)+1)==j.len)=true:=by rw[z];exact beq_self_eq_true _
  rw[if_pos z];simp only[aX,tQ];rw[dP,hc];simp only[e,ax,if_true,aX,By,EG];exact second _
 ·have e:(((j.spent:Int)+1)==j.len)=false:=by rw[beq_eq_false_iff_ne];exact z
  rw[if_neg z];simp only[aX,tQ];rw[dP,hc];simp only[e,ax,NS,if_false,iF];exact second _
theorem Dn{a b:Option Int}(h:bW a=bW b):a=b:=by cases a <;> cases b <;> first|rfl|(injection h with h;rw[h])|cases h
theorem BZ{p q:Int×Option Int}(h:aQ p=aQ q):p=q:=by
 obtain⟨a,o⟩:=p;obtain⟨b,u⟩:=q;unfold aQ at h;injection h with h
 injection h with h1 h2
 injection h1 with h1
 injection h2 with h2 _
 have c:=Dn h2;exact Prod.ext h1 c
theorem p8{α β:Type}{f:α->β}(c:∀x y,f x=f y->x=y):∀{l m:List α},l.map f=m.map f->l=m
 |[],[],_=>rfl
 |[],_::_,h=>by cases h
 |_::_,[],h=>by cases h
 |a::l,b::m,h=>by
  rw[N1,N1]at h;injection h with h1 h2
  rw[c a b h1,p8 c h2]
theorem GZ{k:Jb}(h:j.fds=k.fds):j=k:=by
 obtain⟨a1,a2,a3,a4,a,b,c⟩:=j;obtain⟨b1,b2,b3,b4,e,f,g⟩:=k;unfold Jb.fds fi at h;simp only[List.cons.injEq,Prod.mk.injEq,true_and,and_true,PyData.int.injEq,PyData.tuple.injEq,PyData.list.injEq]at h;obtain⟨h1,h2,i,l,h5,h6,h7⟩:=h;have e2:=p8 (λx y=>BZ) h2;have m:=p8 (λx y(q:PyData.int x=PyData.int y)=>by injection q) l;have n:a=e:=by omega
 have o:b=f:=by omega
 have p:c=g:=by omega
 subst h1 i e2 m n o p;rfl
open Classical in
def fX:List (Str×PyData)->Option (List (Str×PyData)):=λfds=>if h:∃j:Jb,j.part<j.parts.length/\fds=j.fds then some (Classical.choose h).next.fds else none
theorem IP(h:j.part<j.parts.length):fX j.fds=some j.next.fds:=by
 have a:∃k:Jb,k.part<k.parts.length/\j.fds=k.fds:=⟨j,h,rfl⟩
 unfold fX;rw[dif_pos a];have:=GZ (Classical.choose_spec a).2;rw[<-this]
theorem DH(cs:Cs):∀a fds b,gB fds=true->fds.length<1000->fX fds=some b->∃δ,gK cs [a] (some (cu cs.Jobs a fds)::List.replicate 0 none)=.nx δ/\δ[0]?=some (some (cu cs.Jobs a b)):=by
 intro a fds b _ _ e;by_cases hx:∃k:Jb,k.part<k.parts.length/\fds=k.fds
 ·obtain⟨k,c,rfl⟩:=hx;rw[IP c]at e;cases e;exact⟨_,Ic c,rfl⟩
 ·unfold fX at e;rw[dif_neg hx]at e;cases e
instance:Inhabited Jb:=⟨⟨0,[],0,[],0,0,0⟩⟩
def ju(ks:List PyData):Nat:=bst (λi j=>ltD (ks.getD i .none) (ks.getD j .none)) (ks.length-1)
def f6(key:Jb->PyData)(js:List Jb):Jb:=js.getD (ju (js.map key)) default
theorem qf{C:Addr}{g:PyData->Rs PyData}{key:Jb->PyData}:∀{ts:List (Addr×Jb)},(∀p∈ts,g (jD C p)=.ok (key p.2))->allR g (ts.map (jD C))=.ok ((ts.map (·.2)).map key)
 |[],_=>rfl
 |p::r,h=>by
  have a:=qf (ts:=r) λx b=>h x (N0 _ b)
  rw[N1];unfold allR;rw[h p N3,Rs.ag,a,Rs.ag];rfl
theorem lZ(hd:ga δ=.ok (.list (ts.map (jD C))))(o:ts≠[])(f:∀p∈ts,gb (some (jD C p)::u7 cap δ)=.ok (key p.2))
  (hK:(∀p∈ts,∃n:Int,key p.2=.int n)\/(∀p∈ts,∃a b:Int,key p.2=.tuple [.int a,.int b])):∃q∈ts,q.2=f6 key (ts.map (·.2))/\jq cap ga gb δ=.ok (jD C q):=by
 have hlen:0<ts.length:=Ov.mpr o;have e:=qf (C:=C) (g:=λx=>gb (some x::u7 cap δ)) (key:=key) f;have q:keysOk ((ts.map (·.2)).map key)=true:=by
  unfold keysOk;rw[Bool.or_eq_true];rcases hK with hK|hK
  ·refine .inl (NM.mpr λk f=>?_);obtain⟨j,h,rfl⟩:=N9.mp f;obtain⟨p,l,rfl⟩:=N9.mp h;obtain⟨n,hn⟩:=hK p l;rw[hn];rfl
  ·refine .inr (NM.mpr λk f=>?_);obtain⟨j,h,rfl⟩:=N9.mp f;obtain⟨p,l,rfl⟩:=N9.mp h;obtain⟨a,b,hn⟩:=hK p l;rw[hn];rfl
 have hb:=vh (λi j=>ltD (((ts.map (·.2)).map key).getD i .none) (((ts.map (·.2)).map key).getD j .none)) (ts.length-1);have m:ju ((ts.map (·.2)).map key)=bst (λi j=>ltD (((ts.map (·.2)).map key).getD i .none) (((ts.map (·.2)).map key).getD j .none)) (ts.length-1):=by unfold ju;rw[N4,N4]
 have c:ju ((ts.map (·.2)).map key)<ts.length:=by rw[m];omega
 refine⟨ts[ju ((ts.map (·.2)).map key)],NQ c,?_,?_⟩
 ·unfold f6;rw[NH,NK,My c];rfl
 ·unfold jq;rw[hd];simp only[Rs.ag,N4,if_pos hlen,e];show (if keysOk _=true then Rs.eN _ else Rs.no)=_;rw[if_pos q,<-m,NK,My c];rfl
def qT(js:List Jb)(tool:Option Int):Option Jb:=tool.bind λt=>js.find? λj=>j.held==some t
theorem Af{tool:Option Int}:(qT (ts.map (·.2)) tool=none/\jO C ts tool=.none)\/∃q∈ts,qT (ts.map (·.2)) tool=some q.2/\jO C ts tool=jD C q:=by
 unfold qT jO;cases tool with
 |none=>exact .inl ⟨rfl,rfl⟩
 |some t =>
  have hm:(ts.map (·.2)).find? (λj=>j.held==some t)=(ts.find? (holdsT t)).map (·.2):=by rw[List.find?_map];rfl
  simp only[P8,hm];cases h:ts.find? (holdsT t) with
  |none=>exact .inl ⟨rfl,rfl⟩
  |some p=>exact .inr ⟨p,List.mem_of_find?_eq_some h,rfl,rfl⟩
def uj(js:List Jb)(l:List (Int×Int))(j:Jb):List (Int×Int):=match qT js j.wanted with
 |none=>l
 |some o=>zw l o.num (if (lK l o.num).getD o.rank<j.rank then (lK l o.num).getD o.rank else j.rank)
def tI(js:List Jb):List (Int×Int):=js.foldl (uj js) []
theorem Di(h:∀p∈ts,p.2.part<p.2.parts.length)(c:p∈ts)(hl:l.length<1000000)(x3:Option PyData) :
  ∃x,lrB cs [some (.list (ts.map (jD cs.Jobs))),some (cV l),some (jD cs.Jobs p),x3]=.nx [some (.list (ts.map (jD cs.Jobs))),some (cV (uj (ts.map (·.2)) l p.2)),some (jD cs.Jobs p),x]:=by
 have hm:ao (bJ cs) (ae (af 0) (ae (br cs.Jobs "wanted" (aL cs) (af 2) ah) ah)) [some (.list (ts.map (jD cs.Jobs))),none,some (jD cs.Jobs p),x3]=.ok (jO cs.Jobs ts p.2.wanted):=by
  have h2:br cs.Jobs "wanted" (aL cs) (af 2) ah [some (.list (ts.map (jD cs.Jobs))),none,some (jD cs.Jobs p),x3]=.ok (bW p.2.wanted):=by unfold br;simp only[au,aw,Rs.ag];rw[if_pos (show isC cs.Jobs "wanted" (jD cs.Jobs p)=true from qM)];simp only[aM,Rs.ag];exact sq (h p c)
  simp only[bI,aA,aM,au,h2,Rs.ag];exact tH h
 have a:aU [1] 3 (ao (bJ cs) (ae (af 0) (ae (br cs.Jobs "wanted" (aL cs) (af 2) ah) ah))) [some (.list (ts.map (jD cs.Jobs))),some (cV l),some (jD cs.Jobs p),x3]=.nx [some (.list (ts.map (jD cs.Jobs))),some (cV l),some (jD cs.Jobs p),some (jO cs.Jobs ts p.2.wanted)]:=by show (if 3<4 then ofR (ao (bJ cs) (ae (af 0) (ae (br cs.Jobs "wanted" (aL cs) (af 2) ah) ah)) [some (.list (ts.map (jD cs.Jobs))),none,some (jD cs.Jobs p),x3]) _ else _)=_;rw[if_pos (by decide),hm];rfl
 unfold lrB uj;simp only[aX,a];rcases Af (C:=cs.Jobs) (ts:=ts) (tool:=p.2.wanted) with⟨b,e⟩|⟨q,hq,b,e⟩
 ·rw[e,b];exact⟨_,rfl⟩
 ·rw[e,b];simp only[dP,fB,jF,au,aw,Rs.ag,GK,Rs.aj,bH,ax,if_true];have f1:bx cs.Jobs "number" (jD cs.Jobs q)=some (.int q.2.num):=yq;have f2:bx cs.Jobs "rank" (jD cs.Jobs q)=some (.int q.2.rank):=oQ;have f:bx cs.Jobs "rank" (jD cs.Jobs p)=some (.int p.2.rank):=oQ;refine⟨some (jD cs.Jobs q),?_⟩;unfold qe;simp only[OE,OF,sP,ig,aA,aM,jF,au,aw,Rs.ag,f1,f2,f,Rs.aj,lH,yn,ax,if_pos hl];rfl
theorem B7(js:List Jb)(l:List (Int×Int))(j:Jb):(uj js l j).length<=l.length+1:=by
 unfold uj;split
 ·exact Pb _
 ·exact G3 _ _ _
theorem xr{cs:Cs}{ts:List (Addr×Jb)}(h:∀p∈ts,p.2.part<p.2.parts.length):∀(us:List (Addr×Jb))(l:List (Int×Int))(x2 x3:Option PyData),(∀p∈us,p∈ts)->l.length+us.length<1000000 ->
  ∃a b,forL (bO 2) (lrB cs) (us.map (jD cs.Jobs)) [some (.list (ts.map (jD cs.Jobs))),some (cV l),x2,x3]=.nx [some (.list (ts.map (jD cs.Jobs))),some (cV ((us.map (·.2)).foldl (uj (ts.map (·.2))) l)),a,b]
 |[],l,x2,x3,_,_=>⟨x2,x3,rfl⟩
 |p::r,l,x2,x3,hu,hl=>by have h1:bO 2 (jD cs.Jobs p) [some (.list (ts.map (jD cs.Jobs))),some (cV l),x2,x3]=some [some (.list (ts.map (jD cs.Jobs))),some (cV l),some (jD cs.Jobs p),x3]:=rfl;rw[NJ]at hl;obtain⟨x,e1⟩:=Di (cs:=cs) h (hu p N3) (l:=l) (by omega) x3;have hl1:=B7 (ts.map (·.2)) l p.2;rw[N1];unfold forL;rw[h1];simp only[e1];exact xr h r _ _ _ (λq c=>hu q (N0 _ c)) (by omega)
theorem Il(h:∀p∈ts,p.2.part<p.2.parts.length)(hl:ts.length<=1000):cB cs [.list (ts.map (jD cs.Jobs))]=.ok (cV (tI (ts.map (·.2)))):=by obtain⟨y2,y3,e⟩:=xr (cs:=cs) h ts [] none none (λp a=>a) (by rw[OI];omega);show bf (gP cs (aL cs) (bJ cs) [some (.list (ts.map (jD cs.Jobs))),none,none,none])=_;have b:xN 1 [some (.list (ts.map (jD cs.Jobs))),none,none,none]=.nx [some (.list (ts.map (jD cs.Jobs))),some (cV []),none,none]:=rfl;have c:fP [1] (bY (af 0)) (bO 2) (lrB cs) [some (.list (ts.map (jD cs.Jobs))),some (cV []),none,none]=forL (bO 2) (lrB cs) (ts.map (jD cs.Jobs)) [some (.list (ts.map (jD cs.Jobs))),some (cV []),none,none]:=rfl;show bf (aJ (xN 1) (aJ (fP [1] (bY (af 0)) (bO 2) (lrB cs)) (bp (af 1))) [some (.list (ts.map (jD cs.Jobs))),none,none,none])=_;simp only[aX,b,c,e];rfl
def fU(tops:PyData)(t:Int):Int:=match dIx tops (.int t) with
 |some (.int n)=>n
 |_=>0
def fD(tops:PyData)(j:Jb):PyData:=match j.held with
 |none=>.tuple [.int j.rank,.int 1]
 |some t=>.tuple [.int (if fU tops t<j.rank then fU tops t else j.rank),.int 0]
theorem He(h:p.2.part<p.2.parts.length)(c:∀t,p.2.held=some t->∃n:Int,dIx tops (.int t)=some (.int n)):bS cs [jD cs.Jobs p,tops]=.ok (fD tops p.2):=by
 have b:bx cs.Jobs "rank" (jD cs.Jobs p)=some (.int p.2.rank):=oQ;unfold fD;cases z:p.2.held with
 |none =>
  show bf (bX cs (aT cs) [some (jD cs.Jobs p),some tops,none])=_;unfold bX;have hm:=sr (cs:=cs) (p:=p) (x:=some tops) (y:=none) h;rw[z]at hm;have a:aU [] 2 (br cs.Jobs "held" (aT cs) (af 0) ah) [some (jD cs.Jobs p),some tops,none]=.nx [some (jD cs.Jobs p),some tops,some .none]:=by rw[jd,hm];rfl
  simp only[aX,a,dP,fB,jF,au,aw,Rs.ag,Dg,FT,Rs.aj,bH,ax,if_true,bU,k7,aA,aM,b,dY,a9]
 |some t =>
  obtain⟨n,hn⟩:=c t z;have e:fU tops t=n:=by unfold fU;rw[hn]
  show bf (bX cs (aT cs) [some (jD cs.Jobs p),some tops,none])=_;unfold bX;have hm:=sr (cs:=cs) (p:=p) (x:=some tops) (y:=none) h;rw[z]at hm;have a:aU [] 2 (br cs.Jobs "held" (aT cs) (af 0) ah) [some (jD cs.Jobs p),some tops,none]=.nx [some (jD cs.Jobs p),some tops,some (.int t)]:=by rw[jd,hm];rfl
  simp only[aX,a,dP,fB,jF,cO,au,aw,Rs.ag,Dg,Cq,Rs.aj,bH,ax,NS,if_false,iF,bU,k7,aA,aM,b,hn,ig,yn,dY,a9,e]
def iw(js:List Jb)(j:Jb):Bool:=(qT js j.wanted).isNone
def Ih(l:List (Int×Int))(j:Jb):PyData:=.int ((lK l j.num).getD j.rank)
def bZ(tops:PyData)(len:Str)(js:List Jb):Jb:=if (len==("high":Str))=true then f6 (fD tops) js else f6 (Ih (if (len==("asked":Str))=true then tI js else [])) (js.filter (iw js))
theorem wj{tool:Option Int}:fj (jO C ts tool)=(qT (ts.map (·.2)) tool).isNone:=by
 rcases Af (C:=C) (ts:=ts) (tool:=tool) with⟨a,e⟩|⟨q,_,a,e⟩
 ·rw[e,a];rfl
 ·rw[e,a];rfl
theorem pk(h:ts≠[]):ts.filter (λp=>iw (ts.map (·.2)) p.2)≠[]:=by obtain⟨p,b,e⟩:=Fo h (C:=0);refine PL (a:=p) (NW.mpr ⟨b,?_⟩);unfold iw;rw[<-wj (C:=0),e];rfl
theorem my{C:Addr}{ts:List (Addr×Jb)}{f:PyData->Bool}{g:Jb->Bool}:∀{us:List (Addr×Jb)},(∀p∈us,f (jD C p)=g p.2)->(us.map (jD C)).filter f=(us.filter λp=>g p.2).map (jD C)
 |[],_=>rfl
 |p::r,h=>by
  have a:=my (ts:=ts) (us:=r) λx b=>h x (N0 _ b)
  rw[N1,OT,OT,h p N3,a];cases g p.2 <;> rfl
theorem B4{len:Str}(j:ts≠[])(hl:ts.length<=1000)(h:∀p∈ts,p.2.part<p.2.parts.length)(r:∀p∈ts,∀t,p.2.held=some t->∃n:Int,dIx tops (.int t)=some (.int n))(m:uS len) :
  ∃q∈ts,q.2=bZ tops len (ts.map (·.2))/\cR cs [.list (ts.map (jD cs.Jobs)),tops,.str len]=.ok (jD cs.Jobs q):=by
 have o:gT (g2 dEq (af 2) (gC (.str "high"))) [some (.list (ts.map (jD cs.Jobs))),some tops,some (.str len),none,none]=.ok (len=="high"):=by simp only[fB,cO,au,aw,dY,Rs.ag,eq_str m.sh vN,Rs.aj,bH]
 show ∃q∈ts,q.2=_/\bf (kh cs (cB cs) (aL cs) (bJ cs) (bS cs) [some (.list (ts.map (jD cs.Jobs))),some tops,some (.str len),none,none])=.ok _;unfold kh bZ;cases z:(len==("high":Str)) with
 |true =>
  obtain⟨q,i,e2,e⟩:=lZ (C:=cs.Jobs) (cap:=[1]) (ga:=af 0) (gb:=ao (bS cs) (ae (af 0) (ae (af 1) ah))) (δ:=[some (.list (ts.map (jD cs.Jobs))),some tops,some (.str len),none,none]) (key:=fD tops) rfl j (λp a=>He (h p a) (r p a)) (.inr λp a=>by unfold fD;cases p.2.held <;> exact⟨_,_,rfl⟩)
  refine⟨q,i,by rw[if_pos rfl];exact e2,?_⟩;simp only[aX,dP,o,z,ax,if_true,bU,e,a9]
 |false =>
  have hc:ba 5 (bY (af 0)) (gT (g1 lj (ao (bJ cs) (ae (af 0) (ae (br cs.Jobs "wanted" (aL cs) (af 5) ah) ah))))) (af 5) aS [some (.list (ts.map (jD cs.Jobs))),some tops,some (.str len),none,none]=.ok ((ts.filter λp=>iw (ts.map (·.2)) p.2).map (jD cs.Jobs)):=by
   rw[<-my (ts:=ts) (f:=DN cs [some (.list (ts.map (jD cs.Jobs))),some tops,some (.str len),none,none]) (λp a=>by have g:=As (cs:=cs) (x1:=some tops) (x2:=some (.str len)) (x3:=none) (x4:=none) h a;unfold DN;simp only[Oe,O9,g];exact wj)]
   refine uF rfl rfl (by rw[N4];omega) λd hd=>?_
   obtain⟨p,a,rfl⟩:=N9.mp hd;refine⟨?_,rfl⟩;have g:=As (cs:=cs) (x1:=some tops) (x2:=some (.str len)) (x3:=none) (x4:=none) h a;unfold DN;simp only[Oe,O9,g];simp only[fB,jF,g,Rs.ag,Dg,Rs.aj,bH]
  have hn:=pk j;have s:(ts.map (·.2)).filter (iw (ts.map (·.2)))=(ts.filter λp=>iw (ts.map (·.2)) p.2).map (·.2):=by rw[List.filter_map];rfl
  have c:∀p∈ts.filter (λp=>iw (ts.map (·.2)) p.2),p∈ts:=λp a=>(NW.mp a).1
  rw[s];generalize (ts.filter λp=>iw (ts.map (·.2)) p.2)=fr at hc hn c;have b:gIf (gT (g2 dEq (af 2) (gC (.str "asked")))) (ao (cB cs) (ae (af 0) ah)) (gC (cV [])) [some (.list (ts.map (jD cs.Jobs))),some tops,some (.str len),some (.list (fr.map (jD cs.Jobs))),none]=.ok (cV (if (len==("asked":Str))=true then tI (ts.map (·.2)) else [])):=by
   have u:gT (g2 dEq (af 2) (gC (.str "asked"))) [some (.list (ts.map (jD cs.Jobs))),some tops,some (.str len),some (.list (fr.map (jD cs.Jobs))),none]=.ok (len=="asked"):=by simp only[fB,cO,au,aw,dY,Rs.ag,eq_str m.sh Fn,Rs.aj,bH]
   unfold gIf;rw[u];simp only[Rs.ag];cases (len==("asked":Str)) with
   |true=>simp only[if_true,bI,aA,aM,au,Rs.ag,Il h hl]
   |false=>simp
  generalize (if (len==("asked":Str))=true then tI (ts.map (·.2)) else [])=l at b;obtain⟨q,i,e2,e⟩:=lZ (C:=cs.Jobs) (cap:=[4]) (ga:=af 3) (gb:=lH (af 1) (g1 (bx cs.Jobs "number") (af 0)) (g1 (bx cs.Jobs "rank") (af 0))) (δ:=[some (.list (ts.map (jD cs.Jobs))),some tops,some (.str len),some (.list (fr.map (jD cs.Jobs))),some (cV l)]) (key:=Ih l) rfl hn (λp a=>by have f1:bx cs.Jobs "number" (jD cs.Jobs p)=some (.int p.2.num):=yq;have f2:bx cs.Jobs "rank" (jD cs.Jobs p)=some (.int p.2.rank):=oQ;show lH (af 1) (g1 (bx cs.Jobs "number") (af 0)) (g1 (bx cs.Jobs "rank") (af 0)) [some (jD cs.Jobs p),some (cV l)]=_;unfold lH;simp only[au,aw,Rs.ag,sP,jF,f1,f2,Rs.aj];rfl) (.inl λp a=>⟨_,rfl⟩)
  refine⟨q,c q i,by rw[if_neg NO];exact e2,?_⟩;have v:aU [] 3 (gL (ba 5 (bY (af 0)) (gT (g1 lj (ao (bJ cs) (ae (af 0) (ae (br cs.Jobs "wanted" (aL cs) (af 5) ah) ah))))) (af 5) aS)) [some (.list (ts.map (jD cs.Jobs))),some tops,some (.str len),none,none]=.nx [some (.list (ts.map (jD cs.Jobs))),some tops,some (.str len),some (.list (fr.map (jD cs.Jobs))),none]:=by rw[jd,kX,hc];rfl
  have w:aU [] 4 (gIf (gT (g2 dEq (af 2) (gC (.str "asked")))) (ao (cB cs) (ae (af 0) ah)) (gC (cV []))) [some (.list (ts.map (jD cs.Jobs))),some tops,some (.str len),some (.list (fr.map (jD cs.Jobs))),none]=.nx [some (.list (ts.map (jD cs.Jobs))),some tops,some (.str len),some (.list (fr.map (jD cs.Jobs))),some (cV l)]:=by rw[jd,b];rfl
  simp only[aX,dP,o,z,ax,NS,if_false,iF,v,w,bU,e,a9]
theorem vT:fE a nd (jD C p)=if p.1=a then nd else jD C p:=by
 have b:=p.2.flat;have c:jP ((PyData.str "",PyData.int (C:Int))::(PyData.str "@",PyData.int (p.1:Int))::p.2.fds.map λx=>(PyData.str x.1,x.2))=some (p.1:Int):=by unfold jP;unfold gB at b;simp[b]
 unfold jD Jb.d cu fE;rw[c];by_cases z:p.1=a
 ·rw[if_pos z,if_pos (by rw[z])]
 ·have f:¬ (some (p.1:Int)=some (a:Int)):=λe=>z (Int.ofNat.inj (Option.some.inj e))
  rw[if_neg z,if_neg f]
theorem Bo{C a:Addr}{j:Jb}:∀ts:List (Addr×Jb),jC a (jD C (a,j)) (ts.map (jD C))=(ts.map λp=>if p.1=a then (a,j) else p).map (jD C)
 |[]=>rfl
 |p::r=>by
  rw[N1,N1,N1];unfold jC;rw[Bo r,vT];by_cases z:p.1=a
  ·rw[if_pos z,if_pos z]
  ·rw[if_neg z,if_neg z]
theorem CY:fE a (jD C (a,j)) (.list (ts.map (jD C)))=.list ((ts.map λp=>if p.1=a then (a,j) else p).map (jD C)):=by unfold fE;rw[Bo]
mutual
theorem nB{a:Addr}{nd:PyData}:∀d:PyData,aG d=true->fE a nd d=d
 |.none,_=>by unfold fE;rfl
 |.bool _,_=>by unfold fE;rfl
 |.int _,_=>by unfold fE;rfl
 |.str _,_=>by unfold fE;rfl
 |.list ds,h=>by unfold fE;rw[vB ds (by simpa[aG] using h)]
 |.tuple ds,h=>by unfold fE;rw[vB ds (by simpa[aG] using h)]
 |.dict _,h=>by simp[aG]at h
theorem vB{a:Addr}{nd:PyData}:∀ds:List PyData,dN ds=true->jC a nd ds=ds
 |[],_=>by unfold jC;rfl
 |d::r,h=>by unfold dN at h;rw[N7]at h;unfold jC;rw[nB d h.1,vB r h.2]
end
theorem pM{C:Addr}{elt:Ds->Rs PyData}{δ:Ds}{k:Jb->PyData}:∀(ts:List (Addr×Jb)),(∀p∈ts,elt (δ++[some (jD C p)])=.ok (k p.2))->eR bo elt aS δ (ts.map (jD C))=.ok ((ts.map (·.2)).map k)
 |[],_=>rfl
 |p::r,h=>by
  have a:=pM r λe b=>h e (N0 _ b)
  rw[N1];unfold eR;simp only[aS,bo,Rs.dj,Rs.ag,if_true,h p N3];rw[a];rfl
def Jb.done(j:Jb):Bool:=(j.job:Int)==(j.row.length:Int)
def rnD(C:Addr)(E R W tops:PyData)(len:Str)(qs:List (Addr×Jb))(told:List PyData)(x7 x8:Option PyData):Ds:=[some E,some R,some W,some (.str len),some tops,some (.list (qs.map (jD C))),some (.list told),x7,x8]
section
variable {E R W:PyData}{len:Str}{qs:List (Addr×Jb)}{told:List PyData}{x7 x8:Option PyData}
theorem cond_of(hl:qs.length<=1000):gm (gT (gF oN (ae (gL (ba 9 (bY (af 5)) bo (br cs.Jobs "are_done" (aV cs) (af 9) ah) aS)) ah))) (rnD cs.Jobs E R W tops len qs told x7 x8)=.ok (!((qs.map (·.2)).all Jb.done)):=by
 have hc:ba 9 (bY (af 5)) bo (br cs.Jobs "are_done" (aV cs) (af 9) ah) aS (rnD cs.Jobs E R W tops len qs told x7 x8)=.ok ((qs.map (·.2)).map λj=>.bool j.done):=by
  unfold ba;rw[if_pos (show (rnD cs.Jobs E R W tops len qs told x7 x8).length=9 from rfl)];rw[show bY (af 5) (rnD cs.Jobs E R W tops len qs told x7 x8)=.ok (qs.map (jD cs.Jobs)) from rfl];simp only[Rs.ag];rw[if_pos (by rw[N4];omega)];refine pM qs λp hp=>?_
  show br cs.Jobs "are_done" (aV cs) (af 9) ah [some E,some R,some W,some (.str len),some tops,some (.list (qs.map (jD cs.Jobs))),some (.list told),x7,x8,some (jD cs.Jobs p)]=_;unfold br;simp only[au,aw,Rs.ag];rw[if_pos (show isC cs.Jobs "are_done" (jD cs.Jobs p)=true from uC)];simp only[aM,Rs.ag];exact wt
 have a:=km Jb.done (qs.map (·.2));simp only[uZ,fB,ig,aA,aM,kX,hc,Rs.ag,a,Rs.aj,bH]
def cQ(told:List PyData)(p:Addr×Jb):Bool:=p.2.there (told.length:Int)
theorem oy(h:∀p∈qs,p.2.job<=p.2.row.length){x6:Option PyData}:∀(us:List (Addr×Jb)),(∀p∈us,p∈qs) ->
  fL (gT (br cs.Jobs "is_there" (aO cs) (af 9) (ae (gF cM (ae (af 6) ah)) ah))) (af 9) aS [some E,some R,some W,some (.str len),some tops,some (.list (qs.map (jD cs.Jobs))),x6,x7,x8] (rnD cs.Jobs E R W tops len qs told x7 x8) (us.map (jD cs.Jobs))=.ok ((us.filter (cQ told)).map (jD cs.Jobs))
 |[],_=>rfl
 |p::r,hu=>by
  have a:=oy h (x6:=x6) r λq b=>hu q (N0 _ b)
  have hc:gT (br cs.Jobs "is_there" (aO cs) (af 9) (ae (gF cM (ae (af 6) ah)) ah)) (rnD cs.Jobs E R W tops len qs told x7 x8++[some (jD cs.Jobs p)])=.ok (cQ told p):=by show gT (br cs.Jobs "is_there" (aO cs) (af 9) (ae (gF cM (ae (af 6) ah)) ah)) [some E,some R,some W,some (.str len),some tops,some (.list (qs.map (jD cs.Jobs))),some (.list told),x7,x8,some (jD cs.Jobs p)]=_;rw[fB];unfold br;simp only[au,aw,Rs.ag];rw[if_pos (show isC cs.Jobs "is_there" (jD cs.Jobs p)=true from vk)];simp only[aA,aM,ig,au,aw,pF,Rs.aj,Rs.ag];rw[show aO cs [jD cs.Jobs p,.int (told.length:Int)]=_ from xg (h p (hu p N3))];rfl
  rw[N1];unfold fL;rw[show aS (jD cs.Jobs p)=some [some (jD cs.Jobs p)] from rfl];simp only[hc,Rs.dj,Rs.ag];rw[OT];cases cQ told p with
  |true =>simp only[if_true];rw[show af 9 ([some E,some R,some W,some (.str len),some tops,some (.list (qs.map (jD cs.Jobs))),x6,x7,x8]++[some (jD cs.Jobs p)])=.ok (jD cs.Jobs p) from rfl];simp only[Rs.dj,Rs.ag,a];rfl
  |false=>simp only[NS,if_false,a]
end
mutual
theorem ko:∀d:PyData,aG d=true->objs d=true
 |.none,_=>by unfold objs;rfl
 |.bool _,_=>by unfold objs;rfl
 |.int _,_=>by unfold objs;rfl
 |.str _,_=>by unfold objs;rfl
 |.list ds,h=>by unfold objs;exact qZ ds (by simpa[aG] using h)
 |.tuple ds,h=>by unfold objs;exact qZ ds (by simpa[aG] using h)
 |.dict _,h=>by simp[aG]at h
theorem qZ:∀ds:List PyData,dN ds=true->jX ds=true
 |[],_=>by unfold jX;rfl
 |d::r,h=>by unfold dN at h;rw[N7]at h;unfold jX;rw[ko d h.1,qZ r h.2];rfl
end
theorem Bj:objs (jD C p)=true:=by unfold jD Jb.d;rw[xB];exact p.2.flat
theorem ui{C:Addr}:∀ts:List (Addr×Jb),jX (ts.map (jD C))=true
 |[]=>by unfold jX;rfl
 |p::r=>by rw[N1];unfold jX;rw[Bj,ui r];rfl
theorem zM:objs (.list (ts.map (jD C)))=true:=by unfold objs;exact ui ts
section
variable {E R W:PyData}{len:Str}{qs:List (Addr×Jb)}{told:List PyData}
structure NoD(E R W tops:PyData)(told:List PyData):Prop where
 e:aG E=true
 r:aG R=true
 w:aG W=true
 t:aG tops=true
 o:aG (.list told)=true
theorem Ce(n:NoD E R W tops told)(ha:q.1∈as):oE as cs.Jobs 8 (rnD cs.Jobs E R W tops len qs told (some (.list (ts.map (jD cs.Jobs)))) (some (jD cs.Jobs q)))=some (q.1,q.2.fds):=by
 have h1:gJ (rnD cs.Jobs E R W tops len qs told (some (.list (ts.map (jD cs.Jobs)))) (some (jD cs.Jobs q)))=true:=by
  unfold gJ rnD;have b:objs (.str len)=true:=by unfold objs;rfl
  simp only[P9,List.all_nil,OW,ko _ n.e,ko _ n.r,ko _ n.w,ko _ n.t,ko _ n.o,b,zM,Bj,PN]
 show (match objOf (jD cs.Jobs q) with|some (c,a,fds)=>if c=cs.Jobs/\a∈as/\gJ (rnD cs.Jobs E R W tops len qs told (some (.list (ts.map (jD cs.Jobs)))) (some (jD cs.Jobs q)))=true/\gB fds=true/\fds.length<1000 then some (a,fds) else none|none=>none)=_;rw[show objOf (jD cs.Jobs q)=some (cs.Jobs,q.1,q.2.fds) from tW _ _ _];exact if_pos ⟨rfl,ha,h1,q.2.flat,show 7<1000 by decide⟩
end
def vK(a:Addr)(j:Jb)(qs:List (Addr×Jb)):List (Addr×Jb):=qs.map λp=>if p.1=a then (a,j) else p
section
variable {E R W:PyData}{len:Str}{qs:List (Addr×Jb)}{told:List PyData}
theorem JX(n:NoD E R W tops told):kS q.1 (jD cs.Jobs (q.1,j)) (rnD cs.Jobs E R W tops len qs told (some (.list (ts.map (jD cs.Jobs)))) (some (jD cs.Jobs q)))=rnD cs.Jobs E R W tops len (vK q.1 j qs) told (some (.list ((vK q.1 j ts).map (jD cs.Jobs)))) (some (jD cs.Jobs (q.1,j))):=by
 have a:fE q.1 (jD cs.Jobs (q.1,j)) (.str len)=.str len:=by unfold fE;rfl
 have b:fE q.1 (jD cs.Jobs (q.1,j)) (jD cs.Jobs q)=jD cs.Jobs (q.1,j):=by rw[vT,if_pos rfl]
 unfold kS rnD vK;simp only[N1,Oq,OG,nB _ n.e,nB _ n.r,nB _ n.w,nB _ n.t,nB _ n.o,a,CY,b]
theorem HB(n:NoD E R W tops told)(ha:q.1∈as)(a:q.2.part<q.2.parts.length):k9 as cs.Jobs "go_on" 8 fX (rnD cs.Jobs E R W tops len qs told (some (.list (ts.map (jD cs.Jobs)))) (some (jD cs.Jobs q)))=.nx (rnD cs.Jobs E R W tops len (vK q.1 q.2.next qs) told (some (.list ((vK q.1 q.2.next ts).map (jD cs.Jobs)))) (some (jD cs.Jobs (q.1,q.2.next)))):=by unfold k9;rw[Ce n ha];have b:oz "go_on" q.2.fds=none:=rfl;simp only[b,if_true,IP a];exact congrArg Sr.nx (JX (cs:=cs) (len:=len) (qs:=qs) (ts:=ts) (q:=q) (j:=q.2.next) n)
end
section
variable {E R W:PyData}{len:Str}{qs:List (Addr×Jb)}{told:List PyData}{x7 x8:Option PyData}
theorem DU(hl:qs.length<=1000)(h:∀p∈qs,p.2.job<=p.2.row.length):rH [6] 7 9 (bY (af 5)) (gT (br cs.Jobs "is_there" (aO cs) (af 9) (ae (gF cM (ae (af 6) ah)) ah))) (af 9) aS (rnD cs.Jobs E R W tops len qs told x7 x8)=.nx (rnD cs.Jobs E R W tops len qs told (some (.list ((qs.filter (cQ told)).map (jD cs.Jobs)))) x8):=by
 have hm:mask [6] (rnD cs.Jobs E R W tops len qs told x7 x8)=[some E,some R,some W,some (.str len),some tops,some (.list (qs.map (jD cs.Jobs))),none,x7,x8]:=rfl;have hc:mT 9 (bY (af 5)) (gT (br cs.Jobs "is_there" (aO cs) (af 9) (ae (gF cM (ae (af 6) ah)) ah))) (af 9) aS (mask [6] (rnD cs.Jobs E R W tops len qs told x7 x8)) (rnD cs.Jobs E R W tops len qs told x7 x8)=.ok ((qs.filter (cQ told)).map (jD cs.Jobs)):=by rw[hm];unfold mT;rw[if_pos (show [some E,some R,some W,some (.str len),some tops,some (.list (qs.map (jD cs.Jobs))),none,x7,x8].length=9 from rfl)];rw[show bY (af 5) [some E,some R,some W,some (.str len),some tops,some (.list (qs.map (jD cs.Jobs))),none,x7,x8]=.ok (qs.map (jD cs.Jobs)) from rfl];simp only[Rs.ag];rw[if_pos (by rw[N4];omega)];exact oy h qs λp a=>a
 unfold rH;rw[if_pos (show 7<(rnD cs.Jobs E R W tops len qs told x7 x8).length from (by decide:7<9)),hc];rfl
end
def bq(told:List PyData)(js:List Jb):List Jb:=js.filter λj=>j.there (told.length:Int)
def dh(b:Jb)(js:List Jb):List Jb:=js.map λj=>if j.num=b.num then b.next else j
def fF(b:Jb):PyData:=.tuple [.int b.num,.int (b.job:Int)]
def cy(tops:PyData)(len:Str)(s:List Jb×List PyData):List Jb×List PyData :=
 if bq s.2 s.1=[] then (s.1,s.2++[.none]) else (dh (bZ tops len (bq s.2 s.1)) s.1,s.2++[fF (bZ tops len (bq s.2 s.1))])
structure QOk(as:List Addr)(qs:List (Addr×Jb)):Prop where
 few:qs.length<=1000
 pl:qs.map (·.1)=as
 nda:as.Nodup
 ndn:(qs.map (·.2.num)).Nodup
 pt:∀p∈qs,p.2.part<p.2.parts.length
 jb:∀p∈qs,p.2.job<=p.2.row.length
theorem nG{α β:Type}{f:α->β}:∀{l:List α},(l.map f).Nodup->∀x∈l,∀y∈l,f x=f y->x=y
 |[],_,x,b,_,_,_=>by cases b
 |a::r,h,x,b,y,c,e=>by
  rw[N1,O3]at h;rcases N5.mp b with rfl|b
  ·rcases N5.mp c with rfl|c
   ·rfl
   ·exact (h.1 (N9.mpr ⟨y,by assumption,e.symm⟩)).elim
  ·rcases N5.mp c with rfl|c
   ·exact (h.1 (N9.mpr ⟨x,by assumption,e⟩)).elim
   ·exact nG h.2 x b y c e
def rnB(cs:Cs)(as:List Addr):Ds->Sr:=(aJ (rH [6] 7 9 (bY (af 5)) (gT (br cs.Jobs "is_there" (aO cs) (af 9) (ae (gF cM (ae (af 6) ah)) ah))) (af 9) aS)
 (sIf (gT (g2 dEq (gF cM (ae (af 7) ah)) (gC (.int 0)))) (iI [6] 6 (gC .none)) (aJ (aU [6] 8 (ao (cR cs) (ae (af 7) (ae (af 4) (ae (af 3) ah)))))
 (aJ (iI [6] 6 (gu (ae (g1 (bx cs.Jobs "number") (af 8)) (ae (g1 (bx cs.Jobs "job") (af 8)) ah))))
 (k9 as cs.Jobs "go_on" 8 fX)))))
section
variable {E R W:PyData}{len:Str}{qs:List (Addr×Jb)}{told:List PyData}
theorem wL:(qs.filter (cQ told)).map (·.2)=bq told (qs.map (·.2)):=by unfold bq;rw[List.filter_map];rfl
theorem HG(K:QOk as qs)(a:q∈qs)(c:j=q.2.next):(vK q.1 j qs).map (·.2)=dh q.2 (qs.map (·.2)):=by
 unfold vK dh;rw[NG,NG];refine NI λp b=>?_
 show (if p.1=q.1 then (q.1,j) else p).2=if p.2.num=q.2.num then q.2.next else p.2
 by_cases z:p.1=q.1
 ·have:p=q:=nG (f:=(·.1)) (by rw[K.pl];exact K.nda) p b q a z;rw[if_pos z,if_pos (by rw[this]),c]
 ·have:p.2.num≠q.2.num:=λe=>z (by rw[nG (f:=λx:Addr×Jb=>x.2.num) K.ndn p b q a e])
  rw[if_neg z,if_neg this]
theorem Hb:(vK a j qs).map (·.1)=qs.map (·.1):=by
 unfold vK;rw[NG];refine NI λp hp=>?_
 show (if p.1=a then (a,j) else p).1=p.1;by_cases z:p.1=a
 ·rw[if_pos z,z]
 ·rw[if_neg z]
theorem GP(K:QOk as qs)(n:NoD E R W tops told)(m:uS len)(s:∀p∈qs,∀t,p.2.held=some t->∃n:Int,dIx tops (.int t)=some (.int n))(hl:told.length<1000000)(x7 x8:Option PyData) :
  ∃b u v,rnB cs as (rnD cs.Jobs E R W tops len qs told x7 x8)=.nx (rnD cs.Jobs E R W tops len b (cy tops len (qs.map (·.2),told)).2 u v)/\b.map (·.1)=qs.map (·.1)/\b.map (·.2)=(cy tops len (qs.map (·.2),told)).1:=by
 have f:=DU (cs:=cs) (E:=E) (R:=R) (W:=W) (tops:=tops) (len:=len) (told:=told) (x7:=x7) (x8:=x8) K.few K.jb;have hc:gT (g2 dEq (gF cM (ae (af 7) ah)) (gC (.int 0))) (rnD cs.Jobs E R W tops len qs told (some (.list ((qs.filter (cQ told)).map (jD cs.Jobs)))) x8)=.ok (((qs.filter (cQ told)).length:Int)==0):=by unfold rnD;simp only[fB,cO,ig,aA,aM,au,aw,dY,Rs.ag,pF,N4,Rs.aj,jV,bH]
 unfold rnB cy;simp only[aX,f];have c:=wL (qs:=qs) (told:=told);by_cases z:qs.filter (cQ told)=[]
 ·have h:(((qs.filter (cQ told)).length:Int)==0)=true:=by rw[z];rfl
  have i:bq told (qs.map (·.2))=[]:=by rw[<-c,z];rfl
  rw[if_pos i,dP,hc];simp only[h,ax,if_true];refine⟨qs,some (.list ((qs.filter (cQ told)).map (jD cs.Jobs))),x8,?_,rfl,rfl⟩;show (if told.length<1000000 then Sr.nx _ else Sr.no)=_;rw[if_pos hl];rfl
 ·have h:(((qs.filter (cQ told)).length:Int)==0)=false:=by rw[beq_eq_false_iff_ne];have:=Ov.mpr z;omega
  have i:¬ bq told (qs.map (·.2))=[]:=λe=>z (by rw[<-c]at e;exact List.map_eq_nil_iff.mp e)
  have a:∀p∈qs.filter (cQ told),p∈qs:=λp g=>(NW.mp g).1
  obtain⟨q,j,e2,e⟩:=B4 (cs:=cs) (tops:=tops) z (Oo (List.length_filter_le _ _) K.few) (λp g=>K.pt p (a p g)) (λp g=>s p (a p g)) m;rw[c]at e2;rw[if_neg i,dP,hc];simp only[h,ax,NS,if_false];have x:aU [6] 8 (ao (cR cs) (ae (af 7) (ae (af 4) (ae (af 3) ah)))) (rnD cs.Jobs E R W tops len qs told (some (.list ((qs.filter (cQ told)).map (jD cs.Jobs)))) x8)=.nx (rnD cs.Jobs E R W tops len qs told (some (.list ((qs.filter (cQ told)).map (jD cs.Jobs)))) (some (jD cs.Jobs q))):=by have l:ao (cR cs) (ae (af 7) (ae (af 4) (ae (af 3) ah))) (mask [6] (rnD cs.Jobs E R W tops len qs told (some (.list ((qs.filter (cQ told)).map (jD cs.Jobs)))) x8))=.ok (jD cs.Jobs q):=e;unfold aU;rw[if_pos (show 8<(rnD cs.Jobs E R W tops len qs told (some (.list ((qs.filter (cQ told)).map (jD cs.Jobs)))) x8).length from (by decide:8<9)),l];rfl
  have f1:bx cs.Jobs "number" (jD cs.Jobs q)=some (.int q.2.num):=yq;have f2:bx cs.Jobs "job" (jD cs.Jobs q)=some (.int (q.2.job:Int)):=uE;have y:iI [6] 6 (gu (ae (g1 (bx cs.Jobs "number") (af 8)) (ae (g1 (bx cs.Jobs "job") (af 8)) ah))) (rnD cs.Jobs E R W tops len qs told (some (.list ((qs.filter (cQ told)).map (jD cs.Jobs)))) (some (jD cs.Jobs q)))=.nx (rnD cs.Jobs E R W tops len qs (told++[fF q.2]) (some (.list ((qs.filter (cQ told)).map (jD cs.Jobs)))) (some (jD cs.Jobs q))):=by
   have l:gu (ae (g1 (bx cs.Jobs "number") (af 8)) (ae (g1 (bx cs.Jobs "job") (af 8)) ah)) (mask [6] (rnD cs.Jobs E R W tops len qs told (some (.list ((qs.filter (cQ told)).map (jD cs.Jobs)))) (some (jD cs.Jobs q))))=.ok (fF q.2):=by show gu _ [some E,some R,some W,some (.str len),some tops,some (.list (qs.map (jD cs.Jobs))),none,some (.list ((qs.filter (cQ told)).map (jD cs.Jobs))),some (jD cs.Jobs q)]=_;simp only[k7,aA,aM,jF,au,aw,Rs.ag,f1,f2,Rs.aj];rfl
   show ofR (gu _ (mask [6] _)) (λd=>if told.length<1000000 then Sr.nx _ else Sr.no)=_;rw[l];show (if told.length<1000000 then Sr.nx _ else Sr.no)=_;rw[if_pos hl];rfl
  have n':NoD E R W tops (told++[fF q.2]):=⟨n.e,n.r,n.w,n.t,by
   have h1:=n.o;refine ia λd hd=>?_
   rcases NY.mp hd with hd|hd
   ·exact jf (by simpa[aG] using h1) d hd
   ·rw[NA.mp hd];rfl⟩
  have ha:q.1∈as:=by rw[<-K.pl];exact N9.mpr ⟨q,a q j,rfl⟩
  have A:=HB (cs:=cs) (len:=len) (qs:=qs) (ts:=qs.filter (cQ told)) n' ha (K.pt q (a q j));simp only[aX,x,y,A];rw[<-e2];exact⟨_,_,_,rfl,Hb,HG K (a q j) rfl⟩
end
structure JOk(tops:PyData)(j:Jb):Prop where
 pt:j.part<j.parts.length
 jb:j.job<=j.row.length
 ln:∀p∈j.parts,1<=p.1
 sp:(j.spent:Int)<j.len
 tl:∀p∈j.parts,∀t,p.2=some t->∃n:Int,dIx tops (.int t)=some (.int n)
theorem JOk.held(h:JOk tops j):∀t,j.held=some t->∃n:Int,dIx tops (.int t)=some (.int n):=by
 intro t e;have hpt:=h.pt;have a:j.parts[j.part]?=some j.parts[j.part]:=My h.pt;unfold Jb.held Jb.tool at e;rw[a]at e;by_cases z:j.spent=0
 ·rw[if_pos z]at e;cases e
 ·rw[if_neg z]at e;exact h.tl _ (NQ h.pt) t e
theorem len_pos{tops:PyData}(h:∀p∈j.parts,1<=p.1)(a:j.part<j.parts.length):1<=j.len:=by unfold Jb.len;rw[My a];exact h _ (NQ a)
theorem GN(h:JOk tops j)(c:j.job<j.row.length):JOk tops j.next:=by
 have a:0<j.parts.length:=Nat.lt_of_le_of_lt (Oc _) h.pt;have hsp:=h.sp;unfold Jb.next Jb.step1;by_cases z:(j.spent:Int)+1=j.len
 ·rw[if_pos z];unfold Jb.step2;by_cases y:j.part+1=j.parts.length
  ·rw[if_pos (show ({ j with spent:=0,part:=j.part+1 }:Jb).part=({ j with spent:=0,part:=j.part+1 }:Jb).parts.length from y)];refine⟨a,c,h.ln,?_,h.tl⟩;have:=len_pos (tops:=tops) (j:={ j with spent:=0,part:=0,job:=j.job+1 }) h.ln a;show (0:Int)<_;exact PM (by decide) this
  ·rw[if_neg (show ¬ ({ j with spent:=0,part:=j.part+1 }:Jb).part=({ j with spent:=0,part:=j.part+1 }:Jb).parts.length from y)];have b:j.part+1<j.parts.length:=by have:=h.pt;omega
   refine⟨b,h.jb,h.ln,?_,h.tl⟩;have:=len_pos (tops:=tops) (j:={ j with spent:=0,part:=j.part+1 }) h.ln b;show (0:Int)<_;exact PM (by decide) this
 ·rw[if_neg z];unfold Jb.step2;rw[if_neg (show ¬ ({ j with spent:=j.spent+1 }:Jb).part=({ j with spent:=j.spent+1 }:Jb).parts.length from ND h.pt)];refine⟨h.pt,h.jb,h.ln,?_,h.tl⟩;show ((j.spent+1:Nat):Int)<j.len;omega
theorem nP(h:js≠[]):f6 key js∈js:=by
 have hl:0<js.length:=Ov.mpr h;have hb:=vh (λi j=>ltD ((js.map key).getD i .none) ((js.map key).getD j .none)) (js.length-1);have a:ju (js.map key)<js.length:=by unfold ju;rw[N4];omega
 unfold f6;rw[NH,My a];exact NQ a
theorem gR{len:Str}(h:js≠[]):bZ tops len js∈js:=by
 unfold bZ;split
 ·exact nP h
 ·have hn:=pk (ts:=js.map λj=>((0:Addr),j)) (by simpa using h);have hm:(js.map λj=>((0:Addr),j)).map (·.2)=js:=by rw[NG];exact Ot js
  rw[hm]at hn;have a:js.filter (iw js)≠[]:=by
   obtain⟨p,r,e⟩:=Pa hn;have b:p∈(js.map λj=>((0:Addr),j)).filter (λp=>iw js p.2):=by rw[e];exact N3
   obtain⟨h1,h2⟩:=NW.mp b;obtain⟨j,c,rfl⟩:=N9.mp h1;exact PL (NW.mpr ⟨c,h2⟩)
  exact (NW.mp (nP a)).1
theorem pR{t:Int}(h:j.there t=true):j.job<j.row.length:=by
 unfold Jb.there at h;by_cases z:j.job<j.row.length
 ·exact z
 ·rw[OO (by omega)]at h;cases h
theorem xq(j:Jb):j.next.num=j.num:=by unfold Jb.next Jb.step1 Jb.step2;split <;> split <;> rfl
structure yV(tops:PyData)(js:List Jb):Prop where
 ok:∀j∈js,JOk tops j
 nd:(js.map (·.num)).Nodup
theorem Cn{b:Jb}:(dh b js).map (·.num)=js.map (·.num):=by
 unfold dh;rw[NG];refine NI λj hj=>?_
 show (if j.num=b.num then b.next else j).num=j.num;by_cases z:j.num=b.num
 ·rw[if_pos z,xq,z]
 ·rw[if_neg z]
theorem uH{len:Str}{told:List PyData}(h:yV tops js):yV tops (cy tops len (js,told)).1:=by
 unfold cy;by_cases z:bq told js=[]
 ·rw[if_pos z];exact h
 ·rw[if_neg z];have a:=gR (tops:=tops) (len:=len) z;obtain⟨hm,b⟩:=NW.mp a;refine⟨λj c=>?_,by rw[Cn];exact h.nd⟩;obtain⟨k,e,rfl⟩:=N9.mp c;by_cases y:k.num=(bZ tops len (bq told js)).num
  ·simp only[y,if_true];exact GN (h.ok _ hm) (pR b)
  ·simp only[if_neg y];exact h.ok k e
def jH(tops:PyData)(len:Str):Nat->List Jb×List PyData->Option (List PyData)
 |0,_=>none
 |n+1,s=>if s.1.all Jb.done=true then some s.2 else jH tops len n (cy tops len s)
def rnC(cs:Cs):Ds->Rs Bool:=gm (gT (gF oN (ae (gL (ba 9 (bY (af 5)) bo (br cs.Jobs "are_done" (aV cs) (af 9) ah) aS)) ah)))
theorem wA{len:Str}:(cy tops len s).2.length=s.2.length+1:=by unfold cy;split <;> simp
theorem yT{len:Str}(h:aG (.list s.2)=true):aG (.list (cy tops len s).2)=true:=by
 have h1:∀d∈s.2,aG d=true:=jf (by simpa[aG] using h);refine ia λd hd=>?_
 unfold cy at hd;split at hd
 ·rcases NY.mp hd with hd|hd
  ·exact h1 d hd
  ·rw[NA.mp hd];rfl
 ·rcases NY.mp hd with hd|hd
  ·exact h1 d hd
  ·rw[NA.mp hd];rfl
section
variable {E R W:PyData}{len:Str}
theorem Kh{qs:List (Addr×Jb)}(hl:qs.length<=1000)(a:qs.map (·.1)=as)(nd:as.Nodup)(h:yV tops (qs.map (·.2))):QOk as qs:=by
 have hm:∀p∈qs,JOk tops p.2:=λp a=>h.ok _ (N9.mpr ⟨p,a,rfl⟩)
 refine⟨hl,a,nd,?_,λp a=>(hm p a).pt,λp a=>(hm p a).jb⟩;have:=h.nd;rw[NG]at this;exact this
theorem xa(i:uS len)(nd:as.Nodup):∀(n:Nat)(qs:List (Addr×Jb))(told t:List PyData)(x7 x8:Option PyData),qs.length<=1000->qs.map (·.1)=as->yV tops (qs.map (·.2))->NoD E R W tops told->told.length+n<=1000000->jH tops len n (qs.map (·.2),told)=some t ->
  ∃a c f,bQ (rnC cs) (rnB cs as) n (rnD cs.Jobs E R W tops len qs told x7 x8)=.nx (rnD cs.Jobs E R W tops len a t c f)
 |0,_,_,_,_,_,_,_,_,_,_,h=>by cases h
 |n+1,qs,told,t,x7,x8,hl,b,hj,no,hn,h=>by
  have K:=Kh hl b nd hj;have hc:rnC cs (rnD cs.Jobs E R W tops len qs told x7 x8)=.ok (!((qs.map (·.2)).all Jb.done)):=cond_of hl;unfold jH at h;unfold bQ;rw[hc];simp only[ax];cases z:(qs.map (·.2)).all Jb.done with
  |true =>rw[if_pos z]at h;cases h;simp only[Bool.not_true,NS,if_false];exact⟨qs,x7,x8,rfl⟩
  |false =>
   rw[if_neg (by rw[z];exact NO)]at h;simp only[Bool.not_false,if_true];obtain⟨a,c,f,e,f1,f2⟩:=GP (cs:=cs) K no i (λp b=>(hj.ok _ (N9.mpr ⟨p,b,rfl⟩)).held) (by omega) x7 x8;rw[e];have g:a.length<=1000:=by have:=congrArg List.length f1;rw[N4,N4]at this;omega
   refine xa i nd n a _ t c f g (by rw[f1];exact b) (by rw[f2];exact uH hj) ⟨no.e,no.r,no.w,no.t,yT (s:=(qs.map (·.2),told)) no.o⟩ (by rw[wA];show told.length+1+n<=_;omega) ?_;rw[f2];exact h
end
def c9(ps:List (Int×Option Int)):Int:=(ps.map (·.1)).sum
theorem fK(p:Int×Option Int)(r:List (Int×Option Int)):c9 (p::r)=p.1+c9 r:=by unfold c9;rw[N1,O2]
def Jb.work(j:Jb):Int:=c9 j.parts
def Jb.cur(j:Jb):Int:=c9 (j.parts.take j.part)+j.spent
def Jb.tot(j:Jb):Int:=j.job*j.work+j.cur
theorem iT:∀{ps:List (Int×Option Int)}{k:Nat}(h:k<ps.length),c9 (ps.take (k+1))=c9 (ps.take k)+ps[k].1
 |[],k,h=>by cases h
 |p::r,0,_=>by rw[Pe,List.take_zero,fK];show p.1+c9 []=c9 []+p.1;omega
 |p::r,k+1,h=>by
  have a:k<r.length:=by simpa using h
  have b:=iT (ps:=r) (k:=k) a;rw[Pe,Pe,fK,fK,b];show p.1+(c9 (r.take k)+r[k].1)=p.1+c9 (r.take k)+r[k].1;omega
theorem pY(h:JOk tops j):j.next.tot=j.tot+1:=by
 have hpt:=h.pt;have hlen:j.len=j.parts[j.part].1:=by unfold Jb.len;rw[My h.pt];rfl
 have ht:=iT h.pt;unfold Jb.next Jb.step1;by_cases z:(j.spent:Int)+1=j.len
 ·rw[if_pos z];unfold Jb.step2;by_cases y:j.part+1=j.parts.length
  ·rw[if_pos (show ({ j with spent:=0,part:=j.part+1 }:Jb).part=({ j with spent:=0,part:=j.part+1 }:Jb).parts.length from y)];have hw:c9 (j.parts.take (j.part+1))=c9 j.parts:=by rw[y,List.take_length]
   show ((j.job+1:Nat):Int)*c9 j.parts+(c9 (j.parts.take 0)+((0:Nat):Int))=(j.job:Int)*c9 j.parts+(c9 (j.parts.take j.part)+(j.spent:Int))+1;have a:c9 (j.parts.take 0)=0:=rfl;have e1:((j.job+1:Nat):Int)*c9 j.parts=(j.job:Int)*c9 j.parts+c9 j.parts:=by rw[Int.natCast_add,OS];simp
   rw[a,e1];omega
  ·rw[if_neg (show ¬ ({ j with spent:=0,part:=j.part+1 }:Jb).part=({ j with spent:=0,part:=j.part+1 }:Jb).parts.length from y)];show (j.job:Int)*c9 j.parts+(c9 (j.parts.take (j.part+1))+((0:Nat):Int))=(j.job:Int)*c9 j.parts+(c9 (j.parts.take j.part)+(j.spent:Int))+1;omega
 ·rw[if_neg z];unfold Jb.step2;rw[if_neg (show ¬ ({ j with spent:=j.spent+1 }:Jb).part=({ j with spent:=j.spent+1 }:Jb).parts.length from ND h.pt)];show (j.job:Int)*c9 j.parts+(c9 (j.parts.take j.part)+((j.spent+1:Nat):Int))=(j.job:Int)*c9 j.parts+(c9 (j.parts.take j.part)+(j.spent:Int))+1;omega
theorem nU:∀(a b:List (Int×Option Int)),c9 (a++b)=c9 a+c9 b
 |[],b=>by show c9 b=0+c9 b;omega
 |p::r,b=>by rw[Oe,fK,fK,nU r b];omega
theorem lQ:∀{ps:List (Int×Option Int)},(∀p∈ps,1<=p.1)->0<=c9 ps
 |[],_=>Oj 0
 |p::r,h=>by
  have:=h p N3;have ih:=lQ (ps:=r) λq a=>h q (N0 _ a)
  rw[fK];omega
theorem mI{ps:List (Int×Option Int)}(h:∀p∈ps,1<=p.1)(k:Nat):c9 (ps.take k)<=c9 ps:=by
 have e:=nU (ps.take k) (ps.drop k);rw[Pz]at e;have:=lQ (ps:=ps.drop k) λq a=>h q (OR a)
 omega
theorem lW(h:JOk tops j):0<=j.cur/\j.cur<j.work:=by
 have hpt:=h.pt;have hlen:j.len=j.parts[j.part].1:=by unfold Jb.len;rw[My h.pt];rfl
 have ht:=iT h.pt;have h1:=mI h.ln (j.part+1);have h2:=lQ (ps:=j.parts.take j.part) λq a=>h.ln q (OD a)
 have h3:=h.sp;unfold Jb.cur Jb.work;omega
theorem yS(h:JOk tops j){k:Nat}(hj:j.job<k):j.tot<(k:Int)*j.work:=by obtain⟨c0,c1⟩:=lW h;have:=NU (a:=(j.job:Int)+1) (b:=(k:Int)) (c:=j.work) (by omega) (by omega);rw[OS,Int.one_mul]at this;unfold Jb.tot;omega
theorem i5(j:Jb):j.next.row=j.row:=by unfold Jb.next Jb.step1 Jb.step2;split <;> split <;> rfl
theorem jo(j:Jb):j.next.parts=j.parts:=by unfold Jb.next Jb.step1 Jb.step2;split <;> split <;> rfl
def Jb.left(j:Jb):Nat:=((j.row.length:Int)*j.work-j.tot).toNat
theorem tq(j:Jb):j.next.work=j.work:=by unfold Jb.work;rw[jo]
theorem CK(h:JOk tops j)(a:j.job<j.row.length):j.next.left+1=j.left:=by have h1:=pY h;have h2:=yS h a;unfold Jb.left;rw[i5,tq,h1];omega
theorem Ai{b:Jb}:∀{r:List Jb},(∀k∈r,k.num≠b.num)->dh b r=r
 |[],_=>rfl
 |k::t,h=>by show (if k.num=b.num then b.next else k)::dh b t=_;rw[if_neg (h k N3),Ai λx a=>h x (N0 _ a)]
theorem mZ{b:Jb}{r:List Jb}(nd:((j::r).map (·.num)).Nodup)(a:b∈j::r):(j=b/\dh b (j::r)=b.next::r)\/(j.num≠b.num/\b∈r/\dh b (j::r)=j::dh b r):=by
 rw[N1,O3]at nd;have e:dh b (j::r)=(if j.num=b.num then b.next else j)::dh b r:=rfl;by_cases z:j.num=b.num
 ·left;have c:j=b:=by
   rcases N5.mp a with h|h
   ·exact h.symm
   ·exact (nd.1 (N9.mpr ⟨b,h,z.symm⟩)).elim
  refine⟨c,?_⟩;rw[e,if_pos z,Ai λk f q=>nd.1 (N9.mpr ⟨k,f,q.trans z.symm⟩)]
 ·right;refine⟨z,?_,by rw[e,if_neg z]⟩;rcases N5.mp a with h|h
  ·exact (z (by rw[h])).elim
  ·exact h
theorem wx{f:Jb->Nat}{b:Jb}:∀{js:List Jb},(js.map (·.num)).Nodup->b∈js->f b.next+1=f b->((dh b js).map f).sum+1=(js.map f).sum
 |[],_,a,_=>by cases a
 |j::r,nd,a,hf=>by
  rcases mZ nd a with⟨g,e⟩|⟨_,c,e⟩
  ·rw[e,N1,N1,O2,O2,g];omega
  ·rw[N1,O3]at nd;have:=wx nd.2 c hf;rw[e,N1,N1,O2,O2];omega
def Ah(js:List Jb):Nat:=(js.map Jb.left).sum
theorem lV{b k:Jb}(hb:b∈js)(a:k∈dh b js):k∈js\/k=b.next:=by
 obtain⟨j,c,rfl⟩:=N9.mp a;by_cases z:j.num=b.num
 ·right;exact if_pos z
 ·left;rw[if_neg z];exact c
theorem fO{len:Str}{told:List PyData}(z:bq told js=[]):cy tops len (js,told)=(js,told++[.none]):=by unfold cy;exact if_pos z
theorem mU{len:Str}{told:List PyData}(z:bq told js≠[]):∃b,b∈js/\b.there (told.length:Int)=true/\cy tops len (js,told)=(dh b js,told++[fF b]):=by obtain⟨hm,a⟩:=NW.mp (gR (tops:=tops) (len:=len) z);refine⟨_,hm,a,?_⟩;unfold cy;exact if_neg z
theorem FZ(h:JOk tops j)(hd:j.done=false):j.job<j.row.length:=by have:=h.jb;unfold Jb.done at hd;rw[beq_eq_false_iff_ne]at hd;omega
theorem rg{tops:PyData}{len:Str}{B:Nat}:∀(n:Nat)(js:List Jb)(told:List PyData),yV tops js->(∀j∈js,∀c∈j.row,c<(B:Int))->Ah js+(B-told.length)<n->∃t,jH tops len n (js,told)=some t
 |0,_,_,_,_,hn=>by omega
 |n+1,js,told,h,hr,hn=>by
  unfold jH;by_cases z:js.all Jb.done=true
  ·exact⟨told,if_pos z⟩
  ·rw[if_neg (show ¬ ((js,told).1.all Jb.done=true) from z)];by_cases y:bq told js=[]
   ·rw[fO y];refine rg n js _ h hr ?_;rw[NM]at z;obtain⟨j,o⟩:=Classical.not_forall.mp z;obtain⟨hm,hd⟩:=Classical.not_imp.mp o;have a:=FZ (h.ok j hm) (Bool.eq_false_iff.mpr hd);have hc:=hr j hm _ (NQ a);have g:¬ j.there (told.length:Int)=true:=λe=>by have:j∈bq told js:=NW.mpr ⟨hm,e⟩;rw[y]at this;cases this
    unfold Jb.there at g;rw[My a]at g;simp only[decide_eq_true_eq]at g;rw[NC,Oa];omega
   ·obtain⟨b,l,g,e⟩:=mU (tops:=tops) (len:=len) y;have i:=uH (len:=len) (told:=told) h;rw[e]at i ⊢;have hs:=wx (f:=Jb.left) h.nd l (CK (h.ok _ l) (pR g));refine rg (B:=B) n _ _ i (λk m=>?_) ?_
    ·rcases lV l m with m|rfl
     ·exact hr k m
     ·rw[i5];exact hr b l
    ·rw[NC,Oa];unfold Ah at hn ⊢;omega
def eE(r:List Int)(t:Int):Nat:=(r.filter λc=>decide (c<=t)).length
theorem dW(a:Int)(s:List Int)(t:Int):eE (a::s) t=(if a<=t then 1 else 0)+eE s t:=by
 unfold eE;rw[OT];by_cases z:a<=t
 ·rw[if_pos (decide_eq_true z),if_pos z,NJ];omega
 ·rw[if_neg (by simpa using z),if_neg z];omega
theorem xp(r:List Int)(t:Int):eE r t<=r.length:=List.length_filter_le _ _
theorem tN{t u:Int}(h:t<=u):∀r:List Int,eE r t<=eE r u
 |[]=>N6 _
 |a::s=>by
  have ih:=tN h s;rw[dW,dW];by_cases z:a<=t
  ·rw[if_pos z,if_pos (by omega)];omega
  ·rw[if_neg z];omega
theorem iV{t:Int}:∀{r:List Int},(∀c∈r,t<c)->eE r t=0
 |[],_=>rfl
 |a::s,h=>by have:=h a N3;rw[dW,if_neg (by omega),iV λc hc=>h c (N0 _ hc)]
theorem oY{t:Int}:∀{r:List Int}{k:Nat}(b:k<r.length),r.Pairwise (· < ·)->t<r[k]->eE r t<=k
 |[],_,b,_,_=>by cases b
 |a::s,0,_,hp,h=>by rw[OZ]at hp;have h:t<a:=h;have:=hp.1;rw[dW,if_neg (by omega),iV λc hc=>Int.lt_trans h (this c hc)];exact N6 _
 |a::s,k+1,b,hp,h=>by
  rw[OZ]at hp;have e:k<s.length:=by simpa using b
  have ih:=oY e hp.2 (show t<s[k] from h);rw[dW];split <;> omega
theorem pj{t:Int}:∀{r:List Int}{k:Nat}(c:k<r.length),r.Pairwise (· < ·)->r[k]<=t->k<eE r t
 |[],_,c,_,_=>by cases c
 |a::s,0,_,hp,h=>by have h:a<=t:=h;rw[dW,if_pos h];omega
 |a::s,k+1,c,hp,h=>by
  rw[OZ]at hp;have b:k<s.length:=by simpa using c
  have h:s[k]<=t:=h;have ih:=pj b hp.2 h;have:=hp.1 _ (NQ b);rw[dW,if_pos (by omega)];omega
def fg(t:Int)(j:Jb):Int:=(eE j.row t:Int)*j.work-j.tot
structure IvJ(tops:PyData)(t:Int)(js:List Jb):Prop where
 ok:yV tops js
 srt:∀j∈js,j.row.Pairwise (· < ·)
 low:∀j∈js,0<=fg t j
theorem rE{t:Int}(h:JOk tops j)(c:j.row.Pairwise (· < ·))(b:j.there t=true):0<fg t j:=by have a:=pR b;unfold Jb.there at b;rw[My a]at b;have:=yS h (pj a c (of_decide_eq_true b));unfold fg;omega
theorem xo{t:Int}(h:JOk tops j)(f:j.row.Pairwise (· < ·))(hl:0<=fg t j)(e:j.there t=false):fg t j=0:=by
 have hc:eE j.row t<=j.job:=by
  by_cases z:j.job<j.row.length
  ·unfold Jb.there at e;rw[My z]at e;have:=of_decide_eq_false e;exact oY z f (by omega)
  ·have:=xp j.row t;omega
 obtain⟨c0,c1⟩:=lW h;have:=NU (a:=(eE j.row t:Int)) (b:=(j.job:Int)) (c:=j.work) (by omega) (by omega);unfold fg Jb.tot at hl ⊢;omega
theorem mq{α:Type}(f:α->Int):∀{l:List α},(∀x∈l,f x=0)->(l.map f).sum=0
 |[],_=>rfl
 |a::r,h=>by rw[N1,O2,h a N3,mq f λx b=>h x (N0 _ b)];rfl
theorem mX{t u:Int}(e:t<=u)(h:JOk tops j):fg t j<=fg u j:=by have h1:=tN e j.row;have h2:=lW h;have:=NU (a:=(eE j.row t:Int)) (b:=(eE j.row u:Int)) (c:=j.work) (by omega) (by omega);unfold fg;omega
theorem Hq{len:Str}{told:List PyData}(h:IvJ tops (told.length:Int) js):IvJ tops ((cy tops len (js,told)).2.length:Int) (cy tops len (js,told)).1:=by
 have c:=uH (len:=len) (told:=told) h.ok;by_cases z:bq told js=[]
 ·rw[fO z]at c ⊢;refine⟨c,h.srt,λj a=>?_⟩;have:=h.low j a;have:=mX (u:=(((told++[PyData.none]).length:Nat):Int)) (t:=(told.length:Int)) (by rw[NC];omega) (h.ok.ok j a);show 0<=fg (((told++[PyData.none]).length:Nat):Int) j;omega
 ·obtain⟨b,f,g,e⟩:=mU (tops:=tops) (len:=len) z;rw[e]at c ⊢;refine⟨c,λj a=>?_,λj a=>?_⟩
  ·rcases lV f a with a|rfl
   ·exact h.srt j a
   ·rw[i5];exact h.srt b f
  ·show 0<=fg (((told++[fF b]).length:Nat):Int) j;rcases lV f a with a|rfl
   ·have:=h.low j a;have:=mX (u:=(((told++[fF b]).length:Nat):Int)) (t:=(told.length:Int)) (by rw[NC];omega) (h.ok.ok j a);omega
   ·have h2:=rE (h.ok.ok b f) (h.srt b f) g;have i:=mX (u:=(((told++[fF b]).length:Nat):Int)) (t:=(told.length:Int)) (by rw[NC];omega) (h.ok.ok b f);have l:=pY (h.ok.ok b f);unfold fg at h2 i ⊢;rw[i5,tq,l];omega
theorem HW(h:JOk tops j):j.tot / j.work=(j.job:Int):=by obtain⟨a,b⟩:=lW h;unfold Jb.tot;rw[Int.add_comm,Int.add_mul_ediv_right _ _ (by omega),Pp a b];omega
def fZ(j:Jb):Int×List (Int×Option Int)×List Int:=(j.num,j.parts,j.row)
theorem sH{b:Jb}:∀{js:List Jb},(js.map (·.num)).Nodup->b∈js->(dh b js).map fZ=js.map fZ
 |[],_,a=>by cases a
 |j::r,nd,a=>by
  rcases mZ nd a with⟨f,e⟩|⟨_,c,e⟩
  ·rw[e,N1,N1,f];unfold fZ;rw[xq,jo,i5]
  ·rw[N1,O3]at nd;rw[e,N1,N1,sH nd.2 c]
theorem eP{g:Ds->Rs PyData}{d:PyData}(hi:i<δ.length)(a:g (mask O δ)=.ok d):aU O i g δ=.nx (δ.set i (some d)):=by unfold aU;rw[if_pos hi,a];rfl
def mkJ(es:List Er)(rs:List Int)(k:Nat)(row:List Int):Jb:=⟨(k:Int),(aY es (k:Int)).parts,(placeOf rs (k:Int):Int),row,0,0,0⟩
def startJ(es:List Er)(rs:List Int)(rows:List (List Int)):List Jb:=rows.mapIdx (mkJ es rs)
section
theorem kq(i:Nat):(startJ es rs rows)[i]?=(rows[i]?).map (mkJ es rs i):=OC
theorem dS(h:j∈startJ es rs rows):∃(k:Nat)(row:List Int),k<rows.length/\row∈rows/\rows[k]?=some row/\j=mkJ es rs k row:=by obtain⟨k,b⟩:=PB.mp h;rw[kq]at b;obtain⟨row,a,e⟩:=O7.mp b;exact⟨k,row,(NR.mp a).1,O1 a,a,e.symm⟩
theorem gW:(startJ es rs rows).length=rows.length:=List.length_mapIdx
theorem yx:(startJ es rs rows).map (·.num)=(List.range rows.length).map λ(k:Nat)=>(k:Int) :=
 OM (by simp[startJ]) (λi h1 h2=>by simp[startJ,mkJ])
theorem GR(n:Nat):((List.range n).map λ(k:Nat)=>(k:Int)).Nodup:=List.Pairwise.map _ (λa b h e=>h (by omega)) List.nodup_range
theorem mL(k:Nat)(row:List Int):(mkJ es rs k row).tot=0:=by show ((0:Nat):Int)*_+(c9 (List.take 0 _)+((0:Nat):Int))=0;rw[List.take_zero];have:c9 []=0:=rfl;rw[this];simp
end
theorem oZ:∀{ps:List (Int×Option Int)},(∀p∈ps,p.1<=20)->c9 ps<=20*(ps.length:Int)
 |[],_=>Oj 0
 |p::r,h=>by
  have:=h p N3;have ih:=oZ (ps:=r) λq a=>h q (N0 _ a)
  rw[fK,NJ];omega
theorem A6{α:Type}(f:α->Nat){c:Nat}:∀{l:List α},(∀x∈l,f x<=c)->(l.map f).sum<=l.length*c
 |[],_=>Oc _
 |a::r,h=>by
  have h1:=h a N3;have ih:=A6 f (l:=r) λx b=>h x (N0 _ b)
  rw[N1,O2,NJ,Nat.add_mul];omega
theorem k4{t:Int}(t0:0<=t)(t3:t<=3)(h:bu es rs t=some n):dIx (aF es rs) (.int t)=some (.int n):=by
 obtain⟨m,rfl⟩:∃m:Nat,t=(m:Int):=⟨t.toNat,by omega⟩
 show atI ((List.range 4).map λ(t:Nat)=>bW (bu es rs t)) (m:Int)=_;refine oR ?_;rw[NK,Pd (by omega),OG,h];rfl
theorem sf(es:List Er)(rs:List Int):aG (aF es rs)=true:=ia λd hd=>by obtain⟨t,_,rfl⟩:=N9.mp hd;exact ud _
structure Ran(es:List Er)(rs:List Int)(rows:List (List Int))(len:Str):Prop where
 eok:En es
 rok:cC es.length rs
 ln:rows.length=es.length
 le:uS len
def jJ(es:List Er)(rs:List Int)(rows:List (List Int))(len:Str):Option (List PyData):=jH (aF es rs) len 1000000 (startJ es rs rows,[])
section
variable {len:Str}{t:List PyData}
theorem mH(h:En es)(f:cC es.length rs)(hl:rows.length=es.length):yV (aF es rs) (startJ es rs rows):=by
 refine⟨λj g=>?_,by rw[yx];exact GR _⟩;obtain⟨k,row,hk,_,_,rfl⟩:=dS g;have c:(0:Int)<=(k:Int):=by omega
 have h1:(k:Int)<es.length:=by omega
 have ok:=h.ok _ (cY c h1);have a:0<(aY es (k:Int)).parts.length:=Ov.mpr ok.p1;refine⟨a,Oc _,λp b=>(ok.pl p b).1,?_,λp b u e=>?_⟩
 ·have:=len_pos (tops:=.none) (j:=mkJ es rs k row) (λp b=>(ok.pl p b).1) a;show (0:Int)<_;exact PM (by decide) this
 ·obtain⟨i,l⟩:=(ok.pl p b).2.2 u e;have m:(aY es (k:Int)).has u=true:=by unfold Er.has;rw[OL];exact⟨p,b,by rw[e];exact beq_self_eq_true _⟩
  obtain⟨n,hn⟩:=qI es u rs 0 (k:Int) (f.mem c h1) m;exact⟨n,k4 i l hn⟩
theorem Ef(R:Ran es rs rows len)(C:Cms es rows):∃t,jJ es rs rows len=some t:=by
 have a:=C.xS;refine rg (B:=10000) 1000000 _ [] (mH R.eok R.rok R.ln) (λj b c hc=>?_) ?_
 ·obtain⟨k,row,_,hm,_,rfl⟩:=dS b;have:=(a row hm).hi c hc;omega
 ·have f:Ah (startJ es rs rows)<=(startJ es rs rows).length*4800:=A6 Jb.left λj b=>by
   obtain⟨k,row,hk,hm,_,rfl⟩:=dS b;have ok:=R.eok.ok _ (cY (n:=(k:Int)) (by omega) (by have:=R.ln;omega));have h1:=oZ λp e=>(ok.pl p e).2.1
   have h2:=ok.p2;have h3:=(a row hm).few;have g:=lQ λp e=>(ok.pl p e).1
   unfold Jb.left;rw[mL];have h5:((mkJ es rs k row).row.length:Int)*(mkJ es rs k row).work<=60*80:=Int.mul_le_mul (by show (row.length:Int)<=60;omega) (by show c9 (aY es (k:Int)).parts<=80;omega) g (by decide);omega
  rw[gW]at f;have h6:=R.eok.l6;have h7:=R.ln;show Ah (startJ es rs rows)+(10000-0)<1000000;have h8:rows.length*4800<=6*4800:=Nat.mul_le_mul_right _ (by omega);omega
end
def fsJ(j:Jb):List PyData:=[.int j.num,.tuple (j.parts.map aQ),.int j.rank,fi j.row]
theorem yf(h:∀j∈js,j.job=0/\j.part=0/\j.spent=0):kP C JN JT as (js.map fsJ)=(as.zip js).map (jD C):=by
 unfold kP;rw[List.zip_map_right,NG];refine NI λp c=>?_
 obtain⟨h1,h2,e⟩:=h p.2 (Pf (a:=p.1) (b:=p.2) c).2;show cu C p.1 (JN.zip (fsJ p.2)++tlD JT)=cu C p.1 p.2.fds;unfold Jb.fds;rw[h1,h2,e];rfl
section
variable {len:Str}{t:List PyData}
theorem Hm(R:Ran es rs rows len)(c:jJ es rs rows len=some t)(hl:as.length=rows.length)(nd:as.Nodup) :
  jn cs aP (aV cs) (cR cs) (aO cs) fX as [some (ar es),some (ai rs),some (cmD rows),some (.str len),some (aF es rs),some (.list ((as.zip (startJ es rs rows)).map (jD cs.Jobs))),none,none,none]=.rt (.list t):=by
 have b:(as.zip (startJ es rs rows)).map (·.1)=as:=List.map_fst_zip (by rw[gW,hl];exact N6 _);have a:(as.zip (startJ es rs rows)).map (·.2)=startJ es rs rows:=List.map_snd_zip (by rw[gW,hl];exact N6 _);obtain⟨qs',y7,y8,e⟩:=xa (cs:=cs) (E:=ar es) (R:=ai rs) (W:=cmD rows) (tops:=aF es rs) (len:=len) (as:=as) R.le nd 1000000 (as.zip (startJ es rs rows)) [] t none none
  (by rw[List.length_zip,gW];have:=R.eok.l6;have:=R.ln;omega) b (by rw[a];exact mH R.eok R.rok R.ln) ⟨sR es,lz rs,zy rows,sf es rs,ia λd hd=>by cases hd⟩ (by rw[OI];omega) (by rw[a];exact c)
 have f:ip [6] 6 ah [some (ar es),some (ai rs),some (cmD rows),some (.str len),some (aF es rs),some (.list ((as.zip (startJ es rs rows)).map (jD cs.Jobs))),none,none,none]=.nx (rnD cs.Jobs (ar es) (ai rs) (cmD rows) (aF es rs) len (as.zip (startJ es rs rows)) [] none none):=rfl;show aJ (ip [6] 6 ah) (aJ (λδ=>bQ (rnC cs) (rnB cs as) 1000000 δ) (bp (af 6))) _=_;rw[aX,f];show (match bQ (rnC cs) (rnB cs as) 1000000 (rnD cs.Jobs (ar es) (ai rs) (cmD rows) (aF es rs) len (as.zip (startJ es rs rows)) [] none none) with
  |.nx δ'=>bp (af 6) δ'
  |r=>r)=_
 rw[e];rfl
end
def DE:PyData->List Int
 |.list xs=>(eV xs).getD []
 |_=>[]
def C6:PyData->List (List Int)
 |.list l=>l.map DE
 |_=>[]
theorem DB(rows:List (List Int)):C6 (cmD rows)=rows:=by
 show (rows.map fi).map DE=rows;rw[NG];have:∀r∈rows,(DE∘fi) r=id r:=λr _=>by show (eV (r.map PyData.int)).getD []=r;rw[eJ];rfl
 rw[NI this,Ot]
def lenOf:PyData->Str
 |.str s=>s
 |_=>""
def GX(d r c l:PyData):PyData:=match jJ (de d) (cn r) (C6 c) (lenOf l) with
 |some t=>.list t
 |none=>.none
theorem Ar{len:Str}{t:List PyData}(a:jJ es rs rows len=some t):GX (ar es) (ai rs) (cmD rows) (.str len)=.list t:=by unfold GX;rw[fh,eQ,DB,show lenOf (.str len)=len from rfl,a]
def atD(δ:Ds)(i:Nat):PyData:=((δ[i]?).getD none).getD .none
open Classical in
def lh:Ds->Sr:=λδ=>if ∃es rs rows len t,Ran es rs rows len/\jJ es rs rows len=some t/\δ=[some (ar es),some (ai rs),some (cmD rows),some (.str len),some (aF es rs),none,none,none,none] then .rt (GX (atD δ 0) (atD δ 1) (atD δ 2) (atD δ 3)) else .no
theorem IL{len:Str}{t:List PyData}(R:Ran es rs rows len)(a:jJ es rs rows len=some t):lh [some (ar es),some (ai rs),some (cmD rows),some (.str len),some (aF es rs),none,none,none,none]=.rt (.list t):=by unfold lh;rw[if_pos ⟨es,rs,rows,len,t,R,a,rfl⟩];exact congrArg Sr.rt (Ar a)
theorem G7(cs:Cs):∀δ,lh δ≠.no->∃d ds a,lh δ=.rt d/\5<δ.length/\δ.length=9/\(fJ (ae (af 2) ah)) (mask [6] δ)=.ok ds/\ds.length<=1000000/\a.length=ds.length/\(∀(i:Nat) d,ds[i]?=some d->∃f fs,eO d=some f/\a[i]?=some fs/\(ae (af 9) (ae (g2 dIx (g2 dIx (af 0) (af 9)) (gC (.int 3))) (ae (ql (af 1) (af 9)) (ae (af 10) ah)))) (mask [6] δ++f)=.ok fs/\fs.length=JN.length) /\
   ∀as:List Addr,as.length=ds.length->as.Nodup->jn cs aP (aV cs) (cR cs) (aO cs) fX as (δ.set 5 (some (.list (kP cs.Jobs JN JT as a))))=.rt d:=by
 intro δ b;by_cases hx:∃es rs rows len t,Ran es rs rows len/\jJ es rs rows len=some t/\δ=[some (ar es),some (ai rs),some (cmD rows),some (.str len),some (aF es rs),none,none,none,none]
 ·obtain⟨es,rs,rows,len,t,R,g,rfl⟩:=hx;have hln:=R.ln;refine⟨.list t,fW (rows.map fi),(startJ es rs rows).map fsJ,IL R g,(by decide:5<9),rfl,rfl,?_,?_,?_,?_⟩
  ·rw[i6,N4];have:=R.eok.l6;omega
  ·rw[i6,N4,N4,gW]
  ·intro i d hd;unfold fW at hd;rw[OC,NK]at hd;cases q:rows[i]? with
   |none=>rw[q]at hd;cases hd
   |some row =>
    rw[q]at hd;have e:some (PyData.tuple [.int (i:Int),fi row])=some d:=hd;cases e;have hi:=(NR.mp q).1;have h:(0:Int)<=(i:Int):=by omega
    have h1:(i:Int)<es.length:=by omega
    refine⟨[some (.int (i:Int)),some (fi row)],fsJ (mkJ es rs i row),rfl,?_,?_,rfl⟩
    ·rw[NK,kq,q];rfl
    ·have a1:dIx (ar es) (.int (i:Int))=some (aY es (i:Int)).d:=kx h h1;have a2:=HY (aY es (i:Int));have l:=ke (R.rok.mem h h1);show (ae (af 9) (ae (g2 dIx (g2 dIx (af 0) (af 9)) (gC (.int 3))) (ae (ql (af 1) (af 9)) (ae (af 10) ah)))) [some (ar es),some (ai rs),some (cmD rows),some (.str len),some (aF es rs),none,none,none,none,some (.int (i:Int)),some (fi row)]=_;simp only[aA,aM,cO,au,aw,dY,yY,Rs.ag,a1,a2,Rs.aj,ai,l];rfl
  ·intro as c nd;rw[i6,N4]at c;rw[yf λj m=>by obtain⟨k,row,_,_,_,rfl⟩:=dS m;exact⟨rfl,rfl,rfl⟩];exact Hm R g c nd
 ·unfold lh at b;rw[if_neg hx]at b;exact absurd rfl b
open Classical in
def cU(cs:Cs):Gf:=λds=>if ∃es rs rows len t,Ran es rs rows len/\jJ es rs rows len=some t/\ds=[ar es,ai rs,cmD rows,.str len] then .ok (GX (ds.getD 0 .none) (ds.getD 1 .none) (ds.getD 2 .none) (ds.getD 3 .none)) else .no
theorem lY{len:Str}{t:List PyData}(R:Ran es rs rows len)(a:jJ es rs rows len=some t):cU cs [ar es,ai rs,cmD rows,.str len]=.ok (.list t):=by unfold cU;rw[if_pos ⟨es,rs,rows,len,t,R,a,rfl⟩];exact congrArg Rs.ok (Ar a)
theorem FG(cs:Cs):∀ds,ds.length=4->cU cs ds≠.no->bf (aJ (aU [6] 4 (ao aP (ae (af 0) (ae (af 1) ah)))) lh (ds.map some++List.replicate 5 none))=cU cs ds:=by
 intro ds hl a;by_cases hx:∃es rs rows len t,Ran es rs rows len/\jJ es rs rows len=some t/\ds=[ar es,ai rs,cmD rows,.str len]
 ·obtain⟨es,rs,rows,len,t,R,b,rfl⟩:=hx;rw[lY R b];have c:=fM (es:=es) (rs:=rs) (by have:=R.eok.l6;omega) (λe f=>(R.eok.ok e f).sh) R.rok;have g:aU [6] 4 (ao aP (ae (af 0) (ae (af 1) ah))) [some (ar es),some (ai rs),some (cmD rows),some (.str len),none,none,none,none,none]=.nx [some (ar es),some (ai rs),some (cmD rows),some (.str len),some (aF es rs),none,none,none,none]:=by have h:ao aP (ae (af 0) (ae (af 1) ah)) (mask [6] [some (ar es),some (ai rs),some (cmD rows),some (.str len),none,none,none,none,none])=.ok (aF es rs):=c;exact eP (by decide:4<9) h
  show bf (aJ (aU [6] 4 (ao aP (ae (af 0) (ae (af 1) ah)))) lh [some (ar es),some (ai rs),some (cmD rows),some (.str len),none,none,none,none,none])=_;rw[aX,g];simp only;rw[IL R b];rfl
 ·exfalso;apply a;unfold cU;rw[if_neg hx]
end RS
variable {js:List RS.Jb}
namespace L2
open PySem PySem.Spec PyProof.Rows
end L2
namespace RS
open PySem L2
variable {j:Jb}{tgt:PyData->Ds->Option Ds}{B:Nat}{h:Int}
theorem tV{f b:Int}(hl:b<f)(i:0<=b):∀(row:List Int)(m:Int),hvM f b m row=true->(∀c∈row,m<=c)/\row.Pairwise (· < ·)
 |[],_,_=>⟨λc hc=>(by cases hc),List.Pairwise.nil⟩
 |a::r,m,h=>by
  unfold hvM at h;by_cases z:a<(if a-b>m then a-b else m)
  ·rw[if_pos z]at h;cases h
  ·rw[if_neg z]at h;obtain⟨h1,h2⟩:=tV hl i r _ h;have hm:m<=a:=by split at z <;> omega
   have g:∀c∈r,a<c:=λc hc=>by have:=h1 c hc;split at this <;> omega
   refine⟨λc hc=>?_,OZ.mpr ⟨g,h2⟩⟩;rcases N5.mp hc with e|hc
   ·rw[e];exact hm
   ·have:=g c hc;omega
section
variable {S A:PyData}{span seed moment:Int}{made:List Int}
end
section
variable {S A:PyData}{span seed moment:Int}{made:List Int}
end
theorem Fc{xs:List α}{k:Nat}{v:α}(h:xs[k]?=some v):atI xs (k:Int)=some v:=vO (OX k) (by rw[O6];exact h)
structure Sx(js:List Jb):Prop where
 num:∀(i:Nat)(h:i<js.length),js[i].num=(i:Int)
 row:∀j∈js,j.row.length<=1000
 wk:∀j∈js,j.work<=1000
section
variable {S E R D:PyData}
theorem nX{f:PyData->PyData->Option PyData}{a b:Ds->Rs PyData}{x y z:PyData}(ha:a δ=.ok x)(c:b δ=.ok y)(e:f x y=some z):g2 f a b δ=.ok z:=by rw[cO,ha,Rs.ag,c,Rs.ag,e];rfl
end
def pT(k:Nat)(l:List PyData):List PyData:=l.mapIdx λi d=>.tuple [.int ((k+i:Nat):Int),d]
theorem kC{body:Ds->Sr}{d:PyData}{r:List PyData}{δ1 a:Ds}(h1:tgt d δ=some δ1)(h2:body δ1=.nx a):forL tgt body (d::r) δ=forL tgt body r a:=by rw[forL,h1];simp only[h2]
theorem qY(k:Nat)(d:PyData)(r:List PyData):pT k (d::r)=.tuple [.int (k:Int),d]::pT (k+1) r:=by
 unfold pT;rw[Pu];have a:(λ(i:Nat)(d:PyData)=>PyData.tuple [.int ((k+(i+1):Nat):Int),d])=λi d=>.tuple [.int ((k+1+i:Nat):Int),d]:=by funext i d;rw[show k+(i+1)=k+1+i by omega]
 rw[a];rfl
theorem wu{ks:List Jb}(h:ks.map fZ=js.map fZ):ks.length=js.length:=by
 have:=congrArg List.length h
 rwa[N4,N4]at this
theorem AU{ks:List Jb}(h:ks.map fZ=js.map fZ)(s:Sx js):Sx ks:=by
 have hl:=wu h;have hm:∀k∈ks,∃j∈js,fZ j=fZ k:=λk a=>by have:fZ k∈ks.map fZ:=N9.mpr ⟨k,a,rfl⟩;rw[h]at this;exact N9.mp this
 refine⟨λi hi=>?_,λk a=>?_,λk a=>?_⟩
 ·have e:(ks.map fZ)[i]?=(js.map fZ)[i]?:=by rw[h]
  rw[NK,NK,My hi,My (hl▸hi)]at e;have e2:fZ ks[i]=fZ (js[i]'(hl▸hi)):=Option.some.inj e;have:=congrArg (·.1) e2;exact this.trans (s.num i (hl▸hi))
 ·obtain⟨j,b,e⟩:=hm k a;have e2:j.row=k.row:=congrArg (·.2.2) e;rw[<-e2];exact s.row j b
 ·obtain⟨j,b,e⟩:=hm k a;have e2:j.parts=k.parts:=congrArg (·.2.1) e;have:=s.wk j b;unfold Jb.work at this ⊢;rw[<-e2];exact this
theorem vo{lt:Nat->Nat->Bool}(a:∀i,lt i i=false)(b:∀i j k,lt i j=true->lt j k=true->lt i k=true):∀(n i:Nat),i<=n->lt i (bst lt n)=false
 |0,i,h=>by
  have:i=0:=by omega
  rw[this];exact a 0
 |n+1,i,h=>by
  unfold bst;cases q:lt (n+1) (bst lt n) with
  |true =>
   rw[if_pos rfl];by_cases z:i=n+1
   ·rw[z];exact a _
   ·have c:=vo a b n i (by omega);cases y:lt i (n+1) with
    |false=>rfl
    |true=>rw[b _ _ _ y q]at c;cases c
  |false =>
   rw[if_neg NO];by_cases z:i=n+1
   ·rw[z];exact q
   ·exact vo a b n i (by omega)
theorem JZ(d:PyData):ltD d d=false:=by
 have h:∀l:List Int,HT.lexLt l l=false:=λl=>by
  induction l with
  |nil=>rfl
  |cons a r ih=>show (if a=a then HT.lexLt r r else _)=false;rw[if_pos rfl,ih]
 unfold ltD;split
 ·rename_i e1 e2;rw[e1]at e2;cases e2;exact h _
 ·rfl
theorem FI:∀a b c:List Int,HT.lexLt a b=true->HT.lexLt b c=true->HT.lexLt a c=true
 |[],[],_,h,_=>by cases h
 |[],_::_,[],_,h=>by cases h
 |[],_::_,_::_,_,_=>rfl
 |_::_,[],_,h,_=>by cases h
 |_::_,_::_,[],_,h=>by cases h
 |x::a,y::b,z::c,h1,h2=>by
  have h1:(if x=y then HT.lexLt a b else decide (x<y))=true:=h1;have h2:(if y=z then HT.lexLt b c else decide (y<z))=true:=h2;show (if x=z then HT.lexLt a c else decide (x<z))=true;by_cases e1:x=y
  ·rw[if_pos e1]at h1;by_cases e2:y=z
   ·rw[if_pos e2]at h2;rw[if_pos (e1.trans e2)];exact FI a b c h1 h2
   ·rw[if_neg e2]at h2;rw[if_neg (λq=>e2 (e1.symm.trans q)),e1];exact h2
  ·rw[if_neg e1]at h1;have l1:=of_decide_eq_true h1;by_cases e2:y=z
   ·rw[if_neg (λq=>e1 (q.trans e2.symm)),<-e2];exact h1
   ·rw[if_neg e2]at h2;have l2:=of_decide_eq_true h2;rw[if_neg (by omega)];exact decide_eq_true (by omega)
theorem Je(a b c:PyData)(h1:ltD a b=true)(h2:ltD b c=true):ltD a c=true:=by
 unfold ltD at h1 h2 ⊢;cases ka:lE a with
 |none=>rw[ka]at h1;cases h1
 |some p =>
  cases kb:lE b with
  |none=>rw[ka,kb]at h1;cases h1
  |some q =>
   cases kc:lE c with
   |none=>rw[kb,kc]at h2;cases h2
   |some r =>rw[ka,kb]at h1;rw[kb,kc]at h2;exact FI _ _ _ h1 h2
theorem tX{key:Jb->PyData}(c:js≠[])(e:j∈js):ltD (key j) (key (f6 key js))=false:=by
 have hl:0<js.length:=Ov.mpr c;have hm:=vo (lt:=λi j=>ltD ((js.map key).getD i .none) ((js.map key).getD j .none)) (λi=>JZ _) (λi j k=>Je _ _ _) (js.length-1);have hb:=vh (λi j=>ltD ((js.map key).getD i .none) ((js.map key).getD j .none)) (js.length-1);obtain⟨i,hi,rfl⟩:=Ow e;have h1:=hm i (by omega);have b:ju (js.map key)=bst (λi j=>ltD ((js.map key).getD i .none) ((js.map key).getD j .none)) (js.length-1):=by unfold ju;rw[N4]
 have a:ju (js.map key)<js.length:=by rw[b];omega
 have e1:(js.map key).getD i .none=key js[i]:=by rw[NH,NK,My hi];rfl
 have e2:(js.map key).getD (ju (js.map key)) .none=key (f6 key js):=by unfold f6;rw[NH,NK,My a,NH,My a];rfl
 rw[<-b]at h1;rw[e1,e2]at h1;exact h1
theorem Aw(a b c d:Int):ltD (.tuple [.int a,.int b]) (.tuple [.int c,.int d])=if a=c then (if b=d then false else decide (b<d)) else decide (a<c):=rfl
theorem FQ(h:js≠[]):js.filter (iw js)≠[]:=by
 have hn:=pk (ts:=js.map λj=>((0:Addr),j)) (by simpa using h);have hm:(js.map λj=>((0:Addr),j)).map (·.2)=js:=by rw[NG];exact Ot js
 rw[hm]at hn;obtain⟨p,r,e⟩:=Pa hn;have a:p∈(js.map λj=>((0:Addr),j)).filter (λp=>iw js p.2):=by rw[e];exact N3
 obtain⟨h1,h2⟩:=NW.mp a;obtain⟨j,b,rfl⟩:=N9.mp h1;exact PL (NW.mpr ⟨b,h2⟩)
theorem sU(h:j.held=some T):fD tops j=.tuple [.int (if fU tops T<j.rank then fU tops T else j.rank),.int 0]:=by unfold fD;rw[h]
theorem sE(h:j.held=none):fD tops j=.tuple [.int j.rank,.int 1]:=by unfold fD;rw[h]
theorem CL{len:Str}{ts:List Jb}(g:ts≠[])(c:(bZ tops len ts).spent=0)(e:(bZ tops len ts).tool=some T)(a:fU tops T<=(bZ tops len ts).rank):∀j∈ts,j.held≠some T:=by
 intro j h i;unfold bZ at c e a;split at c
 ·rename_i z;rw[if_pos z]at e a;have hm:=tX (key:=fD tops) g h;have l:(f6 (fD tops) ts).held=none:=by unfold Jb.held;rw[if_pos c]
  rw[sU i,sE l,Aw]at hm;generalize (f6 (fD tops) ts).rank=r at *;generalize fU tops T=u at *;by_cases q:(if u<j.rank then u else j.rank)=r
  ·rw[if_pos q]at hm;revert hm;decide
  ·rw[if_neg q]at hm;have:=of_decide_eq_false hm;split at this <;> split at q <;> omega
 ·rename_i z;rw[if_neg z]at e;have f:=(NW.mp (nP (key:=Ih (if (len==("asked":Str))=true then tI ts else [])) (FQ g))).2;generalize f6 (Ih (if (len==("asked":Str))=true then tI ts else [])) (ts.filter (iw ts))=b at *;have hw:b.wanted=some T:=by unfold Jb.wanted;rw[if_pos c,e]
  unfold iw qT at f;rw[hw]at f;have hn:ts.find? (λk=>k.held==some T)=none:=Option.isNone_iff_eq_none.mp f;have:=OY.mp hn j h;rw[i]at this;exact this (beq_self_eq_true _)
theorem oB{t:Int}(e:IvJ tops t js)(f:j∈js)(hs:j.spent≠0):j.there t=true:=by
 cases ht:j.there t with
 |true=>rfl
 |false =>
  have h:=e.ok.ok j f;have hl:=e.low j f;have hc:eE j.row t<=j.job:=by
   by_cases z:j.job<j.row.length
   ·unfold Jb.there at ht;rw[My z]at ht;have:=of_decide_eq_false ht;exact oY z (e.srt j f) (by omega)
   ·have:=xp j.row t;omega
  obtain⟨c0,c1⟩:=lW h;have:=NU (a:=(eE j.row t:Int)) (b:=(j.job:Int)) (c:=j.work) (by omega) (by omega);have h2:=lQ (ps:=j.parts.take j.part) λq g=>h.ln q (OD g)
  unfold fg Jb.tot Jb.cur at hl;omega
theorem mR(h:JOk tops j)(e:j.next.held=some T):j.tool=some T:=by
 unfold Jb.next Jb.step1 at e;by_cases z:(j.spent:Int)+1=j.len
 ·rw[if_pos z]at e;unfold Jb.step2 at e;split at e
  ·unfold Jb.held at e;rw[if_pos rfl]at e;cases e
  ·unfold Jb.held at e;rw[if_pos rfl]at e;cases e
 ·rw[if_neg z]at e;unfold Jb.step2 at e;rw[if_neg (show ¬ ({ j with spent:=j.spent+1 }:Jb).part=({ j with spent:=j.spent+1 }:Jb).parts.length from ND h.pt)]at e;unfold Jb.held at e;rw[if_neg (show ¬ ({ j with spent:=j.spent+1 }:Jb).spent=0 from Nat.succ_ne_zero _)]at e;exact e
theorem iY(h:j.held=some T):j.tool=some T/\j.spent≠0:=by
 unfold Jb.held at h;by_cases z:j.spent=0
 ·rw[if_pos z]at h;cases h
 ·rw[if_neg z]at h;exact⟨h,z⟩
theorem nR(j:Jb):j.next.rank=j.rank:=by unfold Jb.next Jb.step1 Jb.step2;split <;> split <;> rfl
structure HvJ(tops:PyData)(js:List Jb):Prop where
 one:∀i∈js,∀j∈js,∀T,i.held=some T->j.held=some T->i.num=j.num
 top:∀j∈js,∀p∈j.parts,∀T,p.2=some T->fU tops T<=j.rank
theorem nF{b k:Jb}(a:k∈dh b js):(k∈js/\k.num≠b.num)\/k=b.next:=by
 obtain⟨j,c,rfl⟩:=N9.mp a;by_cases z:j.num=b.num
 ·right;exact if_pos z
 ·left;rw[if_neg z];exact⟨c,z⟩
theorem tw(h:JOk tops j)(b:j.tool=some T):∃p∈j.parts,p.2=some T:=by have a:=h.pt;unfold Jb.tool at b;rw[My a]at b;exact⟨_,NQ a,b⟩
theorem CW{len:Str}{told:List PyData}(f:IvJ tops (told.length:Int) js)(g:HvJ tops js)(z:bq told js≠[])(a:(bZ tops len (bq told js)).tool=some T):∀j∈js,j.held=some T->j.num=(bZ tops len (bq told js)).num:=by
 obtain⟨hm,hth⟩:=NW.mp (gR (tops:=tops) (len:=len) z);intro j b c;obtain⟨h1,h2⟩:=iY c;by_cases y:(bZ tops len (bq told js)).spent=0
 ·obtain⟨p,h,e⟩:=tw (f.ok.ok _ hm) a;exact (CL z y a (g.top _ hm p h T e) j (NW.mpr ⟨b,oB f b h2⟩) c).elim
 ·exact g.one j b _ hm T c (by unfold Jb.held;rw[if_neg y];exact a)
theorem Hl{len:Str}{told:List PyData}(g:IvJ tops (told.length:Int) js)(f:HvJ tops js):HvJ tops (cy tops len (js,told)).1:=by
 by_cases z:bq told js=[]
 ·rw[fO z];exact f
 ·have e:cy tops len (js,told)=(dh (bZ tops len (bq told js)) js,told++[fF (bZ tops len (bq told js))]):=by unfold cy;exact if_neg z
  have hm:bZ tops len (bq told js)∈js:=(NW.mp (gR (tops:=tops) (len:=len) z)).1;have a:=λT m=>CW (len:=len) (T:=T) g f z m
  rw[e];generalize bZ tops len (bq told js)=b at *;refine⟨λi hi j c T h1 h2=>?_,λj c p h T e=>?_⟩
  ·rcases nF hi with⟨hi,n⟩|rfl
   ·rcases nF c with⟨c,l⟩|rfl
    ·exact f.one i hi j c T h1 h2
    ·exact (n (a T (mR (g.ok.ok b hm) h2) i hi h1)).elim
   ·rcases nF c with⟨c,l⟩|rfl
    ·exact (l (a T (mR (g.ok.ok b hm) h1) j c h2)).elim
    ·rfl
  ·rcases lV hm c with c|rfl
   ·exact f.top j c p h T e
   ·rw[jo]at h;rw[nR];exact f.top b hm p h T e
section
end
theorem b8{f:Gf}{a:Ds->Rs (List PyData)}{d:PyData}(ha:a δ=.ok ds)(b:f ds=.ok d):ao f a δ=.ok d:=by rw[bI,ha,Rs.ag,b]
theorem bN{a b:Ds->Sr}{c:Ds}(h:a δ=.nx c):aJ a b δ=b c:=by rw[aX,h]
theorem uz{body:Ds->Sr}(h:src (mask O δ)=.ok ds):fP O src tgt body δ=forL tgt body ds δ:=by rw[lq,h,ax]
def KD{g:Ds->Rs (List PyData)}(hi:i<δ.length)(a:g (mask O δ)=.ok ds):ip O i g δ=.nx (δ.set i (some (.list ds))):=by unfold ip;rw[if_pos hi,a,ax]
def Cms.sorted(h:Cms es rows)(ok:∀e∈es,e.Ok):∀r∈rows,r.Pairwise (· < ·):=by
 induction h with
 |nil=>intro r a;cases a
 |cons a hv _ ih =>
  intro b h';rcases N5.mp h' with rfl|h'
  ·have o:=ok _ N3;exact (tV o.l3 o.l1 _ _ hv).2
  ·exact ih (λe c=>ok e (N0 _ c)) b h'
section
variable {len:Str}
def EH(h:i<(startJ es rs rows).length):∃row,(startJ es rs rows)[i]=mkJ es rs i row:=by
 have e:=kq (es:=es) (rs:=rs) (rows:=rows) i;rw[My h]at e;cases q:rows[i]? with
 |none=>rw[q]at e;cases e
 |some row=>rw[q]at e;exact⟨row,Option.some.inj e⟩
def D6(R:Ran es rs rows len)(C:Cms es rows):IvJ (aF es rs) ((([]:List PyData).length:Nat):Int) (startJ es rs rows):=by
 refine⟨mH R.eok R.rok R.ln,λj a=>?_,λj a=>?_⟩
 ·obtain⟨k,row,_,hm,_,rfl⟩:=dS a;exact C.sorted R.eok.ok row hm
 ·have hw:=lW ((mH R.eok R.rok R.ln).ok j a);obtain⟨k,row,_,hm,_,rfl⟩:=dS a;unfold fg;rw[mL];have:=Pm (OX (eE (mkJ es rs k row).row ((([]:List PyData).length:Nat):Int))) (show 0<=(mkJ es rs k row).work by omega);omega
def ET(R:Ran es rs rows len)(C:Cms es rows):Sx (startJ es rs rows):=by
 refine⟨λi hi=>?_,λj a=>?_,λj a=>?_⟩
 ·obtain⟨row,e⟩:=EH hi;rw[e];rfl
 ·obtain⟨k,row,_,hm,_,rfl⟩:=dS a;have:=(C.xS row hm).few;show row.length<=1000;omega
 ·obtain⟨k,row,hk,hm,_,rfl⟩:=dS a;have ok:=R.eok.ok _ (cY (n:=(k:Int)) (by omega) (by have:=R.ln;omega));have h1:=oZ λp b=>(ok.pl p b).2.1
  have h2:=ok.p2;show c9 (aY es (k:Int)).parts<=1000;omega
end
structure Er.Wk(e:Er):Prop where
 sh:e.Sh
 e2:e.every<=60
 l1:0<=e.late
 p2:e.parts.length<=4
 pl:∀p∈e.parts,1<=p.1/\p.1<=1000000
 p1:e.parts≠[]
def Er.Ok.wk(h:e.Ok):e.Wk:=⟨h.sh,h.e2,h.l1,h.p2,λp a=>by have:=h.pl p a;exact⟨this.1,by omega⟩,h.p1⟩
def Er.Wk.work1(h:e.Wk):1<=e.work:=by obtain⟨p,a⟩:=List.exists_mem_of_ne_nil _ h.p1;have h1:=h.sh.part_le a;have h2:=(h.pl p a).1;omega
def wkB(e:Er):Bool:=decide (e.every<=60)&&decide (0<=e.late)&&decide (e.parts.length<=4)&&e.parts.all (λp=>decide (1<=p.1))&&decide (e.parts≠[])
def Ke(h:e.Wk):wkB e=true:=by unfold wkB;simp only[N7,decide_eq_true_eq,NM];exact⟨⟨⟨⟨h.e2,h.l1⟩,h.p2⟩,λp a=>(h.pl p a).1⟩,h.p1⟩
def Lc(h:wkB e=true)(g:e.Sh):e.Wk:=by unfold wkB at h;simp only[N7,decide_eq_true_eq,NM]at h;obtain⟨⟨⟨⟨a,b⟩,c⟩,d⟩,f⟩:=h;exact⟨g,a,b,c,λp i=>⟨d p i,(g.pl p i).2.1⟩,f⟩
def vP(d:PyData):Bool:=qS d&&decide (1<=(de d).length)&&decide ((de d).length<=6)&&(de d).all wkB
def Ff(h1:1<=es.length)(h2:es.length<=6)(h:∀e∈es,e.Wk):vP (ar es)=true:=by unfold vP;rw[qO (by omega) λe a=>(h e a).sh,fh];simp only[N7,decide_eq_true_eq,NM];exact⟨⟨⟨trivial,h1⟩,h2⟩,λe a=>Ke (h e a)⟩
def JS{d:PyData}(h:vP d=true):ar (de d)=d/\1<=(de d).length/\(de d).length<=6/\∀e∈de d,e.Wk:=by unfold vP at h;simp only[N7,decide_eq_true_eq,NM]at h;obtain⟨⟨⟨a,b⟩,c⟩,f⟩:=h;obtain⟨e1,_,i⟩:=yQ a;exact⟨e1,b,c,λe g=>Lc (f e g) (i e g)⟩
def okW(d r:PyData)(n:Int):Bool:=vP d&&d7 (de d).length r&&decide (0<=n)&&decide (n<(de d).length)
def nM(h1:1<=es.length)(h2:es.length<=6)(h:∀e∈es,e.Wk)(a:cC es.length rs)(n0:0<=n)(n1:n<es.length):okW (ar es) (ai rs) n=true:=by unfold okW;rw[Ff h1 h2 h,fh,hZ a];simp only[N7,decide_eq_true_eq];exact⟨⟨⟨trivial,trivial⟩,n0⟩,n1⟩
def gU{d r:PyData}(h:okW d r n=true):∃es rs,d=ar es/\r=ai rs/\de d=es/\cn r=rs/\1<=es.length/\es.length<=6/\(∀e∈es,e.Wk)/\cC es.length rs/\0<=n/\n<es.length:=by unfold okW at h;simp only[N7,decide_eq_true_eq]at h;obtain⟨⟨⟨a,b⟩,n0⟩,n1⟩:=h;obtain⟨e1,l1,l6,hok⟩:=JS a;obtain⟨e2,c⟩:=mn b;exact⟨de d,cn r,e1.symm,e2.symm,rfl,rfl,l1,l6,hok,c,n0,n1⟩
theorem Du{ev la:Int}(b:0<ev){t:Int}:∀{row:List Int}{m:Int},hvM ev la m row=true->eE row t=0\/((eE row t:Int)-1)*ev<=t-m
 |[],m,_=>.inl rfl
 |c::r,m,h=>by
  unfold hvM at h;have hm:m<=(if c-la>m then c-la else m):=by split <;> omega
  generalize (if c-la>m then c-la else m)=mo at h hm;split at h
  ·cases h
  ·rename_i hc;rw[dW];have a:=Du b (t:=t) h;by_cases hct:c<=t
   ·rw[if_pos hct];right;rcases a with a|a
    ·rw[a];show (1-1)*ev<=t-m;rw[show (1:Int)-1=0 from rfl,Int.zero_mul];omega
    ·rw[show ((1+eE r t:Nat):Int)-1=(eE r t:Int)-1+1 by omega,OS,Int.one_mul];omega
   ·rw[if_neg hct,Oh];rcases a with a|a
    ·exact .inl a
    ·right;omega
theorem Fl{ev la:Int}(f:0<ev)(hl:0<=la){u t:Int}(g:u<t):∀{row:List Int}{m:Int},hvM ev la m row=true->row.Pairwise (· < ·)->(eE row t:Int)-eE row u<=(t-u-1+la) / ev+1
 |[],m,_,_=>by have:=ON (a:=t-u-1+la) (b:=ev) (by omega) (by omega);show ((0:Nat):Int)-((0:Nat):Int)<=_;omega
 |c::r,m,h,hs=>by
  obtain⟨e,i⟩:=OZ.mp hs;unfold hvM at h;have hm:c-la<=(if c-la>m then c-la else m):=by split <;> omega
  generalize (if c-la>m then c-la else m)=mo at h hm;split at h
  ·cases h
  ·rename_i hc;rw[dW,dW];by_cases hcu:c<=u
   ·rw[if_pos hcu,if_pos (by omega)];have ih:=Fl f hl g h i;omega
   ·rw[if_neg hcu];have z:eE r u=0:=iV λx j=>by have:=e x j;omega
    rw[z];have nn:=ON (a:=t-u-1+la) (b:=ev) (by omega) (by omega);by_cases hct:c<=t
    ·rw[if_pos hct];rcases Du f (t:=t) h with q|q
     ·rw[q];omega
     ·have:(eE r t:Int)<=(t-u-1+la) / ev:=by refine Int.le_ediv_of_mul_le f ?_;rw[Int.sub_mul,Int.one_mul]at q;omega
      omega
    ·rw[if_neg hct];have z2:eE r t=0:=iV λx j=>by have:=e x j;omega
     rw[z2];omega
def stJ(tops:PyData)(len:Str)(js:List Jb):Nat->List Jb×List PyData
 |0=>(js,[])
 |i+1=>cy tops len (stJ tops len js i)
section
variable {len:Str}
theorem fu:∀i,(stJ tops len js i).2.length=i
 |0=>rfl
 |i+1=>by show (cy tops len _).2.length=_;rw[wA,fu i]
theorem q9{b:Jb}:∀{js:List Jb},(js.map (·.num)).Nodup->b∈js->(dh b js).map (·.rank)=js.map (·.rank)
 |[],_,a=>(nomatch a)
 |j::r,nd,a=>by
  rcases mZ nd a with⟨f,e⟩|⟨_,c,e⟩
  ·rw[e,N1,N1,f,nR]
  ·rw[N1,O3]at nd;rw[e,N1,N1,q9 nd.2 c]
theorem uv(a:IvJ tops 0 js)(c:HvJ tops js):∀i:Nat,IvJ tops (i:Int) (stJ tops len js i).1/\HvJ tops (stJ tops len js i).1/\(stJ tops len js i).1.map fZ=js.map fZ/\(stJ tops len js i).1.map (·.rank)=js.map (·.rank)
 |0=>⟨a,c,rfl,rfl⟩
 |i+1=>by
  obtain⟨h1,h2,h,j⟩:=uv a c i;have hl:=fu (tops:=tops) (len:=len) (js:=js) i;have h1:IvJ tops ((stJ tops len js i).2.length:Int) (stJ tops len js i).1:=by rw[hl];exact h1
  have q:=Hq (len:=len) h1;have f:=Hl (len:=len) h1 h2;have e:cy tops len ((stJ tops len js i).1,(stJ tops len js i).2)=stJ tops len js (i+1):=rfl;rw[e]at q f;rw[fu]at q;refine⟨q,f,?_,?_⟩
  all_goals
   rw[<-e];by_cases z:bq (stJ tops len js i).2 (stJ tops len js i).1=[]
   ·rw[fO z];assumption
   ·obtain⟨b,g,_,e2⟩:=mU (tops:=tops) (len:=len) z;rw[e2]
    first|exact (sH h1.ok.nd g).trans h|exact (q9 h1.ok.nd g).trans j
end
structure Trc(tops:PyData)(n:Nat)(q:Nat->Nat->Jb)(who:Nat->Option Nat):Prop where
 lt:∀{i m:Nat},who i=some m->m<n
 on:∀{i m},who i=some m->q m (i+1)=(q m i).next
 off:∀{i m},m<n->who i≠some m->q m (i+1)=q m i
 ok:∀{m} i,m<n->JOk tops (q m i)
 thr:∀{i m:Nat},who i=some m->(q m i).there (i:Int)=true
 idl:∀{i m:Nat},who i=none->m<n->(q m i).there (i:Int)=false
 srt:∀{m} i,m<n->(q m i).row.Pairwise (· < ·)
 low:∀{m:Nat}(i:Nat),m<n->0<=fg (i:Int) (q m i)
 spt:∀{m:Nat}(i:Nat),m<n->(q m i).spent≠0->(q m i).there (i:Int)=true
 tp:∀{m:Nat}(i:Nat){T:Int},m<n->(q m i).held=some T->fU tops T<=(q m i).rank
 num:∀{m:Nat}(i:Nat),m<n->(q m i).num=(m:Int)
section
variable {n:Nat}{q:Nat->Nat->Jb}{who:Nat->Option Nat}
theorem Trc.stay(R:Trc tops n q who)(hm:m<n):∀i,(q m i).parts=(q m 0).parts/\(q m i).row=(q m 0).row/\(q m i).rank=(q m 0).rank
 |0=>⟨rfl,rfl,rfl⟩
 |i+1=>by
  have h:=R.stay hm i;by_cases w:who i=some m
  ·rw[R.on w,jo,i5,nR];exact h
  ·rw[R.off hm w];exact h
def Trc.tot1(R:Trc tops n q who)(hm:m<n):(q m (i+1)).tot=(q m i).tot+(if who i=some m then 1 else 0):=by
 by_cases w:who i=some m
 ·rw[R.on w,if_pos w,pY (R.ok i hm)]
 ·rw[R.off hm w,if_neg w];omega
def Trc.mono(R:Trc tops n q who)(hm:m<n){j:Nat}(h:i<=j):(q m i).tot<=(q m j).tot:=by
 induction h with
 |refl=>exact Oj _
 |step _ ih=>rw[R.tot1 hm];split <;> omega
def Trc.wk(R:Trc tops n q who)(hm:m<n)(i:Nat):(q m i).work=(q m 0).work:=by unfold Jb.work;rw[(R.stay hm i).1]
def Trc.wpos(R:Trc tops n q who)(hm:m<n)(i:Nat):0<(q m i).work:=by have:=lW (R.ok i hm);omega
def Trc.job_tot(R:Trc tops n q who)(hm:m<n)(i:Nat):((q m i).job:Int)=(q m i).tot / (q m 0).work:=by rw[<-R.wk hm i];exact (HW (R.ok i hm)).symm
def Trc.come(R:Trc tops n q who)(hm:m<n)(i:Nat):(q m (i+1)).tot<=(eE (q m 0).row (i:Int):Int)*(q m 0).work:=by
 have h:=R.low i hm;unfold fg at h;rw[R.wk hm,(R.stay hm i).2.1]at h;rw[R.tot1 hm];split
 ·rename_i w;have:=rE (R.ok i hm) (R.srt i hm) (R.thr w);unfold fg at this;rw[R.wk hm,(R.stay hm i).2.1]at this;omega
 ·omega
def Trc.Clr(q:Nat->Nat->Jb)(m i:Nat):Prop:=(q m i).tot=(eE (q m 0).row ((i:Int)-1):Int)*(q m 0).work
def Trc.not_clr(R:Trc tops n q who)(hm:m<n)(h:¬ Trc.Clr q m (i+1)):(q m i).there (i:Int)=true/\(q m (i+1)).tot<(eE (q m 0).row (i:Int):Int)*(q m 0).work:=by
 have h1:=R.come hm i;unfold Trc.Clr at h;rw[show ((i+1:Nat):Int)-1=(i:Int) by omega]at h;refine⟨?_,by omega⟩;by_cases t:(q m i).there (i:Int)=true
 ·exact t
 ·have t:(q m i).there (i:Int)=false:=by simpa using t
  have w:who i≠some m:=λw=>by rw[R.thr w]at t;cases t
  have:=xo (R.ok i hm) (R.srt i hm) (R.low i hm) t;unfold fg at this;rw[R.wk hm,(R.stay hm i).2.1]at this;rw[R.tot1 hm,if_neg w]at h h1;omega
def Trc.left(R:Trc tops n q who)(hm:m<n)(h:(q m i).tot<(eE (q m 0).row (i:Int):Int)*(q m 0).work):(q m i).there (i:Int)=true:=by
 by_cases t:(q m i).there (i:Int)=true
 ·exact t
 ·have t:(q m i).there (i:Int)=false:=by simpa using t
  have:=xo (R.ok i hm) (R.srt i hm) (R.low i hm) t;unfold fg at this;rw[R.wk hm,(R.stay hm i).2.1]at this;omega
end
def qJ(tops:PyData)(len:Str)(js:List Jb)(m i:Nat):Jb:=(stJ tops len js i).1.getD m default
def thA(tops:PyData)(len:Str)(js:List Jb)(i:Nat):List Jb:=bq (stJ tops len js i).2 (stJ tops len js i).1
open Classical in
def rL(tops:PyData)(len:Str)(js:List Jb)(i:Nat):Option Nat:=if thA tops len js i=[] then none else some (bZ tops len (thA tops len js i)).num.toNat
section
variable {len:Str}
def kY(h:m<(stJ tops len js i).1.length):qJ tops len js m i=(stJ tops len js i).1[m]:=by unfold qJ;rw[NH,My h];rfl
def uA(a:IvJ tops 0 js)(b:HvJ tops js)(i:Nat):(stJ tops len js i).1.length=js.length:=wu (uv a b i).2.2.1
def sW(h:j∈thA tops len js i):j∈(stJ tops len js i).1/\j.there (i:Int)=true:=by have:=NW.mp h;rw[fu]at this;exact this
def i3(b:IvJ tops 0 js)(c:HvJ tops js)(f:Sx js)(h:rL tops len js i=some m):m<js.length/\thA tops len js i≠[]/\qJ tops len js m i=bZ tops len (thA tops len js i):=by
 unfold rL at h;split at h
 ·cases h
 ·rename_i z;have hm:=(sW (gR (tops:=tops) (len:=len) z)).1;obtain⟨k,a,e⟩:=Ow hm;have hn:=(AU (uv b c i).2.2.1 f).num k a;rw[e]at hn;have:m=k:=by injection h with h;omega
  subst this;exact⟨by rw[<-uA b c i];exact a,z,by rw[kY a,e]⟩
def A9(i:Nat):(stJ tops len js (i+1)).1=if thA tops len js i=[] then (stJ tops len js i).1 else dh (bZ tops len (thA tops len js i)) (stJ tops len js i).1:=by show (cy tops len (stJ tops len js i)).1=_;unfold cy thA;split <;> rfl
def Hw{T:Nat}(h:i<T):(stJ tops len js T).2[i]?=some (if thA tops len js i=[] then .none else fF (bZ tops len (thA tops len js i))):=by
 induction h with
 |refl =>show (cy tops len (stJ tops len js i)).2[i]?=_;unfold cy thA;split <;> (show (_++[_])[i]?=_;rw[NT (by rw[fu];omega),fu,Nat.sub_self];rfl)
 |step a ih =>
  rename_i T;have hl:=fu (tops:=tops) (len:=len) (js:=js) T;have:(stJ tops len js (T+1)).2[i]?=(stJ tops len js T).2[i]?:=by show (cy tops len (stJ tops len js T)).2[i]?=_;unfold cy;have a:i<T:=a;split <;> (show (_++[_])[i]?=_;rw[NP (by omega)])
  rw[this,ih]
def Kg(a:IvJ tops 0 js)(b:HvJ tops js)(f:Sx js):Trc tops js.length (qJ tops len js) (rL tops len js):=by
 have inv:=λi=>uv (len:=len) a b i
 have g:=λi=>uA (len:=len) a b i
 have mem:∀{m} i,m<js.length->qJ tops len js m i∈(stJ tops len js i).1:=λ{m} i h=>by
  have hm:m<(stJ tops len js i).1.length:=by rw[g];exact h
  rw[kY hm];exact NQ hm
 have num:∀{m} i,m<js.length->(qJ tops len js m i).num=(m:Int):=λ{m} i h=>by
  have hm:m<(stJ tops len js i).1.length:=by rw[g];exact h
  rw[kY hm];exact (AU (inv i).2.2.1 f).num m hm
 have iv':∀i,IvJ tops ((stJ tops len js i).2.length:Int) (stJ tops len js i).1:=λi=>by rw[fu];exact (inv i).1
 refine⟨λh=>(i3 a b f h).1,λ{i m} h=>?_,λ{i m} hm h=>?_,λ{m} i h=>(inv i).1.ok.ok _ (mem i h),λ{i m} h=>?_,λ{i m} h hm=>?_,λ{m} i h=>(inv i).1.srt _ (mem i h),λ{m} i h=>(inv i).1.low _ (mem i h),λ{m} i h hs=>oB (inv i).1 (mem i h) hs,λ{m} i {T} h ht=>?_,λ{m} i h=>num i h⟩
 ·obtain⟨hm,z,e⟩:=i3 a b f h;have h1:m<(stJ tops len js (i+1)).1.length:=by rw[g];exact hm
  have c:m<(stJ tops len js i).1.length:=by rw[g];exact hm
  have e1:qJ tops len js m (i+1)=(dh (bZ tops len (thA tops len js i)) (stJ tops len js i).1).getD m default:=by unfold qJ;rw[A9,if_neg z]
  rw[e1,<-e];unfold dh;rw[NH,NK,My c,<-kY c];simp
 ·unfold qJ;rw[A9];split
  ·rfl
  ·rename_i z;have c:m<(stJ tops len js i).1.length:=by rw[g];exact hm
   have hn:=num i hm;rw[kY c]at hn;have hw:rL tops len js i=some (bZ tops len (thA tops len js i)).num.toNat:=by unfold rL;rw[if_neg z]
   have hw':=i3 a b f hw;have j:¬ (stJ tops len js i).1[m].num=(bZ tops len (thA tops len js i)).num:=λe=>h (by rw[hw,<-e,hn];rfl)
   unfold dh;rw[NH,NK,My c,NH,My c];simp[j]
 ·obtain⟨hm,z,e⟩:=i3 a b f h;rw[e];exact (sW (gR z)).2
 ·unfold rL at h;split at h
  ·rename_i z;by_cases t:(qJ tops len js m i).there (i:Int)=true
   ·have:qJ tops len js m i∈thA tops len js i:=NW.mpr ⟨mem i hm,by rw[fu];exact t⟩;rw[z]at this;cases this
   ·simpa using t
  ·cases h
 ·obtain⟨h1,h2⟩:=iY ht;obtain⟨p,l,e⟩:=tw ((inv i).1.ok.ok _ (mem i h)) h1;exact (inv i).2.1.top _ (mem i h) p l T e
def Hr(a:IvJ tops 0 js)(b:HvJ tops js)(f:Sx js){p:Nat}(h:rL tops "high" js i=some m)(g:p<js.length)(t:(qJ tops "high" js p i).there (i:Int)=true):ltD (fD tops (qJ tops "high" js p i)) (fD tops (qJ tops "high" js m i))=false:=by
 obtain⟨hm,z,e⟩:=i3 a b f h;have c:p<(stJ tops "high" js i).1.length:=by rw[uA a b];exact g
 have:qJ tops "high" js p i∈thA tops "high" js i:=NW.mpr ⟨by rw[kY c];exact NQ c,by rw[fu];exact t⟩;rw[e];have e2:bZ tops "high" (thA tops "high" js i)=f6 (fD tops) (thA tops "high" js i):=by unfold bZ;exact if_pos (by decide)
 rw[e2];exact tX z this
end
def qw(tops:PyData)(n:Nat)(q:Nat->Nat->Jb)(who:Nat->Option Nat):Prop:=∀{i m p:Nat},who i=some m->p<n->(q p i).there (i:Int)=true->ltD (fD tops (q p i)) (fD tops (q m i))=false
def hgt(tops:PyData)(j:Jb):Int:=match j.held with
 |some T=>if fU tops T<j.rank then fU tops T else j.rank
 |none=>j.rank
def Am{a b:Jb}(h:ltD (fD tops a) (fD tops b)=false):hgt tops b<=hgt tops a/\(hgt tops b=hgt tops a->b.held=none->a.held=none):=by
 have key:∀j:Jb,fD tops j=.tuple [.int (hgt tops j),.int (if j.held=none then 1 else 0)]:=λj=>by
  unfold hgt;cases e:j.held with
  |none=>rw[sE e];rfl
  |some T=>rw[sU e];rfl
 rw[key,key,Aw]at h;by_cases e:hgt tops a=hgt tops b
 ·rw[if_pos e]at h;refine⟨by omega,λ_ c=>?_⟩;rw[if_pos c]at h;cases ha:a.held with
  |none=>rfl
  |some T=>rw[ha]at h;simp at h
 ·rw[if_neg e]at h;have:=of_decide_eq_false h;exact⟨by omega,λz=>absurd z.symm e⟩
def Ku(tops:PyData)(j:Jb):hgt tops j<=j.rank:=by
 unfold hgt;split
 ·split <;> omega
 ·exact Oj _
def xG(h:j.held=some T)(ht:fU tops T<=j.rank):hgt tops j=fU tops T:=by unfold hgt;rw[h];show (if _ then _ else _)=_;split <;> omega
def xn(h:j.held=none):hgt tops j=j.rank:=by unfold hgt;rw[h]
section
variable {n:Nat}{q:Nat->Nat->Jb}{who:Nat->Option Nat}
theorem Trc.pair(R:Trc tops n q who)(c:qw tops n q who)(f:∀m,m<n->(q m 0).held=none):∀(i:Nat){a b:Nat}{S T:Int},a<n->b<n->a≠b->(q a i).held=some S->(q b i).held=some T->(q a i).rank<fU tops T\/(q b i).rank<fU tops S
 |0,a,_,S,_,ha,_,_,e,_=>by rw[f a ha]at e;cases e
 |i+1,a,b,S,T,ha,hb,hab,ea,eb=>by
  have step:∀{a b:Nat}{S T:Int},a<n->b<n->a≠b->who i=some a->(q a (i+1)).held=some S->(q b (i+1)).held=some T->(q a i).spent=0->(q a (i+1)).rank<fU tops T:=λ{a b S T} ha hb hab w ea eb hs=>by
   have g:who i≠some b:=λz=>hab (by rw[w]at z;cases z;rfl)
   rw[R.off hb g]at eb;have na:(q a i).held=none:=by unfold Jb.held;rw[if_pos hs]
   have k:=Am (c w hb (R.spt i hb (iY eb).2));rw[xn na,xG eb (R.tp i hb eb)]at k;have:¬ (q a i).rank=fU tops T:=λz=>by rw[k.2 z na]at eb;cases eb
   rw[(R.stay ha (i+1)).2.2,<- (R.stay ha i).2.2];omega
  have old:∀{a:Nat}{S:Int},a<n->(q a (i+1)).held=some S->¬ (who i=some a/\(q a i).spent=0)->(q a i).held=some S:=λ{a S} ha ea hn=>by
   by_cases w:who i=some a
   ·rw[R.on w]at ea;have:=mR (R.ok i ha) ea;unfold Jb.held;rw[if_neg (λz=>hn ⟨w,z⟩)];exact this
   ·rw[R.off ha w]at ea;exact ea
  by_cases na:who i=some a/\(q a i).spent=0
  ·exact .inl (step ha hb hab na.1 ea eb na.2)
  ·by_cases nb:who i=some b/\(q b i).spent=0
   ·exact .inr (step hb ha (Ne.symm hab) nb.1 eb ea nb.2)
   ·have:=R.pair c f i ha hb hab (old ha ea na) (old hb eb nb);rw[(R.stay ha (i+1)).2.2,<- (R.stay ha i).2.2,(R.stay hb (i+1)).2.2,<- (R.stay hb i).2.2];exact this
def Trc.below(R:Trc tops n q who)(a:qw tops n q who){p:Nat}{r:Int}(w:who i=some m)(b:p<n)(t:(q p i).there (i:Int)=true)(h1:(q p i).rank<=r)(h2:r<(q m i).rank):∃T,(q m i).held=some T/\fU tops T<=r:=by
 have k:=(Am (a w b t)).1;have:=Ku tops (q p i);cases e:(q m i).held with
 |none=>rw[xn e]at k;omega
 |some T=>rw[xG e (R.tp i (R.lt w) e)]at k;exact⟨T,rfl,by omega⟩
theorem Trc.begun(R:Trc tops n q who)(b:qw tops n q who){E:Nat}{r:Int}(hw:∀t,B<=t->t<E->∃p,p<n/\(q p t).there (t:Int)=true/\(q p t).rank<=r)(hm:m<n)(c:r<(q m 0).rank):∀{t:Nat},B<=t->t<E->(q m t).spent≠0->∀u,B<=u->u<=t->(q m u).job=(q m t).job/\(q m u).part=(q m t).part/\(q m u).spent≠0/\(q m u).spent<=(q m t).spent
 |0,h1,h2,hs,u,h3,h4=>by
  have:u=0:=by omega
  subst this;exact⟨rfl,rfl,hs,N6 _⟩
 |t+1,h1,h2,hs,u,h3,h4=>by
  by_cases e:u=t+1
  ·subst e;exact⟨rfl,rfl,hs,N6 _⟩
  ·by_cases w:who t=some m
   ·obtain⟨p,h,tp,i⟩:=hw t (by omega) (by omega);obtain⟨T,j,_⟩:=R.below b w h tp i (by rw[(R.stay hm t).2.2];exact c);have f:=(iY j).2;have g:=R.begun b hw hm c (t:=t) (by omega) (by omega) f u h3 (by omega);have nx:=R.on w;have a:(q m (t+1)).job=(q m t).job/\(q m (t+1)).part=(q m t).part/\(q m (t+1)).spent=(q m t).spent+1:=by
     rw[nx]at hs ⊢;unfold Jb.next Jb.step1 at hs ⊢;split at hs
     ·exfalso;apply hs;unfold Jb.step2;split <;> rfl
     ·rename_i z;rw[if_neg z];unfold Jb.step2;rw[if_neg (by have:=(R.ok t hm).pt;simp only;omega)];exact⟨rfl,rfl,rfl⟩
    exact⟨g.1.trans a.1.symm,g.2.1.trans a.2.1.symm,g.2.2.1,by omega⟩
   ·have nx:=R.off hm w;rw[nx]at hs ⊢;exact R.begun b hw hm c (t:=t) (by omega) (by omega) hs u h3 (by omega)
end
theorem Be{α:Type}{f g:α->Int}:∀{l:List α},(∀x∈l,f x<=g x)->(l.map f).sum<=(l.map g).sum
 |[],_=>by simp
 |x::r,h=>by
  rw[N1,N1,O2,O2];have:=h x N3;have:=Be (l:=r) λy a=>h y (N0 _ a)
  omega
theorem z0{α:Type}{f:α->Int}{P:α->Prop}{H:Int}(c:0<=H):∀{l:List α},l.Nodup->(∀x∈l,f x=0\/(P x/\f x<=H))->(∀x∈l,∀y∈l,P x->P y->x=y)->(l.map f).sum<=H
 |[],_,_,_=>by simpa using c
 |x::r,nd,h,u=>by
  rw[N1,O2];have b:=O3.mp nd;rcases h x N3 with e|⟨g,hx⟩
  ·have:=z0 c (l:=r) b.2 (λy a=>h y (N0 _ a)) (λy a z i=>u y (N0 _ a) z (N0 _ i));omega
  ·have:(r.map f).sum=0:=mq f λy a=>by
    rcases h y (N0 _ a) with e|⟨j,_⟩
    ·exact e
    ·have:=u x N3 y (N0 _ a) g j;subst this;exact (b.1 a).elim
   omega
theorem Ba{m:Nat}:∀{l:List Int},l.Nodup->(∀x∈l,0<=x)->(m:Int)∈l->(l.map λx=>if m=x.toNat then (1:Int) else 0).sum=1
 |[],_,_,h=>(nomatch h)
 |x::r,nd,hp,h=>by
  rw[N1,O2];have a:=O3.mp nd;have hx:=hp x N3;by_cases e:m=x.toNat
  ·have:(r.map λx=>if m=x.toNat then (1:Int) else 0).sum=0:=mq _ λy b=>by
    rw[if_neg];intro z;have:=hp y (N0 _ b);have:y=x:=by omega
    subst this;exact a.1 b
   rw[if_pos e];omega
  ·rw[if_neg e];have:(m:Int)∈r:=by
    rcases N5.mp h with z|z
    ·exact absurd (by omega:m=x.toNat) e
    ·exact z
   have:=Ba a.2 (λy b=>hp y (N0 _ b)) this;omega
section
variable {n:Nat}{q:Nat->Nat->Jb}{who:Nat->Option Nat}
def Trc.low_one(R:Trc tops n q who)(a:qw tops n q who){r:Int}(hm:m<n)(b:r<(q m 0).rank):∀(d:Nat),(∀t,B<=t->t<B+d->∃p,p<n/\(q p t).there (t:Int)=true/\(q p t).rank<=r) ->
  (q m (B+d)).tot=(q m B).tot\/∃p∈(q m 0).parts,∃T,p.2=some T/\fU tops T<=r/\(q m (B+d)).tot-(q m B).tot<=p.1-1/\(q m B).held=some T
 |0,_=>.inl rfl
 |d+1,hw=>by
  by_cases w:who (B+d)=some m
  ·right;obtain⟨p,h,tp,j⟩:=hw (B+d) (by omega) (by omega);obtain⟨T,l,o⟩:=R.below a w h tp j (by rw[(R.stay hm _).2.2];exact b);obtain⟨e1,s⟩:=iY l;obtain⟨u,g,v,j4⟩:=R.begun a (E:=B+d+1) (λt h1 h2=>hw t h1 (by omega)) hm b (t:=B+d) (by omega) (by omega) s B (N6 _) (by omega);have ok:=R.ok (B+d) hm;have pt:=ok.pt;have c:(q m (B+d)).parts[(q m (B+d)).part]'pt∈(q m 0).parts:=by rw[<- (R.stay hm (B+d)).1];exact NQ pt
   have hl:(q m (B+d)).len=((q m (B+d)).parts[(q m (B+d)).part]'pt).1:=by unfold Jb.len;rw[My pt];rfl
   have f:(q m (B+d)).tool=((q m (B+d)).parts[(q m (B+d)).part]'pt).2:=by unfold Jb.tool;rw[My pt];rfl
   refine⟨_,c,T,by rw[<-f];exact e1,o,?_,?_⟩
   ·have h1:=R.tot1 (i:=B+d) hm;rw[if_pos w]at h1;have h2:(q m (B+d)).tot-(q m B).tot=((q m (B+d)).spent:Int)-(q m B).spent:=by unfold Jb.tot Jb.cur;rw[R.wk hm (B+d),R.wk hm B,(R.stay hm (B+d)).1,(R.stay hm B).1,u,g];omega
    have:=ok.sp;show (q m (B+d+1)).tot-(q m B).tot<=_;omega
   ·unfold Jb.held;rw[if_neg v];have:(q m B).tool=(q m (B+d)).tool:=by unfold Jb.tool;rw[g,(R.stay hm B).1,(R.stay hm (B+d)).1]
    rw[this];exact e1
  ·have h1:=R.tot1 (i:=B+d) hm;rw[if_neg w]at h1;have x:=R.low_one a hm b d λt h1 h2=>hw t h1 (by omega)
   show (q m (B+d+1)).tot=_\/_;rw[h1,Int.add_zero];rcases x with e|⟨p,a1,T,a2,y,z,A⟩
   ·exact .inl e
   ·exact .inr ⟨p,a1,T,a2,y,by show (q m (B+d+1)).tot-_<=_;rw[h1,Int.add_zero];exact z,A⟩
theorem Trc.works(R:Trc tops n q who)(b:cC n rs):∀(d:Nat),(∀t,B<=t->t<B+d->who t≠none)->(rs.map λx=>(q x.toNat (B+d)).tot-(q x.toNat B).tot).sum=(d:Int)
 |0,_=>mq _ λx _=>by show (q x.toNat B).tot-(q x.toNat B).tot=0;omega
 |d+1,h=>by
  have c:=R.works b d λt h1 h2=>h t h1 (by omega)
  obtain⟨m,hm⟩:=Option.ne_none_iff_exists'.mp (h (B+d) (by omega) (by omega));have hit:=Ba (m:=m) b.nd (λx j=>(b.rng x j).1) (b.mem (by omega) (by have:=R.lt hm;omega));have:(rs.map λx=>(q x.toNat (B+(d+1))).tot-(q x.toNat B).tot)=rs.map λx=>((q x.toNat (B+d)).tot-(q x.toNat B).tot)+(if m=x.toNat then (1:Int) else 0):=by
   refine NI λx j=>?_
   have hx':=b.rng x j;have h1:=R.tot1 (i:=B+d) (m:=x.toNat) (by omega);show (q x.toNat (B+d+1)).tot-_=_;rw[h1,hm];by_cases e:m=x.toNat
   ·rw[if_pos (by rw[e]),if_pos e];omega
   ·rw[if_neg (by intro z;cases z;exact e rfl),if_neg e];omega
  rw[this];have add:∀(f g:Int->Int)(l:List Int),(l.map λx=>f x+g x).sum=(l.map f).sum+(l.map g).sum:=λf g l=>by
   induction l with
   |nil=>rfl
   |cons a r c=>simp only[N1,O2,c];omega
  rw[add,c,hit];omega
def Bp(h:JOk tops j)(hl:∀p,j.parts.getLast?=some p->p.2=none)(hc:j.cur=j.work-1):j.held=none:=by
 have pt:=h.pt;have hlen:j.len=j.parts[j.part].1:=by unfold Jb.len;rw[My pt];rfl
 have sp:=h.sp;have htk:=iT pt;have e:j.part+1=j.parts.length:=by
  by_cases z:j.part+1=j.parts.length
  ·exact z
  ·exfalso;have lt:j.part+1<j.parts.length:=by omega
   have h1:=iT lt;have h2:=mI h.ln (j.part+1+1);have h3:=h.ln _ (NQ lt);unfold Jb.cur Jb.work at hc;omega
 have a:j.tool=none:=by unfold Jb.tool;rw[My pt];refine hl _ ?_;rw[List.getLast?_eq_getElem?,<-My pt];congr 1;omega
 unfold Jb.held;split
 ·rfl
 ·exact a
end
def Cp(a:row.Pairwise (· < ·)){k:Nat}(b:k<row.length):eE row (row[k]-1)=k:=by
 have h1:=oY b a (t:=row[k]-1) (by omega);by_cases z:k=0
 ·omega
 ·have h2:=pj (t:=row[k]-1) (k:=k-1) (by omega) a (by have:=List.pairwise_iff_getElem.mp a (k-1) k (by omega) b (by omega);omega)
  omega
def EC{p:Nat}{m:Int}(h:m∈rs.take p):placeOf rs m<p:=by have e:placeOf (rs.take p++rs.drop p) m=placeOf (rs.take p) m:=yl h;rw[Pz]at e;have h1:=lp h;rw[P6]at h1;omega
theorem uc{P:Nat->Prop}(a:P 0):∀c,∃B,B<=c/\P B/\∀b,B<b->b<=c->¬ P b
 |0=>⟨0,N6 _,a,λb h1 h2=>by omega⟩
 |c+1=>by
  by_cases h:P (c+1)
  ·exact⟨c+1,N6 _,h,λb h1 h2=>by omega⟩
  ·obtain⟨B,a1,a2,f⟩:=uc a c;refine⟨B,by omega,a2,λb h1 h2=>?_⟩;by_cases e:b=c+1
   ·subst e;exact h
   ·exact f b h1 (by omega)
section
variable {n:Nat}{q:Nat->Nat->Jb}{who:Nat->Option Nat}
theorem Trc.passed(R:Trc tops n q who)(hm:m<n){v:Int}:∀(d:Nat),(q m B).tot<v->v<=(q m (B+d)).tot->∃t,B<=t/\t<B+d/\who t=some m/\(q m t).tot=v-1
 |0,h1,h2=>by rw[Nat.add_zero]at h2;omega
 |d+1,h1,h2=>by
  by_cases h:v<=(q m (B+d)).tot
  ·obtain⟨t,a1,a2,a⟩:=R.passed hm d h1 h;exact⟨t,a1,by omega,a⟩
  ·have:=R.tot1 (i:=B+d) hm;have h2:v<=(q m (B+d+1)).tot:=h2;by_cases w:who (B+d)=some m
   ·rw[if_pos w]at this;exact⟨B+d,by omega,by omega,w,by omega⟩
   ·rw[if_neg w]at this;omega
def Trc.answer(R:Trc tops n q who)(Q:qw tops n q who)(U:∀m,m<n->(q m 0).tot=0)(F:∀m,m<n->(q m 0).held=none)(E:cC n rs)(s:∀m,m<n->(q m 0).rank=(placeOf rs (m:Int):Int))(pos:∀m,m<n->∀c∈(q m 0).row,0<=c)
  {a:Nat} (ha:a<n) {H:Int} {L:Nat} {tm:Int->Int} (G:0<=H) (hH:∀m,m<n->placeOf rs (a:Int)<placeOf rs (m:Int)->∀p∈(q m 0).parts,∀T,p.2=some T->fU tops T<=(placeOf rs (a:Int):Int)->p.1-1<=H)
  (f:∀p,(q a 0).parts.getLast?=some p->p.2=none) (C:∀m,m<n->placeOf rs (m:Int)<placeOf rs (a:Int)->∀B:Nat,(eE (q m 0).row ((B:Int)+L-1):Int)-eE (q m 0).row ((B:Int)-1)<=tm (m:Int))
  (hL:1<=L) (need:H+(q a 0).work+((rs.take (placeOf rs (a:Int))).map λx=>tm x*(q x.toNat 0).work).sum<=(L:Int)) (gap:∀k(h:k+1<(q a 0).row.length),(q a 0).row[k]+L<=(q a 0).row[k+1]) :
  ∀k(W:k<(q a 0).row.length),((k:Int)+1)*(q a 0).work<=(q a ((q a 0).row[k].toNat+L)).tot
 |k,W=>by
  have hs:=R.srt 0 ha;have c0:=pos a ha _ (NQ W);have wp:=R.wpos ha 0
  -- the earlier ones are done when it comes
  have e1:(k:Int)*(q a 0).work<=(q a (q a 0).row[k].toNat).tot:=by
   by_cases z:k=0
   ·subst z;have:=R.mono ha (Oc (q a 0).row[0].toNat);rw[U a ha]at this;simpa using this
   ·have I:k-1<(q a 0).row.length:=by omega
    have ih:=R.answer Q U F E s pos ha G hH f C hL need gap (k-1) I;have g:=gap (k-1) (by omega);have ek:k-1+1=k:=by omega
    simp only[ek]at g;have c1:=pos a ha _ (NQ I);have m1:=R.mono ha (i:=(q a 0).row[k-1].toNat+L) (j:=(q a 0).row[k].toNat) (by omega);rw[show ((k-1:Nat):Int)+1=(k:Int) by omega]at ih;exact Int.le_trans ih m1
  have e2:(q a (q a 0).row[k].toNat).tot<=(k:Int)*(q a 0).work:=by
   by_cases z:(q a 0).row[k].toNat=0
   ·rw[z,U a ha];exact Pm (by omega) (by omega)
   ·have:=R.come ha ((q a 0).row[k].toNat-1);rw[show (q a 0).row[k].toNat-1+1=(q a 0).row[k].toNat by omega,show (((q a 0).row[k].toNat-1:Nat):Int)=(q a 0).row[k]-1 by omega,Cp hs W]at this;exact this
  generalize hc:(q a 0).row[k].toNat=c at *;have hcI:(q a 0).row[k]=(c:Int):=by omega
  refine Int.not_lt.mp λno=>?_
  -- the last time Y to its coming at which nothing higher is left from before
  obtain⟨B,b1,b2,b3⟩:=uc (P:=λb=>∀m,m<n->placeOf rs (m:Int)<placeOf rs (a:Int)->Trc.Clr q m b) (λm hm _=>by unfold Trc.Clr;rw[U m hm,iV (λc hc=>by have:=pos m hm c hc;omega)];simp) c
  have Y:∀t,B<=t->t<c->∃p,p<n/\(q p t).there (t:Int)=true/\(q p t).rank<(q a 0).rank:=λt h1 h2=>by have D:=b3 (t+1) (by omega) (by omega);obtain⟨m,D⟩:=Classical.not_forall.mp D;obtain⟨hm,D⟩:=Classical.not_forall.mp D;obtain⟨Z,D⟩:=Classical.not_forall.mp D;refine⟨m,hm,(R.not_clr hm D).1,?_⟩;rw[(R.stay hm t).2.2,s m hm,s a ha];omega
  have self:∀t,c<=t->t<c+L->(q a t).there (t:Int)=true:=λt h1 h2=>by refine R.left ha ?_;have J:=pj W hs (t:=(t:Int)) (by omega);have h4:=R.mono ha (i:=t) (j:=c+L) (by omega);have h5:=NU (a:=(k:Int)+1) (b:=(eE (q a 0).row (t:Int):Int)) (c:=(q a 0).work) (by omega) (by omega);omega
  have K:∀t,B<=t->t<B+L->∃p,p<n/\(q p t).there (t:Int)=true/\(q p t).rank<=(q a 0).rank:=λt h1 h2=>by
   by_cases z:t<c
   ·obtain⟨p,x1,x2,x3⟩:=Y t h1 z;exact⟨p,x1,x2,by omega⟩
   ·exact⟨a,ha,self t (by omega) (by omega),by rw[(R.stay ha t).2.2];exact Oj _⟩
  -- its own earlier jobs are done by then
  have own:(k:Int)*(q a 0).work<=(q a B).tot:=by
   refine Int.not_lt.mp λlt=>?_
   obtain⟨t,h1,h2,w,J⟩:=R.passed ha (B:=B) (v:=(k:Int)*(q a 0).work) (c-B) lt (by rw[show B+(c-B)=c by omega];exact e1);obtain⟨p,x1,x2,x3⟩:=Y t h1 (by omega);obtain⟨T,X,_⟩:=R.below Q w x1 x2 (Oj _) (by rw[(R.stay ha t).2.2];exact x3);have ok:=R.ok t ha;have M:(q a t).cur=(q a t).work-1:=by
    have cb:=lW ok;have e:(q a t).tot=((q a t).job:Int)*(q a t).work+(q a t).cur:=rfl;rw[J,R.wk ha t]at e;rw[R.wk ha t]at cb ⊢;have hj:((q a t).job:Int)<k:=by
     refine Int.not_le.mp λz=>?_
     have:=NU (a:=(k:Int)) (b:=((q a t).job:Int)) (c:=(q a 0).work) z (by omega);omega
    have hj2:(k:Int)<=(q a t).job+1:=by
     refine Int.not_lt.mp λz=>?_
     have:=NU (a:=((q a t).job:Int)+2) (b:=(k:Int)) (c:=(q a 0).work) (by omega) (by omega);rw[OS]at this;omega
    have:(k:Int)=(q a t).job+1:=by omega
    rw[this,OS]at e;omega
   rw[Bp ok (by rw[(R.stay ha t).1];exact f) M]at X;cases X
  -- all that is done from there on
  have sum:=R.works E (B:=B) L λt h1 h2 z=>by obtain⟨p,x1,x2,_⟩:=K t h1 h2;rw[R.idl z x1]at x2;cases x2
  have N:(a:Int)∈rs:=E.mem (by omega) (by omega);have u:=kr N;have O:placeOf rs (a:Int)<rs.length:=by
   refine Nat.not_le.mp λz=>?_
   rw[OO z]at u;cases u
  have split:rs=rs.take (placeOf rs (a:Int))++(a:Int)::rs.drop (placeOf rs (a:Int)+1):=by
   conv=>lhs;rw[<-Pz (placeOf rs (a:Int)) rs]
   congr 1;rw[OQ O];rw[My O]at u;rw[Option.some.inj u]
  have s1:((rs.take (placeOf rs (a:Int))).map λx=>(q x.toNat (B+L)).tot-(q x.toNat B).tot).sum<=((rs.take (placeOf rs (a:Int))).map λx=>tm x*(q x.toNat 0).work).sum:=Be λx o=>by
   have hxr:=E.rng x (OD o);have A:x.toNat<n:=by omega
   have ex:((x.toNat:Nat):Int)=x:=by omega
   have Z:placeOf rs ((x.toNat:Nat):Int)<placeOf rs (a:Int):=by rw[ex];exact EC o
   have h1:=b2 x.toNat A Z;unfold Trc.Clr at h1;have h2:=R.come A (B+L-1);rw[show B+L-1+1=B+L by omega,show ((B+L-1:Nat):Int)=(B:Int)+L-1 by omega]at h2;have J:=C x.toNat A Z B;rw[ex]at J;have h4:=NU J (Int.le_of_lt (R.wpos A 0));rw[Int.sub_mul]at h4;show (q x.toNat (B+L)).tot-(q x.toNat B).tot<=tm x*(q x.toNat 0).work;omega
  have s2:((rs.drop (placeOf rs (a:Int)+1)).map λx=>(q x.toNat (B+L)).tot-(q x.toNat B).tot).sum<=H:=by
   have nd:=E.nd;have l:∀x∈rs.drop (placeOf rs (a:Int)+1),x.toNat<n/\((x.toNat:Nat):Int)=x/\placeOf rs (a:Int)<placeOf rs ((x.toNat:Nat):Int):=λx o=>by
    have hxr:=E.rng x (OR o);have ex:((x.toNat:Nat):Int)=x:=by omega
    refine⟨by omega,ex,?_⟩;rw[ex];refine Nat.not_le.mp λz=>?_
    obtain⟨i,hi,e⟩:=Ow o;rw[List.getElem_drop]at e;have h5:=kr (OR o);have hi2:placeOf rs (a:Int)+1+i<rs.length:=by rw[P7]at hi;omega
    have h6:placeOf rs x<rs.length:=by omega
    rw[My h6]at h5;exact (List.pairwise_iff_getElem.mp nd (placeOf rs x) (placeOf rs (a:Int)+1+i) h6 hi2 (by omega)) ((Option.some.inj h5).trans e.symm)
   refine z0 (P:=λx=>∃T,(q x.toNat B).held=some T/\fU tops T<=(q a 0).rank) G (List.Nodup.sublist (List.drop_sublist _ _) nd) (λx o=>?_) (λx o y hy hX hY=>?_)
   ·obtain⟨x1,x2,x3⟩:=l x o;rcases R.low_one Q x1 (B:=B) (r:=(q a 0).rank) (by rw[s _ x1,s a ha];omega) L K with e|⟨p,p1,T,p2,p3,p4,p5⟩
    ·left;show (q x.toNat (B+L)).tot-(q x.toNat B).tot=0;omega
    ·right;refine⟨⟨T,p5,p3⟩,?_⟩;have:=hH _ x1 x3 p p1 T p2 (by rw[<-s a ha];exact p3);show (q x.toNat (B+L)).tot-(q x.toNat B).tot<=H;omega
   ·obtain⟨x1,x2,x3⟩:=l x o;obtain⟨y1,y2,y3⟩:=l y hy;obtain⟨S,hS,lS⟩:=hX;obtain⟨T,X,lT⟩:=hY;by_cases e:x.toNat=y.toNat
    ·omega
    ·exfalso;have hx4:=s _ x1;have hy4:=s _ y1;have ha4:=s a ha;rcases R.pair Q F B x1 y1 e hS X with z|z
     ·rw[(R.stay x1 B).2.2]at z;omega
     ·rw[(R.stay y1 B).2.2]at z;omega
  have s3:(q a (B+L)).tot-(q a B).tot<=(q a 0).work-1:=by have:=R.mono ha (i:=B+L) (j:=c+L) (by omega);rw[OS]at no;omega
  rw[split,O5,List.sum_append,N1,O2]at sum;rw[show ((a:Int)).toNat=a by omega]at sum;omega
end
def ku(l:PTl)(k:Int×Int)(v:Int)(a:Int×Int):dg (qD l k v) a=if a=k then some v else dg l a:=by
 unfold qD;by_cases ha:(l.any λp=>decide (p.1=k))=true
 ·rw[if_pos ha];unfold dg
  induction l with
  |nil=>cases ha
  |cons p r ih =>
   rw[N1];by_cases z:p.1=k
   ·rw[if_pos z,O0,O0];by_cases y:a=k
    ·rw[if_pos y];have:decide (p.1=a)=true:=decide_eq_true (by rw[z,y]);simp only[this];rfl
    ·rw[if_neg y];have:decide (p.1=a)=false:=decide_eq_false λq=>y (q.symm.trans z)
     simp only[this];cases b:(r.any λp=>decide (p.1=k)) with
     |true=>rw[ih b,if_neg y]
     |false =>
      have:r.map (λp=>if p.1=k then (p.1,v) else p)=r:=by
       have h:∀q∈r,(λp:(Int×Int)×Int=>if p.1=k then (p.1,v) else p) q=id q:=λq c=>if_neg λe=>by have:=List.any_eq_false.mp b q c;exact this (decide_eq_true e)
       rw[NI h,Ot]
      rw[this]
   ·rw[if_neg z,O0,O0];have b:(r.any λp=>decide (p.1=k))=true:=by rw[OP,decide_eq_false z,Bool.false_or]at ha;exact ha
    by_cases y:p.1=a
    ·simp only[decide_eq_true y];rw[if_neg λq=>z (y.trans q)]
    ·simp only[decide_eq_false y];exact ih b
 ·rw[if_neg ha];unfold dg;rw[List.find?_append];by_cases y:a=k
  ·rw[if_pos y];have:l.find? (λp=>decide (p.1=a))=none:=OY.mpr λp f q=>ha (OL.mpr ⟨p,f,by rw[<-y];exact q⟩)
   rw[this,y];show ((([(k,v)]:PTl).find? λp=>decide (p.1=k))).map (·.2)=_;rw[O0];simp
  ·rw[if_neg y];have:([(k,v)]:PTl).find? (λp=>decide (p.1=a))=none:=by
    rw[O0];have:decide (k=a)=false:=decide_eq_false λq=>y q.symm
    simp only[this];rfl
   rw[this,Option.or_none]
def uD(d:PyData):Prop:=d=.none\/∃k:Int×Int,d=.tuple [.int k.1,.int k.2]
def endsF:Nat->List PyData->PTl->PTl
 |_,[],l=>l
 |i,d::r,l=>endsF (i+1) r (match iC d with
  |some k=>qD l k ((i:Int)+1)
  |none=>l)
theorem ua{k:Int×Int}:∀(t:List PyData)(i:Nat)(l:PTl){v:Int},dg (endsF i t l) k=some v->(∃(j:Nat)(d:PyData),t[j]?=some d/\iC d=some k/\v=(i:Int)+j+1)\/dg l k=some v
 |[],i,l,v,h=>.inr h
 |d::r,i,l,v,h=>by
  unfold endsF at h;rcases ua r (i+1) _ h with⟨j,e,h1,h2,h3⟩|h
  ·exact .inl ⟨j+1,e,h1,h2,by omega⟩
  ·split at h
   ·rename_i k0 a;rw[ku]at h;split at h
    ·rename_i z;cases h;exact .inl ⟨0,d,rfl,by rw[a,z],by omega⟩
    ·exact .inr h
   ·exact .inr h
theorem xh{k:Int×Int}:∀(t:List PyData)(i:Nat)(l:PTl),((∃(j:Nat)(d:PyData),t[j]?=some d/\iC d=some k)\/∃v,dg l k=some v)->∃v,dg (endsF i t l) k=some v
 |[],i,l,h=>by
  rcases h with⟨j,d,h,_⟩|h
  ·simp at h
  ·exact h
 |d::r,i,l,h=>by
  unfold endsF;refine xh r (i+1) _ ?_;rcases h with⟨j,e,h1,h2⟩|⟨v,h⟩
  ·cases j with
   |zero =>cases h1;right;rw[h2];exact⟨_,by show dg (qD l k _) k=_;rw[ku,if_pos rfl]⟩
   |succ j=>exact .inl ⟨j,e,h1,h2⟩
  ·right;split
   ·rename_i k0 hk;rw[ku];split
    ·exact⟨_,rfl⟩
    ·exact⟨v,h⟩
   ·exact⟨v,h⟩
def Ea(l:PTl)(k:Int×Int)(v:Int):(qD l k v).length<=l.length+1:=by unfold qD;split <;> simp
def anD(W D:PyData)(l:PTl)(x3 x4:Option PyData):Ds:=[some W,some D,some (dtD l),x3,x4]
def anB:Ds->Sr:=sIf (gT (g1 jw (af 4))) (nO 2 (af 4) (g2 bP (af 3) (gC (.int 1)))) bj
theorem Gz{W D d:PyData}{l:PTl}(hd:uD d)(hl:l.length<1000000):anB (anD W D l (some (.int (i:Int))) (some d))=.nx (anD W D (match iC d with
  |some k=>qD l k ((i:Int)+1)
  |none=>l) (some (.int (i:Int))) (some d)):=by
 rcases hd with rfl|⟨k,rfl⟩
 ·rfl
 ·have e:anB (anD W D l (some (.int (i:Int))) (some (.tuple [.int k.1,.int k.2])))=nO 2 (af 4) (g2 bP (af 3) (gC (.int 1))) (anD W D l (some (.int (i:Int))) (some (.tuple [.int k.1,.int k.2]))):=rfl;rw[e];unfold nO;show (match ym (dtD l) with
   |some l=>_
   |none=>_)=_
  rw[AF];show (if l.length<1000000 then _ else _)=_;rw[if_pos hl];rfl
theorem A5{W D:PyData}:∀(t:List PyData)(i:Nat)(l:PTl)(x3 x4:Option PyData),(∀d∈t,uD d)->l.length+t.length<1000000->∃a b,forL (fH [3,4]) anB (pT i t) (anD W D l x3 x4)=.nx (anD W D (endsF i t l) a b)
 |[],i,l,x3,x4,_,_=>⟨x3,x4,rfl⟩
 |d::r,i,l,x3,x4,h,hl=>by
  rw[NJ]at hl;rw[qY,kC (δ1:=anD W D l (some (.int (i:Int))) (some d)) rfl (Gz (h d N3) (by omega))];refine A5 r (i+1) _ _ _ (λe c=>h e (N0 _ c)) ?_;split
  ·have:=Ea l ‹_› ((i:Int)+1);omega
  ·omega
theorem tY{α:Type}{f:α->PyData}{elt:Ds->Rs PyData}{δ:Ds}{g:Nat->α->PyData}:∀(l:List α)(i:Nat),(∀(j:Nat) a,l[j]?=some a->elt (δ++[some (.int ((i+j:Nat):Int)),some (f a)])=.ok (g (i+j) a))->eR bo elt eO δ (pT i (l.map f))=.ok (l.mapIdx λj a=>g (i+j) a)
 |[],_,_=>rfl
 |a::r,i,h=>by
  have e:=tY r (i+1) λj b m=>by have:=h (j+1) b m;rw[show i+(j+1)=i+1+j by omega]at this;exact this
  rw[N1,qY];unfold eR;have c:=h 0 a rfl;rw[Nat.add_zero]at c;simp only[eO,bo,Rs.dj,Rs.ag,if_true,c,e];rw[Pu,Nat.add_zero];congr 3;funext j b;rw[show i+(j+1)=i+1+j by omega]
def Bm(l:List PyData):fW l=pT 0 l:=by unfold fW pT;congr 1;funext i d;rw[Oh]
def qp{f:α->PyData}{elt:Ds->Rs PyData}{g:Nat->α->PyData}{l:List α}(hn:δ.length=n0)(b:src δ=.ok (fW (l.map f)))(hl:l.length<=1000000)(h:∀(j:Nat) a,l[j]?=some a->elt (δ++[some (.int (j:Int)),some (f a)])=.ok (g j a)):ba n0 src bo elt eO δ=.ok (l.mapIdx g):=by
 unfold ba;rw[if_pos hn,b,Rs.ag,if_pos (by rw[i6,N4];exact hl),Bm];have:=tY (f:=f) (elt:=elt) (δ:=δ) (g:=g) l 0 λj a e=>by rw[Oh];exact h j a e
 rw[this];congr 2;funext j a;rw[Oh]
def uR(h:δ[i]?=some (some (.list ds)))(hl:ds.length<=1000000):fJ (ae (af i) ah) δ=.ok (fW ds):=by
 have e:af i δ=.ok (.list ds):=by unfold af;rw[h]
 unfold fJ;rw[aA,e,aM];rfl
def c8(cs:Cs):Gf:=gfG 3 0 (ft cs)
def vf(l:PTl)(n k:Nat)(c:Int):PyData:=.int ((dg l ((n:Int),(k:Int))).getD 0-c)
def rV{n:Nat}{l:PTl}(hl:row.length<=1000)(h:∀k,k<row.length->∃v,dg l ((n:Int),(k:Int))=some v):c8 cs [.int (n:Int),fi row,dtD l]=.ok (.list (row.mapIdx (vf l n))):=by
 have c:ba 3 (fJ (ae (af 1) ah)) bo (g2 iH (Dr (af 2) (gu (ae (af 0) (ae (af 3) ah)))) (af 4)) eO [some (.int (n:Int)),some (fi row),some (dtD l)]=.ok (row.mapIdx (vf l n)):=by
  refine qp (f:=PyData.int) rfl (uR rfl (by rw[N4];omega)) (by omega) λj a e=>?_
  obtain⟨v,b⟩:=h j (NR.mp e).1;have h1:Dr (af 2) (gu (ae (af 0) (ae (af 3) ah))) [some (.int (n:Int)),some (fi row),some (dtD l),some (.int (j:Int)),some (.int a)]=.ok (.int v):=by
   show (match ym (dtD l),iC (.tuple [.int (n:Int),.int (j:Int)]) with
    |some l,some k=>(match dg l k with
     |some v=>Rs.ok (PyData.int v)
     |none=>.no)
    |_,_=>.no)=_
   rw[AF];show (match dg l ((n:Int),(j:Int)) with
     |some v=>Rs.ok (PyData.int v)
     |none=>.no)=_
   rw[b]
  show g2 iH _ (af 4) [some (.int (n:Int)),some (fi row),some (dtD l),some (.int (j:Int)),some (.int a)]=_;rw[nX (x:=.int v) (y:=.int a) (z:=.int (v-a)) h1 rfl rfl];unfold vf;rw[b];rfl
 show bf (ft cs [some (.int (n:Int)),some (fi row),some (dtD l)])=_;unfold ft;simp only[bU,kX,c,Rs.ag,ax,a9]
def cE(cs:Cs):Gf:=gfG 2 3 (ff cs (c8 cs))
def rR{t:List PyData}(hr:rows.length<=1000)(hl:∀r∈rows,r.length<=1000)(i:∀d∈t,uD d)(tl:t.length<1000000)(h:∀(n:Nat)(row:List Int),rows[n]?=some row->∀k,k<row.length->∃v,dg (endsF 0 t []) ((n:Int),(k:Int))=some v) :
  cE cs [cmD rows,.list t]=.ok (.list (rows.mapIdx λn row=>.list (row.mapIdx (vf (endsF 0 t []) n)))):=by
 show bf (ff cs (c8 cs) [some (cmD rows),some (.list t),none,none,none])=_;unfold ff;have e1:Ax 2 [some (cmD rows),some (.list t),none,none,none]=.nx (anD (cmD rows) (.list t) [] none none):=rfl;rw[bN e1];obtain⟨b,c,e2⟩:=A5 (W:=cmD rows) (D:=.list t) t 0 [] none none i (by simpa using tl);have g:fP [2] (fJ (ae (af 1) ah)) (fH [3,4]) anB (anD (cmD rows) (.list t) [] none none)=.nx (anD (cmD rows) (.list t) (endsF 0 t []) b c):=by rw[uz (ds:=fW t) (uR rfl (by omega)),Bm,e2]
 unfold anB at g;rw[bN g];have l:ba 5 (fJ (ae (af 0) ah)) bo (ao (c8 cs) (ae (af 5) (ae (af 6) (ae (af 2) ah)))) eO (anD (cmD rows) (.list t) (endsF 0 t []) b c)=.ok (rows.mapIdx λn row=>.list (row.mapIdx (vf (endsF 0 t []) n))):=by
  refine qp (f:=fi) rfl (uR rfl (by rw[N4];omega)) (by omega) λj a e=>?_
  exact b8 rfl (rV (hl a (O1 e)) (h j a e))
 simp only[bU,kX,l,Rs.ag,ax,a9]
def DW{len:Str}(R:Ran es rs rows len):HvJ (aF es rs) (startJ es rs rows):=by
 refine⟨λi hi j f T h1 h2=>?_,λj f p g T e=>?_⟩
 ·obtain⟨k,row,_,_,_,rfl⟩:=dS hi;cases h1
 ·obtain⟨k,row,hk,_,_,rfl⟩:=dS f;have hln:=R.ln;have h:(0:Int)<=(k:Int):=by omega
  have h1:(k:Int)<es.length:=by omega
  have ok:=R.eok.ok _ (cY h h1);obtain⟨l,m⟩:=(ok.pl p g).2.2 T e;have o:(aY es (k:Int)).has T=true:=by unfold Er.has;rw[OL];exact⟨p,g,by rw[e];exact beq_self_eq_true _⟩
  have hm:=R.rok.mem h h1;have a:=lp hm;have b:rs[placeOf rs (k:Int)]?=some (k:Int):=by have:=List.findIdx_getElem (xs:=rs) (p:=(·==(k:Int))) (w:=a);rw[My a];exact congrArg some (eq_of_beq this)
  have c:(k:Int)∈rs.take (placeOf rs (k:Int)+1):=by rw[List.take_succ,b];exact N8 _ N3
  obtain⟨n,hn,hle⟩:=(qc es T rs 0 (placeOf rs (k:Int))).mpr ⟨(k:Int),c,o⟩;have:fU (aF es rs) T=n:=by unfold fU;rw[k4 l m hn]
  rw[this];show n<=(placeOf rs (k:Int):Int);omega
def hdD(C:Addr)(m k t l:Int):PyData:=Dm C [("number",.int m),("part",.int k),("tool",.int t),("times",.int l)]
def iS(C:Addr)(es:List Er)(rs:List Int)(pl m k:Int)(p:Int×Option Int):List PyData:=match p.2 with
 |some t=>(match bu es rs t with
  |some h=>if h<=pl then [hdD C m k t (p.1-1)] else []
  |none=>[])
 |none=>[]
def hdM(C:Addr)(es:List Er)(rs:List Int)(pl m:Int):Nat->List (Int×Option Int)->List PyData
 |_,[]=>[]
 |k,p::r=>iS C es rs pl m k p++hdM C es rs pl m (k+1) r
def hV(C:Addr)(es:List Er)(rs:List Int)(pl:Int):List Int->List PyData
 |[]=>[]
 |m::r=>hdM C es rs pl m 0 (aY es m).parts++hV C es rs pl r
def tG(C:Addr)(es:List Er)(rs:List Int)(pl m k:Int)(p:Int×Option Int):(iS C es rs pl m k p).length<=1:=by
 unfold iS;split
 ·split
  ·split <;> simp
  ·simp
 ·simp
theorem uU(C:Addr)(es:List Er)(rs:List Int)(pl m:Int):∀(ps:List (Int×Option Int))(k:Nat),(hdM C es rs pl m k ps).length<=ps.length
 |[],_=>by simp[hdM]
 |p::r,k=>by have h1:=tG C es rs pl m k p;have h2:=uU C es rs pl m r (k+1);unfold hdM;rw[NC,NJ];omega
abbrev Eu(cs:Cs):Ds->Sr:=iI [5] 5 (ao (sS cs.Holding ["number", "part", "tool", "times"]) (ae (af 6) (ae (af 7) (ae (g2 dIx (af 8) (gC (.int 1))) (ae (g2 iH (g2 dIx (af 8) (gC (.int 0))) (gC (.int 1))) ah)))))
abbrev kW(cs:Cs):Ds->Sr:=sIf (CT (gT (g1 jw (g2 dIx (af 8) (gC (.int 1))))) (gT (g2 dLe (g2 dIx (af 4) (g2 dIx (af 8) (gC (.int 1)))) (af 3)))) (Eu cs) bj
def HZ(cs:Cs)(es:List Er)(rs:List Int)(E R n:PyData)(pl:Nat)(m:Int)(a:List PyData)(c:∀t:Int,0<=t->t<=3->atI a t=some (bW (bu es rs t)))(p:Int×Option Int)(k:Nat)(acc:List PyData)(hl:acc.length<1000000)(h:∀t,p.2=some t->0<=t/\t<=3/\∃h,bu es rs t=some h) :
  kW cs [some E,some R,some n,some (.int pl),some (.list a),some (.list acc),some (.int m),some (.int k),some (aQ p)]
   =.nx [some E,some R,some n,some (.int pl),some (.list a),some (.list (acc++iS cs.Holding es rs pl m k p)),some (.int m),some (.int k),some (aQ p)]:=by
 obtain⟨l,o⟩:=p;cases o with
 |none=>simp[kW,Fs,bW,iS]
 |some t =>
  obtain⟨i,j,e,g⟩:=h t rfl;have ha:=c t i j;rw[g]at ha;have e1:dIx (aQ (l,some t)) (.int 1)=some (.int t):=rfl;have q:dIx (aQ (l,some t)) (.int 0)=some (.int l):=rfl;have b:dIx (.list a) (.int t)=some (.int e):=ha;have add:Eu cs [some E,some R,some n,some (.int pl),some (.list a),some (.list acc),some (.int m),some (.int k),some (aQ (l,some t))]=.nx [some E,some R,some n,some (.int pl),some (.list a),some (.list (acc++[hdD cs.Holding m k t (l-1)])),some (.int m),some (.int k),some (aQ (l,some t))]:=by unfold Eu iI;simp only[OE,OF];simp only[bI,aA,aM,cO,aB (show 6∉[5] by decide),aB (show 7∉[5] by decide),aB (show 8∉[5] by decide),au,aw,dY,Rs.ag,e1,q,uf,Rs.aj];have hm:sS cs.Holding ["number", "part", "tool", "times"] [.int m,.int (k:Int),.int t,.int (l-1)]=.ok (hdD cs.Holding m k t (l-1)):=rfl;rw[hm,ax,if_pos hl];rfl
  have f:iS cs.Holding es rs pl m k (l,some t)=if e<=(pl:Int) then [hdD cs.Holding m k t (l-1)] else []:=by unfold iS;simp only[g]
  rw[f];by_cases hle:e<=(pl:Int)
  · rw[if_pos hle,<-add];simp[kW,e1,b,hle]
  · rw[if_neg hle,Ob];simp[kW,e1,b,hle]
theorem wC(cs:Cs)(es:List Er)(rs:List Int)(E R n:PyData)(pl:Nat)(m:Int)(a:List PyData)(b:∀t:Int,0<=t->t<=3->atI a t=some (bW (bu es rs t))):∀(ps:List (Int×Option Int))(k:Nat)(acc:List PyData)(x7 x8:Option PyData),acc.length+ps.length<1000000->(∀p∈ps,∀t,p.2=some t->0<=t/\t<=3/\∃h,bu es rs t=some h) ->
  ∃c f,forL (fH [7,8]) (kW cs) ((ps.map aQ).mapIdx λi d=>.tuple [.int ((k+i:Nat):Int),d])
    [some E,some R,some n,some (.int pl),some (.list a),some (.list acc),some (.int m),x7,x8]
   =.nx [some E,some R,some n,some (.int pl),some (.list a),some (.list (acc++hdM cs.Holding es rs pl m k ps)),some (.int m),c,f]
 |[],k,acc,x7,x8,_,_=>⟨x7,x8,by simp[forL,hdM]⟩
 |p::r,k,acc,x7,x8,hz,h=>by
  have hz':acc.length+(r.length+1)<1000000:=hz;have hl1:=tG cs.Holding es rs pl m k p;obtain⟨c,f,e⟩:=wC cs es rs E R n pl m a b r (k+1) (acc++iS cs.Holding es rs pl m k p) (some (.int (k:Int))) (some (aQ p)) (by rw[NC];omega) (λq g=>h q (N0 _ g));refine⟨c,f,?_⟩;rw[N1,Pu];unfold forL;have e1:fH [7,8] (PyData.tuple [.int ((k+0:Nat):Int),aQ p]) [some E,some R,some n,some (.int pl),some (.list a),some (.list acc),some (.int m),x7,x8]=some [some E,some R,some n,some (.int pl),some (.list a),some (.list acc),some (.int m),some (.int (k:Int)),some (aQ p)]:=rfl;rw[e1];simp only[HZ cs es rs E R n pl m a b p k acc (by omega) (h p N3)];have j:(λ(i:Nat)(d:PyData)=>PyData.tuple [.int ((k+(i+1):Nat):Int),d])=λi d=>.tuple [.int ((k+1+i:Nat):Int),d]:=by funext i d;rw[show k+(i+1)=k+1+i by omega]
  rw[j,e];rw[show hdM cs.Holding es rs pl m k (p::r)=iS cs.Holding es rs pl m k p++hdM cs.Holding es rs pl m (k+1) r from rfl,Of]
theorem xD{es:List Er}{rs:List Int}(cs:Cs)(f:∀e∈es,e.Sh)(w:cC es.length rs)(n:PyData)(pl:Nat):∀(l:List Int)(acc:List PyData)(x6 x7 x8:Option PyData),acc.length+1000*l.length<1000000->(∀m∈l,m∈rs) ->
  ∃q s u,forL (bO 6) (fP [5] (fJ (ae (g2 dIx (g2 dIx (af 0) (af 6)) (gC (.int 3))) ah)) (fH [7,8]) (kW cs)) (l.map PyData.int)
    [some (ar es),some (ai rs),some n,some (.int pl),some (aF es rs),some (.list acc),x6,x7,x8]
   =.nx [some (ar es),some (ai rs),some n,some (.int pl),some (aF es rs),some (.list (acc++hV cs.Holding es rs pl l)),q,s,u]
 |[],acc,x6,x7,x8,_,_=>⟨x6,x7,x8,by simp[forL,hV]⟩
 |m::r,acc,x6,x7,x8,hz,h=>by
  have hz':acc.length+1000*(r.length+1)<1000000:=hz;have hm:=h m N3;have g:=w.rng m hm;have j:=f _ (cY g.1 (by omega));have hpn:=j.pn;have hml:=uU cs.Holding es rs pl m (aY es m).parts 0;obtain⟨y,z,e1⟩:=wC cs es rs (ar es) (ai rs) n pl m ((List.range 4).map λ(t:Nat)=>bW (bu es rs t)) (λt a b=>yg a b) (aY es m).parts 0 acc x7 x8 (by omega) λp A t o=>by obtain⟨_,_,c⟩:=j.pl p A;have:=c t o;exact⟨this.1,this.2,qI es t rs 0 m hm (Kw A o)⟩
  obtain⟨q,s,u,e2⟩:=xD cs f w n pl r (acc++hdM cs.Holding es rs pl m 0 (aY es m).parts) (some (.int m)) y z (by rw[NC];omega) λx B=>h x (N0 _ B)
  refine⟨q,s,u,?_⟩;rw[N1];unfold forL;have a2:atI (es.map Er.d) m=some (aY es m).d:=kx g.1 (by omega);have src:fJ (ae (g2 dIx (g2 dIx (af 0) (af 6)) (gC (.int 3))) ah) (mask [5] [some (ar es),some (ai rs),some n,some (.int pl),some (aF es rs),some (.list acc),some (.int m),x7,x8])=.ok (((aY es m).parts.map aQ).mapIdx λi d=>.tuple [.int ((0+i:Nat):Int),d]):=by simp only[Ac,aA,aM,cO,aB (show 0∉[5] by decide),aB (show 6∉[5] by decide),au,aw,dY,Rs.ag,ar,xl,a2,Rs.aj,HY,Bi,fW,Oh]
  have o:bO 6 (.int m) [some (ar es),some (ai rs),some n,some (.int pl),some (aF es rs),some (.list acc),x6,x7,x8]=some [some (ar es),some (ai rs),some n,some (.int pl),some (aF es rs),some (.list acc),some (.int m),x7,x8]:=rfl;have v:forL (fH [7,8]) (kW cs) (((aY es m).parts.map aQ).mapIdx λi d=>.tuple [.int ((0+i:Nat):Int),d]) [some (ar es),some (ai rs),some n,some (.int pl),some (aF es rs),some (.list acc),some (.int m),x7,x8]=.nx [some (ar es),some (ai rs),some n,some (.int pl),some (aF es rs),some (.list (acc++hdM cs.Holding es rs pl m 0 (aY es m).parts)),some (.int m),y,z]:=e1;rw[o];simp only[lq,src,ax,v,e2];rw[show hV cs.Holding es rs pl (m::r)=hdM cs.Holding es rs pl m 0 (aY es m).parts++hV cs.Holding es rs pl r from rfl,Of]
def cW(cs:Cs):Gf
 |[d,r,.int n]=>if okW d r n then .ok (.list (hV cs.Holding (de d) (cn r) (placeOf (cn r) n) ((cn r).drop (placeOf (cn r) n+1)))) else .no
 |_=>.no
def jU(cs:Cs)(h1:1<=es.length)(h2:es.length<=6)(h:∀e∈es,e.Wk)(a:cC es.length rs)(n0:0<=n)(n1:n<es.length):cW cs [ar es,ai rs,.int n]=.ok (.list (hV cs.Holding es rs (placeOf rs n) (rs.drop (placeOf rs n+1)))):=by unfold cW;simp only[nM h1 h2 h a n0 n1,if_true,fh,eQ]
def yb(cs:Cs):LLq (jm cs aP) 3 6 (cW cs):=by
 intro ds hl a;obtain⟨d,r,n,i,h⟩:=kB a;clear a;subst i;have a:=h;clear h
 ·skip
  split at a
  ·rename_i hc;obtain⟨es,rs,rfl,rfl,_,_,l1,l6,hok,b,n0,n1⟩:=gU hc;rw[jU cs l1 l6 hok b n0 n1];have c:∀e∈es,e.Sh:=λe j=>(hok e j).sh
   have f:=b.mem n0 (by omega);have g:=ke f;have l:=fM (by omega) c b;have hrl:=b.len;obtain⟨y6,y7,y8,e⟩:=xD cs c b (.int n) (placeOf rs n) (rs.drop (placeOf rs n+1)) [] none none none (by rw[P7];simp;omega) (λm hm=>OR hm);have src:bY (lF (af 1) (rA (g2 bP (af 3) (gC (.int 1)))) kz) (mask [5] [some (ar es),some (ai rs),some (.int n),some (.int (placeOf rs n)),some (aF es rs),some (.list []),none,none,none])=.ok ((rs.drop (placeOf rs n+1)).map PyData.int):=by simp only[yE,xQ,Bn,sV,cO,aB (show 1∉[5] by decide),aB (show 3∉[5] by decide),au,aw,dY,Rs.ag,gE,Rs.aj,A7,ai,FU,C3];rw[show (placeOf rs n:Int)+1=((placeOf rs n+1:Nat):Int) by omega,FR,List.map_drop]
   have o:aU [5] 3 (ql (af 1) (af 2)) [some (ar es),some (ai rs),some (.int n),none,none,none,none,none,none]=.nx [some (ar es),some (ai rs),some (.int n),some (.int (placeOf rs n)),none,none,none,none,none]:=by rw[gr,if_pos (by simp)];simp only[yY,aB (show 1∉[5] by decide),aB (show 2∉[5] by decide),au,aw,Rs.ag,ai,g,Rs.aj,ax];rfl
   have s2:aU [5] 4 (ao aP (ae (af 0) (ae (af 1) ah))) [some (ar es),some (ai rs),some (.int n),some (.int (placeOf rs n)),none,none,none,none,none]=.nx [some (ar es),some (ai rs),some (.int n),some (.int (placeOf rs n)),some (aF es rs),none,none,none,none]:=by rw[gr,if_pos (by simp)];simp only[bI,aA,aM,aB (show 0∉[5] by decide),aB (show 1∉[5] by decide),au,aw,Rs.ag,l,ax];rfl
   have p:ip [5] 5 ah [some (ar es),some (ai rs),some (.int n),some (.int (placeOf rs n)),some (aF es rs),none,none,none,none]=.nx [some (ar es),some (ai rs),some (.int n),some (.int (placeOf rs n)),some (aF es rs),some (.list []),none,none,none]:=rfl;show bf (jm cs aP [some (ar es),some (ai rs),some (.int n),none,none,none,none,none,none])=_;simp only[jm];rw[aX,o];simp only;rw[aX,s2];simp only;rw[aX,p];simp only;rw[aX,lq,src,ax,e];rfl
  ·exact absurd rfl a
def kO(es:List Er)(rs:List Int)(pl:Int)(p:Int×Option Int):List Int:=match p.2 with
 |some t=>(match bu es rs t with
  |some h=>if h<=pl then [p.1-1] else []
  |none=>[])
 |none=>[]
def tms(es:List Er)(rs:List Int)(pl:Int):List (Int×Option Int)->List Int
 |[]=>[]
 |p::r=>kO es rs pl p++tms es rs pl r
theorem Aj(es:List Er)(rs:List Int)(pl:Int)(b:List (Int×Option Int)):∀a,tms es rs pl (a++b)=tms es rs pl a++tms es rs pl b
 |[]=>rfl
 |p::r=>by show kO es rs pl p++tms es rs pl (r++b)=(kO es rs pl p++tms es rs pl r)++_;rw[Aj es rs pl b r,Of]
theorem xm(es:List Er)(rs:List Int)(pl:Int):∀(ps:List (Int×Option Int))(acc:Int),ps.foldl (iZ es rs pl) acc=(tms es rs pl ps).foldl max acc
 |[],_=>rfl
 |p::r,acc=>by
  rw[Pg,xm es rs pl r];show _=(kO es rs pl p++tms es rs pl r).foldl max acc;rw[List.foldl_append];have e:iZ es rs pl acc p=(kO es rs pl p).foldl max acc:=by
   unfold iZ kO;cases p.2 with
   |none=>rfl
   |some t =>
    simp only;cases bu es rs t with
    |none=>rfl
    |some h=>simp only;split <;> rfl
  rw[e]
theorem pX(es:List Er)(rs:List Int)(pl:Int):∀(ps:List (Int×Option Int)),(∀p∈ps,1<=p.1)->∀a∈tms es rs pl ps,0<=a
 |[],_,a,h=>by cases h
 |p::r,hp,a,h=>by
  have h1:=hp p N3;unfold tms at h;rcases NY.mp h with h|h
  ·unfold kO at h;split at h
   ·split at h
    ·split at h
     ·cases NA.mp h;omega
     ·cases h
    ·cases h
   ·cases h
  ·exact pX es rs pl r (λq b=>hp q (N0 _ b)) a h
def Co(h:∀a∈ns,0<=a):(gH ns).getD 0=ns.foldl max 0:=by
 have c:(λa b:Int=>if b>a then b else a)=max:=by funext a b;split <;> omega
 cases ns with
 |nil=>rfl
 |cons x r =>have hx:=h x N3;show r.foldl (λa b:Int=>if b>a then b else a) x=r.foldl max (max 0 x);rw[c,show max 0 x=x by omega]
def tmD(C:Addr)(d:PyData):PyData:=(bx C "times" d).getD .none
def wN(C:Addr)(m k t l:Int):bx C "times" (hdD C m k t l)=some (.int l):=by
 have n1:¬ (("number":Str)="times"):=by decide +kernel
 have n2:¬ (("part":Str)="times"):=by decide +kernel
 have a:¬ (("tool":Str)="times"):=by decide +kernel
 simp only[hdD,Dm,N1,Oq,bx,and_self,if_true,jx,n1,n2,a,if_false]
def CZ(C:Addr)(es:List Er)(rs:List Int)(pl m k:Int)(p:Int×Option Int):(iS C es rs pl m k p).map (tmD C)=(kO es rs pl p).map PyData.int/\∀d∈iS C es rs pl m k p,bx C "times" d=some (tmD C d):=by
 unfold iS kO;cases p.2 with
 |none=>exact⟨rfl,λd hd=>by cases hd⟩
 |some t =>
  simp only;cases bu es rs t with
  |none=>exact⟨rfl,λd hd=>by cases hd⟩
  |some h =>
   simp only;split
   ·rw[N1,Oq];refine⟨by unfold tmD;rw[wN];rfl,λd hd=>?_⟩;cases NA.mp hd;unfold tmD;rw[wN];rfl
   ·exact⟨rfl,λd hd=>by cases hd⟩
theorem Ao(C:Addr)(es:List Er)(rs:List Int)(pl m:Int):∀(ps:List (Int×Option Int))(k:Nat),(hdM C es rs pl m k ps).map (tmD C)=(tms es rs pl ps).map PyData.int/\∀d∈hdM C es rs pl m k ps,bx C "times" d=some (tmD C d)
 |[],_=>⟨rfl,λd hd=>by cases hd⟩
 |p::r,k=>by
  obtain⟨a1,a2⟩:=CZ C es rs pl m k p;obtain⟨a,b⟩:=Ao C es rs pl m r (k+1);rw[show hdM C es rs pl m k (p::r)=iS C es rs pl m k p++hdM C es rs pl m (k+1) r from rfl,show tms es rs pl (p::r)=kO es rs pl p++tms es rs pl r from rfl];refine⟨by rw[O5,O5,a1,a],λd hd=>?_⟩;rcases NY.mp hd with h|h
  ·exact a2 d h
  ·exact b d h
theorem tR(C:Addr)(es:List Er)(rs:List Int)(pl:Int):∀(a:List Int),(hV C es rs pl a).map (tmD C)=(tms es rs pl ((a.map λm=>(aY es m).parts).flatten)).map PyData.int/\∀d∈hV C es rs pl a,bx C "times" d=some (tmD C d)
 |[]=>⟨rfl,λd hd=>by cases hd⟩
 |m::r=>by
  obtain⟨a1,a2⟩:=Ao C es rs pl m (aY es m).parts 0;obtain⟨b,c⟩:=tR C es rs pl r;unfold hV;refine⟨by rw[O5,N1,OJ,Aj,O5,a1,b],λd hd=>?_⟩;rcases NY.mp hd with h|h
  ·exact a2 d h
  ·exact c d h
theorem tO(C:Addr)(es:List Er)(rs:List Int)(pl:Int)(b:Nat):∀(a:List Int),(∀m∈a,(aY es m).parts.length<=b)->(hV C es rs pl a).length<=b*a.length
 |[],_=>by simp[hV]
 |m::r,h=>by
  have h1:=h m N3;have h2:=uU C es rs pl m (aY es m).parts 0;have h3:=tO C es rs pl b r λx c=>h x (N0 _ c)
  unfold hV;rw[NC,NJ,Nat.mul_succ];omega
def bT:Gf
 |[d,r,.int n]=>if okW d r n then .ok (.int (jj (de d) (cn r) n)) else .no
 |_=>.no
def ic(h1:1<=es.length)(h2:es.length<=6)(h:∀e∈es,e.Wk)(a:cC es.length rs)(n0:0<=n)(n1:n<es.length):bT [ar es,ai rs,.int n]=.ok (.int (jj es rs n)):=by unfold bT;simp only[nM h1 h2 h a n0 n1,if_true,fh,eQ]
def pA(cs:Cs):LLq (fe cs (cW cs)) 3 0 bT:=by
 intro ds hl a;obtain⟨d,r,n,i,h⟩:=kB a;clear a;subst i;have a:=h;clear h
 ·skip
  split at a
  ·rename_i hc;obtain⟨es,rs,rfl,rfl,_,_,l1,l6,hok,c,n0,n1⟩:=gU hc;rw[ic l1 l6 hok c n0 n1];have j:=jU cs l1 l6 hok c n0 n1;obtain⟨o,q⟩:=tR cs.Holding es rs (placeOf rs n) (rs.drop (placeOf rs n+1));have hrl:=c.len;have b:∀m∈rs.drop (placeOf rs n+1),(aY es m).Wk:=λm hm=>by have:=c.rng m (OR hm);exact hok _ (cY this.1 (by omega))
   have hln:=tO cs.Holding es rs (placeOf rs n) 4 (rs.drop (placeOf rs n+1)) λm hm=>(b m hm).p2
   have hdl:(rs.drop (placeOf rs n+1)).length<=6:=by rw[P7];omega
   have e:ba 3 (bY (ao (cW cs) (ae (af 0) (ae (af 1) (ae (af 2) ah))))) bo (g1 (bx cs.Holding "times") (af 3)) aS [some (ar es),some (ai rs),some (.int n)]=.ok ((hV cs.Holding es rs (placeOf rs n) (rs.drop (placeOf rs n+1))).map (tmD cs.Holding)) :=
    cH rfl (by simp only[yE,bI,aA,aM,au,aw,Rs.ag,j];rfl) (by omega) λx s=>by simp only[Oe,O9,jF,au,aw,Rs.ag,q x s,Rs.aj]
   have f:xP (.list ((hV cs.Holding es rs (placeOf rs n) (rs.drop (placeOf rs n+1))).map (tmD cs.Holding))) (.int 0)=some (.int (jj es rs n)):=by
    unfold xP;simp only;rw[o,eJ,OG,Co (pX _ _ _ _ λp u=>?_),<-xm]
    ·rfl
    ·obtain⟨l,hl,g⟩:=List.mem_flatten.mp u;obtain⟨m,hm,rfl⟩:=N9.mp hl;exact ((b m hm).pl p g).1
   show bf (fe cs (cW cs) [some (ar es),some (ai rs),some (.int n)])=_;simp only[fe,bU,cO,kX,e,Rs.ag,dY,f,Rs.aj,ax,a9]
  ·exact absurd rfl a
def n5(f:Int->Int)(T:Int):Nat->Int->List Int
 |0,l=>[l]
 |m+1,l=>if l=T then [l] else l::n5 f T m (f l)
def BV:Option (List Int)->PyData
 |some l=>.list (l.map .int)
 |none=>.none
structure Top(f:Int->Int)(T:Int):Prop where
 fix:f T=T
 one:1<=T
 low:∀s,1<=s->s<T->¬ f s<=s
theorem qV{f:Int->Int}{T:Int}(R:nz f)(P:Top f T):∀(m:Nat)(l:Int),1<=l->l<=T->T-l<=m->(n5 f T m l).getLast?=some T
 |0,l,h1,h2,h3=>by
  have:l=T:=by omega
  rw[this];rfl
 |m+1,l,h1,h2,h3=>by
  unfold n5;by_cases z:l=T
  ·rw[if_pos z,z];rfl
  ·rw[if_neg z,List.getLast?_cons];have hf:=P.low l h1 (by omega);have a:=R.mono l T h1 h2;rw[P.fix]at a;rw[qV R P m (f l) (by omega) a (by omega)];rfl
def bM:Gf
 |[.int t,.int e]=>if 0<e/\e<1073741824 then .ok (.int ((t+e-1) / e)) else .no
 |_=>.no
def Jv{f:Int->Int->Rs PyData}(h:(match ds with|[.int a,.int x1]=>f a x1|_=>.no)≠.no):∃a x1,ds=[.int a,.int x1]/\f a x1≠.no:=by
 rcases ds with _|⟨a,_|⟨x1,_|⟨y,ys⟩⟩⟩
 ·exact absurd rfl h
 ·first|exact absurd rfl h|(cases a <;> exact absurd rfl h)
 ·skip
  cases a with
  |int a =>
   cases x1 with
   |int x1 =>exact⟨_,_,rfl,h⟩
   |_=>exact absurd rfl h
  |_=>first|exact absurd rfl h|(cases x1 <;> exact absurd rfl h)
 ·first|exact absurd rfl h|(cases a <;> first|exact absurd rfl h|(cases x1 <;> exact absurd rfl h))
def uB(cs:Cs):LLq (gG cs) 2 0 bM:=by
 intro ds hl a;obtain⟨t,e,c,b⟩:=Jv a;clear a;subst c;have a:=b;clear b;unfold bM
 ·skip
  split at a
  ·rename_i hc;simp only[if_pos hc];show bf (gG cs [some (.int t),some (.int e)])=_;simp only[gG,bU,cO,au,aw,dY,Rs.ag,gE,uf,Rs.aj,D4,if_pos hc,ax,a9]
  ·exact absurd rfl a
def Bk{x e:Int}(h:0<e):(x+e-1) / e=x / e+(if x % e>0 then 1 else 0):=by
 have h1:=Py x e;have h2:=Ox x (show e≠0 by omega);have h3:=Oz x h;generalize x / e=q at *;generalize x % e=r at *;have ex:x+e-1=r+e-1+e*q:=by omega
 rw[ex,PF _ _ (by omega)];by_cases z:r>0
 ·rw[if_pos z,show r+e-1=(r-1)+e*1 by omega,PF _ _ (by omega),Pp (by omega) (by omega)];omega
 ·rw[if_neg z,Pp (by omega) (by omega)];omega
def rO{t:Int}(h:e.Sh):bM [.int (t+e.late),.int e.every]=.ok (.int (e.times t)):=by have h1:=h.e1;have h2:=h.e2;unfold bM;simp only[if_pos (show 0<e.every/\e.every<1073741824 from⟨by omega,h2⟩)];rw[Bk (by omega)];rfl
def eu(es:List Er)(rs:List Int)(n h t:Int):Int:=h+(aY es n).work+((rs.take (placeOf rs n)).map λm=>(aY es m).times t*(aY es m).work).sum
def mh(hok:∀e∈es,e.Wk)(c:cC es.length rs)(n0:0<=n)(n1:n<es.length)(h0:0<=h):nz (eu es rs n h) where
 mono:=λt u _ f=>by have:=vS (n:=n) (λe g=>(hok e g).sh) c f;unfold mQ at this;unfold eu;omega
 one:=λt f=>by
  unfold eu;have h2:=(hok _ (cY n0 n1)).work1;have h3:=lu (λm=>(aY es m).times t*(aY es m).work) (rs.take (placeOf rs n)) λm hm=>by have a:=c.rng m (OD hm);have b:=hok _ (cY a.1 a.2);have l0:=b.l1;exact Pm (Er.times_pos b.sh.e1 (by omega)) b.sh.work_b.1
  omega
def dk:Gf
 |[d,r,.int n,.int h,.int t]=>if okW d r n then .ok (.int (eu (de d) (cn r) n h t)) else .no
 |_=>.no
def qz{t:Int}(h1:1<=es.length)(h2:es.length<=6)(a:∀e∈es,e.Wk)(b:cC es.length rs)(n0:0<=n)(n1:n<es.length):dk [ar es,ai rs,.int n,.int h,.int t]=.ok (.int (eu es rs n h t)):=by unfold dk;simp only[nM h1 h2 a b n0 n1,if_true,fh,eQ]
def AY{g:Ds->Rs PyData}{a b:Int}(h:δ[i]?=some (some (.int a)))(c:g δ=.ok (.int b)):rY [] i g δ=.nx (δ.set i (some (.int (a+b)))):=by unfold rY;rw[ej,h];simp only[c,ax]
abbrev D3:Ds->Sr:=aJ (aU [] 7 (g2 dIx (af 0) (af 6)))
 (rY [] 5 (g2 kJ (ao bB (ae (af 7) ah)) (ao bM (ae (g2 bP (af 4) (g2 dIx (af 7) (gC (.int 2)))) (ae (g2 dIx (af 7) (gC (.int 0))) ah)))))
theorem AW{es:List Er}{rs:List Int}(f:∀e∈es,e.Sh)(u:cC es.length rs)(n h:PyData)(t:Int):∀(i:List Int)(acc:Int)(x6 x7:Option PyData),(∀m∈i,m∈rs) ->
  ∃j l,forL (bO 6) D3 (i.map PyData.int) [some (ar es),some (ai rs),some n,some h,some (.int t),some (.int acc),x6,x7]
   =.nx [some (ar es),some (ai rs),some n,some h,some (.int t),some (.int (acc+(i.map λm=>(aY es m).times t*(aY es m).work).sum)),j,l]
 |[],acc,x6,x7,_=>⟨x6,x7,by simp[forL]⟩
 |m::r,acc,x6,x7,hm'=>by
  have hm:=hm' m N3;have g:=u.rng m hm;have c:=f _ (cY g.1 (by omega));have a2:atI (es.map Er.d) m=some (aY es m).d:=kx g.1 (by omega);obtain⟨j,l,e2⟩:=AW f u n h t r (acc+(aY es m).times t*(aY es m).work) (some (.int m)) (some (aY es m).d) λx v=>hm' x (N0 _ v)
  refine⟨j,l,?_⟩;have hw:=c.work_b;have o:=fq c;have p:=rO (t:=t) c;rw[N1,N1,O2,<-Int.add_assoc];unfold forL;generalize hE:aY es m=e at *;have i2:dIx e.d (.int 2)=some (.int e.late):=rfl;have w:dIx e.d (.int 0)=some (.int e.every):=rfl;have q:aU [] 7 (g2 dIx (af 0) (af 6)) [some (ar es),some (ai rs),some n,some h,some (.int t),some (.int acc),some (.int m),x7]=.nx [some (ar es),some (ai rs),some n,some h,some (.int t),some (.int acc),some (.int m),some e.d]:=by rw[jd,if_pos (by simp)];simp only[cO,au,aw,Rs.ag,ar,xl,a2,Rs.aj,ax];rfl
  have s:rY [] 5 (g2 kJ (ao bB (ae (af 7) ah)) (ao bM (ae (g2 bP (af 4) (g2 dIx (af 7) (gC (.int 2)))) (ae (g2 dIx (af 7) (gC (.int 0))) ah)))) [some (ar es),some (ai rs),some n,some h,some (.int t),some (.int acc),some (.int m),some e.d]=.nx [some (ar es),some (ai rs),some n,some h,some (.int t),some (.int (acc+e.times t*e.work)),some (.int m),some e.d]:=by
    rw[AY (a:=acc) (b:=e.times t*e.work) rfl]
    ·rfl
    ·simp only[cO,bI,aA,aM,au,aw,dY,Rs.ag,i2,w,Rs.aj,gE,o,p,pG (b:=e.times t) (show -(2 ^ 64)<e.work by omega) (show e.work<2 ^ 64 by omega)];rw[Int.mul_comm e.work]
  have y:bO 6 (.int m) [some (ar es),some (ai rs),some n,some h,some (.int t),some (.int acc),x6,x7]=some [some (ar es),some (ai rs),some n,some h,some (.int t),some (.int acc),some (.int m),x7]:=rfl;rw[y];simp only[D3,aX,q,s];exact e2
def Cr{f:PyData->PyData->Int->Int->Int->Rs PyData}(h:(match ds with|[a,x1,.int x2,.int x3,.int x4]=>f a x1 x2 x3 x4|_=>.no)≠.no):∃a x1 x2 x3 x4,ds=[a,x1,.int x2,.int x3,.int x4]/\f a x1 x2 x3 x4≠.no:=by
 rcases ds with _|⟨a,_|⟨x1,_|⟨x2,_|⟨x3,_|⟨x4,_|⟨y,ys⟩⟩⟩⟩⟩⟩
 ·exact absurd rfl h
 ·exact absurd rfl h
 ·exact absurd rfl h
 ·first|exact absurd rfl h|(cases x2 <;> exact absurd rfl h)
 ·first|exact absurd rfl h|(cases x2 <;> first|exact absurd rfl h|(cases x3 <;> exact absurd rfl h))
 ·skip
  cases x2 with
  |int x2 =>
   cases x3 with
   |int x3 =>
    cases x4 with
    |int x4 =>exact⟨_,_,_,_,_,rfl,h⟩
    |_=>exact absurd rfl h
   |_=>first|exact absurd rfl h|(cases x4 <;> exact absurd rfl h)
  |_=>first|exact absurd rfl h|(cases x3 <;> first|exact absurd rfl h|(cases x4 <;> exact absurd rfl h))
 ·first|exact absurd rfl h|(cases x2 <;> first|exact absurd rfl h|(cases x3 <;> first|exact absurd rfl h|(cases x4 <;> exact absurd rfl h)))
def JU(cs:Cs):LLq (vA cs bB bM) 5 3 dk:=by
 intro ds hl a;obtain⟨d,r,n,h,t,p,o⟩:=Cr a;clear a;subst p;have a:=o;clear o
 ·skip
  split at a
  ·rename_i hc;obtain⟨es,rs,rfl,rfl,_,_,l1,l6,hok,f,n0,n1⟩:=gU hc;rw[qz l1 l6 hok f n0 n1];have b:∀e∈es,e.Sh:=λe q=>(hok e q).sh
   have c:=f.mem n0 (by omega);have g:=ke c;have i:=b _ (cY n0 n1);have a2:atI (es.map Er.d) n=some (aY es n).d:=kx n0 n1;have j:=fq i;obtain⟨y6,y7,e⟩:=AW b f (.int n) (.int h) t (rs.take (placeOf rs n)) (h+(aY es n).work) none none (λm hm=>OD hm);have src:bY (lF (af 1) kz (rA (ql (af 1) (af 2)))) [some (ar es),some (ai rs),some (.int n),some (.int h),some (.int t),some (.int (h+(aY es n).work)),none,none]=.ok ((rs.take (placeOf rs n)).map PyData.int):=by simp only[yE,xQ,Bn,sV,yY,au,aw,Rs.ag,ai,g,Rs.aj,A7,FU,C3];rw[Jr,List.map_take]
   have l:aU [] 5 (g2 bP (af 3) (ao bB (ae (g2 dIx (af 0) (af 2)) ah))) [some (ar es),some (ai rs),some (.int n),some (.int h),some (.int t),none,none,none]=.nx [some (ar es),some (ai rs),some (.int n),some (.int h),some (.int t),some (.int (h+(aY es n).work)),none,none]:=by rw[jd,if_pos (by simp)];simp only[cO,bI,aA,aM,au,aw,Rs.ag,ar,xl,a2,Rs.aj,j,gE,ax];rfl
   show bf (vA cs bB bM [some (ar es),some (ai rs),some (.int n),some (.int h),some (.int t),none,none,none])=_;simp only[vA];rw[aX,l];simp only;rw[aX,lq,ej,src,ax,e];rfl
  ·exact absurd rfl a
def pO(es:List Er)(rs:List Int)(n h:Int):Option Int:=gO ((aY es n).every-(aY es n).late).toNat λt=>decide (eu es rs n h t<=t)
def yh(es:List Er)(rs:List Int)(n:Int):pO es rs n (jj es rs n)=cG es rs n:=rfl
def ix(es:List Er)(rs:List Int)(n h:Int):Option (List Int):=(pO es rs n h).map λT=>n5 (eu es rs n h) T T.toNat (eu es rs n h 1)
abbrev uG:Ds->Rs Bool:=gT (g2 dLe (af 6) (af 4))
abbrev uW:Ds->Sr:=aJ (iI [5] 5 (af 6))
 (aJ (aU [5] 7 (ao dk (ae (af 0) (ae (af 1) (ae (af 2) (ae (af 3) (ae (af 6) ah)))))))
 (aJ (sIf (gT (g2 dEq (af 7) (af 6))) (bp (af 5)) bj)
 (aU [5] 6 (af 7))))
section
variable {E Rr N h:PyData}{f:Int->Int}{most:Int}
def uX(a:∀t,dk [E,Rr,N,h,.int t]=.ok (.int (f t)))(l:Int)(acc:List PyData)(hl:acc.length<1000000)(x7:Option PyData) :
  uW [some E,some Rr,some N,some h,some (.int most),some (.list acc),some (.int l),x7]
   =if f l=l then .rt (.list (acc++[.int l])) else .nx [some E,some Rr,some N,some h,some (.int most),some (.list (acc++[.int l])),some (.int (f l)),some (.int (f l))]:=by
 have b:iI [5] 5 (af 6) [some E,some Rr,some N,some h,some (.int most),some (.list acc),some (.int l),x7]=.nx [some E,some Rr,some N,some h,some (.int most),some (.list (acc++[.int l])),some (.int l),x7]:=by unfold iI;simp only[OE,OF,aB (show 6∉[5] by decide),au,aw,ax,if_pos hl];rfl
 have s2:aU [5] 7 (ao dk (ae (af 0) (ae (af 1) (ae (af 2) (ae (af 3) (ae (af 6) ah)))))) [some E,some Rr,some N,some h,some (.int most),some (.list (acc++[.int l])),some (.int l),x7]=.nx [some E,some Rr,some N,some h,some (.int most),some (.list (acc++[.int l])),some (.int l),some (.int (f l))]:=by rw[gr,if_pos (by simp)];simp only[bI,aA,aM,aB (show 0∉[5] by decide),aB (show 1∉[5] by decide),aB (show 2∉[5] by decide),aB (show 3∉[5] by decide),aB (show 6∉[5] by decide),au,aw,Rs.ag,a,ax];rfl
 have c:aU [5] 6 (af 7) [some E,some Rr,some N,some h,some (.int most),some (.list (acc++[.int l])),some (.int l),some (.int (f l))]=.nx [some E,some Rr,some N,some h,some (.int most),some (.list (acc++[.int l])),some (.int (f l)),some (.int (f l))]:=by rw[gr,if_pos (by simp)];simp only[aB (show 7∉[5] by decide),au,aw,ax];rfl
 unfold uW;rw[aX,b];simp only;rw[aX,s2];simp only;rw[aX];by_cases z:f l=l
 ·rw[if_pos z];have q:(f l==l)=true:=by simpa using z
  simp only[dP,fB,cO,au,aw,Rs.ag,jV,q,Rs.aj,bH,if_true,ax,bU]
 ·rw[if_neg z];have q:(f l==l)=false:=by simpa using z
  simp only[dP,fB,cO,au,aw,Rs.ag,jV,q,Rs.aj,bH,if_false,NS,ax,iF,c]
def oT(l:Int)(a x7:Option PyData):uG [some E,some Rr,some N,some h,some (.int most),a,some (.int l),x7]=.ok (decide (l<=most)):=by simp only[uG,fB,cO,au,aw,Rs.ag,LW,Rs.aj,bH]
theorem AM(a:∀t,dk [E,Rr,N,h,.int t]=.ok (.int (f t)))(R:nz f){T:Int}(P:Top f T)(c:T<=most):∀(j fuel:Nat)(l:Int)(acc:List PyData)(x7:Option PyData),1<=l->l<=T->T-l<=j->j<fuel->acc.length+j<1000000 ->
  bQ uG uW fuel [some E,some Rr,some N,some h,some (.int most),some (.list acc),some (.int l),x7]=.rt (.list (acc++(n5 f T j l).map PyData.int))
 |j,0,l,acc,x7,_,_,_,hf,_=>absurd hf (Nat.not_lt_zero _)
 |0,fuel+1,l,acc,x7,h1,h2,h3,hf,hc=>by
  have e:l=T:=by omega
  have b:f l=l:=by rw[e];exact P.fix
  unfold bQ;rw[oT,ax,decide_eq_true (show l<=most by omega),if_pos rfl,uX a l acc (by omega),if_pos b];rfl
 |j+1,fuel+1,l,acc,x7,h1,h2,h3,hf,hc=>by
  unfold bQ;rw[oT,ax,decide_eq_true (show l<=most by omega),if_pos rfl,uX a l acc (by omega)];unfold n5;by_cases e:l=T
  ·have b:f l=l:=by rw[e];exact P.fix
   rw[if_pos b,if_pos e];rfl
  ·have hl:=P.low l h1 (by omega);have hm:=R.mono l T h1 h2;rw[P.fix]at hm;rw[if_neg (show ¬ f l=l by omega),if_neg e];simp only;rw[AM a R P c j fuel (f l) (acc++[PyData.int l]) _ (by omega) hm (by omega) (by omega) (by rw[NC,Oa];omega)];rw[N1,Of];rfl
theorem AD(a:∀t,dk [E,Rr,N,h,.int t]=.ok (.int (f t)))(no:∀s,1<=s->s<=most->¬ f s<=s):∀(j fuel:Nat)(l:Int)(acc:List PyData)(x7:Option PyData),1<=l->most-l<j->j<fuel->acc.length+j<1000000 ->
  ∃δ,bQ uG uW fuel [some E,some Rr,some N,some h,some (.int most),some (.list acc),some (.int l),x7]=.nx δ
 |j,0,l,acc,x7,_,_,hf,_=>absurd hf (Nat.not_lt_zero _)
 |0,fuel+1,l,acc,x7,h1,h3,hf,hc=>by unfold bQ;rw[oT,ax,decide_eq_false (show ¬ l<=most by omega),if_neg (by decide)];exact⟨_,rfl⟩
 |j+1,fuel+1,l,acc,x7,h1,h3,hf,hc=>by
  unfold bQ;rw[oT,ax];by_cases e:l<=most
  ·rw[decide_eq_true e,if_pos rfl,uX a l acc (by omega)];have hl:=no l h1 e;rw[if_neg (show ¬ f l=l by omega)];simp only;exact AD a no j fuel (f l) (acc++[PyData.int l]) _ (by omega) (by omega) (by omega) (by rw[NC,Oa];omega)
  ·rw[decide_eq_false e,if_neg (by decide)];exact⟨_,rfl⟩
end
def c7:Gf
 |[d,r,.int n,.int h]=>if okW d r n&&decide (0<=h) then .ok (BV (ix (de d) (cn r) n h)) else .no
 |_=>.no
def jv(h1:1<=es.length)(h2:es.length<=6)(a:∀e∈es,e.Wk)(b:cC es.length rs)(n0:0<=n)(n1:n<es.length)(c:0<=h):c7 [ar es,ai rs,.int n,.int h]=.ok (BV (ix es rs n h)):=by unfold c7;simp only[nM h1 h2 a b n0 n1,decide_eq_true c,PN,if_true,fh,eQ]
def A1(R:nz (eu es rs n h))(e:pO es rs n h=some T):Top (eu es rs n h) T/\T<=(aY es n).every-(aY es n).late:=by
 obtain⟨h1,h2,f,g⟩:=lI e;have c:∀s,1<=s->s<T->¬ eu es rs n h s<=s:=λs a b=>of_decide_eq_false (g s a b)
 exact⟨⟨R.fix h1 (of_decide_eq_true f) c,h1,c⟩,by omega⟩
def wa{f:PyData->PyData->Int->Int->Rs PyData}(h:(match ds with|[a,x1,.int x2,.int x3]=>f a x1 x2 x3|_=>.no)≠.no):∃a x1 x2 x3,ds=[a,x1,.int x2,.int x3]/\f a x1 x2 x3≠.no:=by
 rcases ds with _|⟨a,_|⟨x1,_|⟨x2,_|⟨x3,_|⟨y,ys⟩⟩⟩⟩⟩
 ·exact absurd rfl h
 ·exact absurd rfl h
 ·exact absurd rfl h
 ·first|exact absurd rfl h|(cases x2 <;> exact absurd rfl h)
 ·skip
  cases x2 with
  |int x2 =>
   cases x3 with
   |int x3 =>exact⟨_,_,_,_,rfl,h⟩
   |_=>exact absurd rfl h
  |_=>first|exact absurd rfl h|(cases x3 <;> exact absurd rfl h)
 ·first|exact absurd rfl h|(cases x2 <;> first|exact absurd rfl h|(cases x3 <;> exact absurd rfl h))
def xK(cs:Cs):LLq (iE cs dk) 4 4 c7:=by
 intro ds hl c;obtain⟨d,r,n,h,m,i⟩:=wa c;clear c;subst m;have c:=i;clear i
 ·skip
  split at c
  ·rename_i hc;simp only[N7,decide_eq_true_eq]at hc;obtain⟨hc,j⟩:=hc;obtain⟨es,rs,rfl,rfl,_,_,l1,l6,hok,g,n0,n1⟩:=gU hc;rw[jv l1 l6 hok g n0 n1 j];have e:∀t,dk [ar es,ai rs,.int n,.int h,.int t]=.ok (.int (eu es rs n h t)):=λt=>qz l1 l6 hok g n0 n1
   have R:=mh (h:=h) hok g n0 n1 j;have f:=hok _ (cY n0 n1);have a2:atI (es.map Er.d) n=some (aY es n).d:=kx n0 n1;have o:dIx (ar es) (.int n)=some (aY es n).d:=a2;have i2:dIx (aY es n).d (.int 2)=some (.int (aY es n).late):=rfl;have p:dIx (aY es n).d (.int 0)=some (.int (aY es n).every):=rfl;have e60:=f.e2;have la0:=f.l1;have f1:=R.one 1 (by decide);generalize hM:(aY es n).every-(aY es n).late=M at *;have u:aU [5] 4 (g2 iH (g2 dIx (g2 dIx (af 0) (af 2)) (gC (.int 0))) (g2 dIx (g2 dIx (af 0) (af 2)) (gC (.int 2)))) [some (ar es),some (ai rs),some (.int n),some (.int h),none,none,none,none]=.nx [some (ar es),some (ai rs),some (.int n),some (.int h),some (.int M),none,none,none]:=by rw[gr,if_pos (by simp)];simp only[cO,aB (show 0∉[5] by decide),aB (show 2∉[5] by decide),au,aw,dY,Rs.ag,o,i2,p,Rs.aj,uf,ax,hM];rfl
   have s2:ip [5] 5 ah [some (ar es),some (ai rs),some (.int n),some (.int h),some (.int M),none,none,none]=.nx [some (ar es),some (ai rs),some (.int n),some (.int h),some (.int M),some (.list []),none,none]:=rfl;have v:aU [5] 6 (ao dk (ae (af 0) (ae (af 1) (ae (af 2) (ae (af 3) (ae (gC (.int 1)) ah)))))) [some (ar es),some (ai rs),some (.int n),some (.int h),some (.int M),some (.list []),none,none]=.nx [some (ar es),some (ai rs),some (.int n),some (.int h),some (.int M),some (.list []),some (.int (eu es rs n h 1)),none]:=by rw[gr,if_pos (by simp)];simp only[bI,aA,aM,aB (show 0∉[5] by decide),aB (show 1∉[5] by decide),aB (show 2∉[5] by decide),aB (show 3∉[5] by decide),au,aw,dY,Rs.ag,e,ax];rfl
   show bf (iE cs dk [some (ar es),some (ai rs),some (.int n),some (.int h),none,none,none,none])=_;simp only[iE];rw[aX,u];simp only;rw[aX,s2];simp only;rw[aX,v];simp only;rw[aX];cases q:pO es rs n h with
   |some T =>
    obtain⟨P,l⟩:=A1 R q;rw[hM]at l;have hle:eu es rs n h 1<=T:=by have:=R.mono 1 T (by decide) P.one;rw[P.fix]at this;exact this
    have w:=AM e R P l T.toNat 1000000 (eu es rs n h 1) [] none f1 hle (by omega) (by omega) (by simp;omega);rw[w];simp only[ix,q,OG,BV,O9,a9]
   |none =>
    have no:∀s,1<=s->s<=M->¬ eu es rs n h s<=s:=λs a b=>by have:=uQ q s a (by omega);exact of_decide_eq_false this
    obtain⟨δ,w⟩:=AD e no 100 1000000 (eu es rs n h 1) [] none f1 (by omega) (by decide) (by decide);rw[w];simp only[ix,q,Option.map_none,BV,bU,dY,ax,a9]
  ·exact absurd rfl c
def cx:Gf
 |[d,r,.int n,.int h]=>if okW d r n&&decide (0<=h) then .ok (bW (pO (de d) (cn r) n h)) else .no
 |_=>.no
def i4(h1:1<=es.length)(h2:es.length<=6)(a:∀e∈es,e.Wk)(b:cC es.length rs)(n0:0<=n)(n1:n<es.length)(c:0<=h):cx [ar es,ai rs,.int n,.int h]=.ok (bW (pO es rs n h)):=by unfold cx;simp only[nM h1 h2 a b n0 n1,decide_eq_true c,PN,if_true,fh,eQ]
def vi(cs:Cs):LLq (fc cs c7) 4 1 cx:=by
 intro ds hl a;obtain⟨d,r,n,h,j,i⟩:=wa a;clear a;subst j;have a:=i;clear i
 ·skip
  split at a
  ·rename_i hc;simp only[N7,decide_eq_true_eq]at hc;obtain⟨hc,f⟩:=hc;obtain⟨es,rs,rfl,rfl,_,_,l1,l6,hok,g,n0,n1⟩:=gU hc;rw[i4 l1 l6 hok g n0 n1 f];have c:=jv l1 l6 hok g n0 n1 f;have R:=mh (h:=h) hok g n0 n1 f;show bf (fc cs c7 [some (ar es),some (ai rs),some (.int n),some (.int h),none])=_;cases q:pO es rs n h with
   |none =>
    have e:ix es rs n h=none:=by unfold ix;rw[q];rfl
    rw[e]at c;simp[fc,c,BV,bW,gIf]
   |some T =>
    obtain⟨P,hT⟩:=A1 R q;have hle:eu es rs n h 1<=T:=by have:=R.mono 1 T (by decide) P.one;rw[P.fix]at this;exact this
    have f1:=R.one 1 (by decide);have e:ix es rs n h=some (n5 (eu es rs n h) T T.toNat (eu es rs n h 1)):=by unfold ix;rw[q];rfl
    rw[e]at c;have b:=qV R P T.toNat (eu es rs n h 1) f1 hle (by omega);have l:dIx (.list ((n5 (eu es rs n h) T T.toNat (eu es rs n h 1)).map PyData.int)) (.int (-1))=some (.int T):=by show atI _ (-1)=_;rw[mV,PU,b];rfl
    simp[fc,c,BV,bW,l,gIf];rfl
  ·exact absurd rfl a
def bD:Gf
 |[d,r,.int n]=>if okW d r n then .ok (bW (cG (de d) (cn r) n)) else .no
 |_=>.no
def fI(h1:1<=es.length)(h2:es.length<=6)(h:∀e∈es,e.Wk)(a:cC es.length rs)(n0:0<=n)(n1:n<es.length):bD [ar es,ai rs,.int n]=.ok (bW (cG es rs n)):=by unfold bD;simp only[nM h1 h2 h a n0 n1,if_true,fh,eQ]
def lO(cs:Cs):LLq (d6 cs bT cx) 3 0 bD:=by
 intro ds hl a;obtain⟨d,r,n,e,c⟩:=kB a;clear a;subst e;have a:=c;clear c
 ·skip
  split at a
  ·rename_i hc;obtain⟨es,rs,rfl,rfl,_,_,l1,l6,hok,b,n0,n1⟩:=gU hc;rw[fI l1 l6 hok b n0 n1];have h1:=ic l1 l6 hok b n0 n1;have h2:=i4 l1 l6 hok b n0 n1 (pQ es rs n);rw[yh]at h2;show bf (d6 cs bT cx [some (ar es),some (ai rs),some (.int n)])=_;simp only[d6,bU,bI,aA,aM,au,aw,Rs.ag,h1,h2,ax,a9]
  ·exact absurd rfl a
def Bq(cs:Cs):LLq (kG cs bD cg) 3 0 df:=by
 intro ds hl a;obtain⟨d,r,n,f,c⟩:=kB a;clear a;subst f;have a:=c;clear c
 ·skip
  split at a
  ·rename_i hc;obtain⟨es,rs,rfl,rfl,_,_,l1,l6,hok,b,n0,n1⟩:=sN hc;have h1:=kQ l1 l6 hok b n0 n1;have g:=fI l1 l6 (λe h=>(hok e h).wk) b n0 n1;have h2:=iA l1 l6 hok b n0 n1;show bf (kG cs bD cg [some (ar es),some (ai rs),some (.int n)])=_;simp only[kG,aX,mz,bI,aA,aM,au,aw,Rs.ag,h2,ax,bU,g,h1,a9]
  ·exact absurd rfl a
theorem AZ{tops:PyData}{len:Str}{js:List Jb}{out:List PyData}:∀(n k:Nat),jH tops len n (stJ tops len js k)=some out->∃T,k<=T/\T<k+n/\out=(stJ tops len js T).2/\(stJ tops len js T).1.all Jb.done=true
 |0,k,h=>by cases h
 |n+1,k,h=>by
  unfold jH at h;split at h
  ·rename_i hd;cases h;exact⟨k,N6 _,by omega,rfl,hd⟩
  ·obtain⟨T,h1,h2,a,b⟩:=AZ n (k+1) h;exact⟨T,by omega,by omega,a,b⟩
section
variable {len:Str}{t:List PyData}
def GO(R:Ran es rs rows len)(C:Cms es rows)(f:jJ es rs rows len=some t) :
  ∃q who T,Trc (aF es rs) es.length q who/\(len="high"->qw (aF es rs) es.length q who)/\(∀m,m<es.length->∃row,rows[m]?=some row/\q m 0=mkJ es rs m row)/\t.length=T/\T<1000000 /\
   (∀i,i<T->t[i]?=some (match who i with
    |some m=>fF (q m i)
    |none=>.none))/\∀m,m<es.length->(q m T).job=(q m T).row.length:=by
 have b:IvJ (aF es rs) 0 (startJ es rs rows):=D6 R C;have c:=DW R;have g:=ET R C;have hl:(startJ es rs rows).length=es.length:=by rw[gW,R.ln]
 have f:jH (aF es rs) len 1000000 (stJ (aF es rs) len (startJ es rs rows) 0)=some t:=f;obtain⟨T,_,h2,h,n⟩:=AZ 1000000 0 f;have j:=Kg (len:=len) b c g;rw[hl]at j;refine⟨qJ (aF es rs) len (startJ es rs rows),rL (aF es rs) len (startJ es rs rows),T,j,λe{i m p} w hp th=>?_,λm hm=>?_,by rw[h,fu],by omega,λi hi=>?_,λm hm=>?_⟩
 ·subst e;exact Hr b c g w (by rw[hl];exact hp) th
 ·have a:m<rows.length:=by rw[R.ln];exact hm
  refine⟨rows[m],My a,?_⟩;unfold qJ;show (startJ es rs rows).getD m default=_;rw[NH,kq,My a];rfl
 ·rw[h,Hw hi];cases w:rL (aF es rs) len (startJ es rs rows) i with
  |none =>
   unfold rL at w;split at w
   ·rename_i z;rw[if_pos z]
   ·cases w
  |some m =>obtain⟨_,z,e⟩:=i3 b c g w;rw[if_neg z];show _=some (fF (qJ _ _ _ m i));rw[e]
 ·have l:m<(stJ (aF es rs) len (startJ es rs rows) T).1.length:=by rw[uA b c,hl];exact hm
  rw[kY l];have:=NM.mp n _ (NQ l);unfold Jb.done at this;have:=eq_of_beq this;omega
end
section
variable {len:Str}{t:List PyData}
def sI(j:Jb):iC (fF j)=some (j.num,(j.job:Int)):=rfl
theorem Trc.told{n:Nat}{q:Nat->Nat->Jb}{who:Nat->Option Nat}(R:Trc tops n q who){t:List PyData}{T:Nat} (g:∀i,i<T->t[i]?=some (match who i with
    |some m=>fF (q m i)
    |none=>.none)) (hl:t.length=T) (h:∀m,m<n->(q m 0).tot=0) (l:∀m,m<n->(q m T).job=(q m T).row.length) {a:Nat} (ha:a<n) {k:Nat} (hk:k<(q a 0).row.length) :
  (∃(j:Nat)(d:PyData),t[j]?=some d/\iC d=some ((a:Int),(k:Int)))/\∀(j:Nat)(d:PyData),t[j]?=some d->iC d=some ((a:Int),(k:Int))->(q a j).tot<((k:Int)+1)*(q a 0).work:=by
 have wp:=R.wpos ha 0;constructor
 ·have h1:((k:Int)+1)*(q a 0).work<=(q a T).tot:=by have e:(q a T).tot=((q a T).job:Int)*(q a T).work+(q a T).cur:=rfl;have cb:=lW (R.ok T ha);rw[R.wk ha T,l a ha,(R.stay ha T).2.1]at e;have:=NU (a:=(k:Int)+1) (b:=((q a 0).row.length:Int)) (c:=(q a 0).work) (by omega) (by omega);omega
  have hkn:0<=(k:Int)*(q a 0).work:=Pm (by omega) (by omega);have h2:(k:Int)*(q a 0).work+1<=(q a T).tot:=by rw[OS]at h1;omega
  obtain⟨i,_,hi,w,e⟩:=R.passed ha (B:=0) (v:=(k:Int)*(q a 0).work+1) T (by rw[h a ha];omega) (by rw[Oh];exact h2);rw[Oh]at hi;have:=g i hi;rw[w]at this;refine⟨i,_,this,?_⟩;show iC (fF (q a i))=_;rw[sI,R.num i ha,R.job_tot ha i,e];rw[show (k:Int)*(q a 0).work+1-1=(k:Int)*(q a 0).work by omega,Int.mul_ediv_cancel _ (by omega)]
 ·intro j d hd f;have o:j<T:=by rw[<-hl];exact (NR.mp hd).1
  rw[g j o]at hd;cases w:who j with
  |none=>rw[w]at hd;cases hd;cases f
  |some m =>
   rw[w]at hd;cases hd;rw[sI]at f;have e1:=Option.some.inj f;have hm:=R.lt w;have e2:=congrArg Prod.fst e1;have p:=congrArg Prod.snd e1;simp only at e2 p;rw[R.num j hm]at e2;have:m=a:=by omega
   subst this;have:=yS (R.ok j hm) (k:=k+1) (by omega);rw[R.wk hm j]at this;rw[show ((k+1:Nat):Int)=(k:Int)+1 by omega]at this;exact this
end
def Jb.sh(m:Int)(j:Jb):Jb:={ j with row:=j.row.map (· + m) }
def EU(m t:Int)(j:Jb):(j.sh m).there (t+m)=j.there t:=by
 unfold Jb.there Jb.sh;simp only[NK];cases j.row[j.job]? with
 |none=>rfl
 |some c=>exact decide_eq_decide.mpr (by show c+m<=t+m↔c<=t;omega)
def G0(m:Int)(j:Jb):(j.sh m).next=j.next.sh m:=by unfold Jb.next Jb.step1 Jb.step2 Jb.len Jb.sh;simp only;split <;> (simp only;split <;> rfl)
def Av(m:Int)(j:Jb):(j.sh m).done=j.done:=by unfold Jb.done Jb.sh;simp only[N4]
def Hx(m:Int)(tops:PyData)(l:List Jb):f6 (fD tops) (l.map (Jb.sh m))=(f6 (fD tops) l).sh m:=by
 unfold f6;have e:(l.map (Jb.sh m)).map (fD tops)=l.map (fD tops):=by rw[NG];rfl
 rw[e];generalize ju (l.map (fD tops))=i;rw[NH,NH,NK];cases l[i]? <;> rfl
def G6(m:Int)(tops:PyData)(l:List Jb):bZ tops "high" (l.map (Jb.sh m))=(bZ tops "high" l).sh m:=by
 have e:∀l,bZ tops "high" l=f6 (fD tops) l:=λl=>by unfold bZ;exact if_pos (by decide)
 rw[e,e,Hx]
def CS{told told':List PyData}(h:told'.length=told.length+m)(js:List Jb):bq told' (js.map (Jb.sh m))=(bq told js).map (Jb.sh m):=by
 unfold bq;rw[List.filter_map];congr 1;refine List.filter_congr λj _=>?_
 show (j.sh m).there (told'.length:Int)=_;rw[h,show ((told.length+m:Nat):Int)=(told.length:Int)+m by omega,EU]
def Hc(m:Int)(b:Jb)(js:List Jb):dh (b.sh m) (js.map (Jb.sh m))=(dh b js).map (Jb.sh m):=by
 unfold dh;rw[NG,NG];refine NI λj _=>?_
 show (if j.num=b.num then (b.sh m).next else j.sh m)=(if j.num=b.num then b.next else j).sh m;split
 ·exact G0 m b
 ·rfl
theorem yD{m:Nat}{tops:PyData}:∀(n:Nat)(js:List Jb)(told:List PyData),jH tops "high" n (js.map (Jb.sh m),List.replicate m .none++told)=(jH tops "high" n (js,told)).map (List.replicate m .none++·)
 |0,_,_=>rfl
 |n+1,js,told=>by
  unfold jH;have e1:(js.map (Jb.sh m)).all Jb.done=js.all Jb.done:=by rw[List.all_map];congr 1;funext j;exact Av m j
  show (if (js.map (Jb.sh m)).all Jb.done=true then _ else _)=(if js.all Jb.done=true then some told else _).map _;rw[e1];split
  ·rfl
  ·have e2:=CS (m:=m) (told:=told) (told':=List.replicate m .none++told) (by simp;omega) js;by_cases z:bq told js=[]
   ·have a:bq (List.replicate m .none++told) (js.map (Jb.sh m))=[]:=by rw[e2,z];rfl
    rw[fO z,fO a,Of];exact yD n js (told++[.none])
   ·have a:bq (List.replicate m .none++told) (js.map (Jb.sh m))≠[]:=by rw[e2];exact λq=>z (List.map_eq_nil_iff.mp q)
    have b:cy tops "high" (js,told)=(dh (bZ tops "high" (bq told js)) js,told++[fF (bZ tops "high" (bq told js))]):=by unfold cy;exact if_neg z
    have s2:cy tops "high" (js.map (Jb.sh m),List.replicate m .none++told)=(dh (bZ tops "high" (bq (List.replicate m .none++told) (js.map (Jb.sh m)))) (js.map (Jb.sh m)),List.replicate m .none++told++[fF (bZ tops "high" (bq (List.replicate m .none++told) (js.map (Jb.sh m))))]):=by unfold cy;exact if_neg a
    rw[b,s2,e2,G6,Hc,Of];exact yD n _ (told++[fF (bZ tops "high" (bq told js))])
theorem xY{tops:PyData}{len:Str}{t:List PyData}:∀(n k:Nat)(s:List Jb×List PyData),jH tops len n s=some t->jH tops len (n+k) s=some t
 |0,_,_,h=>by cases h
 |n+1,k,s,h=>by
  rw[show n+1+k=n+k+1 by omega];unfold jH at h ⊢;split at h
  ·rename_i z;rw[if_pos z];exact h
  ·rename_i z;rw[if_neg z];exact xY n k _ h
theorem AX{m:Nat}{tops:PyData}{js:List Jb}(b:∀j∈js,∀c∈j.row,0<=c)(hd:js.all Jb.done=false):∀(k i n:Nat),i+k=m->jH tops "high" (n+k) (js.map (Jb.sh m),List.replicate i .none)=jH tops "high" n (js.map (Jb.sh m),List.replicate m .none)
 |0,i,n,e=>by rw[show i=m by omega];rfl
 |k+1,i,n,e=>by
  rw[show n+(k+1)=n+k+1 by omega]
  conv=>lhs;unfold jH
  have e1:(js.map (Jb.sh m)).all Jb.done=false:=by rw[List.all_map,<-hd];congr 1;funext j;exact Av m j
  have z:bq (List.replicate i PyData.none) (js.map (Jb.sh m))=[]:=by
   unfold bq;rw[List.filter_eq_nil_iff];intro j f;obtain⟨a,g,rfl⟩:=N9.mp f;rw[Pw];unfold Jb.there Jb.sh;simp only[NK];cases q:a.row[a.job]? with
   |none=>simp
   |some c =>have:=b a g c (O1 q);simp;omega
  rw[if_neg (by rw[e1];exact NO),fO z,show List.replicate i PyData.none++[.none]=List.replicate (i+1) .none from (List.replicate_succ' ..).symm];exact AX b hd k (i+1) n (by omega)
def BI{t':List PyData}(hm:m<=1000)(n:∀r∈rows,∀c∈r,0<=c)(b:∃r∈rows,r≠[])(h:jJ es rs (rows.map (·.map (· + (m:Int)))) "high"=some t'):∃t,jJ es rs rows "high"=some t/\t'=List.replicate m .none++t:=by
 have o:startJ es rs (rows.map (·.map (· + (m:Int))))=(startJ es rs rows).map (Jb.sh m):=by unfold startJ;exact OM (by simp) λi h1 h2=>by simp[mkJ,Jb.sh]
 unfold jJ at h ⊢;rw[o]at h;have hd:(startJ es rs rows).all Jb.done=false:=by
  obtain⟨r,p,h1⟩:=b;obtain⟨k,a,e⟩:=Ow p;rw[List.all_eq_false];have q:(startJ es rs rows)[k]?=some (mkJ es rs k r):=by unfold startJ;rw[OC,My a,e];rfl
  refine⟨mkJ es rs k r,O1 q,?_⟩;unfold Jb.done mkJ;simp only[beq_iff_eq];have:=Ov.mpr h1;omega
 have f:∀j∈startJ es rs rows,∀c∈j.row,0<=c:=λj s c hc=>by
  obtain⟨k,a,e⟩:=Ow s;have g:k<rows.length:=by unfold startJ at a;simpa using a
  have:(startJ es rs rows)[k]=mkJ es rs k rows[k]:=by simp[startJ]
  rw[<-e,this]at hc;exact n _ (NQ g) c hc
 have h2:=AX (m:=m) (tops:=aF es rs) f hd m 0 (1000000-m) (by omega);rw[show 1000000-m+m=1000000 by omega]at h2;have l:=yD (m:=m) (tops:=aF es rs) (1000000-m) (startJ es rs rows) [];rw[Ob]at l;rw[show List.replicate 0 PyData.none=[] from rfl]at h2;rw[h2,l]at h;obtain⟨t,u,e⟩:=O7.mp h;refine⟨t,?_,e.symm⟩;have:=xY (1000000-m) m _ u;rw[show 1000000-m+m=1000000 by omega]at this;exact this
theorem tE:∀(m i:Nat)(t:List PyData)(l:PTl),endsF i (List.replicate m .none++t) l=endsF (i+m) t l
 |0,i,t,l=>rfl
 |m+1,i,t,l=>by rw[Ou,Oe];show endsF (i+1) _ l=_;rw[tE m (i+1) t l];congr 1;omega
theorem Ae{m:Nat}:∀(t:List PyData)(i:Nat)(l a:PTl),(∀k,dg a k=(dg l k).map (· + (m:Int)))->∀k,dg (endsF (i+m) t a) k=(dg (endsF i t l) k).map (· + (m:Int))
 |[],_,_,_,h,k=>h k
 |d::r,i,l,a,h,k=>by
  show dg (endsF (i+m+1) r _) k=(dg (endsF (i+1) r _) k).map _;rw[show i+m+1=i+1+m by omega];refine Ae r (i+1) _ _ (λb=>?_) k;cases iC d with
  |none=>exact h b
  |some p =>
   simp only[ku];split
   ·simp;omega
   ·exact h b
def zJ(m:Nat)(t:List PyData)(k:Int×Int):dg (endsF 0 (List.replicate m .none++t) []) k=(dg (endsF 0 t []) k).map (· + (m:Int)):=by rw[tE];exact Ae t 0 [] [] (λ_=>rfl) k
theorem Cms.at(h:Cms es rows):∀{i:Nat}{e:Er}{row:List Int},es[i]?=some e->rows[i]?=some row->xF row/\hvE e row=true:=by
 induction h with
 |nil=>intro i e row h;simp at h
 |cons h1 h2 _ ih =>
  intro i e row a b;cases i with
  |zero=>cases a;cases b;exact⟨h1,h2⟩
  |succ i=>exact ih a b
theorem DL{ev la:Int}:∀{row:List Int}{m:Int},hvM ev la m row=true->∀k(h:k+1<row.length),row[k]+ev-la<=row[k+1]
 |[],_,_,k,h=>by simp at h
 |[_],_,_,k,h=>by simp at h
 |c::d::r,m,hh,k,h=>by
  unfold hvM at hh;have hw:c-la<=(if c-la>m then c-la else m):=by split <;> omega
  generalize (if c-la>m then c-la else m)=w at hh hw;by_cases h1:c<w
  ·rw[if_pos h1]at hh;cases hh
  ·rw[if_neg h1]at hh;cases k with
   |zero =>
    unfold hvM at hh;have a:w+ev<=(if d-la>w+ev then d-la else w+ev):=by split <;> omega
    generalize (if d-la>w+ev then d-la else w+ev)=u at hh a;by_cases h2:d<u
    ·rw[if_pos h2]at hh;cases hh
    ·show c+ev-la<=d;omega
   |succ k=>exact DL hh k (by simpa using h)
def Em(ok:e.Ok){L:Int}(h:1<=L):(L-1+e.late) / e.every+1=e.times L:=by unfold Er.times;have e1:=ok.e1;have:=Bk (x:=L+e.late) (e:=e.every) (by omega);rw[<-this];rw[show L+e.late+e.every-1=L-1+e.late+e.every*1 by omega,PF _ _ (by omega)]
def CP{L:Int}(h:cG es rs n=some L):1<=L/\L<=(aY es n).every-(aY es n).late/\mQ es rs n L<=L:=by unfold cG at h;have h1:=List.find?_some h;obtain⟨i,hi,e⟩:=N9.mp (List.mem_of_find?_eq_some h);have:=OK.mp hi;exact⟨by omega,by omega,of_decide_eq_true h1⟩
def ur{t:List PyData}(R:Ran es rs rows "high")(C:Cms es rows)(Z:jJ es rs rows "high"=some t) :
  (∀d∈t,uD d)/\t.length<1000000/\(∀(a:Nat)(row:List Int),rows[a]?=some row->∀k,k<row.length->∃v,dg (endsF 0 t []) ((a:Int),(k:Int))=some v) /\
   ∀(a:Nat)(row:List Int)(L:Int),rows[a]?=some row->cG es rs (a:Int)=some L->∀k(y:k<row.length) v,dg (endsF 0 t []) ((a:Int),(k:Int))=some v->v-row[k]<=L:=by
 obtain⟨q,who,T,F,y,A,hlen,K,f,r⟩:=GO R C Z;have Hk:qw (aF es rs) es.length q who:=y rfl;have M:∀m,m<es.length->(q m 0).tot=0:=λm hm=>by obtain⟨row,_,e⟩:=A m hm;rw[e];exact mL m row
 have b:∀{a:Nat}{row:List Int},rows[a]?=some row->a<es.length/\(q a 0).row=row/\(q a 0).parts=(aY es (a:Int)).parts/\(q a 0).rank=(placeOf rs (a:Int):Int):=λ{a row} h=>by
  have ha:a<es.length:=by rw[<-R.ln];exact (NR.mp h).1
  obtain⟨s,h',e⟩:=A a ha;rw[h]at h';cases h';rw[e];exact⟨ha,rfl,rfl,rfl⟩
 have G:∀m:Nat,m<es.length->es[m]?=some (aY es (m:Int)):=λm hm=>by have:=pJ (es:=es) (n:=(m:Int)) (by omega) (by omega);rw[O6]at this;exact this
 have D:∀m:Nat,m<es.length->(aY es (m:Int)).Ok:=λm hm=>R.eok.ok _ (cY (by omega) (by omega))
 have g:∀m:Nat,m<es.length->∃row,rows[m]?=some row/\xF row/\hvE (aY es (m:Int)) row=true:=λm hm=>by obtain⟨row,h,_⟩:=A m hm;exact⟨row,h,C.at (G m hm) h⟩
 refine⟨λd hd=>?_,by omega,λa row h k y=>?_,λa row L h hL k y v hv=>?_⟩
 ·obtain⟨i,hi,e⟩:=Ow hd;have:=f i (by omega);rw[My hi,e]at this;cases w:who i with
  |none=>rw[w]at this;left;exact Option.some.inj this
  |some m=>rw[w]at this;right;exact⟨((q m i).num,((q m i).job:Int)),Option.some.inj this⟩
 ·obtain⟨ha,e1,_,_⟩:=b h;exact xh t 0 [] (.inl (F.told f hlen M r ha (k:=k) (by rw[e1];exact y)).1)
 ·obtain⟨ha,e1,e2,e3⟩:=b h;have I:k<(q a 0).row.length:=by rw[e1];exact y
  obtain⟨L1,L2,L3⟩:=CP hL;have N:((L.toNat:Nat):Int)=L:=by omega
  have main:=F.answer Hk M (λm hm=>by obtain⟨row,_,e⟩:=A m hm;rw[e];rfl) R.rok (λm hm=>by obtain⟨row,h,_⟩:=A m hm;exact (b h).2.2.2)
   (λm hm c hc=>by obtain⟨row,h,i1,_⟩:=g m hm;rw[(b h).2.1]at hc;exact i1.lo c hc)
   ha (H:=jj es rs (a:Int)) (L:=L.toNat) (tm:=λx=>(aY es x).times L) (pQ es rs _)
   (λm hm hp p o T K X=>by
    have O:(m:Int)∈rs.drop (placeOf rs (a:Int)+1):=by have l:=R.rok.mem (n:=(m:Int)) (by omega) (by omega);have hg:=kr l;rw[PB];refine⟨placeOf rs (m:Int)-(placeOf rs (a:Int)+1),?_⟩;rw[List.getElem?_drop,show placeOf rs (a:Int)+1+(placeOf rs (m:Int)-(placeOf rs (a:Int)+1))=placeOf rs (m:Int) by omega];exact hg
    obtain⟨row,h',_⟩:=A m hm;rw[(b h').2.2.1]at o;obtain⟨P,Q⟩:=((D m hm).pl p o).2.2 T K;have hh:(aY es (m:Int)).has T=true:=by unfold Er.has;rw[OL];exact⟨p,o,by rw[K];exact beq_self_eq_true _⟩
    have l:=R.rok.mem (n:=(m:Int)) (by omega) (by omega);have S:(m:Int)∈rs.take (placeOf rs (m:Int)+1):=by rw[List.take_succ,kr l];exact N8 _ N3
    obtain⟨x,E,_⟩:=(qc es T rs 0 (placeOf rs (m:Int))).mpr ⟨(m:Int),S,hh⟩;have E:bu es rs T=some x:=E;have J:fU (aF es rs) T=x:=by unfold fU;rw[k4 P Q E]
    rw[J]at X;exact (tM.mp (Oj _)).2 (m:Int) O p o T K (by
     first
     |exact⟨x,E,X⟩
     |exact (qc es T rs 0 (placeOf rs (a:Int))).mp ⟨x,E,by omega⟩))
   (by rw[e2];exact (D a ha).la)
   (λm hm hp B=>by
    obtain⟨row,h',i1,i2⟩:=g m hm;rw[(b h').2.1];have ok:=D m hm;have:=Fl (ev:=(aY es (m:Int)).every) (la:=(aY es (m:Int)).late) (u:=(B:Int)-1) (t:=(B:Int)+L.toNat-1) (by have:=ok.e1;omega) ok.l1 (by omega) i2 (by have:=F.srt 0 hm;rw[(b h').2.1]at this;exact this)
    rw[N]at this ⊢;rw[show (B:Int)+L-1-((B:Int)-1)-1+(aY es (m:Int)).late=L-1+(aY es (m:Int)).late by omega,Em ok L1]at this;exact this)
   (by omega)
   (by
    rw[N];have Y:∀m:Nat,m<es.length->(q m 0).work=(aY es (m:Int)).work:=λm hm=>by obtain⟨row,h',_⟩:=A m hm;unfold Jb.work;rw[(b h').2.2.1];rfl
    have U:((rs.take (placeOf rs (a:Int))).map λx=>(aY es x).times L*(q x.toNat 0).work)=(rs.take (placeOf rs (a:Int))).map λx=>(aY es x).times L*(aY es x).work:=NI λx E=>by have hr':=R.rok.rng x (OD E);rw[Y x.toNat (by omega),show ((x.toNat:Nat):Int)=x by omega]
    rw[U,Y a ha];exact L3)
   (λj hj=>by
    have W:j+1<row.length:=by rw[<-e1];exact hj
    obtain⟨s,h',_,i2⟩:=g a ha;rw[h]at h';cases h';have:=DL i2 j W;have g1:(q a 0).row[j]=row[j]:=by simp only[e1]
    have g2:(q a 0).row[j+1]=row[j+1]:=by simp only[e1]
    rw[g1,g2,N];omega) k I
  have g1:(q a 0).row[k]=row[k]:=by simp only[e1]
  have c0:0<=row[k]:=by obtain⟨s,h',i1,_⟩:=g a ha;rw[h]at h';cases h';exact i1.lo _ (NQ y)
  rcases ua t 0 [] hv with⟨j,d,d1,d2,d3⟩|z
  ·have lt:=(F.told f hlen M r ha I).2 j d d1 d2;have:j<row[k].toNat+L.toNat:=by
    refine Nat.not_le.mp λz=>?_
    have:=F.mono ha z;rw[g1]at main;omega
   omega
  ·cases z
end RS
set_option maxHeartbeats 4000000
namespace L2
open PySem PySem.Spec PyProof.Rows
section
variable {E:XK}{a b c:Expr}
def Na(ta:TA):TE:=λσ H Q=>ta σ H λvs H1=>∃i j c:Int,vs=[.int i,.int j,.int c]/\nh i j c=true/\kl i j c<=1000000/\∀p,H1 p=none->Q (.ref p) (upd H1 p (.lst ((List.range (kl i j c)).map λ(k:Nat)=>V.int (i+(k:Int)*c))))
def r8{f:Pos}(hc:X.calm=true)(y:Gl X "range")(hm:X.mg "range"=none)(u:Gl X "list")(v:X.mg "list"=none)(ha:PA X [a,b,c] ta)(z:starEach [a,b,c] X.env=[(false,eval a X.env),(false,eval b X.env),(false,eval c X.env)])
  (l:starEach [b,c] X.env=[(false,eval b X.env),(false,eval c X.env)]) (m:starEach [.Call (.Name "range" p) [a,b,c] [] pos] X.env=[(false,eval (.Call (.Name "range" p) [a,b,c] [] pos) X.env)]) :
  PE X (.Call (.Name "list" p2) [.Call (.Name "range" p) [a,b,c] [] pos] [] f) (Na ta):=by
 intro pins s σ H Q I h;refine Call_ (fz I u v uM (PyProof.Rows.callWith_type1 ?_ m rfl));rw[m];show wpAny _ _ (spliced ((false,eval (.Call (.Name "range" p) [a,b,c] [] pos) X.env)::backTo f [])) _ _ s;refine Calls.spliced_cons (Call_ (fz I y hm boot_range (PyProof.Rows.callWith_type1 (thn (ha pos pins s σ H _ I h) λus s1 w=>?_) (by rw[z,l]) (by rw[l];rfl))));obtain⟨vs,H1,x,A,g⟩:=w;obtain⟨i,j,c,e,g,q0,q⟩:=g;subst e;unfold nh at g;rw[N7]at g;have B:=of_decide_eq_true g.1;cases A with
 |cons r rr =>
  cases rr with
  |cons r' rr =>
   cases rr with
   |cons r'' rr =>
    cases rr;obtain⟨t,rfl⟩:=r;obtain⟨t',rfl⟩:=r';obtain⟨t'',rfl⟩:=r'';refine PySem.call_range_3 B.2.2.2.2.2.2 (Calls.spliced_nil ?_) (.inl (PyProof.noPylong_small (by omega)));have e2:Builtin.Range.rangeSize i j c=((kl i j c:Nat):Int):=by have:=mJ i j c;unfold kl;omega
    refine call_list_range (n:=kl i j c) (x.ok.hd hc) (IsRange.new ..) g.2 e2 (by omega) λh' tk acc' c' C hl hi=>?_
    exact JD (x.kept λb o e=>N2 _ e) C hl hi (by omega) q
def mr:List PyData->Rs (List PyData)
 |[.int i,.int j,.int c]=>if nh i j c=true/\kl i j c<=1000000 then .ok (pW i c (kl i j c)) else .no
 |_=>.no
def Bt(g:Ds->Rs (List PyData)):Ds->Rs (List PyData):=λδ=>(g δ).bind mr
def yB{f:Pos}(hc:X.calm=true)(hm:X.mg "range"=none)(g:X.mg "list"=none)(ha:PAD X E [a,b,c] gs)(B:Gl X "range")(l:Gl X "list")(D:starEach [a,b,c] X.env=[(false,eval a X.env),(false,eval b X.env),(false,eval c X.env)])
  (m:starEach [b,c] X.env=[(false,eval b X.env),(false,eval c X.env)]) (n:starEach [.Call (.Name "range" p) [a,b,c] [] pos] X.env=[(false,eval (.Call (.Name "range" p) [a,b,c] [] pos) X.env)]):PLD X E (.Call (.Name "list" p2) [.Call (.Name "range" p) [a,b,c] [] pos] [] f) (Bt gs) :=
 (r8 hc B hm l g ha.1 D m n).imp λσ H Q r=>by
  obtain⟨A,δ,R,o⟩:=r;unfold Bt at o;refine aD.run R (λds e vs H1 x R1 h1=>?_) (λC e H' s'=>by rw[e]at o;exact o H' s') (λe=>by rw[e]at o;exact o);simp only[e,Rs.ag]at o;unfold mr at o;split at o
  ·split at o
   ·rename_i i j c z;obtain⟨v,u,w,rfl,h,h',s⟩:=M7 h1;rw[h.ofInt,h'.ofInt,s.ofInt];refine⟨i,j,c,rfl,z.1,z.2,λq y=>o q _ _ (x.free y) (x.trans (bE y)) aE ?_⟩;have:pW i c (kl i j c)=((List.range (kl i j c)).map λ(k:Nat)=>(i+(k:Int)*c)).map PyData.int:=by unfold pW;rw[NG];rfl
    rw[this,show ((List.range (kl i j c)).map λ(k:Nat)=>V.int (i+(k:Int)*c))=((List.range (kl i j c)).map λ(k:Nat)=>(i+(k:Int)*c)).map V.int by rw[NG];rfl];exact qW _
   ·exact o.elim
  ·exact o.elim
end
section
variable {A:Around}
abbrev zT1(h:Heap)(t:Addr):Heap:=h.push { cls:=.type "tuple_iterator",data:=.fields #[.ref t,.int 0 0] }
abbrev zT2(h:Heap)(t l:Addr):Heap:=(zT1 h t).push { cls:=.type "tuple_iterator",data:=.fields #[.ref l,.int 0 0] }
abbrev zT3(h:Heap)(t l:Addr):Heap:=(zT2 h t l).push { cls:=.type "tuple",data:=.seq #[.ref h.objs.size,.ref (zT1 h t).objs.size] }
abbrev zT4(h:Heap)(t l:Addr):Heap:=(zT3 h t l).push { cls:=.type "tuple",data:=.seq #[.none,.none] }
abbrev zT5(h:Heap)(t l:Addr):Heap:=(zT4 h t l).push { cls:=.type "zip",data:=.fields #[.none,.bool false,.bool false,.ref (zT2 h t l).objs.size,.ref (zT3 h t l).objs.size] }
def w6(t l:Addr)(xs ys:Array Value):Meets (Builtin.«zip.__new__» ⟨[.type "zip",.ref t,.ref l],[]⟩) (λ_ R s=>s.heap.IsTuple t xs/\s.heap.IsTuple l ys/\R (.ok (.ret (.ref (zT4 s.heap t l).objs.size))) { s with heap:=zT5 s.heap t l }) :=
 .of_wp λprog w A R s h=>by
  obtain⟨c,g,d,tk,os⟩:=s;obtain⟨e,hl,h⟩:=h;have sb:isSubtype (.type "zip") (.type "zip")=pure true:=by rw[isSubtype_type];kernel_rfl
  have a:Heap.IsTuple (Shared.heap ⟨c,g,d,tk,os⟩) t xs:=e;have b:Heap.IsTuple (Shared.heap ⟨c.push { cls:=.type "tuple_iterator",data:=.fields #[.ref t,.int 0 0] },g,d,tk,os⟩) l ys:=Heap.IsTuple.push hl _
  wp_walk using wpAny_pyIter_tuple a,wpAny_pyIter_tuple b
  exact⟨_,rfl,h⟩
def zX{t l:Addr}{xs ys:Array Value}(a:s.heap.IsTuple t xs)(hl:s.heap.IsTuple l ys)(h:Q (.ref (zT4 s.heap t l).objs.size) { s with heap:=zT5 s.heap t l }) :
  wpAny (model prog w) A (call (.type "zip") [.ref t,.ref l]) Q E s:=by
 refine callType_new F.called_zip (by decide) (F.typeCall_zip_2 _ _) (F.newCall_zip_2 _ _) (λobj=>F.args_object_init_3 obj _ _) F.entry_zip_new (w6 t l xs ys) ⟨a,hl,?_⟩;exact⟨⟨_,NB _ rfl,rfl⟩,h⟩
end
def Itu(K:PySem.W.Frag)(a b:Addr)(n:Nat):It :=
 ⟨λi H=>i<n/\∃xs ys,SqT K H a xs/\SqT K H b ys/\xs.length=n/\ys.length=n,
  λi H v H'=>∃t x y,v=.ref t/\H t=none/\H'=upd H t (.tup [x,y])/\(∀xs,SqT K H a xs->xs[i]?=some x)/\∀ys,SqT K H b ys->ys[i]?=some y,
  λi H=>i=n/\∃xs ys,SqT K H a xs/\SqT K H b ys/\xs.length=n/\ys.length=n⟩
def Br{z TI TO i1 i2:Addr}{n:Nat}(Z:mY z TI TO i1 i2 [i1,a] [i2,b]) :
  Turn P w K (.Tuple elts x1 tp) (Itu K a b n) [z,TI,TO,i1,i2] z (λi h=>IsZip h z TI TO .none/\IsPair h TI (.ref i1) (.ref i2)/\(∃u v,IsPair h TO u v)/\h.IsTupleIter i1 a i/\h.IsTupleIter i2 b i) where
 mem:=by simp
 obj:=λi h st c hc=>by
  obtain⟨h1,h2,⟨u,v,r⟩,⟨B,j,_,d4⟩,⟨F,m,_,d5⟩⟩:=st;simp only[N5,NN,or_false]at hc;rcases hc with rfl|rfl|rfl|rfl|rfl
  ·exact⟨_,h1,λv q=>by cases q⟩
  ·exact⟨_,h2,λv q=>by cases q⟩
  ·exact⟨_,r,λv q=>by cases q⟩
  ·exact⟨_,j,λv q=>by rw[d4]at q;cases q⟩
  ·exact⟨_,m,λv q=>by rw[d5]at q;cases q⟩
 keep:=λi h h' st k=>by obtain⟨h1,h2,⟨u,v,r⟩,⟨B,j,r4⟩,⟨F,m,r5⟩⟩:=st;exact⟨k z (by simp) _ h1,k TI (by simp) _ h2,⟨u,v,k TO (by simp) _ r⟩,⟨B,k i1 (by simp) _ j,r4⟩,⟨F,k i2 (by simp) _ m,r5⟩⟩
 item:=by
  intro X hP hw hK hc i pins s σ H E I S st hg;subst hP hw hK;obtain⟨hi,xs,ys,T,hy,lx,ly⟩:=hg;obtain⟨h1,h2,⟨u,v,r⟩,G,U⟩:=st;obtain⟨f,Y,p,_⟩:=I.tuple T;obtain⟨C,L,p',_⟩:=I.tuple hy;have la:=Y.length;have lb:=L.length;have hh:X.A.in1.handled=none:=I.ok.hd hc;have na:a≠i1:=λq=>by obtain⟨o,g,c,_⟩:=p;obtain⟨B,j,M,_⟩:=G;rw[q,j]at g;cases g;rw[M]at c;exact absurd (Value.type.inj c) (by decide)
  have nb:b≠i2:=λq=>by obtain⟨o,g,c,_⟩:=p';obtain⟨F,m,c5,_⟩:=U;rw[q,m]at g;cases g;rw[c5]at c;exact absurd (Value.type.inj c) (by decide)
  have pt:s.heap.IsTuple a f.toArray:=p;have pt2:s.heap.IsTuple b C.toArray:=p';refine ya (kA hh i1 a na f.toArray) (kA hh i2 b nb C.toArray) Z h1 h2 r ⟨G,pt⟩ ⟨U,pt2⟩ (by simp;omega) (by simp;omega) λh' x y tk px py c1 c2 c3 M c5 c6=>⟨_,rfl,?_⟩
  refine wpAny_letOwnedTupleGo_zip (s:={ s with heap:=h',toks:=tk }) c1 λh2' d1 d2=>?_
  have zl:z<s.heap.objs.size:=Nz h1;have J:∀c o,c≠z->h'.get? c=some o->h2'.get? c=some o:=λc o hc e=>(d2.2 c hc).trans e
  have nT:s.heap.objs.size≠z:=Oy zl;obtain⟨N,ex,rx⟩:∃N,xs[i]?=some N/\RelV N x:=by
   have l:i<xs.length:=by omega
   obtain⟨u',e1,e2⟩:=Y.get (My l);refine⟨xs[i],My l,?_⟩;have O:f[i]?=some x:=by simpa using px
   rw[e1]at O;cases O;exact e2
  obtain⟨Q,ey,ry⟩:∃Q,ys[i]?=some Q/\RelV Q y:=by
   have l:i<ys.length:=by omega
   obtain⟨u',e1,e2⟩:=L.get (My l);refine⟨ys[i],My l,?_⟩;have R:C[i]?=some y:=by simpa using py
   rw[e1]at R;cases R;exact e2
  have fr:H s.heap.objs.size=none:=I.hok.fresh (N6 _);refine⟨.ref s.heap.objs.size,upd H s.heap.objs.size (.tup [N,Q]),?_,rfl,⟨_,N,Q,rfl,fr,rfl,λxs' h=>by rw[I.tuple_inj h T];exact ex,λys' h=>by rw[I.tuple_inj h hy];exact ey⟩,?_,λc D=>?_⟩
  ·refine I.turnLay (t':=tk) (ch:=[z,TI,TO,i1,i2]) S (N6 _) (λc o hn e=>?_) ⟨by show 2<=sizeLine;decide,[x,y],.cons rx (.cons ry .nil),⟨_,J _ _ nT c5,rfl,rfl,_,rfl⟩⟩;simp only[N5,NN,or_false,not_or]at hn;exact J c o hn.1 (c6 c o hn.1 hn.2.2.1 hn.2.2.2.1 hn.2.2.2.2 e)
  ·obtain⟨⟨B,j,r4⟩,_⟩:=c3;obtain⟨⟨F,m,r5⟩,_⟩:=M;exact⟨d1,J _ _ Z.TIz (c6 _ _ Z.TIz Z.TIO Z.TI1 Z.TI2 h2),⟨x,y,J _ _ Z.TOz c2⟩,⟨B,J _ _ Z.z1 j,r4⟩,⟨F,J _ _ Z.z2 m,r5⟩⟩
  ·have h0:=(S c D).1;obtain⟨oc,gc⟩:∃oc,s.heap.get? c=some oc:=by
    simp only[N5,NN,or_false]at D;rcases D with rfl|rfl|rfl|rfl|rfl
    ·exact⟨_,h1⟩
    ·exact⟨_,h2⟩
    ·exact⟨_,r⟩
    ·obtain⟨B,j,_⟩:=G;exact⟨_,j⟩
    ·obtain⟨F,m,_⟩:=U;exact⟨_,m⟩
   rw[az (ND (Nz gc))];exact h0
 done:=by
  intro X hP hw hK hc i pins s σ H E I S st hg;subst hP hw hK;obtain⟨hi,xs,ys,T,hy,lx,ly⟩:=hg;obtain⟨h1,h2,⟨u,v,r⟩,G,U⟩:=st;obtain⟨f,Y,p,_⟩:=I.tuple T;have la:=Y.length;have hh:X.A.in1.handled=none:=I.ok.hd hc;have na:a≠i1:=λq=>by obtain⟨o,g,c,_⟩:=p;obtain⟨B,j,M,_⟩:=G;rw[q,j]at g;cases g;rw[M]at c;exact absurd (Value.type.inj c) (by decide)
  have pt:s.heap.IsTuple a f.toArray:=p;have e:f.toArray.size=i:=by simp;omega
  refine qP (kA hh i1 a na f.toArray) Z h1 h2 r ⟨by rw[e];exact G,pt⟩ λh' k=>⟨rfl,?_⟩
  refine I.turneds (t':=s.toks) (ch:=[z,TI,TO,i1,i2]) S λc o hn q=>?_
  simp only[N5,NN,or_false,not_or]at hn;exact k c o hn.1 hn.2.2.1 hn.2.2.2.1 hn.2.2.2.2 q
 self:=λ_ _ _ _ _ st h=>wpAny_pyIter_zip st.1 h
def MI(K:PySem.W.Frag)(ta:TA):TI:=λσ H R=>ta σ H λvs H1=>∃a b xs ys,vs=[.ref a,.ref b]/\SqT K H1 a xs/\SqT K H1 b ys/\ys.length=xs.length/\R (Itu K a b xs.length) H1
def Ha{a b:Expr}(B:Gl X "zip")(hm:X.mg "zip"=none)(ha:PA X [a,b] ta)(C:starEach [a,b] X.env=[(false,eval a X.env),(false,eval b X.env)]:=by rfl)(r:starEach [b] X.env=[(false,eval b X.env)]:=by rfl) :
  PI X (.Tuple elts x1 tp) (.Call (.Name "zip" p) [a,b] [] pos) (MI X.K ta):=by
 intro pins s σ H R I h;refine Call_ (fz I B hm boot_zip (PyProof.Rows.callWith_type1 (thn (ha pos pins s σ H _ I h) λus f w=>?_) (by rw[C,r]) (by rw[r];rfl)));obtain⟨vs,H1,u,D,E⟩:=w;obtain⟨l,m,xs,ys,e,F,G,hl,q⟩:=E;subst e;obtain⟨u1,u2,e1,J,L⟩:=vals2 D;subst e1;cases J;cases L;obtain⟨x,rv,pt,_⟩:=u.tuple F;obtain⟨jts,rw',pl,_⟩:=u.tuple G;have v:f.heap.IsTuple l x.toArray:=pt;have y:l<f.heap.objs.size:=by obtain⟨_,g,_⟩:=v;exact Nz g
 have bl:m<f.heap.objs.size:=by obtain⟨_,g,_⟩:=pl;exact Nz g
 refine zX v pl ?_;have z1:(zT1 f.heap l).objs.size=f.heap.objs.size+1:=Heap.size_push ..;have z2:(zT2 f.heap l m).objs.size=f.heap.objs.size+2:=by rw[Heap.size_push,z1]
 have z3:(zT3 f.heap l m).objs.size=f.heap.objs.size+3:=by rw[Heap.size_push,z2]
 have z:(zT4 f.heap l m).objs.size=f.heap.objs.size+4:=by rw[Heap.size_push,z3]
 have A:IsZip (zT5 f.heap l m) (zT4 f.heap l m).objs.size (zT2 f.heap l m).objs.size (zT3 f.heap l m).objs.size .none:=NB _ rfl;have M:IsPair (zT5 f.heap l m) (zT3 f.heap l m).objs.size .none .none:=N2 _ (NB _ rfl);have N:IsPair (zT5 f.heap l m) (zT2 f.heap l m).objs.size (.ref f.heap.objs.size) (.ref (zT1 f.heap l).objs.size):=N2 _ (N2 _ (NB _ rfl));have g2:(zT5 f.heap l m).IsTupleIter (zT1 f.heap l).objs.size m 0:=⟨_,N2 _ (N2 _ (N2 _ (NB _ rfl))),rfl,rfl⟩
 have g1:(zT5 f.heap l m).IsTupleIter f.heap.objs.size l 0:=⟨_,N2 _ (N2 _ (N2 _ (N2 _ (NB _ rfl)))),rfl,rfl⟩
 have O:∀c o,f.heap.get? c=some o->(zT5 f.heap l m).get? c=some o:=λc o e=>N2 _ (N2 _ (N2 _ (N2 _ (N2 _ e))))
 have P:Inv X pins σ H1 { f with heap:=zT5 f.heap l m }:=u.kept (t':=f.toks) O;have Z:mY (zT4 f.heap l m).objs.size (zT2 f.heap l m).objs.size (zT3 f.heap l m).objs.size f.heap.objs.size (zT1 f.heap l).objs.size [f.heap.objs.size,l] [(zT1 f.heap l).objs.size,m]:=by
  rw[z1,z2,z3,z];have n:∀i j:Nat,i≠j->f.heap.objs.size+i≠f.heap.objs.size+j:=λi j h q=>h (Nat.add_left_cancel q)
  refine⟨n 2 4 (by decide),n 3 4 (by decide),n 0 4 (by decide),n 1 4 (by decide),n 2 3 (by decide),n 2 0 (by decide),n 2 1 (by decide),n 3 0 (by decide),n 3 1 (by decide),n 0 1 (by decide),λc hc=>?_,λc hc=>?_⟩
  ·simp only[N5,NN,or_false]at hc;rcases hc with rfl|rfl
   ·exact⟨n 0 4 (by decide),n 0 3 (by decide),n 0 1 (by decide)⟩
   ·exact⟨ND (NL y (OA _ _)),ND (NL y (OA _ _)),ND (NL y (OA _ _))⟩
  ·simp only[N5,NN,or_false]at hc;rcases hc with rfl|rfl
   ·exact⟨n 1 4 (by decide),n 1 3 (by decide),n 1 0 (by decide)⟩
   ·exact⟨ND (NL bl (OA _ _)),ND (NL bl (OA _ _)),ND bl⟩
 have big:∀c∈[(zT4 f.heap l m).objs.size,(zT2 f.heap l m).objs.size,(zT3 f.heap l m).objs.size,f.heap.objs.size,(zT1 f.heap l).objs.size],f.heap.objs.size<=c:=λc hc=>by
  simp only[N5,NN,or_false]at hc;rcases hc with rfl|rfl|rfl|rfl|rfl
  ·rw[z];exact OA _ _
  ·rw[z2];exact OA _ _
  ·rw[z3];exact OA _ _
  ·exact N6 _
  ·rw[z1];exact OA _ _
 refine wpAny_pyIter_zip A ⟨_,_,_,_,H1,rfl,P,Br Z,⟨A,N,⟨_,_,M⟩,g1,g2⟩,λc hc=>?_,q⟩;exact u.fpOk (big c hc) (u.hok.fresh (big c hc))
def Ci{es:List PyData}(h1:Iss K G ds xs)(h2:Iss K G es ys)(hl:ys.length=xs.length)(c:∀H1,av G H1->SqT K H1 a xs)(f:∀H1,av G H1->SqT K H1 b ys):BU K (Itu K a b xs.length) (pH ds es) G:=λH1 B s m hB=>by
 have l1:=h1.length;have l2:=h2.length;have n:(pH ds es).length=xs.length:=by unfold pH;rw[List.length_zipWith];omega
 rw[n];refine⟨λi hi=>⟨hi,xs,ys,c H1 s,f H1 s,rfl,hl⟩,⟨rfl,xs,ys,c H1 s,f H1 s,rfl,hl⟩,λi x H2 hi y=>?_⟩;obtain⟨t,p,r,rfl,g,rfl,u,v⟩:=y;obtain⟨d,e,hd⟩:=h1.get (u xs (c H1 s));obtain⟨d',w,h⟩:=h2.get (v ys (f H1 s));refine⟨bE g,.tuple [d,d'],by unfold pH;rw[List.getElem?_zipWith,e,w],?_⟩;have A:t∉B:=m.new g;have j:av G (del (upd H1 t (.tup [p,r])) B):=λb o q=>by have l:=s b o q;have C:b≠t:=aI l g;rw[aN (λz=>by rw[hB b z]at q;cases q),az C];exact l
 exact iM (by rw[aN A];exact aE) (cJ (hd.same j) (jk (h.same j)))
section
variable {E:XK}{a b:Expr}
def zH:List PyData->Rs (List PyData)
 |[.tuple xs,.tuple ys]=>if ys.length=xs.length then .ok (pH xs ys) else .no
 |_=>.no
def wQ(g:Ds->Rs (List PyData)):Ds->Rs (List PyData):=λδ=>(g δ).bind zH
def EV(hm:X.mg "zip"=none)(ha:PAD X E [a,b] gs)(l:Gl X "zip")(m:starEach [a,b] X.env=[(false,eval a X.env),(false,eval b X.env)])(c:starEach [b] X.env=[(false,eval b X.env)]) :
  PID X E (.Tuple elts x1 tp) (.Call (.Name "zip" p) [a,b] [] pos) (wQ gs):=(Ha l hm ha.1 m c).imp λσ H R ⟨A,δ,Rp,o⟩=>zQ Rp o λds vs H1 e s1 R1 h1 o=>by
 unfold zH at o;split at o
 ·split at o
  ·rename_i hl;obtain⟨v,u,rfl,h,h'⟩:=HQ h1;obtain⟨p,xs,rfl,f,g⟩:=h.ofTup;obtain⟨q,ys,rfl,i,j⟩:=h'.ofTup;have l1:=g.length;have l2:=j.length;exact⟨p,q,xs,ys,rfl,SqT.of (ay _ _ f),SqT.of (ay _ _ i),by omega,o _ H1 (av.refl _) (Ci g j (by omega) (λH2 s2=>SqT.of (s2 _ _ f)) λH2 s2=>SqT.of (s2 _ _ i))⟩
  ·exact o.elim
 ·exact o.elim
end
def Dj{A:Around}{l:Addr}{xs:Array (Int×Tok)}(m:A.handled=none)(hl:s.heap.IsTuple l (intItems xs))(h0:0<xs.size)
  (q:∀(v:Value)(h':Heap)(tk:Nat),(intItems xs)[argBest (λi j=>decide (numAt xs i>numAt xs j)) (xs.size-1)]?=some v->(∀(b:Addr)(o:Obj),s.heap.get? b=some o->h'.get? b=some o)->Q v { s with heap:=h',toks:=tk }):wpAny (model prog w) A (call (.builtin "max") [.ref l]) Q E s:=by
 have f:l<s.heap.objs.size:=by obtain⟨_,g,_⟩:=hl;exact Nz g
 have hsz:(intItems xs).size=xs.size:=by simp[intItems]
 have c:A.in1.handled=none:=m;refine call_max_walk (wpAny_pyIter_tuple hl ⟨s.heap.objs.size,[s.heap.objs.size,l],[s.heap.objs.size],(intItems xs).size,_,_,λi j=>decide (numAt xs i>numAt xs j),rfl,Walks.tuple c s.heap.objs.size l (ND f) (intItems xs),⟨⟨_,NB _ rfl,rfl,rfl⟩,?_⟩,λb h=>?_,by omega,?hcmp,λv h' tk a n=>?_⟩)
 ·obtain⟨o,g,r⟩:=hl;exact⟨o,N2 _ g,r⟩
 ·have p:(s.heap.push { cls:=.type "tuple_iterator",data:=.fields #[.ref l,.int 0 0] }).objs.size=s.heap.objs.size+1:=Heap.size_push ..;simp only[N5,NN,or_false]at h;show b<(s.heap.push { cls:=.type "tuple_iterator",data:=.fields #[.ref l,.int 0 0] }).objs.size;rw[p];rcases h with z|z
  ·rw[z];exact OH _
  ·rw[z];exact Og f
 case hcmp=>exact CmpOf.ints_gt (numAt xs) λi v a=>intItems_at a
 ·rw[hsz]at a;exact q v h' tk a λb o e=>n b o (λz=>by simp only[NA]at z;rw[z]at e;exact absurd (Nz e) (OB _)) (N2 _ e)
section
variable {E:XK}{a:Expr}{es:List Expr}
def Cv(hc:X.calm=true):j8 X (.builtin "max") (λxs H Q=>∃(a:Addr)(ns:List Int)(m:Int),xs=[.ref a]/\SqT X.K H a (ns.map V.int)/\gH ns=some m/\Q (.int m) H):=by
 intro pins s σ H xs us Q I r h;obtain⟨a,ns,m,rfl,x,hm,q⟩:=h;obtain⟨u,rfl,y⟩:=vals1 r;cases y;obtain⟨f,z,p,_⟩:=I.tuple x;have hi:IntsAre f ns:=intsAre_of z;have g:0<ns.length:=by cases ns with|nil=>cases hm|cons _ _=>simp
 obtain⟨xs,n⟩:=hi.allInts.items;have c:ns=xs.toList.map (·.1):=by rw[<-hi.numsOf,<-nums_intItems,<-n]
 have hsz:0<xs.size:=by have o:=g;rw[c,N4,NZ]at o;exact o
 have l:s.heap.IsTuple a (intItems xs):=n▸p;refine Dj (I.ok.hd hc) l hsz λv h' tk A B=>?_
 obtain⟨t,rfl⟩:=intItems_at A;obtain⟨h1,h2⟩:=argBest_gt (numAt xs) (xs.size-1);have e:numAt xs (argBest (λi j=>decide (numAt xs i>numAt xs j)) (xs.size-1))=m:=by
  refine um ?_ (λb w=>?_) hm
  ·rw[c,numAt_eq];exact getD_mem (by rw[N4,NZ];omega)
  ·rw[c]at w;obtain⟨j,C,rfl⟩:=mem_getD w;rw[N4,NZ]at C;rw[<-numAt_eq];exact h2 j (by omega)
 exact⟨.int m,H,I.kept B,⟨_,by rw[<-e]⟩,q⟩
def rm:List PyData->Option PyData
 |[.tuple x]=>(eV x).bind λns=>(gH ns).map PyData.int
 |_=>none
def DQ:FnD K rm (λxs H Q=>∃(a:Addr)(ns:List Int)(m:Int),xs=[.ref a]/\SqT K H a (ns.map V.int)/\gH ns=some m/\Q (.int m) H):=λds d vs H A Q e hA h k=>by
 unfold rm at e;split at e
 ·rename_i x;obtain⟨ns,q,e⟩:=Option.bind_eq_some_iff.mp e;obtain⟨m,f,rfl⟩:=O7.mp e;obtain⟨v,rfl,g⟩:=kI h;obtain⟨p,xs,rfl,b,c⟩:=g.ofTup;rw[ee q]at c;rw[c.ofInts]at b;exact⟨p,ns,m,rfl,SqT.of (ay _ _ b),f,k _ H (av.refl _) bF⟩
 ·cases e
def F6(hc:X.calm=true)(hm:X.mg "max"=none)(ha:PAD X E (a::es) gs)(c:Gl X "max")(e:starEach (a::es) X.env=(false,eval a X.env)::starEach es X.env)(b:(backTo pos (starEach es X.env)).any (·.1)=false) :
 PD X E (.Call (.Name "max" p) (a::es) [] pos) (gF rm gs):=fY DQ ha λh=>fo (Cv hc) c hm uJ h (by decide) (by decide) e b
end
end L2
namespace RS
open PySem L2
def dw(cs:Cs):Ds->Sr :=
 (aJ (aU [] 2 (af 0))
  (aJ (λδ=>bQ (gT (g2 dNe (g2 jS (af 2) (af 1)) (gC (.int 0)))) (rY [] 2 (af 0)) 1000000 δ)
  (bp (af 2))))
def gZ(cs:Cs)(bh aW:Gf):Ds->Sr :=
 (aJ (g6 (ao aW (ae (af 0) ah)))
  (aJ (aU [] 1 (gC (.int 1)))
  (aJ (fP [] (bY (af 0)) (bO 2) (aU [] 1 (ao bh (ae (af 1) (ae (g2 dIx (af 2) (gC (.int 0))) ah)))))
  (aJ (sIf (gT (g2 dGt (af 1) (gC (.int 2000)))) (ie cs.TooLong (ae (gC (.str "the round is beyond 2000")) ah)) bj)
  (bp (af 1))))))
def cK(cs:Cs)(aK aH:Gf):Ds->Sr :=
 (aJ (aU [] 2 (gF cM (ae (af 0) ah)))
  (aJ (sIf (cOr (gm (gT (ao aK (ae (af 1) (ae (af 2) (ae (af 2) ah)))))) (gm (gT (gF oN (ae (gL (ba 3 (bY (af 1)) bo (ao aH (ae (af 3) (ae (gC (.int 0)) (ae (gC (.int 999)) ah)))) aS)) ah))))) (ie cs.NoComings (ae (gC (.str "a calendar is a tuple of a number from 0 to 999 for each errand")) ah)) bj)
  (bp (af 1))))
def dB(cs:Cs)(a:Gf):Ds->Sr :=
 (bp (gF yp (ae (gL (ba 2 (bY (af 0)) bo (g2 kJ (ao a (ae (af 2) ah)) (g2 rZ (af 1) (g2 dIx (af 2) (gC (.int 0))))) aS)) ah)))
def eS(cs:Cs)(cU cE a8 cF bg aR aW:Gf):Ds->Sr :=
 (aJ (g6 (ao aW (ae (af 0) ah)))
  (aJ (g6 (ao aR (ae (af 0) (ae (af 1) ah))))
  (aJ (g6 (ao bg (ae (af 0) (ae (af 2) ah))))
  (aJ (aU [] 3 (ao cF (ae (af 0) ah)))
  (aJ (sIf (gT (g2 dGt (ao a8 (ae (af 0) (ae (af 3) ah))) (af 3))) (bp (gC .none)) bj)
  (aJ (aU [] 4 (g2 bP (gF rm (ae (af 2) ah)) (g2 kJ (gC (.int 3)) (af 3))))
  (aJ (aU [] 5 (gL (ba 7 (wQ (ae (af 0) (ae (af 2) ah))) bo (gL (Bt (ae (af 8) (ae (af 4) (ae (g2 dIx (af 7) (gC (.int 0))) ah))))) eO)))
  (aJ (aU [] 6 (ao cE (ae (af 5) (ae (ao cU (ae (af 0) (ae (af 1) (ae (af 5) (ae (gC (.str "high")) ah))))) ah))))
  (bp (gL (ba 7 (bY (af 6)) bo (gF oj (ae (af 7) ah)) aS)))))))))))
def fk(cs:Cs):Ds->Sr :=
 (aJ (ip [1] 1 ah)
  (aJ (fP [1] (bY (af 0)) (fH [2,3,4,5]) (iI [1] 1 (gu (ae (g2 dIx (pq (ae (gC (.int 3)) (ae (gC (.int 4)) (ae (gC (.int 6)) (ae (gC (.int 8)) (ae (gC (.int 12)) ah)))))) (g2 jS (af 2) (gC (.int 5)))) (ae (gC (.int 1)) (ae (gC (.int 0)) (ae (af 5) ah)))))))
  (bp (gF eX (ae (af 1) ah)))))
def Bg(cs:Cs)(df aZ ak cf bA cz:Gf):Ds->Sr :=
 (aJ (aU [] 1 (ao cz (ae (ao bA (ae (af 0) (ae (gC (.int 14)) (ae (gC (.int 4)) (ae (gC (.int 28)) (ae (gC (.bool true)) ah)))))) ah)))
  (aJ (aU [] 2 (ao cf (ae (af 0) (ae (gC (.int 0)) (ae (gF cM (ae (af 1) ah)) ah)))))
  (aJ (aU [] 3 (gF eX (ae (gL (ba 8 (fG (ae (gF cM (ae (af 1) ah)) ah)) bo (ao ak (ae (af 0) (ae (g2 bP (gC (.int 5)) (af 8)) (ae (gC (.int 20)) ah)))) aS)) ah)))
  (aJ (aU [] 4 (ao aZ (ae (af 1) (ae (af 2) (ae (af 3) ah)))))
  (aJ (aU [] 5 (ao ak (ae (af 0) (ae (gC (.int 9)) (ae (gC (.int 40)) ah)))))
  (aJ (sIf (gT (g2 dNe (ao aZ (ae (af 1) (ae (af 2) (ae (gF eX (ae (gL (ba 8 (bY (af 3)) bo (g2 bP (af 8) (af 5)) aS)) ah)) ah)))) (af 4))) (bp (gC (.bool false))) bj)
  (aJ (sIf (gT (g1 lj (af 4))) (bp (gC (.bool true))) bj)
  (aJ (fP [] (fG (ae (gF cM (ae (af 1) ah)) ah)) (bO 6) (aJ (aU [] 7 (ao df (ae (af 1) (ae (af 2) (ae (af 6) ah)))))
  (sIf (CT (gT (g1 jw (af 7))) (gT (g2 dGt (g2 dIx (af 4) (af 6)) (af 7)))) (bp (gC (.bool false))) bj)))
  (bp (gC (.bool true)))))))))))
end RS
set_option maxHeartbeats 1000000
namespace RS
open PySem L2
variable {f:Int}
def Cj{P:Nat->Prop}:∀{j:Nat},P j->∃J,J<=j/\P J/\∀i,i<J->¬ P i:=by
 intro j
 induction j using Nat.strongRecOn with
 |_ j ih =>
  intro h;by_cases z:∃i,i<j/\P i
  ·obtain⟨i,hi,a⟩:=z;obtain⟨J,h1,h2⟩:=ih i hi a;exact⟨J,by omega,h2⟩
  ·exact⟨j,N6 _,h,λi hi a=>z ⟨i,hi,a⟩⟩
def bh(cs:Cs):Gf:=gfG 2 1 (dw cs)
def nQ(cs:Cs):LLq (dw cs) 2 1 (bh cs):=gA
theorem AV{n m:Int}(hm:0<m){J:Nat}(c:(n*J) % m=0)(low:∀j:Nat,1<=j->j<J->(n*j) % m≠0):∀(d j fuel:Nat),1<=j->j+d=J->d<fuel ->
  bQ (gT (g2 dNe (g2 jS (af 2) (af 1)) (gC (.int 0)))) (rY [] 2 (af 0)) fuel [some (.int n),some (.int m),some (.int (n*j))]=.nx [some (.int n),some (.int m),some (.int (n*J))]
 |d,j,0,_,_,h=>absurd h (Nat.not_lt_zero _)
 |d,j,fuel+1,h1,h2,h3=>by
  have e:gT (g2 dNe (g2 jS (af 2) (af 1)) (gC (.int 0))) [some (.int n),some (.int m),some (.int (n*j))]=.ok (!((n*j) % m==0)):=by simp only[fB,cO,au,aw,dY,Rs.ag,IE,if_pos hm,Rs.aj,MA,bH]
  unfold bQ;rw[e,ax];cases d with
  |zero =>
   have:j=J:=by omega
   subst this;rw[c];rfl
  |succ d =>
   have f:((n*j) % m==0)=false:=by rw[beq_eq_false_iff_ne];exact low j h1 (by omega)
   have g:rY [] 2 (af 0) [some (.int n),some (.int m),some (.int (n*j))]=.nx [some (.int n),some (.int m),some (.int (n*(j+1:Nat)))]:=by rw[AY (a:=n*j) (b:=n) rfl rfl];show Sr.nx [some (.int n),some (.int m),some (.int (n*j+n))]=_;rw[show n*((j+1:Nat):Int)=n*j+n by rw[Int.natCast_add,Int.mul_add];simp]
   rw[f];simp only[Bool.not_false,if_true,g];exact AV hm c low d (j+1) fuel (by omega) (by omega) (by omega)
def Mc{m:Int}(hn:0<n)(hm:0<m)(i:n ∣ 24)(f:m ∣ 24):∃L,bh cs [.int n,.int m]=.ok (.int L)/\0<L/\L ∣ 24:=by
 have m24:m<=24:=Int.le_of_dvd (by decide) f;obtain⟨J,hJm,⟨hJ1,g⟩,low⟩:=Cj (P:=λj=>1<=j/\(n*j) % m=0) (j:=m.toNat) ⟨by omega,by rw[show ((m.toNat:Nat):Int)=m by omega];exact Int.mul_emod_left n m⟩;refine⟨n*J,?_,Int.mul_pos hn (by omega),?_⟩
 ·show bf (dw cs [some (.int n),some (.int m),none])=_;have l:aU [] 2 (af 0) [some (.int n),some (.int m),none]=.nx [some (.int n),some (.int m),some (.int (n*(1:Nat)))]:=by refine (eP (d:=.int n) (by decide:2<3) rfl).trans ?_;rw[show n*((1:Nat):Int)=n by simp];rfl
  have s2:=AV hm g (λj h1 h2 c=>low j h2 ⟨h1,c⟩) (J-1) 1 1000000 (N6 _) (by omega) (by omega);unfold dw;rw[bN l,bN s2];rfl
 ·obtain⟨q,h⟩:=i;have hq0:0<q:=by
   by_cases z:0<q
   ·exact z
   ·exfalso;have:=Int.mul_nonpos_of_nonneg_of_nonpos (a:=n) (b:=q) (by omega) (by omega);omega
  have e:q % J=0:=by
   have h1:=Ox q (b:=(J:Int)) (by omega);have h2:=Oz q (b:=(J:Int)) (by omega);have c:=Int.emod_add_mul_ediv q J;by_cases z:q % J=0
   ·exact z
   ·exfalso;obtain⟨b,e⟩:∃b:Nat,q % J=(b:Int):=⟨(q % J).toNat,by omega⟩
    refine low b (by omega) ⟨by omega,?_⟩;have e1:n*(b:Int)=24-n*J*(q / J):=by rw[h,<-e,Int.mul_assoc,<-Int.mul_sub];congr 1;omega
    rw[e1];have d1:m ∣ n*J:=Int.dvd_of_emod_eq_zero g;exact Int.emod_eq_zero_of_dvd (Int.dvd_sub f (Int.dvd_trans d1 (Int.dvd_mul_right _ _)))
  refine⟨q / J,?_⟩;have c:=Int.emod_add_mul_ediv q J;rw[e,Int.zero_add]at c;rw[Int.mul_assoc,c,h]
def cF(cs:Cs):Gf:=gfG 1 2 (gZ cs (bh cs) (aW cs))
def yG(cs:Cs):LLq (gZ cs (bh cs) (aW cs)) 1 2 (cF cs):=gA
theorem AR{cs:Cs}{E:PyData}:∀(es:List Er)(T:Int)(x2:Option PyData),(∀e∈es,0<e.every/\e.every ∣ 24)->0<T->T ∣ 24->∃f g,0<f/\f ∣ 24 /\
  forL (bO 2) (aU [] 1 (ao (bh cs) (ae (af 1) (ae (g2 dIx (af 2) (gC (.int 0))) ah)))) (es.map Er.d) [some E,some (.int T),x2]=.nx [some E,some (.int f),g]
 |[],T,x2,_,h1,h2=>⟨T,x2,h1,h2,rfl⟩
 |e::r,T,x2,h,h1,h2=>by obtain⟨g1,i⟩:=h e N3;obtain⟨L,j,l1,l2⟩:=Mc (cs:=cs) h1 g1 h2 i;obtain⟨f,g,a,b,c⟩:=AR (cs:=cs) (E:=E) r L (some e.d) (λx l=>h x (N0 _ l)) l1 l2;refine⟨f,g,a,b,?_⟩;rw[N1,kC (δ1:=[some E,some (.int T),some e.d]) rfl (eP (d:=.int L) (by decide:1<3) (b8 (ds:=[.int T,.int e.every]) rfl j))];exact c
def ER(ok:En es)(h:∀e∈es,e.every ∣ 24):∃T,cF cs [ar es]=.ok (.int T)/\0<T/\T<=24:=by
 obtain⟨T,a,h1,h2,e⟩:=AR (cs:=cs) (E:=ar es) es 1 none (λe c=>⟨by have:=(ok.ok e c).e1;omega,h e c⟩) (by decide) (Int.one_dvd _);have b:T<=24:=Int.le_of_dvd (by decide) h2;refine⟨T,?_,h1,b⟩;show bf (gZ cs (bh cs) (aW cs) [some (ar es),none,none])=_;have f:g6 (ao (aW cs) (ae (af 0) ah)) [some (ar es),none,none]=.nx [some (ar es),none,none]:=by rw[mz,b8 (ds:=[ar es]) rfl (iL cs ok.l1 ok.l6 ok.ok)];rfl
 have g:aU [] 1 (gC (.int 1)) [some (ar es),none,none]=.nx [some (ar es),some (.int 1),none]:=eP (by decide:1<3) rfl;have s2:fP [] (bY (af 0)) (bO 2) (aU [] 1 (ao (bh cs) (ae (af 1) (ae (g2 dIx (af 2) (gC (.int 0))) ah)))) [some (ar es),some (.int 1),none]=.nx [some (ar es),some (.int T),a]:=(uz (ds:=es.map Er.d) rfl).trans e;have i:sIf (gT (g2 dGt (af 1) (gC (.int 2000)))) (ie cs.TooLong (ae (gC (.str "the round is beyond 2000")) ah)) bj [some (ar es),some (.int T),a]=.nx [some (ar es),some (.int T),a]:=by simp only[dP,fB,cO,au,aw,dY,Rs.ag,E8,Rs.aj,bH,ax];rw[decide_eq_false (by omega)];rfl
 unfold gZ;rw[bN f,bN g,bN s2,bN i];rfl
def bg(cs:Cs):Gf:=gfG 2 1 (cK cs aK aH)
def k8(cs:Cs):LLq (cK cs aK aH) 2 1 (bg cs):=gA
def KO(l6:es.length<=6)(hl:cal.length=es.length)(h:∀c∈cal,0<=c/\c<=999):bg cs [ar es,ai cal]=.ok (ai cal):=by
 show bf (cK cs aK aH [some (ar es),some (ai cal),none])=_;have a:aU [] 2 (gF cM (ae (af 0) ah)) [some (ar es),some (ai cal),none]=.nx [some (ar es),some (ai cal),some (.int (es.length:Int))]:=by refine eP (by decide:2<3) ?_;rw[ej];simp only[ig,aA,aM,au,Rs.ag,Ig,Rs.aj]
 have b:ao aK (ae (af 1) (ae (af 2) (ae (af 2) ah))) [some (ar es),some (ai cal),some (.int (es.length:Int))]=.ok (.bool true):=by refine b8 (ds:=[ai cal,.int (es.length:Int),.int (es.length:Int)]) rfl ?_;rw[CV (lz cal)];unfold bV ai;simp[hl]
 have e:ba 3 (bY (af 1)) bo (ao aH (ae (af 3) (ae (gC (.int 0)) (ae (gC (.int 999)) ah)))) aS [some (ar es),some (ai cal),some (.int (es.length:Int))]=.ok ((cal.map PyData.int).map λ_=>.bool true):=by
  refine cH rfl rfl (by rw[N4];omega) λd hd=>?_
  obtain⟨c,hc,rfl⟩:=N9.mp hd;refine b8 (ds:=[.int c,.int 0,.int 999]) rfl ?_;rw[vV rfl];unfold isWhole;simp[h c hc]
 have f:=km (λ_:PyData=>true) (cal.map PyData.int);have s2:sIf (cOr (gm (gT (ao aK (ae (af 1) (ae (af 2) (ae (af 2) ah)))))) (gm (gT (gF oN (ae (gL (ba 3 (bY (af 1)) bo (ao aH (ae (af 3) (ae (gC (.int 0)) (ae (gC (.int 999)) ah)))) aS)) ah))))) (ie cs.NoComings (ae (gC (.str "a calendar is a tuple of a number from 0 to 999 for each errand")) ah)) bj [some (ar es),some (ai cal),some (.int (es.length:Int))]=.nx [some (ar es),some (ai cal),some (.int (es.length:Int))]:=by rw[dP,Lw,uZ,fB,b];simp only[Rs.ag,bH,Bool.not_true,NS,if_false,uZ,fB,ig,aA,aM,kX,e,f,Rs.aj];simp
 unfold cK;rw[bN a,bN s2];rfl
def a8(cs:Cs):Gf:=gfG 2 0 (dB cs bB)
def nK(cs:Cs):LLq (dB cs bB) 2 0 (a8 cs):=gA
def C7{t:Int}(hl:es.length<=6)(ok:∀e∈es,e.Ok):∃W,a8 cs [ar es,.int t]=.ok (.int W):=by
 have hc:ba 2 (bY (af 0)) bo (g2 kJ (ao bB (ae (af 2) ah)) (g2 rZ (af 1) (g2 dIx (af 2) (gC (.int 0))))) aS [some (ar es),some (.int t)]=.ok ((es.map Er.d).map λd=>.int ((deE d).work*(t / (deE d).every))):=by
  refine cH rfl rfl (by rw[N4];omega) λd hd=>?_
  obtain⟨e,c,rfl⟩:=N9.mp hd;have oe:=ok e c;have e1:=oe.e1;have e2:=oe.e2;have hw:0<=e.work/\e.work<=1000:=by
   have h1:=oZ λp f=>(oe.pl p f).2.1
   have h2:=oe.p2;have b:=oe.wk.work1;refine⟨by omega,?_⟩;show c9 e.parts<=1000;omega
  have g:dIx e.d (.int 0)=some (.int e.every):=rfl;have h:=fq oe.sh;have a:rZ (.int t) (.int e.every)=some (.int (t / e.every)):=by rw[D4,if_pos ⟨by omega,by omega⟩]
  have hm:kJ (.int e.work) (.int (t / e.every))=some (.int (e.work*(t / e.every))):=pG (by omega) (by omega);rw[Au];simp only[Oe,O9,cO,bI,aA,aM,dY,au,aw,Rs.ag,h,g,Rs.aj,a,hm]
 have b:=wM (λd=>(deE d).work*(t / (deE d).every)) (es.map Er.d);refine⟨((es.map Er.d).map λd=>(deE d).work*(t / (deE d).every)).sum,?_⟩;show bf (dB cs bB [some (ar es),some (.int t)])=_;unfold dB;simp only[bU,ig,aA,aM,kX,hc,Rs.ag,b,Rs.aj,ax,a9]
def jI(e:Er)(f en:Int):Nat:=kl f en e.every
def lR(e:Er)(f en:Int):List Int:=(List.range (jI e f en)).map λ(k:Nat)=>f+(k:Int)*e.every
def d8(es:List Er)(cal:List Int)(en:Int):List (List Int):=List.zipWith (λe f=>lR e f en) es cal
def va{c:Int}(hc:0<c):Builtin.Range.rangeSize f en c=if f<en then (en-f-1) / c+1 else 0:=by unfold Builtin.Range.rangeSize;rw[if_pos (by omega)]
def Hz(e:Er)(f en m:Int)(h:0<e.every):jI e (f+m) (en+m)=jI e f en:=by
 unfold jI kl;rw[va h,va h,show en+m-(f+m)-1=en-f-1 by omega];by_cases z:f<en
 ·rw[if_pos z,if_pos (by omega)]
 ·rw[if_neg z,if_neg (by omega)]
def Ii(e:Er)(f en m:Int)(h:0<e.every):lR e (f+m) (en+m)=(lR e f en).map (· + m):=by
 unfold lR;rw[Hz e f en m h,NG];refine NI λk _=>?_
 show f+m+(k:Int)*e.every=f+(k:Int)*e.every+m;omega
def Dk(h:∀e∈es,0<e.every)(cal:List Int)(en m:Int):d8 es (cal.map (· + m)) (en+m)=(d8 es cal en).map (·.map (· + m)):=by
 unfold d8
 induction es generalizing cal with
 |nil=>rfl
 |cons e r ih =>
  cases cal with
  |nil=>rfl
  |cons f q =>rw[N1,P0,P0,N1,Ii e f en m (h e N3),ih (λx a=>h x (N0 _ a))]
def D7(e3:3<=e.every)(h0:0<=f)(h1:f<en)(h2:en<=150):1<=jI e f en/\jI e f en<=50/\f+(jI e f en:Int)*e.every-e.every<en:=by
 have e1:(jI e f en:Int)=(en-f-1) / e.every+1:=by unfold jI kl;rw[va (by omega),if_pos h1];have:=ON (a:=en-f-1) (b:=e.every) (by omega) (by omega);omega
 have h3:=ON (a:=en-f-1) (b:=e.every) (by omega) (by omega);have h4:(en-f-1) / e.every<50:=Int.ediv_lt_of_lt_mul (by omega) (by omega);have h5:=Int.ediv_mul_le (en-f-1) (b:=e.every) (by omega);refine⟨by omega,by omega,?_⟩;rw[e1,OS];omega
theorem Ak{ev:Int}(h:0<ev):∀(n:Nat)(f m:Int),m<=f->hvM ev 0 m ((List.range n).map λ(k:Nat)=>f+(k:Int)*ev)=true
 |0,_,_,_=>rfl
 |n+1,f,m,hm=>by
  rw[List.range_succ_eq_map,N1,NG];unfold hvM;have a:f+((0:Nat):Int)*ev=f:=by simp
  rw[a];have e1:(if f-0>m then f-0 else m)=f:=by split <;> omega
  rw[e1,if_neg (by omega)];have:=Ak h n (f+ev) (f+ev) (Oj _);have e2:((λ(k:Nat)=>f+(k:Int)*ev)∘Nat.succ)=λ(k:Nat)=>f+ev+(k:Int)*ev:=by funext k;show f+((k+1:Nat):Int)*ev=f+ev+(k:Int)*ev;rw[Int.natCast_add,OS];simp;omega
  rw[e2];exact this
def Gm(i:3<=e.every)(hl:e.late=0)(j:0<=f)(h1:f<en)(h2:en<=150):xF (lR e f en)/\hvE e (lR e f en)=true/\lR e f en≠[]:=by
 obtain⟨n1,n2,n3⟩:=D7 i j h1 h2;have hlen:(lR e f en).length=jI e f en:=by unfold lR;simp
 have g:∀c∈lR e f en,0<=c/\c<=9999:=λc hc=>by obtain⟨k,h,rfl⟩:=N9.mp hc;have h:=OK.mp h;have:=NU (a:=(k:Int)) (b:=(jI e f en:Int)-1) (c:=e.every) (by omega) (by omega);have hz:0<=(k:Int)*e.every:=Pm (by omega) (by omega);rw[Int.sub_mul]at this;omega
 refine⟨⟨by omega,λc hc=>(g c hc).1,λc hc=>(g c hc).2⟩,?_,λz=>by rw[z]at hlen;simp at hlen;omega⟩;unfold hvE lR;rw[hl];exact Ak (by omega) _ f _ (by omega)
def wg(b:∀e∈es,3<=e.every/\e.late=0)(hl:cal.length=es.length)(hc:∀c∈cal,0<=c/\c<en)(h2:en<=150):Cms es (d8 es cal en)/\∀r∈d8 es cal en,r≠[]:=by
 unfold d8
 induction es generalizing cal with
 |nil=>exact⟨.nil,λr h=>by cases h⟩
 |cons e r ih =>
  cases cal with
  |nil=>cases hl
  |cons f q =>
   obtain⟨a1,a2⟩:=b e N3;obtain⟨g,i⟩:=hc f N3;obtain⟨j,l,m⟩:=Gm a1 a2 g i h2;obtain⟨d1,d2⟩:=ih (cal:=q) (λx n=>b x (N0 _ n)) (by simpa using hl) (λc h=>hc c (N0 _ h));refine⟨.cons j l d1,λr a=>?_⟩;rcases N5.mp a with rfl|a
   ·exact m
   ·exact d2 r a
def zV(b:3<=e.every)(e60:e.every<=60)(c:0<=f)(h1:f<en)(h2:en<=150):mr [.int f,.int en,.int e.every]=.ok ((lR e f en).map PyData.int):=by
 obtain⟨n1,n2,n3⟩:=D7 b c h1 h2;have g:Builtin.Range.rangeSize f en e.every=(jI e f en:Int):=by have:=mJ f en e.every;unfold jI kl;omega
 have a:Builtin.Range.small f en e.every=true:=by
  unfold Builtin.Range.small;rw[g];have:=OX (jI e f en);have n2:(jI e f en:Int)<=50:=by omega
  generalize (jI e f en:Int)=z at *;simp[Builtin.Range.rangeFitsLong];refine⟨by omega,.inr ?_⟩;rw[if_pos (by omega)];omega
 have h:nh f en e.every=true:=by unfold nh;rw[a,OW];exact decide_eq_true (by omega)
 unfold mr;have hn:kl f en e.every<=1000000:=by show jI e f en<=_;omega
 simp only[h,hn,true_and,if_true];unfold pW lR jI;rw[NG];rfl
theorem xH{elt:Ds->Rs PyData}{δ:Ds}{g:Er->Int->PyData}:∀(es:List Er)(cal:List Int),(∀e∈es,∀f∈cal,elt (δ++[some e.d,some (.int f)])=.ok (g e f))->eR bo elt eO δ (pH (es.map Er.d) (cal.map PyData.int))=.ok (List.zipWith g es cal)
 |[],_,_=>by unfold pH;rfl
 |_::_,[],_=>by unfold pH;rfl
 |e::r,f::q,h=>by
  have c:=xH r q λa ha b i=>h a (N0 _ ha) b (N0 _ i)
  have j:=h e N3 f N3;unfold pH at c ⊢;rw[N1,N1,P0,P0];unfold eR;simp only[eO,bo,Rs.dj,Rs.ag,if_true,j,c]
def aZ(cs:Cs):Gf:=gfG 3 4 (eS cs (cU cs) (cE cs) (a8 cs) (cF cs) (bg cs) (aR cs) (aW cs))
def si(cs:Cs):LLq (eS cs (cU cs) (cE cs) (a8 cs) (cF cs) (bg cs) (aR cs) (aW cs)) 3 4 (aZ cs):=gA
def jY(l:PTl)(n:Nat)(row:List Int):List Int:=row.mapIdx λk c=>(dg l ((n:Int),(k:Int))).getD 0-c
def EL(l:PTl)(n:Nat)(row:List Int):row.mapIdx (vf l n)=(jY l n row).map PyData.int:=by exact OM (by simp[jY]) λi h1 h2=>by simp[vf,jY]
def rf(l:PTl)(n:Nat)(row:List Int):(jY l n row).length=row.length:=by simp[jY]
def mx(l:List Int):Int:=(gH l).getD 0
def bcL(l:PTl)(rows:List (List Int)):List Int:=rows.mapIdx λn row=>mx (jY l n row)
section
def IK(ok:En es)(u:cC es.length rs)(v:∀e∈es,3<=e.every/\e.late=0)(h24:∀e∈es,e.every ∣ 24){W M:Int}(D:cF cs [ar es]=.ok (.int T))(T0:0<T)(T24:T<=24)(E:a8 cs [ar es,.int T]=.ok (.int W))
  (hl:cal.length=es.length) (hc:∀c∈cal,0<=c/\c<=M) (w:gH cal=some M) (M0:M<=60) :
  (W>T->aZ cs [ar es,ai rs,ai cal]=.ok .none) /\
  (¬ W>T->∃t,jJ es rs (d8 es cal (M+3*T)) "high"=some t/\aZ cs [ar es,ai rs,ai cal]=.ok (.list ((bcL (endsF 0 t []) (d8 es cal (M+3*T))).map PyData.int))):=by
 have sh:aZ cs [ar es,ai rs,ai cal]=bf (eS cs (cU cs) (cE cs) (a8 cs) (cF cs) (bg cs) (aR cs) (aW cs) [some (ar es),some (ai rs),some (ai cal),none,none,none,none]):=rfl;rw[sh];unfold eS;have F:g6 (ao (aW cs) (ae (af 0) ah)) [some (ar es),some (ai rs),some (ai cal),none,none,none,none]=.nx [some (ar es),some (ai rs),some (ai cal),none,none,none,none]:=by rw[mz,b8 (ds:=[ar es]) rfl (iL cs ok.l1 ok.l6 ok.ok)];rfl
 have G:g6 (ao (aR cs) (ae (af 0) (ae (af 1) ah))) [some (ar es),some (ai rs),some (ai cal),none,none,none,none]=.nx [some (ar es),some (ai rs),some (ai cal),none,none,none,none]:=by rw[mz,b8 (ds:=[ar es,ai rs]) rfl (gD cs ok.l6 u)];rfl
 have s2:g6 (ao (bg cs) (ae (af 0) (ae (af 2) ah))) [some (ar es),some (ai rs),some (ai cal),none,none,none,none]=.nx [some (ar es),some (ai rs),some (ai cal),none,none,none,none]:=by rw[mz,b8 (ds:=[ar es,ai cal]) rfl (KO ok.l6 hl λc h=>⟨(hc c h).1,by have:=(hc c h).2;omega⟩)];rfl
 have H:aU [] 3 (ao (cF cs) (ae (af 0) ah)) [some (ar es),some (ai rs),some (ai cal),none,none,none,none]=.nx [some (ar es),some (ai rs),some (ai cal),some (.int T),none,none,none]:=eP (by decide:3<7) (b8 rfl D);rw[bN F,bN G,bN s2,bN H];have z:gT (g2 dGt (ao (a8 cs) (ae (af 0) (ae (af 3) ah))) (af 3)) [some (ar es),some (ai rs),some (ai cal),some (.int T),none,none,none]=.ok (decide (T<W)):=by rw[fB,nX (x:=.int W) (y:=.int T) (b8 (ds:=[ar es,.int T]) rfl E) rfl (E8 W T)];rfl
 constructor
 ·intro i;rw[aX,dP,z,decide_eq_true i];rfl
 ·intro i;have I:sIf (gT (g2 dGt (ao (a8 cs) (ae (af 0) (ae (af 3) ah))) (af 3))) (bp (gC .none)) bj [some (ar es),some (ai rs),some (ai cal),some (.int T),none,none,none]=.nx [some (ar es),some (ai rs),some (ai cal),some (.int T),none,none,none]:=by rw[dP,z,decide_eq_false i];rfl
  rw[bN I];have M1:0<=M:=by
   cases cal with
   |nil=>cases w
   |cons c q=>have:=hc c N3;omega
  have J:aU [] 4 (g2 bP (gF rm (ae (af 2) ah)) (g2 kJ (gC (.int 3)) (af 3))) [some (ar es),some (ai rs),some (ai cal),some (.int T),none,none,none]=.nx [some (ar es),some (ai rs),some (ai cal),some (.int T),some (.int (M+3*T)),none,none]:=by
   refine eP (by decide:4<7) (nX (x:=.int M) (y:=.int (3*T)) ?_ (nX (x:=.int 3) (y:=.int T) rfl rfl (pG (by decide) (by decide))) rfl);have:rm [ai cal]=some (.int M):=by show (eV (cal.map PyData.int)).bind (λns=>(gH ns).map PyData.int)=_;rw[eJ];show (gH cal).map PyData.int=_;rw[w];rfl
   rw[ej];show (Rs.eN (rm [ai cal]))=_;rw[this];rfl
  rw[bN J];generalize hen:M+3*T=en;have j:en<=150:=by omega
  have a:∀c∈cal,0<=c/\c<en:=λc h=>by have:=hc c h;omega
  obtain⟨C,l⟩:=wg (cal:=cal) v hl a j;have R:Ran es rs (d8 es cal en) "high":=⟨ok,u,C.len,⟨vN⟩⟩
  obtain⟨t,p⟩:=Ef R C;refine⟨t,p,?_⟩;generalize hrows:d8 es cal en=rows at *;have K:aU [] 5 (gL (ba 7 (wQ (ae (af 0) (ae (af 2) ah))) bo (gL (Bt (ae (af 8) (ae (af 4) (ae (g2 dIx (af 7) (gC (.int 0))) ah))))) eO)) [some (ar es),some (ai rs),some (ai cal),some (.int T),some (.int en),none,none]=.nx [some (ar es),some (ai rs),some (ai cal),some (.int T),some (.int en),some (cmD rows),none]:=by
   refine eP (by decide:5<7) ?_;rw[ej,kX];have L:wQ (ae (af 0) (ae (af 2) ah)) [some (ar es),some (ai rs),some (ai cal),some (.int T),some (.int en),none,none]=.ok (pH (es.map Er.d) (cal.map PyData.int)):=by show zH [.tuple (es.map Er.d),.tuple (cal.map PyData.int)]=_;exact if_pos (by simp[hl])
   have i:ba 7 (wQ (ae (af 0) (ae (af 2) ah))) bo (gL (Bt (ae (af 8) (ae (af 4) (ae (g2 dIx (af 7) (gC (.int 0))) ah))))) eO [some (ar es),some (ai rs),some (ai cal),some (.int T),some (.int en),none,none]=.ok (rows.map fi):=by
    refine (if_pos (show List.length [some (ar es),some (ai rs),some (ai cal),some (PyData.int T),some (PyData.int en),none,none]=7 from rfl)).trans ?_;rw[L,Rs.ag,if_pos (by unfold pH;rw[List.length_zipWith,N4,N4];have:=ok.l6;omega)];rw[xH (g:=λe f=>fi (lR e f en)) es cal λe A f B=>by have N:=zV (v e A).1 (ok.ok e A).e2 (a f B).1 (a f B).2 j;have O:Bt (ae (af 8) (ae (af 4) (ae (g2 dIx (af 7) (gC (.int 0))) ah))) ([some (ar es),some (ai rs),some (ai cal),some (.int T),some (.int en),none,none]++[some e.d,some (.int f)])=mr [.int f,.int en,.int e.every]:=rfl;rw[kX,O,N];rfl]
    rw[<-hrows];unfold d8;rw[List.map_zipWith]
   rw[i];rfl
  rw[bN K];obtain⟨P,Q,S,_⟩:=ur R C p;have m:∀r∈rows,r.length<=1000:=λr h=>by have:=(C.xS r h).few;omega
  have s:=rR (cs:=cs) (rows:=rows) (t:=t) (by have:=R.ln;have:=ok.l6;omega) m P Q S;have U:aU [] 6 (ao (cE cs) (ae (af 5) (ae (ao (cU cs) (ae (af 0) (ae (af 1) (ae (af 5) (ae (gC (.str "high")) ah))))) ah))) [some (ar es),some (ai rs),some (ai cal),some (.int T),some (.int en),some (cmD rows),none]=.nx [some (ar es),some (ai rs),some (ai cal),some (.int T),some (.int en),some (cmD rows),some (.list (rows.mapIdx λn row=>.list (row.mapIdx (vf (endsF 0 t []) n))))]:=by refine eP (by decide:6<7) (b8 (ds:=[cmD rows,.list t]) ?_ s);have e1:ao (cU cs) (ae (af 0) (ae (af 1) (ae (af 5) (ae (gC (.str "high")) ah)))) [some (ar es),some (ai rs),some (ai cal),some (.int T),some (.int en),some (cmD rows),none]=.ok (.list t):=b8 (ds:=[ar es,ai rs,cmD rows,.str "high"]) rfl (lY R p);rw[ej,aA,show af 5 [some (ar es),some (ai rs),some (ai cal),some (.int T),some (.int en),some (cmD rows),none]=.ok (cmD rows) from rfl,Rs.ag,aA,e1,Rs.ag,aM];rfl
  rw[bN U];have o:ba 7 (bY (af 6)) bo (gF oj (ae (af 7) ah)) aS [some (ar es),some (ai rs),some (ai cal),some (.int T),some (.int en),some (cmD rows),some (.list (rows.mapIdx λn row=>.list (row.mapIdx (vf (endsF 0 t []) n))))]=.ok ((bcL (endsF 0 t []) rows).map PyData.int):=by
   refine (cH (f:=λd=>(oj [d]).getD .none) rfl rfl (by rw[List.length_mapIdx];have:=R.ln;have:=ok.l6;omega) λd hd=>?_).trans ?_
   ·obtain⟨n,hn,e⟩:=Ow hd;rw[OV]at e;have b:n<rows.length:=by simpa using hn
    have hm:oj [d]=some (.int (mx (jY (endsF 0 t []) n rows[n]))):=by
     rw[<-e,EL];show (eV ((jY (endsF 0 t []) n rows[n]).map PyData.int)).bind (λns=>(gH ns).map PyData.int)=_;rw[eJ];show (gH (jY (endsF 0 t []) n rows[n])).map PyData.int=_;unfold mx;cases q:jY (endsF 0 t []) n rows[n] with
     |nil =>have:=rf (endsF 0 t []) n rows[n];rw[q]at this;exact absurd (Ol.mp this.symm) (l _ (NQ b))
     |cons x r=>rfl
    show Rs.eN (oj [d])=_;rw[hm];rfl
   ·congr 1;unfold bcL;exact OM (by simp) λn h1 h2=>by
     have b:n<rows.length:=by simpa using h1
     simp only[PZ,OV];rw[EL];show ((eV ((jY (endsF 0 t []) n rows[n]).map PyData.int)).bind (λns=>(gH ns).map PyData.int)).getD .none=_;rw[eJ];show ((gH (jY (endsF 0 t []) n rows[n])).map PyData.int).getD .none=_;unfold mx;cases q:jY (endsF 0 t []) n rows[n] with
     |nil =>have:=rf (endsF 0 t []) n rows[n];rw[q]at this;exact absurd (Ol.mp this.symm) (l _ (NQ b))
     |cons x r=>rfl
  rw[bU,kX,o];rfl
end
def evS(n:Int):Int:=([3,4,6,8,12]:List Int).getD (n % 5).toNat 3
def Er.strict(e:Er):Er:=⟨evS e.every,1,0,e.parts⟩
def ID(n:Int):(evS n=3\/evS n=4\/evS n=6\/evS n=8\/evS n=12)/\dIx (.list [.int 3,.int 4,.int 6,.int 8,.int 12]) (.int (n % 5))=some (.int (evS n)):=by
 unfold evS;have h1:=Ox n (b:=5) (by decide);have h2:=Oz n (b:=5) (by decide);generalize n % 5=r at *;have:r=0\/r=1\/r=2\/r=3\/r=4:=by omega
 rcases this with rfl|rfl|rfl|rfl|rfl <;> exact⟨by decide,rfl⟩
def CD(ok:e.Ok):e.strict.Ok/\3<=e.strict.every/\e.strict.late=0/\e.strict.every ∣ 24:=by
 have h:=(ID e.every).1;have e1:e.strict.every=evS e.every:=rfl;refine⟨⟨?_,?_,?_,?_,?_,?_,?_,ok.p1,ok.p2,ok.pl,ok.la⟩,by omega,rfl,?_⟩
 ·omega
 ·omega
 ·exact Oj 0
 ·show (0:Int)<=20;decide
 ·show (0:Int)<evS e.every;omega
 ·exact Oj 1
 ·show (1:Int)<=evS e.every-0;omega
 ·rw[e1];rcases h with h|h|h|h|h <;> (rw[h];decide)
def cz(cs:Cs):Gf:=gfG 1 5 (fk cs)
def u4(cs:Cs):LLq (fk cs) 1 5 (cz cs):=gA
abbrev Kr:Ds->Rs PyData:=gu (ae (g2 dIx (pq (ae (gC (.int 3)) (ae (gC (.int 4)) (ae (gC (.int 6)) (ae (gC (.int 8)) (ae (gC (.int 12)) ah)))))) (g2 jS (af 2) (gC (.int 5)))) (ae (gC (.int 1)) (ae (gC (.int 0)) (ae (af 5) ah))))
def FY:Ds->Sr:=iI [1] 1 Kr
theorem Mo{E:PyData}:∀(es:List Er)(acc:List PyData)(x2 x3 x4 a:Option PyData),acc.length+es.length<=1000->∃b c f i,forL (fH [2,3,4,5]) FY (es.map Er.d) [some E,some (.list acc),x2,x3,x4,a]=.nx [some E,some (.list (acc++es.map λe=>e.strict.d)),b,c,f,i]
 |[],acc,x2,x3,x4,a,_=>⟨x2,x3,x4,a,by rw[Oq,Oq,Ob];rfl⟩
 |e::r,acc,x2,x3,x4,a,h=>by
  rw[NJ]at h;have j:FY [some E,some (.list acc),some (.int e.every),some (.int e.due),some (.int e.late),some (.tuple (e.parts.map aQ))]=.nx [some E,some (.list (acc++[e.strict.d])),some (.int e.every),some (.int e.due),some (.int e.late),some (.tuple (e.parts.map aQ))]:=by
   have g:Kr (mask [1] [some E,some (.list acc),some (.int e.every),some (.int e.due),some (.int e.late),some (.tuple (e.parts.map aQ))])=.ok e.strict.d:=by
    show gu (ae (g2 dIx (pq (ae (gC (.int 3)) (ae (gC (.int 4)) (ae (gC (.int 6)) (ae (gC (.int 8)) (ae (gC (.int 12)) ah)))))) (g2 jS (af 2) (gC (.int 5)))) (ae (gC (.int 1)) (ae (gC (.int 0)) (ae (af 5) ah)))) [some E,none,some (.int e.every),some (.int e.due),some (.int e.late),some (.tuple (e.parts.map aQ))]=_;have h1:g2 dIx (pq (ae (gC (.int 3)) (ae (gC (.int 4)) (ae (gC (.int 6)) (ae (gC (.int 8)) (ae (gC (.int 12)) ah)))))) (g2 jS (af 2) (gC (.int 5))) [some E,none,some (.int e.every),some (.int e.due),some (.int e.late),some (.tuple (e.parts.map aQ))]=.ok (.int (evS e.every)) :=
     nX (x:=.list [.int 3,.int 4,.int 6,.int 8,.int 12]) (y:=.int (e.every % 5)) rfl rfl (ID e.every).2
    rw[k7,aA,h1];rfl
   show ofR (Kr (mask [1] [some E,some (.list acc),some (.int e.every),some (.int e.due),some (.int e.late),some (.tuple (e.parts.map aQ))])) (λd=>if acc.length<1000000 then Sr.nx _ else .no)=_;rw[g,ax,if_pos (by omega)];rfl
  obtain⟨b,c,f,i,l⟩:=Mo (E:=E) r (acc++[e.strict.d]) (some (.int e.every)) (some (.int e.due)) (some (.int e.late)) (some (.tuple (e.parts.map aQ))) (by rw[NC,Oa];omega);refine⟨b,c,f,i,?_⟩;rw[N1,kC (δ1:=[some E,some (.list acc),some (.int e.every),some (.int e.due),some (.int e.late),some (.tuple (e.parts.map aQ))]) rfl j,l,Of];rfl
def BO(h:es.length<=6):cz cs [ar es]=.ok (ar (es.map Er.strict)):=by
 show bf (fk cs [some (ar es),none,none,none,none,none])=_;obtain⟨a,b,c,f,e⟩:=Mo (E:=ar es) es [] none none none none (by simp;omega);have g:ip [1] 1 ah [some (ar es),none,none,none,none,none]=.nx [some (ar es),some (.list []),none,none,none,none]:=KD (by decide:1<6) rfl;have s2:fP [1] (bY (af 0)) (fH [2,3,4,5]) FY [some (ar es),some (.list []),none,none,none,none]=.nx [some (ar es),some (.list (es.map λe=>e.strict.d)),a,b,c,f]:=by rw[uz (ds:=es.map Er.d) rfl,e,O9]
 have i:fk cs=aJ (ip [1] 1 ah) (aJ (fP [1] (bY (af 0)) (fH [2,3,4,5]) FY) (bp (gF eX (ae (af 1) ah)))):=rfl;rw[i,bN g,bN s2];unfold ar;rw[NG];rfl
theorem tj:∀l:List Int,PyData.eqvAll (l.map PyData.int) (l.map PyData.int)=true
 |[]=>by simp[PyData.eqvAll]
 |n::r=>by simp[PyData.eqvAll,PyData.eqv,tj r]
def ne_self(l:List Int):dNe (.list (l.map PyData.int)) (.list (l.map PyData.int))=some (.bool false):=by have e:=tj l;unfold dNe;rw[ia (rG l),shaped_ints];simp[PyData.eqv,e]
def Ml:dNe .none .none=some (.bool false):=by
 have h:SeqAt.shaped .none=true:=by simp[SeqAt.shaped,PyData.canLay0,PyData.depth]
 unfold dNe;rw[h];simp[aG,PyData.eqv]
def yd{l:List Int}(h:l≠[]):∃M,gH l=some M/\M∈l/\∀c∈l,c<=M:=by
 cases l with
 |nil=>exact (h rfl).elim
 |cons x r=>obtain⟨h1,h2⟩:=fold_max r x;exact⟨_,rfl,h1,h2⟩
def Mr{t:List PyData}(R:Ran es rs rows "high")(C:Cms es rows)(a:jJ es rs rows "high"=some t):bcL (endsF 0 (List.replicate m .none++t) []) (rows.map (·.map (· + (m:Int))))=bcL (endsF 0 t []) rows:=by
 obtain⟨_,_,b,_⟩:=ur R C a;unfold bcL;refine OM (by simp) λn h1 h2=>?_
 have hn:n<rows.length:=by simpa using h2
 simp only[OV,PZ];congr 1;unfold jY;refine OM (by simp) λk k1 k2=>?_
 have c:k<rows[n].length:=by simpa using k2
 simp only[OV,PZ];rw[zJ];obtain⟨v,e⟩:=b n rows[n] (My hn) k c;rw[e];show v+(m:Int)-(rows[n][k]+(m:Int))=v-rows[n][k];omega
def Mi{t:List PyData}(R:Ran es rs rows "high")(C:Cms es rows)(c:∀r∈rows,r≠[])(g:jJ es rs rows "high"=some t){a:Nat}(ha:a<rows.length){L:Int}(h:cG es rs (a:Int)=some L):∃x,(bcL (endsF 0 t []) rows)[a]?=some x/\x<=L:=by
 obtain⟨_,_,i,j⟩:=ur R C g;refine⟨mx (jY (endsF 0 t []) a rows[a]),by unfold bcL;rw[OC,My ha];rfl,?_⟩;obtain⟨M,h1,h2,_⟩:=yd (l:=jY (endsF 0 t []) a rows[a]) (λz=>by have:=rf (endsF 0 t []) a rows[a];rw[z]at this;exact c _ (NQ ha) (Ol.mp this.symm))
 unfold mx;rw[h1];show M<=L;unfold jY at h2;obtain⟨k,m,e⟩:=Ow h2;have b:k<rows[a].length:=by simpa using m
 rw[OV]at e;obtain⟨v,f⟩:=i a rows[a] (My ha) k b;have:=j a rows[a] L (My ha) h k b v f;rw[f]at e;rw[<-e];exact this
def w30(S E R C F M:PyData)(x6 x7:Option PyData):Ds:=[some S,some E,some R,some C,some F,some M,x6,x7]
def b30:Ds->Sr:=aJ (aU [] 7 (ao df (ae (af 1) (ae (af 2) (ae (af 6) ah)))))
 (sIf (CT (gT (g1 jw (af 7))) (gT (g2 dGt (g2 dIx (af 4) (af 6)) (af 7)))) (bp (gC (.bool false))) bj)
theorem l30{S C M:PyData}{es:List Er}{rs F:List Int}(l1:1<=es.length)(l6:es.length<=6)(ok:∀e∈es,e.Ok)(b:cC es.length rs)(h:∀(a:Nat)(L:Int),a<es.length->cG es rs (a:Int)=some L->∃x,F[a]?=some x/\x<=L) :
  ∀(d a:Nat)(x6 x7:Option PyData),a+d=es.length->∃c f,forL (bO 6) b30 (bK (a:Int) d) (w30 S (ar es) (ai rs) C (.list (F.map PyData.int)) M x6 x7)=.nx (w30 S (ar es) (ai rs) C (.list (F.map PyData.int)) M c f)
 |0,a,x6,x7,_=>⟨x6,x7,rfl⟩
 |d+1,a,x6,x7,e=>by
  have j:bK (a:Int) (d+1)=.int (a:Int)::bK ((a+1:Nat):Int) d:=by unfold bK;rw[List.range_succ_eq_map,N1,NG];refine List.cons_eq_cons.mpr ⟨by simp,NI λi _=>?_⟩;show PyData.int ((a:Int)+((i+1:Nat):Int))=PyData.int (((a+1:Nat):Int)+(i:Int));congr 1;omega
  have l:aU [] 7 (ao df (ae (af 1) (ae (af 2) (ae (af 6) ah)))) (w30 S (ar es) (ai rs) C (.list (F.map PyData.int)) M (some (.int (a:Int))) x7)=.nx (w30 S (ar es) (ai rs) C (.list (F.map PyData.int)) M (some (.int (a:Int))) (some (bW (cG es rs (a:Int))))) :=
   eP (by show 7<8;decide) (b8 rfl (kQ l1 l6 ok b (by omega) (by omega)))
  have m:b30 (w30 S (ar es) (ai rs) C (.list (F.map PyData.int)) M (some (.int (a:Int))) x7)=.nx (w30 S (ar es) (ai rs) C (.list (F.map PyData.int)) M (some (.int (a:Int))) (some (bW (cG es rs (a:Int))))):=by
   unfold b30;rw[bN l];cases q:cG es rs (a:Int) with
   |none=>rfl
   |some L =>
    obtain⟨x,n,hle⟩:=h a L (by omega) q;have g:g2 dGt (g2 dIx (af 4) (af 6)) (af 7) (w30 S (ar es) (ai rs) C (.list (F.map PyData.int)) M (some (.int (a:Int))) (some (bW (some L))))=.ok (.bool false) :=
     nX (x:=.int x) (y:=.int L) (nX (x:=.list (F.map PyData.int)) (y:=.int (a:Int)) rfl rfl (Fc (by rw[NK,n];rfl))) rfl (by rw[E8,decide_eq_false (by omega)])
    rw[dP,Ky,show gT (g1 jw (af 7)) (w30 S (ar es) (ai rs) C (.list (F.map PyData.int)) M (some (.int (a:Int))) (some (bW (some L))))=.ok true from rfl,Rs.ag,if_pos rfl,fB,g];rfl
  rw[j,kC (δ1:=w30 S (ar es) (ai rs) C (.list (F.map PyData.int)) M (some (.int (a:Int))) x7) rfl m];exact l30 l1 l6 ok b h d (a+1) _ _ (by omega)
def law_holds(cs:Cs)(ns:List Int):Bg cs df (aZ cs) ak cf bA (cz cs) (some (aq ns)::List.replicate 7 none)=.rt (.bool true):=by
 obtain⟨j,rs,_,l1,l4,v,n,J,q⟩:=Fu ns 14 28 (by decide) (by decide) (by decide);have K:=BO (cs:=cs) (es:=j) (by omega);have hlen:(j.map Er.strict).length=j.length:=N4 ..;have b:∀e∈j.map Er.strict,e.Ok/\3<=e.every/\e.late=0/\e.every ∣ 24:=λe g=>by obtain⟨e0,u,rfl⟩:=N9.mp g;exact CD (v e0 u)
 rw[<-hlen]at l1 l4 n q;generalize j.map Er.strict=es at *;have l6:es.length<=6:=by omega
 have ok:En es:=⟨l1,l6,λe g=>(b e g).1⟩
 obtain⟨T,Y,Z,w⟩:=ER (cs:=cs) ok λe g=>(b e g).2.2.2
 obtain⟨W,hW⟩:=C7 (cs:=cs) (t:=T) l6 ok.ok
 -- the calendars
 generalize hcal:(List.range es.length).map (λ(k:Nat)=>mixed ns (5+(k:Int)) 20)=cal;have i:cal.length=es.length:=by rw[<-hcal];simp
 have o:∀c∈cal,0<=c/\c<20:=λc hc=>by rw[<-hcal]at hc;obtain⟨k,_,rfl⟩:=N9.mp hc;exact⟨cq ns _ (by decide),cN ns _ (by decide)⟩
 obtain⟨M,hM,A,p⟩:=yd (l:=cal) (λz=>by rw[z]at i;simp at i;omega);have hM20:=o M A;have mlo:=cq ns 9 (many:=40) (by decide);have mhi:=cN ns 9 (many:=40) (by decide);obtain⟨m,hm⟩:∃m:Nat,mixed ns 9 40=(m:Int):=⟨(mixed ns 9 40).toNat,by omega⟩
 have N:gH (cal.map (· + (m:Int)))=some (M+m):=by obtain⟨M2,a1,a2,a3⟩:=yd (l:=cal.map (· + (m:Int))) (λz=>by have:=congrArg List.length z;simp at this;rw[this]at i;simp at i;omega);rw[a1];congr 1;obtain⟨c,hc,e⟩:=N9.mp a2;have h1:=p c hc;have h2:=a3 (M+m) (N9.mpr ⟨M,A,rfl⟩);have e:c+(m:Int)=M2:=e;omega
 have B:∀c∈cal.map (· + (m:Int)),0<=c/\c<=M+m:=λc hc=>by obtain⟨I,u,rfl⟩:=N9.mp hc;have:=o I u;have:=p I u;show 0<=I+(m:Int)/\I+(m:Int)<=M+m;omega
 obtain⟨b1,b2⟩:=IK (cs:=cs) (cal:=cal) ok n (λe g=>⟨(b e g).2.1,(b e g).2.2.1⟩) (λe g=>(b e g).2.2.2) Y Z w hW i (λc h=>⟨(o c h).1,p c h⟩) hM (by omega);obtain⟨d1,d2⟩:=IK (cs:=cs) (cal:=cal.map (· + (m:Int))) ok n (λe g=>⟨(b e g).2.1,(b e g).2.2.1⟩) (λe g=>(b e g).2.2.2) Y Z w hW (by rw[N4];exact i) B N (by omega);have s1:aU [] 1 (ao (cz cs) (ae (ao bA (ae (af 0) (ae (gC (.int 14)) (ae (gC (.int 4)) (ae (gC (.int 28)) (ae (gC (.bool true)) ah)))))) ah)) [some (aq ns),none,none,none,none,none,none,none]=.nx [some (aq ns),some (ar es),none,none,none,none,none,none]:=by refine eP (by decide:1<8) (b8 (ds:=[ar j]) ?_ K);rw[ej,aA,b8 rfl J];rfl
 have s2:aU [] 2 (ao cf (ae (af 0) (ae (gC (.int 0)) (ae (gF cM (ae (af 1) ah)) ah)))) [some (aq ns),some (ar es),none,none,none,none,none,none]=.nx [some (aq ns),some (ar es),some (ai rs),none,none,none,none,none]:=by refine eP (by decide:2<8) (b8 (ds:=[aq ns,.int 0,.int (es.length:Int)]) ?_ q);show (ae (af 0) (ae (gC (.int 0)) (ae (gF cM (ae (af 1) ah)) ah))) [some (aq ns),some (ar es),none,none,none,none,none,none]=_;simp only[aA,aM,ig,au,aw,dY,Rs.ag,Ig,Rs.aj]
 have s3:aU [] 3 (gF eX (ae (gL (ba 8 (fG (ae (gF cM (ae (af 1) ah)) ah)) bo (ao ak (ae (af 0) (ae (g2 bP (gC (.int 5)) (af 8)) (ae (gC (.int 20)) ah)))) aS)) ah)) [some (aq ns),some (ar es),some (ai rs),none,none,none,none,none]=.nx [some (aq ns),some (ar es),some (ai rs),some (ai cal),none,none,none,none]:=by
  refine eP (by decide:3<8) ?_;rw[ej];have s:ba 8 (fG (ae (gF cM (ae (af 1) ah)) ah)) bo (ao ak (ae (af 0) (ae (g2 bP (gC (.int 5)) (af 8)) (ae (gC (.int 20)) ah)))) aS [some (aq ns),some (ar es),some (ai rs),none,none,none,none,none]=.ok (cal.map PyData.int):=by
   refine (cH (f:=λd=>.int (mixed ns (5+(match d with|.int k=>k|_=>0)) 20)) (ds:=bK 0 es.length) rfl ?_ (by rw[dG];omega) λd hd=>?_).trans ?_
   ·have e1:(ae (gF cM (ae (af 1) ah)) ah) [some (aq ns),some (ar es),some (ai rs),none,none,none,none,none]=.ok [.int (es.length:Int)]:=by simp only[aA,aM,ig,au,aw,Rs.ag,Ig,Rs.aj]
    unfold fG;rw[e1,Rs.ag,ky (by omega) (by omega),O6]
   ·obtain⟨k,hk⟩:=PB.mp hd;obtain⟨h1,rfl⟩:=hU hk;exact b8 (ds:=[aq ns,.int (5+(0+(k:Int))),.int 20]) rfl (ck (by omega) (by decide))
   ·refine congrArg Rs.ok ?_;rw[<-hcal];unfold bK;rw[NG,NG];refine NI λk _=>?_
    show PyData.int (mixed ns (5+(0+(k:Int))) 20)=.int (mixed ns (5+(k:Int)) 20);rw[Int.zero_add]
  rw[ig,aA,kX,s];rfl
 have cm:ao ak (ae (af 0) (ae (gC (.int 9)) (ae (gC (.int 40)) ah)))=ao ak (ae (af 0) (ae (gC (.int 9)) (ae (gC (.int 40)) ah))):=rfl;have O:=ck (ns:=ns) (k:=9) (many:=40) (by decide) (by decide);have P:∀F:PyData,(ae (af 1) (ae (af 2) (ae (gF eX (ae (gL (ba 8 (bY (af 3)) bo (g2 bP (af 8) (af 5)) aS)) ah)) ah))) (w30 (aq ns) (ar es) (ai rs) (ai cal) F (.int (m:Int)) none none)=.ok [ar es,ai rs,ai (cal.map (· + (m:Int)))]:=λF=>by
  have s:ba 8 (bY (af 3)) bo (g2 bP (af 8) (af 5)) aS (w30 (aq ns) (ar es) (ai rs) (ai cal) F (.int (m:Int)) none none)=.ok ((cal.map (· + (m:Int))).map PyData.int):=by
   refine (cH (f:=λd=>.int ((match d with|.int k=>k|_=>0)+(m:Int))) (ds:=cal.map PyData.int) rfl rfl (by rw[N4];omega) λd hd=>?_).trans ?_
   ·obtain⟨c,_,rfl⟩:=N9.mp hd;rfl
   ·refine congrArg Rs.ok ?_;rw[NG,NG];rfl
  rw[aA,show af 1 (w30 (aq ns) (ar es) (ai rs) (ai cal) F (.int (m:Int)) none none)=.ok (ar es) from rfl,Rs.ag,aA,show af 2 (w30 (aq ns) (ar es) (ai rs) (ai cal) F (.int (m:Int)) none none)=.ok (ai rs) from rfl,Rs.ag,aA,ig,aA,kX,s];rfl
 have s5:∀F:PyData,aU [] 5 (ao ak (ae (af 0) (ae (gC (.int 9)) (ae (gC (.int 40)) ah)))) [some (aq ns),some (ar es),some (ai rs),some (ai cal),some F,none,none,none]=.nx (w30 (aq ns) (ar es) (ai rs) (ai cal) F (.int (m:Int)) none none):=λF=>by rw[<-hm];exact eP (by decide:5<8) (b8 rfl O)
 have s6:∀F:PyData,aZ cs [ar es,ai rs,ai (cal.map (· + (m:Int)))]=.ok F->dNe F F=some (.bool false)->sIf (gT (g2 dNe (ao (aZ cs) (ae (af 1) (ae (af 2) (ae (gF eX (ae (gL (ba 8 (bY (af 3)) bo (g2 bP (af 8) (af 5)) aS)) ah)) ah)))) (af 4))) (bp (gC (.bool false))) bj (w30 (aq ns) (ar es) (ai rs) (ai cal) F (.int (m:Int)) none none)=.nx (w30 (aq ns) (ar es) (ai rs) (ai cal) F (.int (m:Int)) none none):=λF h1 h2=>by rw[dP,fB,nX (x:=F) (y:=F) (b8 (P F) h1) rfl h2];rfl
 unfold Bg;show aJ _ _ [some (aq ns),none,none,none,none,none,none,none]=_;rw[bN s1,bN s2,bN s3];by_cases s:W>T
 ·have Q:aU [] 4 (ao (aZ cs) (ae (af 1) (ae (af 2) (ae (af 3) ah)))) [some (aq ns),some (ar es),some (ai rs),some (ai cal),none,none,none,none]=.nx [some (aq ns),some (ar es),some (ai rs),some (ai cal),some .none,none,none,none]:=eP (by decide:4<8) (b8 rfl (b1 s));rw[bN Q,bN (s5 .none),bN (s6 .none (d1 s) Ml)];rfl
 ·obtain⟨t,U,hb⟩:=b2 s;obtain⟨t',D,hd⟩:=d2 s;have X:∀c∈cal,0<=c/\c<M+3*T:=λc h=>by have:=o c h;have:=p c h;omega
  obtain⟨C,E⟩:=wg (es:=es) (cal:=cal) (en:=M+3*T) (λe g=>⟨(b e g).2.1,(b e g).2.2.1⟩) i X (by omega);have R:Ran es rs (d8 es cal (M+3*T)) "high":=⟨ok,n,C.len,⟨vN⟩⟩
  have eq1:d8 es (cal.map (· + (m:Int))) (M+m+3*T)=(d8 es cal (M+3*T)).map (·.map (· + (m:Int))):=by rw[show M+(m:Int)+3*T=M+3*T+(m:Int) by omega];exact Dk (λe g=>by have:=(b e g).2.1;omega) cal _ _
  rw[eq1]at D hd;have hex:∃r∈d8 es cal (M+3*T),r≠[]:=by
   have hl:=C.len;have u:0<(d8 es cal (M+3*T)).length:=by omega
   exact⟨_,NQ u,E _ (NQ u)⟩
  obtain⟨t2,G,e2⟩:=BI (m:=m) (by omega) (λr h c hc=>(C.xS r h).lo c hc) hex D;rw[U]at G;cases G;rw[e2,Mr R C U]at hd;have Q:aU [] 4 (ao (aZ cs) (ae (af 1) (ae (af 2) (ae (af 3) ah)))) [some (aq ns),some (ar es),some (ai rs),some (ai cal),none,none,none,none]=.nx [some (aq ns),some (ar es),some (ai rs),some (ai cal),some (.list ((bcL (endsF 0 t []) (d8 es cal (M+3*T))).map PyData.int)),none,none,none]:=eP (by decide:4<8) (b8 rfl hb);rw[bN Q,bN (s5 _),bN (s6 _ hd (ne_self _))];obtain⟨y6,y7,el⟩:=l30 (S:=aq ns) (C:=ai cal) (M:=.int (m:Int)) (F:=bcL (endsF 0 t []) (d8 es cal (M+3*T))) l1 l6 ok.ok n (λa L ha hL=>Mi R C E U (by have:=C.len;omega) hL) es.length 0 none none (by omega);have s7:sIf (gT (g1 lj (af 4))) (bp (gC (.bool true))) bj (w30 (aq ns) (ar es) (ai rs) (ai cal) (.list ((bcL (endsF 0 t []) (d8 es cal (M+3*T))).map PyData.int)) (.int (m:Int)) none none)=.nx (w30 (aq ns) (ar es) (ai rs) (ai cal) (.list ((bcL (endsF 0 t []) (d8 es cal (M+3*T))).map PyData.int)) (.int (m:Int)) none none):=rfl;have H:fG (ae (gF cM (ae (af 1) ah)) ah) (mask [] (w30 (aq ns) (ar es) (ai rs) (ai cal) (.list ((bcL (endsF 0 t []) (d8 es cal (M+3*T))).map PyData.int)) (.int (m:Int)) none none))=.ok (bK ((0:Nat):Int) es.length):=by
   have e1:(ae (gF cM (ae (af 1) ah)) ah) (mask [] (w30 (aq ns) (ar es) (ai rs) (ai cal) (.list ((bcL (endsF 0 t []) (d8 es cal (M+3*T))).map PyData.int)) (.int (m:Int)) none none))=.ok [.int (es.length:Int)]:=by rw[ej];unfold w30;simp only[aA,aM,ig,au,aw,Rs.ag,Ig,Rs.aj]
   unfold fG;rw[e1,Rs.ag,ky (by omega) (by omega),O6];rfl
  have s8:fP [] (fG (ae (gF cM (ae (af 1) ah)) ah)) (bO 6) b30 (w30 (aq ns) (ar es) (ai rs) (ai cal) (.list ((bcL (endsF 0 t []) (d8 es cal (M+3*T))).map PyData.int)) (.int (m:Int)) none none)=.nx (w30 (aq ns) (ar es) (ai rs) (ai cal) (.list ((bcL (endsF 0 t []) (d8 es cal (M+3*T))).map PyData.int)) (.int (m:Int)) y6 y7):=by rw[uz H,el]
  unfold b30 at s8;rw[bN s7,bN s8];rfl
def LX(cs:Cs):LLq (Bg cs df (aZ cs) ak cf bA (cz cs)) 1 7 (fT 63):=lawT_of (law_holds cs)
end RS
namespace L2
open PySem PySem.Spec PyProof.Rows
section
variable {E:XK}
end
end L2
set_option maxHeartbeats 4000000
namespace L2
open PySem PySem.Spec PyProof.Rows
def ndB:List Str->Bool
 |[]=>true
 |x::r=>!r.elem x&&ndB r
theorem vI:∀{l:List Str},ndB l=true->l.Nodup
 |[],_=>PH
 |x::r,h=>by simp only[ndB,N7,PQ]at h;exact O3.mpr ⟨λz=>(by have:=List.elem_eq_true_of_mem z;rw[h.1]at this;cases this),vI h.2⟩
section
variable {k n n':Nat}{m:Str}
def AtX(X:Cx)(P:Program)(w:World)(K:PySem.W.Frag)(mg:Str->Option Value)(base:Heap):Prop:=X.prog=P/\X.w=w/\X.K=K/\X.mg=mg/\X.base=base
def iN.to(h:iN P w K mg base k x n gf)(a:AtX X P w K mg base)(hn:n=n'):iN X.prog X.w X.K X.mg X.base k x n' gf:=by obtain⟨rfl,rfl,rfl,rfl,rfl⟩:=a;subst hn;exact h
def iR.to(h:iR P w K mg base k C m n gf)(a:AtX X P w K mg base)(hn:n=n'):iR X.prog X.w X.K X.mg X.base k C m n' gf:=by obtain⟨rfl,rfl,rfl,rfl,rfl⟩:=a;subst hn;exact h
def ki.to(h:ki P w K mg base k C m g)(a:AtX X P w K mg base):ki X.prog X.w X.K X.mg X.base k C m g:=by obtain⟨rfl,rfl,rfl,rfl,rfl⟩:=a;exact h
def rD.to{l:List Str}(h:rD P w K mg base k x C l)(a:AtX X P w K mg base):rD X.prog X.w X.K X.mg X.base k x C l:=by obtain⟨rfl,rfl,rfl,rfl,rfl⟩:=a;exact h
end
def yW(K:PySem.W.Frag)(C:Addr)(m q:Str)(st:Stmt)(ps:List Str):Prop:=∃f fd,Fun K m q st f fd/\Binds K fd ps []/\Meth K C m f
def Mn(K:PySem.W.Frag)(C:Addr)(q:Str)(st:Stmt)(ps:List Str):Prop:=∃f fd,Mk K C f/\Fun K "__init__" q st f fd/\Binds K fd ps []
end L2
namespace RS
open PySem PySem.Spec PyProof.Rows L2
def CJ(d:α){us:List α}{n:Nat}(h:us.length=n):∃f:Nat->α,us=(List.range n).map f :=
 ⟨λi=>us.getD i d,OM (by simp[h]) λi h1 h2=>by simp[NH,My h1]⟩
section
variable {m q:Str}{G:Ds->Sr}{gf:Gf}
abbrev Bod(P:Program)(w:World)(K:PySem.W.Frag)(mg:Str->Option Value)(base:Heap)(q:Str)(st:Stmt)(k:Nat)(O:List Nat)(N:List Str)(G:Ds->Sr):Prop:=∀(f:Addr)(cdv:Value)(A:Around)(outer:List Env)(s:Shared)(H:Hp)(E:XK),N.Nodup->cj k (A.deeper (envOfC q (aC st) s.heap.objs.size f cdv))->PBD (dz (CXW P w) P w K mg base N q (aC st) f cdv A outer s H E) E O (b0 st) G
def dA(P:Program)(w:World)(base:Heap)(k:Nat)(O:List Nat)(N:List Str)(h:bG K mg x st ps)(a:∀ds,ds.length=ps.length->gf ds≠.no->bf (G (ds.map some++List.replicate (N.length-ps.length) none))=gf ds)
  (body:Bod P w K mg base x st k O N G) (S:dq N ps (aC st):=by exact⟨rfl,rfl,rfl,by decide +kernel,rfl,by decide +kernel,by decide +kernel⟩) (c:∀i∈O,ps.length<=i:=by decide):iN P w K mg base (k+1) x ps.length gf:=by
 obtain⟨f,fd,F,b,m⟩:=h;exact iN.of F S b m c (λcdv A outer s H E=>body f cdv A outer s H E S.nd) a
def dM(P:Program)(w:World)(base:Heap)(k:Nat)(O:List Nat)(N:List Str)(h:yW K C m q st ps)(cl:Cls K C)(a:∀ds,ds.length=ps.length->gf ds≠.no->bf (G (ds.map some++List.replicate (N.length-ps.length) none))=gf ds)
  (body:Bod P w K mg base q st k O N G) (S:dq N ps (aC st):=by exact⟨rfl,rfl,rfl,by decide +kernel,rfl,by decide +kernel,by decide +kernel⟩) (c:∀i∈O,ps.length<=i:=by decide):iR P w K mg base (k+1) C m ps.length gf:=by
 obtain⟨f,fd,F,b,hm⟩:=h;exact iR.of F S b cl hm c (λcdv A outer s H E=>body f cdv A outer s H E S.nd) a
def dK(k:Nat)(N:List Str){p:Str}{G:List Addr->Ds->Sr}(h:yW K C m q st [p])(cl:Cls K C)(e:∀a fds c,gB fds=true->fds.length<1000->g fds=some c->∃δ,G [a] (some (cu C a fds)::List.replicate (N.length-1) none)=.nx δ/\δ[0]?=some (some (cu C a c)))
  (body:∀(as:List Addr)(f:Addr)(cdv:Value)(A:Around)(outer:List Env)(s:Shared)(H:Hp)(E:XK),N.Nodup->cj k (A.deeper (envOfC q (aC st) s.heap.objs.size f cdv))->PBN as (dz (CXW P w) P w K mg base N q (aC st) f cdv A outer s H E) E [] (b0 st) (G as)) (S:dq N [p] (aC st):=by exact⟨rfl,rfl,rfl,by decide +kernel,rfl,by decide +kernel,by decide +kernel⟩):ki P w K mg base (k+1) C m g:=by
 obtain⟨f,fd,F,b,hm⟩:=h;exact ki.of F S b cl hm (λas cdv A outer s H E=>body as f cdv A outer s H E S.nd) e
def dT(k:Nat)(O:List Nat)(N:List Str)(h:bG K mg x st ps)(hm:∀g,PySem.W.nsIn K mainGlobals x=some (some (.ref g))->mg x=some (.ref g))(a:GQ K x)(hB:nZ mg base)(hK:K.In base)(e:∀ds,ds.length=ps.length->gf ds≠.no->bf (G (ds.map some++List.replicate (N.length-ps.length) none))=gf ds)
  (body:∀(f:Addr)(cdv:Value)(A:Around)(outer:List Env)(s:Shared)(H:Hp)(E:XK),N.Nodup->cj k (A.deeper (envOfC x (aC st) s.heap.objs.size f cdv))->∀c j,Fq (dz (CXW P w) P w K mg base N x (aC st) f cdv A outer s H E) c j->PBD (dz (CXW P w) P w K mg base N x (aC st) f cdv A outer s H E) E O (b0 st) G) (S:dq N ps (aC st):=by exact⟨rfl,rfl,rfl,by decide +kernel,rfl,by decide +kernel,by decide +kernel⟩) (l:∀i∈O,ps.length<=i:=by decide) (n:x∈l7:=by decide) (o:∀(f L:Addr)(cdv:Value),(envOfC x (aC st) L f cdv).qual++"<lambda>"=x++".<locals>.<lambda>":=by exact λ_ _ _=>rfl):iN P w K mg base (k+1) x ps.length gf:=by
 obtain⟨f,fd,F,b,m⟩:=h;exact iN.ofL F S b m l n hm a hB hK (o f) (λcdv A outer s H E=>body f cdv A outer s H E S.nd) e
def dL(k:Nat)(O:List Nat)(N:List Str)(F:Fun K x x st f fd)(a:∀ds,ds.length=ps.length->gf ds≠.no->bf (G (ds.map some++List.replicate (N.length-ps.length) none))=gf ds)
  (body:Bod P w K mg base x st k O N G) (S:dq N ps (aC st):=by exact⟨rfl,rfl,rfl,by decide +kernel,rfl,by decide +kernel,by decide +kernel⟩) (b:∀i∈O,ps.length<=i:=by decide):gQ P w K mg base (CXW P w) (k+1) f fd ps (spD K ps.length gf) :=
 Bd F S b (λcdv A outer s H E=>body f cdv A outer s H E S.nd) a
end
end RS
set_option maxHeartbeats 0
namespace RS
open PySem PySem.Spec PyProof.Rows L2
def top(i:Nat):Stmt:=PySem.Challenge.pw_ranksure_k30_whole_calendar_within.main.body.getD i (.Pass ⟨0,0,0,0⟩)
structure qF(K:PySem.W.Frag)(C:Addr):Prop where
 cl:Cls K C
 na:∀f∈["number", "part", "tool", "times"],e9 K C f
 mi:Mn K C "Holding.__init__" (inClass (top 47) 0) ["self", "number", "part", "tool", "times"]
structure AH(K:PySem.W.Frag)(C:Addr):Prop where
 cl:Cls K C
 na:∀f∈["number", "parts", "rank", "row", "job", "part", "spent"],e9 K C f
 mi:Mn K C "Jobs.__init__" (inClass (top 29) 0) ["self", "number", "parts", "rank", "row"]
 mt_Jobs_are_done:yW K C "are_done" "Jobs.are_done" (inClass (top 29) 1) ["self"]
 mt_Jobs_is_there:yW K C "is_there" "Jobs.is_there" (inClass (top 29) 2) ["self", "time"]
 mt_Jobs_held:yW K C "held" "Jobs.held" (inClass (top 29) 3) ["self"]
 mt_Jobs_wanted:yW K C "wanted" "Jobs.wanted" (inClass (top 29) 4) ["self"]
 mt_Jobs_go_on:yW K C "go_on" "Jobs.go_on" (inClass (top 29) 5) ["self"]
structure Tx(K:PySem.W.Frag)(mg:Str->Option Value)(cs:Cs):Prop where
 f_is_whole:bG K mg "is_whole" (top 15) ["thing", "least", "most"]
 f_is_tuple:bG K mg "is_tuple" (top 16) ["thing", "fewest", "most"]
 f_is_part:bG K mg "is_part" (top 17) ["thing"]
 f_are_parts:bG K mg "are_parts" (top 18) ["thing"]
 f_is_errand:bG K mg "is_errand" (top 19) ["thing"]
 f_checked:bG K mg "checked" (top 20) ["errands"]
 f_checked_ranks:bG K mg "checked_ranks" (top 21) ["errands", "ranks"]
 f_checked_number:bG K mg "checked_number" (top 22) ["errands", "number"]
 f_check_place:bG K mg "check_place" (top 23) ["errands", "ranks", "number"]
 f_work_of:bG K mg "work_of" (top 24) ["errand"]
 f_has_tool:bG K mg "has_tool" (top 25) ["errand", "tool"]
 f_height:bG K mg "height" (top 26) ["errands", "ranks", "tool"]
 f_heights_of:bG K mg "heights_of" (top 27) ["errands", "ranks"]
 f_height_by_high:bG K mg "height_by_high" (top 30) ["jobs", "tops"]
 f_holder:bG K mg "holder" (top 31) ["there", "tool"]
 f_lent_ranks:bG K mg "lent_ranks" (top 32) ["there"]
 f_picked:bG K mg "picked" (top 33) ["there", "tops", "lending"]
 f_run_of:bG K mg "run_of" (top 34) ["errands", "ranks", "rows", "lending"]
 f_answers_of:bG K mg "answers_of" (top 35) ["number", "row", "ends"]
 f_answers_in:bG K mg "answers_in" (top 36) ["rows", "told"]
 f_least_multiple:bG K mg "least_multiple" (top 41) ["number", "other"]
 f_round_of:bG K mg "round_of" (top 42) ["errands"]
 f_checked_calendar:bG K mg "checked_calendar" (top 43) ["errands", "calendar"]
 f_works_of_round:bG K mg "works_of_round" (top 44) ["errands", "times"]
 f_by_calendar:bG K mg "by_calendar" (top 45) ["errands", "ranks", "calendar"]
 f_holdings:bG K mg "holdings" (top 48) ["errands", "ranks", "number"]
 f_hold_by_high:bG K mg "hold_by_high" (top 49) ["errands", "ranks", "number"]
 f_rounded_up:bG K mg "rounded_up" (top 50) ["times", "every"]
 f_need:bG K mg "need" (top 51) ["errands", "ranks", "number", "held_up", "times"]
 f_levels_by:bG K mg "levels_by" (top 52) ["errands", "ranks", "number", "held_up"]
 f_longest_by:bG K mg "longest_by" (top 53) ["errands", "ranks", "number", "held_up"]
 f_longest_by_high:bG K mg "longest_by_high" (top 54) ["errands", "ranks", "number"]
 f_longest:bG K mg "longest" (top 55) ["errands", "ranks", "number"]
 f_law_cell_at:bG K mg "_law_cell_at" (top 57) ["_law_script", "_law_k"]
 f_law_mixed:bG K mg "_law_mixed" (top 58) ["_law_script", "_law_k", "_law_many"]
 f_law_errand:bG K mg "_law_errand" (top 59) ["_law_script", "_law_at", "_law_top", "_law_tools"]
 f_law_errands:bG K mg "_law_errands" (top 60) ["_law_script", "_law_at", "_law_most", "_law_top", "_law_tools"]
 f_law_ranks:bG K mg "_law_ranks" (top 61) ["_law_script", "_law_at", "_law_many"]
 f_law_strict:bG K mg "_law_strict" (top 62) ["_law_errands_here"]
 f_law:bG K mg "law" (top 63) ["_law_script"]
 bs:∀x∈["all", "bool", "enumerate", "int", "isinstance", "len", "list", "max", "min", "range", "set", "sum", "tuple", "zip"],mg x=none
 cst:∀q∈([("LAST_FIRST",999),("LEAST_EVERY",2),("MOST_ERRANDS",6),("MOST_EVERY",60),("MOST_LATE",20),("MOST_LENGTH",20),("MOST_PARTS",4),("MOST_ROUND",2000),("ROUNDS_SEEN",3),("TOOLS",4)]:List (Str×Int)),∃t,mg q.1=some (.int q.2 t)
 e_NoComings:oJ K mg "NoComings" cs.NoComings
 e_NoErrand:oJ K mg "NoErrand" cs.NoErrand
 e_NoErrands:oJ K mg "NoErrands" cs.NoErrands
 e_NoRanks:oJ K mg "NoRanks" cs.NoRanks
 e_TooLong:oJ K mg "TooLong" cs.TooLong
 m_Holding:mg "Holding"=some (.ref cs.Holding)
 k_Holding:qF K cs.Holding
 m_Jobs:mg "Jobs"=some (.ref cs.Jobs)
 k_Jobs:AH K cs.Jobs
 tb_picked:GQ K "picked"
 nm_picked:∀g,PySem.W.nsIn K mainGlobals "picked"=some (some (.ref g))->mg "picked"=some (.ref g)
structure Ty(K:PySem.W.Frag)(mg:Str->Option Value)(cs:Cs)(base:Heap):Prop extends Tx K mg cs where
 hB:nZ mg base
 hK:K.In base
section
def zD:dq ["_law_script", "_law_k"] ["_law_script", "_law_k"] (aC (top 57)):=⟨rfl,rfl,rfl,by decide +kernel,rfl,by decide +kernel,by decide +kernel⟩
def xZ(F:Fun K "_law_cell_at" "_law_cell_at" (top 57) f fd)(bl:mg "len"=none):gQ P w K mg base CX0 1 f fd ["_law_script", "_law_k"] (Eh K):=by
 refine F.ok zD (λvs H Q E h=>?_) (λcdv A outer s H vs Q E l h=>?_)
 ·obtain⟨a,ns,k,rfl,_⟩:=h;rfl
 ·obtain⟨a,ns,k,rfl,e,m,g⟩:=h;refine⟨_,cL (AG (zr (MK (pv 1) (fo jl rfl bl PySem.boot_len (eM (pv 0) gw)))) (iu (qH (FJ vL (pv 0) (pv 1) (λ_ _=>rfl)))) vq)
   (cL (AG (kF (yL l.units) (pv 0) (zG gw) (jr _)) (iu (qH gp)) vq)
   (iu (qH (fA ng (fA nJ (FJ vL (pv 0) (fA rF (pv 1) (fo jl rfl bl PySem.boot_len (eM (pv 0) gw))) (λ_ _=>rfl)) gp) (pv 1))))),?_⟩
  refine⟨_,rfl,_,rfl,a,_,rfl,.inl e,k,_,rfl,rfl,_,rfl,?_⟩;have hlen:(ns.map V.int).length=ns.length:=N4 ..;rw[hlen];refine MG (λhc=>?_) (λhc=>?_)
  ·have hc:k<(ns.length:Int):=of_decide_eq_true hc;have hi:k.toNat<ns.length:=by omega
   refine⟨_,rfl,_,rfl,a,_,k,.int (ns.getD k.toNat 0),rfl,rfl,e,vO m ?_,?_⟩
   ·rw[NK,My hi,NH,My hi];rfl
   ·have:=g H (av.refl H);rw[show cellAt ns k=ns.getD k.toNat 0 by unfold cellAt;rw[if_pos hc]]at this;exact this
  ·have hc:¬ k<(ns.length:Int):=λz=>hc (decide_eq_true z)
   refine⟨_,rfl,Oc _,λp i=>⟨.list (ns.map .int),.list [],(vG e (tK ns)).same (g9 i),vG (SqL.of aE) rq,shaped_ints ns,yM,_,rfl,?_⟩⟩;rw[Fi];refine MG (λb=>?_) (λb=>?_)
   ·have b:ns=[]:=of_decide_eq_true b;have:=g _ (g9 (o:=.lst []) i);rw[show cellAt ns k=0 by unfold cellAt;rw[if_neg hc,if_pos b]]at this;exact this
   ·have b:¬ ns=[]:=λz=>b (decide_eq_true z)
    have c:0<(ns.length:Int):=by
     cases ns with
     |nil=>exact absurd rfl b
     |cons _ _=>simp
    have h1:0<=k % (ns.length:Int):=Ox _ (by omega);have h2:k % (ns.length:Int)<(ns.length:Int):=Oz _ c;have hi:(k % (ns.length:Int)).toNat<ns.length:=by omega
    have j:av H (upd H p (.lst [])):=g9 i;refine⟨_,rfl,_,rfl,_,rfl,a,_,rfl,.inl (j.seq e),_,_,rfl,rfl,by rw[hlen];exact c,a,_,_,.int (ns.getD (k % (ns.length:Int)).toNat 0),rfl,rfl,j.seq e,?_,_,_,rfl,rfl,.inr ⟨by decide,by decide⟩,_,rfl,_,_,rfl,rfl,?_⟩
    ·rw[hlen];refine vO h1 ?_;rw[NK,My hi,NH,My hi];rfl
    ·have:=g _ j;rw[show cellAt ns k=ns.getD (k % (ns.length:Int)).toNat 0*31+k by unfold cellAt;rw[if_neg hc,if_neg b]]at this;exact this
def wm:dq ["_law_script", "_law_k", "_law_many", "_law_drawn"] ["_law_script", "_law_k", "_law_many"] (aC (top 58)):=⟨rfl,rfl,rfl,by decide +kernel,rfl,by decide +kernel,by decide +kernel⟩
def D0{b:FuncData}(F:Fun K "_law_mixed" "_law_mixed" (top 58) f fd)(e:Fun K "_law_cell_at" "_law_cell_at" (top 57) c b)(g:Binds K b ["_law_script", "_law_k"] [])(j:mg "_law_cell_at"=some (.ref c))(bl:mg "len"=none):gQ P w K mg base CX0 2 f fd ["_law_script", "_law_k", "_law_many"] (Iz K):=by
 have l:gQ P w K mg base CX0 1 c b _ (Eh K):=xZ e bl;refine F.ok wm (λvs H Q E h=>?_) (λcdv A outer s H vs Q E m h=>?_)
 ·obtain⟨a,ns,k,many,rfl,_⟩:=h;rfl
 ·obtain⟨a,ns,k,many,rfl,n,o,hm,p⟩:=h;refine⟨_,cL (rn (i:=3) wm.nd rfl (Or.inl rfl) (fA rF (fA nJ (fA ng (fA ng (A8 l m rfl j e.kp g .nil Mp (eM (pv 0) (eM (pv 1) gw))) (fA nJ gp (pv 1))) gp) gp) gp))
   (iu (qH (fA rF (fA rF (fA ng (fA ng (fA nJ (pv 3) (pv 3)) (fA nJ gp (pv 3))) (pv 1)) gp) (pv 2)))),?_⟩
  refine⟨_,rfl,_,rfl,a,ns,k,rfl,n,o,λH1 q=>?_⟩;refine⟨_,rfl,_,_,rfl,rfl,.inl ⟨by decide,by decide⟩,_,_,rfl,rfl,_,_,rfl,rfl,_,_,rfl,rfl,.inr ⟨by decide,by decide⟩,_,_,rfl,rfl,(by show (0:Int)<2147483647;decide),?_⟩;have b1:=G4 ns k;have b2:=Hg ns k;have eD:(cellAt ns k+7919*k+1)*48271 % 2147483647=B8 ns k:=rfl;refine⟨_,rfl,_,rfl,_,_,rfl,rfl,.inl ⟨?_,?_⟩,_,rfl,_,_,rfl,rfl,.inl ⟨by decide,by decide⟩,_,_,rfl,rfl,_,rfl,_,_,rfl,rfl,_,_,rfl,rfl,(by show (0:Int)<2147483629;decide),_,rfl,_,_,rfl,rfl,hm,p H1 q⟩
  ·show -(2 ^ 64)<(cellAt ns k+7919*k+1)*48271 % 2147483647;rw[eD];omega
  ·show (cellAt ns k+7919*k+1)*48271 % 2147483647<2 ^ 64;rw[eD];omega
def wW(T:Tx K mg cs):iN P w K mg base 2 "_law_mixed" 3 ak:=by obtain⟨f,fd,F,b,m⟩:=T.f_law_mixed;obtain⟨fC,fdC,a,c,e⟩:=T.f_law_cell_at;exact iN.old (D0 F a c e (T.bs _ (by decide))) m F.kp b GU
def Ca(T:Tx K mg cs):rD P w K mg base 1 "Holding" cs.Holding ["number", "part", "tool", "times"]:=by
 obtain⟨f,fd,M,F,b⟩:=T.k_Holding.mi;refine⟨f,fd,_,M,lL (k:=0) (N:=["self", "number", "part", "tool", "times"]) F ⟨rfl,rfl,rfl,by decide +kernel,rfl,by decide +kernel,by decide +kernel⟩ (λvs H Q E h=>?_) (λcdv A outer s H vs Q E hr h=>?_),b,T.m_Holding⟩
 ·obtain⟨x,dx,args,rfl,hl,_⟩:=h;rw[NJ,hl];rfl
 ·obtain⟨x,dx,args,rfl,hl,c,k⟩:=h;obtain⟨g,rfl⟩:=CJ .non hl;refine⟨_,(cL (gx (pv 0) (pv 1) rfl) (cL (gx (pv 0) (pv 2) rfl) (cL (gx (pv 0) (pv 3) rfl) (iu (gx (pv 0) (pv 4) rfl))))),?_⟩;refine⟨_,rfl,_,rfl,x,cs.Holding,dx,_,rfl,c,T.k_Holding.cl,T.k_Holding.na _ (by decide),(by show 0<1000;decide),_,rfl,_,rfl,x,cs.Holding,dx,_,rfl,aE,T.k_Holding.cl,T.k_Holding.na _ (by decide),(by show 1<1000;decide),_,rfl,_,rfl,x,cs.Holding,dx,_,rfl,aE,T.k_Holding.cl,T.k_Holding.na _ (by decide),(by show 2<1000;decide),_,rfl,_,rfl,x,cs.Holding,dx,_,rfl,aE,T.k_Holding.cl,T.k_Holding.na _ (by decide),(by show 3<1000;decide),?_⟩;exact k _ (λb a=>by rw[az a,az a,az a,az a]) (by rw[aE];rfl)
def yF(T:Tx K mg cs):MkD P w K mg base 1 "Jobs" cs.Jobs JN JT:=by
 obtain⟨f,fd,M,F,b⟩:=T.k_Jobs.mi;refine⟨f,fd,_,M,lL (k:=0) (N:=["self", "number", "parts", "rank", "row"]) F ⟨rfl,rfl,rfl,by decide +kernel,rfl,by decide +kernel,by decide +kernel⟩ (λvs H Q E h=>?_) (λcdv A outer s H vs Q E hr h=>?_),b,T.m_Jobs⟩
 ·obtain⟨x,dx,args,rfl,hl,_⟩:=h;rw[NJ,hl];rfl
 ·obtain⟨x,dx,args,rfl,hl,c,k⟩:=h;obtain⟨g,rfl⟩:=CJ .non hl;refine⟨_,(cL (gx (pv 0) (pv 1) rfl) (cL (gx (pv 0) (pv 2) rfl) (cL (gx (pv 0) (pv 3) rfl) (cL (gx (pv 0) (pv 4) rfl) (cL (gx (pv 0) gp rfl) (cL (gx (pv 0) gp rfl) (iu (gx (pv 0) gp rfl)))))))),?_⟩;refine⟨_,rfl,_,rfl,x,cs.Jobs,dx,_,rfl,c,T.k_Jobs.cl,T.k_Jobs.na _ (by decide),(by show 0<1000;decide),_,rfl,_,rfl,x,cs.Jobs,dx,_,rfl,aE,T.k_Jobs.cl,T.k_Jobs.na _ (by decide),(by show 1<1000;decide),_,rfl,_,rfl,x,cs.Jobs,dx,_,rfl,aE,T.k_Jobs.cl,T.k_Jobs.na _ (by decide),(by show 2<1000;decide),_,rfl,_,rfl,x,cs.Jobs,dx,_,rfl,aE,T.k_Jobs.cl,T.k_Jobs.na _ (by decide),(by show 3<1000;decide),_,rfl,x,cs.Jobs,dx,_,rfl,aE,T.k_Jobs.cl,T.k_Jobs.na _ (by decide),(by show 4<1000;decide),_,rfl,x,cs.Jobs,dx,_,rfl,aE,T.k_Jobs.cl,T.k_Jobs.na _ (by decide),(by show 5<1000;decide),_,rfl,x,cs.Jobs,dx,_,rfl,aE,T.k_Jobs.cl,T.k_Jobs.na _ (by decide),(by show 6<1000;decide),?_⟩;exact k _ (λb a=>by rw[az a,az a,az a,az a,az a,az a,az a]) (by rw[aE];rfl)
set_option hygiene false
local macro_rules | `(tactic| infer_instance)=>`(tactic| first|((with_reducible show _=_);exact rfl)|(with_reducible first|(show PD _ _ _ _;first|refine' K5 ..|refine' Ji ..|refine' FX ..|refine' MH ..|refine' KP ..|refine' K7 ..|refine' Jd ..|refine' LL ..|refine' Jf ..|refine' IX ..|refine' Le ..|refine' K1 ..|refine' J7 ..|refine' Jq ..|refine' JW ..|refine' J8 ..|refine' LS ..|refine' L8 ..|refine' Lk ..|refine' Ju ..|refine' K6 ..|refine' C4 ..|refine' Hn ..|refine' Ld ..|(show PD _ _ _ (ao (sS _ _) _);apply F8)|refine' Iq ..|(show PD _ _ _ (ao _ _);apply G5)|refine' B2 ..|refine' Bv ..|refine' KC ..|refine' Kf ..|refine' Li ..|refine' Fm ..|refine' yk ..|refine' GI ..|refine' Hv ..|refine' F6 ..|refine' F0 ..|refine' DF ..|(show PD _ _ _ (br _ _ _ _ ah);apply C8)|(show PD _ _ _ (br _ _ _ _ _);apply Iu)|refine' MC ..|refine' LJ ..|refine' LA ..|refine' Mf ..|refine' KW ..|refine' Ia ..)|(show PAD _ _ _ _;first|refine' FA ..|refine' HH ..)|(show PCD _ _ _ _;first|refine' KG ..|refine' Lh ..|refine' Kx ..|refine' Lf ..|refine' JM ..|refine' GS ..|refine' EB ..|refine' Ho ..|refine' IS (Ap ..)|refine' IS (EI ..)|refine' Hu ..)|(show PSD _ _ _ _ _;first|refine' u5 ..|refine' EJ ..|refine' BL ..|(show PSD _ _ _ _ (rH _ _ _ _ _ _ _);apply DD)|refine' E4 ..|refine' Ew ..|(show PSD _ _ _ (.Assign _ (.ListComp _ _ _ _) _) (aU _ _ (gL _));apply Ee;apply Dq;focus with_unfolding_all exact rfl)|refine' Gs ..|refine' G9 ..|refine' BQ ..|refine' EZ ..|refine' Gu ..|refine' HP ..|refine' zA ..|refine' HV ..|refine' DA ..|(show PSD _ _ _ _ (fP _ _ _ _);apply Hh)|refine' Ct ..)|(show PBD _ _ _ _ _;first|refine' uY ..|refine' oO ..|refine' iU ..)|(show PLD _ _ _ _;first|(show PLD _ _ _ (ba _ _ _ _ _);apply Dy)|refine' Gy ..|refine' B9 ..|refine' yB ..)|(show PID _ _ _ _ _;first|refine' zU ..|refine' FE ..|refine' EV ..|refine' Ij ..)|(show PIf _ _ _;first|exact PIf.nil|refine' PIf.one ..)|(show PWD _ _ _ _;first|refine' Ap ..|refine' EI ..|refine' FV ..|refine' Hi ..)|(show TgS _ _ _ _;first|refine' Ex ..|refine' Ht ..)|(show POD _ _ _ _;first|refine' Ek ..|refine' DO ..)|(show PSN _ _ _ _ _ _;first|refine' KR ..|refine' BK ..|refine' GB ..|refine' zu ..|(show PSN _ _ _ _ _ (k9 _ _ _ _ _);apply Fw)|refine' JE ..)|(show PBN _ _ _ _ _ _;first|refine' HK ..|refine' Ag ..|refine' v8 ..)) <;> infer_instance|((with_reducible show PBD _ _ _ _ _); first|refine' iU ?_ ?_|refine' oO ?_) <;> infer_instance|((with_reducible show PBN _ _ _ _ _ _); first|refine' v8 ?_ ?_|refine' Ag ?_) <;> infer_instance|((with_reducible show PG _ _ _); first|refine' vE ?_ ?_ ?_|refine' EW ?_ ?_) <;> infer_instance|((with_reducible show PGs _ _ _); first|refine' qN ?_ ?_|exact Bl) <;> infer_instance|exact rfl|((with_reducible show iN _ _ _ _ _ _ _ _ _);(with_reducible refine' iN.to ?z1 ?z2 ?z3);(case z1=>with_reducible assumption);(case z2=>exact⟨rfl,rfl,rfl,rfl,rfl⟩);(case z3=>rfl))|((with_reducible show iR _ _ _ _ _ _ _ _ _ _);(with_reducible refine' iR.to ?z1 ?z2 ?z3);(case z1=>with_reducible assumption);(case z2=>exact⟨rfl,rfl,rfl,rfl,rfl⟩);(case z3=>rfl))|((with_reducible show ki _ _ _ _ _ _ _ _ _);(with_reducible refine' ki.to ?z1 ?z2);(case z1=>with_reducible assumption);(case z2=>exact⟨rfl,rfl,rfl,rfl,rfl⟩))|((with_reducible show rD _ _ _ _ _ _ _ _ _);(with_reducible refine' rD.to ?z1 ?z2);(case z1=>with_reducible assumption);(case z2=>exact⟨rfl,rfl,rfl,rfl,rfl⟩))|exact hr|exact HJ|exact vQ|exact T.bs _ (by decide +kernel)|exact T.cst (_,_) (by decide +kernel)|exact .inl rfl|exact .inr rfl|exact .inr (.inl rfl)|exact .inr (.inr rfl)|exact nd|exact vI (by kernel_rfl)|exact PassesOwn.leaving|exact Ey|exact xt|exact λ_=>rfl|exact λ_ _=>rfl|((with_reducible intro _ _ _ _);infer_instance)|exact T.e_NoComings|exact T.e_NoErrand|exact T.e_NoErrands|exact T.e_NoRanks|exact T.e_TooLong|exact Kv|exact T.k_Holding.cl|exact T.k_Holding.na _ (by decide +kernel)|exact T.k_Jobs.cl|exact T.k_Jobs.na _ (by decide +kernel)|exact Dx|exact bt_bool|exact v9|exact uM|exact cj.u1 hr|exact hr.units|exact⟨rfl,rfl,rfl,rfl⟩|exact hr.in1.deeper _|exact cj.u1 (hr.in1.deeper _)|decide|with_unfolding_all rfl)
local macro_rules | `(tactic| nofun)=>`(tactic| (try have:=Ca (P:=P) (w:=w) (base:=base) T.toTx;try have:=zR P w T;try have:=EF P w T;try have:=i9 P w T;try have:=yC P w T;try have:=qu P w T;try have:=B1 P w T;try have:=uy P w T;try have:=Lg P w T;try have:=xU P w T;try have:=uP P w T;try have:=mF P w T;try have:=yK P w T;try have:=mP P w T;try have:=yP P w T;try have:=oF P w T;try have:=BF P w T;try have:=vU P w T;try have:=wF P w T;try have:=Cd P w T;try have:=rN P w T;try have:=Cz P w T;try have:=gj P w T;try have:=rM P w T;try have:=wY P w T;try have:=FK P w T;try have:=u0 P w T;try have:=nL P w T;try have:=qv P w T;try have:=f9 P w T;try have:=i8 P w T;try have:=Eo P w T;try have:=vj P w T;try have:=uK P w T;try have:=mK P w T;try have:=nk P w T;try have:=zK P w T;try have:=lG P w T;try have:=rK P w T;try have:=wW (P:=P) (w:=w) (base:=base) T.toTx;try have:=vW P w T;try have:=uo P w T;try have:=rP P w T;try have:=uI P w T))
local macro_rules | `(tactic| and_intros)=>`(tactic| (nofun;intro f cdv A outer s H E nd hr;infer_instance))
def BB(T:Tx K mg cs){ aP aV cR aO gf:Gf}{gm_Jobs_go_on:List (Str×PyData)->Option (List (Str×PyData))}(i9:iN P w K mg base 3 "heights_of" 2 aP)(gj:iR P w K mg base 1 cs.Jobs "are_done" 1 aV)(qv:iN P w K mg base 6 "picked" 3 cR)(f9:iR P w K mg base 1 cs.Jobs "is_there" 2 aO)(i8:ki P w K mg base 3 cs.Jobs "go_on" gm_Jobs_go_on)(yF:MkD P w K mg base 1 "Jobs" cs.Jobs JN JT){Gt:Ds->Sr}
  (hGt:∀δ,Gt δ≠.no->∃d ds fss,Gt δ=.rt d/\5<δ.length/\δ.length=9/\(fJ (ae (af 2) ah)) (mask [6] δ)=.ok ds/\ds.length<=1000000/\fss.length=ds.length/\(∀(i:Nat) d,ds[i]?=some d->∃ow fs,eO d=some ow/\fss[i]?=some fs/\(ae (af 9) (ae (g2 dIx (g2 dIx (af 0) (af 9)) (gC (.int 3))) (ae (ql (af 1) (af 9)) (ae (af 10) ah)))) (mask [6] δ++ow)=.ok fs/\fs.length=JN.length) /\
   ∀as:List Addr,as.length=ds.length->as.Nodup->jn cs aP aV cR aO gm_Jobs_go_on as (δ.set 5 (some (.list (kP cs.Jobs JN JT as fss))))=.rt d)
  (hL:∀ds,ds.length=4->gf ds≠.no->bf (aJ (aU [6] 4 (ao aP (ae (af 0) (ae (af 1) ah)))) Gt (ds.map some++List.replicate 5 none))=gf ds):iN P w K mg base 7 "run_of" 4 gf :=
 dA P w base 6 [6] ["errands", "ranks", "rows", "lending", "tops", "queues", "told", "there", "best"] T.f_run_of hL λf cdv A outer s H E nd hr=>iU (by infer_instance) (Ib (PS.imp (qG (i:=5) (M:=["errands", "ranks", "rows", "lending", "tops", "queues", "told", "there", "best"]) (own:=["number", "row"]) (te:=eMk K E0 cs.Jobs JN JT (ae (af 9) (ae (g2 dIx (g2 dIx (af 0) (af 9)) (gC (.int 3))) (ae (ql (af 1) (af 9)) (ae (af 10) ah))))) rfl nd rfl (by first|exact Or.inl rfl|exact Or.inr rfl) rfl (show PID _ E _ _ (fJ (ae (af 2) ah)) from by infer_instance) (λ_ _ _ _=>(EW rfl (qN (vE (i:=9) (vI (by kernel_rfl)) rfl (Or.inl rfl) (.inr rfl)) (qN (vE (i:=10) (vI (by kernel_rfl)) rfl (Or.inl rfl) (.inr rfl)) Bl)))) (λ_ _ _ _=>.nil) (λ_ _ _ _=>LF yF hr vQ (by infer_instance))) (λD σ H h=>JV (n0:=9) xt σ H _ h)) (λas=>by delta jn;infer_instance) (by decide) hGt)
variable (P w)(T:Ty K mg cs base)
def zR:=dA P w base 0 [] ["errand", "tool"] T.f_has_tool (zW cs) (by delta jh;and_intros)
def EF:=dA P w base 1 [] ["errands", "ranks", "tool", "place", "number"] T.f_height (FN cs) (by delta l8;and_intros)
def i9:=dA P w base 2 [] ["errands", "ranks"] T.f_heights_of (vp cs) (by delta gM;and_intros)
def yC:=dA P w base 3 [5] ["errands", "ranks", "number", "place", "tops", "found", "lower", "part", "pair"] T.f_holdings (yb cs) (by delta jm;and_intros)
def qu:=dA P w base 4 [] ["errands", "ranks", "number"] T.f_hold_by_high (pA cs) (by delta fe;and_intros)
def B1:=dA P w base 0 [] ["errand"] T.f_work_of (Cb cs) (by delta tL;and_intros)
def uy:=dA P w base 0 [] ["times", "every"] T.f_rounded_up (uB cs) (by delta gG;and_intros)
def Lg:=dA P w base 1 [] ["errands", "ranks", "number", "held_up", "times", "total", "higher", "errand"] T.f_need (JU cs) (by delta vA;and_intros)
def xU:=dA P w base 2 [5] ["errands", "ranks", "number", "held_up", "most", "found", "level", "following"] T.f_levels_by (xK cs) (by delta iE;and_intros)
def uP:=dA P w base 3 [] ["errands", "ranks", "number", "held_up", "found"] T.f_longest_by (vi cs) (by delta fc;and_intros)
def mF:=dA P w base 5 [] ["errands", "ranks", "number"] T.f_longest_by_high (lO cs) (by delta d6;and_intros)
def yK:=dA P w base 0 [] ["thing", "least", "most"] T.f_is_whole (yJ cs) (by delta ja;and_intros)
def mP:=dA P w base 1 [] ["errands", "number"] T.f_checked_number (mO cs) (by delta eF;and_intros)
def yP:=dA P w base 0 [] ["thing", "fewest", "most"] T.f_is_tuple (yi cs) (by delta jc;and_intros)
def oF:=dA P w base 1 [] ["errands", "ranks", "last"] T.f_checked_ranks (oH cs) (by delta cT;and_intros)
def BF:=dA P w base 1 [] ["thing"] T.f_is_part (CB cs) (by delta gY;and_intros)
def vU:=dA P w base 2 [] ["thing"] T.f_are_parts (vR cs) (by delta f7;and_intros)
def wF:=dA P w base 3 [] ["thing", "every", "due", "late"] T.f_is_errand (wH cs) (by delta eB;and_intros)
def Cd:=dA P w base 4 [] ["errands"] T.f_checked (Cf cs) (by delta iP;and_intros)
def rN:=dA P w base 5 [] ["errands", "ranks", "number"] T.f_check_place (rT cs) (by delta fS;and_intros)
def Cz:=dA P w base 6 [] ["errands", "ranks", "number"] T.f_longest (Bq cs) (by delta kG;and_intros)
def gj:=dM P w base 0 [] ["self"] (gf:=aV cs) (G:=dQ cs) T.k_Jobs.mt_Jobs_are_done T.k_Jobs.cl (mg:=mg) gA (by delta dQ;and_intros)
def rM:=dM P w base 0 [] ["self"] (gf:=aL cs) (G:=eU cs) T.k_Jobs.mt_Jobs_wanted T.k_Jobs.cl (mg:=mg) gA (by delta eU;and_intros)
def wY:=dM P w base 0 [] ["self"] (gf:=aT cs) (G:=fV cs) T.k_Jobs.mt_Jobs_held T.k_Jobs.cl (mg:=mg) gA (by delta fV;and_intros)
def FK:=dA P w base 1 [] ["there", "tool", "jobs"] (gf:=bJ cs) (G:=kg cs _) T.f_holder gA (by delta kg;and_intros)
def u0:=dA P w base 2 [1] ["there", "lent", "jobs", "other"] (gf:=cB cs) (G:=gP cs _ _) T.f_lent_ranks gA (by delta gP;and_intros)
def nL:=dA P w base 1 [] ["jobs", "tops", "tool"] (gf:=bS cs) (G:=bX cs _) T.f_height_by_high gA (by delta bX;and_intros)
def qv:=dT (P:=P) (w:=w) 5 [] ["there", "tops", "lending", "free", "lent"] (gf:=cR cs) (G:=kh cs _ _ _ _) T.f_picked T.nm_picked T.tb_picked T.hB T.hK gA λf cdv A outer s H E nd hr c Pt TAB=>by delta kh;nofun;exact (iU (EJ (by infer_instance) (oO (u5 (qa (N:=["jobs", "tops"]) (p:="jobs") (cap:=[1]) (T.bs _ (by decide)) hr (by infer_instance) TAB (λq c' s H=>(by infer_instance))))) uY)      (iU (by infer_instance)      (iU (by infer_instance)      (oO (u5 (qa (N:=["jobs", "lent"]) (p:="jobs") (cap:=[4]) (T.bs _ (by decide)) hr (by infer_instance) TAB (λq c' s H=>(by infer_instance))))))))
def f9:=dM P w base 0 [] ["self", "time"] (gf:=aO cs) (G:=dO cs) T.k_Jobs.mt_Jobs_is_there T.k_Jobs.cl (mg:=mg) gA (by delta dO;and_intros)
def i8:=dK (P:=P) (w:=w) (base:=base) (mg:=mg) 2 ["self"] T.k_Jobs.mt_Jobs_go_on T.k_Jobs.cl (DH cs) λas f cdv A outer s H E nd hr=>by delta gK;nofun;infer_instance
def Eo:=BB (P:=P) (w:=w) (base:=base) T.toTx (i9 P w T) (gj P w T) (qv P w T) (f9 P w T) (i8 P w T) (yF T.toTx) (G7 cs) (FG cs)
def vj:=dA P w base 0 [] ["number", "row", "ends"] (gf:=c8 cs) (G:=ft cs) T.f_answers_of gA (by delta ft;and_intros)
def uK:=dA P w base 1 [2] ["rows", "told", "ends", "time", "done"] (gf:=cE cs) (G:=ff cs _) T.f_answers_in gA (by delta ff;and_intros)
def mK:=dA P w base 1 [] ["errands", "times"] T.f_works_of_round (nK cs) (by delta dB;and_intros)
def nk:=dA P w base 0 [] ["number", "other", "multiple"] T.f_least_multiple (nQ cs) (by delta dw;and_intros)
def zK:=dA P w base 5 [] ["errands", "times", "errand"] T.f_round_of (yG cs) (by delta gZ;and_intros)
def lG:=dA P w base 1 [] ["errands", "calendar", "many"] T.f_checked_calendar (k8 cs) (by delta cK;and_intros)
def rK:=dA P w base 7 [] ["errands", "ranks", "calendar", "times", "end", "rows", "told"] T.f_by_calendar (si cs) (by delta eS;and_intros)
def vW:=dA P w base 2 [3,4] ["_law_script", "_law_at", "_law_many", "_law_left", "_law_made", "_law_k"] T.f_law_ranks (xf cs) (by delta iz;and_intros)
def uo:=dA P w base 2 [7] ["_law_script", "_law_at", "_law_top", "_law_tools", "_law_every", "_law_late", "_law_due", "_law_parts", "_law_k", "_law_cell"] T.f_law_errand (vz cs) (by delta gN;and_intros)
def rP:=dA P w base 3 [] ["_law_script", "_law_at", "_law_most", "_law_top", "_law_tools", "_law_many"] T.f_law_errands (sj cs) (by delta fQ;and_intros)
def uI:=dA P w base 0 [1] ["_law_errands_here", "_law_made", "_law_every", "_law_due", "_law_late", "_law_parts"] T.f_law_strict (u4 cs) (by delta fk;and_intros)
def law_ok(T:Ty K mg cs base)(F:Fun K "law" "law" (top 63) f fd):gQ P w K mg base (CXW P w) 9 f fd ["_law_script"] (spD K 1 (fT 63)) :=
 dL (ps:=["_law_script"]) 8 [] ["_law_script", "_law_errands_here", "_law_ranks_here", "_law_calendar", "_law_found", "_law_more", "_law_number", "_law_most"] F (LX cs) (by delta Bg;and_intros)
end
end RS
namespace L2
open PySem PySem.Spec PyProof.Rows
def HR{m:Str}{kV dc:Value}
  (hb:∀(kV doc pm:Value)(an:Option Addr)(cdv ct:Value)(us:List Value),us.length=ps.length->bindArgs (PySem.W.fnOf m qual (fm st) (b0 st) (aC st) .none kV doc pm an cdv ct) ⟨us,[]⟩=pure (ps.zip us))
  (hm:Meth K C m f) (l:K.lookup f=some ⟨oc,od,.func (PySem.W.fnOf m qual (fm st) (b0 st) (aC st) .none kV dc pm an cd ct),sl⟩)
  (c:PySem.W.codeIn K cd qual=true) (k:PySem.W.keepIn K (.ref f)=true):∃f fd,Fun K m qual st f fd/\Binds K fd ps []/\Meth K C m f :=
 have F:=yR (st:=st) l c k
 ⟨f,_,F,F.binds hb,hm⟩
end L2
set_option maxHeartbeats 4000000
namespace L2
open PySem PySem.Spec PyProof.Rows
variable {vs:Array Value}{P:Addr}
def Ei{o:Obj}(h1:PySem.W.nsIn K mainGlobals x=some (some (.ref f)))(h2:K.lookup f=some ⟨oc,od,.func fd,sl⟩)(h3:fd.code=.ref c)(h4:K.lookup c=some o)(h5:o.data=.fields vs)(h6:vs[11]?=some (.ref P)):PySem.W.tabIn K x=some (c,P):=by obtain⟨cl,di,da,so⟩:=o;cases h5;unfold PySem.W.tabIn;rw[h1];simp only;rw[h2];simp only;rw[h3];simp only;rw[h4];simp only;rw[h6]
def BR(hl:l7=[x]){p:Program}{d:DefRec}(hr:(recsOf p).find? (λe=>e.name==x)=some d)(hn:PySem.W.noTabs K=true)(T:Top p loose mean mg mb h)(X:K.In h):mS K h:=by
 refine⟨λP q ⟨x',hx,f,oc,od,fd,sl,c,h1,h2,h3,⟨o,vs,h4,h5,h6⟩,hq⟩=>?_,λP q q' ⟨x1,hx1,_,_,_,_,_,_,_,_,_,_,e1⟩ ⟨x2,hx2,_,_,_,_,_,_,_,_,_,_,e2⟩=>?_⟩
 ·rw[hl]at hx;cases NA.mp hx;have ht:=Ei h1 h2 h3 h4 h5 h6;obtain⟨hc,hp⟩:=PySem.W.tab_of T X hr ht;refine⟨hp,?_,?_⟩
  ·cases z:K.lookup P with
   |none=>rfl
   |some o' =>exfalso;have e:=X P o' z;rw[hp]at e;cases e;have h7:=NM.mp hn (P,_) (PySem.W.mem_of_lookupK z);exact absurd (show false=true from h7) NO
  ·obtain⟨o2,vs2,_,_,_,_,_,_,_,g1,g2,g3,g4,_⟩:=hc;exact⟨c,o2,vs2,g1,g2,g3,g4⟩
 ·rw[hl]at hx1 hx2;rw[e1,e2,NA.mp hx1,NA.mp hx2]
def B5{file:Str}{tf:Nat}{flags text:Int}{tg tt:Nat}{inF:Bool}(l:K.lookup c=some ⟨.type "code",od,.fields vs,sl⟩)(h11:vs[11]?=some (.ref P))(h18:vs.getD 18 .none=.str file tf)(h7:vs.getD 7 .none=.int flags tg)(h9:vs.getD 9 .none=.bool inF)(h10:vs.getD 10 .none=.int text tt)(ne:(c != P)=true):PySem.W.codeHdIn K c P=true:=by unfold PySem.W.codeHdIn;rw[l];simp only;rw[h11,h18,h7,h9,h10,ne];simp
def HN{od2:Option Addr}{sl2:Array (Option Value)}{file:Str}{tf:Nat}{flags text:Int}{tg tt:Nat}{inF:Bool}(h1:PySem.W.nsIn K mainGlobals x=some (some (.ref f)))(h2:K.lookup f=some ⟨oc,od,.func fd,sl⟩)(h3:fd.code=.ref c)(l:K.lookup c=some ⟨.type "code",od2,.fields vs,sl2⟩)(h11:vs[11]?=some (.ref P))(h18:vs.getD 18 .none=.str file tf)(h7:vs.getD 7 .none=.int flags tg)(h9:vs.getD 9 .none=.bool inF)(h10:vs.getD 10 .none=.int text tt)(ne:(c != P)=true):GQ K x :=
 ⟨f,oc,od,fd,sl,c,P,_,vs,h1,h2,h3,l,rfl,h11,B5 l h11 h18 h7 h9 h10 ne⟩
def zP(hl:l7=[x]){p:Program}(hr:((recsOf p).find? (λe=>e.name==x)).isSome=true)(hn:PySem.W.noTabs K=true)(T:Top p loose mean mg mb h)(X:K.In h):mS K h:=by obtain⟨d,hd⟩:=Option.isSome_iff_exists.mp hr;exact BR hl hd hn T X
end L2
set_option hygiene false
local macro_rules | `(tactic| and_intros)=>`(tactic| first|(refine' RS.FO KX G (λ_ _ _ _ _ _ us hl=>by obtain⟨f,rfl⟩:=RS.CJ PySem.Value.none hl;rfl) ?za ?zl ?zc ?zk;(case za=>k_is);(case zl=>k_is);(case zc=>k_is);(case zk=>k_is))|(refine' L2.HR (λ_ _ _ _ _ _ us hl=>by obtain⟨f,rfl⟩:=RS.CJ PySem.Value.none hl;rfl) ⟨?zm,?zf,?zp⟩ ?zl ?zc ?zq;(case zm=>k_is);(case zf=>k_is);(case zp=>k_is);(case zl=>k_is);(case zc=>k_is);(case zq=>k_is))|(refine' PySem.W.mg_of KX G ?za;(case za=>k_is))|(refine' PySem.W.mg_none_of KX G ?zz;(case zz=>k_is))|(refine' RS.F9 KX G ?zz;(case zz=>k_is))|(refine' RS.AQ KX G ?za ?ze;(case za=>k_is);(case ze=>k_exc))|(refine'⟨_,RS.AQ KX G ?za ?ze⟩;(case za=>k_is);(case ze=>k_exc))|(refine'⟨?zp,?zh,?zo,?zs⟩;(case zp=>k_is);(case zh=>k_is);(case zo=>k_is);(case zs=>k_is))|(refine' L2.HI (λ_ _ _ _ _ _ us hl=>by obtain⟨f,rfl⟩:=RS.CJ PySem.Value.none hl;rfl) ?za ?zi ?zl ?zc ?zk ?zm ?zx;(case za=>k_is);(case zi=>k_is);(case zl=>k_is);(case zc=>k_is);(case zk=>k_is);(case zm=>k_is);(case zx=>k_is))|exact List.forall_mem_nil _|((first|refine List.forall_mem_cons.2 ⟨?_,?_⟩|refine List.forall_mem_singleton.2 ?_) <;> (try dsimp only) <;> and_intros)|(refine' L2.HN ?za ?zb ?zc ?zd ?ze ?zf ?zg ?zh ?zi ?zj;(case za=>k_is);(case zb=>k_is);(case zc=>exact rfl);(case zd=>k_is);(case ze=>exact rfl);(case zf=>exact rfl);(case zg=>exact rfl);(case zh=>exact rfl);(case zi=>exact rfl);(case zj=>decide))|exact λg e=>PySem.W.mg_of KX G e|(delta L2.e9;k_is)|(dsimp only;and_intros))
open PySem PySem.W PyProof.Rows
set_option maxRecDepth 100000 in
set_option maxHeartbeats 0 in
theorem PySem.Challenge.cw_ranksure_k30_whole_calendar_within_holds : PySem.Challenge.rw_ranksure_k30_whole_calendar_within.Holds := by
 refine RS.hdTop ?_
 k_fill
 refine RS.L9 (l:=PySem.Challenge.rw_ranksure_k30_whole_calendar_within) (n:=63) (k:=9) (x:="_law_script") (st:=RS.top 63) rfl (by decide) rfl ⟨rfl,by decide,by decide⟩ (λw h Y=>PySem.W.km_in_of Y) (λ_ _ _ _ _ _ us hl=>by obtain⟨f,rfl⟩:=RS.CJ PySem.Value.none hl;rfl) ?F (λw h l m mg mb T X=>L2.zP (x:="picked") rfl (by kernel_rfl) (by kernel_rfl) T X)
 case F =>
  intro w mg h KX G;obtain⟨c_NoComings,h_NoComings⟩:∃C,L2.oJ (L2.KOf KX) mg "NoComings" C:=by delta L2.KOf;and_intros
  obtain⟨c_NoErrand,h_NoErrand⟩:∃C,L2.oJ (L2.KOf KX) mg "NoErrand" C:=by delta L2.KOf;and_intros
  obtain⟨c_NoErrands,h_NoErrands⟩:∃C,L2.oJ (L2.KOf KX) mg "NoErrands" C:=by delta L2.KOf;and_intros
  obtain⟨c_NoRanks,h_NoRanks⟩:∃C,L2.oJ (L2.KOf KX) mg "NoRanks" C:=by delta L2.KOf;and_intros
  obtain⟨c_TooLong,h_TooLong⟩:∃C,L2.oJ (L2.KOf KX) mg "TooLong" C:=by delta L2.KOf;and_intros
  obtain⟨c_Holding,h_Holding,k_Holding⟩:∃C,mg "Holding"=some (.ref C)/\RS.qF (L2.KOf KX) C:=by
   delta L2.KOf
   refine'⟨_,PySem.W.mg_of KX G ?za,⟨?zp,?zh,?zo,?zs⟩,?yHolding0,?yHolding1⟩
   (case za=>k_is);(case zp=>k_is);(case zh=>k_is);(case zo=>k_is);(case zs=>k_is);all_goals and_intros
  obtain⟨c_Jobs,h_Jobs,k_Jobs⟩:∃C,mg "Jobs"=some (.ref C)/\RS.AH (L2.KOf KX) C:=by
   delta L2.KOf
   refine'⟨_,PySem.W.mg_of KX G ?za,⟨?zp,?zh,?zo,?zs⟩,?yJobs0,?yJobs1,?yJobs2,?yJobs3,?yJobs4,?yJobs5,?yJobs6⟩
   (case za=>k_is);(case zp=>k_is);(case zh=>k_is);(case zo=>k_is);(case zs=>k_is);all_goals and_intros
  have T:RS.Tx (L2.KOf KX) mg ⟨0,c_NoErrands,c_NoRanks,c_NoComings,c_NoErrand,0,c_TooLong,0,c_Holding,c_Jobs⟩:=by constructor <;> first|assumption|((try delta L2.KOf);and_intros)
  exact⟨T.f_law,λf fd F base hb hn hB=>RS.law_ok _ _ ⟨T,hB,hb⟩ F⟩
end
