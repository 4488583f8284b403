import PyProof.Rows.All
import OpenK.AllK
import PySem.Challenge.RW_ranksure_k04_run
import KE.RegKIsAll
import Wide.All
import OpenK.KWalk
import OpenK.KMake
import OpenK.KDescr
import OpenK.KCall
import OpenK.KOwn
import KE.KIsAll
import KE.KItem
import KE.KxBytes
import Wide.FinOn
import Lean
import PyProof.EqAt
import PyProof.EqKinds
import PyProof.TupleCall
import KE.KLam
import KE.LcSums
import PyProof.Rows.EqDataRows
import PyProof.RulesAs
import PyProof.ZipIter
import PyProof.Draws
import KE.KMinKey
import PyProof.Rows.TupAdd
import PyProof.ListMulRoad
import PyProof.AutoListH
import PyProof.Rows.Range3
import PyProof.ListRange
import PyProof.EnumMake
import PyProof.EnumFor
import PyProof.Rows.SetFrom
import PyProof.WalksMore
import PyProof.StrOps2
import PyProof.Rows.MinMaxN
import PyProof.ConsumeWalk
import PyProof.Rows.SortWalk
import PyProof.ExcArgsOwn
import PyProof.StrBlock2
import PyProof.Rows.CallKwBuiltin
import KE.KDictLaws
import KE.KDictMeth
import KE.KDictObj
import KE.KDictLetter
import OpenK.KDict
import KE.KDictOf
import PyProof.Rows.RegDictMethods
import PySem.PyData
import KE.KNestM
import PyProof.DictWalks
import PyProof.AttrMissHeap
noncomputable section
set_option genSizeOf false
set_option genSizeOfSpec false
set_option genInjectivity false
set_option compiler.extract_closed false
set_option bootstrap.genMatcherCode false
set_option Elab.async false
set_option linter.all false
abbrev M1:=@List.getElem?_eq_getElem
abbrev M3:=@PySem.Heap.get?_push_of_some
abbrev M4:=@List.length_map
abbrev M5:=@List.map_cons
abbrev M6:=@List.mem_cons_of_mem
abbrev M7:=@List.mem_cons_self
abbrev M8:=@List.mem_cons
abbrev M9:=@List.getD_eq_getElem?_getD
abbrev Mc:=@List.getElem?_map
abbrev Md:=@List.mem_append_right
abbrev Me:=@Nat.le_refl
abbrev Mf:=@Nat.ne_of_lt
abbrev Mg:=@PySem.Heap.lt_size
abbrev Mh:=@List.mem_singleton
abbrev Mi:=@Bool.false_ne_true
abbrev Mj:=@List.mem_map
abbrev Ml:=@PySem.Heap.get?_push_size
abbrev Mm:=@Bool.and_eq_true
abbrev Mn:=@List.mem_filter
abbrev Mo:=@List.size_toArray
abbrev Mp:=@List.length_cons
abbrev Mq:=@Nat.lt_of_lt_of_le
abbrev Mr:=@List.length_append
abbrev Ms:=@List.map_map
abbrev Mt:=@List.not_mem_nil
abbrev Mu:=@List.all_eq_true
abbrev Mv:=@List.map_congr_left
abbrev Mw:=@Bool.false_eq_true
abbrev Mx:=@List.mem_append
abbrev My:=@List.getElem?_eq_some_iff
abbrev Mz:=@List.getElem?_append_left
abbrev MA:=@List.getElem?_set_ne
abbrev MB:=@List.lookup_cons
abbrev MC:=@List.foldl_cons
abbrev MD:=@List.getElem?_append_right
abbrev ME:=@Int.toNat_natCast
abbrev MF:=@List.mem_append_left
abbrev MG:=@List.nodup_cons
abbrev MH:=@List.getElem_mem
abbrev MI:=@List.getElem?_set_self
abbrev MJ:=@PySem.Heap.get?_update_other
abbrev MK:=@List.nil_append
abbrev ML:=@Nat.lt_succ_of_lt
abbrev MM:=@List.length_nil
abbrev MN:=@Option.map_some
abbrev MO:=@List.cons_append
abbrev MP:=@List.length_pos_iff
abbrev MQ:=@List.length_singleton
abbrev MR:=@Nat.zero_le
abbrev MS:=@List.mem_of_getElem?
abbrev MT:=@List.mem_of_find?_eq_some
abbrev MU:=@Nat.ne_of_gt
abbrev MV:=@Bool.and_eq_false_iff
abbrev MW:=@List.getElem?_eq_none
abbrev MX:=@Nat.zero_add
abbrev MY:=@List.find?_cons
abbrev MZ:=@List.getElem?_cons_zero
abbrev N0:=@Bool.and_eq_true_iff
abbrev N1:=@Option.map_eq_some_iff
abbrev N2:=@List.mem_range
abbrev N3:=@List.append_nil
abbrev N4:=@List.map_append
abbrev N5:=@Nat.le_trans
abbrev N6:=@Nat.le_add_right
abbrev N7:=@Option.bind_some
abbrev N8:=@List.map_id
abbrev N9:=@List.getElem?_cons_succ
abbrev Na:=@List.replicate_succ
abbrev Nb:=@List.getElem_of_mem
abbrev Nc:=@List.map_nil
abbrev Nd:=@List.any_eq_true
abbrev Nf:=@List.filter_cons
abbrev Ng:=@List.drop_eq_getElem_cons
abbrev Nh:=@Option.isSome_iff_exists
abbrev Ni:=@Int.emod_nonneg
abbrev Nj:=@List.any_cons
abbrev Nk:=@Nat.lt_succ_self
abbrev Nl:=@Option.getD_some
abbrev Nm:=@Int.emod_lt_of_pos
abbrev Nn:=@Nat.lt_irrefl
abbrev Np:=@List.flatten_cons
abbrev Nq:=@List.getElem?_mapIdx
abbrev Nr:=@List.range'_succ
abbrev Nt:=@Int.toNat_of_nonneg
abbrev Nu:=@List.getElem?_range
abbrev Nv:=@List.take_succ_cons
abbrev Nw:=@List.length_eq_zero_iff
abbrev Nx:=@Option.bind_eq_some_iff
abbrev Ny:=@Bool.and_true
abbrev Nz:=@Int.natCast_nonneg
abbrev NA:=@List.set_cons_succ
abbrev NB:=@List.set_cons_zero
abbrev NC:=@Int.mul_le_mul_of_nonneg_right
abbrev ND:=@List.find?_some
abbrev NF:=@Nat.le_succ
abbrev NG:=@List.nodup_append
abbrev NH:=@PySem.Heap.get?_update_self
abbrev NI:=@List.ext_getElem
abbrev NJ:=@List.getElem_map
abbrev NK:=@List.all_cons
abbrev NL:=@List.exists_cons_of_ne_nil
abbrev NM:=@List.sum_cons
abbrev NN:=@List.filterMap_cons
abbrev NO:=@List.of_mem_zip
abbrev NP:=@List.forIn_cons
abbrev NQ:=@List.pairwise_iff_getElem
abbrev NR:=@List.zip_cons_cons
abbrev NS:=@List.find?_eq_none
abbrev NT:=@List.pairwise_cons
abbrev NU:=@List.getElem?_replicate
abbrev NV:=@PySem.Value.isInt_shape
abbrev NW:=@List.append_assoc
abbrev NX:=@List.length_range
abbrev NY:=@Option.isSome_map
abbrev NZ:=@Bool.true_and
abbrev O0:=@Array.getElem?_toList
abbrev O1:=@List.set_append_right
abbrev O2:=@List.filter_map
abbrev O3:=@List.mem_of_mem_take
abbrev O4:=@Array.length_toList
abbrev O5:=@List.mem_map_of_mem
abbrev O6:=@List.nodup_nil
abbrev O7:=@List.mem_filterMap
abbrev O8:=@List.ne_nil_of_mem
abbrev O9:=@Int.lt_of_lt_of_le
abbrev Oa:=@Bool.not_eq_true'
abbrev Ob:=@Nat.le_of_lt
abbrev Oc:=@Nat.succ_ne_self
abbrev Od:=@List.drop_length
abbrev Oe:=@List.take_length
abbrev Of:=@Nat.lt_trans
abbrev Og:=@Int.le_refl
variable {p pos pos' cpos spos pn pa p2 kp:Pos}{q P prog:Program}{loose N M ps own names:List Str}{α β:Type}{us its':List Value}{a b it c C dx f D:Addr}{h base h':Heap}{items its:Array Value}{w:World}{ob:Obj}{g':Array GenState}{i n x1 n0:Nat}{x m qual:Str}{A fp B A0 as:List Addr}{E Q:Value->Shared->Prop}{u cd pm ct oc:Value}{s' s:Shared}{e tg body iter elt:Expr}{pins:List (Addr×Obj)}{op:CmpOp}{K:PySem.W.Frag}{l:List (Int×Int)}{lo t T many span:Int}{mA mg mb:Str->Option Value}{env:Env}{outer:List Env}{fd:FuncData}{scope:Scope}{params:Arguments}{an od:Option Addr}{osl sl:Array (Option Value)}{sp ns rs:List Int}{XP:(Str->Option Value)->Heap->Prop}{YP:World->Heap->Prop}{st:Stmt}{cl:List (Str×Addr)}{ifs elts:List Expr}{ds told:List PyData}{newId:String}{O cap:List Nat}{ss:List Stmt}{tl:List (Str×Int)}{rows:List (List Int)}{tops R:PyData}{x8 x9 x10 x11 x12 x13 x7:Option PyData}{asked:Bool}{mean:ExcName->Option Value}
namespace RS
open PySem PySem.W PyProof.Rows
def yQ(p:Program)(w:World)(m:Nat)(ann:Option Value):Nat->SharedT->Thread->Option SharedT
 |0,_,_=>none
 |n+1,s,t=>match through t with
  |true=>some s
  |false=>match Fast.tw6613529449190102663 m ann t with
   |false=>none
   |true=>match Fast.tw10156331382660048174 (Fast.tw11892475500146522536 Fast.tw14364793385576792824) p w s t with
    |some x=>yQ p w m ann n x.1 x.2
    |none=>none
theorem uM{p:Program}{w:World}{m:Nat}{ann:Option Value}:∀{n:Nat}{s s':SharedT}{t:Thread},yQ p w m ann n s t=some s'->topRun treeTable p w m ann n s.abs t=some s'.abs
 |0,_,_,_,h=>by cases h
 |n+1,s,s',t,h=>by
  unfold yQ at h;rw[<-Fast.te6613529449190102663,<-Fast.te10156331382660048174,<-Fast.te11892475500146522536,<-Fast.te14364793385576792824]at h;unfold topRun;cases ht:through t with
  |true=>rw[ht]at h;cases h;rfl
  |false =>
   rw[ht]at h;cases hk:stepOk m ann t with
   |false=>rw[hk]at h;cases h
   |true =>
    rw[hk]at h;cases hs:stepT (denote treeTable) p w s t with
    |none=>rw[hs]at h;cases h
    |some x =>rw[hs]at h;rw[stepT_spec (s':=x.1) (t':=x.2) hs];exact uM h
noncomputable def IF(l:List Obj):BT:=(l.foldl (λx o=>(x.1.ins x.2 o,x.2+1)) (BT.nil,0)).1
def hdS(w:World)(os:OsState):SharedT:=⟨IF (boot_heap w.params).objs.toList,11,(boot_heap w.params).life,Array.mk [],boot_drawn,boot_toks,os⟩
theorem GF(w:World):(λos=>(hdS w os).abs)=λos=>⟨boot_heap w.params,Array.mk [],boot_drawn,boot_toks,os⟩:=by kernel_rfl
theorem JH(w:World):((boot_heap w.params).isNs mainGlobals&&(Array.mk []:Array GenState).size==0,(boot_heap w.params).objs.size,(boot_heap w.params).nsMap mainGlobals "__annotations__")=(true,11,some (.ref 6)):=by kernel_rfl
def BH(p q:Program)(loose:List Str)(Xt:Shared->Bool){α:Type}(Yf:Shared->α)(h:Heap)(s:Shared) :=
 (staticsOk (importedModules p.main.body) h s.heap&&namesBound p s.heap&&gensDone s&&laidKept h s.heap,Fast.tw4187177175401517315 q loose (importedModules p.main.body) Xt true s,Yf s)
theorem IZ{p:Program}{Xt:Shared->Bool}{Yf:Shared->α}{Ya:World->α}{N M:Nat}
  (e:opening p=plainProg p.main.scope.names) (a:Nat.ble 600 N=true) (f:∀s,fenceModules? p s=some s) (le:Nat.ble M N=true)
  (h:∀w,(λos=>(yQ p w 11 (some (.ref 6)) M (hdS w os) (topStub p)).map λs=>BH p q loose Xt Yf (boot_heap w.params) s.abs)=λ_=>some (true,openGood q loose,Ya w)):LeftO p q loose Xt Yf Ya N:=λw=>by
 obtain⟨⟨b,gs,d,k,os⟩,e1,c⟩:=N1.mp (boot_open e a f w);obtain⟨rfl,rfl,rfl,rfl⟩:b=boot_heap w.params/\gs=Array.mk []/\d=boot_drawn/\k=boot_toks:=by simpa using c
 obtain⟨z1,z2,z3⟩:_/\_/\_:=by simpa only[Prod.mk.injEq] using JH w
 obtain⟨s,g,hv⟩:=N1.mp (congrFun (h w) os);obtain⟨l1,l2,l3⟩:_/\_/\_:=by simpa only[BH,<-Fast.te4187177175401517315,Prod.mk.injEq] using hv
 have r:=uM g;rw[congrFun (GF w) os]at r;have r:=topRun_mono (N-M) _ _ _ _ r;rw[show M+(N-M)=N by have:=Nat.le_of_ble_eq_true le;omega]at r;unfold openEnds;rw[e1];show (topFrom treeTable p w N _).map _=_;have t:topFrom treeTable p w N ⟨boot_heap w.params,Array.mk [],boot_drawn,boot_toks,os⟩=some s.abs:=by unfold topFrom;dsimp only;rw[z1,z2,z3,r];show (match staticsOk (importedModules p.main.body) (boot_heap w.params) s.abs.heap&&namesBound p s.abs.heap&&gensDone s.abs&&laidKept (boot_heap w.params) s.abs.heap with|true=>_|false=>_)=_;rw[l1]
 rw[t];exact congrArg some (Prod.ext l2 l3)
end RS
section
open PySem PySem.W PyProof.Rows
def RS.vw:Program:=view PySem.Challenge.pw_ranksure_k04_run [1,2,3,4,6,7,8,9,10,11,12,13,14,15,16,17,18,19,20,21,22,24,25,26,27,28,29,30,31,32,33,34,35,37,38,39,40,41,42,43,44,45,46,47,48,49]
local macro_rules | `(tactic| o_head $H)=>`(tactic| (refine holds_open (N:=4694) (Xt:=λs=>xlAt RS.vw [] s&&recOk (RowW.records (OpenRow.toRowW (OpenLaw.row PySem.Challenge.rw_ranksure_k04_run))) s) (XP:=XL RS.vw []) (q:=RS.vw) (loose:=[]) (Yf:=Hook.obs $H) (Ya:=Hook.val $H) (YP:=Hook.says $H) ?hl (Hook.of $H) (Hook.keeps $H) (λs e=>xl_of s (N0.mp e).1) XL.keeps (by rfl) (by rfl) (by rfl) (λs e=>recFacts_of (N0.mp e).2) (by rfl) (by assumption) (by decide +kernel) ⟨rfl,rfl,rfl,rfl,rfl,by decide +kernel⟩ ?hw ?hc;(case hl=>refine RS.IZ (M:=2397) (by kernel_rfl) (by rfl) (by intro s;kernel_rfl) (by rfl) λw=>?_;kernel_rfl)))
set_option maxRecDepth 100000 in
set_option maxHeartbeats 0 in
open_top RS.hdTop for PySem.Challenge.rw_ranksure_k04_run
end
set_option maxRecDepth 100000
namespace L2
open PySem PySem.Spec PyProof.Rows
variable {A:Around}{es:List Expr}{c:Expr}{M:Model}{g:Int->Int->Int}{body:List Stmt}
abbrev Key:=Sum Int Str
def rj:Key->Value->Bool
 |.inl k,v=>Value.isInt k v
 |.inr x,v=>Value.isStrOf x v
def fz(w:World):Key->Int
 |.inl k=>hashInt k
 |.inr x=>hashStr w x
theorem cK:∀{k:Key}{v:Value},rj k v=true->(∃i t,k=Sum.inl i/\v=Value.int i t)\/(∃x t,k=Sum.inr x/\v=Value.str x t)
 |.inl i,v,h=>by obtain⟨t,e⟩:=NV (k:=i) (v:=v) h;exact .inl ⟨i,t,rfl,e⟩
 |.inr x,v,h=>by obtain⟨t,e⟩:=Value.isStrOf_shape (x:=x) (v:=v) h;exact .inr ⟨x,t,rfl,e⟩
theorem zX(i:Int)(t:Tok):rj (.inl i) (.int i t)=true:=by simp[rj,Value.isInt]
theorem Ax(x:Str)(t:Tok):rj (.inr x) (.str x t)=true:=by simp[rj,Value.isStrOf]
theorem IK(a b:Int):decide ((Sum.inl a:Key)=Sum.inl b)=(a==b):=by
 by_cases e:a=b
 ·subst e;simp
 ·have h:¬ (Sum.inl a:Key)=Sum.inl b:=λq=>e (Sum.inl.inj q)
  rw[decide_eq_false h];exact (beq_eq_false_iff_ne.mpr e).symm
theorem HP(a b:Str):decide ((Sum.inr a:Key)=Sum.inr b)=decide (a=b):=by
 by_cases e:a=b
 ·subst e;simp
 ·have h:¬ (Sum.inr a:Key)=Sum.inr b:=λq=>e (Sum.inr.inj q)
  rw[decide_eq_false h,decide_eq_false e]
theorem Jk(a:Int)(b:Str):decide ((Sum.inl a:Key)=Sum.inr b)=false:=decide_eq_false (λq=>nomatch q)
theorem IL(a:Str)(b:Int):decide ((Sum.inr a:Key)=Sum.inl b)=false:=decide_eq_false (λq=>nomatch q)
def br(prog:Program)(w:World):PySem.KeyKind prog w Key where
 is:=rj
 hash:=fz w
 inj:=λv a b ha c=>by
  rcases cK ha with⟨i,t,rfl,rfl⟩|⟨x,t,rfl,rfl⟩
  ·rcases cK c with⟨j,u,rfl,e⟩|⟨y,u,rfl,e⟩
   ·injection e with e1 _;rw[e1]
   ·exact nomatch e
  ·rcases cK c with⟨j,u,rfl,e⟩|⟨y,u,rfl,e⟩
   ·exact nomatch e
   ·injection e with e1 _;rw[e1]
 byValue:=λk v h=>by rcases cK h with⟨i,t,rfl,rfl⟩|⟨x,t,rfl,rfl⟩ <;> rfl
 pyHash:=λhv h=>by
  rcases cK hv with⟨i,t,rfl,rfl⟩|⟨x,t,rfl,rfl⟩
  ·exact wpAny_pyHash_int h
  ·exact wpAny_pyHash_str h
 eqBool:=λf hv h=>by
  rcases cK f with⟨i,t,rfl,rfl⟩|⟨x,t,rfl,rfl⟩
  ·rcases cK hv with⟨j,u,rfl,rfl⟩|⟨y,u,rfl,rfl⟩
   ·rw[IK]at h;exact wpAny_eqBool_int h
   ·rw[Jk]at h;exact SeqAt.EqAt.int_str i t y u _ _ _ _ h
  ·rcases cK hv with⟨j,u,rfl,rfl⟩|⟨y,u,rfl,rfl⟩
   ·rw[IL]at h;exact SeqAt.EqAt.str_int x t j u _ _ _ _ h
   ·rw[HP]at h;exact wpAny_eqBool_str h
 «strs»:=λk x t v h=>by
  rcases cK h with⟨i,u,rfl,e⟩|⟨y,u,rfl,e⟩
  ·exact nomatch e
  ·injection e with e1 _
   subst e1;cases v <;> rfl
theorem nz(prog:Program)(w:World)(i:Int)(t:Tok):(br prog w).is (.inl i) (.int i t)=true:=zX i t
theorem vE(prog:Program)(w:World)(x:Str)(t:Tok):(br prog w).is (.inr x) (.str x t)=true:=Ax x t
inductive V where
 |non|bl (b:Bool)|int (i:Int)|str (x:Str)|byt (b:Array UInt8)|flt (b:UInt64)|ref (a:Addr)|ty (n:String)
 deriving DecidableEq
variable {xs vs:List V}{v:V}
noncomputable def RelV:V->Value->Prop
 |.non,u=>u=Value.none
 |.bl b,u=>u=Value.bool b
 |.int i,u=>∃t,u=Value.int i t
 |.str x,u=>∃t,u=Value.str x t
 |.byt b,u=>∃t,u=Value.bytes b t
 |.flt b,u=>∃t,u=Value.float b t
 |.ref a,u=>u=Value.ref a
 |.ty n,u=>u=Value.type n
abbrev Vals:List V->List Value->Prop:=Paired RelV
theorem Vals.length(r:Vals xs us):xs.length=us.length:=Paired.length r
theorem Vals.get:∀{xs:List V}{us:List Value}{i:Nat}{x:V},Vals xs us->xs[i]?=some x->∃u,us[i]?=some u/\RelV x u
 |_,_,_,_,.nil,e=>by simp at e
 |_,_,0,_,.cons r _,e=>by simp at e;subst e;exact⟨_,rfl,r⟩
 |_,_,i+1,x,.cons _ t,e=>by obtain⟨u,h1,h2⟩:=Vals.get (i:=i) (x:=x) t (by simpa using e);exact⟨u,by simpa using h1,h2⟩
theorem Vals.set{x:V}{u:Value}(r:RelV x u):∀{xs:List V}{us:List Value}(i:Nat),Vals xs us->Vals (xs.set i x) (us.set i u)
 |_,_,_,.nil=>.nil
 |_,_,0,.cons _ t=>.cons r t
 |_,_,i+1,.cons q t=>.cons q (Vals.set r i t)
theorem Vals.append{ys:List V}{ws:List Value}(h:Vals xs us)(s:Vals ys ws):Vals (xs++ys) (us++ws):=by
 induction h with
 |nil=>exact s
 |cons r t ih=>exact .cons r ih
def ji:Option V->Option Value->Prop
 |some v,some u=>RelV v u
 |none,none=>True
 |_,_=>False
def KV{κ:Type}:List (κ×V)->List (κ×Value)->Prop:=Paired λ(p:κ×V)(q:κ×Value)=>p.1=q.1/\RelV p.2 q.2
def kV:Key->V
 |.inl i=>.int i
 |.inr x=>.str x
inductive HO where
 |lst (xs:List V)
 |tup (xs:List V)
 |dK (kvs:List (Key×V))|dT (kvs:List (List Key×V))
 |set (S:Int->Bool) (n:Nat)
 |ins (C dx:Addr) (fs:List (Str×V))
 |own (x:Addr)
 |xd (fs:List (Str×V))
 |met (f x:Addr)
 |rng (lo hi:Int)
 |frz (o:Obj) (u:HO)
 |tbl (q:Str)
 |ext (φ:Heap->Prop)
variable {o:HO}
abbrev Hp:=Addr->Option HO
variable {H:Hp}{R:V->V->Hp->Prop}
noncomputable def upd(H:Hp)(a:Addr)(o:HO):Hp:=λb=>if b=a then some o else H b
theorem aH:upd H a o a=some o:=by unfold upd;rw[if_pos rfl]
theorem aB(h:b≠a):upd H a o b=H b:=by unfold upd;rw[if_neg h]
theorem Kf{u:HO}(h:H a=some o)(h':H b=some u)(d:o≠u):a≠b:=by intro e;subst e;rw[h]at h';exact d (Option.some.inj h')
theorem aK(h:H a=some o)(h':H b=none):a≠b:=by intro e;subst e;rw[h]at h';cases h'
def vY(h:Heap)(a:Addr)(items:Array Value):Prop:=∃o,h.get? a=some o/\o.cls=.type "tuple"/\o.dict=none/\∃n,o.data=.seq items n
theorem vY.tup(x:vY h a items):IsTup h a items:=by obtain⟨o,e,c,_,n,d⟩:=x;exact⟨o,e,c,n,d⟩
theorem vY.new(h:Heap)(items:Array Value):vY (h.push { cls:=.type "tuple",data:=.seq items }) h.objs.size items:=⟨_,Ml _ rfl,rfl,rfl,_,rfl⟩
section
variable (P:Program)(w:World)
def cE(H:Hp)(h:Heap)(a:Addr):HO->Prop
 |.lst xs=>xs.length<=sizeLine/\∃(its:List Value)(n:Nat),Vals xs its/\h.get? a=some { cls:=.type "list",data:=.seq its.toArray n }
 |.tup xs=>xs.length<=sizeLine/\∃its:List Value,Vals xs its/\vY h a its.toArray
 |.dK kvs=>kvs.length<=sizeLine/\(a==sysModules)=false/\∃vs,KV kvs vs/\h.DictOf (br P w) a vs
 |.dT kvs=>kvs.length<=sizeLine/\(a==sysModules)=false/\∃xs:List (List Key×Addr×Value),
  Paired (λ(p:List Key×V)(q:List Key×Addr×Value)=>p.1=q.1/\H q.2.1=some (.tup (p.1.map kV))/\RelV p.2 q.2.2) kvs xs /\
  ∃o es ep,h.get? a=some o/\o.ExactDict/\o.data=.dict es ep/\es.toList=xs.map (entryOfKey (tupleKind (br P w)))/\(xs.map (·.1)).Nodup
 |.set S n=>h.SetOf (intKind P w) a S n
 |.ins C dx fs=>H dx=some (.own a)/\fs.length<=1000/\dx≠a/\h.get? a=some (W.instObj C dx) /\
  ∃mA,h.Ns1 dx mA/\(∀f,ji (fs.lookup f) (mA f))/\PySem.Within mA (fs.map (·.1))
 |.own _=>∃o,h.get? a=some o
 |.xd fs=>∃mA,h.Ns1 a mA/\∀f,ji (fs.lookup f) (mA f)
 |.rng lo hi=>∃t u v,h.get? a=some { cls:=.type "range",data:=.fields #[.int lo t,.int hi u,.int 1 v] }
 |.frz o u=>h.get? a=some o/\cE H h a u
 |.tbl q=>∃ps:Array Value,h.get? a=some { cls:=.none,data:=.fields ps }/\TriplesOk ps.toList/\∀pos b,codeAmong pos ps.toList=some b->∃c' o vs t,b=.ref c'/\H c'=some (.frz o (.own c'))/\o.data=.fields vs/\vs[1]?=some (.str q t)
 |.met f x=>h.get? a=some (W.methodObj (.ref f) (.ref x))
 |.ext φ=>φ h/\(∃o,h.get? a=some o)/\∀h1 h2:Heap,φ h1->(∀o,h1.get? a=some o->h2.get? a=some o)->φ h2
def HOk(H:Hp)(h:Heap):Prop:=∀a o,H a=some o->cE P w H h a o
end
section
variable {H':Hp}
theorem cE.lt(x:cE P w H h a o):a<h.objs.size:=by
 cases o with
 |lst xs=>obtain⟨_,_,_,_,e⟩:=x;exact Mg e
 |tup xs=>obtain⟨_,_,_,p⟩:=x;exact p.tup.lt
 |dK kvs=>obtain⟨_,_,_,_,o,_,_,e,_⟩:=x;exact Mg e
 |dT kvs=>obtain⟨_,_,_,_,o,_,_,e,_⟩:=x;exact Mg e
 |set S n=>obtain⟨o,_,_,_,e,_⟩:=x;exact Mg e
 |ins C dx fs=>obtain⟨_,_,_,e,_⟩:=x;exact Mg e
 |own y=>obtain⟨_,e⟩:=x;exact Mg e
 |xd fs=>obtain⟨_,⟨_,_,_,e,_⟩,_⟩:=x;exact Mg e
 |rng lo hi=>obtain⟨_,_,_,e⟩:=x;exact Mg e
 |frz ob u=>obtain⟨e,_⟩:=x;exact Mg e
 |tbl q=>obtain⟨_,e,_⟩:=x;exact Mg e
 |met f y=>exact Mg (show h.get? a=some _ from x)
 |ext φ=>obtain⟨_,⟨_,e⟩,_⟩:=x;exact Mg e
theorem Paired.mapP{F G:α->β->Prop}{c:List α}{e:List β}(h:Paired F c e)(f:∀a b,F a b->G a b):Paired G c e:=by
 induction h with
 |nil=>exact .nil
 |cons r t ih=>exact .cons (f _ _ r) ih
theorem cE.stay(x:cE P w H h a o)(k:∀b u,(b=a\/H b=some (.own a))->h.get? b=some u->h'.get? b=some u)
  (g:∀b,H b=some (.own a)->H' b=some (.own a)) (i:∀b xs,H b=some (.tup xs)->H' b=some (.tup xs)) (j:∀b o u,H b=some (.frz o u)->H' b=some (.frz o u):=by exact λ_ _ _ q=>q):cE P w H' h' a o:=by
 induction o with
 |lst xs=>obtain⟨z,its,n,r,e⟩:=x;exact⟨z,its,n,r,k _ _ (.inl rfl) e⟩
 |tup xs=>obtain⟨z,its,r,ob,e,c⟩:=x;exact⟨z,its,r,ob,k _ _ (.inl rfl) e,c⟩
 |dK kvs=>obtain⟨z,y,vs,r,ob,es,ep,e,c⟩:=x;exact⟨z,y,vs,r,ob,es,ep,k _ _ (.inl rfl) e,c⟩
 |dT kvs =>obtain⟨z,y,xs,r,ob,es,ep,e,c⟩:=x;exact⟨z,y,xs,Paired.mapP r λp q z=>⟨z.1,i _ _ z.2.1,z.2.2⟩,ob,es,ep,k _ _ (.inl rfl) e,c⟩
 |set S n=>obtain⟨ob,es,ep,t,e,c⟩:=x;exact⟨ob,es,ep,t,k _ _ (.inl rfl) e,c⟩
 |ins C dx fs =>obtain⟨d,z,ne,e,mA,⟨od,es,ep,e2,c⟩,r⟩:=x;exact⟨g _ d,z,ne,k _ _ (.inl rfl) e,mA,⟨od,es,ep,k _ _ (.inr d) e2,c⟩,r⟩
 |own y=>obtain⟨ob,e⟩:=x;exact⟨ob,k _ _ (.inl rfl) e⟩
 |xd fs=>obtain⟨mA,⟨od,es,ep,e,c⟩,r⟩:=x;exact⟨mA,⟨od,es,ep,k _ _ (.inl rfl) e,c⟩,r⟩
 |rng lo hi=>obtain⟨t,u,v,e⟩:=x;exact⟨t,u,v,k _ _ (.inl rfl) e⟩
 |frz ob u ih=>obtain⟨e,q⟩:=x;exact⟨k _ _ (.inl rfl) e,ih q⟩
 |tbl q =>obtain⟨ps,e,t,c⟩:=x;exact⟨ps,k a _ (.inl rfl) e,t,λpos l z=>by obtain⟨c',o,vs,t',e1,e2,m⟩:=c pos l z;exact⟨c',o,vs,t',e1,j _ _ _ e2,m⟩⟩
 |met f y =>have e:h.get? a=some (W.methodObj (.ref f) (.ref y)):=x;show h'.get? a=some (W.methodObj (.ref f) (.ref y));exact k a _ (.inl rfl) e
 |ext φ=>obtain⟨p,⟨o,e⟩,st⟩:=x;exact⟨st _ _ p λo q=>k _ _ (.inl rfl) q,⟨o,k _ _ (.inl rfl) e⟩,st⟩
theorem HOk.lt(x:HOk P w H h)(e:H a=some o):a<h.objs.size:=(x a o e).lt
theorem HOk.fresh(x:HOk P w H h)(e:h.objs.size<=a):H a=none:=by
 cases q:H a with
 |none=>rfl
 |some u=>exact absurd (Mq (x.lt q) e) (Nn _)
theorem HOk.kept(x:HOk P w H h)(k:∀b u,h.get? b=some u->h'.get? b=some u):HOk P w H h':=λa o e =>
 (x a o e).stay (λb u _ q=>k b u q) (λ_ q=>q) λ_ _ q=>q
theorem HOk.laid(x:HOk P w H h)(k:∀b u,h.get? b=some u->h'.get? b=some u)(f:h.objs.size<=a)(new:cE P w (upd H a o) h' a o):HOk P w (upd H a o) h':=λb u e=>by
 have hn:=x.fresh f;by_cases hb:b=a
 ·subst hb;rw[aH]at e;cases e;exact new
 ·rw[aB hb]at e;exact (x b u e).stay (λc v _ q=>k c v q) (λc q=>by rw[aB (aK q hn)];exact q) (λc xs q=>by rw[aB (aK q hn)];exact q) λc ob w' q=>by rw[aB (aK q hn)];exact q
end
def Rd(H:Hp)(a:Addr)(u:HO):Prop:=H a=some u\/∃o,H a=some (.frz o u)
theorem Rd.ok{u:HO}(r:Rd H a u)(x:HOk P w H h):cE P w H h a u:=by
 rcases r with r|⟨o,r⟩
 ·exact x a u r
 ·obtain⟨_,q⟩:=x a _ r;exact q
def Mut:Option HO->Prop
 |some (.lst _)=>True
 |some (.dK _)=>True
 |some (.dT _)=>True
 |some (.set _ _)=>True
 |some (.ins _ _ _)=>True
 |some (.ext _)=>True
 |_=>False
section
variable {x e:Addr}{o':HO}
theorem HOk.write(ok:HOk P w H h)(f:Mut (H x))(l:e=x\/H e=some (.own x))(k:∀b u,b≠e->h.get? b=some u->h'.get? b=some u)(j:∃u,h'.get? e=some u)
  (new:cE P w (upd H x o') h' x o'):HOk P w (upd H x o') h':=λb u q=>by
 have a:∀c y,H c=some (.own y)->c≠x:=λc y r z=>by subst z;rw[r]at f;exact f
 have g:∀c xs,H c=some (.tup xs)->c≠x:=λc xs r z=>by subst z;rw[r]at f;exact f
 have i:∀c o u,H c=some (.frz o u)->c≠x:=λc o u r z=>by subst z;rw[r]at f;exact f
 by_cases hb:b=x
 ·subst hb;rw[aH]at q;cases q;exact new
 ·rw[aB hb]at q;by_cases hbe:b=e
  ·have m:H b=some (.own x):=by
    rcases l with z|z
    ·exact absurd (hbe.trans z) hb
    ·rw[hbe];exact z
   rw[q]at m;cases m;obtain⟨v,hv⟩:=j;exact⟨v,by rw[hbe];exact hv⟩
  ·refine (ok b u q).stay (λc v hc r=>k c v ?_ r) (λc r=>by rw[aB (a c b r)];exact r) (λc xs r=>by rw[aB (g c xs r)];exact r) λc o n r=>by rw[aB (i c o n r)];exact r
   rcases hc with rfl|hc
   ·exact hbe
   ·rintro rfl
    rcases l with z|z
    ·exact a c b hc z
    ·rw[hc]at z;cases z;exact hb rfl
end
structure Un(fs ex:List Addr)(H H':Hp)(h h':Heap):Prop where
 keep:∀b o,h.get? b=some o->H b=none->b∉fs->b∉ex->h'.get? b=some o
 slot:∀b o,h.get? b=some o->H b=none->b∈fs->b∉ex->∃sl,h'.get? b=some { o with slots:=sl }
 free:∀b o,h.get? b=some o->H b=none->b∉ex->H' b=none
 there:∀b o,h.get? b=some o->b∉ex->∃o',h'.get? b=some o'
 tups:∀b xs,H b=some (.tup xs)->H' b=some (.tup xs)
 frzs:∀b o u,H b=some (.frz o u)->H' b=some (.frz o u)
 tbls:∀b q,H b=some (.tbl q)->H' b=some (.tbl q)
section
variable {fs fs' ex ex':List Addr}{H1 H2:Hp}{h1 h2:Heap}{x e:Addr}
theorem Un.any(u:Un fs ex H H1 h h1)(q:h.get? b=some ob)(n:H b=none)(a:b∉ex):∃c,h1.get? b=some { ob with slots:=c }:=by
 by_cases hb:b∈fs
 ·exact u.slot b ob q n hb a
 ·exact⟨ob.slots,u.keep b ob q n hb a⟩
theorem Un.kept(k:∀b u,h.get? b=some u->h'.get? b=some u):Un fs ex H H h h' :=
 ⟨λb ob q _ _ _=>k b ob q,λb ob q _ _ _=>⟨ob.slots,k b ob q⟩,λ_ _ _ n _=>n,λb ob q _=>⟨ob,k b ob q⟩,λ_ _ q=>q,λ_ _ _ q=>q,λ_ _ q=>q⟩
theorem Un.refl:Un fs ex H H h h:=Un.kept λ_ _ q=>q
theorem Un.laid(k:∀b u,h.get? b=some u->h'.get? b=some u)(c:h.objs.size<=a)(hn:H a=none):Un fs ex H (upd H a o) h h' where
 keep:=λb u q _ _ _=>k b u q
 slot:=λb u q _ _ _=>⟨u.slots,k b u q⟩
 free:=λb u q n _=>by rw[aB (Mf (Mq (Mg q) c))];exact n
 there:=λb u q _=>⟨u,k b u q⟩
 tups:=λb xs q=>by rw[aB (aK q hn)];exact q
 frzs:=λb u xs q=>by rw[aB (aK q hn)];exact q
 tbls:=λb ps q=>by rw[aB (aK q hn)];exact q
theorem Un.write(a:Mut (H x))(i:e=x\/H e=some (.own x))(k:∀b u,b≠e->h.get? b=some u->h'.get? b=some u)(c:∃u,h'.get? e=some u):Un fs ex H (upd H x o) h h':=by
 have f:∀b,H b=none->b≠x:=λb n z=>by subst z;rw[n]at a;exact a
 have g:∀b,H b=none->b≠e:=λb n z=>by
  subst z;rcases i with r|r
  ·exact f b n r
  ·rw[n]at r;cases r
 have hm:∀b u,H b=some u->¬ Mut (some u)->b≠x:=λb u q nm z=>by subst z;rw[q]at a;exact nm a
 refine⟨λb u q n _ _=>k b u (g b n) q,λb u q n _ _=>⟨u.slots,k b u (g b n) q⟩,λb u q n _=>by rw[aB (f b n)];exact n,λb u q _=>?_,
  λb xs q=>by rw[aB (hm b _ q λz=>z)];exact q,λb u xs q=>by rw[aB (hm b _ q λz=>z)];exact q,λb ps q=>by rw[aB (hm b _ q λz=>z)];exact q⟩
 by_cases hbe:b=e
 ·subst hbe;exact c
 ·exact⟨u,k b u hbe q⟩
end
def trk(h:Heap)(H:Hp):List Addr:=(List.range h.objs.size).filter λa=>(H a).isSome
def qH(h:Heap)(H:Hp):Heap:=W.hideAll h (trk h H)
theorem zM(h:Heap)(H:Hp):(qH h H).objs.size=h.objs.size:=W.hideAll_size _ _
theorem Ec{o:Obj}(e:h.get? b=some o)(n:H b=none):(qH h H).get? b=some o :=
 W.hideAll_get _ e λhm=>by have q:(H b).isSome=true:=(Mn.mp hm).2;rw[n]at q;simp at q
theorem ET{o:Obj}(e:(qH h H).get? b=some o):h.get? b=some o/\H b=none:=by
 have a:h.get? b=some o:=W.of_hideAll (trk h H) e;refine⟨a,?_⟩;cases q:H b with
 |none=>rfl
 |some x =>have hm:b∈trk h H:=Mn.mpr ⟨N2.mpr (Mg a),by simp[q]⟩;have z:(qH h H).get? b=none:=W.hideAll_none (trk h H) hm;rw[z]at e;cases e
structure Mod(K:W.Frag)(mg:Str->Option Value)(base:Heap):Prop where
 kin:K.In base
 glob:base.Ns mainGlobals mg
 blt:∃mb,base.Ns builtinsNs mb/\∀x:Str,x≠"__name__"->mb x=bootBuiltins x
 nolimit:base.NoLimit
def lq:List Str:=["picked"]
def TabOf(K:W.Frag)(P:Addr)(q:Str):Prop:=∃x∈lq,∃f oc od fd a c,W.nsIn K mainGlobals x=some (some (.ref f))/\K.lookup f=some ⟨oc,od,.func fd,a⟩/\fd.code=.ref c/\(∃o vs,K.lookup c=some o/\o.data=.fields vs/\vs[11]?=some (.ref P))/\q=x++".<locals>.<lambda>"
structure Cx where
 prog:Program
 w:World
 K:W.Frag
 mg:Str->Option Value
 base:Heap
 A:Around
 N:List Str
 s₀:Shared
 H₀:Hp
 env:Env
 outer:List Env
 stack:List Env
 ex:List Addr
 fn:Str->Bool
 calm:Bool
 pn:List (Addr×Obj)
 xe:Value->Shared->Prop
variable {X:Cx}
def frs(l:List Env):List Addr:=l.filterMap (·.frame)
abbrev Cx.fs(X:Cx):List Addr:=frs X.outer
def Vis(sc:Scope)(x:Str):Prop:=sc.names.lookup x=some .local\/sc.names.lookup x=some .cell\/sc.names.lookup x=some .free
def Loc(sc:Scope)(x:Str):Prop:=sc.names.lookup x=some .local\/sc.names.lookup x=some .cell
def Look(env:Env)(h:Heap)(m:Str->Option Value)(x:Str)(u:Value):Prop :=
 (env.kindOf x=some .local/\m x=some u)\/((env.kindOf x=some .cell\/env.kindOf x=some .free)/\∃c,env.cells.lookup x=some c/\h.IsCell c (some u))
structure Cx.Ok(X:Cx):Prop where
 mod:Mod X.K X.mg X.base
 kind:X.env.scope.kind=.function
 glob:X.env.globals=mainGlobals
 blt:X.env.builtins=builtinsNs
 above:X.s₀.heap.objs.size<=X.env.locals
 inj:∀x y c,X.env.cells.lookup x=some c->X.env.cells.lookup y=some c->x=y
 has:∀x,(X.env.kindOf x=some .cell\/X.env.kindOf x=some .free)->∃c,X.env.cells.lookup x=some c
 cab:∀x c,X.fn x=true->X.env.cells.lookup x=some c->X.s₀.heap.objs.size<=c
 hd:X.calm=true->X.A.handled=none
 frames:X.A.frames=some X.stack
 stk:X.stack=X.outer\/(X.stack=X.env::X.outer/\X.env.frame=some X.env.locals)
 exf:∀b∈X.ex,b≠X.env.locals/\∀x c,X.env.cells.lookup x=some c->c≠b
 bs:∀b o,X.base.get? b=some o->X.s₀.heap.get? b=some o/\X.H₀ b=none
 bsz:X.base.objs.size<=X.s₀.heap.objs.size
 noex:∀b o,X.base.get? b=some o->b∉X.ex
 exfs:∀b∈X.ex,b∉X.fs
 funs:X.s₀.heap.FunFrames X.base X.outer
 frf:∀b∈X.fs,X.H₀ b=none
structure Inv(X:Cx)(pins:List (Addr×Obj))(σ:List (Option V))(H:Hp)(s:Shared):Prop where
 ok:X.Ok
 os:s.os=X.s₀.os
 bare:AllBare s.gens
 base:Un X.fs X.ex X.H₀ H X.s₀.heap s.heap
 loc:∃m,s.heap.Ns X.env.locals m/\∀(i:Nat)(x:Str)(v:V),X.N[i]?=some x->σ[i]?=some (some v)->Vis X.env.scope x->∃u,RelV v u/\Look X.env s.heap m x u
 cell:∀x c,X.env.cells.lookup x=some c->∃v,s.heap.IsCell c v
 free:H X.env.locals=none
 freeC:∀x c,X.env.cells.lookup x=some c->H c=none
 pin:∀p∈X.pn++pins,s.heap.get? p.1=some p.2/\H p.1=none/\p.1≠X.env.locals/\p.1∉X.fs/\∀v,p.2.data≠.cell v
 hok:HOk X.prog X.w H s.heap
 len:σ.length=X.N.length
 tab:∀P q,TabOf X.K P q->H P=some (.tbl q)
section
variable {σ:List (Option V)}{H':Hp}
theorem Cx.Ok.nofr(ok:X.Ok){o:Obj}(e:X.base.get? b=some o):b∉X.fs:=λa=>by have:=(ok.funs.mem a).1;rw[e]at this;cases this
theorem Inv.bs(I:Inv X pins σ H s):∀b o,X.base.get? b=some o->s.heap.get? b=some o/\H b=none:=λb o e =>
 ⟨I.base.keep b o (I.ok.bs b o e).1 (I.ok.bs b o e).2 (I.ok.nofr e) (I.ok.noex b o e),I.base.free b o (I.ok.bs b o e).1 (I.ok.bs b o e).2 (I.ok.noex b o e)⟩
theorem Inv.bk(I:Inv X pins σ H s):∀b o,X.base.get? b=some o->s.heap.get? b=some o:=λb o e=>(I.bs b o e).1
theorem Inv.mod(I:Inv X pins σ H s):Mod X.K X.mg X.base:=I.ok.mod
theorem Inv.kIn(I:Inv X pins σ H s):X.K.In s.heap:=I.ok.mod.kin.keeps I.bk
theorem Inv.lt(I:Inv X pins σ H s):X.env.locals<s.heap.objs.size:=let ⟨_,hn,_⟩:=I.loc;hn.lt
theorem Inv.sz(I:Inv X pins σ H s):X.s₀.heap.objs.size<=s.heap.objs.size:=N5 I.ok.above (Ob I.lt)
theorem Inv.nofs(I:Inv X pins σ H s)(h:s.heap.objs.size<=a):a∉X.fs:=λb=>by obtain⟨_,o,c,_⟩:=I.ok.funs.mem b;exact absurd (Mq (Mg c) (N5 I.sz h)) (Nn _)
theorem Inv.cne(I:Inv X pins σ H s):∀x c,X.env.cells.lookup x=some c->c≠X.env.locals:=λx c e z=>by obtain⟨v,o,f,hd⟩:=I.cell x c e;obtain⟨m,⟨o',es,ep,a,b,_⟩,_⟩:=I.loc;rw[z,a]at f;cases f;rw[b]at hd;cases hd
theorem Inv.funs(I:Inv X pins σ H s):s.heap.FunFrames X.base X.outer:=by
 have all:∀(l:List Env),(∀b∈frs l,b∈X.fs)->X.s₀.heap.FunFrames X.base l->s.heap.FunFrames X.base l:=by
  intro l
  induction l with
  |nil=>intro _ _;trivial
  |cons env r ih =>
   intro f hl;obtain⟨g,⟨L,o,a,hn,h,hd⟩,i⟩:=hl;have hL:L∈X.fs:=f L (by unfold frs;rw[NN,a];exact M7);obtain⟨sl,e⟩:=I.base.slot L o h (I.ok.frf L hL) hL λz=>I.ok.exfs L z hL
   exact⟨g,⟨L,_,a,hn,e,hd⟩,ih (λb c=>f b (by unfold frs;rw[NN,a];exact M6 _ c)) i⟩
 exact all X.outer (λ_ c=>c) I.ok.funs
theorem Inv.stack(I:Inv X pins σ H s):s.heap.FunFrames X.base X.stack:=by
 rcases I.ok.stk with e|⟨e,a⟩
 ·rw[e];exact I.funs
 ·rw[e];obtain⟨m,hn,_⟩:=I.loc;refine .cons (by rw[I.ok.kind];decide) a hn ?_ I.funs;exact Heap.get?_none_of_le (N5 I.ok.bsz I.ok.above)
theorem Inv.stkSub(I:Inv X pins σ H s):∀b∈frs X.stack,b∈X.env.locals::X.fs:=λb a=>by
 rcases I.ok.stk with e|⟨e,c⟩
 ·rw[e]at a;exact M6 _ a
 ·rw[e]at a;unfold frs at a;rw[NN,c]at a;exact a
theorem Inv.stkFree(I:Inv X pins σ H s):∀b∈frs X.stack,H b=none:=λb a=>by
 rcases M8.mp (I.stkSub b a) with e|a
 ·rw[e];exact I.free
 ·obtain⟨_,o,c,_⟩:=I.ok.funs.mem a;exact I.base.free b o c (I.ok.frf b a) λz=>I.ok.exfs b z a
theorem Inv.step{t':Nat}{d':Drawn}{ch:List Addr}(I:Inv X pins σ H s)
  (f:∀b∈ch,(b∈X.ex\/X.s₀.heap.objs.size<=b)/\b≠X.env.locals/\(∀x c,X.env.cells.lookup x=some c->c≠b)/\∀p∈X.pn++pins,p.1≠b)
  (keep:∀b o,b≠X.env.locals->b∉X.fs->b∉ch->s.heap.get? b=some o->H b=none->h'.get? b=some o)
  (slot:∀b o,b≠X.env.locals->b∈X.fs->b∉ch->s.heap.get? b=some o->H b=none->∃B,h'.get? b=some { o with slots:=B }) (free:∀b o,b∉ch->s.heap.get? b=some o->H b=none->H' b=none)
  (there:∀b o,b∉ch->s.heap.get? b=some o->∃o',h'.get? b=some o')
  (tups:∀b xs,H b=some (.tup xs)->H' b=some (.tup xs)) (frzs:∀b o u,H b=some (.frz o u)->H' b=some (.frz o u)) (tbls:∀b q,H b=some (.tbl q)->H' b=some (.tbl q))
  (ns:∀m,s.heap.Ns X.env.locals m->h'.Ns X.env.locals m) (hok:HOk X.prog X.w H' h') (G:AllBare g') :
  Inv X pins σ H' { s with heap:=h',gens:=g',drawn:=d',toks:=t' }:=by
 have A:∀b o,X.s₀.heap.get? b=some o->b≠X.env.locals:=λb o e=>Mf (Mq (Mg e) I.ok.above)
 have h:∀b o,X.s₀.heap.get? b=some o->b∉X.ex->b∉ch:=λb o e a j=>by
  rcases (f b j).1 with z|z
  ·exact a z
  ·exact absurd (Mq (Mg e) z) (Nn _)
 have cellK:∀x c,X.env.cells.lookup x=some c->∀v,s.heap.IsCell c v->h'.IsCell c v:=λx c e v C=>by
  obtain⟨o,y,hd⟩:=C;have g:c∉ch:=λz=>(f c z).2.2.1 x c e rfl
  by_cases hc:c∈X.fs
  ·obtain⟨B,q⟩:=slot c o (I.cne x c e) hc g y (I.freeC x c e);exact⟨_,q,hd⟩
  ·exact⟨o,keep c o (I.cne x c e) hc g y (I.freeC x c e),hd⟩
 refine⟨I.ok,I.os,G,⟨λb o e n j a=>?_,λb o e n j a=>?_,λb o e n a=>?_,λb o e a=>?_,λb xs e=>tups b xs (I.base.tups b xs e),λb o xs e=>frzs b o xs (I.base.frzs b o xs e),λb ps e=>?_⟩,?_,λx c e=>?_,?_,λx c e=>?_,λp E=>?_,hok,I.len,λP q t=>tbls P q (I.tab P q t)⟩
 ·exact keep b o (A b o e) j (h b o e a) (I.base.keep b o e n j a) (I.base.free b o e n a)
 ·obtain⟨B,e1⟩:=I.base.slot b o e n j a;obtain⟨D,e2⟩:=slot b _ (A b o e) j (h b o e a) e1 (I.base.free b o e n a);exact⟨D,e2⟩
 ·obtain⟨o',e1⟩:=I.base.there b o e a;exact free b o' (h b o e a) e1 (I.base.free b o e n a)
 ·obtain⟨o',e1⟩:=I.base.there b o e a;exact there b o' (h b o e a) e1
 ·exact tbls b _ (I.base.tbls b ps e)
 ·obtain⟨m,hn,hl⟩:=I.loc;refine⟨m,ns m hn,λi x v e1 e2 J=>?_⟩;obtain⟨u,r,l⟩:=hl i x v e1 e2 J;refine⟨u,r,?_⟩;rcases l with l|⟨k,c,e,z⟩
  ·exact .inl l
  ·exact .inr ⟨k,c,e,cellK x c e _ z⟩
 ·obtain⟨v,z⟩:=I.cell x c e;exact⟨v,cellK x c e v z⟩
 ·obtain⟨m,⟨o,_,_,y,_⟩,_⟩:=I.loc;exact free _ o (λz=>(f _ z).2.1 rfl) y I.free
 ·obtain⟨v,o,y,hd⟩:=I.cell x c e;exact free c o (λz=>(f c z).2.2.1 x c e rfl) y (I.freeC x c e)
 ·obtain⟨e,n,ne,F,d⟩:=I.pin p E;have g:p.1∉ch:=λz=>(f p.1 z).2.2.2 p E rfl
  exact⟨keep p.1 p.2 ne F g e n,free p.1 p.2 g e n,ne,F,d⟩
theorem Inv.un{t':Nat}(I:Inv X pins σ H s)(u:Un X.fs [] H H' s.heap h')(hok:HOk X.prog X.w H' h'):Inv X pins σ H' { s with heap:=h',toks:=t' }:=by obtain⟨m,⟨o,es,ep,h,r⟩,_⟩:=id I.loc;obtain⟨sl,hL⟩:=u.any h I.free (by simp);exact I.step (g':=s.gens) (d':=s.drawn) (ch:=[]) (λ_ z=>nomatch z) (λb o _ c _ e n=>u.keep b o e n c (by simp)) (λb o _ c _ e n=>u.slot b o e n c (by simp)) (λb o _ e n=>u.free b o e n (by simp)) (λb o _ e=>u.there b o e (by simp)) u.tups u.frzs u.tbls (λm' hm=>by obtain⟨o',f,g,a,i⟩:=hm;rw[h]at a;cases a;exact⟨_,f,g,hL,i⟩) hok I.bare
theorem Inv.call{t':Nat}{d':Drawn}{ch:List Addr}(I:Inv X pins σ H s)(u:Un (frs X.stack) ch H H' s.heap h')(hok:HOk X.prog X.w H' h')(j:AllBare g')
  (a:∀b∈ch,(b∈X.ex\/X.s₀.heap.objs.size<=b)/\b≠X.env.locals/\(∀x c,X.env.cells.lookup x=some c->c≠b)/\∀p∈X.pn++pins,p.1≠b) :
  Inv X pins σ H' { s with heap:=h',gens:=g',drawn:=d',toks:=t' }:=by
 obtain⟨m,⟨o,es,ep,i,r⟩,_⟩:=id I.loc;obtain⟨sl,hL⟩:=u.any i I.free λz=>(a _ z).2.1 rfl
 exact I.step (ch:=ch) a (λb o hL l hc e n=>u.keep b o e n (λz=>(M8.mp (I.stkSub b z)).elim hL l) hc) (λb o _ _ hc e n=>u.any e n hc) (λb o hc e n=>u.free b o e n hc) (λb o hc e=>u.there b o e hc) u.tups u.frzs u.tbls (λm' hm=>by obtain⟨o',g,h,f,q⟩:=hm;rw[i]at f;cases f;exact⟨_,g,h,hL,q⟩) hok j
theorem Inv.turned{t':Nat}(I:Inv X pins σ H s)(k:∀b o,b≠it->s.heap.get? b=some o->h'.get? b=some o)(hn:H it=none)(hL:it≠X.env.locals)
  (h1:it∈X.ex\/X.s₀.heap.objs.size<=it) (h2:∀x c,X.env.cells.lookup x=some c->c≠it) (f:∀p∈X.pn++pins,p.1≠it):Inv X pins σ H { s with heap:=h',toks:=t' }:=by
 have a:∀b u,H b=some u->b≠it:=λb u e z=>by rw[z,hn]at e;cases e
 refine I.step (g':=s.gens) (d':=s.drawn) (ch:=[it]) (λb g=>?_) (λb o _ _ hc e _=>k b o (λz=>hc (by simp[z])) e) (λb o _ _ hc e _=>⟨o.slots,k b o (λz=>hc (by simp[z])) e⟩) (λ_ _ _ _ n=>n)
  (λb o hc e=>⟨o,k b o (λz=>hc (by simp[z])) e⟩) (λ_ _ e=>e) (λ_ _ _ e=>e) (λb ps e=>e) (λm hm=>?_) (λb u e=>?_) I.bare
 ·have e:b=it:=by simpa using g
  subst e;exact⟨h1,hL,h2,f⟩
 ·obtain⟨o,es,ep,h,r⟩:=hm;exact⟨o,es,ep,k _ o (Ne.symm hL) h,r⟩
 ·refine (I.hok b u e).stay (λc v hc q=>k c v ?_ q) (λ_ q=>q) λ_ _ q=>q
  rcases hc with z|z
  ·rw[z];exact a b u e
  ·exact a c _ z
theorem Inv.tok(I:Inv X pins σ H s)(t:Nat):Inv X pins σ H { s with toks:=t }:=I.un (h':=s.heap) (t':=t) Un.refl I.hok
theorem Inv.kept{t':Nat}(I:Inv X pins σ H s)(k:∀b u,s.heap.get? b=some u->h'.get? b=some u):Inv X pins σ H { s with heap:=h',toks:=t' }:=I.un (Un.kept k) (I.hok.kept k)
theorem Inv.laid{t':Nat}(I:Inv X pins σ H s)(k:∀b u,s.heap.get? b=some u->h'.get? b=some u)(c:s.heap.objs.size<=a)(new:cE X.prog X.w (upd H a o) h' a o) :
 Inv X pins σ (upd H a o) { s with heap:=h',toks:=t' }:=I.un (Un.laid k c (I.hok.fresh c)) (I.hok.laid k c new)
theorem Inv.write{x e:Addr}{t':Nat}(I:Inv X pins σ H s)(c:Mut (H x))(f:e=x\/H e=some (.own x))(k:∀b u,b≠e->s.heap.get? b=some u->h'.get? b=some u)(a:∃u,h'.get? e=some u)
 (new:cE X.prog X.w (upd H x o) h' x o):Inv X pins σ (upd H x o) { s with heap:=h',toks:=t' }:=I.un (Un.write c f k a) (I.hok.write c f k a new)
theorem Inv.pins_of{pins':List (Addr×Obj)}(I:Inv X pins σ H s)(h:∀p∈pins',s.heap.get? p.1=some p.2/\H p.1=none/\p.1≠X.env.locals/\p.1∉X.fs/\∀v,p.2.data≠.cell v):Inv X pins' σ H s :=
 ⟨I.ok,I.os,I.bare,I.base,I.loc,I.cell,I.free,I.freeC,λp a=>(Mx.mp a).elim (λz=>I.pin p (MF _ z)) (h p),I.hok,I.len,I.tab⟩
theorem vD(c:N.Nodup){j:Nat}(a:N[i]?=some x)(b:N[j]?=some x):i=j:=by obtain⟨h1,e1⟩:=My.mp a;obtain⟨h2,e2⟩:=My.mp b;exact (List.getElem_inj c).mp (e1.trans e2.symm)
theorem rL{Q:Unit->Shared->Prop}(I:Inv X pins σ H s)(hN:X.N.Nodup)(hi:X.N[i]?=some x)(g:Loc X.env.scope x)(r:RelV v u)
  (h:∀s',Inv X pins (σ.set i (some v)) H s'->(∃a,Heap.SameBut a s.heap s'.heap/\(a=X.env.locals\/X.env.cells.lookup x=some a))->Q () s') (hf:X.fn x=true\/X.env.scope.names.lookup x=some .local:=by first|exact .inl rfl|exact .inr rfl|assumption):wpAny M A (storeName X.env x u) Q E s:=by
 obtain⟨m,hn,hl⟩:=id I.loc;have F:(X.env.scope.kind==.class||(X.env.scope.kind==.module&&X.env.locals != X.env.globals))=false:=by rw[I.ok.kind];rfl
 have t:i<σ.length:=by rw[I.len];exact (My.mp hi).1
 have cne:=I.cne;have tracked:∀{a:Addr}{h':Heap},(∃o,s.heap.get? a=some o/\H a=none)->Heap.SameBut a s.heap h'->HOk X.prog X.w H h':=λ{a h'} ha f b ob e=>by
  obtain⟨_,_,l⟩:=ha;refine (I.hok b ob e).stay (λc L hc q=>(f.2 c ?_).trans q) (λ_ q=>q) λ_ _ q=>q
  rintro rfl
  rcases hc with rfl|hc
  ·rw[l]at e;cases e
  ·rw[l]at hc;cases hc
 rcases g with B|B
 ·refine wpAny_storeName_local B hn (λh' O f=>?_) F;obtain⟨oL,_,_,P,_⟩:=id hn;refine h _ ⟨I.ok,I.os,I.bare,⟨λb o e n C g=>?_,λb o e n C g=>?_,I.base.free,λb o e g=>?_,I.base.tups,I.base.frzs,I.base.tbls⟩,⟨_,O,λj y R e1 e2 S=>?_⟩,λy c e=>?_,I.free,I.freeC,λp T=>?_,tracked ⟨oL,P,I.free⟩ f,by simpa using I.len,I.tab⟩ ⟨_,f,.inl rfl⟩
  ·exact (f.2 b (Mf (Mq (Mg e) I.ok.above))).trans (I.base.keep b o e n C g)
  ·obtain⟨U,e1⟩:=I.base.slot b o e n C g;exact⟨U,(f.2 b (Mf (Mq (Mg e) I.ok.above))).trans e1⟩
  ·obtain⟨o',e1⟩:=I.base.there b o e g;exact⟨o',(f.2 b (Mf (Mq (Mg e) I.ok.above))).trans e1⟩
  ·by_cases hj:j=i
   ·subst hj;rw[hi]at e1;cases e1;rw[MI t]at e2;cases e2;exact⟨u,r,.inl ⟨B,by simp⟩⟩
   ·rw[MA (Ne.symm hj)]at e2;obtain⟨W,Y,q⟩:=hl j y R e1 e2 S;refine⟨W,Y,?_⟩;rcases q with⟨k,e⟩|⟨k,c,e,z⟩
    ·refine .inl ⟨k,?_⟩;have:y≠x:=λe=>hj (vD hN e1 (e▸hi))
     simp[this,e]
    ·exact .inr ⟨k,c,e,z.sameBut f (cne y c e)⟩
  ·obtain⟨L,z⟩:=I.cell y c e;exact⟨L,z.sameBut f (cne y c e)⟩
  ·obtain⟨e,n,ne,Z,d⟩:=I.pin p T;exact⟨(f.2 p.1 ne).trans e,n,ne,Z,d⟩
 ·have D:X.fn x=true:=by
   rcases hf with z|z
   ·exact z
   ·rw[z]at B;cases B
  obtain⟨c,hc⟩:=I.ok.has x (.inl B);obtain⟨L,z⟩:=I.cell x c hc;refine wpAny_storeName_cell I.ok.kind B hc z (λh' G f=>?_);obtain⟨oc,J,K⟩:=id z;refine h { s with heap:=h' } ⟨I.ok,I.os,I.bare,⟨λb o e n C g=>?_,λb o e n C g=>?_,I.base.free,λb o e g=>?_,I.base.tups,I.base.frzs,I.base.tbls⟩,⟨m,hn.sameBut f (Ne.symm (cne x c hc)),λj y R e1 e2 S=>?_⟩,λy c' e=>?_,I.free,I.freeC,λp T=>?_,tracked ⟨oc,J,I.freeC x c hc⟩ f,by simpa using I.len,I.tab⟩ ⟨c,f,.inr hc⟩
  ·exact (f.2 b (Mf (Mq (Mg e) (I.ok.cab x c D hc)))).trans (I.base.keep b o e n C g)
  ·obtain⟨U,e1⟩:=I.base.slot b o e n C g;exact⟨U,(f.2 b (Mf (Mq (Mg e) (I.ok.cab x c D hc)))).trans e1⟩
  ·obtain⟨o',e1⟩:=I.base.there b o e g;exact⟨o',(f.2 b (Mf (Mq (Mg e) (I.ok.cab x c D hc)))).trans e1⟩
  ·by_cases hj:j=i
   ·subst hj;rw[hi]at e1;cases e1;rw[MI t]at e2;cases e2;exact⟨u,r,.inr ⟨.inl B,c,hc,G⟩⟩
   ·rw[MA (Ne.symm hj)]at e2;obtain⟨W,Y,q⟩:=hl j y R e1 e2 S;refine⟨W,Y,?_⟩;rcases q with q|⟨k,c',e,z'⟩
    ·exact .inl q
    ·refine .inr ⟨k,c',e,z'.sameBut f ?_⟩
     rintro rfl
     exact hj (vD hN e1 (I.ok.inj _ _ _ e hc▸hi))
  ·by_cases hcc:c'=c
   ·subst hcc;exact⟨_,G⟩
   ·obtain⟨w2,z2⟩:=I.cell y c' e;exact⟨w2,z2.sameBut f hcc⟩
  ·obtain⟨e,n,ne,Z,d⟩:=I.pin p T;refine⟨(f.2 p.1 ?_).trans e,n,ne,Z,d⟩;intro q;rw[q,J]at e;have q':oc=p.2:=Option.some.inj e;exact d L (by rw[<-q'];exact K)
theorem uW{Q:Unit->Shared->Prop}(I:Inv X pins σ H s)(a:X.N.Nodup)(hi:X.N[i]?=some x)(b:Loc X.env.scope x)(r:RelV v u)
  (h:∀s',Inv X pins (σ.set i (some v)) H s'->Q () s') (c:X.fn x=true\/X.env.scope.names.lookup x=some .local:=by first|exact .inl rfl|exact .inr rfl|assumption):wpAny M A (storeName X.env x u) Q E s :=
 rL I a hi b r (λs' e _=>h s' e) c
theorem Inv.call'{ch:List Addr}(I:Inv X pins σ H s)(f:s'.os=s.os)(u:Un (frs X.stack) ch H H' s.heap s'.heap)(hok:HOk X.prog X.w H' s'.heap)(g:AllBare s'.gens)
  (a:∀b∈ch,(b∈X.ex\/X.s₀.heap.objs.size<=b)/\b≠X.env.locals/\(∀x c,X.env.cells.lookup x=some c->c≠b)/\∀p∈X.pn++pins,p.1≠b):Inv X pins σ H' s':=by
 obtain⟨h',g',d',t',o'⟩:=s';have e:o'=s.os:=f;subst e;exact I.call (g':=g') (t':=t') (d':=d') u hok g a
end
abbrev XK:=Value->Option Addr->Hp->Prop
abbrev St:=List (Option V)
variable {σ:St}
abbrev VK:=V->Hp->Prop
abbrev TE:=St->Hp->VK->Prop
variable {t:TE}
abbrev TT:=St->Hp->(Bool->Hp->Prop)->Prop
abbrev TA:=St->Hp->(List V->Hp->Prop)->Prop
structure Ends where
 nx:St->Hp->Prop
 rt:VK
 bk:St->Hp->Prop:=λ_ _=>False
 ct:St->Hp->Prop:=λ_ _=>False
abbrev TS:=Ends->St->Hp->Prop
def EP(X:Cx)(pins:List (Addr×Obj))(σ:St)(Q:VK)(u:Value)(s':Shared):Prop:=∃v H',Inv X pins σ H' s'/\RelV v u/\Q v H'
def TP(X:Cx)(pins:List (Addr×Obj))(σ:St)(Q:Bool->Hp->Prop)(b:Bool)(s':Shared):Prop:=∃H',Inv X pins σ H' s'/\Q b H'
def AP(X:Cx)(pins:List (Addr×Obj))(σ:St)(Q:List V->Hp->Prop)(us:List Value)(s':Shared):Prop:=∃vs H',Inv X pins σ H' s'/\Vals vs us/\Q vs H'
def SP(X:Cx)(pins:List (Addr×Obj))(D:Ends)(f:Flow)(s':Shared):Prop :=
 match f with
 |.next=>∃a H',Inv X pins a H' s'/\D.nx a H'
 |.brk=>∃a H',Inv X pins a H' s'/\D.bk a H'
 |.cont=>∃a H',Inv X pins a H' s'/\D.ct a H'
 |.ret u=>∃v a H',Inv X pins a H' s'/\RelV v u/\D.rt v H'
def PE(X:Cx)(e:Expr)(t:TE):Prop :=
 ∀(pins:List (Addr×Obj))(s:Shared)(σ:St)(H:Hp)(Q:VK),Inv X pins σ H s->t σ H Q->wpAny (model X.prog X.w) X.A (eval e X.env) (EP X pins σ Q) X.xe s
def PT(X:Cx)(e:Expr)(t:TT):Prop :=
 ∀(pins:List (Addr×Obj))(s:Shared)(σ:St)(H:Hp)(Q:Bool->Hp->Prop),Inv X pins σ H s->t σ H Q->wpAny (model X.prog X.w) X.A (isTrue e X.env (eval e X.env)) (TP X pins σ Q) X.xe s
def PW(X:Cx)(e:Expr)(t:TT):Prop :=
 ∀(whole:Sem Value)(pins:List (Addr×Obj))(s:Shared)(σ:St)(H:Hp)(Q:Bool->Hp->Prop),Inv X pins σ H s->t σ H Q->wpAny (model X.prog X.w) X.A (isTrue e X.env whole) (TP X pins σ Q) X.xe s
theorem PW.pt{t:TT}(h:PW X e t):PT X e t:=h _
def PA(X:Cx)(es:List Expr)(t:TA):Prop :=
 ∀(pos:Pos)(pins:List (Addr×Obj))(s:Shared)(σ:St)(H:Hp)(Q:List V->Hp->Prop),Inv X pins σ H s->t σ H Q->wpAny (model X.prog X.w) X.A (spliced (backTo pos (starEach es X.env))) (AP X pins σ Q) X.xe s
def PS(X:Cx)(st:Stmt)(t:TS):Prop :=
 ∀(pins:List (Addr×Obj))(s:Shared)(σ:St)(H:Hp)(D:Ends),Inv X pins σ H s->t D σ H->wpAny (model X.prog X.w) X.A (exec st X.env) (SP X pins D) X.xe s
def PSs(X:Cx)(st:List Stmt)(t:TS):Prop :=
 ∀(pins:List (Addr×Obj))(s:Shared)(σ:St)(H:Hp)(D:Ends),Inv X pins σ H s->t D σ H->wpAny (model X.prog X.w) X.A (execs st X.env) (SP X pins D) X.xe s
theorem thn{t:Sem α}{Q b:α->Shared->Prop}(h:wpAny M A t Q E s)(c:∀a s,Q a s->b a s):wpAny M A t b E s:=wpAny_mono h c λ_ _ x=>x
section
theorem bin{a b:Expr}{ta tb:TE}(ha:PE X a ta)(i:PE X b tb)(I:Inv X pins σ H s)(h:ta σ H λx H1=>tb σ H1 λy H2=>R x y H2)
  {Q:α->Shared->Prop} {f:Value->Value->Sem α}
  (j:∀v u s2 x y H2,Inv X pins σ H2 s2->RelV x v->RelV y u->R x y H2->wpAny (model X.prog X.w) X.A (f v u) Q X.xe s2) :
  wpAny (model X.prog X.w) X.A (eval a X.env) (λv e=>wpAny (model X.prog X.w) X.A (eval b X.env) (λu g=>wpAny (model X.prog X.w) X.A (f v u) Q X.xe g) X.xe e) X.xe s:=by
 refine thn (ha pins s σ H _ I h) λv l c=>?_
 obtain⟨x,H1,m,n,o⟩:=c;refine thn (i pins l σ H1 _ m o) λu s2 c=>?_
 obtain⟨y,H2,p,q,r⟩:=c;exact j v u s2 x y H2 p n q r
def Kb(i:Nat):TE:=λσ H Q=>∃v,σ[i]?=some (some v)/\Q v H
def tC(v:V):TE:=λ_ H Q=>Q v H
theorem i7(g:X.N[i]?=some x)(hv:Vis X.env.scope x)(hd:(x==("__debug__":Str))=false:=by decide)(f:(x==("__classdict__":Str))=false:=by decide):PE X (.Name x pos) (Kb i):=by
 intro pins s σ H Q I h;obtain⟨v,e,h⟩:=h;obtain⟨m,hn,hl⟩:=I.loc;obtain⟨u,r,l⟩:=hl i x v g e hv;have fin:EP X pins σ Q u s:=⟨v,H,I,r,h⟩
 rcases l with⟨b,hm⟩|⟨b,c,hc,a⟩
 ·exact wpAny_Name (wpAny_loadName_local I.ok.kind b hn hm fin) hd
 ·rcases b with b|b
  ·exact wpAny_Name (wpAny_loadName_cell I.ok.kind b hc a fin) hd
  ·exact wpAny_Name (wpAny_loadName_free I.ok.kind b hc a fin f) hd
theorem fT{i j pos}:PE X (.Constant (.int i) j pos) (tC (.int i)):=λ_ _ _ H _ I h=>wpAny_Constant_int ⟨.int i,H,I.tok _,⟨_,rfl⟩,h⟩
theorem Kg{b j pos}:PE X (.Constant (.bool b) j pos) (tC (.bl b)):=λ_ _ _ H _ I h=>Constant_bool ⟨.bl b,H,I,rfl,h⟩
theorem Je{j pos}:PE X (.Constant .none j pos) (tC .non):=λ_ _ _ H _ I h=>Constant_none ⟨.non,H,I,rfl,h⟩
theorem IH{x j pos}:PE X (.Constant (.str x) j pos) (tC (.str x)):=λ_ _ _ H _ I h=>Calls.Constant_str ⟨.str x,H,I.tok _,⟨_,rfl⟩,h⟩
def Gl(X:Cx)(x:Str):Prop:=X.env.kindOf x=some .globalImplicit
theorem oC(I:Inv X pins σ H s)(a:Gl X x)(hm:X.mg x=some u)(h:Q u s)
  (hd:(x==("__debug__":Str))=false:=by decide):wpAny (model X.prog X.w) X.A (eval (.Name x pos) X.env) Q E s :=
 Calls.Name_function_global I.ok.kind a (Calls.loadGlobal_global (by rw[I.ok.glob];exact I.mod.glob.keeps I.bk) hm h) hd
theorem fo(I:Inv X pins σ H s)(a:Gl X x)(hm:X.mg x=none)(hv:bootBuiltins x=some u)(h:Q u s)
  (hn:x≠"__name__":=by decide) (hd:(x==("__debug__":Str))=false:=by decide):wpAny (model X.prog X.w) X.A (eval (.Name x pos) X.env) Q E s:=by
 obtain⟨mb,h1,h2⟩:=I.mod.blt;exact Calls.Name_function_global I.ok.kind a (Calls.loadGlobal_builtin (by rw[I.ok.glob];exact I.mod.glob.keeps I.bk) hm (by rw[I.ok.blt];exact h1.keeps I.bk) ((h2 x hn).trans hv) h) hd
theorem GI(a:Gl X x)(hm:X.mg x=some u)(r:RelV v u)(hd:(x==("__debug__":Str))=false:=by decide):PE X (.Name x pos) (tC v) :=
 λ_ _ _ H _ I h=>oC I a hm ⟨v,H,I,r,h⟩ hd
theorem FP(a:Gl X x)(hm:X.mg x=none)(hv:bootBuiltins x=some u)(r:RelV v u)(hn:x≠"__name__":=by decide)(hd:(x==("__debug__":Str))=false:=by decide):PE X (.Name x pos) (tC v) :=
 λ_ _ _ H _ I h=>fo I a hm hv ⟨v,H,I,r,h⟩ hn hd
noncomputable def t2I(ta tb:TE)(k:Int->Int->Hp->Prop):St->Hp->Prop:=λσ H=>ta σ H λx H1=>tb σ H1 λy H2=>∃i j,x=.int i/\y=.int j/\k i j H2
variable {a b:Expr}{ta tb:TE}
def PC(X:Cx)(op:CmpOp)(a b:Expr)(t:TE):Prop :=
 ∀(pins:List (Addr×Obj))(s:Shared)(σ:St)(H:Hp)(Q:VK),Inv X pins σ H s->t σ H Q ->
  wpAny (model X.prog X.w) X.A (eval a X.env) (λv c=>wpAny (model X.prog X.w) X.A (eval b X.env) (λu e=>wpAny (model X.prog X.w) X.A (compareOp op v u) (EP X pins σ Q) X.xe e) X.xe c) X.xe s
theorem vh(b:Expr)(h:op≠.In)(h2:op≠.NotIn):behindInMarks op b=false:=by
 have e1:(op==CmpOp.In)=false:=by cases op <;> first|rfl|exact absurd rfl h
 have e2:(op==CmpOp.NotIn)=false:=by cases op <;> first|rfl|exact absurd rfl h2
 cases b <;> simp[behindInMarks,e1,e2]
def Ll(p:Int->Int->Bool)(ta tb:TE):TE:=λσ H Q=>t2I ta tb (λi j H2=>Q (.bl (p i j)) H2) σ H
abbrev tLt:TE->TE->TE:=Ll λi j=>decide (i<j)
theorem Ib{p:Int->Int->Bool}(ha:PE X a ta)(c:PE X b tb)
  (rule:∀(i j:Int)(t u:Tok)(Q:Value->Shared->Prop)(s:Shared),Q (.bool (p i j)) s->wpAny (model X.prog X.w) X.A (compareOp op (.int i t) (.int j u)) Q X.xe s):PC X op a b (Ll p ta tb):=by
 intro pins s σ H Q I h;refine bin ha c I h λv u s2 x y H2 e f g q=>?_
 obtain⟨i,j,rfl,rfl,q⟩:=q;obtain⟨t,rfl⟩:=f;obtain⟨t',rfl⟩:=g;exact rule i j t t' _ s2 ⟨.bl _,H2,e,rfl,q⟩
theorem Kl(ha:PE X a ta)(c:PE X b tb):PC X .Lt a b (tLt ta tb):=Ib ha c λ_ _ _ _ _ _ h=>lt_int h
def LU(ta:TE):TE:=λσ H Q=>ta σ H λx H1=>Q (.bl (decide (x=.non))) H1
def Lj(ta:TE):TE:=λσ H Q=>ta σ H λx H1=>Q (.bl (!decide (x=.non))) H1
theorem RelV.none_iff{x:V}{v:Value}(r:RelV x v):(v==Value.none)=decide (x=.non):=by
 cases x with
 |non=>cases r;rfl
 |bl _=>cases r;rfl
 |int _=>obtain⟨t,rfl⟩:=r;rfl
 |str _=>obtain⟨t,rfl⟩:=r;rfl
 |byt _=>obtain⟨t,rfl⟩:=r;rfl
 |flt _=>obtain⟨t,rfl⟩:=r;rfl
 |ref _=>cases r;rfl
 |ty _=>cases r;rfl
theorem Cd{j pos'}(ha:PE X a ta):PC X .Is a (.Constant .none j pos') (LU ta):=by
 intro pins s σ H Q I h;refine thn (ha pins s σ H _ I h) λv s1 b=>?_
 obtain⟨x,H1,c,e,f⟩:=b;exact Constant_none (is_none_gen ⟨.bl _,H1,c,by rw[e.none_iff];rfl,f⟩)
theorem E5{j pos'}(ha:PE X a ta):PC X .IsNot a (.Constant .none j pos') (Lj ta):=by
 intro pins s σ H Q I h;refine thn (ha pins s σ H _ I h) λv s1 b=>?_
 obtain⟨x,H1,c,e,f⟩:=b;exact Constant_none (isnot_none_gen ⟨.bl _,H1,c,by rw[e.none_iff];rfl,f⟩)
def tB(t:TE):TT:=λσ H Q=>t σ H λx H1=>∃c,x=.bl c/\Q c H1
theorem Cj(h:PC X op a b t)(h1:behindInMarks op b=false:=by first|exact vh _ (by decide) (by decide)|rfl):PE X (.Compare a [op] [b] pos) t:=λpins s σ H Q I hw=>wpAny_Compare1 (h pins s σ H Q I hw) h1
theorem wY(h:PC X op a b t)(h1:behindInMarks op b=false:=by first|exact vh _ (by decide) (by decide)|rfl):PT X (.Compare a [op] [b] pos) (tB t):=by intro pins s σ H Q I hw;refine wpAny_isTrue_Compare1 (thn (h pins s σ H _ I hw) λv s1 h1=>thn h1 λu s2 h2=>thn h2 λc s3 e=>?_) h1;obtain⟨x,H1,f,g,i⟩:=e;obtain⟨d,rfl,q⟩:=i;cases g;exact wpAny_truthy_bool ⟨H1,f,q⟩
theorem Js(h:PE X e t)(b:∀whole,isTrue e X.env whole=(do let v <-whole;standAt e.pos;holding [v] (truthy v)):=by intro _;rfl):PT X e (tB t):=by intro pins s σ H Q I hw;refine isTrue_plain (thn (h pins s σ H _ I hw) λv s1 a=>?_) (b _);obtain⟨x,H1,c,f,g⟩:=a;obtain⟨d,rfl,q⟩:=g;cases f;exact wpAny_truthy_bool ⟨H1,c,q⟩
variable {tA tB':TT}{rest:List Expr}
def L5(t u:TT):TT:=λσ H Q=>t σ H λc H1=>if c=true then u σ H1 Q else Q false H1
def tOr(t u:TT):TT:=λσ H Q=>t σ H λc H1=>if c=true then Q true H1 else u σ H1 Q
def LC(t:TT):TT:=λσ H Q=>t σ H λc H1=>Q (!c) H1
theorem EY(ha:PT X a tA):PW X (.BoolOp .And [a] pos) tA:=by
 intro wh pins s σ H Q I h;refine isTrue_and (thn (ha pins s σ H Q I h) λc s1 e=>?_);cases c with
 |true=>exact isTrue_and_nil e
 |false=>exact e
theorem JG(ha:PT X a tA):PW X (.BoolOp .Or [a] pos) tA:=by
 intro wh pins s σ H Q I h;refine isTrue_or (thn (ha pins s σ H Q I h) λc s1 e=>?_);cases c with
 |false=>exact isTrue_or_nil e
 |true=>exact e
theorem IQ(ha:PT X a tA)(i:PW X (.BoolOp .And (b::rest) pos) tB'):PW X (.BoolOp .And (a::b::rest) pos) (L5 tA tB'):=by
 intro j pins s σ H Q I h;refine isTrue_and (thn (ha pins s σ H _ I h) λc l e=>?_);obtain⟨H1,f,g⟩:=e;cases c with
 |true=>exact i j pins l σ H1 Q f g
 |false=>exact⟨H1,f,g⟩
theorem KC(ha:PT X a tA)(i:PW X (.BoolOp .Or (b::rest) pos) tB'):PW X (.BoolOp .Or (a::b::rest) pos) (tOr tA tB'):=by
 intro j pins s σ H Q I h;refine isTrue_or (thn (ha pins s σ H _ I h) λc l e=>?_);obtain⟨H1,f,g⟩:=e;cases c with
 |true=>exact⟨H1,f,g⟩
 |false=>exact i j pins l σ H1 Q f g
theorem HC(ha:PT X a tA):PT X (.UnaryOp .Not a pos) (LC tA):=by intro pins s σ H Q I h;exact isTrue_not (ha pins s σ H (λc H1=>Q (!c) H1) I h)
def Ky(ta tb:TE):TE:=λσ H Q=>ta σ H λx H1=>∃c,x=.bl c/\if c=true then tb σ H1 Q else Q (.bl false) H1
def LA(ta tb:TE):TE:=λσ H Q=>ta σ H λx H1=>∃c,x=.bl c/\if c=true then Q (.bl true) H1 else tb σ H1 Q
theorem Hl{op}(h:PE X a t):PE X (.BoolOp op [a] pos) t:=λpins s σ H Q I hw=>BoolOp_one (h pins s σ H Q I hw)
theorem HE(ha:PE X a ta)(i:PE X (.BoolOp .And (b::rest) pos) tb):PE X (.BoolOp .And (a::b::rest) pos) (Ky ta tb):=by
 intro pins s σ H Q I h;refine BoolOp_and (thn (ha pins s σ H _ I h) λv j f=>?_);obtain⟨x,H1,g,l,e⟩:=f;obtain⟨c,rfl,e⟩:=e;cases l;refine wpAny_truthy_bool ?_;cases c with
 |true=>exact i pins j σ H1 Q g e
 |false=>exact⟨.bl false,H1,g,rfl,e⟩
theorem Lm(ha:PE X a ta)(i:PE X (.BoolOp .Or (b::rest) pos) tb):PE X (.BoolOp .Or (a::b::rest) pos) (LA ta tb):=by
 intro pins s σ H Q I h;refine BoolOp_or (thn (ha pins s σ H _ I h) λv j f=>?_);obtain⟨x,H1,g,l,e⟩:=f;obtain⟨c,rfl,e⟩:=e;cases l;refine wpAny_truthy_bool ?_;cases c with
 |false=>exact i pins j σ H1 Q g e
 |true=>exact⟨.bl true,H1,g,rfl,e⟩
def tIf(t:TT)(ta tb:TE):TE:=λσ H Q=>t σ H λc H1=>if c=true then ta σ H1 Q else tb σ H1 Q
theorem BG(hc:PT X c tA)(ha:PE X a ta)(j:PE X b tb):PE X (.IfExp c a b pos) (tIf tA ta tb):=by
 intro pins s σ H Q I h;refine wpAny_IfExp (thn (hc pins s σ H _ I h) λd f e=>?_);obtain⟨H1,g,i⟩:=e;cases d with
 |true=>exact ha pins f σ H1 Q g i
 |false=>exact j pins f σ H1 Q g i
end
def SqL(K:W.Frag)(H:Hp)(a:Addr)(xs:List V):Prop :=
 Rd H a (.lst xs) \/
  ∃(o:Obj)(its:Array Value)(n:Nat),K.lookup a=some o/\o.cls=.type "list"/\o.dict=none/\o.data=.seq its n/\its.size<=sizeLine/\Vals xs its.toList
def SqT(K:W.Frag)(H:Hp)(a:Addr)(xs:List V):Prop :=
 Rd H a (.tup xs) \/
  ∃(o:Obj)(its:Array Value)(n:Nat),K.lookup a=some o/\o.cls=.type "tuple"/\o.data=.seq its n/\its.size<=sizeLine/\Vals xs its.toList
def LS:Value->Option V
 |.none=>some .non
 |.bool b=>some (.bl b)
 |.int i _=>some (.int i)
 |.str x _=>some (.str x)
 |.bytes b _=>some (.byt b)
 |.float b _=>some (.flt b)
 |.ref a=>some (.ref a)
 |.type n=>some (.ty n)
 |_=>none
theorem RelV.abs{x:V}(r:RelV x u):LS u=some x:=by
 cases x with
 |non=>cases r;rfl
 |bl _=>cases r;rfl
 |int _=>obtain⟨t,rfl⟩:=r;rfl
 |str _=>obtain⟨t,rfl⟩:=r;rfl
 |byt _=>obtain⟨t,rfl⟩:=r;rfl
 |flt _=>obtain⟨t,rfl⟩:=r;rfl
 |ref _=>cases r;rfl
 |ty _=>cases r;rfl
theorem RelV.inj{x y:V}(r:RelV x u)(q:RelV y u):x=y:=Option.some.inj (r.abs.symm.trans q.abs)
theorem Vals.inj{ys:List V}(h:Vals xs us)(h':Vals ys us):xs=ys:=by
 induction h generalizing ys with
 |nil=>cases h';rfl
 |cons r t ih =>
  cases h' with
  |cons r' t'=>rw[r.inj r',ih t']
section
variable {ys:List V}
theorem SqL.of(h:H a=some (.lst xs)):SqL K H a xs:=.inl (.inl h)
theorem SqT.of(h:H a=some (.tup xs)):SqT K H a xs:=.inl (.inl h)
theorem Inv.list(I:Inv X pins σ H s)(h:SqL X.K H a xs):∃its:List Value,Vals xs its/\PlainL s.heap a its.toArray/\xs.length<=sizeLine:=by
 rcases h with h|⟨o,its,n,b,hc,hd,c,hz,r⟩
 ·obtain⟨z,its,n,r,e⟩:=h.ok I.hok;exact⟨its,r,⟨_,n,e,rfl,rfl,rfl⟩,z⟩
 ·refine⟨its.toList,r,⟨o,n,I.kIn a o b,hc,hd,by simpa using c⟩,?_⟩;have e:=r.length;simp only[O4]at e;omega
theorem Inv.tuple(I:Inv X pins σ H s)(h:SqT X.K H a xs):∃its:List Value,Vals xs its/\IsTup s.heap a its.toArray/\xs.length<=sizeLine:=by
 rcases h with h|⟨o,its,n,b,hc,c,hz,r⟩
 ·obtain⟨z,its,r,p⟩:=h.ok I.hok;exact⟨its,r,p.tup,z⟩
 ·refine⟨its.toList,r,⟨o,I.kIn a o b,hc,n,by simpa using c⟩,?_⟩;have e:=r.length;simp only[O4]at e;omega
theorem Inv.list_inj(I:Inv X pins σ H s)(h:SqL X.K H a xs)(h':SqL X.K H a ys):xs=ys:=by
 obtain⟨its,r,⟨o,n,e,_,_,d⟩,_⟩:=I.list h;obtain⟨its',c,⟨o',n',b,_,_,d'⟩,_⟩:=I.list h';rw[e]at b;cases b;rw[d]at d';injection d' with d1 _
 have:its=its':=by simpa using congrArg Array.toList d1
 subst this;exact r.inj c
theorem Inv.tuple_inj(I:Inv X pins σ H s)(h:SqT X.K H a xs)(h':SqT X.K H a ys):xs=ys:=by
 obtain⟨its,r,⟨o,e,_,n,d⟩,_⟩:=I.tuple h;obtain⟨its',c,⟨o',b,_,n',d'⟩,_⟩:=I.tuple h';rw[e]at b;cases b;rw[d]at d';injection d' with d1 _
 have:its=its':=by simpa using congrArg Array.toList d1
 subst this;exact r.inj c
end
abbrev Cx.wish(X:Cx)(E:Value->Shared->Prop):Cx:={ X with xe:=E }
abbrev Cx.nox(X:Cx):Cx:=X.wish λ_ _=>False
theorem Cx.Ok.wish(ok:X.Ok)(E:Value->Shared->Prop):(X.wish E).Ok :=
 ⟨ok.mod,ok.kind,ok.glob,ok.blt,ok.above,ok.inj,ok.has,ok.cab,ok.hd,ok.frames,ok.stk,ok.exf,ok.bs,ok.bsz,ok.noex,ok.exfs,ok.funs,ok.frf⟩
theorem Cx.Ok.unwish(ok:(X.wish E).Ok):X.Ok :=
 ⟨ok.mod,ok.kind,ok.glob,ok.blt,ok.above,ok.inj,ok.has,ok.cab,ok.hd,ok.frames,ok.stk,ok.exf,ok.bs,ok.bsz,ok.noex,ok.exfs,ok.funs,ok.frf⟩
section
theorem Inv.wish(I:Inv X pins σ H s)(E:Value->Shared->Prop):Inv (X.wish E) pins σ H s:=⟨I.ok.wish E,I.os,I.bare,I.base,I.loc,I.cell,I.free,I.freeC,I.pin,I.hok,I.len,I.tab⟩
theorem Inv.unwish(I:Inv (X.wish E) pins σ H s):Inv X pins σ H s:=⟨I.ok.unwish,I.os,I.bare,I.base,I.loc,I.cell,I.free,I.freeC,I.pin,I.hok,I.len,I.tab⟩
theorem SP.unwish{D:Ends}{f:Flow}(h:SP (X.wish E) pins D f s'):SP X pins D f s':=by
 cases f with
 |next=>obtain⟨a,H',I,q⟩:=h;exact⟨a,H',I.unwish,q⟩
 |brk=>obtain⟨a,H',I,q⟩:=h;exact⟨a,H',I.unwish,q⟩
 |cont=>obtain⟨a,H',I,q⟩:=h;exact⟨a,H',I.unwish,q⟩
 |ret u=>obtain⟨v,a,H',I,r,q⟩:=h;exact⟨v,a,H',I.unwish,r,q⟩
theorem PSs.nox{st:List Stmt}{t:TS}(h:PSs X.nox st t):PSs X st t:=λpins s σ H D I hw =>
 wpAny_mono (h pins s σ H D (I.wish _) hw) (λ_ _ q=>q.unwish) λ_ _ z=>False.elim z
end
section
variable {rest:List Stmt}{t u:TS}{te:TE}
def Ki:TS:=λD σ H=>D.nx σ H
def Lr(t u:TS):TS:=λD σ H=>t { D with nx:=u D } σ H
theorem tR:PSs X [] Ki:=λ_ _ σ H _ I h=>wpAny_execs_nil ⟨σ,H,I,h⟩
theorem dq(h1:PS X st t)(h2:PSs X rest u):PSs X (st::rest) (Lr t u):=by
 intro pins s σ H D I h;refine wpAny_execs_cons (thn (h1 pins s σ H { D with nx:=u D } I h) λf b q=>?_);cases f with
 |next =>obtain⟨a,H',c,q⟩:=q;exact h2 pins b a H' D c q
 |ret v=>exact q
 |brk=>exact q
 |cont=>exact q
theorem i5(h1:PS X st t):PSs X [st] t:=by
 intro pins s σ H D I h;refine wpAny_execs_cons (thn (h1 pins s σ H D I h) λf s1 q=>?_);cases f with
 |next=>exact wpAny_execs_nil q
 |ret v=>exact q
 |brk=>exact q
 |cont=>exact q
theorem Inv.quiet(I:Inv X pins σ H s):interactive X.env=false:=by simp[interactive,I.ok.kind]
def Kh(te:TE):TS:=λD σ H=>te σ H λ_ H1=>D.nx σ H1
theorem lH(b:PE X e te)(c:swapsWith e none pos.line X.env=pure false:=by rfl):PS X (.Expr e pos) (Kh te):=by intro pins s σ H D I h;exact wpAny_Expr_any (thn (b pins s σ H _ I h) λv s1 a=>(by obtain⟨x,H1,f,r1,g⟩:=a;exact⟨σ,H1,f,g⟩)) I.quiet c
def LP(te:TE):TS:=λD σ H=>te σ H D.rt
theorem mx(b:PE X e te):PS X (.Return (some e) pos) (LP te):=by intro pins s σ H D I h;exact wpAny_Return_some (thn (b pins s σ H _ I h) λv s1 a=>(by obtain⟨x,H1,c,f,g⟩:=a;exact⟨x,σ,H1,c,f,g⟩))
def LN(c:TT)(t u:TS):TS:=λD σ H=>c σ H λb H1=>if b=true then t D σ H1 else u D σ H1
theorem yK{a b:List Stmt}{tc:TT}(hc:PT X c tc)(ha:PSs X a t)(j:PSs X b u):PS X (.If c a b pos) (LN tc t u):=by
 intro pins s σ H D I h;refine wpAny_If (thn (hc pins s σ H _ I h) λd f e=>?_);obtain⟨H1,g,i⟩:=e;cases d with
 |true=>exact ha pins f σ H1 D g i
 |false=>exact j pins f σ H1 D g i
end
abbrev TG:=V->St->Hp->(St->Hp->Prop)->Prop
abbrev TGs:=List V->St->Hp->(St->Hp->Prop)->Prop
def PG(X:Cx)(target:Expr)(t:TG):Prop :=
 ∀(pins:List (Addr×Obj))(s:Shared)(σ:St)(H:Hp)(v:V)(u:Value)(Q:St->Hp->Prop),Inv X pins σ H s->RelV v u->t v σ H Q ->
  wpAny (model X.prog X.w) X.A (assign target X.env u) (λ_ s'=>∃a H',Inv X pins a H' s'/\Q a H') X.xe s
def PGs(X:Cx)(ts:List Expr)(t:TGs):Prop :=
 ∀(pins:List (Addr×Obj))(s:Shared)(σ:St)(H:Hp)(vs:List V)(us:List Value)(Q:St->Hp->Prop),Inv X pins σ H s->Vals vs us->t vs σ H Q ->
  wpAny (model X.prog X.w) X.A (assignInOrder ((assignEach ts X.env).map (·.2)) us) (λ_ s'=>∃a H',Inv X pins a H' s'/\Q a H') X.xe s
abbrev Ij:=V->V->V->Hp->(Hp->Prop)->Prop
def Lf(X:Cx)(t:Ij):Prop :=
 ∀(pins:List (Addr×Obj))(s:Shared)(σ:St)(H:Hp)(o i v:V)(a iv u:Value)(Q:Hp->Prop),Inv X pins σ H s->RelV o a->RelV i iv->RelV v u->t o i v H Q ->
  wpAny (model X.prog X.w) X.A (setItem a iv u) (λ_ s'=>∃H',Inv X pins σ H' s'/\Q H') X.xe s
section
def jR(i:Nat):TG:=λv σ H Q=>Q (σ.set i (some v)) H
theorem tK(a:X.N.Nodup)(hi:X.N[i]?=some x)(b:Loc X.env.scope x)(c:X.fn x=true\/X.env.scope.names.lookup x=some .local:=by first|exact .inl rfl|exact .inr rfl|assumption):PG X (.Name x pos) (jR i):=by intro pins s σ H v u Q I r h;exact wpAny_assign_Name (uW I a hi b r (λs' e=>⟨_,H,e,h⟩) c)
def Ii:TGs:=λvs σ H Q=>vs=[]/\Q σ H
def yC(t:TG)(u:TGs):TGs:=λvs σ H Q=>∃v r,vs=v::r/\t v σ H λa H'=>u r a H' Q
theorem yn:PGs X [] Ii:=by intro pins s σ H vs us Q I r h;obtain⟨e,h⟩:=h;subst e;cases r;exact assignInOrder_nil ⟨σ,H,I,h⟩
theorem oO{t:TG}{u:TGs}(h1:PG X e t)(h2:PGs X es u)
  (c:(assignEach (e::es) X.env).map (·.2)=assign e X.env::(assignEach es X.env).map (·.2):=by rfl):PGs X (e::es) (yC t u):=by
 intro pins s σ H vs us Q I r h;obtain⟨v,vr,e1,h⟩:=h;subst e1;cases r with
 |cons r rr =>rw[c];refine assignInOrder_cons (thn (h1 pins s σ H _ _ _ I r h) λ_ f a=>?_);obtain⟨b,H1,g,i⟩:=a;exact h2 pins f b H1 _ _ Q g rr i
def Hq(K:W.Frag)(n:Nat)(t:TGs):TG:=λv σ H Q=>∃a xs,v=.ref a/\SqT K H a xs/\xs.length=n/\t xs σ H Q
theorem CW{k:Nat}{t:TGs}(hc:X.calm=true)(h:PGs X es t)
  (hn:(assignEach es X.env).length=n:=by rfl) (c:(assignEach es X.env).findIdx? (·.1)=none:=by rfl):PG X (.Tuple es k pos) (Hq X.K n t):=by
 intro pins s σ H v u Q I r hw;obtain⟨a,xs,e1,g,hl,hw⟩:=hw;subst e1;cases r;obtain⟨its,f,i,hz⟩:=I.tuple g;refine assign_Tuple_tuple (I.ok.hd hc) i (by simp[hn,<-hl,f.length]) c λh' j=>?_
 have l:Inv X pins σ H { s with heap:=h' }:=I.kept (t':=s.toks) λb o e=>j b o (Mf (Mg e)) e
 exact h pins _ σ H xs _ Q l (by simpa using f) hw
def Lu(to a:TE)(t:Ij):TG:=λv σ H Q=>to σ H λo H1=>a σ H1 λi H2=>t o i v H2 λb=>Q σ b
theorem JU{o i:Expr}{to c:TE}{t:Ij}(e:PE X o to)(hi:PE X i c)(f:Lf X t)
  (ha:∀v,assign (.Subscript o i pos) X.env v=(do
   let b <-holding [v] (eval o X.env);let iv <-holding [v,b] (eval i X.env)
   standAt pos
   holding [v,b,iv] (setItem b iv v)
   release [v,b,iv] []):=by intro _;rfl):PG X (.Subscript o i pos) (Lu to c t):=by
 intro pins s σ H v u Q I r h;rw[ha];refine wpAny_bind (wpAny_holding (thn (e pins s σ H _ I h) λb g a=>?_));obtain⟨x,H1,j,l,m⟩:=a;refine wpAny_bind (wpAny_holding (thn (hi pins g σ H1 _ j m) λiv s2 a=>?_));obtain⟨y,H2,n,p,q⟩:=a;refine wpAny_bind (wpAny_standAt (wpAny_bind (wpAny_holding (thn (f pins s2 σ H2 x y v b iv u _ n l p r q) λ_ s3 a=>?_))));obtain⟨w,z,A⟩:=a;exact wpAny_release ⟨σ,w,z,A⟩
def Ef(te:TE)(g:TG):TS:=λD σ H=>te σ H λx H1=>g x σ H1 D.nx
theorem Cn{te:TE}{g:TG}(b:PE X e te)(c:PG X tg g)(f:swapsWithSole [tg] e pos.line X.env=pure false:=by rfl)(hw:swappedStores [tg] e X.env=pure none:=by rfl)
  (h1:(assignEach [tg] X.env).map (·.2)=[assign tg X.env]:=by rfl):PS X (.Assign [tg] e pos) (Ef te g):=by
 intro pins s σ H D I h;refine wpAny_Assign_stores (thn (b pins s σ H _ I h) λv i a=>?_) f hw;obtain⟨x,H1,j,l,m⟩:=a;rw[h1];exact thn (c pins i σ H1 x v _ j l m) λ_ s2 q=>q
theorem mV{te:TE}(b:X.N.Nodup)(hi:X.N[i]?=some x)(c:Loc X.env.scope x)(f:PE X e te)(g:swapsWith e (some (.Name x pos')) pos.line X.env=pure false:=by rfl)(j:X.fn x=true\/X.env.scope.names.lookup x=some .local:=by first|exact .inl rfl|exact .inr rfl|assumption) :
  PS X (.Assign [.Name x pos'] e pos) (Ef te (jR i)):=by
 intro pins s σ H D I h;refine wpAny_Assign_Name (thn (f pins s σ H _ I h) λv s1 a=>?_) g;obtain⟨y,H1,l,m,n⟩:=a;exact uW l b hi c m (λs2 o=>⟨_,H1,o,n⟩) j
end
section
def HG(c:TT)(tb:TS):TS:=λD σ H=>∃W:Nat->St->Hp->Prop,(∃m,W m σ H)/\∀m σ H,W m σ H ->
 c σ H λb H1=>if b=true then ∃N:St->Hp->Prop,(∀a H',N a H'->∃e,e < m/\W e a H')/\tb { D with nx:=N,ct:=N,bk:=D.nx } σ H1 else D.nx σ H1
theorem wz{tc:TT}{tb:TS}(t:PassesOwn (model X.prog X.w) X.A X.env X.xe)(hc:PT X c tc)(y:PSs X body tb):PS X (.While c body [] pos) (HG tc tb):=by
 intro pins s σ H D I h;obtain⟨W,⟨z,B⟩,turn⟩:=h;refine wpAny_While (codeAny_whileLoop (λn s'=>∃g H',Inv X pins g H' s'/\W n g H') ?_ z ⟨σ,H,I,B⟩)
 rintro n C ⟨e,H1,E,F⟩
 refine wpAny_passesOwn t (thn (hc pins C e H1 _ E (turn n e H1 F)) λb s2 m=>?_);obtain⟨H2,u,j⟩:=m;cases b with
 |true =>
  obtain⟨N,x,j⟩:=j;rw[if_pos rfl];refine wpAny_passesOwn t (thn (y pins s2 e H2 _ u j) λf s3 l=>?_);cases f with
  |next =>obtain⟨a,i,o,p⟩:=l;obtain⟨q,hm,r⟩:=x a i p;exact⟨q,hm,a,i,o,r⟩
  |cont =>obtain⟨a,i,o,p⟩:=l;obtain⟨q,hm,r⟩:=x a i p;exact⟨q,hm,a,i,o,r⟩
  |brk=>exact l
  |ret v=>exact l
 |false =>rw[if_neg Mi];exact wpAny_execs_nil ⟨e,H2,u,j⟩
end
structure It where
 go:Nat->Hp->Prop
 yld:Nat->Hp->V->Hp->Prop
 stop:Nat->Hp->Prop
def oZ(X:Cx)(pins:List (Addr×Obj))(H:Hp)(b:Addr):Prop :=
 H b=none/\b≠X.env.locals/\b∉X.fs/\(b∈X.ex\/X.s₀.heap.objs.size<=b)/\(∀x c,X.env.cells.lookup x=some c->c≠b)/\∀p∈X.pn++pins,p.1≠b
theorem Inv.fpOk{H':Hp}(I:Inv X pins σ H s)(a:s.heap.objs.size<=b)(hn:H' b=none):oZ X pins H' b:=by
 refine⟨hn,MU (Mq I.lt a),I.nofs a,.inr (N5 I.sz a),λx c e z=>?_,λp f z=>?_⟩
 ·obtain⟨v,q⟩:=I.cell x c e;exact absurd (Mq q.lt (by rw[z];exact a)) (Nn _)
 ·exact absurd (Mq (Mg (I.pin p f).1) (by rw[z];exact a)) (Nn _)
structure Turn(P:Program)(w:World)(K:W.Frag)(tg:Expr)(J:It)(fp:List Addr)(it:Addr)(tn:Nat->Heap->Prop):Prop where
 mem:it∈fp
 obj:∀i h,tn i h->∀b∈fp,∃o,h.get? b=some o/\∀v,o.data≠.cell v
 keep:∀i h h',tn i h->(∀b∈fp,∀o,h.get? b=some o->h'.get? b=some o)->tn i h'
 item:∀(X:Cx),X.prog=P->X.w=w->X.K=K->X.calm=true->∀(i:Nat)(pins:List (Addr×Obj))(s:Shared)(σ:St)(H:Hp)(E:Value->Shared->Prop),Inv X pins σ H s->(∀b∈fp,oZ X pins H b)->tn i s.heap->J.go i H ->
  wpAny (model P w) X.A (pyNext (.ref it)) (λr s1=>∃u,r=some u /\
   wpAny (model P w) X.A (letOwnedTupleGo tg (.ref it) u) (λ_ s2=>∃x H',Inv X pins σ H' s2/\RelV x u/\J.yld i H x H'/\tn (i+1) s2.heap/\∀b∈fp,H' b=none) E s1) E s
 done:∀(X:Cx),X.prog=P->X.w=w->X.K=K->X.calm=true->∀(i:Nat)(pins:List (Addr×Obj))(s:Shared)(σ:St)(H:Hp)(E:Value->Shared->Prop),Inv X pins σ H s->(∀b∈fp,oZ X pins H b)->tn i s.heap->J.stop i H ->
  wpAny (model P w) X.A (pyNext (.ref it)) (λr s1=>r=none/\Inv X pins σ H s1) E s
 self:∀(A:Around)(i:Nat)(s:Shared)(Q:Value->Shared->Prop)(E:Value->Shared->Prop),tn i s.heap->Q (.ref it) s->wpAny (model P w) A (pyIter (.ref it)) Q E s
abbrev TI:=St->Hp->(It->Hp->Prop)->Prop
def PIE(X:Cx)(pins:List (Addr×Obj))(σ:St)(tg:Expr)(R:It->Hp->Prop)(a:Value)(s2:Shared):Prop :=
 ∃(it:Addr)(fp:List Addr)(tn:Nat->Heap->Prop)(J:It)(H':Hp),a=.ref it/\Inv X pins σ H' s2/\Turn X.prog X.w X.K tg J fp it tn/\tn 0 s2.heap/\(∀b∈fp,oZ X pins H' b)/\R J H'
def PI(X:Cx)(tg iter:Expr)(a:TI):Prop :=
 ∀(pins:List (Addr×Obj))(s:Shared)(σ:St)(H:Hp)(R:It->Hp->Prop),Inv X pins σ H s->a σ H R ->
  wpAny (model X.prog X.w) X.A (eval iter X.env) (λv b=>wpAny (model X.prog X.w) X.A (pyIter v) (PIE X pins σ tg R) X.xe b) X.xe s
theorem uV{o:Obj}{n:String}{vs:Array Value}{Q:Unit->Shared->Prop}(b:s.heap.get? it=some o)(hc:o.cls=.type n)(hd:o.data=.fields vs)
    (hn:["enumerate", "zip", "dict_itemiterator", "dict_reverseitemiterator", "odict_iterator", "itertools.zip_longest", "itertools.pairwise"].contains n=false) (a:Q () s):wpAny M A (letOwnedTupleGo tg (.ref it) u) Q E s:=by
  unfold letOwnedTupleGo
  cases tg <;> first
    |exact wpAny_pure a
    | (cases u <;> first
        |exact wpAny_pure a
        | (refine wpAny_bind (wpAny_load b ?_)
           rw[hc,hd]
           show wpAny M A (if (["enumerate", "zip", "dict_itemiterator", "dict_reverseitemiterator", "odict_iterator", "itertools.zip_longest", "itertools.pairwise"].contains n&&vs[0]?==some (rawInt _))=true then _ else _) Q E s
           rw[if_neg (by intro h;rw[hn,Bool.false_and]at h;cases h)]
           exact wpAny_pure a))
noncomputable def Itl(K:W.Frag)(a:Addr):It :=
 ⟨λi H=>∃xs x,SqL K H a xs/\xs[i]?=some x,λi H x H'=>H'=H/\∀xs,SqL K H a xs->xs[i]?=some x,λi H=>∃xs,SqL K H a xs/\xs.length<=i⟩
noncomputable def Itt(K:W.Frag)(a:Addr):It :=
 ⟨λi H=>∃xs x,SqT K H a xs/\xs[i]?=some x,λi H x H'=>H'=H/\∀xs,SqT K H a xs->xs[i]?=some x,λi H=>∃xs,SqT K H a xs/\xs.length<=i⟩
noncomputable def Itr(lo:Int)(n:Nat):It:=⟨λi _=>i<n,λi H x H'=>H'=H/\x=.int (lo+i),λi _=>n<=i⟩
theorem AN(a it:Addr):Turn P w K tg (Itl K a) [it] it (λi h=>h.IsListIter it a i) where
 mem:=by simp
 obj:=λi h st b f=>by
  have e:b=it:=by simpa using f
  subst e;obtain⟨o,e,c,d⟩:=st;exact⟨o,e,λv z=>by rw[d]at z;cases z⟩
 keep:=λi h h' st k=>st.at λo e=>k it (by simp) o e
 item:=by
  intro X m hw hK hc i pins s σ H E I j st n;subst m hw hK;obtain⟨xs,x,l,q⟩:=n;obtain⟨its,r,p,C⟩:=I.list l;obtain⟨u,D,F⟩:=r.get q;obtain⟨t,f1,f2,y,A,B⟩:=j it (by simp);refine wpAny_pyNext_list_item st p.isList (x:=u) (by simpa using D) λh' g G=>?_
  have J:Inv X pins σ H { s with heap:=h' }:=I.turned (t':=s.toks) (λb o f e=>(G.2 b f).trans e) t f1 y A B;obtain⟨o,e,c,d⟩:=id g;exact⟨u,rfl,uV (s:={ s with heap:=h' }) e c d (by decide) ⟨x,H,J,F,⟨rfl,λys L=>by rw[I.list_inj L l];exact q⟩,g,λb f=>(j b f).1⟩⟩
 done:=by intro X m hw hK hc i pins s σ H E I j st n;subst m hw hK;obtain⟨xs,l,q⟩:=n;obtain⟨its,r,p,C⟩:=I.list l;obtain⟨t,f1,f2,y,A,B⟩:=j it (by simp);have hl:=r.length;exact wpAny_pyNext_list_end (I.ok.hd hc) st p.isList (by simp;omega) λh' M=>⟨rfl,I.turned (t':=s.toks) (λb o f e=>M b o f e) t f1 y A B⟩
 self:=λ_ _ _ _ _ st h=>wpAny_pyIter_listiter st h
theorem xi(a it:Addr):Turn P w K tg (Itt K a) [it] it (λi h=>h.IsTupleIter it a i) where
 mem:=by simp
 obj:=λi h st b f=>by
  have e:b=it:=by simpa using f
  subst e;obtain⟨o,e,c,d⟩:=st;exact⟨o,e,λv z=>by rw[d]at z;cases z⟩
 keep:=λi h h' st k=>st.at λo e=>k it (by simp) o e
 item:=by
  intro X m hw hK hc i pins s σ H E I j st n;subst m hw hK;obtain⟨xs,x,l,q⟩:=n;obtain⟨its,r,p,C⟩:=I.tuple l;obtain⟨u,D,F⟩:=r.get q;obtain⟨t,f1,f2,y,A,B⟩:=j it (by simp);refine wpAny_pyNext_tuple_item st (show s.heap.IsTuple a its.toArray from p) (x:=u) (by simpa using D) λh' g G=>?_
  have J:Inv X pins σ H { s with heap:=h' }:=I.turned (t':=s.toks) (λb o f e=>(G.2 b f).trans e) t f1 y A B;obtain⟨o,e,c,d⟩:=id g;exact⟨u,rfl,uV (s:={ s with heap:=h' }) e c d (by decide) ⟨x,H,J,F,⟨rfl,λys L=>by rw[I.tuple_inj L l];exact q⟩,g,λb f=>(j b f).1⟩⟩
 done:=by intro X m hw hK hc i pins s σ H E I j st n;subst m hw hK;obtain⟨xs,l,q⟩:=n;obtain⟨its,r,p,C⟩:=I.tuple l;obtain⟨t,f1,f2,y,A,B⟩:=j it (by simp);have hl:=r.length;exact wpAny_pyNext_tuple_end (I.ok.hd hc) st (show s.heap.IsTuple a its.toArray from p) (by simp;omega) λh' M=>⟨rfl,I.turned (t':=s.toks) (λb o f e=>M b o f e) t f1 y A B⟩
 self:=λ_ _ _ _ _ st h=>wpAny_pyIter_tupleiter st h
theorem xO(it:Addr)(lo:Int)(n:Nat):Turn P w K tg (Itr lo n) [it] it (λi h=>IsRangeIter h it (lo+(i:Nat)*1) ((n:Int)-(i:Nat)) 1) where
 mem:=by simp
 obj:=λi h st b a=>by
  have e:b=it:=by simpa using a
  subst e;exact⟨_,st,λv z=>by have r:Data.fields _=Data.cell v:=z;cases r⟩
 keep:=λi h h' st k=>k it (by simp) _ st
 item:=by
  intro X g hw hK hc i pins s σ H E I f st j;subst g hw hK;obtain⟨l,f1,f2,m,p,q⟩:=f it (by simp);have W:=Walks.range (prog:=X.prog) (w:=X.w) (I.ok.hd hc) it lo 1 n;refine W.item i s _ _ j st λv h' tk hv c u=>?_
  obtain⟨t,rfl⟩:=hv;have x:Inv X pins σ H { s with heap:=h',toks:=tk }:=I.turned (λb o a e=>u b o (by simpa using a) e) l f1 m p q;refine⟨_,rfl,uV (s:={ s with heap:=h',toks:=tk }) (n:="range_iterator") c rfl rfl (by decide) ⟨.int (lo+i),H,x,⟨t,?_⟩,⟨rfl,rfl⟩,c,λb a=>(f b a).1⟩⟩;rw[Int.mul_one]
 done:=by intro X g hw hK hc i pins s σ H E I f st j;subst g hw hK;obtain⟨l,f1,f2,m,p,q⟩:=f it (by simp);exact wpAny_pyNext_range_end (I.ok.hd hc) st (by have:n<=i:=j;omega) λh' y=>⟨rfl,I.turned (t':=s.toks) (λb o a e=>y b o a e) l f1 m p q⟩
 self:=λ_ _ _ _ _ st h=>wpAny_pyIter_rangeiter st h
section
def Kj(K:W.Frag)(tl:TE):TI:=λσ H R=>tl σ H λx H1=>∃a,x=.ref a/\(∃xs,SqL K H1 a xs)/\R (Itl K a) H1
def LO(K:W.Frag)(tl:TE):TI:=λσ H R=>tl σ H λx H1=>∃a,x=.ref a/\(∃xs,SqT K H1 a xs)/\R (Itt K a) H1
theorem FA{l:Expr}{tl:TE}(hl:PE X l tl):PI X tg l (Kj X.K tl):=by
 intro pins s σ H R I h;refine thn (hl pins s σ H _ I h) λv c g=>?_
 obtain⟨x,H1,f,i,j⟩:=g;obtain⟨a,e,⟨xs,m⟩,q⟩:=j;subst e;cases i;obtain⟨its,rv,p,hz⟩:=f.list m;refine wpAny_pyIter_list p.isList ?_;refine⟨c.heap.objs.size,[c.heap.objs.size],_,_,H1,rfl,f.kept (t':=c.toks) λb o e=>M3 _ e,AN a _,⟨_,Ml _ rfl,rfl,rfl⟩,λb n=>?_,q⟩;have e:b=c.heap.objs.size:=by simpa using n
 subst e;exact f.fpOk (Me _) (f.hok.fresh (Me _))
theorem JI{l:Expr}{tl:TE}(hl:PE X l tl):PI X tg l (LO X.K tl):=by
 intro pins s σ H R I h;refine thn (hl pins s σ H _ I h) λv c g=>?_
 obtain⟨x,H1,f,i,j⟩:=g;obtain⟨a,e,⟨xs,m⟩,q⟩:=j;subst e;cases i;obtain⟨its,rv,p,hz⟩:=f.tuple m;refine wpAny_pyIter_tuple (show c.heap.IsTuple a its.toArray from p) ?_;refine⟨c.heap.objs.size,[c.heap.objs.size],_,_,H1,rfl,f.kept (t':=c.toks) λb o e=>M3 _ e,xi a _,⟨_,Ml _ rfl,rfl,rfl⟩,λb n=>?_,q⟩;have e:b=c.heap.objs.size:=by simpa using n
 subst e;exact f.fpOk (Me _) (f.hok.fresh (Me _))
theorem DL{R:It->Hp->Prop}{hi:Int}{t u v:Tok}{tk:Nat}(I:Inv X pins σ H s)(h1:-(2 ^ 62)<=lo)(h2:lo<2 ^ 62)(c:-(2 ^ 62)<=hi)(f:hi<2 ^ 62)
  (q:R (Itr lo (hi-lo).toNat) H):wpAny (model X.prog X.w) X.A (pyIter (.ref s.heap.objs.size)) (PIE X pins σ tg R) E { s with heap:=s.heap.push { cls:=.type "range",data:=.fields #[.int lo t,.int hi u,.int 1 v] },toks:=tk }:=by
 refine wpAny_pyIter_range (IsRange.new ..) (small_one h1 h2 c f) ?_;have a:Inv X pins σ H { s with heap:=s.heap.push { cls:=.type "range",data:=.fields #[.int lo t,.int hi u,.int 1 v] },toks:=tk }:=I.kept λb o e=>M3 _ e
 refine⟨(s.heap.push { cls:=.type "range",data:=.fields #[.int lo t,.int hi u,.int 1 v] }).objs.size,[(s.heap.push { cls:=.type "range",data:=.fields #[.int lo t,.int hi u,.int 1 v] }).objs.size],_,_,H,rfl,
  a.kept (t':=tk) λb o e=>M3 _ e,xO _ lo (hi-lo).toNat,?_,λb g=>?_,q⟩
 ·have e1:lo+((0:Nat):Int)*1=lo:=by simp
  have e2:(((hi-lo).toNat:Nat):Int)-((0:Nat):Int)=Builtin.Range.rangeSize lo hi 1:=by rw[rangeSize_one];split <;> omega
  show IsRangeIter _ _ (lo+((0:Nat):Int)*1) ((((hi-lo).toNat:Nat):Int)-((0:Nat):Int)) 1;rw[e1,e2];exact Ml _ rfl
 ·have e:b=(s.heap.push { cls:=.type "range",data:=.fields #[.int lo t,.int hi u,.int 1 v] }).objs.size:=by simpa using g
  subst e;exact a.fpOk (Me _) (a.hok.fresh (Me _))
def K6(ta:TA):TI:=λσ H R=>ta σ H λvs H1=>∃j:Int,vs=[.int j]/\-(2 ^ 62)<=j/\j<2 ^ 62/\R (Itr 0 j.toNat) H1
theorem zW{a:Expr}{ta:TA}(f:Gl X "range")(hm:X.mg "range"=none)(ha:PA X [a] ta)(g:starEach [a] X.env=[(false,eval a X.env)]:=by rfl):PI X tg (.Call (.Name "range" p) [a] [] pos) (K6 ta):=by
 intro pins s σ H R I h;refine Call_ (fo I f hm boot_range (PyProof.Rows.callWith_type1 (thn (ha pos pins s σ H _ I h) λus s1 b=>?_) g rfl));obtain⟨vs,H1,i,l,c⟩:=b;obtain⟨j,e,c,m,q⟩:=c;subst e;cases l with
 |cons r rr =>cases rr;obtain⟨t,rfl⟩:=r;exact call_range_1 (DL i (by omega) (by omega) c m (by simpa using q))
def LL(e:TI)(g:TG)(tb:TS):TS:=λD σ H=>e σ H λJ H1=>∃W:Nat->Nat->St->Hp->Prop,(∃m,W 0 m σ H1)/\∀i m σ H,W i m σ H ->
 (J.stop i H/\D.nx σ H)\/(J.go i H/\∃N:St->Hp->Prop,(∀a H',N a H'->∃c,c < m/\W (i+1) c a H')/\∀x H',J.yld i H x H'->g x σ H' λb H2=>tb { D with nx:=N,ct:=N,bk:=D.nx } b H2)
def oJ(fp:List Addr)(h:Heap):List (Addr×Obj):=fp.filterMap λb=>(h.get? b).map λo=>(b,o)
theorem i3{o:Obj}(a:b∈fp)(e:h.get? b=some o):(b,o)∈oJ fp h:=O7.mpr ⟨b,a,by rw[e];rfl⟩
theorem Ai{p:Addr×Obj}(a:p∈oJ fp h):p.1∈fp/\h.get? p.1=some p.2:=by
 obtain⟨b,c,e⟩:=O7.mp a;cases q:h.get? b with
 |none=>rw[q]at e;cases e
 |some o =>rw[q]at e;have f:(b,o)=p:=Option.some.inj e;subst f;exact⟨c,q⟩
theorem Inv.pinned(I:Inv X pins σ H s)(f:∀b∈fp,oZ X pins H b)(g:∀b∈fp,∃o,s.heap.get? b=some o/\∀v,o.data≠.cell v):Inv X (pins++oJ fp s.heap) σ H s :=
 I.pins_of λp h=>(Mx.mp h).elim (λz=>I.pin p (Md _ z)) λz=>by obtain⟨a,e⟩:=Ai z;obtain⟨i,f1,f2,_⟩:=f p.1 a;obtain⟨o,c,d⟩:=g p.1 a;rw[e]at c;cases c;exact⟨e,i,f1,f2,d⟩
theorem Inv.unpinned{pl:List (Addr×Obj)}(I:Inv X (pins++pl) σ H s):Inv X pins σ H s:=I.pins_of λp a=>I.pin p (Md _ (MF _ a))
theorem HQ{S:TI}{g:TG}{tb:TS}(C:PassesOwn (model X.prog X.w) X.A X.env X.xe)(hc:X.calm=true)(hi:PI X tg iter S)(hg:PG X tg g)(j:PSs X body tb)
  (hs:∀x,foldedSetIterable iter X.env x=pure x:=by intro _;rfl):PS X (.For tg iter body [] pos) (LL S g tb):=by
 intro pins s σ H D I h;refine wpAny_For (thn (hi pins s σ H _ I h) λv s1 h1=>thn h1 λitv s2 h2=>?_) hs;obtain⟨it,fp,tn,J,H2,e,I2,T,L,f2,W,⟨m0,w0⟩,turn⟩:=h2;subst e
 -- what stays true of the iterator's objects through the loop
 have l:∀{H':Hp},(∀b∈fp,H' b=none)->∀b∈fp,oZ X pins H' b:=λhn b j=>⟨hn b j,(f2 b j).2⟩
 refine codeAny_forLoop_any (λn s'=>∃i p H',Inv X pins p H' s'/\tn i s'.heap/\(∀b∈fp,H' b=none)/\W i n p H') ?_ m0 ⟨0,σ,H2,I2,L,λb j=>(f2 b j).1,w0⟩
 rintro n U ⟨i,q,K,Y,E,F,w3⟩
 rcases turn i n q K w3 with⟨stop,qn⟩|⟨go,N,hN,step⟩
 ·refine wpAny_passesOwn C (thn (T.done X rfl rfl rfl hc i pins U q K X.xe Y (l F) E stop) λr s4 c=>?_);obtain⟨M,I4⟩:=c;subst M;exact wpAny_execs_nil ⟨q,K,I4,qn⟩
 ·refine wpAny_passesOwn C (thn (T.item X rfl rfl rfl hc i pins U q K X.xe Y (l F) E go) λr s4 c=>?_);obtain⟨u,M,h4⟩:=c;subst M;refine wpAny_passesOwn C (thn h4 λ_ Z c=>?_);obtain⟨x,H5,I5,r5,y5,B,O⟩:=c;have P:=I5.pinned (l O) (T.obj _ _ B);refine wpAny_passesOwn C (thn (hg _ Z q H5 x u _ P r5 (step x H5 y5)) λ_ s6 c=>?_);obtain⟨Q,H6,I6,q6⟩:=c;refine wpAny_passesOwn C (thn (j _ s6 Q H6 _ I6 q6) λf R z=>?_);have again:∀{a:St}{t:Hp},Inv X (pins++oJ fp Z.heap) a t R->N a t->∃m,m<n/\∃i p H',Inv X pins p H' R/\tn i R.heap/\(∀b∈fp,H' b=none)/\W i m p H':=λ{a t} y G=>by obtain⟨m',hm,w7⟩:=hN a t G;refine⟨m',hm,i+1,a,t,y.unpinned,T.keep _ _ _ B λb j o e=>(y.pin (b,o) (Md _ (Md _ (i3 j e)))).1,λb j=>?_,w7⟩;obtain⟨o,e,d⟩:=T.obj _ _ B b j;exact (y.pin (b,o) (Md _ (Md _ (i3 j e)))).2.1
  cases f with
  |next=>obtain⟨a,t,y,G⟩:=z;exact again y G
  |cont=>obtain⟨a,t,y,G⟩:=z;exact again y G
  |brk=>obtain⟨a,t,y,z⟩:=z;exact⟨a,t,y.unpinned,z⟩
  |ret v=>obtain⟨x7,a,t,y,r7,z⟩:=z;exact⟨x7,a,t,y.unpinned,r7,z⟩
end
abbrev R2:=V->V->Hp->VK->Prop
variable {r:R2}
def OpR(X:Cx)(f:Value->Value->Sem Value)(r:R2):Prop :=
 ∀(pins:List (Addr×Obj))(s:Shared)(σ:St)(H:Hp)(x y:V)(v u:Value)(Q:VK),Inv X pins σ H s->RelV x v->RelV y u->r x y H Q ->
  wpAny (model X.prog X.w) X.A (f v u) (EP X pins σ Q) X.xe s
def UnR(X:Cx)(f:Value->Sem Value)(r:V->Hp->VK->Prop):Prop :=
 ∀(pins:List (Addr×Obj))(s:Shared)(σ:St)(H:Hp)(x:V)(v:Value)(Q:VK),Inv X pins σ H s->RelV x v->r x H Q ->
  wpAny (model X.prog X.w) X.A (f v) (EP X pins σ Q) X.xe s
def jS(X:Cx)(f:Value)(r:List V->Hp->VK->Prop):Prop :=
 ∀(pins:List (Addr×Obj))(s:Shared)(σ:St)(H:Hp)(xs:List V)(us:List Value)(Q:VK),Inv X pins σ H s->Vals xs us->r xs H Q ->
  wpAny (model X.prog X.w) X.A (call f us) (EP X pins σ Q) X.xe s
def tOp(r:R2)(ta tb:TE):TE:=λσ H Q=>ta σ H λx H1=>tb σ H1 λy H2=>r x y H2 Q
def tUn(r:V->Hp->VK->Prop)(ta:TE):TE:=λσ H Q=>ta σ H λx H1=>r x H1 Q
def rI(C:Int->Int->Prop)(g:Int->Int->V):R2:=λx y H Q=>∃i j,x=.int i/\y=.int j/\C i j/\Q (g i j) H
def rI0(g:Int->Int->V):R2:=λx y H Q=>∃i j,x=.int i/\y=.int j/\Q (g i j) H
def rU(g:Int->V):V->Hp->VK->Prop:=λx H Q=>∃i,x=.int i/\Q (g i) H
section
variable {a b:Expr}{ta tb tc:TE}
theorem Iq(ha:PE X a ta)(i:PE X b tb)(I:Inv X pins σ H s)
  (h:ta σ H λx H1=>tb σ H1 λy H2=>R x y H2) {f:Value->Value->Sem Value}
  (j:∀v u s2 x y H2,Inv X pins σ H2 s2->RelV x v->RelV y u->R x y H2->wpAny (model X.prog X.w) X.A (f v u) Q X.xe s2) :
  wpAny (model X.prog X.w) X.A (eval a X.env) (λv e=>wpAny (model X.prog X.w) X.A (eval b X.env) (λu g=>wpAny (model X.prog X.w) X.A (f v u) Q X.xe g) X.xe e) X.xe s:=by
 refine thn (ha pins s σ H _ I h) λv l c=>?_
 obtain⟨x,H1,m,n,o⟩:=c;refine thn (i pins l σ H1 _ m o) λu s2 c=>?_
 obtain⟨y,H2,p,q,r⟩:=c;exact j v u s2 x y H2 p n q r
theorem eS{op:Operator}(c:OpR X (binaryOp op) r)(ha:PE X a ta)(e:PE X b tb):PE X (.BinOp a op b pos) (tOp r ta tb):=by intro pins s σ H Q I h;exact wpAny_BinOp (Iq ha e I h λv u s2 x y H2 f g i q=>c pins s2 σ H2 x y v u Q f g i q)
theorem KG{op:UnaryOp}{r:V->Hp->VK->Prop}(c:UnR X (unaryOp op) r)(ha:PE X a ta):PE X (.UnaryOp op a pos) (tUn r ta):=by intro pins s σ H Q I h;exact UnaryOp_ (thn (ha pins s σ H _ I h) λv e b=>(by obtain⟨x,H1,f,g,i⟩:=b;exact c pins e σ H1 x v Q f g i))
theorem opI{f:Value->Value->Sem Value}{C:Int->Int->Prop}
  (rule:∀(i j:Int)(t u:Tok)(s:Shared)(Q:Value->Shared->Prop)(E:Value->Shared->Prop),C i j->Q (.int (g i j) s.toks) { s with toks:=s.toks+1 }->wpAny (model X.prog X.w) X.A (f (.int i t) (.int j u)) Q E s) :
  OpR X f (rI C λi j=>.int (g i j)):=by
 intro pins s σ H x y v u Q I a b h;obtain⟨i,j,rfl,rfl,hc,q⟩:=h;obtain⟨t,rfl⟩:=a;obtain⟨t',rfl⟩:=b;exact rule i j t t' s _ _ hc ⟨.int (g i j),H,I.tok _,⟨_,rfl⟩,q⟩
theorem KI{f:Value->Value->Sem Value}
  (rule:∀(i j:Int)(t u:Tok)(s:Shared)(Q:Value->Shared->Prop)(E:Value->Shared->Prop),Q (.int (g i j) s.toks) { s with toks:=s.toks+1 }->wpAny (model X.prog X.w) X.A (f (.int i t) (.int j u)) Q E s) :
  OpR X f (rI0 λi j=>.int (g i j)):=by
 intro pins s σ H x y v u Q I a b h;obtain⟨i,j,rfl,rfl,q⟩:=h;obtain⟨t,rfl⟩:=a;obtain⟨t',rfl⟩:=b;exact rule i j t t' s _ _ ⟨.int (g i j),H,I.tok _,⟨_,rfl⟩,q⟩
theorem HN{f:Value->Value->Sem Value}{g:Int->Int->Bool}
  (rule:∀(i j:Int)(t u:Tok)(s:Shared)(Q:Value->Shared->Prop)(E:Value->Shared->Prop),Q (.bool (g i j)) s->wpAny (model X.prog X.w) X.A (f (.int i t) (.int j u)) Q E s) :
  OpR X f (rI0 λi j=>.bl (g i j)):=by
 intro pins s σ H x y v u Q I a b h;obtain⟨i,j,rfl,rfl,q⟩:=h;obtain⟨t,rfl⟩:=a;obtain⟨t',rfl⟩:=b;exact rule i j t t' s _ _ ⟨.bl (g i j),H,I,rfl,q⟩
def Ko(i j:Int):Prop:=0<j/\j<1073741824
def Lb(i j:Int):Prop:=0<=j/\j<=1000000/\i.natAbs<2 ^ 64
def FZ(i j:Int):Prop:=(-(2 ^ 64)<i/\i<2 ^ 64)\/(-(2 ^ 64)<j/\j<2 ^ 64)
theorem FZ.ok{i j:Int}(h:FZ i j):IntMulOk i j:=by
 rcases h with⟨h1,h2⟩|⟨h1,h2⟩
 ·exact .of_left (intBits_le_64 h1 h2)
 ·exact .of_right (intBits_le_64 h1 h2)
theorem m8:OpR X (binaryOp .Add) (rI0 λi j=>.int (i+j)):=KI λ_ _ _ _ _ _ _ q=>add_int q
theorem IP:OpR X (binaryOp .Sub) (rI0 λi j=>.int (i-j)):=KI λ_ _ _ _ _ _ _ q=>sub_int q
theorem mI:OpR X (binaryOp .Mult) (rI FZ λi j=>.int (i*j)):=opI λ_ _ _ _ _ _ _ hc q=>mul_int q hc.ok
theorem E1:OpR X (binaryOp .FloorDiv) (rI Ko λi j=>.int (i / j)):=opI λi j _ _ _ _ _ hc q=>by have h1:(0:Int)<j:=hc.1;have h2:j<1073741824:=hc.2;exact floordiv_int (by omega) (by rw[Int.fdiv_eq_ediv_of_nonneg i (by omega)];exact q) (.inl (PyProof.noPylong_small (by omega)))
theorem qm:OpR X (binaryOp .Mod) (rI (λ_ j=>0<j) λi j=>.int (i % j)):=opI λi j _ _ _ _ _ hc q=>by have h1:(0:Int)<j:=hc;exact mod_int' (by omega) (by rw[Int.fmod_eq_emod_of_nonneg i (by omega)];exact q)
theorem Ja:OpR X (binaryOp .Pow) (rI Lb λi j=>.int (i ^ j.toNat)):=opI λ_ _ _ _ _ _ _ hc q=>pow_int_small hc.1 hc.2.1 hc.2.2 q
theorem unI{f:Value->Sem Value}{g:Int->Int}
  (rule:∀(i:Int)(t:Tok)(s:Shared)(Q:Value->Shared->Prop)(E:Value->Shared->Prop),Q (.int (g i) s.toks) { s with toks:=s.toks+1 }->wpAny (model X.prog X.w) X.A (f (.int i t)) Q E s) :
  UnR X f (rU λi=>.int (g i)):=by
 intro pins s σ H x v Q I a h;obtain⟨i,rfl,q⟩:=h;obtain⟨t,rfl⟩:=a;exact rule i t s _ _ ⟨.int (g i),H,I.tok _,⟨_,rfl⟩,q⟩
theorem HX:UnR X (unaryOp .USub) (rU λi=>.int (-i)):=unI λ_ _ _ _ _ q=>neg_int q
end
section
variable {a b:Expr}{ta tb tc:TE}
theorem DN:OpR X (compareOp .Lt) (rI0 λi j=>.bl (decide (i<j))):=HN λ_ _ _ _ _ _ _ q=>lt_int q
theorem yT:OpR X (compareOp .LtE) (rI0 λi j=>.bl (decide (i<=j))):=HN λ_ _ _ _ _ _ _ q=>le_int q
theorem K8:OpR X (compareOp .Gt) (rI0 λi j=>.bl (decide (j<i))):=HN λ_ _ _ _ _ _ _ q=>gt_int q
theorem OpR.or{f:Value->Value->Sem Value}{a:R2}(h:OpR X f r)(h':OpR X f a):OpR X f (λx y H Q=>r x y H Q\/a x y H Q):=by
 intro pins s σ H x y v u Q I b c q;rcases q with q|q
 ·exact h pins s σ H x y v u Q I b c q
 ·exact h' pins s σ H x y v u Q I b c q
theorem iX(b:Expr)(h:op≠.In:=by decide)(h2:op≠.NotIn:=by decide):behindInMarks op b=false:=by
 have e1:(op==CmpOp.In)=false:=by cases op <;> first|rfl|exact absurd rfl h
 have e2:(op==CmpOp.NotIn)=false:=by cases op <;> first|rfl|exact absurd rfl h2
 cases b <;> simp[behindInMarks,e1,e2]
theorem oE(c:OpR X (compareOp op) r)(ha:PE X a ta)(e:PE X b tb)(hm:behindInMarks op b=false):PE X (.Compare a [op] [b] pos) (tOp r ta tb):=by intro pins s σ H Q I h;exact wpAny_Compare1 (Iq ha e I h λv u s2 x y H2 f g i q=>c pins s2 σ H2 x y v u Q f g i q) hm
def GY(t:TE):TT:=λσ H Q=>t σ H λx H'=>∃k,x=.bl k/\Q k H'
theorem iV(g:OpR X (compareOp op) r)(ha:PE X a ta)(i:PE X b tb)(hm:behindInMarks op b=false):PT X (.Compare a [op] [b] pos) (GY (tOp r ta tb)):=by
 intro pins s σ H Q I h;refine wpAny_isTrue_Compare1 (thn (ha pins s σ H _ I h) λv j f=>?_) hm;obtain⟨x,H1,l,m,n⟩:=f;refine thn (i pins j σ H1 _ l n) λu s2 f=>?_
 obtain⟨y,H2,o,p,q⟩:=f;refine thn (g pins s2 σ H2 x y v u _ o m p q) λc s3 f=>?_
 obtain⟨z,t,w,A,k,e,B⟩:=f;subst e;cases A;exact wpAny_truthy_bool ⟨t,w,B⟩
def Jc(r b:R2)(ta tb tc:TE):TE:=λσ H Q=>ta σ H λx H1=>tb σ H1 λy H2=>r x y H2 λz a=>∃k,z=.bl k /\
 (if k=true then tc σ a λc e=>b y c e Q else Q (.bl false) a)
theorem Du{g:CmpOp}{l:R2}(q:OpR X (compareOp op) r)(i:OpR X (compareOp g) l)(ha:PE X a ta)(t:PE X b tb)(hc:PE X c tc)
  (hm:lastMarks [op,g] [b,c]=false:=by with_unfolding_all rfl):PE X (.Compare a [op,g] [b,c] pos) (Jc r l ta tb tc):=by
 intro pins s σ H Q I h;refine Compare_chain (thn (ha pins s σ H _ I h) λv w f=>?_) hm;obtain⟨x,H1,A,B,C⟩:=f;refine chain_link (thn (t pins w σ H1 _ A C) λu s2 f=>?_);obtain⟨y,H2,D,m,E⟩:=f;refine thn (q pins s2 σ H2 x y v u _ D B m E) λd F f=>?_
 obtain⟨z,n,o,G,k,e,p⟩:=f;subst e;cases G;refine wpAny_truthy_bool ?_;cases k with
 |false=>exact ite_ff ⟨.bl false,n,o,rfl,p⟩
 |true=>exact ite_tt (chain_last (thn (hc pins F σ n _ o p) λJ K j=>(by obtain⟨L,M,N,O,P⟩:=j;exact i pins K σ M y L u J Q N m O P)))
theorem tM:(sizeLine:Nat)<2 ^ 63:=by rw[sizeLine_eq];decide
theorem vals1{x:V}(r:Vals [x] us):∃u,us=[u]/\RelV x u:=by
 cases r with
 |cons r1 r2=>cases r2;exact⟨_,rfl,r1⟩
theorem vals2{x y:V}(r:Vals [x,y] us):∃u a,us=[u,a]/\RelV x u/\RelV y a:=by
 cases r with
 |cons r1 r2 =>
  cases r2 with
  |cons r3 r4=>cases r4;exact⟨_,_,rfl,r1,r3⟩
theorem AY(hc:X.calm=true):jS X (.builtin "max") (λxs H Q=>∃i j,xs=[.int i,.int j]/\Q (.int (if j>i then j else i)) H):=by
 intro pins s σ H xs us Q I r h;obtain⟨i,j,rfl,q⟩:=h;obtain⟨u,w',rfl,⟨t,rfl⟩,⟨t',rfl⟩⟩:=vals2 r;refine max_two_ints (I.ok.hd hc) λh' tk k=>⟨_,H,I.kept k,?_,q⟩
 by_cases hj:j>i
 ·rw[if_pos hj,if_pos hj];exact⟨_,rfl⟩
 ·rw[if_neg hj,if_neg hj];exact⟨_,rfl⟩
theorem Ap(hc:X.calm=true):jS X (.builtin "min") (λxs H Q=>∃i j,xs=[.int i,.int j]/\Q (.int (if j<i then j else i)) H):=by
 intro pins s σ H xs us Q I r h;obtain⟨i,j,rfl,q⟩:=h;obtain⟨u,w',rfl,⟨t,rfl⟩,⟨t',rfl⟩⟩:=vals2 r;refine min_two_ints (I.ok.hd hc) λh' tk k=>⟨_,H,I.kept k,?_,q⟩
 by_cases hj:j<i
 ·rw[if_pos hj,if_pos hj];exact⟨_,rfl⟩
 ·rw[if_neg hj,if_neg hj];exact⟨_,rfl⟩
theorem Ad:jS X (.type "int") (λxs H Q=>(∃i,xs=[.int i]/\Q (.int i) H)\/∃k,xs=[.bl k]/\Q (.int (if k then 1 else 0)) H):=by
 intro pins s σ H xs us Q I r h;rcases h with⟨i,rfl,q⟩|⟨k,rfl,q⟩
 ·obtain⟨u,rfl,t,rfl⟩:=vals1 r;exact call_int_int ⟨.int i,H,I,⟨_,rfl⟩,q⟩
 ·obtain⟨u,rfl,a⟩:=vals1 r;cases a;exact call_int_bool ⟨.int (if k then 1 else 0),H,I.tok _,⟨_,rfl⟩,q⟩
end
structure xq(h:Heap)(x dx C:Addr)(mA:Str->Option Value):Prop where
 obj:h.get? x=some (W.instObj C dx)
 ns:h.Ns1 dx mA
 ne:dx≠x
theorem Bo(n:h.Ns1 dx mA):∃od,h.get? dx=some od/\∀name,W.lookIn name od=some (mA name):=by
 obtain⟨o,es,ep,c,hd,f,_,hm⟩:=n;refine⟨o,c,λname=>?_⟩;have e:=hm name;unfold nsFind findBy at e;rw[<-Array.find?_toList]at e;unfold W.lookIn;rw[hd];dsimp only;split
 ·rename_i y q;rw[q]at e;exact congrArg some e
 ·rename_i q;rw[q]at e;have a:es.toList.any (·.refKey)=false:=by rw[List.any_eq_false];intro y g;obtain⟨z,t,b⟩:=f y (Array.mem_toList_iff.mp g);simp[DictEntry.refKey,b]
  have i:¬ es.toList.any (·.refKey)=true:=by rw[a];exact Mi
  rw[if_neg i];exact congrArg some e
theorem xq.look{x:Addr}(I:xq h x dx C mA):∃od,W.InstAt h x (W.instObj C dx) C (some od)/\∀name,W.lookIn name od=some (mA name) :=
 let ⟨od,ho,hl⟩:=Bo I.ns
 ⟨od,⟨I.obj,rfl,rfl,ho⟩,hl⟩
section
variable {x:Addr}{name:Str}{v:Value}
theorem get_map{expr:Bool}(X:K.In s.heap)(I:xq s.heap x dx C mA)(b:W.plainGet K C name=true)(c:W.hasDictIn K C=true)
  (ha:W.findIn K (.ref C) name=some none) (hv:mA name=some v) (a:W.handedIn v=true) (h:Q v { s with toks:=s.toks+1 }) :
  wpAny (model prog w) A (getAttr (.ref x) name expr) Q E s:=by
 obtain⟨od,J,hl⟩:=I.look;exact W.get_value X J (W.plainGet_of b).1 (W.findObj_own c ha rfl (by rw[hl,hv])) a h
theorem Dm{pl:Sem Bool}{Q:Value×List Value->Shared->Prop}(X:K.In s.heap)(I:xq s.heap x dx C mA)(a:W.plainGet K C name=true)
  (b:W.findIn K (.ref C) name=some (some (.ref f))) (c:W.isFn K (.ref f)=true) (hv:mA name=none) (h:Q (.ref f,[.ref x]) s) :
  wpAny (model prog w) A (getMethod (.ref x) name pl) Q E s:=by
 obtain⟨od,J,hl⟩:=I.look;exact W.method_fn X J (W.plainGet_of a).1 (W.plainGet_of a).2 b (beq_iff_eq.mp c) (by show (W.lookIn name od).map (·.isSome)=some false;rw[hl,hv];rfl) h
theorem Gu{ns:List Str}{Q:Unit->Shared->Prop}(X:K.In s.heap)(I:xq s.heap x dx C mA)
  (l:W.findIn K (.ref C) "__setattr__"=some (some (.builtin "object.__setattr__"))) (m:W.plainOver K C=true) (n:W.takerIn K C name=some none) (o:W.hasDictIn K C=true)
  (hw:PySem.Within mA ns) (hsz:ns.length<=sizeLine)
  (h:∀h',xq h' x dx C (λy=>if y=name then some v else mA y)->Heap.SameBut dx s.heap h'->Q () { s with heap:=h',toks:=s.toks+2 }) :
  wpAny (model prog w) A (setAttr (.ref x) name v) Q E s:=by
 obtain⟨od,J,hl⟩:=I.look;refine W.set_plain X J l (W.osa_open (s:={ s with toks:=s.toks+1 }) (r:=none) X J m n λb=>?_);obtain⟨cd,hc,f⟩:=W.any_some o;have p:s.heap.get? x=some ⟨.ref C,some dx,.plain,#[]⟩:=I.obj;refine wpAny_bind (wpAny_pure (wpAny_bind (wpAny_bind (wpAny_loadPart p (wpAny_bind (W.Looks.here (s:={ s with toks:=s.toks+1 }) (W.looks_clsIn X hc) ?_))))));rw[f];refine wpAny_pure (a:=some dx) (wpAny_bind (wpAny_pure (wpAny_bind ?_)));refine wpAny_nsSet1 (s:={ s with toks:=s.toks+1 }) I.ns λh' c e=>?_
 obtain⟨oD,esD,epD,g,i,j⟩:=c.count (PySem.Within.cons name v hw);refine wpAny_bind (wpAny_lookBehind g (by rw[i];exact pastItsLine_dict (N5 j (by rw[Mp];omega))) ?_);exact wpAny_pure (h _ ⟨(e.2 _ (Ne.symm I.ne)).trans I.obj,c,I.ne⟩ e)
theorem BC{R:Result->Shared->Prop}{vs:List Value}{a:List (Str×Value)}(X:K.In s.heap)(hm:W.makesIn K C=true)
  (hi:W.findIn K (.ref C) "__init__"=some (some (.ref f))) (b:W.typeIn K (.ref f)=some (.type "function"))
  (h:codeAny (model prog w) (A.under (.builtin "type.__call__" ⟨.ref C::vs,a⟩)) (.call (.ref f) ⟨.ref (s.heap.objs.size+1)::vs,a⟩) (W.InitBack (s.heap.objs.size+1) R)
   { s with heap:=(s.heap.push W.emptyDict).push (W.instObj C s.heap.objs.size) }) :
  codeAny (model prog w) A (.call (.ref C) ⟨vs,a⟩) R s:=by
 obtain⟨hh,g,d,t,os⟩:=s;exact W.make_core (W.makes_of X hm) (W.looks_findIn X hi) (λself=>W.bind_fn X self b) (.inl rfl) h
end
def ij(f:Str)(v:V):List (Str×V)->List (Str×V)
 |[]=>[(f,v)]
 |(g,x)::r=>if g=f then (g,v)::r else (g,x)::ij f v r
theorem jW(f g:Str)(v:V):∀fs:List (Str×V),(ij f v fs).lookup g=if g=f then some v else fs.lookup g
 |[]=>by
  show List.lookup g [(f,v)]=_;by_cases h:g=f
  ·have a:(g==f)=true:=beq_iff_eq.mpr h;simp only[List.lookup,a,if_pos h]
  ·have a:(g==f)=false:=beq_eq_false_iff_ne.mpr h;simp only[List.lookup,a,if_neg h]
 |(k,x)::r=>by
  have b:=jW f g v r;rw[show ij f v ((k,x)::r)=(if k=f then (k,v)::r else (k,x)::ij f v r) from rfl];by_cases hk:k=f
  ·rw[if_pos hk];by_cases h:g=k
   ·have a:(g==k)=true:=beq_iff_eq.mpr h;simp only[List.lookup,a,if_pos (h.trans hk)]
   ·have a:(g==k)=false:=beq_eq_false_iff_ne.mpr h;simp only[List.lookup,a,if_neg (λe:g=f=>h (e.trans hk.symm))]
  ·rw[if_neg hk];by_cases h:g=k
   ·have a:(g==k)=true:=beq_iff_eq.mpr h;simp only[List.lookup,a,if_neg (λe:g=f=>hk (h.symm.trans e))]
   ·have a:(g==k)=false:=beq_eq_false_iff_ne.mpr h;simp only[List.lookup,a];exact b
theorem mD(f:Str)(v:V):∀fs:List (Str×V),f∈(ij f v fs).map (·.1)/\∀g,g∈fs.map (·.1)->g∈(ij f v fs).map (·.1)
 |[]=>⟨by simp[ij],λg h=>by simp at h⟩
 |(k,x)::r=>by
  obtain⟨i1,i2⟩:=mD f v r;rw[show ij f v ((k,x)::r)=(if k=f then (k,v)::r else (k,x)::ij f v r) from rfl];by_cases hk:k=f
  ·rw[if_pos hk];subst hk;exact⟨by simp,λg h=>by simpa using h⟩
  ·rw[if_neg hk];refine⟨?_,λg h=>?_⟩
   ·rw[M5];exact M6 _ i1
   ·rw[M5]at h ⊢;rcases M8.mp h with e|e
    ·exact M8.mpr (.inl e)
    ·exact M6 _ (i2 g e)
theorem m9(f:Str)(v:V):∀fs:List (Str×V),(ij f v fs).length<=fs.length+1
 |[]=>by simp[ij]
 |(k,x)::r=>by
  have ih:=m9 f v r;rw[show ij f v ((k,x)::r)=(if k=f then (k,v)::r else (k,x)::ij f v r) from rfl];by_cases hk:k=f
  ·rw[if_pos hk,Mp,Mp];omega
  ·rw[if_neg hk,Mp,Mp];omega
theorem ji.some_of{o:Option Value}(r:ji (some v) o):∃u,o=some u/\RelV v u:=by
 cases o with
 |none=>exact (show False from r).elim
 |some u=>exact⟨u,rfl,r⟩
theorem ji.none_of{o:Option Value}(r:ji none o):o=none:=by
 cases o with
 |none=>rfl
 |some u=>exact (show False from r).elim
theorem Av(r:RelV v u):W.handedIn u=true:=by
 cases v with
 |non=>cases (show u=Value.none from r);rfl
 |bl b=>cases (show u=Value.bool b from r);rfl
 |int i=>obtain⟨t,e⟩:=(show ∃t,u=Value.int i t from r);cases e;rfl
 |str x=>obtain⟨t,e⟩:=(show ∃t,u=Value.str x t from r);cases e;rfl
 |byt b=>obtain⟨t,e⟩:=(show ∃t,u=Value.bytes b t from r);cases e;rfl
 |flt b=>obtain⟨t,e⟩:=(show ∃t,u=Value.float b t from r);cases e;rfl
 |ref a=>cases (show u=Value.ref a from r);rfl
 |ty n=>cases (show u=Value.type n from r);rfl
section
variable {H':Hp}{fs fs':List (Str×V)}
theorem ud(hok:HOk P w H h)(e:H a=some (.ins C dx fs)):∃mA,xq h a dx C mA/\(∀f,ji (fs.lookup f) (mA f))/\PySem.Within mA (fs.map (·.1))/\fs.length<=1000/\H dx=some (.own a):=by
 obtain⟨d,z,ne,ob,mA,n,r,q⟩:=(show cE P w H h a (.ins C dx fs) from hok a _ e)
 exact⟨mA,⟨ob,n,ne⟩,r,q,z,d⟩
end
structure Cls(K:W.Frag)(C:Addr):Prop where
 pg:W.plainGet K C Str.empty=true
 hd:W.hasDictIn K C=true
 po:W.plainOver K C=true
 sa:W.findIn K (.ref C) "__setattr__"=some (some (.builtin "object.__setattr__"))
theorem Cls.get(c:Cls K C)(f:Str):W.plainGet K C f=true:=c.pg
def fm(K:W.Frag)(C:Addr)(f:Str):Prop:=W.findIn K (.ref C) f=some none
theorem fm.taker{f:Str}(n:fm K C f):W.takerIn K C f=some none:=by unfold W.takerIn;rw[show W.findIn K (.ref C) f=some none from n];rfl
structure Meth(K:W.Frag)(C:Addr)(m:Str)(f:Addr):Prop where
 at_:W.findIn K (.ref C) m=some (some (.ref f))
 fn:W.isFn K (.ref f)=true
 kp:W.keepIn K (.ref f)=true
section
variable {fs:List (Str×V)}{f:Str}
theorem qF{b:Bool}(I:Inv X pins σ H s)(e:H a=some (.ins C dx fs))(c:Cls X.K C)(n:fm X.K C f)(l:fs.lookup f=some v)
  (h:∀u s',Inv X pins σ H s'->RelV v u->Q u s'):wpAny (model X.prog X.w) A (getAttr (.ref a) f b) Q E s:=by
 obtain⟨mA,O,r,_,_,_⟩:=ud I.hok e;obtain⟨u,i,g⟩:=ji.some_of (v:=v) (o:=mA f) (by rw[<-l];exact r f);exact get_map I.kIn O (c.get f) c.hd n i (Av g) (h u _ (I.tok _) g)
theorem pO{g:Addr}{pl:Sem Bool}{Q:Value×List Value->Shared->Prop}(I:Inv X pins σ H s)(e:H a=some (.ins C dx fs))(c:Cls X.K C)(k:Meth X.K C m g)(l:fs.lookup m=none)
  (h:Q (.ref g,[.ref a]) s):wpAny (model X.prog X.w) A (getMethod (.ref a) m pl) Q E s:=by
 obtain⟨mA,O,r,_,_,_⟩:=ud I.hok e;have hn:mA m=none:=ji.none_of (by rw[<-l];exact r m);exact Dm I.kIn O (c.get m) k.at_ k.fn hn h
theorem pk{y:V}{Q:Unit->Shared->Prop}(I:Inv X pins σ H s)(e:H a=some (.ins C dx fs))(c:Cls X.K C)(n:fm X.K C f)(hl:fs.length<1000)(l:RelV y u)
  (h:∀s',Inv X pins σ (upd H a (.ins C dx (ij f y fs))) s'->Q () s'):wpAny (model X.prog X.w) A (setAttr (.ref a) f u) Q E s:=by
 obtain⟨mA,O,r,i,_,j⟩:=ud I.hok e;have m:(fs.map (·.1)).length<=sizeLine:=by rw[M4,sizeLine_eq];omega
 refine Gu I.kIn O c.sa c.po n.taker c.hd i m λh' O' p=>h _ ?_
 have hd:∃o,h'.get? dx=some o:=let ⟨o,_,_,e',_⟩:=O'.ns;⟨o,e'⟩;refine I.write (x:=a) (e:=dx) (by rw[e];exact True.intro) (.inr j) (λb q t z=>(p.2 b t).trans z) hd ?_;refine⟨by rw[aB O.ne];exact j,?_,O.ne,O'.obj,_,O'.ns,λg=>?_,λg v=>?_⟩
 ·have:=m9 f y fs;omega
 ·show ji ((ij f y fs).lookup g) (if g=f then some u else mA g);rw[jW];by_cases q:g=f
  ·rw[if_pos q,if_pos q];exact l
  ·rw[if_neg q,if_neg q];exact r g
 ·by_cases q:g=f
  ·rw[q];exact (mD f y fs).1
  ·refine (mD f y fs).2 g (i g λz=>v ?_);show (if g=f then some u else mA g)=none;rw[if_neg q];exact z
theorem Inv.made(I:Inv X pins σ H s):Inv X pins σ (upd (upd H s.heap.objs.size (.own (s.heap.objs.size+1))) (s.heap.objs.size+1) (.ins C s.heap.objs.size []))
  { s with heap:=(s.heap.push W.emptyDict).push (W.instObj C s.heap.objs.size) }:=by
 have e1:(s.heap.push W.emptyDict).get? s.heap.objs.size=some W.emptyDict:=Ml s.heap rfl;have e2:((s.heap.push W.emptyDict).push (W.instObj C s.heap.objs.size)).get? (s.heap.objs.size+1)=some (W.instObj C s.heap.objs.size):=by
  have:=Ml (s.heap.push W.emptyDict) (o:=W.instObj C s.heap.objs.size) rfl
  rwa[Heap.size_push]at this
 have c:(s.heap.push W.emptyDict).Ns s.heap.objs.size (λ_=>none):=⟨W.emptyDict,#[],_,e1,rfl,(λe f=>absurd f (by simp)),λ_=>rfl⟩
 have g:=I.laid (a:=s.heap.objs.size) (o:=.own (s.heap.objs.size+1)) (h':=s.heap.push W.emptyDict) (t':=s.toks) (λb u q=>M3 _ q) (Me _) ⟨_,e1⟩;refine g.laid (a:=s.heap.objs.size+1) (o:=.ins C s.heap.objs.size []) (t':=s.toks) (λb u q=>M3 _ q) (Nat.le_of_eq (Heap.size_push _ _)) ?_;have ne:s.heap.objs.size≠s.heap.objs.size+1:=Mf (Nk _);refine⟨by rw[aB ne,aH],MR _,ne,e2,λ_=>none,(Heap.Ns1.of_empty c).at λo q=>M3 _ q,λ_=>True.intro,λy h=>absurd rfl h⟩
theorem Ep{f:Str}(b:attributeBase e f env (eval e env)=eval e env)
  (h:wpAny (model prog w) A (eval e env) (λo a=>wpAny (model prog w) A (getAttr o f true) Q E a) E s):wpAny (model prog w) A (eval (.Attribute e f pos) env) Q E s :=
 Attribute_any_ h (by rw[arm_eval_Attribute,b])
end
def LJ(K:W.Frag)(ta:TE)(f:Str):TE:=λσ H Q=>ta σ H λx H1=>∃a C dx fs v,x=.ref a/\H1 a=some (.ins C dx fs)/\Cls K C/\fm K C f/\fs.lookup f=some v/\Q v H1
def LG(K:W.Frag)(ta tv:TE)(f:Str):TS:=λD σ H=>tv σ H λy H1=>ta σ H1 λx H2=>∃a C dx fs,x=.ref a/\H2 a=some (.ins C dx fs)/\Cls K C/\fm K C f/\fs.length<1000 /\
 D.nx σ (upd H2 a (.ins C dx (ij f y fs)))
def Lh(X:Cx)(op:Operator)(a:V->V->Hp->VK->Prop):Prop :=
 ∀(pins:List (Addr×Obj))(s:Shared)(σ:St)(H:Hp)(x y:V)(u v:Value)(Q:VK),Inv X pins σ H s->RelV x u->RelV y v->a x y H Q->wpAny (model X.prog X.w) X.A (inplaceOp op u v) (EP X pins σ Q) X.xe s
def FQ(K:W.Frag)(ta tv:TE)(e:V->V->Hp->VK->Prop)(f:Str):TS:=λD σ H=>ta σ H λx H1=>∃a C dx fs v,x=.ref a/\H1 a=some (.ins C dx fs)/\Cls K C/\fm K C f/\fs.lookup f=some v /\
 tv σ H1 λy H2=>e v y H2 λz c=>∃b fs',c a=some (.ins C b fs')/\fs'.length<1000/\D.nx σ (upd c a (.ins C b (ij f z fs')))
section
variable {o value:Expr}{f:Str}{tpos:Pos}{ta tv:TE}
theorem JR(g:PE X e ta)(i:attributeBase e f X.env (eval e X.env)=eval e X.env):PE X (.Attribute e f pos) (LJ X.K ta f):=by intro pins s σ H Q I h;refine Ep i (thn (g pins s σ H _ I h) λu s1 b=>?_);obtain⟨x,H1,j,m,a,C,dx,fs,v,ex,ea,c,n,l,q⟩:=b;subst ex;obtain rfl:u=Value.ref a:=m;exact qF j ea c n l λu' s2 o p=>⟨v,H1,o,p,q⟩
theorem jE(ha:PE X o ta)(hv:PE X value tv)(e:swapsWith value (some (.Attribute o f pos')) pos.line X.env=pure false):PS X (.Assign [.Attribute o f pos'] value pos) (LG X.K ta tv f):=by
 intro pins s σ H D I h;refine plainObj_wpAny_Assign_Attribute (thn (hv pins s σ H _ I h) λu g b=>?_) e;obtain⟨y,H1,i,j,q⟩:=b;refine thn (ha pins g σ H1 _ i q) λm s2 b=>?_
 obtain⟨x,H2,p,r,a,C,dx,fs,ex,ea,c,n,l,t⟩:=b;subst ex;obtain rfl:m=Value.ref a:=r;exact pk p ea c n l j λs3 v=>⟨σ,_,v,t⟩
theorem zL{op:Operator}{i:V->V->Hp->VK->Prop}(ha:PE X o ta)(hv:PE X value tv)(e:Lh X op i):PS X (.AugAssign (.Attribute o f tpos) op value pos) (FQ X.K ta tv i f):=by
 intro pins s σ H D I h;refine wpAny_AugAssign_AttributeAny (thn (ha pins s σ H _ I h) λj s1 b=>?_);obtain⟨x,H1,m,p,a,C,dx,fs,v,ex,ea,c,n,l,q⟩:=b;subst ex;obtain rfl:j=Value.ref a:=p;refine qF m ea c n l λu s2 r t=>thn (hv pins s2 σ H1 _ r q) λw A b=>?_
 obtain⟨y,H2,B,E,F⟩:=b;refine thn (e pins A σ H2 v y u w _ B t E F) λw4 s4 b=>?_
 obtain⟨z,H3,G,rz,dx',fs',g,J,L⟩:=b;exact pk G g c n J rz λs5 M=>⟨σ,_,M,L⟩
def LH:V->V->Hp->VK->Prop:=λx y H Q=>∃i j,x=.int i/\y=.int j/\Q (.int (i+j)) H
theorem Hj:Lh X .Add LH:=by
 rintro pins s σ H x y u v Q I a b ⟨i,j,rfl,rfl,q⟩
 obtain⟨t,rfl⟩:=(show ∃t,u=Value.int i t from a)
 obtain⟨t',rfl⟩:=(show ∃t',v=Value.int j t' from b)
 exact PyProof.Rows.iadd_int ⟨.int (i+j),H,I.tok _,⟨_,rfl⟩,q⟩
end
section
variable {c:Value}{b:Bool}
inductive p4 (K:W.Frag) (H:Hp):V->Value->Prop where
 |non:p4 K H .non (.type "NoneType")
 |bl (x:Bool):p4 K H (.bl x) (.type "bool")
 |int (i:Int):p4 K H (.int i) (.type "int")
 |str (x:Str):p4 K H (.str x) (.type "str")
 |flt (x:UInt64):p4 K H (.flt x) (.type "float")
 |lst {a:Addr} {xs:List V} (e:H a=some (.lst xs)):p4 K H (.ref a) (.type "list")
 |frz {a:Addr} {o:Obj} {xs:List V} (e:H a=some (.frz o (.lst xs))):p4 K H (.ref a) (.type "list")
 |tup {a:Addr} {xs:List V} (e:H a=some (.tup xs)):p4 K H (.ref a) (.type "tuple")
 |dK {a:Addr} {kvs:List (Key×V)} (e:H a=some (.dK kvs)):p4 K H (.ref a) (.type "dict")
 |dT {a:Addr} {kvs:List (List Key×V)} (e:H a=some (.dT kvs)):p4 K H (.ref a) (.type "dict")
 |ins {a C dx:Addr} {fs:List (Str×V)} (e:H a=some (.ins C dx fs)) (cl:Cls K C) (ha:W.findIn K (.ref C) "__class__"=some (some (.builtin "object.__class__")))
  (hn:W.specialIn K (.builtin "object.__class__") "__get__"=some (some (.builtin "getset_descriptor.__get__"))) (htk:W.takesIn K (.builtin "object.__class__")=some true)
  (hm:W.mroIn K C (.type "object")=some true):p4 K H (.ref a) (.ref C)
end
structure ck(k:Nat)(A:Around):Prop where
 hd:A.handled=none
 dp:A.depth+3*k+5<recursionLimit
 un:A.units+16*k+200<cLine
theorem ck.mono{j k:Nat}(r:ck k A)(h:j<=k):ck j A:=⟨r.hd,by have:=r.dp;omega,by have:=r.un;omega⟩
theorem ck.deeper{k:Nat}(r:ck (k+1) A)(env:Env):ck k (A.deeper env) :=
 ⟨r.hd,by have:=r.dp;show A.depth+1+3*k+5<_;omega,by have:=r.un;show A.units+3+16*k+200<_;omega⟩
theorem ck.in1{k:Nat}(r:ck (k+1) A):ck k A.in1 :=
 ⟨r.hd,by have:=r.dp;show A.depth+3*k+5<_;omega,by have:=r.un;show A.units+1+16*k+200<_;omega⟩
theorem xP{a:List (Str×Value)}:(A.under (.builtin "type.__call__" ⟨.ref C::us,a⟩)).depth=A.depth+1:=by first|rfl|simp[Around.under,Code.weight,Code.isCreation,Code.isGuard,Code.isCaller,Code.frames,Code.isFrame,guardIds]
theorem xu{a:List (Str×Value)}:(A.under (.builtin "type.__call__" ⟨.ref C::us,a⟩)).units=A.units+1:=by first|rfl|simp[Around.under,Code.cUnits,Code.frames,Code.isFrame]
theorem ck.make{k:Nat}(r:ck (k+1) A)(C:Addr)(us:List Value)(a:List (Str×Value)):ck k (A.under (.builtin "type.__call__" ⟨.ref C::us,a⟩)) :=
 ⟨r.hd,by have:=r.dp;rw[xP];omega,by have:=r.un;rw[xu];omega⟩
theorem ck.depth{k:Nat}(r:ck k A):A.depth<recursionLimit:=by have:=r.dp;omega
theorem ck.units{k:Nat}(r:ck k A):A.units+64<cLine:=by have:=r.un;omega
def HL:TA:=λ_ H Q=>Q [] H
def Ha(ta:TE)(a:TA):TA:=λσ H Q=>ta σ H λx H1=>a σ H1 λxs H2=>Q (x::xs) H2
section
variable {te:TE}{t:TA}
theorem fQ:PA X [] HL:=λ_ _ _ _ H Q I h=>Calls.spliced_nil ⟨[],H,I,.nil,h⟩
theorem dX(ha:PE X e te)(c:PA X es t)(f:starEach (e::es) X.env=(false,eval e X.env)::starEach es X.env:=by rfl):PA X (e::es) (Ha te t):=by intro pos pins s σ H Q I h;rw[f];show wpAny _ _ (spliced ((false,eval e X.env)::backTo pos (starEach es X.env))) _ _ s;refine Calls.spliced_cons (thn (ha pins s σ H _ I h) λu g a=>?_);obtain⟨x,H1,i,j,l⟩:=a;exact thn (c pos pins g σ H1 _ i l) λus s2 b=>(by obtain⟨xs,H2,m,n,o⟩:=b;exact⟨x::xs,H2,m,.cons j n,o⟩)
def LI(t:TA):TE:=λσ H Q=>t σ H λxs H1=>xs.length<=sizeLine/\∀p,H1 p=none->Q (.ref p) (upd H1 p (.tup xs))
def L1(t:TA):TE:=λσ H Q=>t σ H λxs H1=>xs.length<=sizeLine/\∀p,H1 p=none->Q (.ref p) (upd H1 p (.lst xs))
theorem JP{x1}(h:PA X es t):PE X (.Tuple es x1 pos) (LI t):=by intro pins s σ H Q I g;refine wpAny_Tuple_spliced (thn (h pos pins s σ H _ I g) λus a c=>?_);obtain⟨xs,H1,f,r,z,q⟩:=c;refine⟨by rw[<-r.length];exact z,?_⟩;have i:H1 a.heap.objs.size=none:=f.hok.fresh (Me _);refine⟨.ref a.heap.objs.size,upd H1 a.heap.objs.size (.tup xs),f.laid (t':=a.toks) (λb u e=>M3 _ e) (Me _) ?_,rfl,q _ i⟩;exact⟨z,us,r,⟨_,Ml _ rfl,rfl,rfl,_,rfl⟩⟩
theorem xh(h:PA X es t):PE X (.List es pos) (L1 t):=by intro pins s σ H Q I g;refine wpAny_List_spliced (thn (h pos pins s σ H _ I g) λus a c=>?_);obtain⟨xs,H1,f,r,z,q⟩:=c;refine⟨by rw[<-r.length];exact z,?_⟩;have i:H1 a.heap.objs.size=none:=f.hok.fresh (Me _);refine⟨.ref a.heap.objs.size,upd H1 a.heap.objs.size (.lst xs),f.laid (t':=a.toks) (λb u e=>M3 _ e) (Me _) ?_,rfl,q _ i⟩;exact⟨z,us,0,r,Ml _ rfl⟩
end
abbrev Sp:=List V->Hp->VK->XK->Prop
abbrev CXT:=List Env->Hp->Shared->XK->Value->Shared->Prop
structure tG(P:Program)(w:World)(K:W.Frag)(mg:Str->Option Value)(base:Heap)(A:Around)(outer:List Env)(s:Shared)(H:Hp):Prop where
 frames:A.frames=some outer
 mod:Mod K mg base
 bs:∀b o,base.get? b=some o->s.heap.get? b=some o/\H b=none
 bsz:base.objs.size<=s.heap.objs.size
 funs:s.heap.FunFrames base outer
 frf:∀b∈frs outer,H b=none
 hok:HOk P w H s.heap
 bare:AllBare s.gens
 tab:∀P q,TabOf K P q->H P=some (.tbl q)
def CE(outer:List Env)(P:Program)(w:World)(H:Hp)(s:Shared)(Q:VK)(u:Value)(s':Shared):Prop :=
 ∃v H',s'.os=s.os/\AllBare s'.gens/\Un (frs outer) [] H H' s.heap s'.heap/\HOk P w H' s'.heap/\RelV v u/\Q v H'
def CR(CX:CXT)(outer:List Env)(P:Program)(w:World)(H:Hp)(s:Shared)(Q:VK)(E:XK)(r:Result)(s':Shared):Prop :=
 match r with
 |.ok (.ret u)=>CE outer P w H s Q u s'
 |.ok _=>False
 |.error e=>CX outer H s E e s'
structure gm(P:Program)(w:World)(K:W.Frag)(mg:Str->Option Value)(base:Heap)(CX:CXT)(k:Nat)(f:Addr)(fd:FuncData)(ps:List Str)(sp:Sp):Prop where
 len:∀vs H Q E,sp vs H Q E->vs.length=ps.length
 run:∀(A:Around)(outer:List Env)(s:Shared)(H:Hp)(args:Args)(us:List Value)(vs:List V)(Q:VK)(E:XK),ck k A->tG P w K mg base A outer s H->BindsTo s fd args (ps.zip us)->Vals vs us->sp vs H Q E ->
  codeAny (model P w) A (.call (.ref f) args) (CR CX outer P w H s Q E) s
theorem tG.make(e:tG P w K mg base A outer s H)(C:Addr)(us:List Value)(a:List (Str×Value)) :
 tG P w K mg base (A.under (.builtin "type.__call__" ⟨.ref C::us,a⟩)) outer s H:=⟨by first|exact e.frames|(simpa[Around.under,Code.envs,Code.isFrame,pushEnvs] using e.frames),e.mod,e.bs,e.bsz,e.funs,e.frf,e.hok,e.bare,e.tab⟩
section
theorem Inv.env0(I:Inv X pins σ H s):tG X.prog X.w X.K X.mg X.base X.A X.stack s H :=
 ⟨I.ok.frames,I.ok.mod,I.bs,N5 I.ok.bsz I.sz,I.stack,I.stkFree,I.hok,I.bare,I.tab⟩
theorem Inv.after{Q:VK}(I:Inv X pins σ H s)(h:CE X.stack X.prog X.w H s Q u s'):EP X pins σ Q u s':=by obtain⟨v,H',os,bare,un,hok,r,q⟩:=h;obtain⟨c,g,d,t,a⟩:=s';obtain rfl:a=s.os:=os;exact⟨v,H',I.call (h':=c) (g':=g) (d':=d) (t':=t) (ch:=[]) un hok bare (λb z=>absurd z (by simp)),r,q⟩
end
def K3(sp:Sp)(dvs:List V)(E:XK)(t:TA):TE:=λσ H Q=>t σ H λvs H1=>sp (vs++dvs) H1 Q E
def yU(C:Addr)(m:Str)(sp:Sp)(dvs:List V)(E:XK)(ta:TE)(t:TA):TE:=λσ H Q=>ta σ H λx H1=>∃a dx fs,x=.ref a/\H1 a=some (.ins C dx fs)/\fs.lookup m=none /\
 t σ H1 λvs H2=>sp (x::(vs++dvs)) H2 Q E
def K9(C:Addr)(sp:Sp)(dvs:List V)(E:XK)(t:TA):TE:=λσ H Q=>t σ H λvs H1=>∀x dx,H1 x=none->H1 dx=none->dx≠x ->
 sp (.ref x::(vs++dvs)) (upd (upd H1 dx (.own x)) x (.ins C dx [])) (λv H2=>v=.non/\Q (.ref x) H2) E
def Binds(K:W.Frag)(fd:FuncData)(ps:List Str)(ds:List Value):Prop :=
 ∀(s:Shared)(us:List Value),K.In s.heap->(us++ds).length=ps.length->BindsTo s fd ⟨us,[]⟩ (ps.zip (us++ds))
theorem Binds.all(h:∀us:List Value,us.length=ps.length->bindArgs fd ⟨us,[]⟩=pure (ps.zip us)):Binds K fd ps []:=λs us _ hl=>by rw[N3]at hl ⊢;exact .of_eq (h us hl)
def Passes(CX:CXT)(X:Cx)(E:XK):Prop:=∀(pins:List (Addr×Obj))(σ:St)(H:Hp)(s:Shared)(e:Value)(s':Shared),Inv X pins σ H s->CX X.stack H s E e s'->X.xe e s'
section
variable {CX:CXT}{k:Nat}{sp:Sp}{dvs:List V}{ds:List Value}{E:XK}{apos:Pos}{o:Expr}{ta:TE}{t:TA}
theorem wX{Q:VK}(F:gm X.prog X.w X.K X.mg X.base CX k f fd ps sp)(c:ck k X.A)(g:Binds X.K fd ps ds)(hd:Vals dvs ds)(i:Passes CX X E)
  (I:Inv X pins σ H s) (r:Vals vs us) (h:sp (vs++dvs) H Q E):wpAny (model X.prog X.w) X.A (call (.ref f) us) (EP X pins σ Q) X.xe s:=by
 have b:Vals (vs++dvs) (us++ds):=r.append hd;have hl:(us++ds).length=ps.length:=by rw[<-b.length];exact F.len _ _ _ _ h
 refine wpAny_call (codeAny_mono (F.run X.A X.stack s H ⟨us,[]⟩ (us++ds) (vs++dvs) Q E c I.env0 (g s us I.kIn hl) b h) λr s' a=>?_);cases r with
 |error e=>exact i pins σ H s e s' I a
 |ok fl =>
  cases fl with
  |ret u=>exact I.after a
  |next=>exact False.elim a
  |brk=>exact False.elim a
  |cont=>exact False.elim a
theorem yF(F:gm X.prog X.w X.K X.mg X.base CX k f fd ps sp)(i:ck k X.A)(j:Gl X x)(hm:X.mg x=some (.ref f))(l:W.keepIn X.K (.ref f)=true)(m:Binds X.K fd ps ds)(hd:Vals dvs ds)(n:Passes CX X E)
  (ha:PA X (e::es) t) (a:(x==("__debug__":Str))=false:=by decide) (o:starEach (e::es) X.env=(false,eval e X.env)::starEach es X.env:=by rfl) (b:(backTo pos (starEach es X.env)).any (·.1)=false:=by rfl) :
  PE X (.Call (.Name x p) (e::es) [] pos) (K3 sp dvs E t):=by
 intro pins s σ H Q I h;refine wpAny_Call_Name_kw (oC I j hm ?_ a);refine W.callWith_K (h₀:=X.base) I.ok.mod.kin l (thn (ha pos pins s σ H _ I h) λus s1 c=>?_) o b;obtain⟨vs,H1,g,r,q⟩:=c;refine⟨g.kIn,?_⟩;exact wX F i m hd n g r q
theorem E9{pl:Sem Bool}(p:PE X o ta)(c:Cls X.K C)(hm:Meth X.K C m f)(F:gm X.prog X.w X.K X.mg X.base CX k f fd ps sp)(v:ck k X.A)(y:Binds X.K fd ps ds)(hd:Vals dvs ds)(z:Passes CX X E)(ha:PA X (e::es) t)
  (g:starEach (e::es) X.env=(false,eval e X.env)::starEach es X.env:=by rfl) (i:(backTo pos (starEach es X.env)).any (·.1)=false:=by rfl)
  (B:eval (.Call (.Attribute o m apos) (e::es) [] pos) X.env=(do
   let ov <-eval o X.env
   standAt apos.atName
   let (f,first) <-holding [ov] (getMethod ov m pl)
   callWith pos f first (backTo pos (starEach (e::es) X.env)) (backToKw pos (keywordEach [] X.env))):=by rfl) :
  PE X (.Call (.Attribute o m apos) (e::es) [] pos) (yU C m sp dvs E ta t):=by
 intro pins s σ H Q I h;refine W.methodCall_KW (pl:=pl) (thn (p pins s σ H _ I h) λu D b=>?_) B;obtain⟨x,H1,j,G,a,dx,fs,ex,ea,l,q⟩:=b;subst ex;obtain rfl:u=Value.ref a:=G;refine pO j ea c hm l ?_;refine W.callWith_K (first:=[.ref a]) (h₀:=X.base) I.ok.mod.kin hm.kp (thn (ha pos pins D σ H1 _ j q) λus s2 b=>?_) g i;obtain⟨vs,H2,n,r,J⟩:=b;refine⟨n.kIn,?_⟩;exact wX (us:=.ref a::us) (vs:=.ref a::vs) F v y hd z n (.cons rfl r) J
theorem vZ{pl:Sem Bool}(g:PE X o ta)(c:Cls X.K C)(hm:Meth X.K C m f)(F:gm X.prog X.w X.K X.mg X.base CX k f fd ps sp)(i:ck k X.A)(j:Binds X.K fd ps ds)(hd:Vals dvs ds)(n:Passes CX X E)
  (p:eval (.Call (.Attribute o m apos) [] [] pos) X.env=(do
   let ov <-eval o X.env
   standAt apos.atName
   let (f,first) <-holding [ov] (getMethod ov m pl)
   callWith pos f first (backTo pos (starEach [] X.env)) (backToKw pos (keywordEach [] X.env))):=by rfl) :
  PE X (.Call (.Attribute o m apos) [] [] pos) (yU C m sp dvs E ta HL):=by
 intro pins s σ H Q I h;refine W.methodCall_KW (pl:=pl) (thn (g pins s σ H _ I h) λu s1 b=>?_) p;obtain⟨x,H1,e,r,a,dx,fs,ex,ea,l,q⟩:=b;subst ex;obtain rfl:u=Value.ref a:=r;refine pO e ea c hm l ?_;exact W.callWith_K0 (first:=[.ref a]) e.kIn hm.kp (wX (us:=[.ref a]) (vs:=[.ref a]) F i j hd n e (.cons rfl .nil) q)
structure Mk(K:W.Frag)(C f:Addr):Prop where
 makes:W.makesIn K C=true
 init:W.findIn K (.ref C) "__init__"=some (some (.ref f))
 fn:W.isFn K (.ref f)=true
 kp:W.keepIn K (.ref C)=true
theorem CY{Q:VK}(M:Mk X.K C f)(F:gm X.prog X.w X.K X.mg X.base CX k f fd ps sp)(i:ck (k+1) X.A)(j:Binds X.K fd ps ds)(hd:Vals dvs ds)
  (l:Passes CX X E) (I:Inv X pins σ H s) (r:Vals vs us)
  (h:∀x dx,H x=none->H dx=none->dx≠x->sp (.ref x::(vs++dvs)) (upd (upd H dx (.own x)) x (.ins C dx [])) (λv H2=>v=.non/\Q (.ref x) H2) E) :
  wpAny (model X.prog X.w) X.A (call (.ref C) us) (EP X pins σ Q) X.xe s:=by
 have c:=h (s.heap.objs.size+1) s.heap.objs.size (I.hok.fresh (NF _)) (I.hok.fresh (Me _)) (Mf (Nk _));have b:=Inv.made (C:=C) I;have g:Vals (V.ref (s.heap.objs.size+1)::(vs++dvs)) (Value.ref (s.heap.objs.size+1)::(us++ds)):=.cons rfl (r.append hd);have hl:(Value.ref (s.heap.objs.size+1)::us++ds).length=ps.length:=by have e:=g.length;rw[F.len _ _ _ _ c]at e;exact e.symm
 refine wpAny_call (BC (f:=f) I.kIn M.makes M.init (beq_iff_eq.mp M.fn) (codeAny_mono (F.run _ X.stack _ _ ⟨Value.ref (s.heap.objs.size+1)::us,[]⟩ (Value.ref (s.heap.objs.size+1)::(us++ds)) _ _ E (i.make C us [])
  (b.env0.make C us []) (j _ (Value.ref (s.heap.objs.size+1)::us) b.kIn hl) g c) λr s' a=>?_))
 cases r with
 |error e=>exact l pins σ _ _ e s' b a
 |ok fl =>
  cases fl with
  |ret u =>obtain⟨v,H',m,n,o,p⟩:=b.after a;subst o;exact⟨n,⟨V.ref (s.heap.objs.size+1),H',m,rfl,p⟩⟩
  |next=>exact False.elim a
  |brk=>exact False.elim a
  |cont=>exact False.elim a
theorem GJ(M:Mk X.K C f)(F:gm X.prog X.w X.K X.mg X.base CX k f fd ps sp)(i:ck (k+1) X.A)(j:Gl X x)(hm:X.mg x=some (.ref C))(l:Binds X.K fd ps ds)(hd:Vals dvs ds)(m:Passes CX X E)
  (ha:PA X (e::es) t) (a:(x==("__debug__":Str))=false:=by decide) (n:starEach (e::es) X.env=(false,eval e X.env)::starEach es X.env:=by rfl) (b:(backTo pos (starEach es X.env)).any (·.1)=false:=by rfl) :
  PE X (.Call (.Name x p) (e::es) [] pos) (K9 C sp dvs E t):=by
 intro pins s σ H Q I h;refine wpAny_Call_Name_kw (oC I j hm ?_ a);refine W.callWith_K (h₀:=X.base) I.ok.mod.kin M.kp (thn (ha pos pins s σ H _ I h) λus s1 c=>?_) n b;obtain⟨vs,H1,g,r,q⟩:=c;refine⟨g.kIn,?_⟩;exact CY M F i l hd m g r q
end
def PK(X:Cx)(kws:List Keyword)(t:TA):Prop :=
 ∀(pos:Pos)(pins:List (Addr×Obj))(s:Shared)(σ:St)(H:Hp)(Q:List V->Hp->Prop),Inv X pins σ H s->t σ H Q->wpAny (model X.prog X.w) X.A (evalAll ((backToKw pos (keywordEach kws X.env)).map (·.2))) (AP X pins σ Q) X.xe s
section
variable {CX:CXT}{k:Nat}{ks:List Str}{sp:Sp}{E:XK}{apos kpos:Pos}{o:Expr}{kws:List Keyword}{te ta:TE}{t tk:TA}{nm:Option Str}
theorem Ir:PK X [] HL:=λ_ _ _ _ H Q I h=>wpAny_evalAll_nil ⟨[],H,I,.nil,h⟩
theorem GL(ha:PE X e te)(c:PK X kws t):PK X (⟨nm,e,kpos⟩::kws) (Ha te t):=by intro pos pins s σ H Q I h;show wpAny _ _ (evalAll ((do let v <-eval e X.env;standAt pos;pure v)::(backToKw pos (keywordEach kws X.env)).map (·.2))) _ _ s;refine wpAny_evalAll_cons (wpAny_bind (thn (ha pins s σ H _ I h) λu f a=>?_));obtain⟨x,H1,g,i,j⟩:=a;refine wpAny_bind (wpAny_standAt (wpAny_pure ?_));exact thn (c pos pins f σ H1 _ g j) λus s2 b=>(by obtain⟨xs,H2,l,m,n⟩:=b;exact⟨x::xs,H2,l,.cons i m,n⟩)
variable {g:List Value->List Value->List Value}{gV:List V->List V->List V}
end
structure cT(N P:List Str)(sc:Scope):Prop where
 kind:sc.kind=.function
 co:sc.isCoroutine=false
 gen:sc.isGenerator=false
 nd:N.Nodup
 pre:N.take P.length=P
 par:∀x∈P,sc.names.lookup x=some .local\/sc.names.lookup x=some .cell
 nofree:∀y∈sc.names,y.2≠.free
theorem sO{kindOf:Str->Option NameKind}{x:Str}:∀{binds:List (Str×Value)}{m:Str->Option Value},(∀v,(x,v)∉binds)->bindL kindOf binds m x=m x
 |[],_,_=>rfl
 |(n,v)::r,m,h=>by
  unfold bindL;rw[sO λw hw=>h w (M6 _ hw)];split
  ·have:x≠n:=by rintro rfl;exact h v M7
   simp[this]
  ·rfl
theorem rK{kindOf:Str->Option NameKind}{x:Str}:∀{binds:List (Str×Value)}{m:Str->Option Value},(∀v,(x,v)∉binds)->bindC kindOf binds m x=m x
 |[],_,_=>rfl
 |(n,v)::r,m,h=>by
  unfold bindC;rw[rK λw hw=>h w (M6 _ hw)];split
  ·rfl
  ·have:x≠n:=by rintro rfl;exact h v M7
   simp[this]
theorem sF{kindOf:Str->Option NameKind}{x:Str}{v:Value}:∀{P:List Str}{vs:List Value}{i:Nat}{m:Str->Option Value},P.Nodup->P[i]?=some x->vs[i]?=some v->kindOf x=some .local ->
  bindL kindOf (P.zip vs) m x=some v
 |[],_,_,_,_,h,_,_=>by simp at h
 |_::_,[],_,_,_,_,h,_=>by simp at h
 |p::P,w::vs,0,m,nd,h1,h2,hk=>by simp at h1 h2;subst h1;subst h2;show bindL kindOf ((p,w)::P.zip vs) m p=_;unfold bindL;rw[sO λv hv=>(MG.mp nd).1 (NO hv).1,if_pos hk];simp
 |p::P,w::vs,i+1,m,nd,h1,h2,hk=>by show bindL kindOf ((p,w)::P.zip vs) m x=_;unfold bindL;exact sF (i:=i) (MG.mp nd).2 (by simpa using h1) (by simpa using h2) hk
theorem rR{kindOf:Str->Option NameKind}{x:Str}{v:Value}:∀{P:List Str}{vs:List Value}{i:Nat}{m:Str->Option Value},P.Nodup->P[i]?=some x->vs[i]?=some v->kindOf x≠some .local ->
  bindC kindOf (P.zip vs) m x=some v
 |[],_,_,_,_,h,_,_=>by simp at h
 |_::_,[],_,_,_,_,h,_=>by simp at h
 |p::P,w::vs,0,m,nd,h1,h2,hk=>by simp at h1 h2;subst h1;subst h2;show bindC kindOf ((p,w)::P.zip vs) m p=_;unfold bindC;rw[rK λv hv=>(MG.mp nd).1 (NO hv).1,if_neg hk];simp
 |p::P,w::vs,i+1,m,nd,h1,h2,hk=>by show bindC kindOf ((p,w)::P.zip vs) m x=_;unfold bindC;exact rR (i:=i) (MG.mp nd).2 (by simpa using h1) (by simpa using h2) hk
def start(N:List Str)(vs:List V):St:=vs.map some++List.replicate (N.length-vs.length) none
def cZ(CX:CXT)(P:Program)(w:World)(K:W.Frag)(mg:Str->Option Value)(base:Heap)(N:List Str)(qual:Str)(scope:Scope)(f:Addr)(cd:Value)(A:Around)(outer:List Env)(s:Shared)(H:Hp)(E:XK):Cx where
 prog:=P
 w:=w
 K:=K
 mg:=mg
 base:=base
 A:=A.deeper (envOfC qual scope s.heap.objs.size f cd)
 N:=N
 s₀:=s
 H₀:=H
 env:=envOfC qual scope s.heap.objs.size f cd
 outer:=outer
 stack:=envOfC qual scope s.heap.objs.size f cd::outer
 ex:=[]
 calm:=true
 fn:=λ_=>true
 pn:=[]
 xe:=λe s'=>wpAny (model P w) (A.deeper (envOfC qual scope s.heap.objs.size f cd)) (leaving (envOfC qual scope s.heap.objs.size f cd) e) (λ_ a=>CX outer H s E e a) (λb a=>CX outer H s E b a) s'
theorem oS{sc:Scope}(h:sc.names.lookup x=some .cell):∃c,(cellsFrom n sc.names []).lookup x=some c:=by have q:=W.cellsFrom_some sc.names n [] (.inl h);exact Nh.mp q
theorem Bg{CX:CXT}{t:Shared}{E:XK}
  (S:cT N ps scope) (hd:A.handled=none) (g:tG P w K mg base A outer s H) (hl:vs.length=ps.length) (r:Vals vs us)
  (x:InCallC s s.heap.objs.size (bindL (envOfC qual scope s.heap.objs.size f cd).kindOf (ps.zip us) λ_=>none) (cellsFrom (s.heap.objs.size+1) scope.names []) (bindC (envOfC qual scope s.heap.objs.size f cd).kindOf (ps.zip us) λ_=>none) t) :
  Inv (cZ CX P w K mg base N qual scope f cd A outer s H E) [] (start N vs) H t:=by
 have hpl:ps.length<=N.length:=by have:=congrArg List.length S.pre;rw[List.length_take]at this;omega
 obtain⟨h1,tk,rfl,B⟩:=x.done;have j:∀b:Addr,b∉(cZ CX P w K mg base N qual scope f cd A outer s H E).ex:=λb z=>absurd (show b∈([]:List Addr) from z) (by simp)
 refine⟨⟨g.mod,S.kind,rfl,rfl,Me _,λy z c h1 h2=>?_,λy l=>?_,λy c _ h=>?_,λ_=>hd,Around.frames_deeper g.frames,.inr ⟨rfl,rfl⟩,λb z=>absurd z (j b),g.bs,g.bsz,λb _ _=>j b,λb z=>absurd z (j b),g.funs,g.frf⟩,
  rfl,g.bare,Un.kept B,⟨_,x.toInCall.ns,λi y v h1 h2 h3=>?_⟩,λy c h=>⟨_,x.cell y c h⟩,g.hok.fresh (Me _),λy c h=>?_,λp m=>absurd (show p∈([]:List (Addr×Obj)) from m) (by simp),g.hok.kept B,?_,g.tab⟩
 ·exact name_of_addr x.apart (PySem.mem_of_lookup h1) (PySem.mem_of_lookup h2)
 ·have l:scope.names.lookup y=some .cell\/scope.names.lookup y=some .free:=l;rcases l with l|l
  ·exact oS l
  ·exact absurd rfl (S.nofree _ (PySem.mem_of_lookup l))
 ·exact Ob (x.above y c (PySem.mem_of_lookup h))
 ·have hi:i<vs.length:=by
   unfold start at h2;by_cases hi:i<vs.length
   ·exact hi
   ·rw[MD (by simpa using hi)]at h2;rw[NU]at h2;split at h2 <;> cases h2
  have ha:vs[i]?=some v:=by
   unfold start at h2;rw[Mz (by simpa using hi),Mc]at h2;cases e:vs[i]? with
   |none=>rw[e]at h2;cases h2
   |some a=>rw[e]at h2;cases h2;rfl
  obtain⟨u,C,D⟩:=r.get ha;have m:ps[i]?=some y:=by rw[<-S.pre,List.getElem?_take_of_lt (by omega)];exact h1
  have o:ps.Nodup:=by rw[<-S.pre];exact S.nd.sublist (List.take_sublist _ _)
  refine⟨u,D,?_⟩;rcases S.par y (MS m) with k|k
  ·exact .inl ⟨k,sF o m C k⟩
  ·obtain⟨c,e⟩:=oS (n:=s.heap.objs.size+1) k;refine .inr ⟨.inl k,c,e,?_⟩;have q:=x.cell y c e;rw[rR o m C (by show scope.names.lookup y≠_;rw[k];decide)]at q;exact q
 ·exact g.hok.fresh (Ob (x.above y c (PySem.mem_of_lookup h)))
 ·unfold start;show _=N.length;rw[Mr,M4,List.length_replicate];omega
theorem Dr{CX:CXT}{k:Nat}{name:Str}{B kV doc cdv:Value}
  {sp:Sp} (F:K.lookup f=some ⟨oc,od,.func (W.fnOf name qual params body scope B kV doc pm an cdv ct),osl⟩) (l:W.codeIn K cdv qual=true) (S:cT N ps scope)
  (len:∀vs H Q E,sp vs H Q E->vs.length=ps.length)
  (c:∀(A:Around)(outer:List Env)(s:Shared)(H:Hp)(vs:List V)(Q:VK)(E:XK),ck k (A.deeper (envOfC qual scope s.heap.objs.size f cdv))->sp vs H Q E ->
   ∃t,PSs (cZ CX P w K mg base N qual scope f cdv A outer s H E) body t/\t { nx:=λ_ H'=>Q .non H',rt:=Q } (start N vs) H) :
  gm P w K mg base CX (k+1) f (W.fnOf name qual params body scope B kV doc pm an cdv ct) ps sp:=by
 refine⟨len,λA outer s H args us vs Q E m i G r j=>?_⟩;have hl:=len _ _ _ _ j;have C:K.In s.heap:=i.mod.kin.keeps λb o e=>(i.bs b o e).1
 have lim:s.heap.NoLimit:=i.mod.nolimit.keeps λb o e=>(i.bs b o e).1
 have g:∀y∈ps.zip us,scope.names.lookup y.1=some .local\/(scope.names.lookup y.1=some .cell/\((cellsFrom (s.heap.objs.size+1) scope.names []).lookup y.1).isSome=true):=λp L=>by
  obtain⟨n,v⟩:=p;rcases S.par n (NO L).1 with q|q
  ·exact .inl q
  ·exact .inr ⟨q,W.cellsFrom_some _ _ _ (.inl q)⟩
 refine codeAny_call_function m.depth (C _ _ F) rfl S.co S.gen rfl (W.codeRec_of C l) (G _ _ _ _ ?_);refine wpAny_newFunctionEnv_cells S.kind g λenv M D x=>?_
 subst M;refine⟨lim.keeps x.toInCall.keep,codeAny_func ?_⟩;obtain⟨t,O,R⟩:=c A outer s H vs Q E (m.deeper _) j;have I:Inv (cZ CX P w K mg base N qual scope f cdv A outer s H E) [] (start N vs) H D:=Bg S m.hd i hl r x;refine wpAny_mono (O [] D (start N vs) H _ I R) (λT s' h=>?_) λe s' h=>h
 have fin:∀{a:St}{H':Hp}{v:V}{u:Value},Inv (cZ CX P w K mg base N qual scope f cdv A outer s H E) [] a H' s'->RelV v u->Q v H'->CE outer P w H s Q u s' :=
  λ{a H' v u} J z q=>⟨v,H',J.os,J.bare,J.base,J.hok,z,q⟩
 cases T with
 |ret u =>obtain⟨v,a,H',J,z,q⟩:=h;exact fin J z q
 |next =>obtain⟨a,H',J,q⟩:=h;exact fin (v:=V.non) (u:=Value.none) J rfl q
 |brk =>obtain⟨_,_,_,q⟩:=h;exact False.elim q
 |cont =>obtain⟨_,_,_,q⟩:=h;exact False.elim q
section
variable {t:TA}{id T:String}{r:List V->Hp->VK->Prop}
def tCB(r:List V->Hp->VK->Prop)(t:TA):TE:=λσ H Q=>t σ H λvs H1=>r vs H1 Q
theorem fM(hc:jS X (.builtin id) r)(f:Gl X x)(hm:X.mg x=none)(hv:bootBuiltins x=some (.builtin id))(ha:PA X (e::es) t)(hn:x≠"__name__":=by decide)(a:(x==("__debug__":Str))=false:=by decide)
  (g:starEach (e::es) X.env=(false,eval e X.env)::starEach es X.env:=by rfl) (b:(backTo pos (starEach es X.env)).any (·.1)=false:=by rfl):PE X (.Call (.Name x p) (e::es) [] pos) (tCB r t):=by
 intro pins s σ H Q I h;refine wpAny_Call_Name_kw (fo I f hm hv ?_ hn a);exact PyProof.Rows.callWith_builtin1 (thn (ha pos pins s σ H _ I h) λus i c=>(by obtain⟨vs,H1,j,l,m⟩:=c;exact hc pins i σ H1 vs us Q j l m)) g b
theorem mM(hc:jS X (.type T) r)(f:Gl X x)(hm:X.mg x=none)(hv:bootBuiltins x=some (.type T))(ha:PA X (e::es) t)(hn:x≠"__name__":=by decide)(a:(x==("__debug__":Str))=false:=by decide)
  (g:starEach (e::es) X.env=(false,eval e X.env)::starEach es X.env:=by rfl) (b:(backTo pos (starEach es X.env)).any (·.1)=false:=by rfl):PE X (.Call (.Name x p) (e::es) [] pos) (tCB r t):=by
 intro pins s σ H Q I h;refine wpAny_Call_Name_kw (fo I f hm hv ?_ hn a);exact PyProof.Rows.callWith_type1 (thn (ha pos pins s σ H _ I h) λus i c=>(by obtain⟨vs,H1,j,l,m⟩:=c;exact hc pins i σ H1 vs us Q j l m)) g b
end
end L2
variable {xs ys vs:List L2.V}{ws:List (Option L2.V)}{H H' H1 G H0:L2.Hp}{o:L2.HO}{v y:L2.V}{X:L2.Cx}{σ:L2.St}{ta:L2.TA}{CX:L2.CXT}{κ:Nat->L2.V->L2.Hp->Prop}{kvs:List (List L2.Key×L2.V)}
namespace HT
open PySem PyProof.Rows
noncomputable def lexLt:List Int->List Int->Bool
 |[],[]=>false
 |[],_::_=>true
 |_::_,[]=>false
 |x::xs,y::ys=>if x=y then lexLt xs ys else decide (x<y)
theorem cN(x y:Int)(xs ys:List Int):lexLt (x::xs) (y::ys)=if x=y then lexLt xs ys else decide (x<y):=rfl
theorem fD:lexLt [] []=false:=rfl
theorem qA(y:Int)(ys:List Int):lexLt [] (y::ys)=true:=rfl
theorem pf(x:Int)(xs:List Int):lexLt (x::xs) []=false:=rfl
theorem B6(A:Around)(s:Shared)(a:Int)(t:Tok)(c:Int)(u:Tok):∃e,SeqAt.EqAt A s (.int a t) (.int c u) e/\(e=true↔a=c) :=
 ⟨(a==c),SeqAt.EqAt.int_int a t c u,by simp⟩
theorem C1(A:Around)(s:Shared)(a:Int)(t:Tok)(c:Int)(u:Tok)(prog:Program)(w:World)(E:Value->Shared->Prop)(Q:Value->Shared->Prop)(h:Q (.bool (decide (a<c))) s) :
  wpAny (model prog w) A (richCompare .Lt (.int a t) (.int c u)) Q E s :=
 (PyProof.Rows.lt_int h:wpAny (model prog w) A (compareOp .Lt (.int a t) (.int c u)) Q E s)
section
open PySem.SeqAt
open PySem.AutoSeq1 (wpAny_loadPart')
open PySem.MeetsSeq PySem.MeetsSeq2 PySem.MeetsSeq3
theorem qO(l b:Addr)(items f:Array Value)(n n2:Nat)(dd E:Option Addr)(J F:Array (Option Value))(ns C:List Int)(hi:IntsAre items.toList ns)(I:IntsAre f.toList C) :
  Meets (Builtin.«tuple.__lt__» ⟨[.ref l,.ref b],[]⟩)
   (λ_ R s=>s.heap.get? l=some { cls:=.type "tuple",dict:=dd,data:=.seq items n,slots:=J }/\s.heap.get? b=some { cls:=.type "tuple",dict:=E,data:=.seq f n2,slots:=F } /\
    R (.ok (.ret (.bool (lexLt ns C)))) s) :=
 .of_wp λprog w A R s h=>by
  obtain⟨D,g,d,tk,os⟩:=s;obtain⟨hl,K,h⟩:=h;have f2:=AutoSeq1.sub_tuple_tuple;have z1:items.size=ns.length:=by rw[<-hi.length];simp
  have z2:f.size=C.length:=by rw[<-I.length];simp
  wp_walk using wpAny_loadPart' hl,wpAny_loadPart' K,wpAny_forIn_list _ (λrest b s'=>b.1=none/\s'=⟨D,g,d,tk,os⟩/\∃(vs ws:List Value)(i j:List Int),rest=vs.zip ws /\
   IntsAre vs i/\IntsAre ws j/\i.length+f.size=j.length+items.size/\R (.ok (.ret (.bool (lexLt i j)))) ⟨D,g,d,tk,os⟩) _
  case turn =>
   rintro⟨y,x⟩ rest b s' ⟨v,rfl,vs,ws,i,j,m,z,o,hlen,p⟩
   cases z with
   |nil=>rw[List.zip_nil_left]at m;cases m
   |cons a t hvi' =>
    cases o with
    |nil=>rw[List.zip_nil_right]at m;cases m
    |cons c u hwi' =>
     rw[NR]at m;injection m with G B
     injection G with L M
     subst L M;rw[cN]at p;simp only[Mp]at hlen;obtain⟨e,N,r⟩:=B6 A.in1 ⟨D,g,d,tk,os⟩ a t c u;refine wpAny_bind (N prog w _ _ ?_);cases e with
     |true =>
      rw[if_pos (r.mp rfl)]at p
      wp_walk
      exact⟨rfl,rfl,_,_,_,_,B,hvi',hwi',by omega,p⟩
     |false =>
      rw[if_neg (λq=>absurd (r.mpr q) Mi)]at p;have H:=C1 A.in1 ⟨D,g,d,tk,os⟩ a t c u prog w
      wp_walk using H
      exact⟨_,rfl,by simpa using p⟩
  case fin =>
   rintro⟨b1,b2⟩ s' ⟨v,rfl,vs,ws,i,j,m,z,o,hlen,p⟩
   simp only at v;subst v;have hv:lexLt i j=decide (items.size<f.size):=by
    cases z with
    |nil =>
     cases o with
     |nil =>simp only[MM]at hlen;rw[fD];exact (decide_eq_false (by omega)).symm
     |cons c u hw =>simp only[MM,Mp]at hlen;rw[qA];exact (decide_eq_true (by omega)).symm
    |cons a t hv =>
     cases o with
     |nil =>simp only[MM,Mp]at hlen;rw[pf];exact (decide_eq_false (by omega)).symm
     |cons c u hw =>rw[NR]at m;cases m
   rw[hv]at p
   wp_walk
   exact⟨_,rfl,by simpa[Builtin.Tuple.tupleCompareSizes] using p⟩
  case h =>exact⟨rfl,rfl,items.toList,f.toList,ns,C,rfl,hi,I,by omega,h⟩
end
section
variable {A:Around}
theorem oY{l:Addr}{a:Array Value}{c:List Int}(hl:IsTup s.heap l items)(m:IsTup s.heap b a)(hi:IntsAre items.toList ns)(o:IntsAre a.toList c)
  (p:A.units<cLine) (h:Q (.bool (lexLt ns c)) s):wpAny (model prog w) A (compareOp .Lt (.ref l) (.ref b)) Q E s:=by
 obtain⟨⟨cls,dd,data,q⟩,j,hc,n,hd⟩:=id hl;obtain⟨⟨cls2,g,data2,i⟩,e,f,n2,hd2⟩:=id m;simp only at hc hd f hd2;subst hc hd f hd2;exact richCompare_meets_room (op:=.Lt) ⟨_,j,rfl⟩ ⟨_,e,rfl⟩ PySem.F.slot_tuple_lt PySem.F.entry_tuple_lt (PySem.F.args_tuple_lt_2 _ _) (qO l b items a n n2 dd g q i ns c hi o)
  ⟨j,e,show Value.bool (lexLt ns c)≠Value.notImplemented/\Q (.bool (lexLt ns c)) s from⟨(λx=>nomatch x),h⟩⟩ p
theorem GP{t:Addr}{vs ws:List Value}(j:IsTup s.heap t vs.toArray)(l:IsTup s.heap b ws.toArray)(hv:vs≠[])
  (h1:ws=[]->Q (.ref t) s) (h2:ws≠[]->Q (.ref s.heap.objs.size) { s with heap:=s.heap.push { cls:=.type "tuple",data:=.seq (vs++ws).toArray } })
  (hsz:vs.length+ws.length<=sizeLine):wpAny (model prog w) A (binaryOp .Add (.ref t) (.ref b)) Q E s:=by
 obtain⟨⟨cls,dd,data,i⟩,h,hc,n,hd⟩:=id j;obtain⟨⟨cls2,c,data2,f⟩,a,g,n2,hd2⟩:=id l;simp only at hc hd g hd2;subst hc hd g hd2;have e:vs.toArray++ws.toArray=(vs++ws).toArray:=by simp
 by_cases hw:ws=[]
 ·exact concat_meets ⟨_,h,rfl⟩ ⟨_,a,rfl⟩ noFill_tuple_add seq_tuple_add PySem.F.slot_tuple_add PySem.F.entry_tuple_add (PySem.F.args_tuple_add_2 _ _)
   (tuple_addW1 t b vs.toArray ws.toArray n n2 dd c i f (by simpa using hv) (by simp[hw])) ⟨h,a,h1 hw⟩
 ·refine concat_meets ⟨_,h,rfl⟩ ⟨_,a,rfl⟩ noFill_tuple_add seq_tuple_add PySem.F.slot_tuple_add PySem.F.entry_tuple_add (PySem.F.args_tuple_add_2 _ _)
   (tuple_addW2 t b vs.toArray ws.toArray n n2 dd c i f (by simpa using hv) (by simpa using hw) (by rw[Mo,Mo];exact hsz)) ⟨h,a,?_⟩
  rw[e];exact h2 hw
noncomputable def sIx(n d:Nat):Option Int->Nat
 |none=>d
 |some v=>if v<0 then (v+(n:Int)).toNat else min v.toNat n
end
end HT
namespace L2
open PySem PySem.Spec PyProof.Rows
variable {its:List Value}
theorem intsAre_of:∀{us:List Value},Vals (ns.map V.int) us->IntsAre us ns:=by
 induction ns with
 |nil=>intro us r;rw[Nc]at r;cases r;exact .nil
 |cons n ns ih =>
  intro us r;rw[M5]at r;cases r with
  |cons r1 r2 =>obtain⟨t,e⟩:=r1;subst e;exact .cons n t (ih r2)
section
variable {te:TE}{lo hi:Option Expr}{tl th:TO}
def LY(K:W.Frag):R2:=λx y H Q=>∃a b ns c,x=.ref a/\y=.ref b/\SqT K H a (ns.map V.int)/\SqT K H b (c.map V.int)/\Q (.bl (HT.lexLt ns c)) H
theorem IB(f:X.A.units<cLine):OpR X (compareOp .Lt) (LY X.K):=by intro pins s σ H x y v u Q I g i h;obtain⟨a,b,ns,e,rfl,rfl,ha,j,q⟩:=h;cases g;cases i;obtain⟨its,l,p1,_⟩:=I.tuple ha;obtain⟨c,m,p2,_⟩:=I.tuple j;have i1:IntsAre its.toArray.toList ns:=intsAre_of l;have i2:IntsAre c.toArray.toList e:=intsAre_of m;exact HT.oY p1 p2 i1 i2 f ⟨.bl (HT.lexLt ns e),H,I,rfl,q⟩
def KQ(K:W.Frag):R2:=λx y H Q=>∃a b xs ys,x=.ref a/\y=.ref b/\SqT K H a xs/\SqT K H b ys/\xs≠[]/\xs.length+ys.length<=sizeLine /\
 (ys=[]->Q (.ref a) H)/\(ys≠[]->∀p,H p=none->Q (.ref p) (upd H p (.tup (xs++ys))))
theorem Vals.nil_iff(r:Vals xs us):us=[]↔xs=[]:=by
 cases r with
 |nil=>simp
 |cons _ _=>simp
theorem EC:OpR X (binaryOp .Add) (KQ X.K):=by intro pins s σ H x y v u Q I g i h;obtain⟨a,b,xs,ys,rfl,rfl,ha,j,l,f,m,n⟩:=h;cases g;cases i;obtain⟨its,e,p1,_⟩:=I.tuple ha;obtain⟨its2,c,p2,_⟩:=I.tuple j;refine HT.GP p1 p2 (λz=>l (e.nil_iff.mp z)) (λz=>⟨.ref a,H,I,rfl,m (c.nil_iff.mp z)⟩) (λz=>?_) (by rw[<-e.length,<-c.length];exact f);refine⟨.ref s.heap.objs.size,_,I.laid (t':=s.toks) (o:=.tup (xs++ys)) (λb ob q=>M3 _ q) (Me _) ?_,rfl,n (λw=>z (c.nil_iff.mpr w)) _ (I.hok.fresh (Me _))⟩;exact⟨by rw[Mr];exact f,_,e.append c,vY.new _ _⟩
end
def ixN(n:Nat)(i:Int):Option Nat:=if 0<=i then (if i<n then some i.toNat else none) else if -(n:Int)<=i then some (i+n).toNat else none
def atI{α:Type}(xs:List α)(i:Int):Option α:=(ixN xs.length i).bind λj=>xs[j]?
theorem tW{i:Int}{j:Nat}(h:ixN n i=some j):seqIndex? i n=some j/\j<n/\-(n:Int)<=i/\i<n:=by
 unfold ixN at h;by_cases h0:0<=i
 ·rw[if_pos h0]at h;by_cases h1:i<n
  ·rw[if_pos h1]at h;have e:i.toNat=j:=Option.some.inj h;exact⟨by rw[seqIndex_of h0 h1,e],by omega,by omega,h1⟩
  ·rw[if_neg h1]at h;cases h
 ·rw[if_neg h0]at h;by_cases h1:-(n:Int)<=i
  ·rw[if_pos h1]at h;have e:(i+n).toNat=j:=Option.some.inj h;exact⟨by rw[seqIndex_neg (by omega) h1,e],by omega,h1,by omega⟩
  ·rw[if_neg h1]at h;cases h
theorem ye{xs:List α}{i:Int}{v:α}(h:atI xs i=some v):∃j,seqIndex? i xs.length=some j/\xs[j]?=some v/\j<xs.length/\-(xs.length:Int)<=i/\i<xs.length:=by
 unfold atI at h;cases e:ixN xs.length i with
 |none=>rw[e]at h;cases h
 |some j =>rw[e]at h;obtain⟨h1,h2,a,b⟩:=tW e;exact⟨j,h1,h,h2,a,b⟩
theorem og{xs:List α}{j:Nat}{v:α}(h:xs[j]?=some v):atI xs (j:Int)=some v:=by
 have hj:j<xs.length:=(My.mp h).1;have e:ixN xs.length (j:Int)=some j:=by unfold ixN;rw[if_pos (by omega),if_pos (by omega)];simp
 unfold atI;rw[e];exact h
def yL(b:Expr):Prop:=∀o i,subscripted b false o i=operate [o,i] (getItem o i)
def IxR(X:Cx)(r:R2):Prop :=
 ∀(value slice:Expr)(pins:List (Addr×Obj))(s:Shared)(σ:St)(H:Hp)(x y:V)(v u:Value)(Q:VK),Inv X pins σ H s->RelV x v->RelV y u->r x y H Q ->
  subscripted slice false v u=operate [v,u] (getItem v u)->wpAny (model X.prog X.w) X.A (subscriptTail value slice v u) (EP X pins σ Q) X.xe s
def MtR(X:Cx)(id:String)(r:V->List V->Hp->VK->Prop):Prop :=
 ∀(pins:List (Addr×Obj))(s:Shared)(σ:St)(H:Hp)(x:V)(xs:List V)(v:Value)(us:List Value)(Q:VK),Inv X pins σ H s->RelV x v->Vals xs us->r x xs H Q ->
  wpAny (model X.prog X.w) X.A (call (.builtin id) (v::us)) (EP X pins σ Q) X.xe s
section
variable {a b:Expr}{ta tb:TE}
theorem IxR.or{r a:R2}(h:IxR X r)(h':IxR X a):IxR X (λx y H Q=>r x y H Q\/a x y H Q):=by
 intro value slice pins s σ H x y v u Q I b c q e;rcases q with q|q
 ·exact h value slice pins s σ H x y v u Q I b c q e
 ·exact h' value slice pins s σ H x y v u Q I b c q e
theorem Dy{r:R2}(c:IxR X r)(ha:PE X a ta)(e:PE X b tb)(f:yL b):PE X (.Subscript a b pos) (tOp r ta tb):=by intro pins s σ H Q I h;exact Subscript_ (Iq ha e I h λv u s2 x y H2 g i j q=>c a b pins s2 σ H2 x y v u Q g i j q (f _ _))
def Kc(K:W.Frag):R2:=λx y H Q=>∃p xs i v,x=.ref p/\y=.int i/\SqL K H p xs/\atI xs i=some v/\Q v H
def K5(K:W.Frag):R2:=λx y H Q=>∃p xs i v,x=.ref p/\y=.int i/\SqT K H p xs/\atI xs i=some v/\Q v H
theorem tQ:IxR X (Kc X.K):=by
 intro value slice pins s σ H x y v u Q I f g h c;obtain⟨p,xs,i,z,rfl,rfl,l,m,q⟩:=h;cases f;obtain⟨t,rfl⟩:=g;obtain⟨its,r,pl,hz⟩:=I.list l;obtain⟨j,h1,h2,h3,n,o⟩:=ye m;obtain⟨w,e,a⟩:=r.get h2;have hl:=r.length;have hn:=tM;have fin:EP X pins σ Q w s:=⟨z,H,I,a,q⟩
 by_cases h0:0<=i
 ·have b:i.toNat=j:=by rw[seqIndex_of h0 o]at h1;exact Option.some.inj h1
  exact item_listR pl.isList h0 (by omega) (by rw[b];simpa using e) fin c
 ·have b:(i+(its.toArray.size:Int)).toNat=j:=by rw[seqIndex_neg (by omega) n]at h1;rw[Mo,<-hl];exact Option.some.inj h1
  exact subscriptTail_builtinR (x:=w) pl.isList.typeIs slot_list_getitem.lookup
   (wpAny_getItem_list_neg (Q:=λr s'=>r=w/\EP X pins σ Q r s') pl.isList (by omega) (by rw[Mo] <;> omega) (by omega) (by rw[b];simpa using e) ⟨rfl,fin⟩) c
theorem Hg:IxR X (K5 X.K):=by
 intro value slice pins s σ H x y v u Q I b c h e;obtain⟨p,xs,i,z,rfl,rfl,f,g,q⟩:=h;cases b;obtain⟨t,rfl⟩:=c;obtain⟨its,r,pl,hz⟩:=I.tuple f;obtain⟨j,h1,h2,h3,h4,h5⟩:=ye g;obtain⟨w,l,a⟩:=r.get h2;have hl:=r.length;have hn:=tM;have fin:EP X pins σ Q w s:=⟨z,H,I,a,q⟩
 exact subscriptTail_builtinR (x:=w) pl.typeIs slot_tuple_getitem.lookup
  (getItem_tuple (j:=j) (Q:=λr s'=>r=w/\EP X pins σ Q r s') pl (by omega) (by omega) (by rw[Mo,<-hl];exact h1) (by simpa using l) ⟨rfl,fin⟩) e
theorem xH(its:List Value)(n j:Nat)(u:Value):Obj.mapSeq (·.setIfInBounds j u) { cls:=.type "list",data:=.seq its.toArray n }={ cls:=.type "list",data:=.seq (its.set j u).toArray n }:=by simp[Obj.mapSeq]
theorem Inv.lst{p:Addr}(I:Inv X pins σ H s)(h:H p=some (.lst xs)) :
  ∃(its:List Value)(n:Nat),Vals xs its/\s.heap.get? p=some { cls:=.type "list",data:=.seq its.toArray n }/\xs.length<=sizeLine:=by
 obtain⟨z,its,n,r,e⟩:=I.hok p _ h;exact⟨its,n,r,e,z⟩
theorem Inv.lstUpd{p:Addr}{n':Nat}{f:Obj->Obj}(I:Inv X pins σ H s)(h:H p=some (.lst xs))
  (c:s.heap.get? p=some { cls:=.type "list",data:=.seq its.toArray n }) (a:f { cls:=.type "list",data:=.seq its.toArray n }={ cls:=.type "list",data:=.seq its'.toArray n' }) (r:Vals ys its') (g:ys.length<=sizeLine) (t:Nat) :
  Inv X pins σ (upd H p (.lst ys)) { s with heap:=s.heap.update p f,toks:=t }:=by
 have e:(s.heap.update p f).get? p=some { cls:=.type "list",data:=.seq its'.toArray n' }:=by rw[NH f c (by rw[a] <;> rfl),a]
 refine I.write (x:=p) (e:=p) (by rw[h];trivial) (.inl rfl) (λb u i q=>(MJ _ _ (Ne.symm i)).trans q) ⟨_,e⟩ ?_;exact⟨g,its',n',r,e⟩
def KH:V->V->V->Hp->(Hp->Prop)->Prop:=λo i v H Q=>∃p xs k j,o=.ref p/\i=.int k/\H p=some (.lst xs)/\ixN xs.length k=some j/\Q (upd H p (.lst (xs.set j v)))
theorem set_list:Lf X KH:=by
 intro pins s σ H o i v ov iv u Q I l m w h;obtain⟨p,xs,k,j,rfl,rfl,c,x,q⟩:=h;cases l;obtain⟨t,rfl⟩:=m;obtain⟨its,n,r,a,y⟩:=I.lst c;obtain⟨h1,h2,e,f⟩:=tW x;have hl:=r.length;have hn:=tM;have g:Inv X pins σ (upd H p (.lst (xs.set j v))) { s with heap:=s.heap.update p (Obj.mapSeq (·.setIfInBounds j u)) } :=
  I.lstUpd c a (xH its n j u) (r.set w j) (by rw[List.length_set];exact y) s.toks
 by_cases h0:0<=k
 ·have b:k.toNat=j:=by rw[seqIndex_of h0 f]at h1;exact Option.some.inj h1
  exact W.ki_setAt a h0 (by omega) (by rw[Mo,<-hl];exact f) (by rw[b];exact⟨_,g,q⟩)
 ·have b:(k+(its.toArray.size:Int)).toNat=j:=by rw[seqIndex_neg (by omega) e]at h1;rw[Mo,<-hl];exact Option.some.inj h1
  exact W.ki_setBack a (by omega) (by rw[Mo,<-hl];exact e) (by omega) (by rw[b];exact⟨_,g,q⟩)
def jc:V->Bool
 |.non=>true
 |.bl _=>true
 |.int _=>true
 |.str _=>true
 |_=>false
noncomputable def eqV:V->V->Bool
 |.non,.non=>true
 |.bl a,.bl b=>a==b
 |.bl a,.int b=>(if a then 1 else 0)==b
 |.int a,.bl b=>a==(if b then 1 else 0)
 |.int a,.int b=>a==b
 |.str a,.str b=>a==b
 |_,_=>false
theorem Ig{A:Around}{x:V}{v:Value}(e:RelV y u)(c:RelV x v)(g:jc y=true)(f:jc x=true):SeqAt.EqAt A s u v (eqV y x):=by
 cases y with
 |non =>
  cases e;cases x with
  |non=>cases c;exact SeqAt.EqAt.same _
  |bl b=>cases c;exact SeqAt.EqAt.none_bool b
  |int b=>obtain⟨t,rfl⟩:=c;exact SeqAt.EqAt.none_int b t
  |str b=>obtain⟨t,rfl⟩:=c;exact SeqAt.EqAt.none_str b t
  |_=>exact absurd (show false=true from f) Mi
 |bl a =>
  cases e;cases x with
  |non=>cases c;exact SeqAt.EqAt.bool_none a
  |bl b=>cases c;exact SeqAt.EqAt.bool_bool a b
  |int b=>obtain⟨t,rfl⟩:=c;exact SeqAt.EqAt.bool_int a b t
  |str b=>obtain⟨t,rfl⟩:=c;exact SeqAt.EqAt.bool_str a b t
  |_=>exact absurd (show false=true from f) Mi
 |int a =>
  obtain⟨t',rfl⟩:=e;cases x with
  |non=>cases c;exact SeqAt.EqAt.int_none a t'
  |bl b=>cases c;exact SeqAt.EqAt.int_bool a t' b
  |int b=>obtain⟨t,rfl⟩:=c;exact SeqAt.EqAt.int_int a t' b t
  |str b=>obtain⟨t,rfl⟩:=c;exact SeqAt.EqAt.int_str a t' b t
  |_=>exact absurd (show false=true from f) Mi
 |str a =>
  obtain⟨t',rfl⟩:=e;cases x with
  |non=>cases c;exact SeqAt.EqAt.str_none a t'
  |bl b=>cases c;exact SeqAt.EqAt.str_bool a t' b
  |int b=>obtain⟨t,rfl⟩:=c;exact SeqAt.EqAt.str_int a t' b t
  |str b=>obtain⟨t,rfl⟩:=c;exact SeqAt.EqAt.str_str a t' b t
  |_=>exact absurd (show false=true from f) Mi
 |_=>exact absurd (show false=true from g) Mi
def eqU(x:V)(u:Value):Bool:=match u with
 |.none=>eqV .non x
 |.bool b=>eqV (.bl b) x
 |.int i _=>eqV (.int i) x
 |.str z _=>eqV (.str z) x
 |_=>false
theorem wN{x:V}(r:RelV y u)(f:jc y=true):eqU x u=eqV y x:=by
 cases y with
 |non=>cases r;rfl
 |bl b=>cases r;rfl
 |int i=>obtain⟨t,rfl⟩:=r;rfl
 |str z=>obtain⟨t,rfl⟩:=r;rfl
 |_=>exact absurd (show false=true from f) Mi
theorem uD{x:V}:∀{xs:List V}{us:List Value},Vals xs us->xs.all jc=true->us.any (eqU x)=xs.any λy=>eqV y x
 |_,_,.nil,_=>rfl
 |y::xs,u::us,.cons r t,f=>by rw[NK,Mm]at f;rw[Nj,Nj,wN r f.1,uD t f.2]
theorem lY{A:Around}{s:Shared}{x:V}{v:Value}(b:RelV x v)(c:jc x=true):∀{xs:List V}{us:List Value},Vals xs us->xs.all jc=true->∀u∈us,SeqAt.EqAt A s u v (eqU x u)
 |_,_,.nil,_=>λu a=>by cases a
 |y::xs,u::us,.cons r t,f=>λe a=>by
  rw[NK,Mm]at f;rcases M8.mp a with rfl|a
  ·rw[wN r f.1];exact Ig r b f.1 c
  ·exact lY b c t f.2 e a
def inV(x:V)(xs:List V):Bool:=xs.any λy=>eqV y x
def rIn(K:W.Frag)(neg:Bool):R2:=λx y H Q=>∃p xs,y=.ref p/\(SqL K H p xs\/SqT K H p xs)/\jc x=true/\xs.all jc=true/\Q (.bl (if neg then !inV x xs else inV x xs)) H
theorem As:OpR X (compareOp .In) (rIn X.K false):=by
 intro pins s σ H x y v u Q I b e h;obtain⟨p,xs,rfl,a,c,fs,q⟩:=h;cases e;rcases a with a|a
 ·obtain⟨its,r,pl,f⟩:=I.list a;refine SeqAt.in_listAt (eqU x) pl.isList (λw hw=>lY b c r fs w (by simpa using hw)) ⟨.bl _,H,I,rfl,?_⟩;rw[show its.toArray.any (eqU x)=its.any (eqU x) by simp,uD r fs];exact q
 ·obtain⟨its,r,pl,f⟩:=I.tuple a;refine SeqAt.in_tupleAt (eqU x) pl (λw hw=>lY b c r fs w (by simpa using hw)) ⟨.bl _,H,I,rfl,?_⟩;rw[show its.toArray.any (eqU x)=its.any (eqU x) by simp,uD r fs];exact q
theorem iT:jS X (.builtin "len") (λxs H Q=>∃p ys,xs=[.ref p]/\(SqL X.K H p ys\/SqT X.K H p ys)/\Q (.int ys.length) H):=by
 intro pins s σ H xs us Q I r h;obtain⟨p,ys,rfl,a,q⟩:=h;obtain⟨u,rfl,c⟩:=vals1 r;cases c;have hn:=tM;rcases a with a|a
 ·obtain⟨its,b,pl,e⟩:=I.list a;have hlen:=b.length;exact Calls.call_len_list pl.isList (by simp only[Mo] <;> omega) ⟨.int ys.length,H,I.tok _,⟨s.toks+1,by rw[Mo,hlen]⟩,q⟩
 ·obtain⟨its,b,pl,e⟩:=I.tuple a;have hlen:=b.length;exact len_tuple pl (by simp only[Mo] <;> omega) ⟨.int ys.length,H,I.tok _,⟨s.toks+1,by rw[Mo,hlen]⟩,q⟩
theorem tF:jS X (.type "list") (λxs H Q=>∃p ys,xs=[.ref p]/\(SqL X.K H p ys\/SqT X.K H p ys)/\∀l,H l=none->Q (.ref l) (upd H l (.lst ys))):=by
 intro pins s σ H xs us Q I r h;obtain⟨p,ys,rfl,c,q⟩:=h;obtain⟨u,rfl,i⟩:=vals1 r;cases i;have fin:∀(its:List Value),Vals ys its->ys.length<=sizeLine->∀(h':Heap)(c':Nat),(∀b o',s.heap.get? b=some o'->h'.get? b=some o') ->
   h'.get? s.heap.objs.size=some { cls:=.type "list",dict:=none,data:=.seq its.toArray c',slots:=#[] }->EP X pins σ Q (.ref s.heap.objs.size) { s with heap:=h' }:=λits a f h' c' kp e =>
  ⟨.ref s.heap.objs.size,_,I.laid (t':=s.toks) kp (Me _) (show cE X.prog X.w _ h' _ (.lst ys) from⟨f,its,c',a,e⟩),rfl,q _ (I.hok.fresh (Me _))⟩
 rcases c with c|c
 ·obtain⟨its,a,pl,f⟩:=I.list c;have hlen:=a.length;obtain⟨o,g,hc,n,hd⟩:=pl.isList;exact call_list_seq p (.inl rfl) g hc hd (λh' c' kp e=>fin its a f h' c' kp e) (by simp only[Mo] <;> omega)
 ·obtain⟨its,a,pl,f⟩:=I.tuple c;have hlen:=a.length;obtain⟨o,g,hc,n,hd⟩:=pl;exact call_list_seq p (.inr rfl) g hc hd (λh' c' kp e=>fin its a f h' c' kp e) (by simp only[Mo] <;> omega)
theorem qG:jS X (.type "tuple") (λxs H Q=>∃p ys,xs=[.ref p]/\((SqL X.K H p ys/\∀l,H l=none->Q (.ref l) (upd H l (.tup ys)))\/(SqT X.K H p ys/\Q (.ref p) H))):=by
 intro pins s σ H xs us Q I r h;obtain⟨p,ys,rfl,h⟩:=h;obtain⟨u,rfl,i⟩:=vals1 r;cases i;rcases h with⟨a,q⟩|⟨a,q⟩
 ·obtain⟨its,c,pl,f⟩:=I.list a;have hlen:=c.length;refine call_tuple_list pl.isList (λh' kp=>?_) (by simp only[Mo] <;> omega);have g:Inv X pins σ H { s with heap:=h' }:=I.kept (t':=s.toks) kp;have j:Inv X pins σ (upd H h'.objs.size (.tup ys)) { s with heap:=h'.push { cls:=.type "tuple",data:=.seq its.toArray } } :=
   g.laid (t':=s.toks) (λb o e=>M3 _ e) (Me _) (show cE X.prog X.w _ _ _ (.tup ys) from⟨f,its,c,vY.new _ _⟩)
  exact⟨.ref h'.objs.size,_,j,rfl,q _ (g.hok.fresh (Me _))⟩
 ·obtain⟨its,c,pl,f⟩:=I.tuple a;exact call_tuple_same pl ⟨.ref p,H,I,rfl,q⟩
def tyV(K:W.Frag)(T:String)(x:V)(H:Hp):Prop:=match x with
 |.str _=>T="str"
 |.int _=>T="int"
 |.ref p=>(T="list"/\∃xs,SqL K H p xs)\/(T="tuple"/\∃o,K.lookup p=some o/\o.cls=.type "tuple"/\o.dict=none) \/
  (T="dict"/\((∃kvs,H p=some (.dK kvs))\/∃kvs,H p=some (.dT kvs)))\/(T="set"/\∃S n,H p=some (.set S n))
 |_=>False
theorem Hr{T:String}{x:V}{v:Value}(I:Inv X pins σ H s)(r:RelV x v)(ty:tyV X.K T x H) :
  s.TypeIs v T/\∀a,v=.ref a->∃ob,s.heap.get? a=some ob/\ob.dict=none:=by
 cases x with
 |str z =>obtain⟨t,rfl⟩:=r;cases (show T="str" from ty);exact⟨typeIs_str s z t,λ_ e=>nomatch e⟩
 |int i =>obtain⟨t,rfl⟩:=r;cases (show T="int" from ty);exact⟨typeIs_int s i t,λ_ e=>nomatch e⟩
 |ref p =>
  cases r;rcases ty with⟨rfl,xs,f⟩|⟨rfl,o,b,hc,hd⟩|⟨rfl,b⟩|⟨rfl,S,n,b⟩
  ·obtain⟨its,_,pl,_⟩:=I.list f;refine⟨pl.isList.typeIs,λa e=>?_⟩;cases e;obtain⟨o,n,e,c,hd,_⟩:=pl;exact⟨o,e,hd⟩
  ·refine⟨⟨o,I.kIn p o b,hc⟩,λa e=>?_⟩;cases e;exact⟨o,I.kIn _ o b,hd⟩
  ·have z:∃o,s.heap.get? p=some o/\o.ExactDict:=by
    rcases b with⟨kvs,b⟩|⟨kvs,b⟩
    ·obtain⟨_,_,_,_,o,_,_,e,ex,_⟩:=I.hok p _ b;exact⟨o,e,ex⟩
    ·obtain⟨_,_,_,_,o,_,_,e,ex,_⟩:=I.hok p _ b;exact⟨o,e,ex⟩
   obtain⟨o,e,ex⟩:=z;refine⟨⟨o,e,ex.1⟩,λa e2=>?_⟩;cases e2;exact⟨o,e,ex.2.1⟩
  ·obtain⟨o,_,_,_,e,ex,_⟩:=I.hok p _ b;refine⟨⟨o,e,ex.1⟩,λa e2=>?_⟩;cases e2;exact⟨o,e,ex.2.1⟩
 |_=>exact False.elim ty
def tBM(K:W.Frag)(T:String)(r:V->List V->Hp->VK->Prop)(to:TE)(t:TA):TE:=λσ H Q=>to σ H λx H1=>tyV K T x H1/\t σ H1 λxs H2=>r x xs H2 Q
variable {o:Expr}{es:List Expr}{to:TE}{t:TA}{name:Str}{apos:Pos}{T id:String}{r:V->List V->Hp->VK->Prop}
theorem yo(pa:PlainAttrs T)(slot:Slot T name id)(g:typeOf (.builtin id)=pure (.type "method_descriptor"))(hm:MtR X id r)(p:PE X o to)(ha:PA X (e::es) t)
  (b:attributeBase o name X.env (eval o X.env)=eval o X.env:=by rfl)
  (f:((backTo cpos (starEach (e::es) X.env)).all (λx=>!x.1)&&(backToKw cpos (keywordEach [] X.env)).all (λx=>x.1.isSome)
  &&decide ((e::es).length+([]:List Keyword).length+(if ([]:List Keyword).isEmpty then 0 else 1)<30))=true:=by rfl)
  (c:(apos.endLine==cpos.line)=true:=by rfl) (q:starEach (e::es) X.env=(false,eval e X.env)::starEach es X.env:=by rfl) (a:(backTo cpos (starEach es X.env)).any (·.1)=false:=by rfl) :
  PE X (.Call (.Attribute o name apos) (e::es) [] cpos) (tBM X.K T r to t):=by
 intro pins s σ H Q I h;refine wpAny_Call_method_late b f c rfl (thn (p pins s σ H _ I h) λv u i=>?_);obtain⟨x,H1,l,m,ty,w⟩:=i;obtain⟨h1,h2⟩:=Hr l m ty;refine⟨T,id,pa,slot,g,h1,h2,?_⟩;have n:=ha cpos pins u σ H1 _ l w;rw[q]at n ⊢;refine Calls.callWith_builtin (by show (false||(backTo cpos (starEach es X.env)).any (·.1))=false;rw[a] <;> rfl) (Calls.evalArgs_plain ?_);exact thn n λus s2 j=>(by obtain⟨vs,H2,y,z,A⟩:=j;exact hm pins s2 σ H2 x vs v us Q y m z A)
end
def MtM(X:Cx)(id:String)(r:V->List V->Hp->VK->Prop):Prop :=
 ∀(pins:List (Addr×Obj))(s:Shared)(σ:St)(H:Hp)(x:V)(xs:List V)(v:Value)(us:List Value)(Q:VK),Inv X pins σ H s->RelV x v->Vals xs us->r x xs H Q ->
  wpAny (model X.prog X.w) X.A (call (.builtin id) (v::us)) (EP X pins σ Q) X.xe s
theorem Vals.one{x:V}(h:Vals [x] us):∃u,us=[u]/\RelV x u:=by
 cases h with
 |cons r t=>cases t;exact⟨_,rfl,r⟩
theorem Vals.eraseIdx:∀{xs:List V}{us:List Value}(i:Nat),Vals xs us->Vals (xs.eraseIdx i) (us.eraseIdx i)
 |_,_,_,.nil=>.nil
 |_,_,0,.cons _ t=>t
 |_,_,i+1,.cons r t=>.cons r (Vals.eraseIdx i t)
theorem Vals.rep{xs:List V}{us:List Value}(h:Vals xs us):∀k:Nat,Vals (List.replicate k xs).flatten (List.replicate k us).flatten
 |0=>.nil
 |k+1=>by rw[Na,Na,Np,Np];exact Vals.append h (Vals.rep h k)
theorem rh{α:Type}:∀(l:List α)(i:Nat),(l.eraseIdx i).length<=l.length
 |[],_=>Me _
 |_::_,0=>NF _
 |_::r,i+1=>Nat.succ_le_succ (rh r i)
theorem foldl_rep(its:List Value):∀(k:Nat)(acc:List Value),
  List.foldl (λx1 x2=>x1++x2) acc.toArray (List.replicate k its.toArray)=(acc++(List.replicate k its).flatten).toArray
 |0,acc=>by simp
 |k+1,acc=>by
  have e:acc.toArray++its.toArray=(acc++its).toArray:=by simp
  have e2:(acc++its)++(List.replicate k its).flatten=acc++(List.replicate (k+1) its).flatten:=by rw[Na,Np,NW]
  rw[<-e2,<-foldl_rep its k (acc++its),<-e,Na,MC]
section
variable {l:Addr}{zs:List V}
theorem Inv.lset{f:Array Value->Array Value}{t':Nat}(I:Inv X pins σ H s)(a:H l=some (.lst xs))
  (e:s.heap.get? l=some { cls:=.type "list",data:=.seq its.toArray n }) (b:f its.toArray=its'.toArray) (hv:Vals ys its') (c:ys.length<=sizeLine) :
  Inv X pins σ (upd H l (.lst ys)) { s with heap:=s.heap.update l (Obj.mapSeq f),toks:=t' }:=by
 have q:=PySem.IsL.update e f;rw[b]at q;refine I.write (x:=l) (e:=l) (by rw[a];exact trivial) (.inl rfl) (λb' u g h=>(MJ s.heap (Obj.mapSeq f) (Ne.symm g)).trans h) ⟨_,q⟩ ?_;exact⟨c,its',_,hv,q⟩
theorem Inv.lnew{t':Nat}(I:Inv X pins σ H s)(hv:Vals ys its)(a:ys.length<=sizeLine) :
  Inv X pins σ (upd H s.heap.objs.size (.lst ys)) { s with heap:=s.heap.push { cls:=.type "list",data:=.seq its.toArray },toks:=t' } :=
 I.laid (λ_ _ q=>M3 _ q) (Me _) ⟨a,its,0,hv,Ml _ rfl⟩
theorem Inv.fresh(I:Inv X pins σ H s):H s.heap.objs.size=none:=I.hok.fresh (Me _)
theorem Inv.lstM(I:Inv X pins σ H s)(a:H l=some (.lst xs)):xs.length<=sizeLine/\∃(its:List Value)(n:Nat),Vals xs its/\xs.length=its.length/\s.heap.get? l=some { cls:=.type "list",data:=.seq its.toArray n }:=by obtain⟨z,its,n,r,e⟩:=I.hok l _ a;exact⟨z,its,n,r,r.length,e⟩
theorem Ea(h:n<=sizeLine):Builtin.List.listTooLong n=false:=by unfold Builtin.List.listTooLong;exact decide_eq_false (by omega)
end
section
def Ge:V->List V->Hp->VK->Prop:=λx vs H Q=>∃l xs y,x=.ref l/\vs=[y]/\H l=some (.lst xs)/\xs.length<sizeLine/\Q .non (upd H l (.lst (xs++[y])))
theorem kh:MtM X "list.append" Ge:=by intro pins s σ H x vs v us Q I b c h;obtain⟨l,xs,y,rfl,rfl,a,hz,q⟩:=h;cases b;obtain⟨u,rfl,f⟩:=c.one;obtain⟨z,its,n,r,hl,e⟩:=I.lstM a;refine call_meets F.slot_list_append ⟨_,e,rfl⟩ F.entry_list_append (F.args_list_append_2 _ _) (PySem.list_append l its.toArray n u (by rw[Mo];omega)) ⟨e,?_⟩;refine⟨.non,_,I.lset (its':=its++[u]) a e (by simp) (r.append (.cons f .nil)) ?_,rfl,q⟩;rw[Mr,MQ];omega
def ID:V->List V->Hp->VK->Prop:=λx vs H Q=>∃l xs i k y,x=.ref l/\vs=[.int i]/\H l=some (.lst xs)/\-(2 ^ 63)<=i/\i<2 ^ 63/\seqIndex? i xs.length=some k/\xs[k]?=some y/\Q y (upd H l (.lst (xs.eraseIdx k)))
theorem DS:MtM X "list.pop" ID:=by
 intro pins s σ H x vs v us Q I c f h;obtain⟨l,xs,i,k,y,rfl,rfl,b,h1,h2,g,j,q⟩:=h;cases c;obtain⟨u,rfl,m⟩:=f.one;obtain⟨t,rfl⟩:=m;obtain⟨z,its,n,r,hl,e⟩:=I.lstM b;obtain⟨w,hw,a⟩:=r.get j;refine call_meets F.slot_list_pop ⟨_,e,rfl⟩ F.entry_list_pop (F.args_list_pop_2 _ _)
  (MeetsSeq.list_pop_at l its.toArray n i t k w (fitsIndex_both h1 h2) (by rw[Mo,<-hl];exact g) (by rw[<-O0];exact hw) (by rw[Mo];omega)) ⟨e,?_⟩
 refine⟨y,_,I.lset (its':=its.eraseIdx k) b e ?_ (r.eraseIdx k) ?_,a,q⟩
 ·show its.toArray.eraseIdxIfInBounds k=(its.eraseIdx k).toArray;rw[List.eraseIdxIfInBounds_toArray]
 ·have:=rh xs k;omega
def Ks:R2:=λx y H Q=>∃l b xs zs,x=.ref l/\y=.ref b/\H l=some (.lst xs)/\H b=some (.lst zs)/\xs.length+zs.length<=sizeLine/\∀p,H p=none->Q (.ref p) (upd H p (.lst (xs++zs)))
theorem Jy:OpR X (binaryOp .Add) Ks:=by
 intro pins s σ H x y v u Q I c f h;obtain⟨l,b,xs,zs,rfl,rfl,g,hB,hz,q⟩:=h;cases c;cases f;obtain⟨z,its,n,r,hl,e⟩:=I.lstM g;obtain⟨z2,a,n2,i,hl2,e2⟩:=I.lstM hB;refine PySem.P.add_list e e2 ?_ (by rw[Mo,Mo];omega);have ea:its.toArray++a.toArray=(its++a).toArray:=by simp
 rw[ea];exact⟨.ref _,_,I.lnew (t':=s.toks) (r.append i) (by rw[Mr];omega),rfl,q _ I.fresh⟩
def K7:R2:=λx y H Q=>∃l k xs,x=.ref l/\y=.int k/\H l=some (.lst xs)/\-(2 ^ 63)<=k/\k<2 ^ 63/\xs.length*k.toNat<=sizeLine /\
 ∀p,H p=none->Q (.ref p) (upd H p (.lst (List.replicate k.toNat xs).flatten))
theorem len_rep(xs:List α)(k:Nat):(List.replicate k xs).flatten.length=k*xs.length:=by
 induction k with
 |zero=>simp
 |succ k ih=>rw[Na,Np,Mr,ih,Nat.succ_mul,Nat.add_comm]
theorem Ju:OpR X (binaryOp .Mult) K7:=by
 intro pins s σ H x y v u Q I j o h;obtain⟨l,k,xs,rfl,rfl,p,h1,h2,i,q⟩:=h;cases j;obtain⟨t,rfl⟩:=o;obtain⟨z,its,n,r,hl,e⟩:=I.lstM p;have hlen:its.toArray.size*k.toNat<=sizeLine:=by rw[Mo,<-hl];exact i
 have c:¬ its.toArray.size*k.toNat>(2 ^ 63-1) / 8:=by
  have:(sizeLine:Nat)<=(2 ^ 63-1) / 8:=by decide
  omega
 have f:¬ (!Builtin.List.listFitsIndex k)=true:=by rw[fitsIndex_both h1 h2];exact Mi
 have b:¬ Builtin.List.listTooLong (its.toArray.size*k.toNat)=true:=by rw[Ea hlen];exact Mi
 have g:List.foldl (λx1 x2=>x1++x2) #[] (List.replicate (if its.toArray.isEmpty=true then 0 else k.toNat) its.toArray)=(List.replicate k.toNat its).flatten.toArray:=by
  have w:∀m:Nat,List.foldl (λx1 x2=>x1++x2) #[] (List.replicate m its.toArray)=(List.replicate m its).flatten.toArray:=λm=>by have:=foldl_rep its m [];rw[MK]at this;exact this
  rw[w];cases its with
  |nil=>simp
  |cons a r'=>rw[if_neg (by simp)]
 refine wpAny_binaryOp_repeat_ref (T:="list") (U:="int") (by decide) ⟨_,e,rfl⟩ (λs'=>typeIs_int s' k t) noFill_list_mul F.fills_int_mul F.slot_int_rmul repeat_list F.slot_int_index.lookup
  (call_meets F.slot_int_rmul (typeIs_int s k t) F.entry_int_rmul (F.args_int_rmul_2 _ _) (int___rmul___int_list k t l its.toArray n)
   ⟨e,rfl,⟨_,e,rfl⟩,call_meets F.slot_list_mul ⟨_,e,rfl⟩ F.entry_list_mul (F.args_list_mul_2 _ _) (AutoListH.list___mul___list_int_3 l its.toArray n k t f c b) ⟨e,?_⟩⟩)
 rw[g];exact⟨.ref _,_,I.lnew (t':=s.toks) (r.rep k.toNat) (by rw[len_rep,Nat.mul_comm];exact i),rfl,q _ I.fresh⟩
end
section
variable {A:Around}
end
section
end
end L2
namespace Att
open PySem PySem.W PySem.Calls PyProof.Rows
theorem nU{P:Params}:∀(ns:List Int)(vs:List Value),WellAll P h vs (ns.map WData.int)->IntsAre vs ns:=by
 intro ns
 induction ns with
 |nil =>intro vs w;rw[Nc]at w;cases w;exact .nil
 |cons n ns ih =>
  intro vs w;rw[M5]at w;cases w with
  |cons a b =>cases a;exact .cons _ _ (ih _ b)
theorem Az{l:OpenLaw}(hn:l.most=some n){P:Params}{args:List WData}{vals:List Value}
  (b:l.row.toRowW.claim.pre args=true) (f:WellAll P h vals args) :
  ∃a vs ns,vals=[Value.ref a]/\args=[WData.list (ns.map WData.int)]/\h.get? a=some { cls:=.type "list",data:=.seq vs.toArray }/\IntsAre vs ns/\ns.length<=n:=by
 have g:WShape.hasAll [] args [.list .int]=true:=(pre_splitW b).1;have hc:l.pre.holds [] { args:=args }=true:=(pre_splitW b).2;obtain⟨d,r,rfl,h1,h2⟩:=hasAllW_cons g;obtain rfl:=hasAllW_nil h2;obtain⟨xs,rfl,i⟩:=hasW_list h1;obtain⟨ns,rfl⟩:=items_int i;have hlen:ns.length<=n:=by
  unfold OpenLaw.pre at hc;have c:(WTm.not (.lt (.lit (.int (n:Int))) (.len (.arg 0)))).holds [] { args:=[.list (ns.map .int)] }=true:=by have c:=(holds_andW hc).1;rw[hn]at c;exact c
  have e:=condW_of c (w_not (w_lt w_lit (w_len_list (w_arg rfl))));rw[M4]at e;refine Nat.le_of_not_lt λq=>?_
  have j:(n:Int)<((ns.length:Nat):Int):=by omega
  first
   |(rw[decide_eq_true j]at e;exact absurd e (by decide))
   |(simp at e;omega)
 cases f with
 |cons w1 w2 =>
  cases w2;cases w1 with
  |list ho hall=>exact⟨_,_,ns,rfl,rfl,ho,nU ns _ hall,hlen⟩
theorem AO(l:OpenLaw)(args:List WData):l.row.toRowW.claim.post args (.bool true) args=true :=
 postW_of (r:=l.row.toRowW) (X:=(true==true))
  (show WShape.has [] (.bool true) .bool=true by first|rfl|decide|simp[WShape.has,WShape.arms,WShape.armsAll])
  (show (WTm.eq .res (.lit (.bool true))).value [] { args:=args,res:=some (.bool true),after:=args }=some (.bool (true==true)) from w_eq_bool (w_res rfl) w_lit) rfl
theorem v9{l:OpenLaw}{d:DefRec}
  (hn:l.most=some n) (h:d.params.defaults=[])
  (call:∀(w:World)(s₀ b:Shared)(mg i:Str->Option Value)(c:Addr)(o:Obj)(pm cd doc:Value)(a:Addr)(vs:List Value)(ns:List Int),
   Ground q loose [] XP w s₀ mg i b.heap->YP w b.heap ->
   b.heap.get? c=some o->o.data=.func (docDef d.name d.params d.body d.scope pm cd doc)->b.heap.CodeRec cd d.name->mg d.name=some (.ref c) ->
   b.heap.get? a=some { cls:=.type "list",data:=.seq vs.toArray }->IntsAre vs ns->ns.length<=n->b.gens=#[] ->
   codeAny (model l.prog w) callerA (.call (.ref c) ⟨[.ref a],[]⟩) (λr s'=>r=.ok (.ret (.bool true))/\OldK b.heap s'.heap/\s'.os=b.os/\AllBare s'.gens) b) :
  WalkO q loose XP YP l.row.toRowW d [] (λf vs=>PySem.call f vs):=by
 intro w s₀ b mg i G Y c o pm cd doc t kV u hd j s m v args vals as e hlay hrd p hlo;obtain rfl:t=.none:=Dflts.none s h;obtain rfl:kV=.none:=Dflts.noKw s;obtain⟨a,vs,ns,rfl,rfl,g,hints,hlen⟩:=Az hn e p;refine enter_call (codeAny_mono (call w s₀ b mg i c o pm cd doc a vs ns G Y u (fd_plain hd) j m g hints hlen v) λr s' x=>?_);obtain⟨rfl,h2,y,z⟩:=x;exact⟨.inl ⟨.bool true,.bool true,[],rfl,λ_=>rfl,.bool true,AO l _,λ_=>⟨List.Pairwise.nil,λ_ hm=>(nomatch hm)⟩⟩,h2,y,z⟩
section
variable {A:Around}{K:Frag}
end
end Att
namespace L2
open PySem PySem.Spec PyProof.Rows
theorem sR:∀{vs:List Value}{ns:List Int},IntsAre vs ns->Vals (ns.map V.int) vs
 |_,_,.nil=>.nil
 |_,_,.cons n t h=>.cons ⟨t,rfl⟩ (sR h)
def Iz(H:Hp):Prop:=∀b,H b=none\/(∃o xs,H b=some (.frz o (.lst xs)))\/∃q,H b=some (.tbl q)
def mf(K:W.Frag)(h:Heap):Prop:=(∀P q,TabOf K P q->h.get? P=some { cls:=.none,data:=.fields #[] }/\K.lookup P=none/\isCodeTable h P)/\∀P q a,TabOf K P q->TabOf K P a->q=a
section
open Classical
def kF(K:W.Frag):Hp:=λb=>if h:∃q,TabOf K b q then some (.tbl h.choose) else none
theorem c7(K:W.Frag)(b:Addr):kF K b=none\/∃q,TabOf K b q/\kF K b=some (.tbl q):=by
 unfold kF;split
 ·rename_i h;exact .inr ⟨_,h.choose_spec,rfl⟩
 ·exact .inl rfl
theorem sT(a:mf K h){P:Addr}{q:Str}(t:TabOf K P q):kF K P=some (.tbl q):=by
 rcases c7 K P with e|⟨b,t',e⟩
 ·unfold kF at e;rw[dif_pos ⟨q,t⟩]at e;cases e
 ·rw[e,a.2 P q b t t']
end
def nG(mg:Str->Option Value)(base:Heap):Prop:=∃bm o,mg "__builtins__"=some (.ref bm)/\bm≠builtinsNs/\bm≠mainGlobals/\base.get? bm=some o/\o.cls=.type "module"/\o.dict=some builtinsNs/\o.data=.plain
theorem law_call{N:Str->Option Value}{k:Nat}{O:Addr}{sp:Sp}{c:Shared}{vs:List Value}
  (KX:K.In c.heap) (E:c.heap.Ns mainGlobals mg) (i:c.heap.Ns builtinsNs N) (Q:∀x:Str,x≠"__name__"->N x=bootBuiltins x) (G:c.heap.NoLimit) (hg:c.gens=#[])
  (ha:c.heap.get? a=some { cls:=.type "list",data:=.seq vs.toArray }) (hi:IntsAre vs ns) (hl:ns.length<=sizeLine) (hr:ck k callerA)
  (R:nG mg c.heap) (F:∀base:Heap,K.In base->base.Ns mainGlobals mg->nG mg base->gm P w K mg base CX k O fd [x] sp) (A:∀(s:Shared)(u:Value),BindsTo s fd ⟨[u],[]⟩ [(x,u)])
  (S:∀H:Hp,Iz H->SqL K H a (ns.map V.int)->sp [.ref a] H (λv _=>v=.bl true) λ_ _ _=>False)
  (T:∀H e s',CX [] H c (λ_ _ _=>False) e s'->False) (j:mf K c.heap) :
  codeAny (model P w) callerA (.call (.ref O) ⟨[.ref a],[]⟩) (λr s'=>r=.ok (.ret (.bool true))/\OldK c.heap s'.heap/\s'.os=c.os/\AllBare s'.gens) c:=by
 have rv:=sR hi;have I:=hi.length
 -- from an abstract heap in which nothing but the script may be tracked
 have core:∀H:Hp,Iz H->SqL K H a (ns.map V.int)->HOk P w H c.heap->(∀b,H b≠none->b=a\/∃q,TabOf K b q)->(H a≠none->K.lookup a=none)->(∀P q,TabOf K P q->H P=some (.tbl q)) ->
   codeAny (model P w) callerA (.call (.ref O) ⟨[.ref a],[]⟩) (λr s'=>r=.ok (.ret (.bool true))/\OldK c.heap s'.heap/\s'.os=c.os/\AllBare s'.gens) c:=by
  intro H hO hS hok M hK U;have f:∀{b:Addr}{o:Obj},c.heap.get? b=some o->H b=none->(qH c.heap H).get? b=some o:=λe n=>Ec e n
  have X:∀{b:Addr}{o:Obj}{es:Array DictEntry}{ep:Nat},c.heap.get? b=some o->o.data=.dict es ep->H b=none:=λ{b o es ep} e d=>by
   cases q:H b with
   |none=>rfl
   |some u =>
    rcases M b (by rw[q];simp) with g|⟨B,g⟩
    case inr=>rw[(j.1 b B g).1]at e;cases e;cases d
    subst g;rw[ha]at e;cases e;have d':Data.seq vs.toArray _=Data.dict es ep:=d;cases d'
  have l:∀{b:Addr}{m:Str->Option Value},c.heap.Ns b m->(qH c.heap H).Ns b m:=λ{b m} qz2=>(by obtain⟨o,es,ep,e,d,r⟩:=qz2;exact⟨o,es,ep,f e (X e d),d,r⟩)
  have J:K.In (qH c.heap H):=λb o e=>f (KX b o e) (by
   cases q:H b with
   |none=>rfl
   |some u =>
    rcases M b (by rw[q];simp) with g|⟨B,g⟩
    case inr=>rw[(j.1 b B g).2.1]at e;cases e
    subst g;rw[hK (by rw[q];simp)]at e;cases e)
  have hM:Mod K mg (qH c.heap H):=⟨J,l E,⟨N,l i,Q⟩,let ⟨mc,h1,h2⟩:=G;⟨mc,l h1,h2⟩⟩
  have e0:tG P w K mg (qH c.heap H) callerA [] c H:=⟨rfl,hM,λb o e=>ET e,Nat.le_of_eq (zM _ _),trivial,λb i=>absurd (show b∈([]:List Addr) from i) (by simp),hok,.of_eq hg,U⟩
  have Y:nG mg (qH c.heap H):=by
   obtain⟨bm,ob,b1,b2,b3,L,Z,b6,b7⟩:=R;refine⟨bm,ob,b1,b2,b3,f L ?_,Z,b6,b7⟩;cases q:H bm with
   |none=>rfl
   |some u =>
    rcases M bm (by rw[q];simp) with g|⟨B,g⟩
    case inr=>rw[(j.1 bm B g).1]at L;cases L;cases Z
    subst g;rw[ha]at L;cases L;simp at Z
  refine codeAny_mono ((F _ J (l E) Y).run callerA [] c H ⟨[.ref a],[]⟩ [.ref a] [.ref a] _ _ hr e0 (A c (.ref a)) (.cons rfl .nil) (S H hO hS)) λr s' h=>?_
  cases r with
  |error e=>exact (T H e s' h).elim
  |ok fl =>
   cases fl with
   |next=>exact False.elim h
   |brk=>exact False.elim h
   |cont=>exact False.elim h
   |ret u =>
    obtain⟨v,H',os,bare,un,p,r',q⟩:=h;have q':v=.bl true:=q;subst q';obtain rfl:u=Value.bool true:=r';have old:∀b o,c.heap.get? b=some o->s'.heap.get? b=some o\/(isCodeTable c.heap b/\o.cls=.none/\∃vs more,o.data=.fields vs/\s'.heap.get? b=some { o with data:=.fields (vs++more) }):=λb o e=>?old
    case old =>
     cases q:H b with
     |none=>exact .inl <|un.keep b o e q (by intro z;exact absurd (show b∈([]:List Addr) from z) (by simp)) (by simp)
     |some u =>
      rcases hO b with z|⟨ob,xs,z⟩|⟨B,z⟩
      ·rw[q]at z;cases z
      ·have z2:=un.frzs b ob _ z;obtain⟨e1,_⟩:=hok b _ z;obtain⟨e2,_⟩:=p b _ z2;rw[e]at e1;cases e1;exact .inl e2
      ·have z2:=un.tbls b B z;obtain⟨ps,e2,_⟩:=p b _ z2;rcases M b (by rw[z];simp) with g|⟨q2,g⟩
       ·obtain⟨ps0,D,_⟩:=hok b _ z;rw[g]at D;rw[ha]at D;cases D
       ·obtain⟨D,_,e4⟩:=j.1 b q2 g;rw[e]at D;cases D;exact .inr ⟨e4,rfl,#[],ps,rfl,by simpa using e2⟩
    exact⟨rfl,⟨λb o e=>(old b o e).imp id λz=>.inl z,λb o e=>by rcases old b o e with z|⟨_,_,_,_,_,z⟩ <;> exact⟨_,z⟩⟩,os,bare⟩
 have tok:∀b q,TabOf K b q->cE P w (λ_=>none) c.heap b (.tbl q):=λb q t=>⟨#[],(j.1 b q t).1,trivial,λpos cv z=>nomatch z⟩
 have y:∀(H:Hp) b q,TabOf K b q->cE P w H c.heap b (.tbl q):=λH b q t=>⟨#[],(j.1 b q t).1,trivial,λpos cv z=>nomatch z⟩
 have na:∀q,¬ TabOf K a q:=λq t=>by have:=(j.1 a q t).1;rw[ha]at this;cases this
 cases hk:K.lookup a with
 |some o =>
  have e:=KX a o hk;rw[ha]at e;cases e;refine core (kF K) (λb=>(c7 K b).imp id λC=>(by obtain⟨q,_,e⟩:=C;exact .inr ⟨q,e⟩)) (.inr ⟨_,vs.toArray,_,hk,rfl,rfl,rfl,by rw[Mo,I];exact hl,by simpa using rv⟩) (λb u z=>?_) (λb z=>?_) (λz=>?_) λP q t=>sT j t
  ·rcases c7 K b with e|⟨q,t,e⟩
   ·rw[z]at e;cases e
   ·rw[z]at e;cases e;exact y _ b q t
  ·rcases c7 K b with e|⟨q,t,e⟩
   ·exact absurd e z
   ·exact .inr ⟨q,t⟩
  ·rcases c7 K a with e|⟨q,t,e⟩
   ·exact absurd e z
   ·exact absurd t (na q)
 |none =>
  have eT:∀b,b≠a->(λb=>if b=a then some (HO.frz { cls:=.type "list",data:=.seq vs.toArray } (.lst (ns.map V.int))) else kF K b) b=kF K b:=λb h=>if_neg h
  have eA:(λb=>if b=a then some (HO.frz { cls:=.type "list",data:=.seq vs.toArray } (.lst (ns.map V.int))) else kF K b) a=some (HO.frz { cls:=.type "list",data:=.seq vs.toArray } (.lst (ns.map V.int))):=if_pos rfl;refine core (λb=>if b=a then some (.frz { cls:=.type "list",data:=.seq vs.toArray } (.lst (ns.map V.int))) else kF K b) (λb=>?_) (.inl (.inr ⟨{ cls:=.type "list",data:=.seq vs.toArray },if_pos rfl⟩)) (λb u z=>?_) (λb z=>?_) (λ_=>hk) λP q t=>?_
  ·by_cases i:b=a
   ·exact .inr (.inl ⟨_,_,if_pos i⟩)
   ·rw[eT b i];exact (c7 K b).imp id λC=>(by obtain⟨q,_,e⟩:=C;exact .inr ⟨q,e⟩)
  ·by_cases i:b=a
   ·subst i;rw[eA]at z;cases z;exact⟨ha,by rw[M4];exact hl,vs,_,rv,ha⟩
   ·rw[eT b i]at z;rcases c7 K b with e|⟨q,t,e⟩
    · rw[z]at e;cases e
    · rw[z]at e;cases e;exact y _ b q t
  ·by_cases i:b=a
   ·exact .inl i
   ·rcases c7 K b with e|⟨q,t,e⟩
    · exact absurd ((if_neg i).trans e) z
    · exact .inr ⟨q,t⟩
  ·exact (if_neg (λz=>na q (by rw[<-z];exact t))).trans (sT j t)
abbrev KOf{K:W.Frag}{h:Heap}(_:K.In h):W.Frag:=K
theorem yR{l:W.OpenLaw}{k:Nat}{d:DefRec}{K:Params->W.Frag}{CX:World->CXT}{sp:World->Sp}
  (hn:l.most=some n) (r:n<=sizeLine) (t:d.params.defaults=[]) (I:ck k callerA)
  (J:∀(w:World)(h:Heap),YP w h->(K w.params).In h)
  (F:∀(w:World)(mg:Str->Option Value)(p:Addr)(h:Heap),(K w.params).In h->h.Ns mainGlobals mg->mg d.name=some (.ref p) ->
   ∃fd:FuncData,(∀(s:Shared)(u:Value),BindsTo s fd ⟨[u],[]⟩ [(x,u)]) /\
    ∀base:Heap,(K w.params).In base->base.Ns mainGlobals mg->nG mg base->gm l.prog w (K w.params) mg base (CX w) k p fd [x] (sp w))
  (y:∀(w:World)(H:Hp)(a:Addr)(ns:List Int),ns.length<=n->Iz H->SqL (K w.params) H a (ns.map V.int)->sp w [.ref a] H (λv _=>v=.bl true) λ_ _ _=>False)
  (A:∀(w:World)(H:Hp)(s:Shared)(e:Value)(s':Shared),CX w [] H s (λ_ _ _=>False) e s'->False) (B:∀(w:World)(h:Heap)(c:List Str)(i:ExcName->Option Value)(mg E:Str->Option Value),PyProof.Rows.Top q c i mg E h->(K w.params).In h->mf (K w.params) h) :
  W.WalkO q loose XP YP l.row.toRowW d [] (λf vs=>PySem.call f vs):=by
 refine Att.v9 hn t λw s₀ j mg E p o pm cd doc a vs ns G Y ho hd hcd C m hints hlen L=>?_
 have D:=J w _ Y;obtain⟨fd,N,O⟩:=F w mg p _ D G.T.g C;exact law_call D G.T.g G.T.b G.T.builtins G.T.nolimit L m hints (N5 hlen r) I (by obtain⟨bm,ob,M⟩:=W.bmod_of_top G.T;exact⟨bm,ob,M.name,M.ne,(λz=>by obtain⟨o,es,ep,e1,e2,_⟩:=M.ns;rw[<-z,M.obj]at e1;cases e1;rw[M.data]at e2;cases e2),M.obj,M.cls,M.dict,M.data⟩) O N (λH P Q=>y w H a ns hlen P Q) (λH e s'=>A w H j e s') (B w _ _ _ _ _ G.T D)
def inClass(s:Stmt)(j:Nat):Stmt:=match s with
 |.ClassDef _ _ _ body _ _ _ _ _ _ _=>body.getD j (.Pass ⟨0,0,0,0⟩)
 |_=>.Pass ⟨0,0,0,0⟩
def fg(s:Stmt):Arguments:=match s with
 |.FunctionDef _ a _ _ _ _ _ _ _ _=>a
 |_=>{ posonlyargs:=[],args:=[],vararg:=none,kwonlyargs:=[],kw_defaults:=[],kwarg:=none,defaults:=[] }
def b0(s:Stmt):List Stmt:=match s with
 |.FunctionDef _ _ b _ _ _ _ _ _ _=>b
 |_=>[]
def aC(s:Stmt):Scope:=match s with
 |.FunctionDef _ _ _ _ _ _ sc _ _ _=>sc
 |_=>{ kind:=.function,names:=[],isGenerator:=false,isCoroutine:=false }
abbrev CX0:CXT:=λ_ _ _ _ _ _=>False
abbrev E0:XK:=λ_ _ _=>False
theorem J6:Passes CX0 X E0:=λ_ _ _ _ _ _ _ h=>h.elim
structure Fun(K:W.Frag)(x qual:Str)(st:Stmt)(f:Addr)(fd:FuncData):Prop where
 ex:∃(oc:Value)(od:Option Addr)(kV doc pm:Value)(an:Option Addr)(cdv ct:Value)(osl:Array (Option Value)),
  fd=W.fnOf x qual (fg st) (b0 st) (aC st) .none kV doc pm an cdv ct/\K.lookup f=some ⟨oc,od,.func fd,osl⟩/\W.codeIn K cdv qual=true
 kp:W.keepIn K (.ref f)=true
section
theorem Fun.ok{k:Nat}{sp:Sp}(F:Fun K x qual st f fd)(S:cT N ps (aC st))(len:∀vs H Q E,sp vs H Q E->vs.length=ps.length)
  (a:∀(cdv:Value)(A:Around)(outer:List Env)(s:Shared)(H:Hp)(vs:List V)(Q:VK)(E:XK),ck k (A.deeper (envOfC qual (aC st) s.heap.objs.size f cdv))->sp vs H Q E ->
   ∃t,PSs (cZ CX0 P w K mg base N qual (aC st) f cdv A outer s H E).nox (b0 st) t/\t { nx:=λ_ H'=>Q .non H',rt:=Q } (start N vs) H):gm P w K mg base CX0 (k+1) f fd ps sp:=by
 obtain⟨oc,od,kV,doc,pm,an,cdv,ct,osl,rfl,e,b⟩:=F.ex;refine Dr e b S len λA outer s H vs Q E g c=>?_
 obtain⟨t,h,q⟩:=a cdv A outer s H vs Q E g c;exact⟨t,h.nox,q⟩
theorem Fun.binds(F:Fun K x qual st f fd)
  (h:∀(kV doc pm:Value)(an:Option Addr)(cdv ct:Value)(us:List Value),us.length=ps.length->bindArgs (W.fnOf x qual (fg st) (b0 st) (aC st) .none kV doc pm an cdv ct) ⟨us,[]⟩=pure (ps.zip us)):Binds K fd ps []:=by
 obtain⟨oc,od,kV,doc,pm,an,cdv,ct,osl,rfl,lk,hcd⟩:=F.ex;exact .all (h kV doc pm an cdv ct)
theorem wM{kV doc cdv:Value}(l:K.lookup f=some ⟨oc,od,.func (W.fnOf x qual (fg st) (b0 st) (aC st) .none kV doc pm an cdv ct),osl⟩)
 (c:W.codeIn K cdv qual=true) (k:W.keepIn K (.ref f)=true):Fun K x qual st f (W.fnOf x qual (fg st) (b0 st) (aC st) .none kV doc pm an cdv ct):=⟨⟨oc,od,kV,doc,pm,an,cdv,ct,osl,rfl,l,c⟩,k⟩
end
section
theorem pv(i:Nat)(b:X.N[i]?=some x:=by rfl)(hv:Vis X.env.scope x:=by first|exact Or.inl rfl|exact Or.inr (Or.inl rfl)|exact Or.inr (Or.inr rfl))(hd:(x==("__debug__":Str))=false:=by decide)
 (a:(x==("__classdict__":Str))=false:=by decide):PE X (.Name x pos) (Kb i):=i7 b hv hd a
end
theorem KD{c A B:Prop}[Decidable c](h1:c->A)(h2:¬ c->B):if c then A else B:=by
 by_cases h:c
 ·rw[if_pos h];exact h1 h
 ·rw[if_neg h];exact h2 h
def av(H H':Hp):Prop:=∀b o,H b=some o->H' b=some o
theorem av.refl(H:Hp):av H H:=λ_ _ h=>h
theorem av.trans{H2:Hp}(a:av H H1)(b:av H1 H2):av H H2:=λc o h=>b c o (a c o h)
theorem av.free(e:av H H'){l:Addr}(h:H' l=Option.none):H l=Option.none:=by
 cases q:H l with
 |none=>rfl
 |some o =>rw[e l o q]at h;cases h
theorem av.seq(e:av H H')(h:SqL K H a xs):SqL K H' a xs:=by
 rcases h with (h|⟨o,h⟩)|h
 ·exact .inl (.inl (e _ _ h))
 ·exact .inl (.inr ⟨o,e _ _ h⟩)
 ·exact .inr h
end L2
set_option maxHeartbeats 4000000
namespace L2
open PySem PySem.Spec PyProof.Rows
variable {es:List Expr}{g:TG}{f:PyData->PyData->Option PyData}{t:List V->Hp->Prop}{E:XK}
def sE(CX:CXT)(P:Program)(w:World)(K:W.Frag)(mg:Str->Option Value)(base:Heap)(N:List Str)(qual:Str)(scope:Scope)(f:Addr)(cd:Value)(cl:List (Str×Addr))(A:Around)(outer:List Env)(s:Shared)(H:Hp)(E:XK):Cx where
 prog:=P
 w:=w
 K:=K
 mg:=mg
 base:=base
 A:=A.deeper (W.envX qual scope s.heap.objs.size f cd cl)
 N:=N
 s₀:=s
 H₀:=H
 env:=W.envX qual scope s.heap.objs.size f cd cl
 outer:=outer
 stack:=W.envX qual scope s.heap.objs.size f cd cl::outer
 ex:=[]
 calm:=true
 fn:=λ_=>false
 pn:=[]
 xe:=λe s'=>wpAny (model P w) (A.deeper (W.envX qual scope s.heap.objs.size f cd cl)) (leaving (W.envX qual scope s.heap.objs.size f cd cl) e) (λ_ a=>CX outer H s E e a) (λb a=>CX outer H s E b a) s'
theorem sJ{α:Type}{y:Str}{u:α}:∀{l:List (Str×α)},(l.map (·.1)).Nodup->(y,u)∈l->l.lookup y=some u
 |[],_,h=>by cases h
 |(z,w)::l,nd,h=>by
  rw[MB];rw[M5,MG]at nd;rcases M8.mp h with h|h
  ·cases h;simp
  ·have m:y∈l.map (·.1):=O5 (f:=(·.1)) h;have:y≠z:=λq=>nd.1 (by subst q;exact m)
   rw[show (y==z)=false by simpa using this];exact sJ nd.2 h
theorem zU{y:Str}{u:α}{us:List α}(nd:ps.Nodup)(hl:us.length=ps.length)(h1:ps[i]?=some y)(h2:us[i]?=some u):(ps.zip us).reverse.lookup y=some u:=by
 refine sJ ?_ ?_
 ·rw[List.map_reverse,List.map_fst_zip (by omega)];exact (List.reverse_perm ps).symm.nodup nd
 ·rw[List.mem_reverse];refine MS (i:=i) ?_;rw[List.getElem?_zip_eq_some];exact⟨h1,h2⟩
structure l9(N ps:List Str)(sc:Scope):Prop where
 kind:sc.kind=.function
 co:sc.isCoroutine=false
 gen:sc.isGenerator=false
 nd:N.Nodup
 pre:N.take ps.length=ps
 par:∀x∈ps,sc.names.lookup x=some .local
 nocell:∀x∈sc.names,x.2≠.cell
structure Ji(s:Shared)(H:Hp)(cl:List (Str×Addr))(sc:Scope)(N:List Str)(n:Nat)(ws:List (Option V)):Prop where
 inj:∀x y c,cl.lookup x=some c->cl.lookup y=some c->x=y
 has:∀x,sc.names.lookup x=some .free->∃c,cl.lookup x=some c
 cell:∀x c,cl.lookup x=some c->∃v,s.heap.IsCell c v
 free:∀x c,cl.lookup x=some c->H c=none
 len:N.length=n+ws.length
 val:∀(i:Nat)(x:Str)(v:V),N[n+i]?=some x->ws[i]?=some (some v)->∃u c,RelV v u/\sc.names.lookup x=some .free/\cl.lookup x=some c/\s.heap.IsCell c (some u)
theorem F3{f:Addr}{A:Around}{h1:Heap}{tk:Nat}
  (S:l9 N ps scope) (hd:A.handled=none) (g:tG P w K mg base A outer s H) (hl:vs.length=ps.length) (r:Vals vs us) (C:Ji s H cl scope N ps.length ws)
  (t:h1.Ns s.heap.objs.size (λx=>(ps.zip us).reverse.lookup x)) (B:∀b o,s.heap.get? b=some o->h1.get? b=some o) :
  Inv (sE CX P w K mg base N qual scope f cd cl A outer s H E) [] (vs.map some++ws) H { s with heap:=h1,toks:=tk }:=by
 have j:∀b:Addr,b∉(sE CX P w K mg base N qual scope f cd cl A outer s H E).ex:=λb z=>absurd (show b∈([]:List Addr) from z) (by simp)
 have G:∀c v,s.heap.IsCell c v->h1.IsCell c v:=λc v q=>by obtain⟨o,e,d⟩:=q;exact⟨o,B _ _ e,d⟩
 refine⟨⟨g.mod,S.kind,rfl,rfl,Me _,λy z c h1 h2=>C.inj y z c h1 h2,λy m=>?_,λy c z _=>(by cases z),λ_=>hd,Around.frames_deeper g.frames,.inr ⟨rfl,rfl⟩,λb z=>absurd z (j b),g.bs,g.bsz,λb _ _=>j b,λb z=>absurd z (j b),g.funs,g.frf⟩,
  rfl,g.bare,Un.kept B,⟨_,t,λi y v h1 h2 h3=>?_⟩,λy c h=>?_,g.hok.fresh (Me _),λy c h=>C.free y c h,λp n=>absurd (show p∈([]:List (Addr×Obj)) from n) (by simp),g.hok.kept B,?_,g.tab⟩
 ·have m:scope.names.lookup y=some .cell\/scope.names.lookup y=some .free:=m;rcases m with m|m
  ·exact absurd rfl (S.nocell _ (PySem.mem_of_lookup m))
  ·exact C.has y m
 ·have h1:N[i]?=some y:=h1;by_cases hi:i<vs.length
  ·have ha:vs[i]?=some v:=by
    rw[Mz (by simpa using hi),Mc]at h2;cases e:vs[i]? with
    |none=>rw[e]at h2;cases h2
    |some a=>rw[e]at h2;cases h2;rfl
   obtain⟨u,I,D⟩:=r.get ha;have n:ps[i]?=some y:=by rw[<-S.pre,List.getElem?_take_of_lt (by omega)];exact h1
   have F:ps.Nodup:=by rw[<-S.pre];exact S.nd.sublist (List.take_sublist _ _)
   refine⟨u,D,.inl ⟨S.par y (MS n),?_⟩⟩;exact zU F (by rw[<-r.length,hl]) n I
  ·rw[MD (by simpa using hi),M4]at h2;have e:N[ps.length+(i-vs.length)]?=some y:=by rw[<-hl,Nat.add_sub_cancel' (by omega)];exact h1
   obtain⟨u,c,D,k,l,q⟩:=C.val _ _ _ e h2;exact⟨u,D,.inr ⟨.inr k,c,l,G _ _ q⟩⟩
 ·obtain⟨v,q⟩:=C.cell y c h;exact⟨v,G _ _ q⟩
 ·show _=N.length;rw[Mr,M4,hl,C.len]
theorem GR{k:Nat}{name:Str}{f c':Addr}{h:Value}{A:Around}{Q:VK}{t:TE}
  (S:l9 N ps scope) (x:ck (k+1) A) (l:tG P w K mg base A outer s H) (hl:vs.length=ps.length) (r:Vals vs us) (C:Ji s H cl scope N ps.length ws)
  (z:s.heap.get? f=some (W.kla_obj name qual params body scope cl pm c' h)) (m:s.heap.CodeRec (.ref c') qual)
  (B:bindArgs (W.kla_fn name qual params body scope cl pm (.ref c') h) ⟨us,[]⟩=pure (ps.zip us))
  (c:PE (sE CX P w K mg base N qual scope f (.ref c') cl A outer s H E) body t) (D:t (vs.map some++ws) H Q) :
  codeAny (model P w) A (.call (.ref f) ⟨us,[]⟩) (CR CX outer P w H s Q E) s:=by
 have lim:s.heap.NoLimit:=l.mod.nolimit.keeps λb o e=>(l.bs b o e).1
 refine W.kla_callFunE x.depth z rfl S.co S.gen rfl m ?_;rw[B];refine wpAny_pure (wpAny_newFunctionEnv S.nocell (λy F=>S.par y.1 (NO (a:=y.1) (b:=y.2) F).1) (λi n j=>⟨lim.fresh _ j,?_⟩) S.kind);have g:∀b o,s.heap.get? b=some o->i.get? b=some o:=λb o e=>j.extBut b o (Mf (Mg e)) (M3 _ e)
 have I:=F3 (CX:=CX) (qual:=qual) (f:=f) (cd:=.ref c') (E:=E) (tk:=s.toks+(ps.zip us).length) S x.hd l hl r C n g;exact W.kla_codeExpr (wpAny_mono (c [] _ _ H Q I D) (λu s' p=>(by obtain⟨v,H',J,G,q⟩:=p;exact⟨v,H',J.os,J.bare,J.base,J.hok,G,q⟩)) λ_ _ y=>y)
def mZ:List (Str×NameKind)->List (Str×Addr)->List (Str×Addr)->List (Str×Addr)
 |[],_,acc=>acc
 |(n,k)::r,cells,acc=>mZ r cells (if k==.free then (match cells.lookup n with|some c=>(n,c)::acc|none=>acc) else acc)
theorem i4(env:Env):∀(names:List (Str×NameKind))(acc:List (Str×Addr)),(∀y∈names,y.2=.free->∃c,env.cells.lookup y.1=some c) ->
  (forIn names acc (λ(x:Str×NameKind)(cs:List (Str×Addr))=>match x with
   | (name,kind)=>if (kind==NameKind.free)=true then do let c <-cellOf env name;pure (ForInStep.yield ((name,c)::cs)) else pure (ForInStep.yield cs)):Sem (List (Str×Addr)))=pure (mZ names env.cells acc)
 |[],acc,_=>rfl
 |(n,k)::r,acc,h=>by
  rw[NP];have b:∀y∈r,y.2=.free->∃c,env.cells.lookup y.1=some c:=λy g=>h y (M6 _ g)
  dsimp only[mZ];by_cases hk:k=.free
  ·subst hk;obtain⟨c,hc⟩:=h (n,.free) M7 rfl;have a:env.cells.lookup n=some c:=hc;have e:cellOf env n=pure c:=by unfold cellOf;rw[a]
   rw[if_pos (show (NameKind.free==NameKind.free)=true by decide),if_pos (show (NameKind.free==NameKind.free)=true by decide),e,a];exact i4 env r ((n,c)::acc) b
  ·have f:¬ (k==NameKind.free)=true:=by simpa using hk
   rw[if_neg f,if_neg f];exact i4 env r acc b
theorem jd(h:∀y∈scope.names,y.2=.free->∃c,env.cells.lookup y.1=some c):closureFor scope env=pure (mZ scope.names env.cells []):=by have e:=i4 env scope.names [] h;unfold closureFor;rw[<-bind_pure (forIn scope.names [] _)]at e;exact e
theorem qj:∀(names:List (Str×NameKind))(cells acc:List (Str×Addr))(x:Str)(c:Addr),(∀x c,acc.lookup x=some c->cells.lookup x=some c)->(mZ names cells acc).lookup x=some c->cells.lookup x=some c
 |[],_,_,x,c,h,e=>h x c e
 |(n,k)::r,cells,acc,x,c,h,e=>by
  refine qj r cells _ x c (λy d a=>?_) e;split at a
  ·split at a
   ·rename_i c' b;rw[MB]at a;by_cases hyn:(y==n)=true
    ·rw[hyn]at a;have f:y=n:=eq_of_beq hyn;subst f;cases a;exact b
    ·have:(y==n)=false:=by simpa using hyn
     rw[this]at a;exact h y d a
   ·exact h y d a
  ·exact h y d a
theorem sU:∀(names:List (Str×NameKind))(cells acc:List (Str×Addr))(x:Str),(∃c,acc.lookup x=some c)->∃c,(mZ names cells acc).lookup x=some c
 |[],_,_,_,h=>h
 |(n,k)::r,cells,acc,x,h=>by
  refine sU r cells _ x ?_;split
  ·split
   ·rw[MB];cases (x==n)
    ·exact h
    ·exact⟨_,rfl⟩
   ·exact h
  ·exact h
theorem k6:∀(names:List (Str×NameKind))(cells acc:List (Str×Addr))(x:Str)(c:Addr),(x,NameKind.free)∈names->cells.lookup x=some c->∃c,(mZ names cells acc).lookup x=some c
 |[],_,_,_,_,h,_=>by simp at h
 |(n,k)::r,cells,acc,x,c,h,e=>by
  rcases M8.mp h with h|h
  ·injection h with h1 h2
   subst h1;subst h2;refine sU r cells _ x ?_;rw[if_pos (by decide),e];exact⟨c,by simp[MB]⟩
  ·exact k6 r cells _ x c h e
def blk(X:Cx)(M:List Str)(scope:Scope)(own:List Str)(C:Addr)(s2:Shared)(H2:Hp)(fp:List Addr):Cx where
 prog:=X.prog
 w:=X.w
 K:=X.K
 mg:=X.mg
 base:=X.base
 A:=X.A
 N:=M++own
 s₀:=s2
 H₀:=H2
 env:=compEnvC scope (mZ scope.names X.env.cells []) C X.env
 outer:=X.stack
 stack:=X.stack
 ex:=fp
 fn:=λ_=>false
 calm:=X.calm
 pn:=[]
 xe:=λ_ _=>False
structure jC(X:Cx)(M:List Str)(scope:Scope)(own:List Str):Prop where
 kind:scope.kind=.function
 nocell:∀y∈scope.names,y.2≠.cell
 names:∀y∈scope.names,y.2=.local->scope.names.lookup y.1=some .local
 free:∀y∈scope.names,y.2=.free->Vis X.env.scope y.1/\X.env.scope.names.lookup y.1≠some .local
 own:∀x∈own,scope.names.lookup x=some .local
 outer:∀p∈X.N.zip M,(p.1=p.2/\scope.names.lookup p.2≠some .local)\/scope.names.lookup p.2=none
 len:M.length=X.N.length
def rp(N M:List Str)(a scope:Scope)(own:List Str):Bool :=
 (scope.kind==.function)&&scope.names.all (λy=>y.2 != .cell)&&scope.names.all (λy=>y.2 != .local||scope.names.lookup y.1==some .local) &&
 scope.names.all (λy=>y.2 != .free||(a.names.lookup y.1==some .cell||a.names.lookup y.1==some .free)) &&
 own.all (λx=>scope.names.lookup x==some .local)&&(N.zip M).all (λp=>(p.1==p.2&&scope.names.lookup p.2 != some .local)||scope.names.lookup p.2==none)&&(M.length==N.length)
theorem jC.of(h:rp X.N M X.env.scope scope own=true):jC X M scope own:=by
 unfold rp at h;simp only[Mm,Mu,Bool.or_eq_true,bne_iff_ne,beq_iff_eq,ne_eq]at h;obtain⟨⟨⟨⟨⟨⟨h1,h2⟩,b⟩,c⟩,f⟩,g⟩,i⟩:=h;refine⟨h1,h2,λy a e=>(b y a).resolve_left λz=>z e,λy a e=>?_,f,g,i⟩;rcases (c y a).resolve_left λz=>z e with q|q
 ·exact⟨.inr (.inl q),by rw[q];intro z;cases z⟩
 ·exact⟨.inr (.inr q),by rw[q];intro z;cases z⟩
theorem dY{env:Env}:∀{names:List (Str×NameKind)}{x:Str}{k:NameKind},
  (names.map λ(n,k)=>if (k==NameKind.free&&env.scope.kind==.function&&env.kindOf n==some .cell) then (n,NameKind.cell) else (n,k)).lookup x=some k->(k=.cell\/k=.free)->(∀y∈names,y.2≠.cell)->(x,NameKind.free)∈names
 |[],_,_,h,_,_=>by simp at h
 |(n,k')::r,x,k,h,a,hn=>by
  have b:∀y∈r,y.2≠NameKind.cell:=λy c=>hn y (M6 _ c)
  rw[M5,MB]at h;by_cases hc:(k'==NameKind.free&&env.scope.kind==.function&&env.kindOf n==some .cell)=true
  ·have f:k'=.free:=by have:=hc;simp only[Mm]at this;exact eq_of_beq this.1.1
   simp only[if_pos hc]at h;cases hx:x==n with
   |true =>have:x=n:=eq_of_beq hx;subst this;subst f;exact M7
   |false =>rw[hx]at h;exact M6 _ (dY h a b)
  ·simp only[if_neg hc]at h;cases hx:x==n with
   |true =>
    rw[hx]at h;have e:k'=k:=Option.some.inj h;have:x=n:=eq_of_beq hx;subst this;subst e;rcases a with a|a
    ·exact absurd a (hn _ M7)
    ·subst a;exact M7
   |false =>rw[hx]at h;exact M6 _ (dY h a b)
theorem dW{env:Env}:∀{names:List (Str×NameKind)}{x:Str}{k:NameKind},
  (names.map λ(n,k)=>if (k==NameKind.free&&env.scope.kind==.function&&env.kindOf n==some .cell) then (n,NameKind.cell) else (n,k)).lookup x=some k->(∃k0,names.lookup x=some k0/\(k=k0\/(k=.cell/\k0=.free)))
 |[],_,_,h=>by simp at h
 |(n,k')::r,x,k,h=>by
  rw[M5,MB]at h;rw[MB];by_cases hc:(k'==NameKind.free&&env.scope.kind==.function&&env.kindOf n==some .cell)=true
  ·have a:k'=.free:=by have:=hc;simp only[Mm]at this;exact eq_of_beq this.1.1
   simp only[if_pos hc]at h;cases hx:x==n with
   |true =>rw[hx]at h;exact⟨k',rfl,.inr ⟨(Option.some.inj h).symm,a⟩⟩
   |false =>rw[hx]at h;exact dW h
  ·simp only[if_neg hc]at h;cases hx:x==n with
   |true =>rw[hx]at h;exact⟨k',rfl,.inl (Option.some.inj h).symm⟩
   |false =>rw[hx]at h;exact dW h
section
variable {H2:Hp}{s2:Shared}
theorem Inv.blk{h1:Heap}{t':Nat}(I:Inv X pins σ H2 s2)(B:jC X M scope own)(H:∀b∈fp,oZ X pins H2 b)(J:∀b∈fp,b<s2.heap.objs.size)
  (A:D=s2.heap.objs.size) (G:C=s2.heap.objs.size+1) (hl:h1.get? D=some { cls:=.type "list",data:=.seq ([]:List Value).toArray 0 })
  (hn:h1.Ns C (λ_=>none)) (g:∀b o,s2.heap.get? b=some o->h1.get? b=some o) :
  Inv (L2.blk X M scope own C s2 H2 fp) [] (σ++List.replicate own.length none) (upd H2 D (.lst [])) { s2 with heap:=h1,toks:=t' }:=by
 have a:∀x c,(mZ scope.names X.env.cells []).lookup x=some c->X.env.cells.lookup x=some c:=λx c e=>qj _ _ _ _ _ (λ_ _ z=>by simp at z) e
 have K:∀x c,(mZ scope.names X.env.cells []).lookup x=some c->c<s2.heap.objs.size:=λx c e=>by obtain⟨v,q⟩:=I.cell x c (a x c e);exact q.lt
 have n:H2 D=none:=I.hok.fresh (by rw[A];exact Me _);have freeC:H2 C=none:=I.hok.fresh (by rw[G];exact NF _);have L:C≠D:=by rw[G,A];exact Oc _
 have W:Un (frs X.stack) fp H2 (upd H2 D (.lst [])) s2.heap h1:=Un.laid g (by rw[A];exact Me _) n;refine⟨⟨I.ok.mod,?_,I.ok.glob,I.ok.blt,?_,?_,?_,?_,I.ok.hd,I.ok.frames,.inl rfl,?_,I.bs,N5 I.ok.bsz I.sz,?_,?_,I.stack,I.stkFree⟩,rfl,I.bare,W,?_,?_,?_,?_,?_,?_,?_,λP q t=>W.tbls P q (I.tab P q t)⟩
 ·exact B.kind
 ·show s2.heap.objs.size<=C;rw[G];exact NF _
 ·intro x y c e1 e2;exact I.ok.inj x y c (a x c e1) (a y c e2)
 ·intro x h;have hm:(x,NameKind.free)∈scope.names:=by
   rcases h with h|h
   ·exact dY h (.inl rfl) B.nocell
   ·exact dY h (.inr rfl) B.nocell
  obtain⟨hv,s⟩:=B.free _ hm rfl;have hh:X.env.kindOf x=some .cell\/X.env.kindOf x=some .free:=by
   rcases hv with z|z|z
   ·exact absurd z s
   ·exact .inl z
   ·exact .inr z
  obtain⟨c,e⟩:=I.ok.has x hh;exact k6 _ _ _ x c hm e
 ·intro x c O _;exact absurd (show false=true from O) (by decide)
 ·intro b w;refine⟨?_,λx c e z=>?_⟩
  ·show b≠C;rw[G];exact Mf (ML (J b w))
  ·exact (H b w).2.2.2.2.1 x c (a x c e) z
 ·intro b o e w;obtain⟨_,_,_,f3,_⟩:=H b w;rcases f3 with z|z
  ·exact I.ok.noex b o e z
  ·exact absurd (Mq (Mg (I.ok.bs b o e).1) z) (Nn _)
 ·intro b w hs;obtain⟨_,f1,f2,_⟩:=H b w;rcases M8.mp (I.stkSub b hs) with z|z
  ·exact f1 z
  ·exact f2 z
 ·refine⟨_,hn,λi x v e1 e2 Y=>?_⟩;have hi:i<σ.length:=by
   by_cases hi:i<σ.length
   ·exact hi
   ·rw[MD (by omega),NU]at e2;split at e2 <;> cases e2
  rw[Mz hi]at e2;have E:i<X.N.length:=by rw[<-I.len];exact hi
  have Q:i<M.length:=by rw[B.len];exact E
  have R:M[i]?=some x:=by
   have:(M++own)[i]?=some x:=e1
   rwa[Mz Q]at this
  obtain⟨y,Z⟩:∃y,X.N[i]?=some y:=⟨_,M1 E⟩
  have hz:(y,x)∈X.N.zip M:=MS (i:=i) (by rw[List.getElem?_zip_eq_some];exact⟨Z,R⟩);have S:∃k,scope.names.lookup x=some k:=by
   rcases Y with z|z|z
   ·obtain⟨k0,f,_⟩:=dW (show _=some NameKind.local from z);exact⟨k0,f⟩
   ·obtain⟨k0,f,_⟩:=dW (show _=some NameKind.cell from z);exact⟨k0,f⟩
   ·obtain⟨k0,f,_⟩:=dW (show _=some NameKind.free from z);exact⟨k0,f⟩
  have j:y=x/\scope.names.lookup x≠some .local:=by
   rcases B.outer _ hz with q|q
   ·exact q
   ·obtain⟨k,g⟩:=S;rw[q]at g;cases g
  have T:X.N[i]?=some x:=by rw[<-j.1];exact Z
  have h:(relabel scope X.env).names.lookup x=some .cell\/(relabel scope X.env).names.lookup x=some .free:=by
   rcases Y with z|z
   ·obtain⟨k0,f,g⟩:=dW (show _=some NameKind.local from z);rcases g with g|⟨g,_⟩
    ·subst g;exact absurd f j.2
    ·cases g
   ·exact z
  have hm:(x,NameKind.free)∈scope.names:=by
   rcases h with h|h
   ·exact dY h (.inl rfl) B.nocell
   ·exact dY h (.inr rfl) B.nocell
  obtain⟨hv,s⟩:=B.free _ hm rfl;obtain⟨m,_,U⟩:=I.loc;obtain⟨u,r,l⟩:=U i x v T e2 hv;refine⟨u,r,.inr ⟨h,?_⟩⟩;rcases l with⟨z,_⟩|⟨_,c,hc,z⟩
  ·exact absurd z s
  ·obtain⟨c',F⟩:=k6 scope.names X.env.cells [] x c hm hc;have:=a x c' F;rw[hc]at this;cases this;exact⟨c,F,z.keeps g⟩
 ·intro x c e;obtain⟨v,q⟩:=I.cell x c (a x c e);exact⟨v,q.keeps g⟩
 ·show upd H2 D (.lst []) C=none;rw[aB L];exact freeC
 ·intro x c e;have h1:=K x c e;rw[aB (by rw[A];exact Mf h1)];exact I.freeC x c (a x c e)
 ·intro p hp;exact absurd (show p∈([]:List (Addr×Obj))++[] from hp) (by simp)
 ·exact I.hok.laid g (by rw[A];exact Me _) ⟨MR _,[],0,.nil,hl⟩
 ·show (σ++List.replicate own.length none).length=(M++own).length;rw[Mr,Mr,List.length_replicate,I.len,B.len]
theorem Inv.unblk{a:St}(I:Inv X pins σ H2 s2)(i:∀b∈fp,oZ X pins H2 b)(f:s2.heap.objs.size<=C)
  (J:Inv (L2.blk X M scope own C s2 H2 fp) [] a H' s') (j:Heap.SameBut C s'.heap h'):Inv X pins σ H' { s' with heap:=h' }:=by
 have h:H' C=none:=J.free;have k:∀b o,b≠C->s'.heap.get? b=some o->h'.get? b=some o:=λb o g e=>(j.2 b g).trans e
 have old:∀b o,s2.heap.get? b=some o->b≠C:=λb o e=>Mf (Mq (Mg e) f)
 have u:Un (frs X.stack) fp H2 H' s2.heap s'.heap:=J.base;refine I.call' (s':={ s' with heap:=h' }) (ch:=fp) J.os ?_ ?_ J.bare λb g=>?_
 ·refine⟨λb o e n h1 h2=>k b o (old b o e) (u.keep b o e n h1 h2),λb o e n h1 h2=>?_,u.free,λb o e h1=>?_,u.tups,u.frzs,u.tbls⟩
  ·obtain⟨l,q⟩:=u.slot b o e n h1 h2;exact⟨l,k b _ (old b o e) q⟩
  ·obtain⟨o',q⟩:=u.there b o e h1;exact⟨o',k b o' (old b o e) q⟩
 ·intro b o e;refine (J.hok b o e).stay (λc v hc q=>k c v ?_ q) (λ_ q=>q) λ_ _ q=>q
  rintro rfl
  rcases hc with z|z
  ·subst z;rw[h]at e;cases e
  ·rw[h]at z;cases z
 ·obtain⟨f0,f1,f2,m,p,r⟩:=i b g;exact⟨m,f1,p,r⟩
end
section
variable {A:Around}{R:Result->Shared->Prop}
theorem tw{target:Expr}{it acc:Value}(I:Nat->Shared->Prop)
  (turn:∀n s,I n s->wpAny (model prog w) A (pyNext it) (λr a=>match r with
   |none=>R (.ok .next) a
   |some v=>wpAny (model prog w) A (letOwnedTupleGo target it v) (λ_ l=>wpAny (model prog w) A (assign target env v) (λ_ e =>
    wpAny (model prog w) A (forIn ifs true λc r=>if r=true then do let ok <-isTrue c env (eval c env);pure (ForInStep.yield ok) else pure (ForInStep.yield r)) (λok b =>
     if ok=true then wpAny (model prog w) A (eval elt env) (λx f =>
      wpAny (model prog w) A (call (.builtin "list.append") [acc,x]) (λ_ g=>∃m,m<n/\I m g) (λ_ _=>False) f) (λ_ _=>False) b
     else ∃m,m<n/\I m b) (λ_ _=>False) e) (λ_ _=>False) l) (λ_ _=>False) a) (λ_ _=>False) s)
  (n:Nat) (h:I n s) :
  codeAny (model prog w) A (.compLoop (.ListComp elt [⟨target,iter,ifs,0⟩] scope pos) 0 it acc env) R s:=by
 refine codeAny_loop rfl I (λn s u=>?_) n h;show wpAny _ A ((compTurn (.ListComp elt [⟨target,iter,ifs,0⟩] scope pos) 0 it acc env).onRaise (λx=>do noteFrame x env;theTreesLotGoes x)) _ _ s;refine wpAny_noted ?_;rw[compTurn_list];refine wpAny_bind (wpAny_standAt (wpAny_bind (wpAny_mono (turn n s u) (λr a i=>?_) λ_ _ h'=>h'.elim)));cases r with
 |none=>exact wpAny_pure i
 |some v =>
  refine wpAny_bind (wpAny_mono i (λ_ l t=>?_) λ_ _ h'=>h'.elim);refine wpAny_bind (wpAny_mono t (λ_ e o=>wpAny_bind (wpAny_mono o (λok b j=>?_) λ_ _ h'=>h'.elim)) λ_ _ h'=>h'.elim);cases ok with
  |false=>exact wpAny_pure ⟨rfl,j⟩
  |true =>exact wpAny_bind (wpAny_bind (wpAny_mono j (λx f p=>wpAny_bind (wpAny_mono p (λ_ g q=>wpAny_pure (wpAny_pure ⟨rfl,q⟩)) λ_ _ h'=>h'.elim)) λ_ _ h'=>h'.elim))
end
def uU:TT:=λ_ H Q=>Q true H
inductive PTs (X:Cx):List Expr->TT->Prop
 |nil:PTs X [] uU
 |one {c:Expr} {t:TT} (h:PT X c t):PTs X [c] t
theorem PTs.run{t:TT}(h:PTs X ifs t){Q:Bool->Hp->Prop}(I:Inv X pins σ H s)(q:t σ H Q) :
  wpAny (model X.prog X.w) X.A (forIn ifs true λc r=>if r=true then do let ok <-isTrue c X.env (eval c X.env);pure (ForInStep.yield ok) else pure (ForInStep.yield r)) (TP X pins σ Q) X.xe s:=by
 cases h with
 |nil=>exact wpAny_tests_nil ⟨H,I,q⟩
 |one h=>exact wpAny_tests_one (h pins s σ H Q I q)
def LCR(J:It)(n:Nat)(g:TG)(tt:TT)(te:TE)(σ:St)(H1:Hp)(Q:VK):Prop:=∀D,H1 D=none->∃W:Nat->Nat->List V->Hp->Prop,(∃m,W 0 m [] (upd H1 D (.lst []))) /\
 ∀i m ys H,W i m ys H->H D=some (.lst ys)/\((J.stop i H/\Q (.ref D) H)\/(J.go i H/\∀x H' e,e.length=n->J.yld i H x H'->g x (σ++e) H' λc H2=>tt c H2 λb h =>
  if b=true then te c h λv j=>j D=some (.lst ys)/\ys.length<sizeLine/\(∃a,c=σ++a/\a.length=n)/\∃f,f < m/\W (i+1) f (ys++[v]) (upd j D (.lst (ys++[v])))
  else (∃a,c=σ++a/\a.length=n)/\∃f,f < m/\W (i+1) f ys h))
def tLC(n:Nat)(a:TI)(g:TG)(tt:TT)(te:TE):TE:=λσ H Q=>a σ H λJ H1=>LCR J n g tt te σ H1 Q
theorem pP{wi:TI}{tt:TT}{te:TE}{use:Option (Value->Sem Unit)}{Qf:Value->Shared->Prop}(hc:X.calm=true)(hi:PI X tg iter wi)
  (hg:∀C s2 H2 fp,PG (blk X M scope own C s2 H2 fp) tg g) (ht:∀C s2 H2 fp,PTs (blk X M scope own C s2 H2 fp) ifs tt) (he:∀C s2 H2 fp,PE (blk X M scope own C s2 H2 fp) elt te)
  (hB:rp X.N M X.env.scope scope own=true) (hs:∀x,foldedSetIterable iter X.env x=pure x) {Q:VK} (I:Inv X pins σ H s) (h:tLC own.length wi g tt te σ H Q)
  (fin:∀(C D:Addr)(P:Shared)(O:Hp),(∀h',Heap.SameBut C P.heap h'->Inv X pins σ O { P with heap:=h' })->(∃m,P.heap.Ns C m)->O C=none->C≠X.env.locals->(∀x c,X.env.cells.lookup x=some c->c≠C)->(∀p∈X.pn++pins,p.1≠C)->X.s₀.heap.objs.size<=C->Q (.ref D) O ->
   compPost (model X.prog X.w) X.A X.xe use Qf (.ref D) C (.ok .next) P) :
  wpAny (model X.prog X.w) X.A (comprehension (.ListComp elt [⟨tg,iter,ifs,0⟩] scope pos) scope X.env cpos (newList []) false (eval iter X.env) use) Qf X.xe s:=by
 have B:jC X M scope own:=jC.of hB;have R:closureFor scope X.env=pure (mZ scope.names X.env.cells []):=jd λy hy hf=>by
  obtain⟨hv,hnl⟩:=B.free y hy hf;have hh:X.env.kindOf y.1=some .cell\/X.env.kindOf y.1=some .free:=by
   rcases hv with z|z|z
   ·exact absurd z hnl
   ·exact .inl z
   ·exact .inr z
  exact I.ok.has y.1 hh
 refine wpAny_comprehension_free (use:=use) rfl hs R B.kind B.names (thn (hi pins s σ H _ I h) λv s1 h1=>thn h1 λitv s2 h2=>?_);obtain⟨it,fp,tn,J,H2,e,S,T,U,f2,hD⟩:=h2;subst e;have Y:∀b∈fp,b<s2.heap.objs.size:=λb l=>by obtain⟨o,q,_⟩:=T.obj _ _ U b l;exact Mg q
 obtain⟨W,⟨m0,w0⟩,turn⟩:=hD s2.heap.objs.size (S.hok.fresh (Me _));refine wpAny_newObj_type (wpAny_newFunctionEnv B.nocell (by intro y hy;simp at hy) (λt j f=>?_) B.kind);dsimp only at j f ⊢;generalize hG:s2.heap.push { cls:=.type "list",dict:=none,data:=.seq ([]:List Value).toArray }=G at j f ⊢;have hC:G.objs.size=s2.heap.objs.size+1:=by rw[<-hG,Heap.size_push]
 have hk:∀b o,s2.heap.get? b=some o->t.get? b=some o:=λb o e=>f.extBut b o (by rw[hC];exact Mf (ML (Mg e))) (M3 _ (hG▸M3 _ e))
 have hDC:s2.heap.objs.size≠G.objs.size:=by rw[hC];exact Mf (Nk _)
 have hl:t.get? s2.heap.objs.size=some { cls:=.type "list",data:=.seq ([]:List Value).toArray 0 }:=f.extBut _ _ hDC (M3 _ (hG▸Ml _ rfl));have hns:t.Ns G.objs.size (λ_=>none):=by
  have e:(λx=>([]:List (Str×Value)).reverse.lookup x)=λ_=>none:=by funext x;rfl
  rw[<-e];exact j
 have I3:=λt'=>S.blk (t':=t') (C:=G.objs.size) (D:=s2.heap.objs.size) B f2 Y rfl hC hl hns hk
 have E:∀{H':Hp},(∀b∈fp,H' b=none)->∀b∈fp,oZ (blk X M scope own G.objs.size s2 H2 fp) [] H' b:=λhn b l=>by
  refine⟨hn b l,?_,?_,.inl l,λx c e z=>?_,λp hp=>absurd (show p∈([]:List (Addr×Obj))++[] from hp) (by simp)⟩
  ·show b≠G.objs.size;rw[hC];exact Mf (ML (Y b l))
  ·exact (I3 0).ok.exfs b l
  ·exact ((I3 0).ok.exf b l).2 x c e z
 have loop:∀s3:Shared,(∃t',s3={ s2 with heap:=t,toks:=t' })->codeAny (model X.prog X.w) X.A (.compLoop (.ListComp elt [⟨tg,iter,ifs,0⟩] scope pos) 0 (.ref it) (.ref s2.heap.objs.size) (compEnvC scope (mZ scope.names X.env.cells []) G.objs.size X.env))
   (compPost (model X.prog X.w) X.A X.xe use Qf (.ref s2.heap.objs.size) G.objs.size) s3:=by
  rintro s3 ⟨t',rfl⟩
  refine tw (λn s'=>∃i ys L H',L.length=own.length/\Inv (blk X M scope own G.objs.size s2 H2 fp) [] (σ++L) H' s'/\tn i s'.heap/\(∀b∈fp,H' b=none)/\W i n ys H') ?_ m0
   ⟨0,[],_,_,by simp,I3 t',T.keep _ _ _ U λb l o e=>hk b o e,λb l=>by rw[aB (Mf (Y b l))];exact (f2 b l).1,w0⟩
  rintro n s4 ⟨i,ys,L,O,hl',I4,st4,fr4,w4⟩
  obtain⟨hDl,alt⟩:=turn i n ys O w4;rcases alt with⟨stop,qn⟩|⟨go,step⟩
  ·refine thn (T.done (blk X M scope own G.objs.size s2 H2 fp) rfl rfl rfl hc i [] s4 _ O _ I4 (E fr4) st4 stop) λr P a=>?_
   obtain⟨hr,I5⟩:=a;subst hr;obtain⟨m,hn,_⟩:=I5.loc;have cS:s2.heap.objs.size<=G.objs.size:=by rw[hC];exact NF _
   refine fin G.objs.size s2.heap.objs.size P O (λh' hs'=>S.unblk (C:=G.objs.size) f2 cS I5 hs') ⟨m,hn⟩ I5.free ?_ (λx c e=>?_) (λp hp=>?_) (N5 S.sz cS) qn
   ·obtain⟨_,hl0,_⟩:=S.loc;exact MU (Mq hl0.lt cS)
   ·obtain⟨_,q⟩:=S.cell x c e;exact Mf (Mq q.lt cS)
   ·exact Mf (Mq (Mg (S.pin p hp).1) cS)
  ·refine thn (T.item (blk X M scope own G.objs.size s2 H2 fp) rfl rfl rfl hc i [] s4 _ O _ I4 (E fr4) st4 go) λr P a=>?_
   obtain⟨u,hr,h5⟩:=a;subst hr;refine thn h5 λ_ s6 a=>?_
   obtain⟨x,H6,I6,r6,y6,Z,fr6⟩:=a;have I6':=I6.pinned (E fr6) (T.obj _ _ Z);have kp:∀{F:St}{H7:Hp}{s7:Shared},Inv (blk X M scope own G.objs.size s2 H2 fp) ([]++oJ fp s6.heap) F H7 s7->tn (i+1) s7.heap/\∀b∈fp,H7 b=none:=λ{F H7 s7} I7=>by refine⟨T.keep _ _ _ Z λb l o e=>(I7.pin (b,o) (Md _ (Md _ (i3 l e)))).1,λb l=>?_⟩;obtain⟨o,e,d⟩:=T.obj _ _ Z b l;exact (I7.pin (b,o) (Md _ (Md _ (i3 l e)))).2.1
   refine thn (hg _ _ _ _ _ s6 _ H6 x u _ I6' r6 (step x H6 L hl' y6)) λ_ s7 a=>?_
   obtain⟨F,H7,I7,q7⟩:=a;refine thn ((ht _ _ _ _).run I7 q7) λok s8 a=>?_
   obtain⟨H8,I8,q8⟩:=a;cases ok with
   |false =>
    obtain⟨⟨K,e,l''⟩,m',hm,w8⟩:=(show if false=true then _ else _ from q8)
    subst e;obtain⟨k1,k2⟩:=kp I8;exact⟨m',hm,i+1,ys,K,H8,l'',I8.unpinned,k1,k2,w8⟩
   |true =>
    have q8:te F H8 _:=q8;refine thn (he _ _ _ _ _ s8 F H8 _ I8 q8) λy s9 a=>?_
    obtain⟨v,H9,I9,r9,d9,z9,⟨K,e,l''⟩,m',hm,w9⟩:=a;subst e;refine thn (kh (X:=blk X M scope own G.objs.size s2 H2 fp) _ s9 _ H9 (.ref s2.heap.objs.size) [v] (.ref s2.heap.objs.size) [y] (λ_ H'=>H'=upd H9 s2.heap.objs.size (.lst (ys++[v]))) I9 rfl (.cons r9 .nil) ⟨_,ys,v,rfl,rfl,d9,z9,rfl⟩) λ_ s10 a=>?_
    obtain⟨_,H10,I10,_,e10⟩:=a;subst e10;obtain⟨k1,k2⟩:=kp I10;exact⟨m',hm,i+1,ys++[v],K,_,l'',I10.unpinned,k1,k2,w9⟩
 exact codeAny_compStart_list (loop _ ⟨_,rfl⟩) (T.self _ 0 _ _ _ (T.keep _ _ _ U λb l o e=>hk b o e) (loop _ ⟨_,rfl⟩))
theorem BQ{c:TI}{tt:TT}{te:TE}(hc:X.calm=true)(hi:PI X tg iter c)
  (e:∀C s2 H2 fp,PG (blk X M scope own C s2 H2 fp) tg g) (f:∀C s2 H2 fp,PTs (blk X M scope own C s2 H2 fp) ifs tt) (i:∀C s2 H2 fp,PE (blk X M scope own C s2 H2 fp) elt te)
  (hB:rp X.N M X.env.scope scope own=true:=by rfl) (j:∀x,foldedSetIterable iter X.env x=pure x:=by intro _;rfl):PE X (.ListComp elt [⟨tg,iter,ifs,0⟩] scope pos) (tLC own.length c g tt te):=by
 intro pins s σ H Q I h;rw[eval_ListComp];refine pP hc hi e f i hB j I h λC D s5 l k a _ _ _ _ _ q=>?_
 obtain⟨m,hn⟩:=a;exact⟨m,hn,λh' b=>⟨.ref D,l,k h' b,rfl,q⟩⟩
theorem ql{A:TI}{tt:TT}{te:TE}(hc:X.calm=true)(L:X.N.Nodup)(j:X.N[i]?=some x)(O:Loc X.env.scope x)
  (l:swapsWith (.ListComp elt [⟨tg,iter,ifs,0⟩] scope pos) (some (.Name x pos')) spos.line X.env=pure true) (hi:PI X tg iter A)
  (P:∀C s2 H2 fp,PG (blk X M scope own C s2 H2 fp) tg g) (Q:∀C s2 H2 fp,PTs (blk X M scope own C s2 H2 fp) ifs tt) (R:∀C s2 H2 fp,PE (blk X M scope own C s2 H2 fp) elt te)
  (hB:rp X.N M X.env.scope scope own=true:=by rfl) (S:∀x,foldedSetIterable iter X.env x=pure x:=by intro _;rfl) (T:X.fn x=true\/X.env.scope.names.lookup x=some .local:=by first|exact .inl rfl|exact .inr rfl|assumption) :
  PS X (.Assign [.Name x pos'] (.ListComp elt [⟨tg,iter,ifs,0⟩] scope pos) spos) (Ef (tLC own.length A g tt te) (jR i)):=by
 intro pins s σ H D I h;show wpAny _ _ (exec _ X.env) _ _ s;rw[exec_Assign_Name_used _ _ _ _ l];refine wpAny_bind (wpAny_standAt (wpAny_bind ?_));rw[arm_evalThenUse_ListComp];refine wpAny_bind (thn (pP (use:=some (assign (.Name x pos') X.env)) (Qf:=λ_ s'=>SP X pins D .next s') hc hi P Q R hB S I h λC B E U k p F G J W ns q=>?_) λ_ s' Y=>wpAny_pure (wpAny_pure Y));obtain⟨m,hn⟩:=p;have Z:=k E.heap (Heap.SameBut.refl _ _);show wpAny _ _ (assign (.Name x pos') X.env (.ref B)) _ _ E;refine wpAny_assign_Name (rL (v:=.ref B) Z L j O rfl (λK r t=>?_) T);obtain⟨a,sb,ha⟩:=t;have u:C≠a:=by
  rcases ha with rfl|ha
  ·exact G
  ·exact λz=>J x a ha z.symm
 refine⟨m,hn.sameBut sb u,λh' w=>⟨_,U,?_,q⟩⟩;have f:∀b o,b≠C->K.heap.get? b=some o->h'.get? b=some o:=λb o y e=>(w.2 b y).trans e
 refine r.call' (s':={ K with heap:=h' }) (ch:=[C]) rfl ?_ ?_ r.bare λb y=>?_
 ·refine⟨λb o e _ _ z=>f b o (λq=>z (by rw[q];exact Mh.mpr rfl)) e,λb o e _ _ z=>⟨o.slots,f b o (λq=>z (by rw[q];exact Mh.mpr rfl)) e⟩,λ_ _ _ n _=>n,λb o e z=>⟨o,f b o (λq=>z (by rw[q];exact Mh.mpr rfl)) e⟩,λ_ _ q=>q,λ_ _ _ q=>q,λ_ _ q=>q⟩
 ·intro b o e;refine (r.hok b o e).stay (λc v hc q=>f c v ?_ q) (λ_ q=>q) λ_ _ q=>q
  rintro rfl
  rcases hc with z|z
  ·subst z;rw[F]at e;cases e
  ·rw[F]at z;cases z
 ·rw[Mh.mp y];exact⟨.inr ns,λz=>G z,J,W⟩
mutual
def IsD(K:W.Frag)(H:Hp):PyData->V->Prop
 |.none,v=>v=.non
 |.bool b,v=>v=.bl b
 |.int i,v=>v=.int i
 |.str x,v=>v=.str x
 |.list ds,v=>∃a xs,v=.ref a/\SqL K H a xs/\eU K H ds xs
 |.tuple ds,v=>∃a xs,v=.ref a/\SqT K H a xs/\eU K H ds xs
 |.dict _,_=>False
def eU(K:W.Frag)(H:Hp):List PyData->List V->Prop
 |[],vs=>vs=[]
 |d::ds,vs=>∃v r,vs=v::r/\IsD K H d v/\eU K H ds r
end
theorem av.tupS(e:av H H')(h:SqT K H a xs):SqT K H' a xs:=by
 rcases h with (h|⟨o,h⟩)|h
 ·exact .inl (.inl (e _ _ h))
 ·exact .inl (.inr ⟨o,e _ _ h⟩)
 ·exact .inr h
mutual
theorem IsD.same{K:W.Frag}{H H':Hp}(e:av H H'):∀{d:PyData}{v:V},IsD K H d v->IsD K H' d v
 |.none,_,h=>by unfold IsD at h ⊢;exact h
 |.bool _,_,h=>by unfold IsD at h ⊢;exact h
 |.int _,_,h=>by unfold IsD at h ⊢;exact h
 |.str _,_,h=>by unfold IsD at h ⊢;exact h
 |.list ds,_,h=>by unfold IsD at h ⊢;obtain⟨a,xs,e1,h1,h2⟩:=h;exact⟨a,xs,e1,e.seq h1,eU.same e h2⟩
 |.tuple ds,_,h=>by unfold IsD at h ⊢;obtain⟨a,xs,e1,h1,h2⟩:=h;exact⟨a,xs,e1,e.tupS h1,eU.same e h2⟩
 |.dict _,_,h=>by unfold IsD at h;exact h.elim
theorem eU.same{K:W.Frag}{H H':Hp}(e:av H H'):∀{ds:List PyData}{vs:List V},eU K H ds vs->eU K H' ds vs
 |[],_,h=>by unfold eU at h ⊢;exact h
 |d::ds,_,h=>by unfold eU at h ⊢;obtain⟨v,r,e1,h1,h2⟩:=h;exact⟨v,r,e1,IsD.same e h1,eU.same e h2⟩
end
section
theorem uE{i:Int}:IsD K H (.int i) (.int i):=by unfold IsD;rfl
theorem Eg{b:Bool}:IsD K H (.bool b) (.bl b):=by unfold IsD;rfl
theorem Ed:IsD K H .none .non:=by unfold IsD;rfl
theorem GG:IsD K H (.str x) (.str x):=by unfold IsD;rfl
theorem EV(h:SqT K H a xs)(h2:eU K H ds xs):IsD K H (.tuple ds) (.ref a):=by unfold IsD;exact⟨a,xs,rfl,h,h2⟩
theorem uq(h:SqL K H a xs)(h2:eU K H ds xs):IsD K H (.list ds) (.ref a):=by unfold IsD;exact⟨a,xs,rfl,h,h2⟩
theorem ph:eU K H [] []:=by unfold eU;rfl
theorem rT{d:PyData}(h:IsD K H d v)(h2:eU K H ds vs):eU K H (d::ds) (v::vs):=by unfold eU;exact⟨v,vs,rfl,h,h2⟩
theorem IsD.ofInt{i:Int}(h:IsD K H (.int i) v):v=.int i:=by unfold IsD at h;exact h
theorem IsD.ofBool{i:Bool}(h:IsD K H (.bool i) v):v=.bl i:=by unfold IsD at h;exact h
theorem IsD.ofNone(h:IsD K H .none v):v=.non:=by unfold IsD at h;exact h
theorem IsD.ofStr(h:IsD K H (.str x) v):v=.str x:=by unfold IsD at h;exact h
theorem IsD.ofTup(h:IsD K H (.tuple ds) v):∃a xs,v=.ref a/\SqT K H a xs/\eU K H ds xs:=by unfold IsD at h;exact h
theorem IsD.ofLst(h:IsD K H (.list ds) v):∃a xs,v=.ref a/\SqL K H a xs/\eU K H ds xs:=by unfold IsD at h;exact h
theorem eU.nil_of(h:eU K H [] vs):vs=[]:=by unfold eU at h;exact h
theorem eU.cons_of{d:PyData}(h:eU K H (d::ds) vs):∃v r,vs=v::r/\IsD K H d v/\eU K H ds r:=by unfold eU at h;exact h
theorem sP:∀(ns:List Int),eU K H (ns.map PyData.int) (ns.map V.int)
 |[]=>ph
 |_::r=>rT uE (sP r)
end
section
mutual
theorem Inv.reads(I:Inv X pins σ H s):∀{d:PyData}{v:V}{u:Value},IsD X.K H d v->RelV v u->∃as,Reads s.heap u d as
 |.none,_,_,h,r=>by rw[h.ofNone]at r;cases r;exact⟨_,.none⟩
 |.bool _,_,_,h,r=>by rw[h.ofBool]at r;cases r;exact⟨_,.bool _⟩
 |.int _,_,_,h,r=>by rw[h.ofInt]at r;obtain⟨t,rfl⟩:=r;exact⟨_,.int _ _⟩
 |.str _,_,_,h,r=>by rw[h.ofStr]at r;obtain⟨t,rfl⟩:=r;exact⟨_,.str _ _⟩
 |.list ds,_,_,h,r=>by obtain⟨a,xs,e,h1,h2⟩:=h.ofLst;subst e;cases r;obtain⟨its,b,⟨o,n,g,c,_,d⟩,_⟩:=I.list h1;obtain⟨as,f⟩:=Inv.readsAll I h2 b;exact⟨_,.list g c d (by simpa using f)⟩
 |.tuple ds,_,_,h,r=>by obtain⟨a,xs,e,h1,h2⟩:=h.ofTup;subst e;cases r;obtain⟨its,b,⟨o,g,c,n,d⟩,_⟩:=I.tuple h1;obtain⟨as,f⟩:=Inv.readsAll I h2 b;exact⟨_,.tuple g c d (by simpa using f)⟩
 |.dict _,_,_,h,_=>by unfold IsD at h;exact h.elim
theorem Inv.readsAll(I:Inv X pins σ H s):∀{ds:List PyData}{vs:List V}{us:List Value},eU X.K H ds vs->Vals vs us->∃as,ReadsAll s.heap us ds as
 |[],_,_,h,r=>by rw[h.nil_of]at r;cases r;exact⟨_,.nil⟩
 |d::ds,_,_,h,r=>by
  obtain⟨v,t,e,h1,h2⟩:=h.cons_of;subst e;cases r with
  |cons r1 r2 =>obtain⟨as,a⟩:=Inv.reads I h1 r1;obtain⟨bs,b⟩:=Inv.readsAll I h2 r2;exact⟨_,.cons a b⟩
end
open PySem.SeqAt in
theorem xv(a:X.A.units+64<cLine):OpR X (compareOp .Eq) (λx y H Q=>∃d e,IsD X.K H d x/\IsD X.K H e y/\shaped d=true/\shaped e=true/\Q (.bl (PyData.eqv d e)) H):=by intro pins s σ H x y v u Q I b c h;obtain⟨d,e,hd,f,g,i,q⟩:=h;obtain⟨as,j⟩:=I.reads hd b;obtain⟨bs,l⟩:=I.reads f c;exact eq_dataH j l g i a ⟨.bl _,H,I,rfl,q⟩
open PySem.SeqAt in
theorem Ho(a:X.A.units+64<cLine):OpR X (compareOp .NotEq) (λx y H Q=>∃d e,IsD X.K H d x/\IsD X.K H e y/\shaped d=true/\shaped e=true/\Q (.bl (!PyData.eqv d e)) H):=by intro pins s σ H x y v u Q I b c h;obtain⟨d,e,hd,f,g,i,q⟩:=h;obtain⟨as,j⟩:=I.reads hd b;obtain⟨bs,l⟩:=I.reads f c;exact ne_dataH j l g i a ⟨.bl _,H,I,rfl,q⟩
noncomputable def tyD:PyData->String
 |.none=>"NoneType"
 |.bool _=>"bool"
 |.int _=>"int"
 |.str _=>"str"
 |.list _=>"list"
 |.tuple _=>"tuple"
 |.dict _=>"dict"
def uh(d:PyData)(T:String):Bool:=tyD d==T||(T=="int"&&tyD d=="bool")
theorem Eu(K:W.Frag){a T:String}(ha:a∈["NoneType", "bool", "int", "str", "list", "tuple"])(b:T∈["bool", "int", "list", "tuple"]) :
  W.kitOne K (.type a) (.type T)=some (a==T||(T=="int"&&a=="bool")):=by
 simp only[M8,Mt,or_false]at ha b;rcases ha with rfl|rfl|rfl|rfl|rfl|rfl <;> rcases b with rfl|rfl|rfl|rfl <;> rfl
theorem Fs{d:PyData}(h:IsD K H d v):tyD d∈["NoneType", "bool", "int", "str", "list", "tuple"]:=by
 cases d with
 |dict _=>unfold IsD at h;exact h.elim
 |_=>simp[tyD]
theorem u4:jS X (.builtin "isinstance") (λxs H Q=>∃d v T,xs=[v,.ty T]/\IsD X.K H d v/\T∈["bool", "int", "list", "tuple"]/\Q (.bl (uh d T)) H):=by
 intro pins s σ H xs us Q I r h;obtain⟨d,v,T,rfl,hd,j,q⟩:=h;obtain⟨u,c,rfl,f,l⟩:=vals2 r;cases l;have e:W.kitOne X.K (.type (tyD d)) (.type T)=some (uh d T):=Eu X.K (Fs hd) j;have fin:∀tk,EP X pins σ Q (.bool (uh d T)) { s with toks:=tk }:=λtk=>⟨.bl _,H,I.tok tk,rfl,q⟩
 cases d with
 |none=>rw[hd.ofNone]at f;cases f;exact W.kia_one W.kitx_none I.kIn True.intro e (λz=>nomatch z) fin
 |bool b=>rw[hd.ofBool]at f;cases f;exact W.kia_one W.kitx_bool I.kIn True.intro e (λz=>nomatch z) fin
 |int i=>rw[hd.ofInt]at f;obtain⟨t,rfl⟩:=f;exact W.kia_one W.kitx_int I.kIn True.intro e (λz=>nomatch z) fin
 |str x=>rw[hd.ofStr]at f;obtain⟨t,rfl⟩:=f;exact W.kia_one W.kitx_str I.kIn True.intro e (λz=>nomatch z) fin
 |list ds =>obtain⟨a,xs,e1,h1,h2⟩:=hd.ofLst;subst e1;cases f;obtain⟨its,m,⟨o,n,g,c,_,_⟩,_⟩:=I.list h1;exact W.kia_one W.kitx_list I.kIn ⟨o,g,c⟩ e (λz=>nomatch z) fin
 |tuple ds =>obtain⟨a,xs,e1,h1,h2⟩:=hd.ofTup;subst e1;cases f;obtain⟨its,m,⟨o,g,c,n,_⟩,_⟩:=I.tuple h1;exact W.kia_one W.kitx_tuple I.kIn ⟨o,g,c⟩ e (λz=>nomatch z) fin
 |dict _=>unfold IsD at hd;exact hd.elim
theorem oH:∀{bs:List Bool}{us:List Value},Vals (bs.map V.bl) us->LSm.BoolsAre us bs
 |[],_,.nil=>.nil
 |b::r,_,.cons h t=>by cases (show _=Value.bool b from h);exact .cons b (oH t)
theorem DK(hc:X.calm=true):jS X (.builtin "all") (λxs H Q=>∃(a:Addr)(bs:List Bool),xs=[.ref a]/\SqL X.K H a (bs.map V.bl)/\Q (.bl (bs.all id)) H):=by
 intro pins s σ H xs us Q I r h;obtain⟨a,bs,rfl,j,q⟩:=h;obtain⟨u,rfl,l⟩:=vals1 r;cases l;obtain⟨its,m,p,_⟩:=I.list j;have hl:=p.isList;have f:=oH m;have c:a<s.heap.objs.size:=by obtain⟨_,e,_⟩:=hl;exact Mg e
 refine call_all_walk (wpAny_pyIter_list hl ?_);refine⟨s.heap.objs.size,[s.heap.objs.size,a],[s.heap.objs.size],its.toArray.size,_,_,λi=>(bs[i]?).getD true,rfl,Walks.list (A:=X.A.in1) (I.ok.hd hc) _ a (Mf c) its.toArray,
  ⟨⟨_,Ml _ rfl,rfl,rfl⟩,hl.push _⟩,λi v s' Q' E' n g=>?_,λh' tk o=>?_⟩
 ·obtain⟨b,e,rfl⟩:=f.get i v (by simpa using n);simp only[e,Nl]at g;exact wpAny_truthy_bool g
 ·have e:((List.range its.toArray.size).all λi=>(bs[i]?).getD true)=bs.all id:=by rw[Mo,f.length];exact LSm.range_all bs
  rw[e];exact⟨.bl _,H,I.kept (LSm.kept_iter o),rfl,q⟩
end
structure LR(P:Program)(w:World)(outer:List Env)(H:Hp)(s:Shared)(H':Hp)(B:Heap)(ea:Addr)(cls a0:Value)(s':Shared):Prop where
 os:s'.os=s.os
 bare:AllBare s'.gens
 hok:HOk P w H' B
 keep:∀b o,s.heap.get? b=some o->H b=none->b∉frs outer->B.get? b=some o
 there:∀b o,s.heap.get? b=some o->b∉frs outer->∃o',B.get? b=some o'
 slot:∀b o,s.heap.get? b=some o->b∈frs outer->∃sl,s'.heap.get? b=some { o with slots:=sl }
 free:∀b o,s.heap.get? b=some o->H b=none->H' b=none
 tups:∀b xs,H b=some (.tup xs)->H' b=some (.tup xs)
 frzs:∀b o u,H b=some (.frz o u)->H' b=some (.frz o u)
 tbls:∀b q,H b=some (.tbl q)->H' b=some (.tbl q)
 fly:Heap.FlyingW B outer ea cls a0 s'.heap
def CXW(P:Program)(w:World):CXT:=λouter H s E e s'=>∃ea cls a0 H' B,e=.ref ea/\E cls none H'/\LR P w outer H s H' B ea cls a0 s'
section
variable {f:Addr}{A:Around}
theorem vc{L:Addr}(a:env.frame=some L):frs (env::outer)=L::frs outer:=by unfold frs;rw[NN,a]
theorem vP{CX:CXT}{g:Shared}{ea:Addr}{cls:Value}{vs:List Value}
  (I:Inv (cZ (CXW P w) P w K mg base N qual scope f cd A outer s H E) pins σ H1 g) (p:Heap.MadeExcOf g.heap h' ea cls vs) (r:E cls none H1) :
  (cZ (CXW P w) P w K mg base N qual scope f cd A outer s H E).xe (.ref ea) { g with heap:=h' }:=by
 have i:=I.stack;have j:frs (cZ (CXW P w) P w K mg base N qual scope f cd A outer s H E).stack=s.heap.objs.size::frs outer:=vc rfl;have l:∀env∈(cZ (CXW P w) P w K mg base N qual scope f cd A outer s H E).stack,∀b,env.frame=some b->b∈frs (cZ (CXW P w) P w K mg base N qual scope f cd A outer s H E).stack:=λenv v b c=>O7.mpr ⟨env,v,c⟩
 have out:∀b o,s.heap.get? b=some o->b∉frs outer->b∉frs (cZ (CXW P w) P w K mg base N qual scope f cd A outer s H E).stack:=λb o e n z=>by
  rw[j]at z;rcases M8.mp z with z|z
  ·rw[z]at e;exact absurd (Mg e) (Nn _)
  ·exact n z
 refine wpAny_leaves_madeW (base:=W.hideAll g.heap (frs (cZ (CXW P w) P w K mg base N qual scope f cd A outer s H E).stack)) I.ok.frames rfl (λb o q=>W.of_hideAll _ q) (W.funFrames_hide i l) p λh2 t x1 x2 x3 x4=>?_
 refine⟨ea,cls,.ref t,H1,_,rfl,r,⟨I.os,I.bare,?_,?_,?_,?_,?_,I.base.tups,I.base.frzs,I.base.tbls,x1⟩⟩
 ·intro a o e;refine (I.hok a o e).stay (λb u c q=>W.hideAll_get _ q λz=>?_) (λ_ q=>q) λ_ _ q=>q
  have:=I.stkFree b z;rcases c with c|c
  ·rw[c,e]at this;cases this
  ·rw[c]at this;cases this
 ·intro b o e n c;exact W.hideAll_get _ (I.base.keep b o e n c (Mt)) (out b o e c)
 ·intro b o e c;obtain⟨o',q⟩:=I.base.there b o e (Mt);exact⟨o',W.hideAll_get _ q (out b o e c)⟩
 ·intro b o e c;obtain⟨sl,q⟩:=I.base.slot b o e (I.ok.frf b c) c (Mt);obtain⟨_,x,h,d2⟩:=I.ok.funs.mem c;have h:s.heap.get? b=some x:=h;rw[e]at h;cases h;obtain⟨m,y⟩:=x4 b _ (p.keeps b _ q) d2;exact⟨m,y⟩
 ·intro b o e n;exact I.base.free b o e n (Mt)
theorem FW:Passes (CXW P w) (cZ (CXW P w) P w K mg base N qual scope f cd A outer s H E) E:=by
 intro pins σ H1 s1 e s2 I hc;obtain⟨ea,cls,a0,H2,B,rfl,i,F⟩:=hc;have c:frs (cZ (CXW P w) P w K mg base N qual scope f cd A outer s H E).stack=s.heap.objs.size::frs outer:=vc rfl;have out:∀b o,s.heap.get? b=some o->b∉frs outer->b∉frs (cZ (CXW P w) P w K mg base N qual scope f cd A outer s H E).stack:=λb o e n z=>by
  rw[c]at z;rcases M8.mp z with z|z
  ·rw[z]at e;exact absurd (Mg e) (Nn _)
  ·exact n z
 refine wpAny_leaves_onW I.ok.frames rfl F.fly λh2 x1 x2=>⟨ea,cls,a0,H2,B,rfl,i,⟨F.os.trans I.os,F.bare,F.hok,?_,?_,?_,?_,?_,?_,?_,x1⟩⟩
 ·intro b o e n a;exact F.keep b o (I.base.keep b o e n a (Mt)) (I.base.free b o e n (Mt)) (out b o e a)
 ·intro b o e a;obtain⟨o',q⟩:=I.base.there b o e (Mt);exact F.there b o' q (out b o e a)
 ·intro b o e a;obtain⟨sl,q⟩:=I.base.slot b o e (I.ok.frf b a) a (Mt);obtain⟨_,j,g,d2⟩:=I.ok.funs.mem a;have g:s.heap.get? b=some j:=g;rw[e]at g;cases g;obtain⟨sl1,l⟩:=F.slot b _ q (by rw[c];exact M6 _ a);obtain⟨h,m⟩:=x2 b _ l d2;exact⟨h,m⟩
 ·intro b o e n;obtain⟨o',q⟩:=I.base.there b o e (Mt);exact F.free b o' q (I.base.free b o e n (Mt))
 ·intro b xs e;exact F.tups b xs (I.base.tups b xs e)
 ·intro b o u e;exact F.frzs b o u (I.base.frzs b o u e)
 ·intro b ps e;exact F.tbls b ps (I.base.tbls b ps e)
end
theorem Gh{a:List Value}(X:K.In h)(q:W.excIn K C a newId=true) :
  ∃bm N nm r bs hdct sn sub ab col dd k0 k1 k2 k3 k5 mN,h.get? C=some (excClassObj nm r C N bs bm hdct sn sub ab col dd k0 k1 k2 k3 k5 newId)/\h.Ns N mN/\mN "__init__"=none/\OwnTail h a bm:=by
 unfold W.excIn at q;split at q
 ·rename_i d1 c1 l1 g1;split at q
  ·rename_i C2 b g i j m n2 n hm s;simp only[Mm,beq_iff_eq,Oa]at q;obtain⟨⟨⟨⟨⟨t,u⟩,o⟩,v⟩,c⟩,p⟩:=q;subst t;subst u;obtain⟨z1,z2,z3,w,x,y,z,A,B,e,z11⟩:=c1;dsimp only at hm o c p;subst hm;subst o;have hl:l1=#[g,i,j,m,some (.builtin n2),n]:=by obtain⟨l⟩:=l1;have f:l=_:=s;rw[f]
   subst hl;exact⟨b,w,z1,x,z2,y,z,A,B,e,d1,g,i,j,m,n,_,X _ _ g1,.of_isNs (W.isNs_of_in X c),W.nsMap_none_of_in X c p,W.tail_of_in X v⟩
  ·cases q
 ·cases q
def xa(X:Cx)(E:XK):Prop:=∀(pins:List (Addr×Obj))(σ:St)(H:Hp)(s:Shared)(h':Heap)(ea:Addr)(cls:Value)(vs:List Value),Inv X pins σ H s->Heap.MadeExcOf s.heap h' ea cls vs->E cls none H->X.xe (.ref ea) { s with heap:=h' }
def HA(C:Addr)(E:XK)(t:TA):TS:=λ_ σ H=>t σ H λvs H1=>vs.length<=sizeLine/\E (.ref C) none H1
theorem BP{B a:String}{bm:List Value}{m:Pos}{t:TA}(hc:X.calm=true)(M:xa X E)(FB:ExcBaseFacts B newId a bm)(n:Gl X x)(hm:X.mg x=some (.ref C))(o:W.excIn X.K C bm newId=true)
  (ha:PA X (e::es) t) (c:(x==("__debug__":Str))=false:=by decide) (j:starEach (e::es) X.env=(false,eval e X.env)::starEach es X.env:=by rfl) (f:(backTo cpos (starEach es X.env)).any (·.1)=false:=by rfl) :
  PS X (.Raise (some (.Call (.Name x m) (e::es) [] cpos)) none pos) (HA C E t):=by
 intro pins s σ H D I h;obtain⟨tl,N,nm,q,bs,hdct,sn,sub,ab,col,dd,k0,k1,k2,k3,k5,mN,g,p,i,T⟩:=Gh I.mod.kin o;refine wpAny_Raise_call_subT (C:=C) (nm:=nm) (q:=q) (N:=N) (bs:=bs) (bm:=tl) (hdct:=hdct) (sn:=sn) (sub:=sub) (ab:=ab) (col:=col) (dd:=dd) (k0:=k0) (k1:=k1) (k2:=k2) (k3:=k3) (k5:=k5)
  FB (mN:=mN) (T.hasType FB.hasBase) (I.ok.hd hc) (by rw[j];show (false||(backTo cpos (starEach es X.env)).any (·.1))=false;rw[f];rfl) i (oC I n hm ⟨rfl,?_⟩ c)
 have l:=ha cpos pins s σ H _ I h;rw[j]at l ⊢;refine Calls.evalArgs_plain (wpAny_mono l (λus s2 h2=>?_) λ_ _ y=>y);obtain⟨vs,H2,b,r,z,u⟩:=h2;exact⟨rfl,by rw[<-r.length];exact z,b.bk _ _ g,p.keeps b.bk,T.keeps b.bk,λh' ea v=>M pins σ H2 s2 h' ea _ _ b v u⟩
theorem gE(h:H D=none):av H (upd H D o):=λb u e=>by rw[aB (aK e h)];exact e
theorem av.put(s:av H H')(h:H D=none):av H (upd H' D o):=λb u e=>by rw[aB (aK e h)];exact s b u e
mutual
def dG:PyData->Bool
 |.list _=>false
 |.tuple ds=>kG ds
 |.dict _=>false
 |_=>true
def kG:List PyData->Bool
 |[]=>true
 |d::ds=>dG d&&kG ds
end
theorem set_own(σ:St)(x:Option V)(v:V)(a:St)(h:a.length=1):(σ++a).set σ.length (some v)=σ++[some v]:=by obtain⟨y,rfl⟩:=List.length_eq_one_iff.mp h;simp
structure Rows(H H':Hp)(D:Addr)(qs:List Addr)(rs:List (List Int)):Prop where
 d:H' D=some (.lst (qs.map V.ref))
 len:qs.length=rs.length
 at':∀(i:Nat) q r,qs[i]?=some q->rs[i]?=some r->H' q=some (.lst (r.map V.int))
 new:∀q∈qs,H q=none
 nd:qs.Nodup
 nD:D∉qs
section
variable {A:Around}{E:Value->Shared->Prop}
theorem xo{t:Addr}{x:Value}(hi:s.heap.IsTupleIter it t i)(c:s.heap.IsTuple t its)(e:its[i]?=some x)
  (f:∀h',h'.IsTupleIter it t (i+1)->Heap.SameBut it s.heap h'->Q x { s with heap:=h' }):wpAny (model prog w) A (Builtin.SmallTypes.nextOf (.ref it)) Q E s:=by
 obtain⟨oi,b,g,a⟩:=id hi;obtain⟨ot,h,_,nt,j⟩:=c;unfold Builtin.SmallTypes.nextOf;refine wpAny_bind (wpAny_callSpecial?_slot (name:=Str.ofString "__next__") hi.typeIs F.slot_tuple_iterator_next (wpAny_call_entry F.slot_tuple_iterator_next hi.typeIs F.entry_tuple_iterator_next ?_ (F.args_tuple_iterator_next_1 _)));refine wpAny_bind (m:=field (.ref it) 0) (wpAny_field b a (x:=.ref t) rfl ?_);show wpAny (model prog w) _ (if (Value.ref t==Value.none)=true then _ else _) _ _ s;have l:¬ (Value.ref t==Value.none)=true:=λq=>Mi q
 rw[if_neg l];refine wpAny_bind (m:=field (.ref it) 1) (wpAny_field b a (x:=.int i 0) rfl ?_);refine wpAny_bind (m:=seqItems? (.ref t)) (wpAny_seqItems h j ?_);simp only[ME,e];refine wpAny_bind (wpAny_setField b a (by simp) (wpAny_pure ⟨x,rfl,wpAny_pure (f _ ⟨_,NH _ b (Obj.isFreed_of_fields (Obj.data_mapFields a _)),(Obj.cls_mapFields ..).trans g,?_⟩ (Heap.SameBut.update ..))⟩));rw[Obj.data_mapFields a];simp[rawInt]
theorem pB{t:Addr}(g:A.handled=none)(hi:s.heap.IsTupleIter it t i)(h:s.heap.IsTuple t its)(j:its[i]?=none)
  (l:∀h' e,Heap.ExtBut it s.heap h'->(∃o,h'.get? e=some o/\o.cls=.type "StopIteration")->E (.ref e) { s with heap:=h' }):wpAny (model prog w) A (Builtin.SmallTypes.nextOf (.ref it)) Q E s:=by
 obtain⟨oi,c,ci,f⟩:=id hi;obtain⟨ot,n,_,nt,p⟩:=h;unfold Builtin.SmallTypes.nextOf;refine wpAny_bind (wpAny_callSpecial?_slot (name:=Str.ofString "__next__") hi.typeIs F.slot_tuple_iterator_next (wpAny_call_entry F.slot_tuple_iterator_next hi.typeIs F.entry_tuple_iterator_next ?_ (F.args_tuple_iterator_next_1 _)));refine wpAny_bind (m:=field (.ref it) 0) (wpAny_field c f (x:=.ref t) rfl ?_);show wpAny (model prog w) _ (if (Value.ref t==Value.none)=true then _ else _) _ _ s;have r:¬ (Value.ref t==Value.none)=true:=λq=>Mi q
 rw[if_neg r];refine wpAny_bind (m:=field (.ref it) 1) (wpAny_field c f (x:=.int i 0) rfl ?_);refine wpAny_bind (m:=seqItems? (.ref t)) (wpAny_seqItems n p ?_);simp only[ME,j];refine wpAny_bind (wpAny_rule (wpAny_bind (wpAny_setField c f (by simp) ?_)));refine wpAny_bind (m:=newExc (.type "StopIteration") []) ?_;unfold newExc newTuple;refine wpAny_bind (wpAny_newObj_type ?_ (by size_fits ));refine wpAny_bind (m:=firstArgMember _ _) (wpAny_of_eq (a:=Value.none) (by first|rfl|(unfold firstArgMember;rfl)) ?_);refine wpAny_newObj_type ?_ (by size_fits );unfold raiseNew;refine wpAny_bind (wpAny_handled ?_)
 first|rw[show A.in1.handled=none from g]|rw[g]
 refine wpAny_bind (wpAny_pure (wpAny_throw ?_));refine l _ _ (λb o u e=>?_) ⟨_,Ml _ rfl,rfl⟩;exact M3 _ (M3 _ ((MJ _ _ (Ne.symm u)).trans e))
theorem mJ(f:A.handled=none)(it t:Addr)(b:t≠it)(its:Array Value):Draws prog w A it [it,t] its.size (λi v=>its[i]?=some v) (λi h=>h.IsTupleIter it t i/\h.IsTuple t its) where
 live:=λ_ _ st=>by obtain⟨⟨o,g,_⟩,_⟩:=st;exact⟨o,g⟩
 frame:=λ_ _ _ st k=>by obtain⟨⟨o,g,r⟩,⟨a,g2,c⟩⟩:=st;exact⟨⟨o,k it (by simp) o g,r⟩,⟨a,k t (by simp) a g2,c⟩⟩
 item:=λi s Q E hi st j=>xo st.1 st.2 (x:=its[i]) (by simp[hi]) λh' i' e=>by refine j _ h' s.toks (by simp[hi]) ⟨i',?_⟩ e;obtain⟨a,g2,c⟩:=st.2;exact⟨a,(e.2 t b).trans g2,c⟩
 done:=λs Q E st l=>pB f st.1 st.2 (by simp) l
end
structure mT(z TI TO i1 i2:Addr)(f1 f2:List Addr):Prop where
 TIz:TI≠z
 TOz:TO≠z
 z1:i1≠z
 z2:i2≠z
 TIO:TI≠TO
 TI1:TI≠i1
 TI2:TI≠i2
 TO1:TO≠i1
 TO2:TO≠i2
 i12:i1≠i2
 a1:∀b∈f1,b≠z/\b≠TO/\b≠i2
 a2:∀b∈f2,b≠z/\b≠TO/\b≠i1
section
variable {A:Around}{E:Value->Shared->Prop}{z TI TO i1 i2:Addr}{f1 f2:List Addr}{n1 n2 k:Nat}{P1 P2:Nat->Value->Prop}{S1 S2:Nat->Heap->Prop}{a b:Value}
theorem Dq(n:Draws prog w A i1 f1 n1 P1 S1)(p:Draws prog w A i2 f2 n2 P2 S2)(Z:mT z TI TO i1 i2 f1 f2)(h:IsZip s.heap z TI TO .none)(W:IsPair s.heap TI (.ref i1) (.ref i2))(X:IsPair s.heap TO a b)
  (B:S1 k s.heap) (C:S2 k s.heap) (k1:k<n1) (k2:k<n2)
  (Y:∀h' x y tk,P1 k x->P2 k y->IsZip h' z TI TO (rawInt s.heap.objs.size)->IsPair h' TO x y->S1 (k+1) h'->S2 (k+1) h'->IsPair h' s.heap.objs.size x y ->
   (∀c o,c≠z->c≠TO->c≠i1->c≠i2->s.heap.get? c=some o->h'.get? c=some o)->Q (.ref s.heap.objs.size) { s with heap:=h',toks:=tk }) :
  wpAny (model prog w) A (Builtin.«zip.__next__» ⟨[.ref z],[]⟩) (λfin s'=>∃v,fin=.done (.ret v)/\Q v s') E s:=by
 refine wpAny_bind (m:=field (.ref z) 2) (wpAny_field h rfl (x:=.bool false) rfl ?_);refine wpAny_bind (m:=field (.ref z) 3) (wpAny_field h rfl (x:=.ref TI) rfl ?_);refine wpAny_bind (wpAny_seqItems W rfl ?_);refine wpAny_bind (m:=Builtin.SmallTypes.ownedTupleIsFree (.ref z)) ?_;unfold Builtin.SmallTypes.ownedTupleIsFree;refine wpAny_bind (wpAny_field h rfl (x:=.none) rfl (wpAny_pure ?_));rw[if_pos (by rfl)];refine wpAny_bind (wpAny_rule (wpAny_bind (wpAny_field h rfl (x:=.ref TO) rfl (wpAny_bind (wpAny_setField_rec h (by simp) λg1 D e1=>?_)))));have D:IsZip g1 z TI TO .ellipsis:=D;refine wpAny_bind ?_;simp only[List.zipIdx_cons,List.zipIdx_nil,NP,List.forIn_nil];refine wpAny_bind (wpAny_bind (wpAny_onRaise (wpAny_bind (m:=Builtin.SmallTypes.nextOf (.ref i1)) ?_)));have u1:S1 k g1:=n.frame _ _ _ B λb f o e=>(e1.2 b (Z.a1 b f).1).trans e
 refine n.item k { s with heap:=g1 } _ _ k1 u1 λx g2 M px v1 e2=>wpAny_pure ?_
 have N:IsPair g2 TO a b:=(e2.2 TO Z.TO1).trans ((e1.2 TO Z.TOz).trans X);refine wpAny_bind (wpAny_seqItems (s:={ s with heap:=g2,toks:=M }) N rfl (wpAny_bind (wpAny_updateSeq_pair N λF G i=>?_)));have G:IsPair F TO x b:=G;refine wpAny_bind (wpAny_letGo (wpAny_pure (wpAny_bind (wpAny_bind (wpAny_onRaise (wpAny_bind (m:=Builtin.SmallTypes.nextOf (.ref i2)) ?_))))));have u2:S2 k F:=p.frame _ _ _ C λb f o e=>(i.2 b (Z.a2 b f).2.1).trans ((e2.2 b (Z.a2 b f).2.2).trans ((e1.2 b (Z.a2 b f).1).trans e))
 refine p.item k { s with heap:=F,toks:=M } _ _ k2 u2 λy O H py v2 j=>wpAny_pure ?_
 have P:IsPair O TO x b:=(j.2 TO Z.TO2).trans G;refine wpAny_bind (wpAny_seqItems (s:={ s with heap:=O,toks:=H }) P rfl (wpAny_bind (wpAny_updateSeq_pair P λg q l=>?_)));have q:IsPair g TO x y:=q;refine wpAny_bind (wpAny_letGo (wpAny_pure (wpAny_pure (wpAny_bind (wpAny_seqItems (s:={ s with heap:=g,toks:=H }) q rfl (wpAny_bind (wpAny_newTuple ?_)))))));have sz:g.objs.size=s.heap.objs.size:=by rw[l.1,j.1,i.1,e2.1,e1.1]
 have R:IsZip g z TI TO .ellipsis:=(l.2 z Z.TOz.symm).trans ((j.2 z Z.z2.symm).trans ((i.2 z Z.TOz.symm).trans ((e2.2 z Z.z1.symm).trans D)));have I:∀c o,c≠z->c≠TO->c≠i1->c≠i2->s.heap.get? c=some o->g.get? c=some o:=λc o c1 r J K e =>
  (l.2 c r).trans ((j.2 c K).trans ((i.2 c r).trans ((e2.2 c J).trans ((e1.2 c c1).trans e))))
 have w1:S1 (k+1) g:=n.frame _ _ _ v1 λb f o e=>(l.2 b (Z.a1 b f).2.1).trans ((j.2 b (Z.a1 b f).2.2).trans ((i.2 b (Z.a1 b f).2.1).trans e))
 have w2:S2 (k+1) g:=p.frame _ _ _ v2 λb f o e=>(l.2 b (Z.a2 b f).2.1).trans e
 have zl:z<g.objs.size:=Mg R;refine wpAny_bind (m:=Builtin.SmallTypes.ownedTupleHandOut (.ref z) (.ref g.objs.size)) ?_;unfold Builtin.SmallTypes.ownedTupleHandOut;have y6:IsZip (g.push { cls:=.type "tuple",data:=.seq #[x,y] }) z TI TO .ellipsis:=M3 _ R;refine wpAny_bind (wpAny_setField_rec y6 (by simp) λg7 L S=>?_);have L:IsZip g7 z TI TO (rawInt g.objs.size):=L;refine wpAny_setField_rec L (by simp) λt u T=>?_
 have u:IsZip t z TI TO (rawInt g.objs.size):=u;have up:∀c o,c≠z->g.get? c=some o->t.get? c=some o:=λc o c1 e=>(T.2 c c1).trans ((S.2 c c1).trans (M3 _ e))
 have U:IsPair t g.objs.size x y:=(T.2 _ (MU zl)).trans ((S.2 _ (MU zl)).trans (Ml _ rfl));refine wpAny_pure ⟨_,rfl,?_⟩;rw[sz]at u U;show Q (.ref g.objs.size) _;rw[sz];exact Y t x y H px py u (up _ _ Z.TOz q) (n.frame _ _ _ w1 λb f o e=>up b o (Z.a1 b f).1 e) (p.frame _ _ _ w2 λb f o e=>up b o (Z.a2 b f).1 e) U λc o c1 r J K e=>up c o c1 (I c o c1 r J K e)
theorem Co(j:Draws prog w A i1 f1 n1 P1 S1)(Z:mT z TI TO i1 i2 f1 f2){Q:Fin->Shared->Prop}(f:IsZip s.heap z TI TO .none)(r:IsPair s.heap TI (.ref i1) (.ref i2))(hO:IsPair s.heap TO a b)(g:S1 n1 s.heap)
  (t:∀h' e,(∀c o,c≠z->c≠TO->c≠i1->c≠i2->s.heap.get? c=some o->h'.get? c=some o)->(∃o,h'.get? e=some o/\o.cls=.type "StopIteration")->E (.ref e) { s with heap:=h' }) :
  wpAny (model prog w) A (Builtin.«zip.__next__» ⟨[.ref z],[]⟩) Q E s:=by
 refine wpAny_bind (m:=field (.ref z) 2) (wpAny_field f rfl (x:=.bool false) rfl ?_);refine wpAny_bind (m:=field (.ref z) 3) (wpAny_field f rfl (x:=.ref TI) rfl ?_);refine wpAny_bind (wpAny_seqItems r rfl ?_);refine wpAny_bind (m:=Builtin.SmallTypes.ownedTupleIsFree (.ref z)) ?_;unfold Builtin.SmallTypes.ownedTupleIsFree;refine wpAny_bind (wpAny_field f rfl (x:=.none) rfl (wpAny_pure ?_));rw[if_pos (by rfl)];refine wpAny_bind (wpAny_rule (wpAny_bind (wpAny_field f rfl (x:=.ref TO) rfl (wpAny_bind (wpAny_setField_rec f (by simp) λg1 h e1=>?_)))));have h:IsZip g1 z TI TO .ellipsis:=h;refine wpAny_bind ?_;simp only[List.zipIdx_cons,List.zipIdx_nil,NP,List.forIn_nil];refine wpAny_bind (wpAny_bind (wpAny_onRaise (wpAny_bind (m:=Builtin.SmallTypes.nextOf (.ref i1)) ?_)));have u1:S1 n1 g1:=j.frame _ _ _ g λb u o e=>(e1.2 b (Z.a1 b u).1).trans e
 refine j.done { s with heap:=g1 } _ _ u1 λg2 e x2 v=>?_
 obtain⟨oe,ge,l⟩:=v;have n:IsZip g2 z TI TO .ellipsis:=x2 _ _ Z.z1.symm h;have i:e≠z:=λq=>by subst q;rw[n]at ge;cases ge;simp at l
 refine wpAny_setField_rec n (by simp) λy _ p=>t y e (λc o c1 _ B _ q=>(p.2 c c1).trans (x2 _ _ B ((e1.2 c c1).trans q))) ⟨oe,(p.2 e i).trans ge,l⟩
theorem w6(i:Draws prog w A.in1 i1 f1 n1 P1 S1)(j:Draws prog w A.in1 i2 f2 n2 P2 S2)(Z:mT z TI TO i1 i2 f1 f2){Q:Option Value->Shared->Prop}(g:IsZip s.heap z TI TO .none)(l:IsPair s.heap TI (.ref i1) (.ref i2))(m:IsPair s.heap TO a b)
  (e:S1 k s.heap) (f:S2 k s.heap) (k1:k<n1) (k2:k<n2)
  (n:∀h' x y tk,P1 k x->P2 k y->IsZip h' z TI TO (rawInt s.heap.objs.size)->IsPair h' TO x y->S1 (k+1) h'->S2 (k+1) h'->IsPair h' s.heap.objs.size x y ->
   (∀c o,c≠z->c≠TO->c≠i1->c≠i2->s.heap.get? c=some o->h'.get? c=some o)->Q (some (.ref s.heap.objs.size)) { s with heap:=h',toks:=tk }):wpAny (model prog w) A (pyNext (.ref z)) Q E s:=by
 have h:s.TypeIs (.ref z) "zip":=⟨_,g,rfl⟩
 unfold pyNext;refine wpAny_bind (wpAny_attempt (wpAny_callSpecial?_slot (name:=Str.ofString "__next__") h F.slot_zip_next (wpAny_call_entry F.slot_zip_next h F.entry_zip_next (Dq i j Z g l m e f k1 k2 λh' x y tk p1 p2 c1 p q r t u=>?_) (F.args_zip_next_1 _))));exact wpAny_pure (n h' x y tk p1 p2 c1 p q r t u)
theorem pV(i:Draws prog w A.in1 i1 f1 n1 P1 S1)(Z:mT z TI TO i1 i2 f1 f2){Q:Option Value->Shared->Prop}(g:IsZip s.heap z TI TO .none)(j:IsPair s.heap TI (.ref i1) (.ref i2))(l:IsPair s.heap TO a b)(f:S1 n1 s.heap)
  (m:∀h',(∀c o,c≠z->c≠TO->c≠i1->c≠i2->s.heap.get? c=some o->h'.get? c=some o)->Q none { s with heap:=h' }):wpAny (model prog w) A (pyNext (.ref z)) Q E s:=by
 have h:s.TypeIs (.ref z) "zip":=⟨_,g,rfl⟩
 unfold pyNext;refine wpAny_bind (wpAny_attempt (wpAny_callSpecial?_slot (name:=Str.ofString "__next__") h F.slot_zip_next (wpAny_call_entry F.slot_zip_next h F.entry_zip_next (Co i Z g j l f λh' e k0 n=>?_) (F.args_zip_next_1 _))));obtain⟨o,p,hc⟩:=n;exact wpAny_bind (wpAny_isInstance (T:="StopIteration") (b:=true) ⟨o,p,hc⟩ isSubtype_stop (wpAny_pure (m _ k0)))
abbrev zH1(h:Heap)(t:Addr):Heap:=h.push { cls:=.type "tuple_iterator",data:=.fields #[.ref t,.int 0 0] }
abbrev zH2(h:Heap)(t l:Addr):Heap:=(zH1 h t).push { cls:=.type "list_iterator",data:=.fields #[.ref l,.int 0 0] }
abbrev zH3(h:Heap)(t l:Addr):Heap:=(zH2 h t l).push { cls:=.type "tuple",data:=.seq #[.ref h.objs.size,.ref (zH1 h t).objs.size] }
abbrev zH4(h:Heap)(t l:Addr):Heap:=(zH3 h t l).push { cls:=.type "tuple",data:=.seq #[.none,.none] }
abbrev zH5(h:Heap)(t l:Addr):Heap:=(zH4 h t l).push { cls:=.type "zip",data:=.fields #[.none,.bool false,.bool false,.ref (zH2 h t l).objs.size,.ref (zH3 h t l).objs.size] }
theorem vi(t l:Addr)(xs ys:Array Value):Meets (Builtin.«zip.__new__» ⟨[.type "zip",.ref t,.ref l],[]⟩) (λ_ R s=>s.heap.IsTuple t xs/\s.heap.IsList l ys/\R (.ok (.ret (.ref (zH4 s.heap t l).objs.size))) { s with heap:=zH5 s.heap t l }) :=
 .of_wp λprog w A R s h=>by
  obtain⟨c,g,d,tk,os⟩:=s;obtain⟨e,hl,h⟩:=h;have sb:isSubtype (.type "zip") (.type "zip")=pure true:=by rw[isSubtype_type];kernel_rfl
  have a:Heap.IsTuple (Shared.heap ⟨c,g,d,tk,os⟩) t xs:=e;have b:Heap.IsList (Shared.heap ⟨c.push { cls:=.type "tuple_iterator",data:=.fields #[.ref t,.int 0 0] },g,d,tk,os⟩) l ys:=Heap.IsList.push hl _
  wp_walk using wpAny_pyIter_tuple a,wpAny_pyIter_list b
  exact⟨_,rfl,h⟩
theorem xB{t l:Addr}{xs ys:Array Value}(a:s.heap.IsTuple t xs)(hl:s.heap.IsList l ys)(h:Q (.ref (zH4 s.heap t l).objs.size) { s with heap:=zH5 s.heap t l }) :
  wpAny (model prog w) A (call (.type "zip") [.ref t,.ref l]) Q E s:=by
 refine callType_new F.called_zip (by decide) (F.typeCall_zip_2 _ _) (F.newCall_zip_2 _ _) (λobj=>F.args_object_init_3 obj _ _) F.entry_zip_new (vi t l xs ys) ⟨a,hl,?_⟩;exact⟨⟨_,Ml _ rfl,rfl⟩,h⟩
end
section
variable {σ:L2.St}
theorem Inv.turnLay{ch:List Addr}{t':Nat}{T:Addr}(I:Inv X pins σ H s)(g:∀b∈ch,oZ X pins H b)(h:s.heap.objs.size<=T)(k:∀b u,b∉ch->s.heap.get? b=some u->h'.get? b=some u)
  (new:cE X.prog X.w (upd H T o) h' T o):Inv X pins σ (upd H T o) { s with heap:=h',toks:=t' }:=by
 have hn:H T=none:=I.hok.fresh h;have a:∀b u,H b=some u->b∉ch:=λb u e z=>by rw[(g b z).1]at e;cases e
 have neT:∀b u,s.heap.get? b=some u->b≠T:=λb u e=>Mf (Mq (Mg e) h)
 refine I.step (g':=s.gens) (d':=s.drawn) (ch:=ch) (λb f=>?_) (λb u _ _ hc e _=>k b u hc e) (λb u _ _ hc e _=>⟨u.slots,k b u hc e⟩) (λb u _ e n=>by rw[aB (neT b u e)];exact n)
  (λb u hc e=>⟨u,k b u hc e⟩) (λb xs e=>by rw[aB (aK e hn)];exact e) (λb u v e=>by rw[aB (aK e hn)];exact e) (λb ps e=>by rw[aB (aK e hn)];exact e) (λm hm=>?_) (λb u e=>?_) I.bare
 ·obtain⟨f0,f1,f2,j,l,p⟩:=g b f;exact⟨j,f1,l,p⟩
 ·obtain⟨i,es,ep,t,r⟩:=hm;exact⟨i,es,ep,k _ i (λz=>(g _ z).2.1 rfl) t,r⟩
 ·by_cases f:b=T
  ·subst f;rw[aH]at e;cases e;exact new
  ·rw[aB f]at e;refine (I.hok b u e).stay (λc v hc q=>k c v ?_ q) (λc q=>by rw[aB (aK q hn)];exact q) (λc xs q=>by rw[aB (aK q hn)];exact q) λc o' w' q=>by rw[aB (aK q hn)];exact q
   rcases hc with z|z
   ·rw[z];exact a b u e
   ·exact a c _ z
theorem Inv.turneds{ch:List Addr}{t':Nat}(I:Inv X pins σ H s)(f:∀b∈ch,oZ X pins H b)(k:∀b u,b∉ch->s.heap.get? b=some u->h'.get? b=some u):Inv X pins σ H { s with heap:=h',toks:=t' }:=by
 have a:∀b u,H b=some u->b∉ch:=λb u e z=>by rw[(f b z).1]at e;cases e
 refine I.step (g':=s.gens) (d':=s.drawn) (ch:=ch) (λb h=>?_) (λb u _ _ hc e _=>k b u hc e) (λb u _ _ hc e _=>⟨u.slots,k b u hc e⟩) (λb u _ e n=>n)
  (λb u hc e=>⟨u,k b u hc e⟩) (λb xs e=>e) (λb u v e=>e) (λb ps e=>e) (λm hm=>?_) (λb u e=>?_) I.bare
 ·obtain⟨f0,f1,f2,i,j,l⟩:=f b h;exact⟨i,f1,j,l⟩
 ·obtain⟨g,es,ep,o,r⟩:=hm;exact⟨g,es,ep,k _ g (λz=>(f _ z).2.1 rfl) o,r⟩
 ·refine (I.hok b u e).stay (λc v hc q=>k c v ?_ q) (λ_ q=>q) λ_ _ q=>q
  rcases hc with z|z
  ·rw[z];exact a b u e
  ·exact a c _ z
end
def Itz(K:W.Frag)(a b:Addr)(n:Nat):It :=
 ⟨λi H=>i<n/\∃xs ys,SqT K H a xs/\SqL K H b ys/\xs.length=n/\ys.length=n,
  λi H v H'=>∃t x y,v=.ref t/\H t=none/\H'=upd H t (.tup [x,y])/\(∀xs,SqT K H a xs->xs[i]?=some x)/\∀ys,SqL K H b ys->ys[i]?=some y,
  λi H=>i=n/\∃xs ys,SqT K H a xs/\SqL K H b ys/\xs.length=n/\ys.length=n⟩
theorem Bq{tp:Pos}{z TI TO i1 i2:Addr}(Z:mT z TI TO i1 i2 [i1,a] [i2,b]) :
  Turn P w K (.Tuple elts x1 tp) (Itz K a b n) [z,TI,TO,i1,i2] z (λi h=>IsZip h z TI TO .none/\IsPair h TI (.ref i1) (.ref i2)/\(∃u v,IsPair h TO u v)/\h.IsTupleIter i1 a i/\h.IsListIter i2 b i) where
 mem:=by simp
 obj:=λi h st c hc=>by
  obtain⟨h1,h2,⟨u,v,m⟩,⟨r,f,_,d4⟩,⟨B,l,_,d5⟩⟩:=st;simp only[M8,Mt,or_false]at hc;rcases hc with rfl|rfl|rfl|rfl|rfl
  ·exact⟨_,h1,λv q=>by cases q⟩
  ·exact⟨_,h2,λv q=>by cases q⟩
  ·exact⟨_,m,λv q=>by cases q⟩
  ·exact⟨_,f,λv q=>by rw[d4]at q;cases q⟩
  ·exact⟨_,l,λv q=>by rw[d5]at q;cases q⟩
 keep:=λi h h' st k=>by obtain⟨h1,h2,⟨u,v,m⟩,⟨r,f,U⟩,⟨B,l,Y⟩⟩:=st;exact⟨k z (by simp) _ h1,k TI (by simp) _ h2,⟨u,v,k TO (by simp) _ m⟩,⟨r,k i1 (by simp) _ f,U⟩,⟨B,k i2 (by simp) _ l,Y⟩⟩
 item:=by
  intro X hP hw hK hc i pins s σ H E I O st hg;subst hP hw hK;obtain⟨hi,xs,ys,Q,hy,lx,ly⟩:=hg;obtain⟨h1,h2,⟨u,v,m⟩,C,R⟩:=st;obtain⟨its,S,p,_⟩:=I.tuple Q;obtain⟨D,F,p',_⟩:=I.list hy;have la:=S.length;have lb:=F.length;have T:X.A.in1.handled=none:=I.ok.hd hc;have na:a≠i1:=λq=>by obtain⟨o,g,c,_⟩:=p;obtain⟨r,f,G,_⟩:=C;rw[q,f]at g;cases g;rw[G]at c;exact absurd (Value.type.inj c) (by decide)
  have nb:b≠i2:=λq=>by obtain⟨o,n,g,c,_⟩:=p';obtain⟨B,l,c5,_⟩:=R;rw[q,l]at g;cases g;rw[c5]at c;exact absurd (Value.type.inj c) (by decide)
  have pt:s.heap.IsTuple a its.toArray:=p;refine w6 (mJ T i1 a na its.toArray) (Draws.list T i2 b nb D.toArray) Z h1 h2 m ⟨C,pt⟩ ⟨R,p'.isList⟩ (by simp;omega) (by simp;omega) λh' x y tk px py c1 c2 c3 G c5 c6=>⟨_,rfl,?_⟩
  refine wpAny_letOwnedTupleGo_zip (s:={ s with heap:=h',toks:=tk }) c1 λh2' d1 d2=>?_
  have zl:z<s.heap.objs.size:=Mg h1;have up:∀c o,c≠z->h'.get? c=some o->h2'.get? c=some o:=λc o hc e=>(d2.2 c hc).trans e
  have nT:s.heap.objs.size≠z:=MU zl;obtain⟨J,ex,rx⟩:∃J,xs[i]?=some J/\RelV J x:=by
   have j:i<xs.length:=by omega
   obtain⟨u',e1,e2⟩:=S.get (M1 j);refine⟨xs[i],M1 j,?_⟩;have L:its[i]?=some x:=by simpa using px
   rw[e1]at L;cases L;exact e2
  obtain⟨M,ey,ry⟩:∃M,ys[i]?=some M/\RelV M y:=by
   have j:i<ys.length:=by omega
   obtain⟨u',e1,e2⟩:=F.get (M1 j);refine⟨ys[i],M1 j,?_⟩;have N:D[i]?=some y:=by simpa using py
   rw[e1]at N;cases N;exact e2
  have fr:H s.heap.objs.size=none:=I.hok.fresh (Me _);refine⟨.ref s.heap.objs.size,upd H s.heap.objs.size (.tup [J,M]),?_,rfl,⟨_,J,M,rfl,fr,rfl,λxs' h=>by rw[I.tuple_inj h Q];exact ex,λys' h=>by rw[I.list_inj h hy];exact ey⟩,?_,λc t=>?_⟩
  ·refine I.turnLay (t':=tk) (ch:=[z,TI,TO,i1,i2]) O (Me _) (λc o hn e=>?_) ⟨by show 2<=sizeLine;decide,[x,y],.cons rx (.cons ry .nil),⟨_,up _ _ nT c5,rfl,rfl,_,rfl⟩⟩;simp only[M8,Mt,or_false,not_or]at hn;exact up c o hn.1 (c6 c o hn.1 hn.2.2.1 hn.2.2.2.1 hn.2.2.2.2 e)
  ·obtain⟨⟨r,f,U⟩,_⟩:=c3;obtain⟨⟨B,l,Y⟩,_⟩:=G;exact⟨d1,up _ _ Z.TIz (c6 _ _ Z.TIz Z.TIO Z.TI1 Z.TI2 h2),⟨x,y,up _ _ Z.TOz c2⟩,⟨r,up _ _ Z.z1 f,U⟩,⟨B,up _ _ Z.z2 l,Y⟩⟩
  ·have h0:=(O c t).1;obtain⟨oc,gc⟩:∃oc,s.heap.get? c=some oc:=by
    simp only[M8,Mt,or_false]at t;rcases t with rfl|rfl|rfl|rfl|rfl
    ·exact⟨_,h1⟩
    ·exact⟨_,h2⟩
    ·exact⟨_,m⟩
    ·obtain⟨r,f,_⟩:=C;exact⟨_,f⟩
    ·obtain⟨B,l,_⟩:=R;exact⟨_,l⟩
   rw[aB (Mf (Mg gc))];exact h0
 done:=by
  intro X hP hw hK hc i pins s σ H E I O st hg;subst hP hw hK;obtain⟨hi,xs,ys,Q,hy,lx,ly⟩:=hg;obtain⟨h1,h2,⟨u,v,m⟩,C,R⟩:=st;obtain⟨its,S,p,_⟩:=I.tuple Q;have la:=S.length;have T:X.A.in1.handled=none:=I.ok.hd hc;have na:a≠i1:=λq=>by obtain⟨o,g,c,_⟩:=p;obtain⟨r,f,G,_⟩:=C;rw[q,f]at g;cases g;rw[G]at c;exact absurd (Value.type.inj c) (by decide)
  have pt:s.heap.IsTuple a its.toArray:=p;have e:its.toArray.size=i:=by simp;omega
  refine pV (mJ T i1 a na its.toArray) Z h1 h2 m ⟨by rw[e];exact C,pt⟩ λh' k=>⟨rfl,?_⟩
  refine I.turneds (t':=s.toks) (ch:=[z,TI,TO,i1,i2]) O λc o hn q=>?_
  simp only[M8,Mt,or_false,not_or]at hn;exact k c o hn.1 hn.2.2.1 hn.2.2.2.1 hn.2.2.2.2 q
 self:=λ_ _ _ _ _ st h=>wpAny_pyIter_zip st.1 h
theorem boot_zip:bootBuiltins "zip"=some (.type "zip"):=by decide +kernel
def L0(K:W.Frag)(ta:TA):TI:=λσ H R=>ta σ H λvs H1=>∃a b xs ys,vs=[.ref a,.ref b]/\SqT K H1 a xs/\SqL K H1 b ys/\ys.length=xs.length/\R (Itz K a b xs.length) H1
theorem HR{z:Pos}{a b:Expr}(A:Gl X "zip")(hm:X.mg "zip"=none)(ha:PA X [a,b] ta)(B:starEach [a,b] X.env=[(false,eval a X.env),(false,eval b X.env)]:=by rfl)(r:starEach [b] X.env=[(false,eval b X.env)]:=by rfl) :
  PI X (.Tuple elts x1 z) (.Call (.Name "zip" p) [a,b] [] pos) (L0 X.K ta):=by
 intro pins s σ H R I h;refine Call_ (fo I A hm boot_zip (PyProof.Rows.callWith_type1 (thn (ha pos pins s σ H _ I h) λus f v=>?_) (by rw[B,r]) (by rw[r];rfl)));obtain⟨vs,H1,t,C,D⟩:=v;obtain⟨l,m,xs,ys,e,E,F,hl,q⟩:=D;subst e;obtain⟨u1,u2,e1,G,J⟩:=vals2 C;subst e1;cases G;cases J;obtain⟨its,rv,pt,_⟩:=t.tuple E;obtain⟨jts,rw',pl,_⟩:=t.list F;have u:f.heap.IsTuple l its.toArray:=pt;have w:l<f.heap.objs.size:=by obtain⟨_,g,_⟩:=u;exact Mg g
 have bl:m<f.heap.objs.size:=by obtain⟨_,_,g,_⟩:=pl;exact Mg g
 refine xB u pl.isList ?_;have z1:(zH1 f.heap l).objs.size=f.heap.objs.size+1:=Heap.size_push ..;have z2:(zH2 f.heap l m).objs.size=f.heap.objs.size+2:=by rw[Heap.size_push,z1]
 have z3:(zH3 f.heap l m).objs.size=f.heap.objs.size+3:=by rw[Heap.size_push,z2]
 have x:(zH4 f.heap l m).objs.size=f.heap.objs.size+4:=by rw[Heap.size_push,z3]
 have y:IsZip (zH5 f.heap l m) (zH4 f.heap l m).objs.size (zH2 f.heap l m).objs.size (zH3 f.heap l m).objs.size .none:=Ml _ rfl;have L:IsPair (zH5 f.heap l m) (zH3 f.heap l m).objs.size .none .none:=M3 _ (Ml _ rfl);have M:IsPair (zH5 f.heap l m) (zH2 f.heap l m).objs.size (.ref f.heap.objs.size) (.ref (zH1 f.heap l).objs.size):=M3 _ (M3 _ (Ml _ rfl));have g2:(zH5 f.heap l m).IsListIter (zH1 f.heap l).objs.size m 0:=⟨_,M3 _ (M3 _ (M3 _ (Ml _ rfl))),rfl,rfl⟩
 have g1:(zH5 f.heap l m).IsTupleIter f.heap.objs.size l 0:=⟨_,M3 _ (M3 _ (M3 _ (M3 _ (Ml _ rfl)))),rfl,rfl⟩
 have N:∀c o,f.heap.get? c=some o->(zH5 f.heap l m).get? c=some o:=λc o e=>M3 _ (M3 _ (M3 _ (M3 _ (M3 _ e))))
 have O:Inv X pins σ H1 { f with heap:=zH5 f.heap l m }:=t.kept (t':=f.toks) N;have Z:mT (zH4 f.heap l m).objs.size (zH2 f.heap l m).objs.size (zH3 f.heap l m).objs.size f.heap.objs.size (zH1 f.heap l).objs.size [f.heap.objs.size,l] [(zH1 f.heap l).objs.size,m]:=by
  rw[z1,z2,z3,x];have n:∀i j:Nat,i≠j->f.heap.objs.size+i≠f.heap.objs.size+j:=λi j h q=>h (Nat.add_left_cancel q)
  refine⟨n 2 4 (by decide),n 3 4 (by decide),n 0 4 (by decide),n 1 4 (by decide),n 2 3 (by decide),n 2 0 (by decide),n 2 1 (by decide),n 3 0 (by decide),n 3 1 (by decide),n 0 1 (by decide),λc hc=>?_,λc hc=>?_⟩
  ·simp only[M8,Mt,or_false]at hc;rcases hc with rfl|rfl
   ·exact⟨n 0 4 (by decide),n 0 3 (by decide),n 0 1 (by decide)⟩
   ·exact⟨Mf (Mq w (N6 _ _)),Mf (Mq w (N6 _ _)),Mf (Mq w (N6 _ _))⟩
  ·simp only[M8,Mt,or_false]at hc;rcases hc with rfl|rfl
   ·exact⟨n 1 4 (by decide),n 1 3 (by decide),n 1 0 (by decide)⟩
   ·exact⟨Mf (Mq bl (N6 _ _)),Mf (Mq bl (N6 _ _)),Mf bl⟩
 have big:∀c∈[(zH4 f.heap l m).objs.size,(zH2 f.heap l m).objs.size,(zH3 f.heap l m).objs.size,f.heap.objs.size,(zH1 f.heap l).objs.size],f.heap.objs.size<=c:=λc hc=>by
  simp only[M8,Mt,or_false]at hc;rcases hc with rfl|rfl|rfl|rfl|rfl
  ·rw[x];exact N6 _ _
  ·rw[z2];exact N6 _ _
  ·rw[z3];exact N6 _ _
  ·exact Me _
  ·rw[z1];exact N6 _ _
 refine wpAny_pyIter_zip y ⟨_,_,_,_,H1,rfl,O,Bq Z,⟨y,M,⟨_,_,L⟩,g1,g2⟩,λc hc=>?_,q⟩;exact t.fpOk (big c hc) (t.hok.fresh (big c hc))
inductive Rs (α:Type) where
 |ok (a:α)
 |rz (C:Addr)
 |no
namespace Rs
noncomputable def bind{α β:Type}:Rs α->(α->Rs β)->Rs β
 |ok a,f=>f a
 |rz C,_=>rz C
 |no,_=>no
def ee{α:Type}:Option α->Rs α
 |some a=>ok a
 |none=>no
noncomputable def calm{α:Type}:Rs α->Rs α
 |ok a=>ok a
 |_=>no
@[simp]theorem ag(a:α)(f:α->Rs β):(ok a).bind f=f a:=rfl
@[simp]theorem cB(C:Addr)(f:α->Rs β):(rz C).bind f=rz C:=rfl
@[simp]theorem bf(f:α->Rs β):(no:Rs α).bind f=no:=rfl
@[simp]theorem ai(a:α):ee (some a)=ok a:=rfl
@[simp]theorem HD:ee (none:Option α)=no:=rfl
@[simp]theorem c8(a:α):(ok a).calm=ok a:=rfl
end Rs
variable {gf:List PyData->Rs PyData}
noncomputable def del(H:Hp)(A:List Addr):Hp:=λb=>if b∈A then none else H b
theorem yb:del H []=H:=by funext b;simp[del]
theorem gz(h:b∈A):del H A b=none:=by simp[del,h]
theorem aI(h:b∉A):del H A b=H b:=by simp[del,h]
theorem a9(h:del H A b=some o):b∉A/\H b=some o:=by
 by_cases z:b∈A
 ·rw[gz z]at h;cases h
 ·rw[aI z]at h;exact⟨z,h⟩
theorem aw:av (del H A) H:=λ_ _ e=>(a9 e).2
theorem av.del(s:av H H'):av (del H A) (L2.del H' A):=λb o e=>by obtain⟨z,e⟩:=a9 e;rw[aI z];exact s b o e
def Jp:HO->Bool
 |.lst _=>true
 |.dK _=>true
 |.dT _=>true
 |_=>false
def Ls(H:Hp)(A:List Addr):Prop:=∀a∈A,∃o,H a=some o/\Jp o=true
theorem Ls.same(h:Ls H A)(s:av H H'):Ls H' A:=λa ha=>by obtain⟨o,e,q⟩:=h a ha;exact⟨o,s _ _ e,q⟩
theorem Ls.nil:Ls H []:=λ_ h=>by cases h
theorem Ls.new{p:Addr}(h:Ls H A)(a:H p=none):p∉A:=λz=>by obtain⟨xs,e,_⟩:=h p z;rw[a]at e;cases e
def ao(ns:List Int):PyData:=.dict [(.none,.list (ns.map .int))]
abbrev dtK(l:List ((Int×Int)×Int)):List (PyData×PyData):=(.bool true,.none)::l.map λp=>(.tuple [.int p.1.1,.int p.1.2],.int p.2)
abbrev dtO(l:List ((Int×Int)×Int)):HO:=.dT (l.map λp=>([.inl p.1.1,.inl p.1.2],V.int p.2))
abbrev dfK(l:List (Int×Int)):List (PyData×PyData):=(.bool false,.none)::l.map λp=>(.int p.1,.int p.2)
def EO(kvs:List (PyData×PyData))(o:HO):Prop:=(∃l:List (Int×Int),kvs=l.map (λp=>(PyData.int p.1,PyData.int p.2))/\o=.dK (l.map λp=>(.inl p.1,V.int p.2)))\/(∃l,kvs=dtK l/\o=dtO l)\/∃l ob,kvs=dfK l/\o=.frz ob (.dK (l.map λp=>(.inl p.1,V.int p.2)))
mutual
def Is(K:W.Frag)(H:Hp):PyData->V->Prop
 |.none,v=>v=.non
 |.bool b,v=>v=.bl b
 |.int i,v=>v=.int i
 |.str x,v=>v=.str x
 |.list ds,v=>∃a xs,v=.ref a/\H a=some (.lst xs)/\Iss K H ds xs
 |.tuple ds,v=>∃a xs,v=.ref a/\H a=some (.tup xs)/\Iss K H ds xs
 |.dict kvs,v=>((∃a ns,v=.ref a/\kvs=[(PyData.none,PyData.list (List.map PyData.int ns))]/\SqL K H a (List.map V.int ns)) \/
  ∃(a:Addr)(o:HO),v=.ref a/\EO kvs o/\H a=some o) \/
  ∃(a C dx:Addr)(fs:List (Str×V)),v=.ref a/\H a=some (.ins C dx fs)/\fs.lookup ("@":Str)=none/\(Isk K H kvs (("",.int (C:Int))::fs)\/Isk K H kvs (("",.int (C:Int))::("@",.int (a:Int))::fs))
def Iss(K:W.Frag)(H:Hp):List PyData->List V->Prop
 |[],vs=>vs=[]
 |d::ds,vs=>∃v r,vs=v::r/\Is K H d v/\Iss K H ds r
def Isk(K:W.Frag)(H:Hp):List (PyData×PyData)->List (Str×V)->Prop
 |[],fs=>fs=[]
 |(k,d)::r,fs=>∃f v fs',fs=(f,v)::fs'/\k=.str f/\Is K H d v/\Isk K H r fs'
end
noncomputable def cm(C a:Addr)(fds:List (Str×PyData)):PyData:=.dict ((.str "",.int (C:Int))::(.str "@",.int (a:Int))::fds.map λp=>(.str p.1,p.2))
section
theorem bJ{i:Int}:Is K H (.int i) (.int i):=by unfold Is;rfl
theorem is_bool{b:Bool}:Is K H (.bool b) (.bl b):=by unfold Is;rfl
theorem is_none:Is K H .none .non:=by unfold Is;rfl
theorem DQ:Is K H (.str x) (.str x):=by unfold Is;rfl
theorem ik(h:H a=some (.tup xs))(h2:Iss K H ds xs):Is K H (.tuple ds) (.ref a):=by unfold Is;exact⟨a,xs,rfl,h,h2⟩
theorem iP(h:H a=some (.lst xs))(h2:Iss K H ds xs):Is K H (.list ds) (.ref a):=by unfold Is;exact⟨a,xs,rfl,h,h2⟩
theorem Ab(h:SqL K H a (ns.map V.int)):Is K H (ao ns) (.ref a):=by unfold ao Is;exact .inl (.inl ⟨a,ns,rfl,rfl,h⟩)
theorem cR:Iss K H [] []:=by unfold Iss;rfl
theorem cA{d:PyData}(h:Is K H d v)(h2:Iss K H ds vs):Iss K H (d::ds) (v::vs):=by unfold Iss;exact⟨v,vs,rfl,h,h2⟩
theorem hU{d:PyData}(h:Is K H d v):Iss K H [d] [v]:=cA h cR
theorem Is.ofInt{i:Int}(h:Is K H (.int i) v):v=.int i:=by unfold Is at h;exact h
theorem Is.ofBool{i:Bool}(h:Is K H (.bool i) v):v=.bl i:=by unfold Is at h;exact h
theorem Is.ofNone(h:Is K H .none v):v=.non:=by unfold Is at h;exact h
theorem Is.ofStr(h:Is K H (.str x) v):v=.str x:=by unfold Is at h;exact h
theorem Is.ofTup(h:Is K H (.tuple ds) v):∃a xs,v=.ref a/\H a=some (.tup xs)/\Iss K H ds xs:=by unfold Is at h;exact h
theorem Is.ofLst(h:Is K H (.list ds) v):∃a xs,v=.ref a/\H a=some (.lst xs)/\Iss K H ds xs:=by unfold Is at h;exact h
theorem Is.ofScript(h:Is K H (ao ns) v):∃a,v=.ref a/\SqL K H a (ns.map V.int):=by
 unfold ao Is at h;rcases h with (h|⟨a,l,_,e,_⟩)|⟨a,C,dx,fs,_,_,_,h|h⟩
 case inl.inr=>rcases e with⟨m,e,_⟩|⟨m,e,_⟩|⟨m,_,e,_⟩ <;> first|(cases e;done)|(cases m <;> cases e)
 case inr.inl=>unfold Isk at h;obtain⟨f,_,_,_,h,_⟩:=h;cases h
 case inr.inr=>unfold Isk at h;obtain⟨f,_,_,_,h,_⟩:=h;cases h
 obtain⟨a,g,e,e2,h⟩:=h;have i:ns.map PyData.int=g.map PyData.int:=by injection e2 with e2 _;injection e2 with _ e2;injection e2
 have j:ns=g:=by
  have inj:∀(a b:List Int),a.map PyData.int=b.map PyData.int->a=b:=by
   intro a
   induction a with
   |nil=>intro b c;cases b with|nil=>rfl|cons _ _=>simp at c
   |cons x r ih =>
    intro b c;cases b with
    |nil=>simp at c
    |cons y s =>simp only[M5,List.cons.injEq,PyData.int.injEq]at c;rw[c.1,ih s c.2]
  exact inj _ _ i
 subst j;exact⟨a,e,h⟩
theorem Iss.nil_of(h:Iss K H [] vs):vs=[]:=by unfold Iss at h;exact h
theorem Iss.cons_of{d:PyData}(h:Iss K H (d::ds) vs):∃v r,vs=v::r/\Is K H d v/\Iss K H ds r:=by unfold Iss at h;exact h
theorem Iss.length:∀{ds:List PyData}{vs:List V},Iss K H ds vs->vs.length=ds.length
 |[],_,h=>by rw[h.nil_of];rfl
 |_::_,_,h=>by obtain⟨v,r,e,_,h2⟩:=h.cons_of;rw[e,Mp,Mp,Iss.length h2]
mutual
theorem Is.same(e:av H H'):∀{d:PyData}{v:V},Is K H d v->Is K H' d v
 |.none,_,h=>by unfold Is at h ⊢;exact h
 |.bool _,_,h=>by unfold Is at h ⊢;exact h
 |.int _,_,h=>by unfold Is at h ⊢;exact h
 |.str _,_,h=>by unfold Is at h ⊢;exact h
 |.list ds,_,h=>by unfold Is at h ⊢;obtain⟨a,xs,e1,h1,h2⟩:=h;exact⟨a,xs,e1,e _ _ h1,Iss.same e h2⟩
 |.tuple ds,_,h=>by unfold Is at h ⊢;obtain⟨a,xs,e1,h1,h2⟩:=h;exact⟨a,xs,e1,e _ _ h1,Iss.same e h2⟩
 |.dict _,_,h=>by
  unfold Is at h ⊢;rcases h with (⟨a,ns,e1,e2,h2⟩|⟨a,l,e1,e2,h2⟩)|⟨a,C,dx,fs,e1,h1,hn,h2|h2⟩
  ·exact .inl (.inl ⟨a,ns,e1,e2,e.seq h2⟩)
  ·exact .inl (.inr ⟨a,l,e1,e2,e _ _ h2⟩)
  ·exact .inr ⟨a,C,dx,fs,e1,e _ _ h1,hn,.inl (Isk.same e h2)⟩
  ·exact .inr ⟨a,C,dx,fs,e1,e _ _ h1,hn,.inr (Isk.same e h2)⟩
theorem Iss.same(e:av H H'):∀{ds:List PyData}{vs:List V},Iss K H ds vs->Iss K H' ds vs
 |[],_,h=>by unfold Iss at h ⊢;exact h
 |d::ds,_,h=>by unfold Iss at h ⊢;obtain⟨v,r,e1,h1,h2⟩:=h;exact⟨v,r,e1,Is.same e h1,Iss.same e h2⟩
theorem Isk.same(e:av H H'):∀{ds:List (PyData×PyData)}{fs:List (Str×V)},Isk K H ds fs->Isk K H' ds fs
 |[],_,h=>by unfold Isk at h ⊢;exact h
 |(k,d)::ds,_,h=>by unfold Isk at h ⊢;obtain⟨f,v,r,e1,e2,h1,h2⟩:=h;exact⟨f,v,r,e1,e2,Is.same e h1,Isk.same e h2⟩
end
theorem n8:Isk K H [] []:=by unfold Isk;rfl
theorem eI{f:Str}{d:PyData}{r:List (PyData×PyData)}{fs:List (Str×V)}(h:Is K H d v)(h2:Isk K H r fs):Isk K H ((.str f,d)::r) ((f,v)::fs):=by unfold Isk;exact⟨f,v,fs,rfl,rfl,h,h2⟩
theorem CK{fds:List (Str×PyData)}{fs:List (Str×V)}(h:H a=some (.ins C dx fs))(hn:fs.lookup ("@":Str)=none)(h2:Isk K H (fds.map λp=>(.str p.1,p.2)) fs):Is K H (cm C a fds) (.ref a):=by unfold cm Is;exact .inr ⟨a,C,dx,fs,rfl,h,hn,.inr (eI bJ (eI bJ h2))⟩
theorem Jj(b:Ls H A)(h:H a=some (.tup xs)):del H A a=some (.tup xs):=by rw[aI (λq=>by obtain⟨ys,e2,c⟩:=b a q;rw[h]at e2;cases e2;cases c)];exact h
mutual
theorem Is.dl{A:List Addr}(b:Ls H A):∀{d:PyData}{v:V},dG d=true->Is K H d v->Is K (del H A) d v
 |.none,_,_,h=>by unfold Is at h ⊢;exact h
 |.bool _,_,_,h=>by unfold Is at h ⊢;exact h
 |.int _,_,_,h=>by unfold Is at h ⊢;exact h
 |.str _,_,_,h=>by unfold Is at h ⊢;exact h
 |.list _,_,n,_=>by unfold dG at n;cases n
 |.dict _,_,n,_=>by unfold dG at n;cases n
 |.tuple ds,_,n,h=>by unfold dG at n;obtain⟨a,xs,e,h1,h2⟩:=h.ofTup;subst e;exact ik (Jj b h1) (Iss.dl b n h2)
theorem Iss.dl{A:List Addr}(a:Ls H A):∀{ds:List PyData}{vs:List V},kG ds=true->Iss K H ds vs->Iss K (del H A) ds vs
 |[],_,_,h=>by rw[h.nil_of];exact cR
 |d::ds,_,n,h=>by unfold kG at n;obtain⟨n1,n2⟩:=N0.mp n;obtain⟨v,r,e,h1,h2⟩:=h.cons_of;subst e;exact cA (Is.dl a n1 h1) (Iss.dl a n2 h2)
end
mutual
def aG:PyData->Bool
 |.list ds=>df ds
 |.tuple ds=>df ds
 |.dict _=>false
 |_=>true
def df:List PyData->Bool
 |[]=>true
 |d::ds=>aG d&&df ds
end
mutual
theorem Is.isd:∀{d:PyData}{v:V},aG d=true->Is K H d v->IsD K H d v
 |.none,_,_,h=>by rw[h.ofNone];exact Ed
 |.bool _,_,_,h=>by rw[h.ofBool];exact Eg
 |.int _,_,_,h=>by rw[h.ofInt];exact uE
 |.str _,_,_,h=>by rw[h.ofStr];exact GG
 |.list ds,_,n,h=>by unfold aG at n;obtain⟨a,xs,e,h1,h2⟩:=h.ofLst;subst e;exact uq (SqL.of h1) (Iss.isd n h2)
 |.tuple ds,_,n,h=>by unfold aG at n;obtain⟨a,xs,e,h1,h2⟩:=h.ofTup;subst e;exact EV (SqT.of h1) (Iss.isd n h2)
 |.dict _,_,n,_=>by unfold aG at n;cases n
theorem Iss.isd:∀{ds:List PyData}{vs:List V},df ds=true->Iss K H ds vs->eU K H ds vs
 |[],_,_,h=>by rw[h.nil_of];exact ph
 |d::ds,_,n,h=>by unfold df at n;obtain⟨n1,n2⟩:=N0.mp n;obtain⟨v,r,e,h1,h2⟩:=h.cons_of;subst e;exact rT (Is.isd n1 h1) (Iss.isd n2 h2)
end
def fX:PyData->Bool
 |.none=>true
 |.bool _=>true
 |.int _=>true
 |.str _=>true
 |_=>false
theorem IsD.is{d:PyData}(n:fX d=true)(h:IsD K H d v):Is K H d v:=by
 cases d with
 |none=>rw[h.ofNone];exact is_none
 |bool _=>rw[h.ofBool];exact is_bool
 |int _=>rw[h.ofInt];exact bJ
 |str _=>rw[h.ofStr];exact DQ
 |_=>cases n
theorem wJ{d:PyData}(n:fX d=true):dG d=true:=by
 cases d with
 |list _=>cases n
 |tuple _=>cases n
 |dict _=>cases n
 |_=>unfold dG;rfl
theorem Iss.get:∀{ds:List PyData}{vs:List V}{i:Nat}{v:V},Iss K H ds vs->vs[i]?=some v->∃d,ds[i]?=some d/\Is K H d v
 |[],_,i,v,h,e=>by rw[h.nil_of]at e;simp at e
 |d::ds,_,i,v,h,e=>by
  obtain⟨w,r,e1,h1,h2⟩:=h.cons_of;subst e1;cases i with
  |zero=>simp at e;subst e;exact⟨d,rfl,h1⟩
  |succ i=>simpa using Iss.get (i:=i) h2 (by simpa using e)
theorem Iss.getD:∀{ds:List PyData}{vs:List V}{i:Nat}{d:PyData},Iss K H ds vs->ds[i]?=some d->∃v,vs[i]?=some v/\Is K H d v
 |[],_,i,v,h,e=>by simp at e
 |d::ds,_,i,v,h,e=>by
  obtain⟨w,r,e1,h1,h2⟩:=h.cons_of;subst e1;cases i with
  |zero=>simp at e;subst e;exact⟨w,rfl,h1⟩
  |succ i=>simpa using Iss.getD (i:=i) h2 (by simpa using e)
theorem Iss.append:∀{ds es:List PyData}{vs us:List V},Iss K H ds vs->Iss K H es us->Iss K H (ds++es) (vs++us)
 |[],_,_,_,h,h'=>by rw[h.nil_of];exact h'
 |d::ds,es,_,us,h,h'=>by obtain⟨v,r,e,h1,h2⟩:=h.cons_of;subst e;exact cA h1 (Iss.append h2 h')
theorem Iss.take:∀{ds:List PyData}{vs:List V}(n:Nat),Iss K H ds vs->Iss K H (ds.take n) (vs.take n)
 |[],_,n,h=>by rw[h.nil_of];simpa using cR
 |d::ds,_,0,h=>by simpa using cR
 |d::ds,_,n+1,h=>by obtain⟨v,r,e,h1,h2⟩:=h.cons_of;subst e;exact cA h1 (Iss.take n h2)
theorem Iss.set{d:PyData}{v:V}(hv:Is K H d v):∀{ds:List PyData}{vs:List V}(i:Nat),Iss K H ds vs->Iss K H (ds.set i d) (vs.set i v)
 |[],_,n,h=>by rw[h.nil_of];simpa using cR
 |e::ds,_,0,h=>by obtain⟨u,r,z,h1,h2⟩:=h.cons_of;subst z;exact cA hv h2
 |e::ds,_,n+1,h=>by obtain⟨u,r,z,h1,h2⟩:=h.cons_of;subst z;exact cA h1 (Iss.set hv n h2)
theorem Iss.eraseIdx:∀{ds:List PyData}{vs:List V}(i:Nat),Iss K H ds vs->Iss K H (ds.eraseIdx i) (vs.eraseIdx i)
 |[],_,n,h=>by rw[h.nil_of];simpa using cR
 |e::ds,_,0,h=>by obtain⟨u,r,z,h1,h2⟩:=h.cons_of;subst z;exact h2
 |e::ds,_,n+1,h=>by obtain⟨u,r,z,h1,h2⟩:=h.cons_of;subst z;exact cA h1 (Iss.eraseIdx n h2)
theorem Iss.rep{ds:List PyData}{vs:List V}(h:Iss K H ds vs):∀k:Nat,Iss K H (List.replicate k ds).flatten (List.replicate k vs).flatten
 |0=>cR
 |k+1=>by rw[Na,Na,Np,Np];exact h.append (Iss.rep h k)
theorem pT:∀(ns:List Int),Iss K H (ns.map PyData.int) (ns.map V.int)
 |[]=>cR
 |_::r=>cA bJ (pT r)
theorem Iss.ofInts:∀{ns:List Int}{vs:List V},Iss K H (ns.map PyData.int) vs->vs=ns.map V.int
 |[],_,h=>h.nil_of
 |n::r,_,h=>by obtain⟨v,t,e,h1,h2⟩:=h.cons_of;rw[e,h1.ofInt,Iss.ofInts h2];rfl
theorem Iss.ofBools:∀{ns:List Bool}{vs:List V},Iss K H (ns.map PyData.bool) vs->vs=ns.map V.bl
 |[],_,h=>h.nil_of
 |n::r,_,h=>by obtain⟨v,t,e,h1,h2⟩:=h.cons_of;rw[e,h1.ofBool,Iss.ofBools h2];rfl
theorem Is.isNone{d:PyData}(h:Is K H d v):(v=.non)↔d=.none:=by
 cases d with
 |none=>simp[h.ofNone]
 |bool b=>simp[h.ofBool]
 |int i=>simp[h.ofInt]
 |str x=>simp[h.ofStr]
 |list ds=>obtain⟨a,xs,e,_⟩:=h.ofLst;simp[e]
 |tuple ds=>obtain⟨a,xs,e,_⟩:=h.ofTup;simp[e]
 |dict _=>unfold Is at h;rcases h with (⟨a,ns,e,_⟩|⟨a,l,e,_⟩)|⟨a,C,dx,fs,e,_⟩ <;> simp[e]
theorem bL{p:Addr}(h:H p=none):av H (upd H p o):=gE h
theorem kl{p:Addr}(h:p∈A):del (upd H p o) A=del H A:=by
 funext b;by_cases z:b∈A
 ·rw[gz z,gz z]
 ·rw[aI z,aI z,aB (by rintro rfl;exact z h)]
theorem om{p:Addr}(b:Ls H A)(a:H p=none)(h:Iss K (del H A) ds xs):Is K (del (upd H p (.tup xs)) A) (.tuple ds) (.ref p) :=
 ik (by rw[aI (b.new a)];exact aH) (h.same (av.del (bL a)))
theorem l5{p:Addr}(b:Ls H A)(a:H p=none)(h:Iss K (del H A) ds xs):Is K (del (upd H p (.lst xs)) A) (.list ds) (.ref p) :=
 iP (by rw[aI (b.new a)];exact aH) (h.same (av.del (bL a)))
end
abbrev Ds:=List (Option PyData)
variable {gs:Ds->Rs (List PyData)}{ge:Ds->Rs PyData}{tgt:PyData->Option Ds}{δ:Ds}{cond:Ds->Rs Bool}
structure dH(K:W.Frag)(H:Hp)(A:List Addr)(δ:Ds)(σ:St):Prop where
 ls:Ls H A
 len:δ.length=σ.length
 get:∀(i:Nat)(d:PyData),δ[i]?=some (some d)->∃v,σ[i]?=some (some v)/\Is K (del H A) d v
theorem dH.same(R:dH K H A δ σ)(s:av H H'):dH K H' A δ σ :=
 ⟨R.ls.same s,R.len,λi d e=>by obtain⟨v,e1,h⟩:=R.get i d e;exact⟨v,e1,h.same s.del⟩⟩
def gU(K:W.Frag)(E:XK)(A:List Addr)(H:Hp)(r:Rs PyData)(Q:VK):Prop:=match r with
 |.ok d=>∀v H',av H H'->Is K (del H' A) d v->Q v H'
 |.rz C=>∀H',av H H'->E (.ref C) none H'
 |.no=>False
def LQ(K:W.Frag)(E:XK)(A:List Addr)(H:Hp)(r:Rs (List PyData))(Q:List V->Hp->Prop):Prop:=match r with
 |.ok d=>∀v H',av H H'->Iss K (del H' A) d v->Q v H'
 |.rz C=>∀H',av H H'->E (.ref C) none H'
 |.no=>False
def vm(E:XK)(H:Hp)(r:Rs Bool)(Q:Bool->Hp->Prop):Prop:=match r with
 |.ok d=>∀H',av H H'->Q d H'
 |.rz C=>∀H',av H H'->E (.ref C) none H'
 |.no=>False
def eD(K:W.Frag)(E:XK)(g:Ds->Rs PyData):TE:=λσ H Q=>∃A δ,dH K H A δ σ/\gU K E A H (g δ) Q
def aD(K:W.Frag)(E:XK)(g:Ds->Rs (List PyData)):TA:=λσ H Q=>∃A δ,dH K H A δ σ/\LQ K E A H (g δ) Q
noncomputable def cD(K:W.Frag)(E:XK)(g:Ds->Rs Bool):TT:=λσ H Q=>∃A δ,dH K H A δ σ/\vm E H (g δ) Q
def PD(X:Cx)(E:XK)(e:Expr)(g:Ds->Rs PyData):Prop:=PE X e (eD X.K E g)
def PAD(X:Cx)(E:XK)(es:List Expr)(g:Ds->Rs (List PyData)):Prop:=PA X es (aD X.K E g)/\∀δ ds,g δ=.ok ds->ds.length=es.length
def PCD(X:Cx)(E:XK)(e:Expr)(g:Ds->Rs Bool):Prop:=PT X e (cD X.K E g)
def PWD(X:Cx)(E:XK)(e:Expr)(g:Ds->Rs Bool):Prop:=PW X e (cD X.K E g)
theorem PE.imp{t t':TE}(h:PE X e t)(k:∀σ H Q,t' σ H Q->t σ H Q):PE X e t':=λpins s σ H Q I q=>h pins s σ H Q I (k σ H Q q)
theorem PT.imp{t t':TT}(h:PT X e t)(k:∀σ H Q,t' σ H Q->t σ H Q):PT X e t':=λpins s σ H Q I q=>h pins s σ H Q I (k σ H Q q)
theorem PW.imp{t t':TT}(h:PW X e t)(k:∀σ H Q,t' σ H Q->t σ H Q):PW X e t':=λw pins s σ H Q I q=>h w pins s σ H Q I (k σ H Q q)
theorem PA.imp{e:List Expr}{t t':TA}(h:PA X e t)(k:∀σ H Q,t' σ H Q->t σ H Q):PA X e t':=λp pins s σ H Q I q=>h p pins s σ H Q I (k σ H Q q)
theorem PS.imp{e:Stmt}{t t':TS}(h:PS X e t)(k:∀D σ H,t' D σ H->t D σ H):PS X e t':=λpins s σ H D I q=>h pins s σ H D I (k D σ H q)
theorem PSs.imp{e:List Stmt}{t t':TS}(h:PSs X e t)(k:∀D σ H,t' D σ H->t D σ H):PSs X e t':=λpins s σ H D I q=>h pins s σ H D I (k D σ H q)
theorem gU.mono{r:Rs PyData}{Q:VK}(h:gU K E A H r Q)(s:av H H1):gU K E A H1 r Q:=by
 cases r with
 |ok d=>exact λv H' s' q=>h v H' (s.trans s') q
 |rz C=>exact λH' s'=>h H' (s.trans s')
 |no=>exact h
theorem vm.mono{r:Rs Bool}{Q:Bool->Hp->Prop}(h:vm E H r Q)(s:av H H1):vm E H1 r Q:=by
 cases r with
 |ok d=>exact λH' s'=>h H' (s.trans s')
 |rz C=>exact λH' s'=>h H' (s.trans s')
 |no=>exact h
theorem eD.run{g:Ds->Rs PyData}{Q:VK}(R:dH K H A δ σ)
  (ok:∀d,g δ=.ok d->∀v H',av H H'->dH K H' A δ σ->Is K (del H' A) d v->Q v H') (rz:∀C,g δ=.rz C->∀H',av H H'->E (.ref C) none H') (no:g δ=.no->False):eD K E g σ H Q:=by
 refine⟨A,δ,R,?_⟩;cases e:g δ with
 |ok d=>exact λv H' s q=>ok d e v H' s (R.same s) q
 |rz C=>exact λH' s=>rz C e H' s
 |no=>exact no e
theorem aD.run{g:Ds->Rs (List PyData)}{Q:List V->Hp->Prop}(R:dH K H A δ σ)
  (ok:∀d,g δ=.ok d->∀v H',av H H'->dH K H' A δ σ->Iss K (del H' A) d v->Q v H') (rz:∀C,g δ=.rz C->∀H',av H H'->E (.ref C) none H') (no:g δ=.no->False):aD K E g σ H Q:=by
 refine⟨A,δ,R,?_⟩;cases e:g δ with
 |ok d=>exact λv H' s q=>ok d e v H' s (R.same s) q
 |rz C=>exact λH' s=>rz C e H' s
 |no=>exact no e
theorem cD.run{g:Ds->Rs Bool}{Q:Bool->Hp->Prop}(R:dH K H A δ σ)
  (ok:∀d,g δ=.ok d->∀H',av H H'->dH K H' A δ σ->Q d H') (rz:∀C,g δ=.rz C->∀H',av H H'->E (.ref C) none H') (no:g δ=.no->False):cD K E g σ H Q:=by
 refine⟨A,δ,R,?_⟩;cases e:g δ with
 |ok d=>exact λH' s=>ok d e H' s (R.same s)
 |rz C=>exact λH' s=>rz C e H' s
 |no=>exact no e
structure DJ(X:Cx)(c P:Addr):Prop where
 tab:TabOf X.K P (X.env.qual++"<lambda>")
 code:X.env.code=.ref c
 hd:W.CodeHd X.base c P
 bl:∃bm o,X.mg "__builtins__"=some (.ref bm)/\bm≠builtinsNs/\bm≠mainGlobals/\X.base.get? bm=some o/\o.cls=.type "module"/\o.dict=some builtinsNs/\o.data=.plain
theorem lS{a b:Int}{t u:Nat}{c:Value}:∀{l:List Value},TriplesOk l->TriplesOk (l++[.int a t,.int b u,c])
 |[],_=>by simp[TriplesOk]
 |[_],h=>by simp[TriplesOk]at h
 |[x,y],h=>by cases x <;> cases y <;> (unfold TriplesOk at h;exact h.elim)
 |x::y::z::r,h=>by
  cases x <;> first|(unfold TriplesOk at h;exact h.elim)|skip
  cases y <;> first|(unfold TriplesOk at h;exact h.elim)|skip
  unfold TriplesOk at h;show TriplesOk (_::_::_::(r++_));unfold TriplesOk;exact lS h
theorem p3{pos:Pos}{a b:Int}{t u:Nat}{c f:Value}:∀{l:List Value},TriplesOk l->codeAmong pos (l++[.int a t,.int b u,c])=some f->codeAmong pos l=some f\/f=c
 |[],_,e=>by
  simp only[MK,codeAmong]at e;split at e
  ·cases e;exact .inr rfl
  ·cases e
 |[_],h,_=>by simp[TriplesOk]at h
 |[x,y],h,_=>by cases x <;> cases y <;> (unfold TriplesOk at h;exact h.elim)
 |x::y::z::r,h,e=>by
  cases x <;> first|(unfold TriplesOk at h;exact h.elim)|skip
  cases y <;> first|(unfold TriplesOk at h;exact h.elim)|skip
  unfold TriplesOk at h;simp only[MO,codeAmong]at e ⊢;split at e
  ·rename_i q;rw[if_pos q];exact .inl e
  ·rename_i q;rw[if_neg q];exact p3 h e
def LV(qual:Str)(mk:Addr->Value->Obj):TE:=λ_ H Q=>∀f c' a H',H f=none->H' f=some (.frz (mk c' a) (.own f))->av H H' ->
 (∃o vs t,H' c'=some (.frz o (.own c'))/\o.data=.fields vs/\vs[1]?=some (.str qual t))->Q (.ref f) H'
theorem HY{P:Addr}{g:List (Str×Addr)}(T:DJ X c P)(x:closureFor scope X.env=pure g)(A:defaultsOf params X.env=([],[]):=by rfl) :
  PE X (.Lambda params body scope pos) (LV (X.env.qual++"<lambda>") λc' f=>W.kla_obj "<lambda>" (X.env.qual++"<lambda>") params body scope g ((X.mg "__name__").getD .none) c' f):=by
 intro pins s σ H Q I h;have i:=I.tab P _ T.tab;obtain⟨ps,B,L,hc⟩:=I.hok P _ i;obtain⟨bm,ob,Z,b2,b3,R,b5,b6,b7⟩:=T.bl;have S:∀b o,X.base.get? b=some o->b≠P:=λb o e z=>by have:=(I.bs b o e).2;rw[z,i]at this;cases this
 have C:s.heap.BuiltinsAt X.mg P:=⟨bm,ob,Z,b2,b3,S _ _ R,I.bk _ _ R,b5,b6,b7⟩
 have U:s.heap.Ns mainGlobals X.mg:=I.mod.glob.keeps I.bk;have M:mainGlobals≠P:=by obtain⟨o,es,ep,e,_⟩:=I.mod.glob;exact S _ _ e
 have Y:=T.hd.keeps I.bk;have fin:∀{H1:Hp}{h1:Heap}{tk:Nat}{o:Obj},Inv X pins σ H1 { s with heap:=h1,toks:=tk }->o.isFreed=false->Inv X pins σ (upd H1 h1.objs.size (.frz o (.own h1.objs.size))) { s with heap:=h1.push o,toks:=tk }:=λ{H1 h1 tk o} J j =>
  J.laid (h':=h1.push o) (t':=tk) (λb u q=>M3 _ q) (Me _) ⟨Ml _ j,o,Ml _ j⟩
 refine W.kla_eval A ?_;cases hf:codeAmong pos ps.toList with
 |some N =>
  obtain⟨c',o,vs,t,rfl,D,d1,d2⟩:=hc pos N hf;refine W.kla_makeFunctionHit (mg:=X.mg) x I.ok.glob U T.code Y B L hf C λf h' tk hk hsz=>?_
  have n:H h'.objs.size=none:=I.hok.fresh hsz;exact⟨.ref _,_,fin (I.kept (h':=h') (t':=tk) hk) rfl,rfl,h _ c' f _ n aH (gE n) ⟨o,vs,t,by rw[aB (aK D n)];exact D,d1,d2⟩⟩
 |none =>
  refine W.kla_makeFunction (mg:=X.mg) x I.ok.glob U T.code Y B L hf M C λc' f h' tk E l O F G=>?_
  obtain⟨c₂,oc,vs,t,e2,K,hd,hv⟩:=F;cases e2;have hn:H c'=none:=I.hok.fresh l;have cP:c'≠P:=λz=>by rw[z,i]at hn;cases hn
  have a:∀b u,H b=some u->b≠c':=λb u e z=>by rw[z,hn]at e;cases e
  have J:Inv X pins σ (upd H c' (.frz oc (.own c'))) { s with heap:=h',toks:=tk }:=by
   refine I.step (g':=s.gens) (d':=s.drawn) (ch:=[]) (λ_ z=>nomatch z) (λb o _ _ _ e n=>?_) (λb o _ _ _ e n=>⟨o.slots,?_⟩) (λb o _ e n=>?_) (λb o _ e=>?_) (λb xs e=>?_) (λb o u e=>?_) (λb qs e=>?_) (λm hm=>?_) (λb u e=>?_) I.bare
   ·exact E b o (λz=>by rw[z,i]at n;cases n) e
   ·exact E b o (λz=>by rw[z,i]at n;cases n) e
   ·rw[aB (Mf (Mq (Mg e) l))];exact n
   ·by_cases z:b=P
    ·subst z;exact⟨_,G⟩
    ·exact⟨o,E b o z e⟩
   ·rw[aB (a b _ e)];exact e
   ·rw[aB (a b _ e)];exact e
   ·rw[aB (a b _ e)];exact e
   ·obtain⟨o,es,ep,ho,r⟩:=hm;refine⟨o,es,ep,E _ o (λz=>?_) ho,r⟩;have:=I.free;rw[z,i]at this;cases this
   ·by_cases z:b=c'
    ·subst z;rw[aH]at e;cases e;exact⟨K,oc,K⟩
    ·rw[aB z]at e;by_cases y:b=P
     ·subst y;rw[i]at e;cases e;refine⟨ps++#[rawInt pos.line,rawInt pos.col,.ref c'],G,?_,λpos' N e=>?_⟩
      ·rw[Array.toList_append];exact lS L
      ·rw[Array.toList_append]at e;rcases p3 L e with e|rfl
       ·obtain⟨c2,o,vs,t,rfl,q,d⟩:=hc pos' N e;exact⟨c2,o,vs,t,rfl,by rw[aB (a _ _ q)];exact q,d⟩
       ·exact⟨c',oc,vs,t,rfl,aH,hd,hv⟩
     ·refine (I.hok b u e).stay (λp v w q=>E p v (λy'=>?_) q) (λp q=>?_) (λp xs q=>?_) λp o' u' q=>?_
      ·subst y';rcases w with w|w
       ·exact y w.symm
       ·rw[i]at w;cases w
      ·rw[aB (a p _ q)];exact q
      ·rw[aB (a p _ q)];exact q
      ·rw[aB (a p _ q)];exact q
  have n:upd H c' (.frz oc (.own c')) h'.objs.size=none:=J.hok.fresh (Me _);have n0:H h'.objs.size=none:=I.hok.fresh (N5 l (Ob O));exact⟨.ref _,_,fin J rfl,rfl,h _ c' f _ n0 aH ((gE hn).trans (gE n)) ⟨oc,vs,t,by rw[aB (aK aH n)];exact aH,hd,hv⟩⟩
abbrev Cx.in1(X:Cx):Cx:={ X with A:=X.A.in1 }
section
theorem Inv.in1(I:Inv X pins σ H s):Inv X.in1 pins σ H s :=
 ⟨⟨I.ok.mod,I.ok.kind,I.ok.glob,I.ok.blt,I.ok.above,I.ok.inj,I.ok.has,I.ok.cab,I.ok.hd,I.ok.frames,I.ok.stk,I.ok.exf,I.ok.bs,I.ok.bsz,I.ok.noex,I.ok.exfs,I.ok.funs,I.ok.frf⟩,I.os,I.bare,I.base,I.loc,I.cell,I.free,I.freeC,I.pin,I.hok,I.len,I.tab⟩
theorem Inv.of1(I:Inv X.in1 pins σ H s):Inv X pins σ H s :=
 ⟨⟨I.ok.mod,I.ok.kind,I.ok.glob,I.ok.blt,I.ok.above,I.ok.inj,I.ok.has,I.ok.cab,I.ok.hd,I.ok.frames,I.ok.stk,I.ok.exf,I.ok.bs,I.ok.bsz,I.ok.noex,I.ok.exfs,I.ok.funs,I.ok.frf⟩,I.os,I.bare,I.base,I.loc,I.cell,I.free,I.freeC,I.pin,I.hok,I.len,I.tab⟩
end
noncomputable def bst(lt:Nat->Nat->Bool):Nat->Nat
 |0=>0
 |j+1=>if lt (j+1) (bst lt j) then j+1 else bst lt j
theorem ib(lt:Nat->Nat->Bool):∀j,bst lt j<=j
 |0=>Me _
 |j+1=>by
  unfold bst;split
  ·exact Me _
  ·exact Nat.le_succ_of_le (ib lt j)
structure lX(X:Cx)(σ:St)(pins:List (Addr×Obj))(q l:Addr)(xs:List V)(Φ:Hp->Prop)(κ:Nat->V->Hp->Prop)(lt:Nat->Nat->Bool):Prop where
 lst:∀H,Φ H->H l=some (.lst xs)
 turn:∀(i:Nat)(x:V),xs[i]?=some x->∀(pins':List (Addr×Obj))(H:Hp)(s:Shared)(u:Value),(∀p∈pins,p∈pins')->Inv X.in1 pins' σ H s->Φ H->RelV x u ->
  wpAny (model X.prog X.w) X.A.in1 (call (.ref q) [u]) (EP X.in1 pins' σ λv H'=>Φ H'/\κ i v H'/\∀j v',κ j v' H->κ j v' H') (λ_ _=>False) s
 cmp:∀(i j:Nat)(x y:V)(pins':List (Addr×Obj))(H:Hp)(s:Shared)(u v:Value),Inv X.in1 pins' σ H s->Φ H->κ i x H->κ j y H->RelV x u->RelV y v ->
  wpAny (model X.prog X.w) X.A.in1 (richCompare .Lt u v) (λr s'=>r=.bool (lt i j)/\Inv X.in1 pins' σ H s') (λ_ _=>False) s
section
variable {q l:Addr}{Φ:Hp->Prop}{lt:Nat->Nat->Bool}{R:Result->Shared->Prop}
theorem Inv.turnPin{ps:List (Addr×Obj)}{o o':Obj}{t':Nat}(I:Inv X ((it,o)::ps) σ H s)(k:∀b u,b≠it->s.heap.get? b=some u->h'.get? b=some u)(f:h'.get? it=some o')
  (h1:X.s₀.heap.objs.size<=it) (g:∀p∈X.pn++ps,p.1≠it) (hc:∀v,o'.data≠.cell v):Inv X ((it,o')::ps) σ H { s with heap:=h',toks:=t' }:=by
 obtain⟨e,n,ne,h,d⟩:=I.pin (it,o) (Md _ (.head _));have i:Inv X ps σ H s:=I.pins_of λp a=>I.pin p (Md _ (.tail _ a))
 have J:Inv X ps σ H { s with heap:=h',toks:=t' }:=i.turned k n ne (.inr h1) (λx c hl z=>by obtain⟨v,o2,e2,d2⟩:=I.cell x c hl;subst z;rw[e]at e2;cases e2;exact d v d2) g
 refine J.pins_of λp a=>?_
 rcases M8.mp a with rfl|a
 ·exact⟨f,n,ne,h,hc⟩
 ·exact J.pin p (Md _ a)
theorem Inv.swap{ps:List (Addr×Obj)}{a b:Addr×Obj}(I:Inv X (a::b::ps) σ H s):Inv X (b::a::ps) σ H s:=I.pins_of λp c=>I.pin p (Md _ (by
 rcases M8.mp c with rfl|c
 ·exact .tail _ (.head _)
 ·rcases M8.mp c with rfl|c
  ·exact .head _
  ·exact .tail _ (.tail _ c)))
theorem ES(KK:lX X σ pins q l xs Φ κ lt)(hh:X.A.handled=none)
  (hR:∀H' s' x u,xs[bst lt (xs.length-1)]?=some x->RelV x u->Inv X pins σ H' s'->Φ H'->R (.ok (.ret u)) s') :
  ∀(r j:Nat)(H:Hp)(s:Shared)(h g:Value)(xb kb:V)(c:Nat)(It S:Addr)(D:Obj),xs.length-(j+1)=r->j+1<=xs.length->X.s₀.heap.objs.size<=It->X.s₀.heap.objs.size<=S->S≠It ->
   (∀p∈X.pn++pins,p.1≠It)->(∀p∈X.pn++pins,p.1≠S) ->
   Inv X.in1 ((S,seqObj "list" #[h,g] c)::(It,D)::pins) σ H s->D.cls=.type "list_iterator"->D.data=.fields #[.ref l,.int ((j+1:Nat):Int) 0]->Φ H->xs[bst lt j]?=some xb->RelV xb h->κ (bst lt j) kb H->RelV kb g ->
   codeAny (model X.prog X.w) X.A (.builtin "min.loop" ⟨[.ref It,.ref q,.ref S],[]⟩) R s:=by
 have t:(toString "min"++toString ".loop":String)="min.loop":=by decide
 intro r
 induction r with
 |zero =>
  intro j H s h g xb kb c It S D hr hj zI zS i M nS I N O y hb rb P rk;have hin:j+1=xs.length:=by omega
  have pS:=I.pin (S,seqObj "list" #[h,g] c) (Md _ (.head _));have E:=I.pin (It,D) (Md _ (.tail _ (.head _)));have hl:=KK.lst H y;obtain⟨its,n,rv,eL,_⟩:=I.lst hl;have Q:l≠It:=aK hl E.2.1;have hsz:its.toArray.size=xs.length:=by rw[Mo,<-rv.length]
  have W:=Walks.list (prog:=X.prog) (w:=X.w) (A:=X.A.in1) hh It l Q its.toArray;refine codeAny_builtin F.entry_min_loop ?_;rw[Around.under_plainId F.plain_min_loop _];show wpAny _ X.A.in1 (seqItems? (.ref S) >>= _) _ _ _;refine wpAny_bind (wpAny_seqItems pS.1 rfl ?_);show wpAny _ X.A.in1 (tryCatch (pyNext (.ref It)) _ >>= _) _ _ _;refine wpAny_bind (wpAny_tryCatch (W.done _ _ _ ⟨by rw[hsz,<-hin];exact⟨D,E.1,N,O⟩,⟨_,eL,rfl,n,rfl⟩⟩ λh' m T=>?_));have I1:Inv X.in1 ((S,seqObj "list" #[h,g] c)::pins) σ H { s with heap:=h',toks:=m }:=by
   have I0:Inv X.in1 ((S,seqObj "list" #[h,g] c)::pins) σ H s:=I.pins_of λp a=>I.pin p (Md _ (by
    rcases M8.mp a with rfl|a
    ·exact .head _
    ·exact .tail _ (.tail _ a)))
   refine I0.turned (λb o U e=>T b o (by simpa using U) e) E.2.1 E.2.2.1 (.inr zI) (λx cc Y z=>?_) λp a=>?_
   ·obtain⟨v,o2,e2,d2⟩:=I.cell x cc Y;subst z;rw[E.1]at e2;cases e2;exact E.2.2.2.2 v d2
   ·rcases Mx.mp a with a|a
    ·exact M p (MF _ a)
    ·rcases M8.mp a with rfl|a
     ·exact i
     ·exact M p (Md _ a)
  have B:=I1.pin (S,seqObj "list" #[h,g] c) (Md _ (.head _));have s1:=Heap.SameBut.update h' S (Obj.mapSeq λ_=>(#[]:Array Value));show wpAny _ X.A.in1 (updateSeq S (λ_=>#[]) >>= _) _ _ _;refine wpAny_bind ?_;refine wpAny_updateSeq B.1 rfl (wpAny_bind (wpAny_letGo (wpAny_pure ?_)));have I2:Inv X.in1 pins σ H { s with heap:=h'.update S (Obj.mapSeq λ_=>(#[]:Array Value)),toks:=m }:=by
   have I0:Inv X.in1 pins σ H { s with heap:=h',toks:=m }:=I1.pins_of λp a=>I1.pin p (Md _ (.tail _ a))
   refine I0.turned (h':=h'.update S (Obj.mapSeq λ_=>(#[]:Array Value))) (t':=m) (λb o U e=>(s1.2 b U).trans e) B.2.1 B.2.2.1 (.inr zS) (λx cc Y z=>?_) nS;obtain⟨v,o2,e2,d2⟩:=I1.cell x cc Y;subst z;rw[B.1]at e2;cases e2;exact B.2.2.2.2 v d2
  exact hR H _ xb h (by rw[<-hin];exact hb) rb I2.of1 y
 |succ r ih =>
  intro j H s h g xb kb c It S D hr hj zI zS i M nS I N O y hb rb P rk;have G:j+1<xs.length:=by omega
  have pS:=I.pin (S,seqObj "list" #[h,g] c) (Md _ (.head _));have E:=I.pin (It,D) (Md _ (.tail _ (.head _)));have hl:=KK.lst H y;obtain⟨its,n,rv,eL,_⟩:=I.lst hl;have Q:l≠It:=aK hl E.2.1;have hsz:its.toArray.size=xs.length:=by rw[Mo,<-rv.length]
  have W:=Walks.list (prog:=X.prog) (w:=X.w) (A:=X.A.in1) hh It l Q its.toArray;refine codeAny_builtin F.entry_min_loop ?_;rw[Around.under_plainId F.plain_min_loop _];show wpAny _ X.A.in1 (seqItems? (.ref S) >>= _) _ _ _;refine wpAny_bind (wpAny_seqItems pS.1 rfl ?_);show wpAny _ X.A.in1 (tryCatch (pyNext (.ref It)) _ >>= _) _ _ _;refine wpAny_bind (wpAny_tryCatch (W.item (j+1) _ _ _ (by rw[hsz];exact G) ⟨⟨D,E.1,N,O⟩,⟨_,eL,rfl,n,rfl⟩⟩ λv h' m hP hst' T=>?_));have hv:its[j+1]?=some v:=by simpa using hP
  obtain⟨x,hx⟩:∃x,xs[j+1]?=some x:=⟨_,M1 G⟩
  obtain⟨v',hv',rx⟩:=rv.get hx;rw[hv]at hv';cases hv';obtain⟨K,hoI',hoc,Z⟩:=id hst'.1;have J:Inv X.in1 ((It,K)::(S,seqObj "list" #[h,g] c)::pins) σ H { s with heap:=h',toks:=m } :=
   I.swap.turnPin (λb o U e=>T b o (by simpa using U) e) hoI' zI (λp a=>by
    rcases Mx.mp a with a|a
    ·exact M p (MF _ a)
    ·rcases M8.mp a with rfl|a
     ·exact i
     ·exact M p (Md _ a)) λvv z=>by rw[Z]at z;cases z
  show wpAny _ X.A.in1 (tryCatch (holding [v] (call (.ref q) [v])) _ >>= _) _ _ _;refine wpAny_bind (wpAny_tryCatch (wpAny_holding (wpAny_mono (KK.turn (j+1) x hx _ H _ v (λp a=>.tail _ (.tail _ a)) J y rx) (λf s2 he=>?_) λ_ _ hF=>hF.elim)));obtain⟨kv,H2,J2,rk2,C,L,hst⟩:=he;show wpAny _ X.A.in1 (tryCatch (holding [v,f] (richCompare .Lt f g >>= _)) _ >>= _) _ _ _;refine wpAny_bind (wpAny_tryCatch (wpAny_holding (wpAny_bind (wpAny_mono (KK.cmp (j+1) (bst lt j) kv kb _ H2 s2 f g J2 C L (hst _ _ P) rk2 rk) (λrr s3 hc3=>?_) λ_ _ hF=>hF.elim))));obtain⟨rfl,J3⟩:=hc3;refine wpAny_bind (wpAny_holding (wpAny_truthy_bool ?_));refine wpAny_bind (wpAny_letGo (wpAny_pure ?_));have pS3:=J3.pin (S,seqObj "list" #[h,g] c) (Md _ (.tail _ (.head _)));cases hb':lt (j+1) (bst lt j) with
  |true =>
   have s1:=Heap.SameBut.update s3.heap S (Obj.mapSeq λ_=>#[v,f]);obtain⟨c2,hc2⟩:∃c2,(s3.heap.update S (Obj.mapSeq λ_=>#[v,f])).get? S=some (seqObj "list" #[v,f] c2):=⟨_,get?_update_seq pS3.1 λ_=>#[v,f]⟩
   simp only[if_true];refine wpAny_bind ?_;refine wpAny_updateSeq pS3.1 rfl (wpAny_bind (wpAny_letGo ?_));rw[t];have J4:Inv X.in1 ((S,seqObj "list" #[v,f] c2)::(It,K)::pins) σ H2 { s3 with heap:=s3.heap.update S (Obj.mapSeq λ_=>#[v,f]),toks:=s3.toks } :=
    J3.swap.turnPin (λb o U e=>(s1.2 b U).trans e) hc2 zS (λp a=>by
     rcases Mx.mp a with a|a
     ·exact nS p (MF _ a)
     ·rcases M8.mp a with rfl|a
      ·exact i.symm
      ·exact nS p (Md _ a)) λvv z=>by cases z
   have eb:bst lt (j+1)=j+1:=by unfold bst;rw[if_pos hb']
   exact wpAny_pure ⟨plainId_quiet F.plain_min_loop _,ih (j+1) H2 _ v f x kv c2 It S K (by omega) G zI zS i M nS J4 hoc Z C (by rw[eb];exact hx) rx (by rw[eb];exact L) rk2⟩
  |false =>
   simp only[Mw,if_false];refine wpAny_bind (wpAny_letGo ?_);rw[t];have eb:bst lt (j+1)=bst lt j:=by rw[bst,if_neg (by rw[hb'];decide)]
   exact wpAny_pure ⟨plainId_quiet F.plain_min_loop _,ih (j+1) H2 _ h g xb kb c It S K (by omega) G zI zS i M nS J3.swap hoc Z C (by rw[eb];exact hb) rb (by rw[eb];exact hst _ _ P) rk⟩
theorem Ih{E:Value->Shared->Prop}(KK:lX X σ pins q l xs Φ κ lt)(hh:X.A.handled=none)(I:Inv X pins σ H s)(r:Φ H)(g:0<xs.length)
  (hQ:∀H' s' x u,xs[bst lt (xs.length-1)]?=some x->RelV x u->Inv X pins σ H' s'->Φ H'->Q u s') :
  wpAny (model X.prog X.w) X.A (call (.builtin "min") [.ref l] [(Str.ofString "key",.ref q)]) Q E s:=by
 have f:(toString "min"++toString ".loop":String)="min.loop":=by decide
 have hl:=KK.lst H r;obtain⟨its,n,rv,N,_⟩:=I.lst hl;have O:s.heap.IsList l its.toArray:=⟨_,N,rfl,n,rfl⟩
 refine kmk_tree F.kind_min F.plain_min F.entry_min (kmk_min_key _ _) ?_;show wpAny _ X.A.in1 (Builtin.Builtins.bindParams "min" ["key", "default"] 0 ⟨[],[(Str.ofString "key",.ref q)]⟩ >>= _) _ _ s;refine wpAny_bind (wpAny_of_eq (show Builtin.Builtins.bindParams "min" ["key", "default"] 0 ⟨[],[(Str.ofString "key",.ref q)]⟩=pure [some (.ref q),none] from rfl) ?_);refine wpAny_bind (wpAny_pure ?_);refine wpAny_bind (wpAny_pyIter_list O ?_);refine wpAny_bind (wpAny_newList ?_ (MR _));rw[f];have P:(s.heap.push { cls:=.type "list_iterator",data:=.fields #[.ref l,.int 0 0] }).objs.size=s.heap.objs.size+1:=size_push' ..;have R:l<s.heap.objs.size:=Mg N;have T:l≠s.heap.objs.size:=Mf R;have h:(s.heap.push { cls:=.type "list_iterator",data:=.fields #[.ref l,.int 0 0] }).objs.size≠s.heap.objs.size:=by rw[P];exact MU (Nk _)
 have U:∀p∈X.pn++pins,p.1≠s.heap.objs.size:=λp a=>Mf (Mg (I.pin p a).1)
 have Y:∀p∈X.pn++pins,p.1≠(s.heap.push { cls:=.type "list_iterator",data:=.fields #[.ref l,.int 0 0] }).objs.size:=λp a=>by rw[P];exact Mf (ML (Mg (I.pin p a).1))
 refine wpAny_pure ⟨plainId_quiet F.plain_min_loop _,?_⟩;have gI:((s.heap.push { cls:=.type "list_iterator",data:=.fields #[.ref l,.int 0 0] }).push (seqObj "list" #[] 0)).get? s.heap.objs.size=some { cls:=.type "list_iterator",data:=.fields #[.ref l,.int 0 0] } :=
  M3 _ (Ml _ rfl)
 have gS:((s.heap.push { cls:=.type "list_iterator",data:=.fields #[.ref l,.int 0 0] }).push (seqObj "list" #[] 0)).get? (s.heap.push { cls:=.type "list_iterator",data:=.fields #[.ref l,.int 0 0] }).objs.size=some (seqObj "list" #[] 0):=Ml _ rfl;have Z:X.s₀.heap.objs.size<=s.heap.objs.size:=I.sz;have zS:X.s₀.heap.objs.size<=(s.heap.push { cls:=.type "list_iterator",data:=.fields #[.ref l,.int 0 0] }).objs.size:=by rw[P];exact Nat.le_succ_of_le Z
 generalize eSa:(s.heap.push { cls:=.type "list_iterator",data:=.fields #[.ref l,.int 0 0] }).objs.size=S at *;generalize eIa:s.heap.objs.size=It at *;have I0:Inv X.in1 pins σ H { s with heap:=(s.heap.push { cls:=.type "list_iterator",data:=.fields #[.ref l,.int 0 0] }).push (seqObj "list" #[] 0),toks:=s.toks }:=I.in1.kept λb u e=>M3 _ (M3 _ e)
 have i:s.heap.objs.size<=It:=Nat.le_of_eq eIa;have j:s.heap.objs.size<=S:=by omega
 have I1:Inv X.in1 ((S,seqObj "list" #[] 0)::(It,{ cls:=.type "list_iterator",data:=.fields #[.ref l,.int 0 0] })::pins) σ H { s with heap:=(s.heap.push { cls:=.type "list_iterator",data:=.fields #[.ref l,.int 0 0] }).push (seqObj "list" #[] 0),toks:=s.toks }:=by
  refine I0.pins_of λp a=>?_
  rcases M8.mp a with rfl|a
  ·exact⟨gS,I.hok.fresh j,MU (Mq I.lt j),I.nofs j,λv z=>by cases z⟩
  ·rcases M8.mp a with rfl|a
   ·exact⟨gI,I.hok.fresh i,MU (Mq I.lt i),I.nofs i,λv z=>by cases z⟩
   ·exact I0.pin p (Md _ a)
 have hsz:its.toArray.size=xs.length:=by rw[Mo,<-rv.length]
 have W:=Walks.list (prog:=X.prog) (w:=X.w) (A:=X.A.in1) hh It l T its.toArray;refine codeAny_builtin F.entry_min_loop ?_;rw[Around.under_plainId F.plain_min_loop _];show wpAny _ X.A.in1 (seqItems? (.ref _) >>= _) _ _ _;refine wpAny_bind (wpAny_seqItems gS rfl ?_);show wpAny _ X.A.in1 (tryCatch (pyNext (.ref It)) _ >>= _) _ _ _;refine wpAny_bind (wpAny_tryCatch (W.item 0 _ _ _ (by rw[hsz];exact g) ⟨⟨_,gI,rfl,rfl⟩,⟨_,M3 _ (M3 _ N),rfl,n,rfl⟩⟩ λv h' tk' hP t hk'=>?_));have hv:its[0]?=some v:=by simpa using hP
 obtain⟨x,y⟩:∃x,xs[0]?=some x:=⟨_,M1 g⟩
 obtain⟨v',B,rx⟩:=rv.get y;rw[hv]at B;cases B;obtain⟨m,C,hoc,D⟩:=id t.1;have J:Inv X.in1 ((It,m)::(S,seqObj "list" #[] 0)::pins) σ H { s with heap:=h',toks:=tk' } :=
  I1.swap.turnPin (λb o nb e=>hk' b o (by simpa using nb) e) C Z (λp a=>by
   rcases Mx.mp a with a|a
   ·exact U p (MF _ a)
   ·rcases M8.mp a with rfl|a
    ·exact h
    ·exact U p (Md _ a)) λvv z=>by rw[D]at z;cases z
 show wpAny _ X.A.in1 (tryCatch (holding [v] (call (.ref q) [v])) _ >>= _) _ _ _;refine wpAny_bind (wpAny_tryCatch (wpAny_holding (wpAny_mono (KK.turn 0 x y _ H _ v (λp a=>.tail _ (.tail _ a)) J r rx) (λc s2 he=>?_) λ_ _ hF=>hF.elim)));obtain⟨kv,H2,J2,rk2,G,K,_⟩:=he;have L:=J2.pin (S,seqObj "list" #[] 0) (Md _ (.tail _ (.head _)));have s1:=Heap.SameBut.update s2.heap S (Obj.mapSeq λ_=>#[v,c]);obtain⟨M,hc2⟩:∃M,(s2.heap.update S (Obj.mapSeq λ_=>#[v,c])).get? S=some (seqObj "list" #[v,c] M):=⟨_,get?_update_seq L.1 λ_=>#[v,c]⟩
 show wpAny _ X.A.in1 (updateSeq S (λ_=>#[v,c]) >>= _) _ _ _;refine wpAny_bind ?_;refine wpAny_updateSeq L.1 rfl ?_;rw[f];have J4:Inv X.in1 ((S,seqObj "list" #[v,c] M)::(It,m)::pins) σ H2 { s2 with heap:=s2.heap.update S (Obj.mapSeq λ_=>#[v,c]),toks:=s2.toks } :=
  J2.swap.turnPin (λb o nb e=>(s1.2 b nb).trans e) hc2 zS (λp a=>by
   rcases Mx.mp a with a|a
   ·exact Y p (MF _ a)
   ·rcases M8.mp a with rfl|a
    ·exact h.symm
    ·exact Y p (Md _ a)) λvv z=>by cases z
 exact wpAny_pure ⟨plainId_quiet F.plain_min_loop _,ES KK hh (λH' s' x u y ru J a=>hQ H' s' x u y ru J a) _ 0 H2 _ v c x kv M It S m rfl g Z zS h U Y J4 hoc D G y rx K rk2⟩
end
def ae(i:Nat):Ds->Rs PyData:=λδ=>match δ[i]? with
 |some (some d)=>.ok d
 |_=>.no
def gC(d:PyData):Ds->Rs PyData:=λ_=>.ok d
def g1(f:PyData->Option PyData)(a:Ds->Rs PyData):Ds->Rs PyData:=λδ=>(a δ).bind λx=>Rs.ee (f x)
def g2(f:PyData->PyData->Option PyData)(a b:Ds->Rs PyData):Ds->Rs PyData:=λδ=>(a δ).bind λx=>(b δ).bind λy=>Rs.ee (f x y)
def gF(f:List PyData->Option PyData)(as:Ds->Rs (List PyData)):Ds->Rs PyData:=λδ=>(as δ).bind λds=>Rs.ee (f ds)
def ah:Ds->Rs (List PyData):=λ_=>.ok []
def af(a:Ds->Rs PyData)(r:Ds->Rs (List PyData)):Ds->Rs (List PyData):=λδ=>(a δ).bind λx=>(r δ).bind λxs=>.ok (x::xs)
def cL(as:Ds->Rs (List PyData)):Ds->Rs PyData:=λδ=>(as δ).bind λds=>.ok (.tuple ds)
def jj(as:Ds->Rs (List PyData)):Ds->Rs PyData:=λδ=>(as δ).bind λds=>.ok (.list ds)
def au(gf:List PyData->Rs PyData)(as:Ds->Rs (List PyData)):Ds->Rs PyData:=λδ=>(as δ).bind gf
def truth:PyData->Rs Bool
 |.bool b=>.ok b
 |_=>.no
def gT(a:Ds->Rs PyData):Ds->Rs Bool:=λδ=>(a δ).bind truth
def gP(a:Ds->Rs Bool):Ds->Rs Bool:=λδ=>(a δ).bind λb=>.ok (!b)
def qS(a b:Ds->Rs Bool):Ds->Rs Bool:=λδ=>(a δ).bind λx=>if x=true then b δ else .ok false
def cOr(a b:Ds->Rs Bool):Ds->Rs Bool:=λδ=>(a δ).bind λx=>if x=true then .ok true else b δ
def vj(a b:Ds->Rs PyData):Ds->Rs PyData:=λδ=>(a δ).bind λx=>(truth x).bind λt=>if t=true then b δ else .ok (.bool false)
def gOr(a b:Ds->Rs PyData):Ds->Rs PyData:=λδ=>(a δ).bind λx=>(truth x).bind λt=>if t=true then .ok (.bool true) else b δ
def LK(a:Ds->Rs PyData):Ds->Rs PyData:=λδ=>(a δ).bind λx=>(truth x).bind λt=>.ok (.bool (!t))
def gIf(c:Ds->Rs Bool)(a b:Ds->Rs PyData):Ds->Rs PyData:=λδ=>(c δ).bind λx=>if x=true then a δ else b δ
section
variable {a b c:Expr}{ga gb gc:Ds->Rs PyData}
theorem IS(i:Nat)(c:X.N[i]?=some x)(hv:Vis X.env.scope x)(hd:(x==("__debug__":Str))=false)
  (a:(x==("__classdict__":Str))=false):PD X E (.Name x pos) (ae i) :=
 (i7 c hv hd a).imp λσ H Q b=>by
  obtain⟨A,δ,R,o⟩:=b;unfold ae at o;split at o
  ·rename_i d e;obtain⟨v,e1,h⟩:=R.get i d e;exact⟨v,e1,o v H (av.refl H) h⟩
  ·exact o.elim
theorem Dz{d:PyData}(h:PE X e (tC v))(hi:∀K H,Is K H d v):PD X E e (gC d):=h.imp λσ H Q a=>(by obtain⟨A,δ,R,o⟩:=a;exact o v H (av.refl H) (hi _ _))
theorem Hx{i j pos}:PD X E (.Constant (.int i) j pos) (gC (.int i)):=Dz fT λ_ _=>bJ
theorem KS{i j pos}:PD X E (.Constant (.bool i) j pos) (gC (.bool i)):=Dz Kg λ_ _=>is_bool
theorem IX{j pos}:PD X E (.Constant .none j pos) (gC .none):=Dz Je λ_ _=>is_none
theorem HM{i j pos}:PD X E (.Constant (.str i) j pos) (gC (.str i)):=Dz IH λ_ _=>DQ
theorem Ez{i:Int}(hm:∃t,X.mg x=some (.int i t))(a:Gl X x)(hd:(x==("__debug__":Str))=false):PD X E (.Name x pos) (gC (.int i)):=by obtain⟨t,hm⟩:=hm;exact Dz (GI (v:=.int i) a hm ⟨_,rfl⟩ hd) λ_ _=>bJ
def OpD(K:W.Frag)(f:PyData->PyData->Option PyData)(r:R2):Prop :=
 ∀(d1 d2 d:PyData)(x y:V)(H:Hp)(A:List Addr)(Q:VK),f d1 d2=some d->Ls H A->Is K (del H A) d1 x->Is K (del H A) d2 y->(∀v H',av H H'->Is K (del H' A) d v->Q v H')->r x y H Q
theorem g2.read{r:R2}{Q:VK}(b:OpD K f r)(R:dH K H A δ σ)(o:gU K E A H (g2 f ga gb δ) Q) :
  tOp r (eD K E ga) (eD K E gb) σ H Q:=by
 unfold g2 at o;refine eD.run R (λd1 e1 v H1 a c h1=>?_) (λC e1 H' s'=>?_) (λe1=>?_)
 ·rw[e1]at o;refine eD.run c (λd2 e2 u H2 s2 R2 h2=>?_) (λC e2 H' s'=>?_) (λe2=>?_)
  ·simp only[Rs.ag,e2]at o;cases e3:f d1 d2 with
   |none=>rw[e3]at o;exact o.elim
   |some d =>rw[e3]at o;exact b d1 d2 d v u H2 A Q e3 R2.ls (h1.same s2.del) h2 λw H' s q=>o w H' (a.trans (s2.trans s)) q
  ·simp only[Rs.ag,e2,Rs.cB]at o;exact o H' (a.trans s')
  ·simp only[Rs.ag,e2,Rs.bf]at o;exact o
 ·rw[e1]at o;exact o H' s'
 ·rw[e1]at o;exact o
theorem gN{r:R2}(g:OpD X.K f r)(ha:PD X E a ga)(h:PD X E b gb)(mk:∀{ta tb:TE},PE X a ta->PE X b tb->PE X e (tOp r ta tb)):PD X E e (g2 f ga gb) :=
 (mk ha h).imp λσ H Q c=>(by obtain⟨A,δ,R,o⟩:=c;exact g2.read g R o)
theorem ke{r:R2}(g:OpD X.K f r)(ha:PD X E a ga)(i:PD X E b gb)(mk:∀{ta tb:TE},PE X a ta->PE X b tb->PT X e (GY (tOp r ta tb))):PCD X E e (gT (g2 f ga gb)) :=
 (mk ha i).imp λσ H Q c=>by
  obtain⟨A,δ,R,o⟩:=c;refine g2.read (Q:=λx H'=>∃k,x=.bl k/\Q k H') g R ?_;unfold gT at o;cases q:g2 f ga gb δ with
  |no=>rw[q]at o;exact o
  |rz C=>rw[q]at o;exact o
  |ok d =>
   rw[q]at o;cases d with
   |bool k=>exact λv H' s h=>⟨k,h.ofBool,o H' s⟩
   |_=>exact o.elim
noncomputable def dI(f:Int->Int->Option PyData):PyData->PyData->Option PyData
 |.int i,.int j=>f i j
 |_,_=>none
theorem yG{f:Int->Int->Option PyData}{d1 d2 d:PyData}(h:dI f d1 d2=some d):∃i j,d1=.int i/\d2=.int j/\f i j=some d:=by
 unfold dI at h;split at h
 ·exact⟨_,_,rfl,rfl,h⟩
 ·cases h
def gM:=dI λi j=>some (.int (i-j))
def eC:=dI λi j=>if 0<j then some (.int (i % j)) else none
def iS:=dI λi j=>if 0<j/\j<1073741824 then some (.int (i / j)) else none
def D7:=dI λi j=>if 0<=j/\j<=1000000/\i.natAbs<2 ^ 64 then some (.int (i ^ j.toNat)) else none
def dLt:=dI λi j=>some (.bool (decide (i<j)))
def dLe:=dI λi j=>some (.bool (decide (i<=j)))
def dGt:=dI λi j=>some (.bool (decide (j<i)))
def dGe:=dI λi j=>some (.bool (decide (j<=i)))
theorem jU{f:Int->Int->PyData}{v:Int->Int->V}(hv:∀i j K H,Is K H (f i j) (v i j)):OpD K (dI λi j=>some (f i j)) (rI0 v):=λd1 d2 d x y H A Q e hA h1 h2 k=>by obtain⟨i,j,rfl,rfl,e⟩:=yG e;cases e;exact⟨i,j,h1.ofInt,h2.ofInt,k _ H (av.refl H) (hv _ _ _ _)⟩
theorem Cm{C a:Int->Int->Prop}[∀i j,Decidable (a i j)]{f:Int->Int->PyData}{v:Int->Int->V}(hc:∀i j,a i j->C i j)(hv:∀i j K H,Is K H (f i j) (v i j)):OpD K (dI λi j=>if a i j then some (f i j) else none) (rI C v):=λd1 d2 d x y H A Q e hA h1 h2 k=>by
 obtain⟨i,j,rfl,rfl,e2⟩:=yG e;by_cases z:a i j
 ·simp only[if_pos z]at e2;cases e2;exact⟨i,j,h1.ofInt,h2.ofInt,hc i j z,k _ H (av.refl H) (hv _ _ _ _)⟩
 ·simp only[if_neg z]at e2;cases e2
theorem Jn(ha:PD X E a ga)(c:PD X E b gb):PD X E (.BinOp a .Sub b pos) (g2 gM ga gb):=gN (jU λ_ _ _ _=>bJ) ha c (eS IP)
theorem JJ(ha:PD X E a ga)(c:PD X E b gb):PD X E (.BinOp a .Mod b pos) (g2 eC ga gb):=gN (Cm (λ_ _ h=>h) λ_ _ _ _=>bJ) ha c (eS qm)
theorem JD(ha:PD X E a ga)(c:PD X E b gb):PD X E (.BinOp a .FloorDiv b pos) (g2 iS ga gb):=gN (Cm (C:=Ko) (λ_ _ h=>h) λ_ _ _ _=>bJ) ha c (eS E1)
theorem IU(ha:PD X E a ga)(c:PD X E b gb):PD X E (.BinOp a .Pow b pos) (g2 D7 ga gb):=gN (Cm (C:=Lb) (λ_ _ h=>h) λ_ _ _ _=>bJ) ha c (eS Ja)
theorem Kt(ha:PD X E a ga)(c:PD X E b gb):PD X E (.Compare a [.Lt] [b] pos) (g2 dLt ga gb):=gN (jU λ_ _ _ _=>is_bool) ha c λh1 h2=>oE DN h1 h2 (iX _)
theorem KU(ha:PD X E a ga)(c:PD X E b gb):PD X E (.Compare a [.LtE] [b] pos) (g2 dLe ga gb):=gN (jU λ_ _ _ _=>is_bool) ha c λh1 h2=>oE yT h1 h2 (iX _)
theorem JK(ha:PD X E a ga)(c:PD X E b gb):PCD X E (.Compare a [.Lt] [b] pos) (gT (g2 dLt ga gb)):=ke (jU λ_ _ _ _=>is_bool) ha c λh1 h2=>iV DN h1 h2 (iX _)
theorem Jz(ha:PD X E a ga)(c:PD X E b gb):PCD X E (.Compare a [.LtE] [b] pos) (gT (g2 dLe ga gb)):=ke (jU λ_ _ _ _=>is_bool) ha c λh1 h2=>iV yT h1 h2 (iX _)
theorem IC(ha:PD X E a ga)(c:PD X E b gb):PCD X E (.Compare a [.Gt] [b] pos) (gT (g2 dGt ga gb)):=ke (jU λ_ _ _ _=>is_bool) ha c λh1 h2=>iV K8 h1 h2 (iX _)
open PySem.SeqAt in
def dEq(x y:PyData):Option PyData:=if aG x&&aG y&&shaped x&&shaped y then some (.bool (PyData.eqv x y)) else none
open PySem.SeqAt in
def dNe(x y:PyData):Option PyData:=if aG x&&aG y&&shaped x&&shaped y then some (.bool (!PyData.eqv x y)) else none
open PySem.SeqAt in
theorem Dk:OpD K dEq (λx y H Q=>∃d e,IsD K H d x/\IsD K H e y/\shaped d=true/\shaped e=true/\Q (.bl (PyData.eqv d e)) H):=λd1 d2 d x y H A Q e hA h1 h2 k=>by
 unfold dEq at e;split at e
 ·rename_i z;simp only[Mm]at z;cases e;exact⟨d1,d2,(h1.same aw).isd z.1.1.1,(h2.same aw).isd z.1.1.2,z.1.2,z.2,k _ H (av.refl H) is_bool⟩
 ·cases e
open PySem.SeqAt in
theorem Iv:OpD K dNe (λx y H Q=>∃d e,IsD K H d x/\IsD K H e y/\shaped d=true/\shaped e=true/\Q (.bl (!PyData.eqv d e)) H):=λd1 d2 d x y H A Q e hA h1 h2 k=>by
 unfold dNe at e;split at e
 ·rename_i z;simp only[Mm]at z;cases e;exact⟨d1,d2,(h1.same aw).isd z.1.1.1,(h2.same aw).isd z.1.1.2,z.1.2,z.2,k _ H (av.refl H) is_bool⟩
 ·cases e
theorem KL(c:X.A.units+64<cLine)(ha:PD X E a ga)(e:PD X E b gb):PD X E (.Compare a [.Eq] [b] pos) (g2 dEq ga gb):=gN Dk ha e λh1 h2=>oE (xv c) h1 h2 (iX _)
theorem IV(c:X.A.units+64<cLine)(ha:PD X E a ga)(e:PD X E b gb):PCD X E (.Compare a [.Eq] [b] pos) (gT (g2 dEq ga gb)):=ke Dk ha e λh1 h2=>iV (xv c) h1 h2 (iX _)
theorem IT(c:X.A.units+64<cLine)(ha:PD X E a ga)(e:PD X E b gb):PCD X E (.Compare a [.NotEq] [b] pos) (gT (g2 dNe ga gb)):=ke Iv ha e λh1 h2=>iV (Ho c) h1 h2 (iX _)
noncomputable def fe:PyData->Bool
 |.none=>true
 |_=>false
def nR(x:PyData):Option PyData:=some (.bool (fe x))
def jL(x:PyData):Option PyData:=some (.bool (!fe x))
theorem g1.read{tt:(VK)->VK}{f:PyData->Option PyData}{Q:VK}(R:dH K H A δ σ)(o:gU K E A H (g1 f ga δ) Q)
  (b:∀d1 d x H',f d1=some d->Ls H' A->av H H'->Is K (del H' A) d1 x->(∀v H2,av H' H2->Is K (del H2 A) d v->Q v H2)->tt Q x H'):eD K E ga σ H (tt Q):=by
 unfold g1 at o;refine eD.run R (λd1 e1 v H1 a c h1=>?_) (λC e1 H' s'=>?_) (λe1=>?_)
 ·simp only[e1,Rs.ag]at o;cases e3:f d1 with
  |none=>rw[e3]at o;exact o.elim
  |some d=>rw[e3]at o;exact b d1 d v H1 e3 c.ls a h1 λw H' s q=>o w H' (a.trans s) q
 ·rw[e1]at o;exact o H' s'
 ·rw[e1]at o;exact o
theorem xm{d:PyData}(h:Is K H d v):decide (v=.non)=fe d:=by
 by_cases z:v=.non
 ·rw[decide_eq_true z,h.isNone.mp z];rfl
 ·rw[decide_eq_false z];have:d≠.none:=λq=>z (h.isNone.mpr q)
  cases d <;> first|(exact absurd rfl this)|rfl
theorem Jx{j pos'}(ha:PD X E a ga):PD X E (.Compare a [.Is] [.Constant .none j pos'] pos) (g1 nR ga) :=
 (Cj (Cd ha)).imp λσ H Q ⟨A,δ,R,o⟩=>g1.read (tt:=λQ x H1=>Q (.bl (decide (x=.non))) H1) R o λd1 d x H' e _ _ h k=>by cases e;rw[xm h];exact k _ H' (av.refl _) is_bool
theorem wO{t:TE}(h:PT X e (tB t))(k:∀σ H Q,eD X.K E ga σ H Q->t σ H Q):PCD X E e (gT ga):=h.imp λσ H Q ⟨A,δ,R,o⟩=>k σ H _ ⟨A,δ,R,by
 unfold gT at o;cases q:ga δ with
 |no=>rw[q]at o;exact o
 |rz C=>rw[q]at o;exact o
 |ok d =>
  rw[q]at o;cases d with
  |bool c=>exact λv H' s h=>⟨c,h.ofBool,o H' s⟩
  |_=>exact o.elim⟩
theorem Fo(h:PD X E e ga)(a:∀whole,isTrue e X.env whole=(do let v <-whole;standAt e.pos;holding [v] (truthy v))):PCD X E e (gT ga):=wO (Js h a) λ_ _ _ h=>h
theorem Gx{j pos'}(ha:PD X E a ga):PCD X E (.Compare a [.Is] [.Constant .none j pos'] pos) (gT (g1 nR ga)) :=
 wO (wY (Cd ha)) λσ H Q ⟨A,δ,R,o⟩=>g1.read (tt:=λQ x H1=>Q (.bl (decide (x=.non))) H1) R o λd1 d x H' e _ _ h k=>by cases e;rw[xm h];exact k _ H' (av.refl _) is_bool
theorem Dv{j pos'}(ha:PD X E a ga):PCD X E (.Compare a [.IsNot] [.Constant .none j pos'] pos) (gT (g1 jL ga)) :=
 wO (wY (E5 ha)) λσ H Q ⟨A,δ,R,o⟩=>g1.read (tt:=λQ x H1=>Q (.bl (!decide (x=.non))) H1) R o λd1 d x H' e _ _ h k=>by cases e;rw[xm h];exact k _ H' (av.refl _) is_bool
theorem C6{ca:Ds->Rs Bool}{f:Bool->Rs Bool}{Q:Bool->Hp->Prop}{t:Bool->Hp->Prop}(R:dH K H A δ σ)(o:vm E H ((ca δ).bind f) Q)
  (k:∀b H1,av H H1->dH K H1 A δ σ->vm E H1 (f b) Q->t b H1):cD K E ca σ H t:=by
 refine cD.run R (λb e H1 a c=>?_) (λC e H' s'=>?_) (λe=>?_)
 ·rw[e]at o;exact k b H1 a c (vm.mono (show vm E H (f b) Q from o) a)
 ·rw[e]at o;exact o H' s'
 ·rw[e]at o;exact o
variable {ca cb:Ds->Rs Bool}{rest:List Expr}
theorem GB(ha:PCD X E a ca):PCD X E (.UnaryOp .Not a pos) (gP ca):=(HC ha).imp λσ H Q c=>(by obtain⟨A,δ,R,o⟩:=c;exact C6 R o λb H1 s1 R1 o=>o H1 (av.refl _))
theorem B0(ha:PCD X E a ca):PWD X E (.BoolOp .And [a] pos) ca:=EY ha
theorem F6(ha:PCD X E a ca):PWD X E (.BoolOp .Or [a] pos) ca:=JG ha
theorem yB(ha:PCD X E a ca)(c:PWD X E (.BoolOp .And (b::rest) pos) cb):PWD X E (.BoolOp .And (a::b::rest) pos) (qS ca cb):=PW.imp (IQ ha c) λσ H Q ⟨A,δ,R,o⟩=>C6 R o λb H1 s1 e o=>by
 cases b with
 |true=>exact⟨A,δ,e,o⟩
 |false=>exact o H1 (av.refl _)
theorem Eb(ha:PCD X E a ca)(c:PWD X E (.BoolOp .Or (b::rest) pos) cb):PWD X E (.BoolOp .Or (a::b::rest) pos) (cOr ca cb):=PW.imp (KC ha c) λσ H Q ⟨A,δ,R,o⟩=>C6 R o λb H1 s1 e o=>by
 cases b with
 |false=>exact⟨A,δ,e,o⟩
 |true=>exact o H1 (av.refl _)
theorem G0(h:PWD X E e ca):PCD X E e ca:=PW.pt h
theorem Hf{f:PyData->Rs PyData}{Q:VK}{t:VK}(R:dH K H A δ σ)(o:gU K E A H ((ga δ).bind f) Q)
  (k:∀d v H1,av H H1->dH K H1 A δ σ->Is K (del H1 A) d v->gU K E A H1 (f d) Q->t v H1):eD K E ga σ H t:=by
 refine eD.run R (λd e v H1 a b h1=>?_) (λC e H' s'=>?_) (λe=>?_)
 ·rw[e]at o;exact k d v H1 a b h1 (gU.mono (show gU K E A H (f d) Q from o) a)
 ·rw[e]at o;exact o H' s'
 ·rw[e]at o;exact o
theorem oR{d:PyData}{f:Bool->Rs PyData}{Q:VK}(o:gU K E A H ((truth d).bind f) Q):∃t,d=.bool t/\gU K E A H (f t) Q:=by
 cases d with
 |bool t=>exact⟨t,rfl,o⟩
 |_=>exact o.elim
theorem Im{op}(ha:PD X E a ga):PD X E (.BoolOp op [a] pos) ga:=Hl ha
theorem Ia(ha:PD X E a ga)(c:PD X E (.BoolOp .And (b::rest) pos) gb):PD X E (.BoolOp .And (a::b::rest) pos) (vj ga gb):=(HE ha c).imp λσ H Q ⟨A,δ,R,o⟩=>Hf R o λd v H1 s1 e h1 o=>by
 obtain⟨t,rfl,o⟩:=oR o;refine⟨t,h1.ofBool,?_⟩;cases t with
 |true=>exact⟨A,δ,e,o⟩
 |false=>exact o _ H1 (av.refl _) is_bool
theorem J8(ha:PD X E a ga)(c:PD X E (.BoolOp .Or (b::rest) pos) gb):PD X E (.BoolOp .Or (a::b::rest) pos) (gOr ga gb):=(Lm ha c).imp λσ H Q ⟨A,δ,R,o⟩=>Hf R o λd v H1 s1 e h1 o=>by
 obtain⟨t,rfl,o⟩:=oR o;refine⟨t,h1.ofBool,?_⟩;cases t with
 |false=>exact⟨A,δ,e,o⟩
 |true=>exact o _ H1 (av.refl _) is_bool
theorem J7(hc:PCD X E c ca)(ha:PD X E a ga)(h:PD X E b gb):PD X E (.IfExp c a b pos) (gIf ca ga gb):=(BG hc ha h).imp λσ H Q f=>by
 obtain⟨A,δ,R,o⟩:=f;unfold gIf at o;refine cD.run R (λt e H1 i g=>?_) (λC e H' s'=>?_) (λe=>?_)
 ·rw[e]at o;have o:=gU.mono (show gU X.K E A H (if t=true then ga δ else gb δ) Q from o) i;cases t with
  |true=>exact⟨A,δ,g,o⟩
  |false=>exact⟨A,δ,g,o⟩
 ·rw[e]at o;exact o H' s'
 ·rw[e]at o;exact o
def kr:PyData->Option PyData
 |.int i=>some (.int (-i))
 |_=>none
theorem Jv(ha:PD X E a ga):PD X E (.UnaryOp .USub a pos) (g1 kr ga):=(KG HX ha).imp λσ H Q ⟨A,δ,R,o⟩=>g1.read (tt:=λQ x H1=>∃i,x=.int i/\Q (.int (-i)) H1) R o λd1 d x H' e _ _ h k=>by
 cases d1 with
 |int i=>cases e;exact⟨i,h.ofInt,k _ H' (av.refl _) bJ⟩
 |_=>cases e
theorem Es:PAD X E [] ah:=⟨fQ.imp λσ H Q a=>(by obtain⟨A,δ,R,o⟩:=a;exact o [] H (av.refl _) cR),λδ ds e=>by cases e;rfl⟩
theorem BV(ha:PD X E a ga)(b:PAD X E es gs)(f:starEach (a::es) X.env=(false,eval a X.env)::starEach es X.env):PAD X E (a::es) (af ga gs):=by
 refine⟨(dX ha b.1 f).imp λσ H Q ⟨A,δ,R,o⟩=>?_,λδ ds e=>?_⟩
 ·unfold af at o;refine eD.run R (λd e v H1 c g h1=>?_) (λC e H' s'=>?_) (λe=>?_)
  ·simp only[e,Rs.ag]at o;refine aD.run g (λds e2 vs H2 s2 R2 h2=>?_) (λC e2 H' s'=>?_) (λe2=>?_)
   ·simp only[e2,Rs.ag]at o;exact o _ H2 (c.trans s2) (cA (h1.same s2.del) h2)
   ·simp only[e2,Rs.cB]at o;exact o H' (c.trans s')
   ·simp only[e2,Rs.bf]at o;exact o
  ·simp only[e,Rs.cB]at o;exact o H' s'
  ·simp only[e,Rs.bf]at o;exact o
 ·unfold af at e;cases q:ga δ with
  |ok d =>
   cases q2:gs δ with
   |ok l =>simp only[q,q2,Rs.ag]at e;cases e;simp[b.2 δ l q2]
   |rz C=>simp only[q,q2,Rs.ag,Rs.cB]at e;cases e
   |no=>simp only[q,q2,Rs.ag,Rs.bf]at e;cases e
  |rz C=>simp only[q,Rs.cB]at e;cases e
  |no=>simp only[q,Rs.bf]at e;cases e
theorem u7{f:List PyData->Rs PyData}{Q:VK}(R:dH K H A δ σ)(o:gU K E A H ((gs δ).bind f) Q)
  (k:∀ds vs H1,gs δ=.ok ds->av H H1->dH K H1 A δ σ->Iss K (del H1 A) ds vs->gU K E A H1 (f ds) Q->t vs H1):aD K E gs σ H t:=by
 refine aD.run R (λd e v H1 a b h1=>?_) (λC e H' s'=>?_) (λe=>?_)
 ·rw[e]at o;exact k d v H1 e a b h1 (gU.mono (show gU K E A H (f d) Q from o) a)
 ·rw[e]at o;exact o H' s'
 ·rw[e]at o;exact o
theorem IM{x1}(h:PAD X E es gs)(hl:es.length<=1000):PD X E (.Tuple es x1 pos) (cL gs):=(JP h.1).imp λσ H Q ⟨A,δ,R,o⟩=>u7 R o λds vs H1 e s1 b h1 o=>by have n:=h.2 δ ds e;have m:=h1.length;exact⟨by rw[sizeLine_eq];omega,λp a=>o _ _ (bL a) (om b.ls a h1)⟩
theorem Iy(h:PAD X E es gs)(hl:es.length<=1000):PD X E (.List es pos) (jj gs):=(xh h.1).imp λσ H Q ⟨A,δ,R,o⟩=>u7 R o λds vs H1 e s1 b h1 o=>by have n:=h.2 δ ds e;have m:=h1.length;exact⟨by rw[sizeLine_eq];omega,λp a=>o _ _ (bL a) (l5 b.ls a h1)⟩
def spD(K:W.Frag)(n:Nat)(gf:List PyData->Rs PyData):Sp:=λvs H Q E=>∃A ds,Ls H A/\Iss K (del H A) ds vs/\ds.length=n/\gU K E A H (gf ds) Q
structure ig(P:Program)(w:World)(K:W.Frag)(mg:Str->Option Value)(base:Heap)(k:Nat)(x:Str)(n:Nat)(gf:List PyData->Rs PyData):Prop where
 ex:∃f fd ps,gm P w K mg base (CXW P w) k f fd ps (spD K n gf)/\mg x=some (.ref f)/\W.keepIn K (.ref f)=true/\Binds K fd ps []
theorem wa:Passes (CXW X.prog X.w) X E0:=λ_ _ _ _ _ _ _ a=>(by obtain⟨_,_,_,_,_,_,h,_⟩:=a;exact h.elim)
theorem Fn{k j:Nat}(D:ig X.prog X.w X.K X.mg X.base k x (e::es).length gf)(h:ck j X.A)(i:Passes (CXW X.prog X.w) X E)(ha:PAD X E (e::es) gs)(l:k<=j)(m:Gl X x)
  (a:(x==("__debug__":Str))=false) (n:starEach (e::es) X.env=(false,eval e X.env)::starEach es X.env) (b:(backTo pos (starEach es X.env)).any (·.1)=false) :
  PD X E (.Call (.Name x p) (e::es) [] pos) (au gf gs):=by
 obtain⟨f,fd,ps,F,hm,c,q⟩:=D.ex;refine (yF F (h.mono l) m hm c q .nil i ha.1 a n b).imp λσ H Q g=>?_
 obtain⟨A,δ,R,o⟩:=g;refine u7 R o λds vs H1 e s1 r h1 o=>?_
 refine⟨A,ds,r.ls,by simpa using h1,ha.2 δ ds e,o⟩
def FnD(K:W.Frag)(f:List PyData->Option PyData)(r:List V->Hp->VK->Prop):Prop :=
 ∀(ds:List PyData)(d:PyData)(vs:List V)(H:Hp)(A:List Addr)(Q:VK),f ds=some d->Ls H A->Iss K (del H A) ds vs->(∀v H',av H H'->Is K (del H' A) d v->Q v H')->r vs H Q
theorem fJ{r:List V->Hp->VK->Prop}{f:List PyData->Option PyData}(a:FnD X.K f r)(ha:PAD X E es gs)(mk:∀{t:TA},PA X es t->PE X e (tCB r t)):PD X E e (gF f gs) :=
 (mk ha.1).imp λσ H Q ⟨A,δ,R,o⟩=>u7 R o λds vs H1 e s1 b h1 o=>by
  cases q:f ds with
  |none=>rw[q]at o;exact o.elim
  |some d=>rw[q]at o;exact a ds d vs H1 A Q q b.ls h1 o
end
section
variable {a b c:Expr}{ga gb gc:Ds->Rs PyData}
def G9(K:W.Frag):R2:=λx y H Q=>∃a b xs ys,x=.ref a/\y=.ref b/\SqT K H a xs/\SqT K H b ys/\xs.length+ys.length<=sizeLine /\
 (xs=[]->Q (.ref b) H)/\(xs≠[]->ys=[]->Q (.ref a) H)/\(xs≠[]->ys≠[]->∀p,H p=none->Q (.ref p) (upd H p (.tup (xs++ys))))
theorem Fy:OpR X (binaryOp .Add) (G9 X.K):=by
 intro pins s σ H x y v u Q I i j h;obtain⟨a,b,xs,ys,rfl,rfl,ha,l,o,p,q,r⟩:=h;by_cases hx:xs=[]
 ·cases i;cases j;obtain⟨vs,t,p1,_⟩:=I.tuple ha;obtain⟨ws,r2,p2,_⟩:=I.tuple l;obtain⟨⟨cls,dd,data,w⟩,m,hc,n,hd⟩:=id p1;obtain⟨⟨cls2,f,data2,g⟩,c,e,n2,hd2⟩:=id p2;simp only at hc hd e hd2;subst hc hd e hd2;have hv:vs=[]:=t.nil_iff.mpr hx;exact concat_meets ⟨_,m,rfl⟩ ⟨_,c,rfl⟩ noFill_tuple_add seq_tuple_add F.slot_tuple_add F.entry_tuple_add (F.args_tuple_add_2 _ _)
   (tuple_addW0 a b vs.toArray ws.toArray n n2 dd f w g (by simp[hv])) ⟨m,c,⟨.ref b,H,I,rfl,p hx⟩⟩
 ·exact EC pins s σ H _ _ v u Q I i j ⟨a,b,xs,ys,rfl,rfl,ha,l,hx,o,q hx,r hx⟩
def bg:PyData->PyData->Option PyData
 |.int i,.int j=>some (.int (i+j))
 |.list x,.list y=>if x.length+y.length<=1000000 then some (.list (x++y)) else none
 |.tuple x,.tuple y=>if x.length+y.length<=1000000 then some (.tuple (x++y)) else none
 |_,_=>none
theorem FH:OpD K bg (λx y H Q=>rI0 (λi j=>.int (i+j)) x y H Q\/Ks x y H Q\/G9 K x y H Q):=λd1 d2 d x y H A Q e h h1 h2 k=>by
 unfold bg at e;split at e
 ·cases e;exact .inl ⟨_,_,h1.ofInt,h2.ofInt,k _ H (av.refl _) bJ⟩
 ·rename_i l1 l2;split at e
  ·rename_i l;cases e;obtain⟨p,xs,rfl,f,a⟩:=h1.ofLst;obtain⟨q,ys,rfl,g,b⟩:=h2.ofLst;refine .inr (.inl ⟨p,q,xs,ys,rfl,rfl,aw _ _ f,aw _ _ g,by rw[a.length,b.length,sizeLine_eq];omega,λr c=>k _ _ (bL c) (l5 h c (a.append b))⟩)
  ·cases e
 ·rename_i l1 l2;split at e
  ·rename_i l;cases e;obtain⟨p,xs,rfl,f,a⟩:=h1.ofTup;obtain⟨q,ys,rfl,g,b⟩:=h2.ofTup;refine .inr (.inr ⟨p,q,xs,ys,rfl,rfl,SqT.of (aw _ _ f),SqT.of (aw _ _ g),by rw[a.length,b.length,sizeLine_eq];omega,λz=>?_,λ_ z=>?_,λ_ _ r c=>k _ _ (bL c) (om h c (a.append b))⟩)
   ·subst z;have:l1=[]:=Nw.mp (by rw[<-a.length];rfl);subst this;exact k _ H (av.refl _) (ik g b)
   ·subst z;have:l2=[]:=Nw.mp (by rw[<-b.length];rfl);subst this;rw[N3]at k;exact k _ H (av.refl _) (ik f a)
  ·cases e
 ·cases e
theorem IJ(ha:PD X E a ga)(c:PD X E b gb):PD X E (.BinOp a .Add b pos) (g2 bg ga gb):=gN FH ha c (eS (m8.or (Jy.or Fy)))
def dIx:PyData->PyData->Option PyData
 |.list x,.int i=>atI x i
 |.tuple x,.int i=>atI x i
 |_,_=>none
theorem zr{i:Int}{d:PyData}(h:Iss K H ds vs)(e:atI ds i=some d):∃v,atI vs i=some v/\Is K H d v:=by
 unfold atI at e ⊢;rw[h.length];cases q:ixN ds.length i with
 |none=>rw[q]at e;cases e
 |some j=>rw[q]at e;exact h.getD e
theorem JO:OpD K dIx (λx y H Q=>Kc K x y H Q\/K5 K x y H Q):=λd1 d2 d x y H A Q e hA h1 h2 k=>by
 unfold dIx at e;split at e
 ·obtain⟨p,xs,rfl,a,b⟩:=h1.ofLst;obtain⟨v,c,hv⟩:=zr b e;exact .inl ⟨p,xs,_,v,rfl,h2.ofInt,SqL.of (aw _ _ a),c,k _ H (av.refl _) hv⟩
 ·obtain⟨p,xs,rfl,a,b⟩:=h1.ofTup;obtain⟨v,c,hv⟩:=zr b e;exact .inr ⟨p,xs,_,v,rfl,h2.ofInt,SqT.of (aw _ _ a),c,k _ H (av.refl _) hv⟩
 ·cases e
theorem Ld(ha:PD X E a ga)(c:PD X E b gb)(e:yL b):PD X E (.Subscript a b pos) (g2 dIx ga gb):=gN JO ha c λh1 h2=>Dy (tQ.or Hg) h1 h2 e
def bA:List PyData->Option PyData
 |[.list x]=>some (.int x.length)
 |[.tuple x]=>some (.int x.length)
 |_=>none
theorem ku{d:PyData}(h:Iss K H [d] vs):∃v,vs=[v]/\Is K H d v:=by obtain⟨v,r,rfl,h1,h2⟩:=h.cons_of;rw[h2.nil_of];exact⟨v,rfl,h1⟩
theorem Ay{d e:PyData}(h:Iss K H [d,e] vs):∃v u,vs=[v,u]/\Is K H d v/\Is K H e u:=by obtain⟨v,r,rfl,h1,h2⟩:=h.cons_of;obtain⟨u,rfl,a⟩:=ku h2;exact⟨v,u,rfl,h1,a⟩
theorem GU:FnD K bA (λxs H Q=>∃p ys,xs=[.ref p]/\(SqL K H p ys\/SqT K H p ys)/\Q (.int ys.length) H):=λds d vs H A Q e hA h k=>by
 unfold bA at e;split at e
 ·cases e;obtain⟨v,rfl,a⟩:=ku h;obtain⟨p,xs,rfl,b,c⟩:=a.ofLst;exact⟨p,xs,rfl,.inl (SqL.of (aw _ _ b)),k _ H (av.refl _) (by rw[c.length];exact bJ)⟩
 ·cases e;obtain⟨v,rfl,a⟩:=ku h;obtain⟨p,xs,rfl,b,c⟩:=a.ofTup;exact⟨p,xs,rfl,.inr (SqT.of (aw _ _ b)),k _ H (av.refl _) (by rw[c.length];exact bJ)⟩
 ·cases e
theorem HZ(hm:X.mg "len"=none)(ha:PAD X E (a::es) gs)(c:Gl X "len")(e:starEach (a::es) X.env=(false,eval a X.env)::starEach es X.env)(b:(backTo pos (starEach es X.env)).any (·.1)=false) :
 PD X E (.Call (.Name "len" p) (a::es) [] pos) (gF bA gs):=fJ GU ha λh=>fM iT c hm PySem.boot_len h (by decide) (by decide) e b
theorem D3:bootBuiltins "int"=some (.type "int"):=by decide +kernel
theorem uQ:bootBuiltins "tuple"=some (.type "tuple"):=by decide +kernel
theorem tH:bootBuiltins "list"=some (.type "list"):=by decide +kernel
theorem AZ:bootBuiltins "isinstance"=some (.builtin "isinstance"):=by decide +kernel
theorem HK:bootBuiltins "all"=some (.builtin "all"):=by decide +kernel
theorem Jr:bootBuiltins "min"=some (.builtin "min"):=by decide +kernel
theorem Hh:bootBuiltins "max"=some (.builtin "max"):=by decide +kernel
noncomputable def iF:List PyData->Option (List Int)
 |[]=>some []
 |.int i::r=>(iF r).map (i::·)
 |_::_=>none
theorem fk:∀{ds:List PyData}{ns:List Int},iF ds=some ns->ds=ns.map PyData.int
 |[],_,h=>by cases h;rfl
 |.int i::r,ns,h=>by
  unfold iF at h;cases q:iF r with
  |none=>rw[q]at h;cases h
  |some l=>rw[q]at h;cases h;rw[fk q];rfl
 |.none::_,_,h=>by cases h
 |.bool _::_,_,h=>by cases h
 |.str _::_,_,h=>by cases h
 |.list _::_,_,h=>by cases h
 |.tuple _::_,_,h=>by cases h
 |.dict _::_,_,h=>by cases h
theorem gy:∀(ns:List Int),iF (ns.map PyData.int)=some ns
 |[]=>rfl
 |n::r=>by rw[M5];unfold iF;rw[gy r];rfl
def ip:List PyData->Option (List Bool)
 |[]=>some []
 |.bool i::r=>(ip r).map (i::·)
 |_::_=>none
theorem nO:∀{ds:List PyData}{ns:List Bool},ip ds=some ns->ds=ns.map PyData.bool
 |[],_,h=>by cases h;rfl
 |.bool i::r,ns,h=>by
  unfold ip at h;cases q:ip r with
  |none=>rw[q]at h;cases h
  |some l=>rw[q]at h;cases h;rw[nO q];rfl
 |.none::_,_,h=>by cases h
 |.int _::_,_,h=>by cases h
 |.str _::_,_,h=>by cases h
 |.list _::_,_,h=>by cases h
 |.tuple _::_,_,h=>by cases h
 |.dict _::_,_,h=>by cases h
theorem qr:∀(ns:List Bool),ip (ns.map PyData.bool)=some ns
 |[]=>rfl
 |n::r=>by rw[M5];unfold ip;rw[qr r];rfl
def nW:List PyData->Option PyData
 |[.list x]=>(ip x).map λns=>.bool (ns.all id)
 |_=>none
theorem Gp:FnD K nW (λxs H Q=>∃(a:Addr)(ns:List Bool),xs=[.ref a]/\SqL K H a (ns.map V.bl)/\Q (.bl (ns.all id)) H):=λds d vs H A Q e hA h k=>by
 unfold nW at e;split at e
 ·rename_i x;cases q:ip x with
  |none=>rw[q]at e;cases e
  |some ns =>rw[q]at e;cases e;obtain⟨v,rfl,f⟩:=ku h;obtain⟨p,xs,rfl,b,c⟩:=f.ofLst;rw[nO q]at c;rw[c.ofBools]at b;exact⟨p,ns,rfl,SqL.of (aw _ _ b),k _ H (av.refl _) is_bool⟩
 ·cases e
theorem IW(hc:X.calm=true)(hm:X.mg "all"=none)(ha:PAD X E (a::es) gs)(c:Gl X "all")(e:starEach (a::es) X.env=(false,eval a X.env)::starEach es X.env)(b:(backTo pos (starEach es X.env)).any (·.1)=false) :
 PD X E (.Call (.Name "all" p) (a::es) [] pos) (gF nW gs):=fJ Gp ha λh=>fM (DK hc) c hm HK h (by decide) (by decide) e b
def gA:List PyData->Option PyData
 |[.int i,.int j]=>some (.int (if j<i then j else i))
 |_=>none
def iy:List PyData->Option PyData
 |[.int i,.int j]=>some (.int (if j>i then j else i))
 |_=>none
theorem CZ:FnD K gA (λxs H Q=>∃i j,xs=[.int i,.int j]/\Q (.int (if j<i then j else i)) H):=λds d vs H A Q e hA h k=>by
 unfold gA at e;split at e
 ·cases e;obtain⟨v,u,rfl,h1,h2⟩:=Ay h;rw[h1.ofInt,h2.ofInt];exact⟨_,_,rfl,k _ H (av.refl _) bJ⟩
 ·cases e
theorem DR:FnD K iy (λxs H Q=>∃i j,xs=[.int i,.int j]/\Q (.int (if j>i then j else i)) H):=λds d vs H A Q e hA h k=>by
 unfold iy at e;split at e
 ·cases e;obtain⟨v,u,rfl,h1,h2⟩:=Ay h;rw[h1.ofInt,h2.ofInt];exact⟨_,_,rfl,k _ H (av.refl _) bJ⟩
 ·cases e
theorem EL(hc:X.calm=true)(hm:X.mg "min"=none)(ha:PAD X E (a::es) gs)(c:Gl X "min")(e:starEach (a::es) X.env=(false,eval a X.env)::starEach es X.env)(b:(backTo pos (starEach es X.env)).any (·.1)=false) :
 PD X E (.Call (.Name "min" p) (a::es) [] pos) (gF gA gs):=fJ CZ ha λh=>fM (Ap hc) c hm Jr h (by decide) (by decide) e b
theorem E4(hc:X.calm=true)(hm:X.mg "max"=none)(ha:PAD X E (a::es) gs)(c:Gl X "max")(e:starEach (a::es) X.env=(false,eval a X.env)::starEach es X.env)(b:(backTo pos (starEach es X.env)).any (·.1)=false) :
 PD X E (.Call (.Name "max" p) (a::es) [] pos) (gF iy gs):=fJ DR ha λh=>fM (AY hc) c hm Hh h (by decide) (by decide) e b
def nY:List PyData->Option PyData
 |[.int i]=>some (.int i)
 |[.bool k]=>some (.int (if k then 1 else 0))
 |_=>none
theorem FO:FnD K nY (λxs H Q=>(∃i,xs=[.int i]/\Q (.int i) H)\/∃k,xs=[.bl k]/\Q (.int (if k then 1 else 0)) H):=λds d vs H A Q e hA h k=>by
 unfold nY at e;split at e
 ·cases e;obtain⟨v,rfl,h1⟩:=ku h;rw[h1.ofInt];exact .inl ⟨_,rfl,k _ H (av.refl _) bJ⟩
 ·cases e;obtain⟨v,rfl,h1⟩:=ku h;rw[h1.ofBool];exact .inr ⟨_,rfl,k _ H (av.refl _) bJ⟩
 ·cases e
theorem CH(hm:X.mg "int"=none)(ha:PAD X E (a::es) gs)(c:Gl X "int")(e:starEach (a::es) X.env=(false,eval a X.env)::starEach es X.env)(b:(backTo pos (starEach es X.env)).any (·.1)=false) :
 PD X E (.Call (.Name "int" p) (a::es) [] pos) (gF nY gs):=fJ FO ha λh=>mM Ad c hm D3 h (by decide) (by decide) e b
def jP:List PyData->Option PyData
 |[.list x]=>some (.tuple x)
 |[.tuple x]=>some (.tuple x)
 |_=>none
def k7:List PyData->Option PyData
 |[.list x]=>some (.list x)
 |[.tuple x]=>some (.list x)
 |_=>none
theorem zP:FnD K jP (λxs H Q=>∃p ys,xs=[.ref p]/\((SqL K H p ys/\∀l,H l=none->Q (.ref l) (upd H l (.tup ys)))\/(SqT K H p ys/\Q (.ref p) H))):=λds d vs H A Q e f h k=>by
 unfold jP at e;split at e
 ·cases e;obtain⟨v,rfl,b⟩:=ku h;obtain⟨p,xs,rfl,a,c⟩:=b.ofLst;exact⟨p,xs,rfl,.inl ⟨SqL.of (aw _ _ a),λl hl=>k _ _ (bL hl) (om f hl c)⟩⟩
 ·cases e;obtain⟨v,rfl,b⟩:=ku h;obtain⟨p,xs,rfl,a,c⟩:=b.ofTup;exact⟨p,xs,rfl,.inr ⟨SqT.of (aw _ _ a),k _ H (av.refl _) (ik a c)⟩⟩
 ·cases e
theorem CT:FnD K k7 (λxs H Q=>∃p ys,xs=[.ref p]/\(SqL K H p ys\/SqT K H p ys)/\∀l,H l=none->Q (.ref l) (upd H l (.lst ys))):=λds d vs H A Q e f h k=>by
 unfold k7 at e;split at e
 ·cases e;obtain⟨v,rfl,a⟩:=ku h;obtain⟨p,xs,rfl,b,c⟩:=a.ofLst;exact⟨p,xs,rfl,.inl (SqL.of (aw _ _ b)),λl hl=>k _ _ (bL hl) (l5 f hl c)⟩
 ·cases e;obtain⟨v,rfl,a⟩:=ku h;obtain⟨p,xs,rfl,b,c⟩:=a.ofTup;exact⟨p,xs,rfl,.inr (SqT.of (aw _ _ b)),λl hl=>k _ _ (bL hl) (l5 f hl c)⟩
 ·cases e
theorem wV(hm:X.mg "tuple"=none)(ha:PAD X E (a::es) gs)(c:Gl X "tuple")(e:starEach (a::es) X.env=(false,eval a X.env)::starEach es X.env)(b:(backTo pos (starEach es X.env)).any (·.1)=false) :
 PD X E (.Call (.Name "tuple" p) (a::es) [] pos) (gF jP gs):=fJ zP ha λh=>mM qG c hm uQ h (by decide) (by decide) e b
theorem AL(hm:X.mg "list"=none)(ha:PAD X E (a::es) gs)(c:Gl X "list")(e:starEach (a::es) X.env=(false,eval a X.env)::starEach es X.env)(b:(backTo pos (starEach es X.env)).any (·.1)=false) :
 PD X E (.Call (.Name "list" p) (a::es) [] pos) (gF k7 gs):=fJ CT ha λh=>mM tF c hm tH h (by decide) (by decide) e b
def ia(T:String)(d:PyData):Option PyData:=if aG d then some (.bool (uh d T)) else none
theorem Ah{T:Str}{b:String}{c:Pos}(hm:X.mg "isinstance"=none)(f:X.mg T=none)(q:bootBuiltins T=some (.type b))(r:b∈["bool", "int", "list", "tuple"])(ha:PD X E a ga)
  (s:Gl X "isinstance") (g:Gl X T) (hn:T≠"__name__") (i:(T==("__debug__":Str))=false) (n:starEach [a,.Name T c] X.env=(false,eval a X.env)::starEach [.Name T c] X.env)
  (j:starEach [.Name T c] X.env=(false,eval (.Name T c) X.env)::starEach [] X.env) (l:(backTo pos (starEach [.Name T c] X.env)).any (·.1)=false) :
  PD X E (.Call (.Name "isinstance" p) [a,.Name T c] [] pos) (g1 (ia b) ga):=by
 refine (fM u4 s hm AZ (dX ha (dX (FP (v:=.ty b) g f q rfl hn i) fQ j) n) (by decide) (by decide) n l).imp λσ H Q m=>?_
 obtain⟨A,δ,R,o⟩:=m;refine g1.read (tt:=λQ x H1=>∃d v T,[x,V.ty b]=[v,.ty T]/\IsD X.K H1 d v/\T∈["bool", "int", "list", "tuple"]/\Q (.bl (uh d T)) H1) R o λd1 d x H' e _ _ h k=>?_
 unfold ia at e;split at e
 ·rename_i z;cases e;exact⟨d1,x,b,rfl,(h.same aw).isd z,r,k _ H' (av.refl _) is_bool⟩
 ·cases e
end
def vu(K:W.Frag)(J:It)(ds:List PyData)(G:Hp):Prop:=∀(H1:Hp)(B:List Addr),av G H1->Ls H1 B->(∀b∈B,G b=none) ->
 (∀i,i<ds.length->J.go i H1)/\J.stop ds.length H1/\∀i x H2,i<ds.length->J.yld i H1 x H2->av H1 H2/\∃d,ds[i]?=some d/\Is K (del H2 B) d x
def outI(K:W.Frag)(E:XK)(A:List Addr)(H:Hp)(r:Rs (List PyData))(R:It->Hp->Prop):Prop:=match r with
 |.ok ds=>∀J H',av H H'->vu K J ds (del H' A)->R J H'
 |.rz C=>∀H',av H H'->E (.ref C) none H'
 |.no=>False
def iD(K:W.Frag)(E:XK)(g:Ds->Rs (List PyData)):TI:=λσ H R=>∃A δ,dH K H A δ σ/\outI K E A H (g δ) R
def PID(X:Cx)(E:XK)(tg iter:Expr)(g:Ds->Rs (List PyData)):Prop:=PI X tg iter (iD X.K E g)
theorem PI.imp{it:Expr}{t t':TI}(h:PI X tg it t)(k:∀σ H R,t' σ H R->t σ H R):PI X tg it t':=λpins s σ H R I q=>h pins s σ H R I (k σ H R q)
theorem PI.or{it:Expr}{t t':TI}(h:PI X tg it t)(h':PI X tg it t'):PI X tg it (λσ H R=>t σ H R\/t' σ H R):=λpins s σ H R I q=>q.elim (h pins s σ H R I) (h' pins s σ H R I)
section
variable {a:Expr}{ga:Ds->Rs PyData}
def yh:PyData->Rs (List PyData)
 |.list ds=>.ok ds
 |.tuple ds=>.ok ds
 |_=>.no
theorem lC(s:av G H1)(hB:∀b∈B,G b=none):av G (del H1 B):=λb o e=>by rw[aI (λz=>by rw[hB b z]at e;cases e)];exact s b o e
theorem Bh{p:Addr}(b:G p=some (.lst xs))(h:Iss K G ds xs):vu K (Itl K p) ds G:=λH1 B s _ hB=>by have hl:=h.length;have a:SqL K H1 p xs:=SqL.of (s _ _ b);refine⟨λi hi=>⟨xs,xs[i]'(by omega),a,M1 _⟩,⟨xs,a,by omega⟩,λi x H2 hi y=>?_⟩;obtain⟨rfl,y⟩:=y;obtain⟨d,e,hd⟩:=h.get (y xs a);exact⟨av.refl _,d,e,hd.same (lC s hB)⟩
theorem Ee{p:Addr}(b:G p=some (.tup xs))(h:Iss K G ds xs):vu K (Itt K p) ds G:=λH1 B s _ hB=>by have hl:=h.length;have a:SqT K H1 p xs:=SqT.of (s _ _ b);refine⟨λi hi=>⟨xs,xs[i]'(by omega),a,M1 _⟩,⟨xs,a,by omega⟩,λi x H2 hi y=>?_⟩;obtain⟨rfl,y⟩:=y;obtain⟨d,e,hd⟩:=h.get (y xs a);exact⟨av.refl _,d,e,hd.same (lC s hB)⟩
def bB(g:Ds->Rs PyData):Ds->Rs (List PyData):=λδ=>(g δ).bind yh
theorem ER(h:PD X E a ga):PID X E tg a (bB ga):=(PI.or (FA h) (JI h)).imp λσ H R c=>by
 obtain⟨A,δ,f,o⟩:=c;unfold bB at o;cases q:ga δ with
 |no=>rw[q]at o;exact o.elim
 |rz C=>rw[q]at o;exact .inl (eD.run f (λd e=>by rw[q]at e;cases e) (λj e H' s=>by rw[q]at e;cases e;exact o H' s) (λe=>by rw[q]at e;cases e))
 |ok d =>
  rw[q]at o;cases d with
  |list ds =>refine .inl (eD.run f (λd e v H1 g l h1=>?_) (λj e=>by rw[q]at e;cases e) (λe=>by rw[q]at e;cases e));rw[q]at e;cases e;obtain⟨p,xs,rfl,b,i⟩:=h1.ofLst;exact⟨p,rfl,⟨xs,SqL.of (aw _ _ b)⟩,o _ H1 g (Bh b i)⟩
  |tuple ds =>refine .inr (eD.run f (λd e v H1 g l h1=>?_) (λj e=>by rw[q]at e;cases e) (λe=>by rw[q]at e;cases e));rw[q]at e;cases e;obtain⟨p,xs,rfl,b,i⟩:=h1.ofTup;exact⟨p,rfl,⟨xs,SqT.of (aw _ _ b)⟩,o _ H1 g (Ee b i)⟩
  |_=>exact o.elim
noncomputable def bN(lo:Int)(n:Nat):List PyData:=(List.range n).map λ(i:Nat)=>PyData.int (lo+(i:Int))
theorem cM(lo:Int)(n:Nat):(bN lo n).length=n:=by simp[bN]
theorem xk:vu K (Itr lo n) (bN lo n) G:=λH1 B s _ hB=>by refine⟨λi hi=>by rw[cM]at hi;exact hi,by rw[cM];exact Me _,λi x H2 hi y=>?_⟩;obtain⟨rfl,rfl⟩:=y;rw[cM]at hi;exact⟨av.refl _,_,by simp[bN,hi],bJ⟩
def FK:List PyData->Rs (List PyData)
 |[.int j]=>if -(2 ^ 62)<=j/\j<2 ^ 62 then .ok (bN 0 j.toNat) else .no
 |_=>.no
def KR:List PyData->Rs (List PyData)
 |[.int i,.int j]=>if -(2 ^ 62)<=i/\i<2 ^ 62/\-(2 ^ 62)<=j/\j<2 ^ 62 then .ok (bN i (j-i).toNat) else .no
 |_=>.no
def eJ(g:Ds->Rs (List PyData)):Ds->Rs (List PyData):=λδ=>(g δ).bind FK
def K2(g:Ds->Rs (List PyData)):Ds->Rs (List PyData):=λδ=>(g δ).bind KR
theorem tX{f:List PyData->Rs (List PyData)}{R:It->Hp->Prop}(b:dH K H A δ σ)(o:outI K E A H ((gs δ).bind f) R)
  (k:∀ds vs H1,gs δ=.ok ds->av H H1->dH K H1 A δ σ->Iss K (del H1 A) ds vs->outI K E A H1 (f ds) R->t vs H1):aD K E gs σ H t:=by
 refine aD.run b (λd e v H1 a c h1=>?_) (λC e H' s'=>?_) (λe=>?_)
 ·rw[e]at o;refine k d v H1 e a c h1 ?_;have o:outI K E A H (f d) R:=o;cases q:f d with
  |ok ds=>rw[q]at o;exact λJ H' s j=>o J H' (a.trans s) j
  |rz C=>rw[q]at o;exact λH' s=>o H' (a.trans s)
  |no=>rw[q]at o;exact o
 ·rw[e]at o;exact o H' s'
 ·rw[e]at o;exact o
theorem xE(hm:X.mg "range"=none)(ha:PAD X E [a] gs)(b:Gl X "range")(c:starEach [a] X.env=[(false,eval a X.env)]) :
  PID X E tg (.Call (.Name "range" p) [a] [] pos) (eJ gs):=(zW b hm ha.1 c).imp λσ H R ⟨A,δ,Rp,o⟩=>tX Rp o λds vs H1 e s1 R1 h1 o=>by
 unfold FK at o;split at o
 ·split at o
  ·rename_i z;obtain⟨v,rfl,h⟩:=ku h1;rw[h.ofInt];exact⟨_,rfl,z.1,z.2,o _ H1 (av.refl _) xk⟩
  ·exact o.elim
 ·exact o.elim
def TgD(K:W.Frag)(n0 n:Nat)(tgt:PyData->Option Ds)(g:TG):Prop:=∀(d:PyData)(v:V)(σ a:St)(H:Hp)(A:List Addr)(Q:St->Hp->Prop)(own:Ds),σ.length=n0->a.length=n->Ls H A->Is K (del H A) d v->tgt d=some own ->
 own.length=n/\((∀vs:St,vs.length=n->(∀(i:Nat) e,own[i]?=some (some e)->∃u,vs[i]?=some (some u)/\Is K (del H A) e u)->Q (σ++vs) H)->g v (σ++a) H Q)
def aE:PyData->Option Ds:=λd=>some [some d]
theorem BJ:TgD K n0 1 aE (jR n0):=λd v σ a H A Q own h1 h2 hA hd e=>by
 cases e;refine⟨rfl,λk=>?_⟩;unfold jR;subst h1;rw[set_own σ none v a h2];refine k _ rfl λi e z=>?_
 match i,z with
 |0,z=>cases z;exact⟨v,rfl,hd⟩
def jY:PyData->Option Ds
 |.tuple [x,y]=>some [some x,some y]
 |_=>none
theorem vU:TgD K n0 2 jY (L2.Hq K 2 (L2.yC (jR n0) (L2.yC (jR (n0+1)) L2.Ii))):=λd v σ a H A Q own h1 h2 hA hd e=>by
 unfold jY at e;split at e
 ·rename_i x y;cases e;refine⟨rfl,λk=>?_⟩;obtain⟨p,xs,rfl,b,c⟩:=hd.ofTup;obtain⟨u,w,rfl,f,hw⟩:=Ay c;subst h1;refine⟨p,_,rfl,SqT.of (aw _ _ b),rfl,u,[w],rfl,w,[],rfl,rfl,?_⟩
  match a,h2 with
  |[s1,s2],_ =>
   have:((σ++[s1,s2]).set σ.length (some u)).set (σ.length+1) (some w)=σ++[some u,some w]:=by rw[O1 _ _ (Me _),O1 _ _ (by omega)];simp
   rw[this];refine k _ rfl λi e z=>?_
   match i,z with
   |0,z=>cases z;exact⟨u,rfl,f⟩
   |1,z=>cases z;exact⟨w,rfl,hw⟩
 ·cases e
def eR(cond:Ds->Rs Bool)(elt:Ds->Rs PyData)(tgt:PyData->Option Ds)(δ:Ds):List PyData->Rs (List PyData)
 |[]=>.ok []
 |d::r=>match tgt d with
  |none=>.no
  |some own=>(cond (δ++own)).calm.bind λb=>if b=true then (elt (δ++own)).calm.bind λx=>(eR cond elt tgt δ r).bind λxs=>.ok (x::xs) else eR cond elt tgt δ r
def aS(n0:Nat)(src:Ds->Rs (List PyData))(cond:Ds->Rs Bool)(elt:Ds->Rs PyData)(tgt:PyData->Option Ds):Ds->Rs (List PyData):=λδ=>if δ.length=n0 then (src δ).bind λds=>if ds.length<=1000000 then eR cond elt tgt δ ds else .no else .no
def ba:Ds->Rs Bool:=λ_=>.ok true
def FI(K:W.Frag)(E:XK)(A:List Addr)(H:Hp)(r:Rs (List PyData))(Q:VK):Prop:=match r with
 |.ok ds=>∀a xs H',H a=none->av H H'->H' a=some (.lst xs)->Iss K (del H' (a::A)) ds xs->Q (.ref a) H'
 |.rz C=>∀H',av H H'->E (.ref C) none H'
 |.no=>False
def lD(K:W.Frag)(E:XK)(g:Ds->Rs (List PyData)):TE:=λσ H Q=>∃A δ,dH K H A δ σ/\FI K E A H (g δ) Q
def PLD(X:Cx)(E:XK)(e:Expr)(g:Ds->Rs (List PyData)):Prop:=PE X e (lD X.K E g)
def gL(g:Ds->Rs (List PyData)):Ds->Rs PyData:=λδ=>(g δ).bind λds=>.ok (.list ds)
theorem mq{a:Addr}:av (del H (a::A)) (del H A):=λb o e=>by obtain⟨z,e⟩:=a9 e;rw[aI (λq=>z (M6 _ q))];exact e
theorem Ik{g:Ds->Rs (List PyData)}(h:PLD X E e g):PD X E e (gL g):=PE.imp h λσ H Q ⟨A,δ,R,o⟩=>⟨A,δ,R,by
 unfold gL at o;cases q:g δ with
 |no=>rw[q]at o;exact o
 |rz C=>rw[q]at o;exact o
 |ok ds =>rw[q]at o;intro a xs H' hn s hl hi;exact o _ H' s (iP (by rw[aI (R.ls.new hn)];exact hl) (hi.same mq))⟩
theorem Gi(h:PAD X E es gs)(hl:es.length<=1000):PLD X E (.List es pos) gs:=(xh h.1).imp λσ H Q a=>by
 obtain⟨A,δ,R,o⟩:=a;refine aD.run R (λds e vs H1 f R1 h1=>?_) (λC e H' s'=>by rw[e]at o;exact o H' s') (λe=>by rw[e]at o;exact o);rw[e]at o;have n:=h.2 δ ds e;have m:=h1.length;refine⟨by rw[sizeLine_eq];omega,λp c=>o p vs _ (f.free c) (f.trans (bL c)) aH (h1.same ?_)⟩;refine λb o e=>?_
 obtain⟨z,e⟩:=a9 e;have:b≠p:=aK e c;rw[aI (by simp[this,z]),aB this];exact e
theorem Dn{T:Ds->Rs (List PyData)}{tt:TT}(hT:TgD K n0 own.length tgt g)(U:∀σ H Q,cD K E0 cond σ H Q->tt σ H Q) :
  ∀σ H Q,lD K E (aS n0 T cond ge tgt) σ H Q->tLC own.length (iD K E T) g tt (eD K E0 ge) σ H Q:=by
 intro σ H Q ⟨A,δ,R,o⟩;unfold aS at o;by_cases hn0:δ.length=n0
 case neg=>rw[if_neg hn0]at o;exact o.elim
 rw[if_pos hn0]at o;have X:σ.length=n0:=by rw[<-R.len];exact hn0
 refine⟨A,δ,R,?_⟩;cases q:T δ with
 |no=>rw[q]at o;exact o
 |rz C=>rw[q]at o;exact o
 |ok ds =>
  rw[q]at o;have o:FI K E A H (if ds.length<=1000000 then eR cond ge tgt δ ds else .no) Q:=o;by_cases hz:ds.length<=1000000
  case neg=>rw[if_neg hz]at o;exact o.elim
  rw[if_pos hz]at o;intro J H1 Y hJ D p;have P:=R.same Y;have nD:D∉A:=P.ls.new p;cases qo:eR cond ge tgt δ ds with
  |rz C =>
   exfalso;have:∀l,eR cond ge tgt δ l≠.rz C:=by
    intro l
    induction l with
    |nil=>intro z;cases z
    |cons d r ih =>
     intro z;unfold eR at z;split at z
     ·cases z
     ·rename_i f _;cases c1:cond (δ++f) with
      |ok b =>
       simp only[c1,Rs.c8,Rs.ag]at z;split at z
       ·cases h:ge (δ++f) with
        |ok x =>
         simp only[h,Rs.c8,Rs.ag]at z;cases j:eR cond ge tgt δ r with
         |ok l=>simp only[j,Rs.ag]at z;cases z
         |rz C'=>simp only[j,Rs.cB]at z;cases z;exact ih j
         |no=>simp only[j,Rs.bf]at z;cases z
        |rz C'=>simp only[h,Rs.calm,Rs.bf]at z;cases z
        |no=>simp only[h,Rs.calm,Rs.bf]at z;cases z
       ·exact ih z
      |rz C'=>simp only[c1,Rs.calm,Rs.bf]at z;cases z
      |no=>simp only[c1,Rs.calm,Rs.bf]at z;cases z
   exact this ds qo
  |no=>rw[qo]at o;exact o.elim
  |ok out =>
   rw[qo]at o;have base:av (del H1 A) (del (upd H1 D (.lst [])) (D::A)):=λb o e=>by obtain⟨z,e⟩:=a9 e;have nb:b≠D:=aK e p;rw[aI (by simp[nb,z]),aB nb];exact e
   refine⟨λi m ys H'=>m=ds.length-i/\i<=ds.length/\av H1 H'/\H' D=some (.lst ys)/\ys.length<=i/\∃w rest,eR cond ge tgt δ (ds.drop i)=.ok rest/\out=w++rest/\Iss K (del H' (D::A)) w ys,
    ⟨ds.length,by simp,MR _,bL p,aH,Me _,[],out,qo,rfl,cR⟩,?_⟩
   rintro i m ys H' ⟨rfl,hi,s,hl,hy,w,rest,c1,h,j⟩
   refine⟨hl,?_⟩;have sG:av (del H1 A) H':=aw.trans s;have B:∀b∈D::A,(del H1 A) b=none:=λb F=>by
    rcases M8.mp F with z|z
    ·rw[z,aI nD];exact p
    ·exact gz z
   obtain⟨jg,js,jy⟩:=hJ H' (D::A) sG (λb F=>by
    rcases M8.mp F with z|z
    ·exact⟨_,by rw[z];exact hl,rfl⟩
    ·exact (P.ls.same s) b z) B
   by_cases hlt:i<ds.length
   ·refine .inr ⟨jg i hlt,λx H2 Z G y=>?_⟩;obtain⟨s2,d,ed,hd⟩:=jy i x H2 hlt y;have edr:ds.drop i=d::ds.drop (i+1):=by
     rw[Ng hlt];have:ds[i]=d:=by have:=M1 hlt;rw[this]at ed;exact Option.some.inj ed
     rw[this]
    rw[edr]at c1;unfold eR at c1;cases et:tgt d with
    |none=>rw[et]at c1;cases c1
    |some ow =>
     rw[et]at c1;have l2:H2 D=some (.lst ys):=s2 _ _ hl;have I:Ls H2 (D::A):=λb F=>by
      rcases M8.mp F with z|z
      ·exact⟨_,by rw[z];exact l2,rfl⟩
      ·exact (P.ls.same (s.trans s2)) b z
     obtain⟨hol,hgo⟩:=hT d x σ Z H2 (D::A) (λc H2=>tt c H2 λb H3 =>
      if b=true then eD K E0 ge c H3 λv L=>L D=some (.lst ys)/\ys.length<sizeLine/\(∃a,c=σ++a/\a.length=own.length)/\∃m',m' < ds.length-i/\_
      else (∃a,c=σ++a/\a.length=own.length)/\∃m',m' < ds.length-i/\_) ow X G I hd et
     refine hgo λvs n M=>?_
     have N:av (del H1 A) (del H2 (D::A)):=lC (sG.trans s2) B;have RE:dH K H2 (D::A) (δ++ow) (σ++vs):=by
      refine⟨I,by rw[Mr,Mr,R.len,n,hol],λk e S=>?_⟩;by_cases hk:k<δ.length
      ·rw[Mz hk]at S;obtain⟨u,e1,hu⟩:=P.get k e S;exact⟨u,by rw[Mz (by rw[<-R.len];exact hk)];exact e1,hu.same N⟩
      ·rw[MD (by omega)]at S;obtain⟨u,e1,hu⟩:=M _ e S;exact⟨u,by rw[MD (by rw[<-R.len];omega),<-R.len];exact e1,hu⟩
     have bad:∀r:Rs Bool,r=.rz 0->r.calm=.no:=λr e=>by rw[e];rfl
     refine U _ _ _ (cD.run RE (λb O H3 t R3=>?_) (λC O=>?_) (λO=>?_))
     ·simp only[O,Rs.c8,Rs.ag]at c1;cases b with
      |true =>
       simp only[if_true]at c1;refine eD.run R3 (λxd ex v L s4 R4 hv=>?_) (λC ex=>?_) (λex=>?_)
       ·simp only[ex,Rs.c8,Rs.ag]at c1;cases cr:eR cond ge tgt δ (ds.drop (i+1)) with
        |ok rs =>
         simp only[cr,Rs.ag]at c1;cases c1;have l4:L D=some (.lst ys):=s4 _ _ (t _ _ l2);have dU:del (upd L D (.lst (ys++[v]))) (D::A)=del L (D::A):=kl (M7);refine⟨l4,by rw[sizeLine_eq];omega,⟨vs,rfl,n⟩,ds.length-(i+1),by omega,rfl,hlt,?_,aH,by simp;omega,w++[xd],rs,cr,by rw[h];simp,?_⟩
         ·exact av.put (((s.trans s2).trans t).trans s4) p
         ·rw[dU];exact (j.same (av.del (s2.trans (t.trans s4)))).append (hU hv)
        |rz C=>simp only[cr,Rs.cB]at c1;cases c1
        |no=>simp only[cr,Rs.bf]at c1;cases c1
       ·simp only[ex,Rs.calm,Rs.bf]at c1;cases c1
       ·simp only[ex,Rs.calm,Rs.bf]at c1;cases c1
      |false =>simp only[Mw,if_false]at c1;exact⟨⟨vs,rfl,n⟩,ds.length-(i+1),by omega,rfl,hlt,(s.trans s2).trans t,t _ _ l2,by omega,w,rest,c1,h,j.same (av.del (s2.trans t))⟩
     ·simp only[O,Rs.calm,Rs.bf]at c1;cases c1
     ·simp only[O,Rs.calm,Rs.bf]at c1;cases c1
   ·have e:i=ds.length:=by omega
    subst e;rw[Od]at c1;cases c1;rw[N3]at h;subst h;exact .inl ⟨js,o D ys H' (Y.free p) (Y.trans s) hl j⟩
def fF:Expr->List Str
 |.Name x _=>[x]
 |.Tuple [.Name x _,.Name y _] _ _=>[x,y]
 |_=>[]
def GV(own N:List Str):List Str:=N.map λx=>bif own.elem x then x++"__" else x
abbrev bk(X:Cx)(tg:Expr)(scope:Scope):=blk X (GV (fF tg) X.N) scope (fF tg)
abbrev Iu(X:Cx)(tg:Expr)(scope:Scope):Bool:=rp X.N (GV (fF tg) X.N) X.env.scope scope (fF tg)
inductive PIf (X:Cx):List Expr->(Ds->Rs Bool)->Prop
 |nil:PIf X [] ba
 |one {c:Expr} {g:Ds->Rs Bool} (h:PCD X E0 c g):PIf X [c] g
def KO(K:W.Frag)(ifs:List Expr)(g:Ds->Rs Bool):TT:=match ifs with
 |[]=>uU
 |_=>cD K E0 g
theorem PIf.pts{g:Ds->Rs Bool}(h:PIf X ifs g):PTs X ifs (KO X.K ifs g):=by
 cases h with
 |nil=>exact .nil
 |one h=>exact .one h
theorem PIf.tt{g:Ds->Rs Bool}(h:PIf X ifs g):∀σ H Q,cD K E0 g σ H Q->KO K ifs g σ H Q:=by
 cases h with
 |nil=>exact λσ H Q a=>(by obtain⟨A,δ,R,o⟩:=a;exact o H (av.refl _))
 |one h=>exact λ_ _ _ h=>h
theorem CS{a:Ds->Rs (List PyData)}(hc:X.calm=true)(hi:PID X E tg iter a)
  (c:TgD X.K n0 (fF tg).length tgt g) (e:∀C s2 H2 fp,PG (bk X tg scope C s2 H2 fp) tg g) (b:∀C s2 H2 fp,PIf (bk X tg scope C s2 H2 fp) ifs cond) (f:∀C s2 H2 fp,PD (bk X tg scope C s2 H2 fp) E0 elt ge)
  (hB:Iu X tg scope=true) (h:∀x,foldedSetIterable iter X.env x=pure x):PLD X E (.ListComp elt [⟨tg,iter,ifs,0⟩] scope pos) (aS n0 a cond ge tgt) :=
 (BQ (own:=fF tg) (te:=eD X.K E0 ge) hc hi e (λC s2 H2 fp=>(b C s2 H2 fp).pts) (λC s2 H2 fp=>f C s2 H2 fp) hB h).imp (Dn c (PIf.tt (b 0 X.s₀ X.H₀ [])))
def PLS(X:Cx)(E:XK)(i:Nat)(st:Stmt)(a:Ds->Rs (List PyData)):Prop:=PS X st (Ef (lD X.K E a) (jR i))
theorem vp{c:Ds->Rs (List PyData)}(a:swapsWith (.ListComp elt [⟨tg,iter,ifs,0⟩] scope pos) (some (.Name x pos')) spos.line X.env=pure true)(hc:X.calm=true)(f:X.N.Nodup)(hi:PID X E tg iter c)
  (j:TgD X.K n0 (fF tg).length tgt g) (l:∀C s2 H2 fp,PG (bk X tg scope C s2 H2 fp) tg g) (e:∀C s2 H2 fp,PIf (bk X tg scope C s2 H2 fp) ifs cond) (m:∀C s2 H2 fp,PD (bk X tg scope C s2 H2 fp) E0 elt ge)
  (b:X.N[i]?=some x) (n:Loc X.env.scope x) (hB:Iu X tg scope=true) (o:∀x,foldedSetIterable iter X.env x=pure x) (p:X.fn x=true\/X.env.scope.names.lookup x=some .local) :
  PLS X E i (.Assign [.Name x pos'] (.ListComp elt [⟨tg,iter,ifs,0⟩] scope pos) spos) (aS n0 c cond ge tgt) :=
 PS.imp (ql (own:=fF tg) (te:=eD X.K E0 ge) hc f b n a hi l (λC s2 H2 fp=>(e C s2 H2 fp).pts) (λC s2 H2 fp=>m C s2 H2 fp) hB o p) λD σ H h=>Dn j (PIf.tt (e 0 X.s₀ X.H₀ [])) σ H _ h
end
inductive Sr where
 |nx (δ:Ds)
 |rt (d:PyData)
 |rz (C:Addr)
 |bk (δ:Ds)
 |ct (δ:Ds)
 |no
def gY(K:W.Frag)(G:Hp):PyData->HO->Prop
 |.list ds,.lst xs=>Iss K G ds xs
 |.dict kvs,o=>EO kvs o
 |_,_=>False
theorem gY.same{G':Hp}{d:PyData}(h:gY K G d o)(s:av G G'):gY K G' d o:=by
 unfold gY at h ⊢;split at h
 ·exact Iss.same s h
 ·exact h
 ·exact h.elim
theorem gY.is{d:PyData}(h:gY K G d o)(ha:G a=some o):Is K G d (.ref a):=by
 unfold gY at h;split at h
 ·exact iP ha h
 ·unfold Is;exact .inl (.inr ⟨a,_,rfl,h,ha⟩)
 ·exact h.elim
theorem gY.lst(h:gY K G (.list ds) o):∃xs,o=.lst xs/\Iss K G ds xs:=by
 unfold gY at h;split at h
 ·rename_i e;cases e;exact⟨_,rfl,h⟩
 ·rename_i e;cases e
 ·exact h.elim
structure bK(K:W.Frag)(H0:Hp)(A0:List Addr)(H:Hp)(A:List Addr)(O:List Nat)(δ:Ds)(σ:St):Prop where
 same:av H0 H
 ls0:Ls H0 A0
 new:∀a∈A,H0 a=none
 ls:Ls H A
 len:δ.length=σ.length
 pl:∀(i:Nat) d,i∉O->δ[i]?=some (some d)->∃v,σ[i]?=some (some v)/\Is K (del H (A++A0)) d v
 own:∀(i:Nat) d,i∈O->δ[i]?=some (some d)->∃a o d',σ[i]?=some (some (.ref a))/\a∈A/\H a=some o/\d=d'/\gY K (del H (A++A0)) d' o
 inj:∀(i j:Nat) d e a,i∈O->j∈O->δ[i]?=some (some d)->δ[j]?=some (some e)->σ[i]?=some (some (.ref a))->σ[j]?=some (some (.ref a))->i=j
def mask(O:List Nat)(δ:Ds):Ds:=if O=[] then δ else δ.mapIdx λi d=>if i∈O then none else d
theorem oP(δ:Ds):mask [] δ=δ:=by simp[mask]
theorem CP{d:PyData}(h:(mask O δ)[i]?=some (some d)):i∉O/\δ[i]?=some (some d):=by
 unfold mask at h;split at h
 ·rename_i z;subst z;exact⟨by simp,h⟩
 ·rw[Nq]at h;cases q:δ[i]? with
  |none=>rw[q]at h;cases h
  |some x =>
   rw[q]at h;simp only[MN,Option.some.injEq]at h;by_cases z:i∈O
   ·rw[if_pos z]at h;cases h
   ·rw[if_neg z]at h;exact⟨z,by rw[h]⟩
theorem vq:(mask O δ).length=δ.length:=by unfold mask;split <;> simp
theorem wC:av (del H (A++B)) (del H B):=λb o e=>by obtain⟨z,e⟩:=a9 e;rw[aI (λq=>z (Md _ q))];exact e
section
theorem bK.lsA(R:bK K H0 A0 H A O δ σ):Ls H (A++A0):=λa h=>(Mx.mp h).elim (R.ls a) λz=>(R.ls0.same R.same) a z
theorem bK.step(R:bK K H0 A0 H A O δ σ)(s:av H H1):bK K H0 A0 H1 A O δ σ where
 same:=R.same.trans s
 ls0:=R.ls0
 new:=R.new
 ls:=R.ls.same s
 len:=R.len
 pl:=λi d h e=>by obtain⟨v,e1,h1⟩:=R.pl i d h e;exact⟨v,e1,h1.same s.del⟩
 own:=λi d h e=>by obtain⟨a,xs,ds,e1,h1,h2,b,c⟩:=R.own i d h e;exact⟨a,xs,ds,e1,h1,s _ _ h2,b,c.same s.del⟩
 inj:=R.inj
theorem bK.apart(R:bK K H0 A0 H A O δ σ)(h:a∈A):a∉A0:=λz=>by obtain⟨xs,e,_⟩:=R.ls0 a z;rw[R.new a h]at e;cases e
theorem bK.ownL(R:bK K H0 A0 H A O δ σ)(h:i∈O)(e:δ[i]?=some (some (.list ds))):∃a xs b,σ[i]?=some (some (.ref a))/\a∈A/\H a=some (.lst xs)/\PyData.list ds=.list b/\Iss K (del H (A++A0)) b xs:=by obtain⟨a,o,d',e1,h1,h2,c,f⟩:=R.own i _ h e;subst c;obtain⟨xs,rfl,g⟩:=f.lst;exact⟨a,xs,ds,e1,h1,h2,rfl,g⟩
theorem bK.full(R:bK K H0 A0 H A O δ σ):dH K H A0 δ σ where
 ls:=R.ls0.same R.same
 len:=R.len
 get:=λi d e=>by
  by_cases h:i∈O
  ·obtain⟨a,xs,ds,e1,h1,h2,b,c⟩:=R.own i d h e;subst b;exact⟨_,e1,(c.same wC).is (by rw[aI (R.apart h1)];exact h2)⟩
  ·obtain⟨v,e1,h1⟩:=R.pl i d h e;exact⟨v,e1,h1.same wC⟩
theorem bK.part(R:bK K H0 A0 H A O δ σ):dH K H (A++A0) (mask O δ) σ where
 ls:=R.lsA
 len:=by rw[vq];exact R.len
 get:=λi d e=>by obtain⟨h,e⟩:=CP e;exact R.pl i d h e
theorem get_set{l:List α}{j:Nat}{x y:α}(h:(l.set i x)[j]?=some y):(i=j/\y=x)\/(i≠j/\l[j]?=some y):=by
 by_cases z:i=j
 ·subst z;rw[List.getElem?_set_self']at h;cases q:l[i]? with
  |none=>rw[q]at h;cases h
  |some w=>rw[q]at h;simp at h;exact .inl ⟨rfl,h.symm⟩
 ·rw[MA z]at h;exact .inr ⟨z,h⟩
theorem j9{l:List α}{j:Nat}{x y:α}(hn:i≠j)(h:l[j]?=some y):(l.set i x)[j]?=some y:=by rw[MA hn];exact h
theorem bK.set{d:PyData}(R:bK K H0 A0 H A O δ σ)(hi:i∉O)(hl:i<δ.length)(h:Is K (del H (A++A0)) d v):bK K H0 A0 H A O (δ.set i (some d)) (σ.set i (some v)) where
 same:=R.same
 ls0:=R.ls0
 new:=R.new
 ls:=R.ls
 len:=by simp[R.len]
 pl:=λj e b q=>by
  rcases get_set q with⟨z,q⟩|⟨z,q⟩
  ·cases q;subst z;exact⟨v,by rw[MI (by rw[<-R.len];exact hl)],h⟩
  ·obtain⟨u,e1,h1⟩:=R.pl j e b q;exact⟨u,j9 z e1,h1⟩
 own:=λj e b q=>by
  rcases get_set q with⟨z,q⟩|⟨z,q⟩
  ·subst z;exact absurd b hi
  ·obtain⟨a,xs,ds,e1,h1⟩:=R.own j e b q;exact⟨a,xs,ds,j9 z e1,h1⟩
 inj:=λj k d' e a b c f g p1 p2=>by
  have n1:i≠j:=λz=>hi (z▸b)
  have n2:i≠k:=λz=>hi (z▸c)
  rw[MA n1]at f p1;rw[MA n2]at g p2;exact R.inj j k d' e a b c f g p1 p2
theorem bK.setOwn(R:bK K H0 A0 H A O δ σ)(hi:i∈O)(hl:i<δ.length)(hn:H a=none)(s:av H H1)(ha:H1 a=some (.lst xs))(h:Iss K (del H1 (a::(A++A0))) ds xs) :
  bK K H0 A0 H1 (a::A) O (δ.set i (some (.list ds))) (σ.set i (some (.ref a))) where
 same:=R.same.trans s
 ls0:=R.ls0
 new:=λb m=>by
  rcases M8.mp m with z|z
  ·rw[z];exact R.same.free hn
  ·exact R.new b z
 ls:=λb m=>by
  rcases M8.mp m with z|z
  ·exact⟨_,by rw[z];exact ha,rfl⟩
  ·exact (R.ls.same s) b z
 len:=by simp[R.len]
 pl:=λj e c q=>by
  rcases get_set q with⟨z,q⟩|⟨z,q⟩
  ·subst z;exact absurd hi c
  ·obtain⟨u,e1,h1⟩:=R.pl j e c q;refine⟨u,j9 z e1,h1.same λb o e=>?_⟩;obtain⟨y,e⟩:=a9 e;have n:b≠a:=aK e hn;rw[aI (by simpa[n] using y)];exact s _ _ e
 own:=λj e c q=>by
  have r:∀b o,del H (A++A0) b=some o->del H1 (a::A++A0) b=some o:=λb o e=>by obtain⟨y,e⟩:=a9 e;have n:b≠a:=aK e hn;rw[aI (by simpa[n] using y)];exact s _ _ e
  rcases get_set q with⟨z,q⟩|⟨z,q⟩
  ·cases q;subst z;exact⟨a,_,_,by rw[MI (by rw[<-R.len];exact hl)],M7,ha,rfl,h⟩
  ·obtain⟨b,ys,es,e1,h1,h2,t,v⟩:=R.own j e c q;exact⟨b,ys,es,j9 z e1,M6 _ h1,s _ _ h2,t,v.same r⟩
 inj:=λj k d' e b c f g l p1 p2=>by
  have old:∀k,k∈O->i≠k->∀e,δ[k]?=some (some e)->σ[k]?=some (some (.ref a))->False:=λk f _ e q p=>by obtain⟨b,ys,es,e1,h1,h2,_⟩:=R.own k e f q;rw[p]at e1;cases e1;rw[hn]at h2;cases h2
  by_cases z1:i=j
  ·by_cases z2:i=k
   ·rw[<-z1,z2]
   ·subst z1;rw[MI (by rw[<-R.len];exact hl)]at p1;cases p1;rw[MA z2]at l p2;exact (old k f z2 e l p2).elim
  ·by_cases z2:i=k
   ·subst z2;rw[MI (by rw[<-R.len];exact hl)]at p2;cases p2;rw[MA z1]at g p1;exact (old j c z1 d' g p1).elim
   ·rw[MA z1]at g p1;rw[MA z2]at l p2;exact R.inj j k d' e b c f g l p1 p2
theorem bK.put{l:PyData}(R:bK K H0 A0 H A O δ σ)(hi:i∈O)(hd:δ[i]?=some (some l))(p:σ[i]?=some (some (.ref a)))(ha:a∈A)(h:Iss K (del H (A++A0)) ds ys) :
  bK K H0 A0 (upd H a (.lst ys)) A O (δ.set i (some (.list ds))) σ:=by
 have m:del (upd H a (.lst ys)) (A++A0)=del H (A++A0):=kl (MF _ ha);have hl:i<δ.length:=(My.mp hd).1;refine⟨λb o e=>?_,R.ls0,R.new,λb s=>?_,by simp[R.len],λj e c q=>?_,λj e c q=>?_,λj k d' e b c r f g p1 p2=>?_⟩
 ·have n:b≠a:=λz=>by rw[z,R.new a ha]at e;cases e
  rw[aB n];exact R.same b o e
 ·by_cases z:b=a
  ·exact⟨_,by rw[z,aH],rfl⟩
  ·rw[aB z];exact R.ls b s
 ·rcases get_set q with⟨z,q⟩|⟨z,q⟩
  ·subst z;exact absurd hi c
  ·rw[m];exact R.pl j e c q
 ·rcases get_set q with⟨z,q⟩|⟨z,q⟩
  ·cases q;subst z;exact⟨a,_,_,p,ha,aH,rfl,by rw[m];exact h⟩
  ·obtain⟨b,zs,es,e1,h1,h2,t,u⟩:=R.own j e c q;have n:b≠a:=λw=>z (R.inj i j _ _ a hi c hd q p (by rw[<-w];exact e1))
   exact⟨b,zs,es,e1,h1,by rw[aB n];exact h2,t,by rw[m];exact u⟩
 ·rcases get_set f with⟨z1,f⟩|⟨z1,f⟩ <;> rcases get_set g with⟨z2,g⟩|⟨z2,g⟩
  ·rw[<-z1,z2]
  ·subst z1;exact R.inj i k l e b hi r hd g p1 p2
  ·subst z2;exact R.inj j i d' l b c hi f hd p1 p2
  ·exact R.inj j k d' e b c r f g p1 p2
def un(H0 G:Hp):Hp:=λb=>match H0 b with|some o=>some o|none=>G b
theorem El:av H0 (un H0 G):=λb o e=>by unfold un;rw[e]
theorem LF(a:av H0 H)(c:av G H):av G (un H0 G):=λb o e=>by
 unfold un;cases q:H0 b with
 |none=>exact e
 |some o2=>have h2:=a b o2 q;rw[c b o e]at h2;exact h2.symm
theorem Ke(a:av H0 H)(c:av G H):av (un H0 G) H:=λb o e=>by
 unfold un at e;cases q:H0 b with
 |none=>rw[q]at e;exact c b o e
 |some o2=>rw[q]at e;rw[<-Option.some.inj e];exact a b o2 q
theorem bK.more(R:bK K H0 A0 H A O δ σ):bK K (un H0 (del H (A++A0))) A0 H A O δ σ :=
 ⟨Ke R.same aw,R.ls0.same El,λa h=>by unfold un;rw[R.new a h];exact gz (MF _ h),R.ls,R.len,R.pl,R.own,R.inj⟩
theorem bK.less{b:Hp}(R:bK K b A0 H A O δ σ)(s:av H0 b)(l:Ls H0 A0):bK K H0 A0 H A O δ σ:=⟨s.trans R.same,l,λa h=>s.free (R.new a h),R.ls,R.len,R.pl,R.own,R.inj⟩
end
def lu(K:W.Frag)(E:XK)(H0:Hp)(A0:List Addr)(O:List Nat)(r:Sr)(D:Ends):Prop:=match r with
 |.nx δ=>∀A σ H,bK K H0 A0 H A O δ σ->D.nx σ H
 |.rt d=>∀v H,av H0 H->Is K (del H A0) d v->D.rt v H
 |.rz C=>∀H,av H0 H->E (.ref C) none H
 |.bk δ=>∀A σ H,bK K H0 A0 H A O δ σ->D.bk σ H
 |.ct δ=>∀A σ H,bK K H0 A0 H A O δ σ->D.ct σ H
 |.no=>False
def sD(K:W.Frag)(E:XK)(O:List Nat)(G:Ds->Sr):TS:=λD σ H=>∃H0 A0 A δ,bK K H0 A0 H A O δ σ/\lu K E H0 A0 O (G δ) D
def PSD(X:Cx)(E:XK)(O:List Nat)(s:Stmt)(G:Ds->Sr):Prop:=PS X s (sD X.K E O G)
def PBD(X:Cx)(E:XK)(O:List Nat)(ss:List Stmt)(G:Ds->Sr):Prop:=PSs X ss (sD X.K E O G)
def aX:Ds->Sr:=λδ=>.nx δ
def az(a b:Ds->Sr):Ds->Sr:=λδ=>match a δ with
 |.nx δ'=>b δ'
 |r=>r
noncomputable def ofR{α:Type}(r:Rs α)(k:α->Sr):Sr:=match r with
 |.ok a=>k a
 |.rz C=>.rz C
 |.no=>.no
@[simp]theorem ax(a:α)(k:α->Sr):ofR (.ok a) k=k a:=rfl
@[simp]theorem pK(C:Addr)(k:α->Sr):ofR (.rz C) k=.rz C:=rfl
@[simp]theorem pF(k:α->Sr):ofR (.no:Rs α) k=.no:=rfl
def sIf(c:Ds->Rs Bool)(a b:Ds->Sr):Ds->Sr:=λδ=>ofR (c δ) λt=>if t=true then a δ else b δ
def bx(g:Ds->Rs PyData):Ds->Sr:=λδ=>ofR (g δ) .rt
def si(g:Ds->Rs PyData):Ds->Sr:=λδ=>ofR (g δ) λ_=>.nx δ
def aR(O:List Nat)(i:Nat)(g:Ds->Rs PyData):Ds->Sr:=λδ=>if i<δ.length then ofR (g (mask O δ)) λd=>.nx (δ.set i (some d)) else .no
def ky(i:Nat)(g:Ds->Rs PyData):Ds->Sr:=λδ=>if i<δ.length then ofR (g δ) λd=>if dG d then .nx (δ.set i (some d)) else .no else .no
def dh(O:List Nat)(i:Nat)(g:Ds->Rs (List PyData)):Ds->Sr:=λδ=>if i<δ.length then ofR (g (mask O δ)) λds=>.nx (δ.set i (some (.list ds))) else .no
def fR(O:List Nat)(i:Nat)(g:Ds->Rs PyData):Ds->Sr:=λδ=>match δ[i]? with
 |some (some (.list ds))=>ofR (g (mask O δ)) λd=>if ds.length<1000000 then .nx (δ.set i (some (.list (ds++[d])))) else .no
 |_=>.no
def pL(i:Nat)(g:Ds->Rs PyData):Ds->Sr:=λδ=>match δ[i]? with
 |some (some (.list ds))=>ofR (g δ) λd=>if dG d/\ds.length<1000000 then .nx (δ.set i (some (.list (ds++[d])))) else .no
 |_=>.no
section
variable {G G':Ds->Sr}{a b c:Expr}{ga gb:Ds->Rs PyData}{ca:Ds->Rs Bool}
theorem oj:PBD X E O [] aX:=tR.imp λD σ H a=>(by obtain⟨H0,A0,A,δ,R,o⟩:=a;exact o A σ H R)
theorem cV(h1:PSD X E O st G)(h2:PBD X E O ss G'):PBD X E O (st::ss) (az G G'):=(dq h1 h2).imp λD σ H ⟨H0,A0,A,δ,R,o⟩=>⟨H0,A0,A,δ,R,by
 unfold az at o;cases q:G δ with
 |nx δ'=>rw[q]at o;exact λa σ' H' b=>⟨H0,A0,a,δ',b,o⟩
 |rt d=>rw[q]at o;exact o
 |rz C=>rw[q]at o;exact o
 |bk d=>rw[q]at o;exact o
 |ct d=>rw[q]at o;exact o
 |no=>rw[q]at o;exact o⟩
theorem oF(h1:PSD X E O st G):PBD X E O [st] G:=(i5 h1).imp λD σ H h=>h
theorem xy{a:List Stmt}(hc:PCD X E c ca)(h1:PBD X E O ss G)(h2:PBD X E O a G'):PSD X E O (.If c ss a pos) (sIf ca G G'):=(yK hc h1 h2).imp λD σ H e=>by
 obtain⟨H0,A0,A,δ,R,o⟩:=e;unfold sIf at o;refine cD.run R.full (λt b H1 f R1=>?_) (λC b H' s'=>?_) (λb=>?_)
 ·rw[b]at o;cases t with
  |true=>exact⟨H0,A0,A,δ,R.step f,o⟩
  |false=>exact⟨H0,A0,A,δ,R.step f,o⟩
 ·rw[b]at o;exact o H' (R.same.trans s')
 ·rw[b]at o;exact o
theorem ug(h:PD X E e ga):PSD X E O (.Return (some e) pos) (bx ga):=(mx h).imp λD σ H a=>by
 obtain⟨H0,A0,A,δ,R,o⟩:=a;unfold bx at o;refine eD.run R.full (λd c v H1 f R1 hv=>?_) (λC b H' s'=>?_) (λb=>?_)
 ·rw[c]at o;exact o v H1 (R.same.trans f) hv
 ·rw[b]at o;exact o H' (R.same.trans s')
 ·rw[b]at o;exact o
theorem D8(h:PD X E e ga)(c:swapsWith e none pos.line X.env=pure false):PSD X E O (.Expr e pos) (si ga):=(lH h c).imp λD σ H a=>by
 obtain⟨H0,A0,A,δ,R,o⟩:=a;unfold si at o;refine eD.run R.full (λd f v H1 g R1 hv=>?_) (λC b H' s'=>?_) (λb=>?_)
 ·rw[f]at o;exact o A σ H1 (R.step g)
 ·rw[b]at o;exact o H' (R.same.trans s')
 ·rw[b]at o;exact o
theorem E8(h:PD X E e ga)(c:X.N.Nodup)(f:i∉O)(hi:X.N[i]?=some x)(g:Loc X.env.scope x)(j:swapsWith e (some (.Name x pos')) pos.line X.env=pure false)
  (l:X.fn x=true\/X.env.scope.names.lookup x=some .local):PSD X E O (.Assign [.Name x pos'] e pos) (aR O i ga):=(mV c hi g h j l).imp λD σ H a=>by
 obtain⟨H0,A0,A,δ,R,o⟩:=a;unfold aR at o;split at o
 ·rename_i hl;refine eD.run R.part (λd m v H1 n R1 hv=>?_) (λC b H' s'=>?_) (λb=>?_)
  ·rw[m]at o;exact o A _ H1 ((R.step n).set f hl hv)
  ·rw[b]at o;exact o H' (R.same.trans s')
  ·rw[b]at o;exact o
 ·exact o.elim
theorem Cp(h:PD X E e ga)(f:X.N.Nodup)(g:i∉O)(hi:X.N[i]?=some x)(j:Loc X.env.scope x)(l:swapsWith e (some (.Name x pos')) pos.line X.env=pure false)
  (m:X.fn x=true\/X.env.scope.names.lookup x=some .local):PSD X E O (.Assign [.Name x pos'] e pos) (ky i ga):=(mV f hi j h l m).imp λD σ H a=>by
 obtain⟨H0,A0,A,δ,R,o⟩:=a;unfold ky at o;split at o
 ·rename_i hl;refine eD.run R.full (λd n v H1 c R1 hv=>?_) (λC b H' s'=>?_) (λb=>?_)
  ·rw[n]at o;have o:lu X.K E H0 A0 O (if dG d=true then .nx (δ.set i (some d)) else .no) D:=o;split at o
   ·rename_i hd;exact o A _ H1 ((R.step c).set g hl ((hv.same aw).dl (R.step c).lsA hd))
   ·exact o.elim
  ·rw[b]at o;exact o H' (R.same.trans s')
  ·rw[b]at o;exact o
 ·exact o.elim
theorem Fz{a:Ds->Rs (List PyData)}(h:PLD X E e a)(f:X.N.Nodup)(g:i∈O)(hi:X.N[i]?=some x)(j:Loc X.env.scope x)(l:swapsWith e (some (.Name x pos')) pos.line X.env=pure false)
  (m:X.fn x=true\/X.env.scope.names.lookup x=some .local):PSD X E O (.Assign [.Name x pos'] e pos) (dh O i a):=(mV f hi j h l m).imp λD σ H b=>by
 obtain⟨H0,A0,A,δ,R,o⟩:=b;unfold dh at o;split at o
 ·rename_i hl;refine⟨A++A0,mask O δ,R.part,?_⟩;cases q:a (mask O δ) with
  |ok ds =>rw[q]at o;exact λp xs H' hn s n c=>o (p::A) _ H' (R.setOwn g hl hn s n c)
  |rz C=>rw[q]at o;exact λH' s'=>o H' (R.same.trans s')
  |no=>rw[q]at o;exact o
 ·exact o.elim
theorem DF{a:Ds->Rs (List PyData)}(h:PLS X E i st a)(e:i∈O):PSD X E O st (dh O i a):=PS.imp h λD σ H b=>by
 obtain⟨H0,A0,A,δ,R,o⟩:=b;unfold dh at o;split at o
 ·rename_i hl;refine⟨A++A0,mask O δ,R.part,?_⟩;cases q:a (mask O δ) with
  |ok ds =>rw[q]at o;exact λp xs H' hn s f c=>o (p::A) _ H' (R.setOwn e hl hn s f c)
  |rz C=>rw[q]at o;exact λH' s'=>o H' (R.same.trans s')
  |no=>rw[q]at o;exact o
 ·exact o.elim
theorem DD{a:Ds->Rs (List PyData)}(h:PLS X E i st a)(f:i∉O):PSD X E O st (aR O i (gL a)):=PS.imp h λD σ H b=>by
 obtain⟨H0,A0,A,δ,R,o⟩:=b;unfold aR gL at o;split at o
 ·rename_i hl;have e:=R.part;refine⟨A++A0,mask O δ,e,?_⟩;cases q:a (mask O δ) with
  |ok ds =>rw[q]at o;intro p xs H' hn s g c;exact o A _ H' ((R.step s).set f hl (iP (by rw[aI (e.ls.new hn)];exact g) (c.same mq)))
  |rz C=>rw[q]at o;exact λH' s'=>o H' (R.same.trans s')
  |no=>rw[q]at o;exact o
 ·exact o.elim
theorem tyL{p:Addr}(h:H p=some (.lst xs)):tyV K "list" (.ref p) H:=.inl ⟨rfl,xs,SqL.of h⟩
theorem Gq{c:Pos}(h:PD X E e ga)(r:i∈O)(hi:X.N[i]?=some x)(hv:Vis X.env.scope x)
  (hd:(x==("__debug__":Str))=false) (j:(x==("__classdict__":Str))=false) (f:starEach [e] X.env=(false,eval e X.env)::starEach [] X.env)
  (a:attributeBase (.Name x pn) "append" X.env (eval (.Name x pn) X.env)=eval (.Name x pn) X.env)
  (g:((backTo c (starEach [e] X.env)).all (λx=>!x.1)&&(backToKw c (keywordEach [] X.env)).all (λx=>x.1.isSome)&&decide (([e]:List Expr).length+([]:List Keyword).length+(if ([]:List Keyword).isEmpty then 0 else 1)<30))=true)
  (b:(pa.endLine==c.line)=true) (t:swapsWith (.Call (.Attribute (.Name x pn) "append" pa) [e] [] c) none pos.line X.env=pure false) :
  PSD X E O (.Expr (.Call (.Attribute (.Name x pn) "append" pa) [e] [] c) pos) (fR O i ga) :=
 (lH (yo F.plainAttrs_list F.slot_list_append F.type_list_append kh (i7 hi hv hd j) (dX h fQ f) a g b f rfl) t).imp λD σ H l=>by
  obtain⟨H0,A0,A,δ,R,o⟩:=l;unfold fR at o;split at o
  ·rename_i ds q;obtain⟨p,xs,ds',e1,u,hl,e2,s⟩:=R.ownL r q;cases e2;refine⟨_,e1,tyL hl,?_⟩;refine eD.run R.part (λd w v H1 m R1 hv=>?_) (λC n H' s'=>?_) (λn=>?_)
   ·rw[w]at o;have o:lu X.K E H0 A0 O (if ds.length<1000000 then .nx (δ.set i (some (.list (ds++[d])))) else .no) D:=o;split at o
    ·rename_i hz;refine⟨p,xs,v,rfl,rfl,m _ _ hl,by rw[s.length,sizeLine_eq];omega,?_⟩;exact o A _ _ ((R.step m).put r q e1 u ((s.same m.del).append (hU hv)))
    ·exact o.elim
   ·rw[n]at o;exact o H' (R.same.trans s')
   ·rw[n]at o;exact o
  ·exact o.elim
theorem BR{c:Pos}(h:PD X E e ga)(r:i∈O)(hi:X.N[i]?=some x)(hv:Vis X.env.scope x)
  (hd:(x==("__debug__":Str))=false) (l:(x==("__classdict__":Str))=false) (f:starEach [e] X.env=(false,eval e X.env)::starEach [] X.env)
  (a:attributeBase (.Name x pn) "append" X.env (eval (.Name x pn) X.env)=eval (.Name x pn) X.env)
  (g:((backTo c (starEach [e] X.env)).all (λx=>!x.1)&&(backToKw c (keywordEach [] X.env)).all (λx=>x.1.isSome)&&decide (([e]:List Expr).length+([]:List Keyword).length+(if ([]:List Keyword).isEmpty then 0 else 1)<30))=true)
  (b:(pa.endLine==c.line)=true) (t:swapsWith (.Call (.Attribute (.Name x pn) "append" pa) [e] [] c) none pos.line X.env=pure false) :
  PSD X E O (.Expr (.Call (.Attribute (.Name x pn) "append" pa) [e] [] c) pos) (pL i ga) :=
 (lH (yo F.plainAttrs_list F.slot_list_append F.type_list_append kh (i7 hi hv hd l) (dX h fQ f) a g b f rfl) t).imp λD σ H m=>by
  obtain⟨H0,A0,A,δ,R,o⟩:=m;unfold pL at o;split at o
  ·rename_i ds q;obtain⟨p,xs,ds',e1,u,hl,e2,s⟩:=R.ownL r q;cases e2;refine⟨_,e1,tyL hl,?_⟩;refine eD.run R.full (λd w v H1 j R1 hv=>?_) (λC n H' s'=>?_) (λn=>?_)
   ·rw[w]at o;have o:lu X.K E H0 A0 O (if dG d=true/\ds.length<1000000 then .nx (δ.set i (some (.list (ds++[d])))) else .no) D:=o;split at o
    ·rename_i y;refine⟨p,xs,v,rfl,rfl,j _ _ hl,by rw[s.length,sizeLine_eq];omega,?_⟩;exact o A _ _ ((R.step j).put r q e1 u ((s.same j.del).append (hU ((hv.same aw).dl (R.step j).lsA y.1))))
    ·exact o.elim
   ·rw[n]at o;exact o H' (R.same.trans s')
   ·rw[n]at o;exact o
  ·exact o.elim
def TgS(K:W.Frag)(O:List Nat)(tgt:PyData->Ds->Option Ds)(g:TG):Prop:=∀(d:PyData)(v:V)(H0:Hp)(A0:List Addr)(H:Hp)(A:List Addr)(δ a:Ds)(σ:St)(Q:St->Hp->Prop),bK K H0 A0 H A O δ σ->Is K (del H (A++A0)) d v->tgt d δ=some a ->
 (∀b,bK K H0 A0 H A O a b->Q b H)->g v σ H Q
def aZ(i:Nat):PyData->Ds->Option Ds:=λd δ=>if i<δ.length then some (δ.set i (some d)) else none
theorem By(hi:i∉O):TgS K O (aZ i) (jR i):=λd v H0 A0 H A δ δ' σ Q R h e k=>by
 unfold aZ at e;split at e
 ·rename_i hl;cases e;exact k _ (R.set hi hl h)
 ·cases e
def jv:List Nat->List PyData->Ds->Option Ds
 |[],[],δ=>some δ
 |i::is,d::ds,δ=>if i<δ.length then jv is ds (δ.set i (some d)) else none
 |_,_,_=>none
def d8(is:List Nat):PyData->Ds->Option Ds
 |.tuple ds,δ=>jv is ds δ
 |_,_=>none
def xJ:List Nat->TGs
 |[]=>L2.Ii
 |i::is=>L2.yC (jR i) (xJ is)
theorem nF{K:W.Frag}:∀(is:List Nat)(ds:List PyData)(vs:List V)(H0:Hp)(A0:List Addr)(H:Hp)(A:List Addr)(δ a:Ds)(σ:St)(Q:St->Hp->Prop),(∀i∈is,i∉O)->bK K H0 A0 H A O δ σ->Iss K (del H (A++A0)) ds vs->jv is ds δ=some a ->
  (∀b,bK K H0 A0 H A O a b->Q b H)->xJ is vs σ H Q
 |[],[],vs,H0,A0,H,A,δ,a,σ,Q,_,R,h,e,k=>by cases e;exact⟨h.nil_of,k σ R⟩
 |i::is,d::ds,vs,H0,A0,H,A,δ,a,σ,Q,hO,R,h,e,k=>by
  obtain⟨v,r,rfl,h1,h2⟩:=h.cons_of;unfold jv at e;split at e
  ·rename_i hl;exact⟨v,r,rfl,nF is ds r H0 A0 H A _ a _ Q (λj c=>hO j (M6 _ c)) (R.set (hO i M7) hl h1) h2 e k⟩
  ·cases e
 |[],_::_,_,_,_,_,_,_,_,_,_,_,_,_,e,_=>by cases e
 |_::_,[],_,_,_,_,_,_,_,_,_,_,_,_,e,_=>by cases e
theorem qD:∀{is:List Nat}{ds:List PyData}{δ a:Ds},jv is ds δ=some a->ds.length=is.length
 |[],[],_,_,_=>rfl
 |_::is,_::ds,δ,a,e=>by
  unfold jv at e;split at e
  ·simp[qD e]
  ·cases e
 |[],_::_,_,_,e=>by cases e
 |_::_,[],_,_,e=>by cases e
theorem FY{is:List Nat}(hi:∀i∈is,i∉O):TgS K O (d8 is) (L2.Hq K is.length (xJ is)):=λd v H0 A0 H A δ a σ Q R h e k=>by
 unfold d8 at e;split at e
 ·obtain⟨p,xs,rfl,c,b⟩:=h.ofTup;exact⟨p,xs,rfl,SqT.of (aw _ _ c),by rw[b.length,qD e],nF is _ xs H0 A0 H A δ a σ Q hi R b e k⟩
 ·cases e
def forL(tgt:PyData->Ds->Option Ds)(body:Ds->Sr):List PyData->Ds->Sr
 |[],δ=>.nx δ
 |d::r,δ=>match tgt d δ with
  |none=>.no
  |some δ1=>match body δ1 with
   |.nx δ2=>forL tgt body r δ2
   |.ct δ2=>forL tgt body r δ2
   |.bk δ2=>.nx δ2
   |.rt v=>.rt v
   |.rz C=>.rz C
   |.no=>.no
def eP(O:List Nat)(src:Ds->Rs (List PyData))(tgt:PyData->Ds->Option Ds)(body:Ds->Sr):Ds->Sr:=λδ=>ofR (src (mask O δ)) λds=>forL tgt body ds δ
theorem Fc{t:Ds->Rs (List PyData)}{tgt:PyData->Ds->Option Ds}(Q:PassesOwn (model X.prog X.w) X.A X.env X.xe)(hc:X.calm=true)(hi:PID X E tg iter t)(S:TgS X.K O tgt g)(T:PG X tg g)(u:PBD X E O ss G)
  (U:∀x,foldedSetIterable iter X.env x=pure x):PSD X E O (.For tg iter ss [] pos) (eP O t tgt G):=(HQ Q hc hi T u U).imp λD σ H B=>by
 obtain⟨H0,A0,A,δ,R,o⟩:=B;unfold eP at o;refine⟨A++A0,mask O δ,R.part,?_⟩;cases q:t (mask O δ) with
 |no=>rw[q]at o;exact o
 |rz C=>rw[q]at o;exact λH' s'=>o H' (R.same.trans s')
 |ok ds =>
  rw[q]at o;intro J H1 M W;have Y:=(R.step M).more;have o:lu X.K E H0 A0 O (forL tgt G ds δ) D:=o;refine⟨λi m f H'=>m=ds.length-i/\i<=ds.length/\∃l c,bK X.K (un H0 (del H1 (A++A0))) A0 H' l O c f/\lu X.K E H0 A0 O (forL tgt G (ds.drop i) c) D,⟨ds.length,by simp,MR _,A,δ,Y,o⟩,?_⟩
  rintro i m f H' ⟨rfl,hi',l,c,n,o'⟩
  have N:av (del H1 (A++A0)) (un H0 (del H1 (A++A0))):=LF (R.same.trans M) aw;have hB:∀b∈l++A0,(del H1 (A++A0)) b=none:=λb u=>by
   rcases Mx.mp u with z|z
   ·exact N.free (n.new b z)
   ·exact gz (Md _ z)
  obtain⟨Z,js,jy⟩:=W H' (l++A0) (N.trans n.same) n.lsA hB;by_cases hlt:i<ds.length
  ·refine .inr ⟨Z i hlt,?_⟩;have F:ds.drop i=ds[i]::ds.drop (i+1):=Ng hlt;rw[F]at o';unfold forL at o';refine⟨λp H2=>∃I a,bK X.K (un H0 (del H1 (A++A0))) A0 H2 I O a p/\lu X.K E H0 A0 O (forL tgt G (ds.drop (i+1)) a) D,λp H2 ⟨I,a,R2,o2⟩=>⟨ds.length-(i+1),by omega,rfl,hlt,I,a,R2,o2⟩,λx H2 y=>?_⟩;obtain⟨s2,d,P,hd⟩:=jy i x H2 hlt y;have:ds[i]=d:=by have:=M1 hlt;rw[this]at P;exact Option.some.inj P
   rw[this]at o';cases et:tgt d c with
   |none=>rw[et]at o';exact o'.elim
   |some δ1 =>
    simp only[et]at o';refine S d x _ _ _ _ _ _ _ _ (n.step s2) hd et λσ3 R3=>⟨_,_,_,_,R3,?_⟩
    cases eb:G δ1 with
    |nx a=>rw[eb]at o';exact λr h j s=>⟨r,a,s,o'⟩
    |ct a=>rw[eb]at o';exact λr h j s=>⟨r,a,s,o'⟩
    |bk a=>rw[eb]at o';exact λr h j s=>o' r h j (s.less El R.ls0)
    |rt v=>rw[eb]at o';exact λv4 j L h4=>o' v4 j (El.trans L) h4
    |rz C=>rw[eb]at o';exact λj L=>o' j (El.trans L)
    |no=>rw[eb]at o';exact o'
  ·have e:i=ds.length:=by omega
   subst e;rw[Od]at o';exact .inl ⟨js,o' l f H' (n.less El R.ls0)⟩
end
section
variable {G G':Ds->Sr}{a b c:Expr}{ga gb gk:Ds->Rs PyData}{ca:Ds->Rs Bool}
def bF(c:Ds->Rs Bool)(b:Ds->Sr):Nat->Ds->Sr
 |0,_=>.no
 |n+1,δ=>ofR (c δ) λt=>if t=true then (match b δ with
  |.nx δ2=>bF c b n δ2
  |.ct δ2=>bF c b n δ2
  |.bk δ2=>.nx δ2
  |.rt v=>.rt v
  |.rz C=>.rz C
  |.no=>.no) else .nx δ
theorem Bk(fuel:Nat)(j:PassesOwn (model X.prog X.w) X.A X.env X.xe)(hc:PCD X E c ca)(l:PBD X E O ss G):PSD X E O (.While c ss [] pos) (λδ=>bF ca G fuel δ):=(wz j hc l).imp λD σ H e=>by
 obtain⟨H0,A0,A,δ,R,o⟩:=e;refine⟨λm σ H=>∃A δ,bK X.K H0 A0 H A O δ σ/\lu X.K E H0 A0 O (bF ca G m δ) D,⟨fuel,A,δ,R,o⟩,?_⟩
 rintro m σ H ⟨A,δ,R,o⟩
 cases m with
 |zero=>exact o.elim
 |succ m =>
  unfold bF at o;refine cD.run R.full (λt a H1 i R1=>?_) (λC a H' s'=>?_) (λa=>?_)
  ·rw[a]at o;cases t with
   |false=>exact o A σ H1 (R.step i)
   |true =>
    refine⟨λb H'=>∃A δ,bK X.K H0 A0 H' A O δ b/\lu X.K E H0 A0 O (bF ca G m δ) D,λb H' q=>⟨m,Nk m,q⟩,H0,A0,A,δ,R.step i,?_⟩;have o:lu X.K E H0 A0 O (match G δ with
     |.nx δ2=>bF ca G m δ2
     |.ct δ2=>bF ca G m δ2
     |.bk δ2=>.nx δ2
     |.rt v=>.rt v
     |.rz C=>.rz C
     |.no=>.no) D:=o
    cases eb:G δ with
    |nx δ2=>rw[eb]at o;exact λf g n h=>⟨f,δ2,h,o⟩
    |ct δ2=>rw[eb]at o;exact λf g n h=>⟨f,δ2,h,o⟩
    |bk δ2=>rw[eb]at o;exact o
    |rt v=>rw[eb]at o;exact o
    |rz C=>rw[eb]at o;exact o
    |no=>rw[eb]at o;exact o
  ·rw[a]at o;exact o H' (R.same.trans s')
  ·rw[a]at o;exact o
def qE(O:List Nat)(tgt:PyData->Ds->Option Ds)(g:Ds->Rs PyData):Ds->Sr:=λδ=>ofR (g (mask O δ)) λd=>match tgt d δ with
 |some δ'=>.nx δ'
 |none=>.no
theorem Fj{tgt:PyData->Ds->Option Ds}(h:PD X E e ga)(f:TgS X.K O tgt g)(i:PG X tg g)(j:swapsWithSole [tg] e pos.line X.env=pure false)(hw:swappedStores [tg] e X.env=pure none)
  (h1:(assignEach [tg] X.env).map (·.2)=[assign tg X.env]):PSD X E O (.Assign [tg] e pos) (qE O tgt ga):=(Cn h i j hw h1).imp λD σ H a=>by
 obtain⟨H0,A0,A,δ,R,o⟩:=a;unfold qE at o;refine eD.run R.part (λd l v H1 m R1 hv=>?_) (λC b H' s'=>?_) (λb=>?_)
 ·simp only[l,ax]at o;cases q:tgt d δ with
  |none=>rw[q]at o;exact o.elim
  |some δ'=>rw[q]at o;exact f d v H0 A0 H1 A δ δ' σ _ (R.step m) hv q λc n=>o A c H1 n
 ·rw[b]at o;exact o H' (R.same.trans s')
 ·rw[b]at o;exact o
def iO(i:Nat)(gk ge:Ds->Rs PyData):Ds->Sr:=λδ=>match δ[i]? with
 |some (some (.list ds))=>ofR (ge δ) λd=>ofR (gk δ) λk=>match k with
  |.int k=>match ixN ds.length k with
   |some j=>if dG d then .nx (δ.set i (some (.list (ds.set j d)))) else .no
   |none=>.no
  |_=>.no
 |_=>.no
theorem Fw{k:Expr}{ps:Pos}(h:PD X E e ga)(n:PD X E k gk)(g:i∈O)(hi:X.N[i]?=some x)(hv:Vis X.env.scope x)
  (hd:(x==("__debug__":Str))=false) (c:(x==("__classdict__":Str))=false)
  (ha:∀v,assign (.Subscript (.Name x pn) k ps) X.env v=(do
   let ov <-holding [v] (eval (.Name x pn) X.env);let iv <-holding [v,ov] (eval k X.env)
   standAt ps
   holding [v,ov,iv] (setItem ov iv v)
   release [v,ov,iv] []))
  (r:swapsWithSole [.Subscript (.Name x pn) k ps] e pos.line X.env=pure false) (hw:swappedStores [.Subscript (.Name x pn) k ps] e X.env=pure none)
  (h1:(assignEach [.Subscript (.Name x pn) k ps] X.env).map (·.2)=[assign (.Subscript (.Name x pn) k ps) X.env]):PSD X E O (.Assign [.Subscript (.Name x pn) k ps] e pos) (iO i gk ga) :=
 (Cn h (JU (i7 hi hv hd c) n set_list ha) r hw h1).imp λD σ H f=>by
  obtain⟨H0,A0,A,δ,R,o⟩:=f;unfold iO at o;split at o
  ·rename_i ds q;obtain⟨p,xs,ds',e1,s,hl,e2,l⟩:=R.ownL g q;cases e2;refine eD.run R.full (λd t v H1 m w hv=>?_) (λC b H' s'=>?_) (λb=>?_)
   ·simp only[t,ax]at o;refine⟨_,e1,?_⟩;refine eD.run w (λkd y u H2 s2 R2 z=>?_) (λC b H' s'=>?_) (λb=>?_)
    ·simp only[y,ax]at o;split at o
     ·rename_i B;split at o
      ·rename_i j F;split at o
       ·rename_i hn;have a:=m.trans s2;refine⟨p,xs,B,j,rfl,z.ofInt,a _ _ hl,by rw[l.length];exact F,?_⟩;exact o A _ _ ((R.step a).put g q e1 s (Iss.set (((hv.same s2.del).same aw).dl (R.step a).lsA hn) j (l.same a.del)))
       ·exact o.elim
      ·exact o.elim
     ·exact o.elim
    ·simp only[b,pK]at o;exact o H' (R.same.trans (m.trans s'))
    ·simp only[b,pF]at o;exact o
   ·simp only[b,pK]at o;exact o H' (R.same.trans s')
   ·simp only[b,pF]at o;exact o
  ·exact o.elim
structure wg(K:W.Frag)(mg:Str->Option Value)(x:Str)(C:Addr):Prop where
 m:mg x=some (.ref C)
 e:W.excIn K C [.type "ValueError",.type "Exception",.type "BaseException",.type "object"] "ValueError.__new__"=true
def jk(C:Addr)(gs:Ds->Rs (List PyData)):Ds->Sr:=λδ=>ofR (gs δ) λ_=>.rz C
theorem zV{i:Pos}(hc:X.calm=true)(M:xa X E)(g:wg X.K X.mg x C)(ha:PAD X E (e::es) gs)(hl:(e::es).length<=1000)(j:Gl X x)
  (a:(x==("__debug__":Str))=false) (l:starEach (e::es) X.env=(false,eval e X.env)::starEach es X.env) (b:(backTo cpos (starEach es X.env)).any (·.1)=false) :
  PSD X E O (.Raise (some (.Call (.Name x i) (e::es) [] cpos)) none pos) (jk C gs) :=
 (BP hc M F.excBase_ValueError j g.m g.e ha.1 a l b).imp λD σ H c=>by
  obtain⟨H0,A0,A,δ,R,o⟩:=c;unfold jk at o;refine aD.run R.full (λds h vs H1 n R1 hv=>?_) (λC f H' s'=>?_) (λf=>?_)
  ·simp only[h,ax]at o;exact⟨by rw[hv.length,ha.2 δ ds h,sizeLine_eq];omega,o H1 (R.same.trans n)⟩
  ·simp only[f,pK]at o;exact o H' (R.same.trans s')
  ·simp only[f,pF]at o;exact o
end
section
theorem oz{f:Addr}{k:Nat}{sp:Sp}(F:Fun K x qual st f fd)(S:cT N ps (aC st))(len:∀vs H Q E,sp vs H Q E->vs.length=ps.length)
  (a:∀(cdv:Value)(A:Around)(outer:List Env)(s:Shared)(H:Hp)(vs:List V)(Q:VK)(E:XK),ck k (A.deeper (envOfC qual (aC st) s.heap.objs.size f cdv))->sp vs H Q E ->
   ∃t,PSs (cZ CX P w K mg base N qual (aC st) f cdv A outer s H E) (b0 st) t/\t { nx:=λ_ H'=>Q .non H',rt:=Q } (start N vs) H):gm P w K mg base CX (k+1) f fd ps sp:=by
 obtain⟨oc,od,kV,doc,pm,an,cdv,ct,osl,rfl,e,b⟩:=F.ex;exact Dr e b S len λA outer s H vs Q E g c=>a cdv A outer s H vs Q E g c
def bE:Sr->Rs PyData
 |.rt d=>.ok d
 |.nx _=>.ok .none
 |.rz C=>.rz C
 |_=>.no
theorem Hv{f:Addr}{A:Around}:xa (cZ (CXW P w) P w K mg base N qual scope f cd A outer s H E) E :=
 λ_ _ _ _ _ _ _ _ I a b=>vP (CX:=CX0) I a b
theorem bK.start(f:Ls H A0)(hi:Iss K (del H A0) ds vs)(hl:ds.length=ps.length)(c:∀i∈O,ps.length<=i) :
  bK K H A0 H [] O (ds.map some++List.replicate (N.length-ps.length) none) (L2.start N vs):=by
 have hv:=hi.length;have at':∀(i:Nat) d,(ds.map some++List.replicate (N.length-ps.length) none)[i]?=some (some d)->i<ds.length/\ds[i]?=some d:=λi d e=>by
  by_cases h:i<ds.length
  ·rw[Mz (by simpa using h),Mc]at e;refine⟨h,?_⟩;cases q:ds[i]? with
   |none=>rw[q]at e;cases e
   |some z=>rw[q]at e;simp at e;rw[e]
  ·rw[MD (by simpa using h),NU]at e;split at e <;> cases e
 refine⟨av.refl _,f,(λa h=>by cases h),(λa h=>by cases h),?_,λi d _ e=>?_,λi d h e=>?_,λi j d e a h _ q _ _ _=>?_⟩
 ·unfold L2.start;simp[hv,hl]
 ·obtain⟨b,e⟩:=at' i d e;obtain⟨v,g,hd⟩:=hi.getD e;refine⟨v,?_,hd⟩;unfold L2.start;rw[Mz (by simp;omega),Mc,g];rfl
 ·obtain⟨b,_⟩:=at' i d e;exact absurd (c i h) (by omega)
 ·obtain⟨b,_⟩:=at' i d q;exact absurd (c i h) (by omega)
theorem ig.of{f:Addr}{k:Nat}{G:Ds->Sr}(F:Fun K x qual st f fd)(S:cT N ps (aC st))(b:Binds K fd ps [])(m:mg x=some (.ref f))(e:∀i∈O,ps.length<=i)
  (body:∀(cdv:Value)(A:Around)(outer:List Env)(s:Shared)(H:Hp)(E:XK),ck k (A.deeper (envOfC qual (aC st) s.heap.objs.size f cdv))->PBD (cZ (CXW P w) P w K mg base N qual (aC st) f cdv A outer s H E) E O (b0 st) G)
  (g:∀ds,ds.length=ps.length->gf ds≠.no->bE (G (ds.map some++List.replicate (N.length-ps.length) none))=gf ds):ig P w K mg base (k+1) x ps.length gf:=by
 refine⟨f,fd,ps,oz F S (λvs H Q E h=>?_) (λcdv A outer s H vs Q E j h=>?_),m,F.kp,b⟩
 ·obtain⟨A,ds,c,hi,hl,o⟩:=h;rw[hi.length,hl]
 ·obtain⟨A0,ds,c,hi,hl,o⟩:=h;refine⟨_,body cdv A outer s H E j,H,A0,[],_,bK.start c hi hl e,?_⟩;have a:=g ds hl (λz=>by rw[z]at o;exact o);cases q:G (ds.map some++List.replicate (N.length-ps.length) none) with
  |rt d=>rw[q]at a;rw[<-a]at o;exact λv H' s' hv=>o v H' s' hv
  |nx δ=>rw[q]at a;rw[<-a]at o;exact λA' σ H' l=>o .non H' l.same is_none
  |rz C=>rw[q]at a;rw[<-a]at o;exact λH' s'=>o H' s'
  |bk δ=>rw[q]at a;rw[<-a]at o;exact o.elim
  |ct δ=>rw[q]at a;rw[<-a]at o;exact o.elim
  |no=>rw[q]at a;rw[<-a]at o;exact o.elim
theorem ig.old{f:Addr}{k:Nat}{sp:Sp}(F:gm P w K mg base CX0 k f fd ps sp)(m:mg x=some (.ref f))(kp:W.keepIn K (.ref f)=true)(b:Binds K fd ps [])
  (h:∀ds,ds.length=ps.length->gf ds≠.no->∃d,gf ds=.ok d/\fX d=true/\∀vs H Q,Iss K H ds vs->(∀v H',av H H'->IsD K H' d v->Q v H')->sp vs H Q E0):ig P w K mg base k x ps.length gf:=by
 refine⟨f,fd,ps,⟨λvs H Q E h'=>?_,λA outer s H args us vs Q E j l n hv h'=>?_⟩,m,kp,b⟩
 ·obtain⟨A,ds,g,hi,hl,o⟩:=h';rw[hi.length,hl]
 ·obtain⟨A0,ds,g,hi,hl,o⟩:=h';obtain⟨d,e,i,c⟩:=h ds hl (λz=>by rw[z]at o;exact o);rw[e]at o;refine codeAny_mono (F.run A outer s H args us vs Q E0 j l n hv (c vs H Q (hi.same aw) λv H' s' hd=>o v H' s' ((hd.is i).dl (g.same s') (wJ i)))) λr s' a=>?_
  cases r with
  |error ev=>exact False.elim a
  |ok fl =>
   cases fl with
   |ret u=>exact a
   |next=>exact False.elim a
   |brk=>exact False.elim a
   |cont=>exact False.elim a
end
open AutoSeq1 (wpAny_loadPart')
theorem mK:fillsNumberSlot (.type "tuple") "mul"=pure false :=
 PySem.fillsNumberSlot_seq (id:="tuple.__mul__") (r:=some (.builtin "tuple.__rmul__")) F.slot_tuple_mul.lookup (by decide +kernel) F.slot_tuple_rmul.lookup (by decide +kernel)
theorem tI:seqRepeat? (.type "tuple")=pure (some (.builtin "tuple.__mul__")):=by unfold seqRepeat?;rw[PySem.seqSlot_of (T:="tuple") (name:="__mul__") (id:="tuple.__mul__") F.slot_tuple_mul.lookup (by decide +kernel),PySem.seqSlot_of (T:="tuple") (name:="__rmul__") (id:="tuple.__rmul__") F.slot_tuple_rmul.lookup (by decide +kernel)];rfl
theorem tT(a:Int)(t:Tok)(l:Addr)(items:Array Value)(n:Nat)(dd:Option Addr)(b:Array (Option Value)) :
  Meets (Builtin.«int.__rmul__» ⟨[.int a t,.ref l],[]⟩) (λ_ R s=>s.heap.get? l=some { cls:=.type "tuple",dict:=dd,data:=.seq items n,slots:=b }/\R (.ok (.ret Value.notImplemented)) s) :=
 .of_wp λprog w A R s h=>by obtain⟨hp,g,d,tk,os⟩:=s;obtain⟨hl,h⟩:=h;wp_walk;exact⟨_,rfl,h⟩
theorem Ct(l:Addr)(items:Array Value)(n:Nat)(x:Int)(u:Tok)(dd:Option Addr)(a:Array (Option Value))(h1:(decide (x < -(2 ^ 63))||decide (x≥2 ^ 63))=false)(h2:(items.isEmpty||x==1)=false)(h3:(decide (x<=0)||items.isEmpty)=false)
  (b:decide ((items.size:Int)*x>(2 ^ 63-1) / 8)=false) (h5:Builtin.Tuple.tupleTooMany ((items.size:Int)*x)=false) (hsz:(List.foldl (λx1 x2=>x1++x2) #[] (List.replicate x.toNat items)).size<=sizeLine) :
  Meets (Builtin.«tuple.__mul__» ⟨[.ref l,.int x u],[]⟩) (λ_ R s=>s.heap.get? l=some { cls:=.type "tuple",dict:=dd,data:=.seq items n,slots:=a }/\R (.ok (.ret (Value.ref s.heap.objs.size))) { s with heap:=s.heap.push { cls:=Value.type "tuple",data:=Data.seq (List.foldl (λx1 x2=>x1++x2) #[] (List.replicate x.toNat items)) } }) :=
 .of_wp λprog w A R s h=>by
  obtain⟨hp,g,d,tk,os⟩:=s;obtain⟨hl,h⟩:=h;have f1:=AutoSeq1.idx_int;have f2:=AutoSeq1.sub_tuple_tuple
  wp_walk using wpAny_loadPart' hl
  refine wpAny_ite_false (by rw[h1];rfl) ?_
  wp_walk using wpAny_loadPart' hl
  refine wpAny_ite_false b ?_
  wp_walk using wpAny_loadPart' hl
  exact⟨_,rfl,h⟩
section
variable {a b c:Expr}{ga gb gc:Ds->Rs PyData}
def Hb(K:W.Frag):R2:=λx y H Q=>∃l k xs,x=.ref l/\y=.int k/\SqT K H l xs/\xs≠[]/\2<=k/\k<1000000/\xs.length*k.toNat<=1000000/\∀p,H p=none->Q (.ref p) (upd H p (.tup (List.replicate k.toNat xs).flatten))
theorem Gs:OpR X (binaryOp .Mult) (Hb X.K):=by
 intro pins s σ H x y v u Q I j m h;obtain⟨l,k,xs,rfl,rfl,hl,g,hk1,hk2,p,q⟩:=h;cases j;obtain⟨t,rfl⟩:=m;obtain⟨its,r,p1,_⟩:=I.tuple hl;obtain⟨⟨cls,dd,data,i⟩,f,hc,n,hd⟩:=id p1;simp only at hc hd;subst hc hd;have hlen:=r.length;have c:its≠[]:=λz=>g (r.nil_iff.mp z)
 have hpos:0<its.length:=MP.mpr c;have a:List.foldl (λx1 x2=>x1++x2) #[] (List.replicate k.toNat its.toArray)=(List.replicate k.toNat its).flatten.toArray:=by have:=foldl_rep its k.toNat [];rw[MK]at this;exact this
 have e:its.toArray.isEmpty=false:=by simp[c]
 have hmul:(its.length:Int)*k<=1000000:=by
  have e1:((its.length*k.toNat:Nat):Int)=(its.length:Int)*k:=by rw[Int.natCast_mul,Nt (by omega)]
  rw[<-e1,<-hlen];omega
 have hsz2:(List.replicate k.toNat its).flatten.length<=1000000:=by rw[len_rep,Nat.mul_comm,<-hlen];exact p
 refine wpAny_binaryOp_repeat_ref (T:="tuple") (U:="int") (by decide) ⟨_,f,rfl⟩ (λs'=>typeIs_int s' k t) mK F.fills_int_mul F.slot_int_rmul tI F.slot_int_index.lookup
  (call_meets F.slot_int_rmul (typeIs_int s k t) F.entry_int_rmul (F.args_int_rmul_2 _ _) (tT k t l its.toArray n dd i)
   ⟨f,rfl,⟨_,f,rfl⟩,call_meets F.slot_tuple_mul ⟨_,f,rfl⟩ F.entry_tuple_mul (F.args_tuple_mul_2 _ _) (Ct l its.toArray n k t dd i ?_ ?_ ?_ ?_ ?_ ?_) ⟨f,?_⟩⟩)
 ·rw[decide_eq_false (by omega),decide_eq_false (by omega)];rfl
 ·rw[e,Bool.false_or];simp;omega
 ·rw[e,Bool.or_false];exact decide_eq_false (by omega)
 ·rw[Mo];exact decide_eq_false (by omega)
 ·rw[Mo];unfold Builtin.Tuple.tupleTooMany;rw[sizeLine_eq];exact decide_eq_false (by omega)
 ·rw[a,Mo,sizeLine_eq];omega
 ·rw[a];refine⟨.ref s.heap.objs.size,_,I.laid (t':=s.toks) (o:=.tup (List.replicate k.toNat xs).flatten) (λb ob q=>M3 _ q) (Me _) ?_,rfl,q _ (I.hok.fresh (Me _))⟩;exact⟨by rw[len_rep,Nat.mul_comm,sizeLine_eq];omega,_,r.rep k.toNat,vY.new _ _⟩
def fc:PyData->PyData->Option PyData
 |.int i,.int j=>if (-(2 ^ 64)<i/\i<2 ^ 64)\/(-(2 ^ 64)<j/\j<2 ^ 64) then some (.int (i*j)) else none
 |.list x,.int k=>if 0<=k/\k<1000000/\x.length*k.toNat<=1000000 then some (.list (List.replicate k.toNat x).flatten) else none
 |.tuple x,.int k=>if x≠[]/\2<=k/\k<1000000/\x.length*k.toNat<=1000000 then some (.tuple (List.replicate k.toNat x).flatten) else none
 |_,_=>none
theorem F8:OpD K fc (λx y H Q=>rI FZ (λi j=>.int (i*j)) x y H Q\/K7 x y H Q\/Hb K x y H Q):=λd1 d2 d x y H A Q e f h1 h2 k=>by
 unfold fc at e;split at e
 ·split at e
  ·rename_i z;cases e;exact .inl ⟨_,_,h1.ofInt,h2.ofInt,z,k _ H (av.refl _) bJ⟩
  ·cases e
 ·split at e
  ·rename_i z;cases e;obtain⟨p,xs,rfl,c,a⟩:=h1.ofLst;exact .inr (.inl ⟨p,_,xs,rfl,h2.ofInt,aw _ _ c,by omega,by omega,by rw[a.length,sizeLine_eq];omega,λr b=>k _ _ (bL b) (l5 f b (a.rep _))⟩)
  ·cases e
 ·split at e
  ·rename_i z;cases e;obtain⟨p,xs,rfl,c,a⟩:=h1.ofTup;refine .inr (.inr ⟨p,_,xs,rfl,h2.ofInt,SqT.of (aw _ _ c),λq=>z.1 ?_,z.2.1,z.2.2.1,by rw[a.length];exact z.2.2.2,λr b=>k _ _ (bL b) (om f b (a.rep _))⟩);exact Nw.mp (by rw[<-a.length,q];rfl)
  ·cases e
 ·cases e
theorem IA(ha:PD X E a ga)(c:PD X E b gb):PD X E (.BinOp a .Mult b pos) (g2 fc ga gb):=gN F8 ha c (eS (mI.or (Ju.or Gs)))
end
section
variable {A:Around}{E:Value->Shared->Prop}
end
end L2
variable {g ge ga gb gk:L2.Ds->L2.Rs PyData}{δ:L2.Ds}{gf:List PyData->L2.Rs PyData}{gs gi src:L2.Ds->L2.Rs (List PyData)}{cond:L2.Ds->L2.Rs Bool}{tgt:PyData->Option L2.Ds}
namespace L2
open PySem PySem.Spec PyProof.Rows
section
variable {E:XK}{a b c:Expr}{gc:Ds->Rs PyData}{es:List Expr}
def cutD(xs:List PyData)(lo hi:Option Int):List PyData:=(xs.drop (HT.sIx xs.length 0 lo)).take (HT.sIx xs.length xs.length hi-HT.sIx xs.length 0 lo)
def FX:PyData->Option Int->Option Int->Option PyData
 |.list x,lo,hi=>some (.list (cutD x lo hi))
 |.tuple x,lo,hi=>some (.tuple (cutD x lo hi))
 |_,_,_=>none
def BA:PyData->Rs (Option Int)
 |.int i=>.ok (some i)
 |_=>.no
def Et:Ds->Rs (Option Int):=λ_=>.ok none
def KW(g:Ds->Rs PyData):Ds->Rs (Option Int):=λδ=>(g δ).bind BA
def Jo(g:Ds->Rs PyData)(lo hi:Ds->Rs (Option Int)):Ds->Rs PyData:=λδ=>(g δ).bind λd=>(lo δ).bind λl=>(hi δ).bind λh=>Rs.ee (FX d l h)
def toV:PyData->V
 |.none=>.non
 |.bool b=>.bl b
 |.int i=>.int i
 |.str x=>.str x
 |_=>.non
def inD(x:PyData)(xs:List PyData):Bool:=inV (toV x) (xs.map toV)
def DP(neg:Bool):PyData->PyData->Option PyData
 |x,.list xs=>if fX x&&xs.all fX then some (.bool (if neg then !inD x xs else inD x xs)) else none
 |x,.tuple xs=>if fX x&&xs.all fX then some (.bool (if neg then !inD x xs else inD x xs)) else none
 |_,_=>none
theorem Is.flat{d:PyData}(h:Is K H d v)(f:fX d=true):v=toV d/\jc v=true:=by
 cases d with
 |none=>rw[h.ofNone];exact⟨rfl,rfl⟩
 |bool b=>rw[h.ofBool];exact⟨rfl,rfl⟩
 |int i=>rw[h.ofInt];exact⟨rfl,rfl⟩
 |str x=>rw[h.ofStr];exact⟨rfl,rfl⟩
 |_=>cases f
theorem Iss.flat{K:W.Frag}{H:Hp}:∀{ds:List PyData}{vs:List V},Iss K H ds vs->ds.all fX=true->vs=ds.map toV/\vs.all jc=true
 |[],_,h,_=>by rw[h.nil_of];exact⟨rfl,rfl⟩
 |d::ds,_,h,f=>by rw[NK,Mm]at f;obtain⟨v,r,rfl,h1,h2⟩:=h.cons_of;obtain⟨e1,f1⟩:=h1.flat f.1;obtain⟨e2,f2⟩:=Iss.flat h2 f.2;exact⟨by rw[e1,e2];rfl,by rw[NK,f1,f2];rfl⟩
theorem JS{neg:Bool}:OpD K (DP neg) (rIn K neg):=λd1 d2 d x y H A Q e hA h1 h2 k=>by
 unfold DP at e;split at e
 ·split at e
  ·rename_i z;rw[Mm]at z;cases e;obtain⟨p,xs,rfl,a,b⟩:=h2.ofLst;obtain⟨e1,f1⟩:=h1.flat z.1;obtain⟨e2,f2⟩:=b.flat z.2;refine⟨p,xs,rfl,.inl (SqL.of (aw _ _ a)),f1,f2,?_⟩;rw[e1,e2];exact k _ H (av.refl _) is_bool
  ·cases e
 ·split at e
  ·rename_i z;rw[Mm]at z;cases e;obtain⟨p,xs,rfl,a,b⟩:=h2.ofTup;obtain⟨e1,f1⟩:=h1.flat z.1;obtain⟨e2,f2⟩:=b.flat z.2;refine⟨p,xs,rfl,.inr (SqT.of (aw _ _ a)),f1,f2,?_⟩;rw[e1,e2];exact k _ H (av.refl _) is_bool
  ·cases e
 ·cases e
theorem Lc(ha:PD X E a ga)(c:PD X E b gb)(hm:behindInMarks .In b=false):PD X E (.Compare a [.In] [b] pos) (g2 (DP false) ga gb):=gN JS ha c λh1 h2=>oE As h1 h2 hm
def md(f e:PyData->PyData->Option PyData)(a b c:Ds->Rs PyData):Ds->Rs PyData:=λδ=>(a δ).bind λx=>(b δ).bind λy=>(Rs.ee (f x y)).bind λz=>(truth z).bind λt=>if t=true then (c δ).bind λw=>Rs.ee (e y w) else .ok (.bool false)
theorem Ej{g:CmpOp}{r p:R2}{f i:PyData->PyData->Option PyData}(y:OpR X (compareOp op) r)(l:OpR X (compareOp g) p)(B:OpD X.K f r)(m:OpD X.K i p)(ha:PD X E a ga)(D:PD X E b gb)(hc:PD X E c gc)
  (hm:lastMarks [op,g] [b,c]=false:=by with_unfolding_all rfl):PD X E (.Compare a [op,g] [b,c] pos) (md f i ga gb gc):=(Du y l ha D hc hm).imp λσ H Q n=>by
 obtain⟨A,δ,R,o⟩:=n;unfold md at o;refine eD.run R (λd1 e1 v H1 j F h1=>?_) (λC e H' s'=>by rw[e]at o;exact o H' s') (λe=>by rw[e]at o;exact o);simp only[e1,Rs.ag]at o;refine eD.run F (λd2 e2 u H2 s2 R2 h2=>?_) (λC e H' s'=>by rw[e]at o;exact o H' (j.trans s')) (λe=>by rw[e]at o;exact o);simp only[e2,Rs.ag]at o;cases e3:f d1 d2 with
 |none=>rw[e3]at o;exact o.elim
 |some z =>
  simp only[e3,Rs.ai,Rs.ag]at o;refine B d1 d2 z v u H2 A _ e3 R2.ls (h1.same s2.del) h2 λw G h I=>?_
  obtain⟨t,rfl,o⟩:=oR o;refine⟨t,I.ofBool,?_⟩;cases t with
  |false=>exact o _ G (j.trans (s2.trans h)) is_bool
  |true =>
   have o:gU X.K E A H ((gc δ).bind λw=>Rs.ee (i d2 w)) Q:=o;refine eD.run (R2.same h) (λq J L M s N O=>?_) (λC e H' s'=>by rw[e]at o;exact o H' (j.trans (s2.trans (h.trans s')))) (λe=>by rw[e]at o;exact o);simp only[J,Rs.ag]at o;cases e5:i d2 q with
   |none=>rw[e5]at o;exact o.elim
   |some d=>rw[e5]at o;exact m d2 q d u L M A Q e5 N.ls (h2.same (h.trans s).del) O λx P S T=>o x P (j.trans (s2.trans (h.trans (s.trans S)))) T
theorem Ft(ha:PD X E a ga)(e:PD X E b gb)(hc:PD X E c gc)(hm:lastMarks [.LtE,.LtE] [b,c]=false):PD X E (.Compare a [.LtE,.LtE] [b,c] pos) (md dLe dLe ga gb gc):=Ej yT yT (jU λ_ _ _ _=>is_bool) (jU λ_ _ _ _=>is_bool) ha e hc hm
end
def Itc(lo c:Int)(n:Nat):It:=⟨λi _=>i<n,λi H x H'=>H'=H/\x=.int (lo+i*c),λi _=>n<=i⟩
theorem vf(it:Addr)(lo c:Int)(n:Nat):Turn P w K tg (Itc lo c n) [it] it (λi h=>IsRangeIter h it (lo+(i:Nat)*c) ((n:Int)-(i:Nat)) c) where
 mem:=by simp
 obj:=λi h st b a=>by
  have e:b=it:=by simpa using a
  subst e;exact⟨_,st,λv z=>by have u:Data.fields _=Data.cell v:=z;cases u⟩
 keep:=λi h h' st k=>k it (by simp) _ st
 item:=by
  intro X j hw hK hc i pins s σ H E I g st l;subst j hw hK;obtain⟨m,f1,f2,p,q,r⟩:=g it (by simp);have W:=Walks.range (prog:=X.prog) (w:=X.w) (I.ok.hd hc) it lo c n;refine W.item i s _ _ l st λv h' tk hv f x=>?_
  obtain⟨t,rfl⟩:=hv;have y:Inv X pins σ H { s with heap:=h',toks:=tk }:=I.turned (λb o a e=>x b o (by simpa using a) e) m f1 p q r;exact⟨_,rfl,uV (s:={ s with heap:=h',toks:=tk }) (n:="range_iterator") f rfl rfl (by decide) ⟨.int (lo+i*c),H,y,⟨t,rfl⟩,⟨rfl,rfl⟩,f,λb a=>(g b a).1⟩⟩
 done:=by intro X j hw hK hc i pins s σ H E I g st l;subst j hw hK;obtain⟨m,f1,f2,p,q,r⟩:=g it (by simp);exact wpAny_pyNext_range_end (I.ok.hd hc) st (by have:n<=i:=l;omega) λh' A=>⟨rfl,I.turned (t':=s.toks) (λb o a e=>A b o a e) m f1 p q r⟩
 self:=λ_ _ _ _ _ st h=>wpAny_pyIter_rangeiter st h
section
variable {E:XK}{a b c:Expr}
def xp(i j c:Int):Nat:=(Builtin.Range.rangeSize i j c).toNat
theorem uB(a b c:Int):0<=Builtin.Range.rangeSize a b c:=by
 unfold Builtin.Range.rangeSize;split
 ·split
  ·rename_i h1 h2;have:0<=(b-a-1) / c:=Int.ediv_nonneg (by omega) (by omega);omega
  ·omega
 ·split
  ·rename_i h1 h2;by_cases hc:c=0
   ·subst hc;simp
   ·have:0<=(a-b-1) / (-c):=Int.ediv_nonneg (by omega) (by omega);omega
  ·omega
noncomputable def qC(i j c:Int):Bool:=decide (-(1000000)<=i/\i<=1000000/\-(1000000)<=j/\j<=1000000/\-(1000000)<=c/\c<=1000000/\c≠0)&&Builtin.Range.small i j c
def Ku(ta:TA):TI:=λσ H R=>ta σ H λvs H1=>∃i j c:Int,vs=[.int i,.int j,.int c]/\qC i j c=true/\R (Itc i c (xp i j c)) H1
theorem AX(v:Gl X "range")(hm:X.mg "range"=none)(ha:PA X [a,b,c] ta)(w:starEach [a,b,c] X.env=[(false,eval a X.env),(false,eval b X.env),(false,eval c X.env)]:=by rfl)(m:starEach [b,c] X.env=[(false,eval b X.env),(false,eval c X.env)]:=by rfl) :
  PI X tg (.Call (.Name "range" p) [a,b,c] [] pos) (Ku ta):=by
 intro pins s σ H R I h;refine Call_ (fo I v hm boot_range (PyProof.Rows.callWith_type1 (thn (ha pos pins s σ H _ I h) λus g n=>?_) (by rw[w,m]) (by rw[m];rfl)));obtain⟨vs,H1,x,y,l⟩:=n;obtain⟨i,j,c,e,l,q⟩:=l;subst e;unfold qC at l;rw[Mm]at l;have z:=of_decide_eq_true l.1;cases y with
 |cons r rr =>
  cases rr with
  |cons r' rr =>
   cases rr with
   |cons r'' rr =>
    cases rr;obtain⟨t,rfl⟩:=r;obtain⟨t',rfl⟩:=r';obtain⟨f,rfl⟩:=r'';refine PySem.call_range_3 z.2.2.2.2.2.2 ?_ (.inl (PyProof.noPylong_small (by omega)));refine wpAny_pyIter_range (IsRange.new ..) l.2 ?_;have u:Inv X pins σ H1 { g with heap:=g.heap.push { cls:=.type "range",data:=.fields #[.int i t,.int j t',.int c f] },toks:=g.toks }:=x.kept λb o e=>M3 _ e
    refine⟨(g.heap.push { cls:=.type "range",data:=.fields #[.int i t,.int j t',.int c f] }).objs.size,[(g.heap.push { cls:=.type "range",data:=.fields #[.int i t,.int j t',.int c f] }).objs.size],_,_,H1,rfl,
     u.kept (t':=g.toks) λb o e=>M3 _ e,vf _ i c (xp i j c),?_,λb A=>?_,q⟩
    ·have e1:i+((0:Nat):Int)*c=i:=by simp
     have e2:((xp i j c:Nat):Int)-((0:Nat):Int)=Builtin.Range.rangeSize i j c:=by have:=uB i j c;unfold xp;omega
     show IsRangeIter _ _ (i+((0:Nat):Int)*c) (((xp i j c:Nat):Int)-((0:Nat):Int)) c;rw[e1,e2];exact Ml _ rfl
    ·have e:b=(g.heap.push { cls:=.type "range",data:=.fields #[.int i t,.int j t',.int c f] }).objs.size:=by simpa using A
     subst e;exact u.fpOk (Me _) (u.hok.fresh (Me _))
def gQ(lo c:Int)(n:Nat):List PyData:=(List.range n).map λ(i:Nat)=>PyData.int (lo+(i:Int)*c)
theorem gJ(lo c:Int)(n:Nat):(gQ lo c n).length=n:=by simp[gQ]
theorem wm{c:Int}:vu K (Itc lo c n) (gQ lo c n) G:=λH1 B s _ hB=>by refine⟨λi hi=>by rw[gJ]at hi;exact hi,by rw[gJ];exact Me _,λi x H2 hi y=>?_⟩;obtain⟨rfl,rfl⟩:=y;rw[gJ]at hi;exact⟨av.refl _,_,by simp[gQ,hi],bJ⟩
def BM:List PyData->Rs (List PyData)
 |[.int i,.int j,.int c]=>if qC i j c then .ok (gQ i c (xp i j c)) else .no
 |_=>.no
def yN(g:Ds->Rs (List PyData)):Ds->Rs (List PyData):=λδ=>(g δ).bind BM
theorem LW{d e f:PyData}(h:Iss K H [d,e,f] vs):∃v u w,vs=[v,u,w]/\Is K H d v/\Is K H e u/\Is K H f w:=by obtain⟨v,r,rfl,h1,h2⟩:=h.cons_of;obtain⟨u,w,rfl,a,b⟩:=Ay h2;exact⟨v,u,w,rfl,h1,a,b⟩
theorem xl(hm:X.mg "range"=none)(ha:PAD X E [a,b,c] gs)(i:Gl X "range")(j:starEach [a,b,c] X.env=[(false,eval a X.env),(false,eval b X.env),(false,eval c X.env)])(f:starEach [b,c] X.env=[(false,eval b X.env),(false,eval c X.env)]) :
  PID X E tg (.Call (.Name "range" p) [a,b,c] [] pos) (yN gs):=(AX i hm ha.1 j f).imp λσ H R ⟨A,δ,Rp,o⟩=>tX Rp o λds vs H1 e s1 R1 h1 o=>by
 unfold BM at o;split at o
 ·split at o
  ·rename_i z;obtain⟨v,u,w,rfl,h,h',g⟩:=LW h1;rw[h.ofInt,h'.ofInt,g.ofInt];exact⟨_,_,_,rfl,z,o _ H1 (av.refl _) wm⟩
  ·exact o.elim
 ·exact o.elim
def tLR(ta:TA):TE:=λσ H Q=>ta σ H λvs H1=>∃j:Int,vs=[.int j]/\0<=j/\j<=1000000/\∀p,H1 p=none->Q (.ref p) (upd H1 p (.lst ((List.range j.toNat).map λ(i:Nat)=>V.int (i:Int))))
theorem Jw{s2:Shared}{Q:VK}{j:Int}{tk:Nat}{a:Array Value}{c':Nat}(c:Inv X pins σ H1 s2)(g:∀b o,s2.heap.get? b=some o->h'.get? b=some o)
 (hl:h'.get? s2.heap.objs.size=some { cls:=.type "list",dict:=none,data:=.seq a c',slots:=#[] }) (hi:ItemsOf (λi v=>∃t,v=.int ((0:Int)+(i:Int)*1) t) a j.toNat) (q1:0<=j) (q2:j<=1000000)
 (q:∀p,H1 p=none->Q (.ref p) (upd H1 p (.lst ((List.range j.toNat).map λ(i:Nat)=>V.int (i:Int))))):EP X pins σ Q (.ref s2.heap.objs.size) { s2 with heap:=h',toks:=tk }:=by
 have hv:Vals ((List.range j.toNat).map λ(i:Nat)=>V.int (i:Int)) a.toList:=by
  have aux:∀(l:List Value)(k:Nat),(∀(m:Nat) v,l[m]?=some v->∃t,v=.int ((0:Int)+((k+m:Nat):Int)*1) t)->Vals ((List.range' k l.length).map λ(i:Nat)=>V.int (i:Int)) l:=by
   intro l
   induction l with
   |nil=>intro k _;exact .nil
   |cons x r ih =>
    intro k f;rw[Mp,Nr,M5];refine .cons ?_ (ih (k+1) λm v hm=>?_)
    ·obtain⟨t,e⟩:=f 0 x rfl;exact⟨t,by rw[e];simp⟩
    ·obtain⟨t,e⟩:=f (m+1) v (by simpa using hm);exact⟨t,by rw[e,show k+(m+1)=k+1+m by omega]⟩
  have h1:=aux a.toList 0 (λm v hm=>by obtain⟨t,e⟩:=hi.2 m v (by rw[<-O0];exact hm);exact⟨t,by rw[e];simp⟩)
  rw[O4,hi.1]at h1;rw[List.range_eq_range'];exact h1
 exact⟨.ref s2.heap.objs.size,_,c.laid (t':=tk) g (Me _) (show cE X.prog X.w _ h' _ (.lst ((List.range j.toNat).map λ(i:Nat)=>V.int (i:Int))) from⟨by rw[M4,NX,sizeLine_eq];omega,a.toList,c',hv,by simpa using hl⟩),rfl,q _ (c.hok.fresh (Me _))⟩
theorem uz{c:Pos}(hc:X.calm=true)(v:Gl X "range")(hm:X.mg "range"=none)(g:Gl X "list")(i:X.mg "list"=none)(ha:PA X [a] ta)(w:starEach [a] X.env=[(false,eval a X.env)]:=by rfl)
  (f:starEach [.Call (.Name "range" p) [a] [] pos] X.env=[(false,eval (.Call (.Name "range" p) [a] [] pos) X.env)]:=by rfl) :
  PE X (.Call (.Name "list" p2) [.Call (.Name "range" p) [a] [] pos] [] c) (tLR ta):=by
 intro pins s σ H Q I h;refine Call_ (fo I g i tH (PyProof.Rows.callWith_type1 ?_ f rfl));rw[f];show wpAny _ _ (spliced ((false,eval (.Call (.Name "range" p) [a] [] pos) X.env)::backTo c [])) _ _ s;refine Calls.spliced_cons (Call_ (fo I v hm boot_range (PyProof.Rows.callWith_type1 (thn (ha pos pins s σ H _ I h) λus s1 l=>?_) w rfl)));obtain⟨vs,H1,u,x,m⟩:=l;obtain⟨j,e,m,y,q⟩:=m;subst e;cases x with
 |cons r rr =>
  cases rr;obtain⟨t,rfl⟩:=r;refine call_range_1 (Calls.spliced_nil ?_);have e2:Builtin.Range.rangeSize 0 j 1=((j.toNat:Nat):Int):=by rw[rangeSize_one];split <;> omega
  refine call_list_range (n:=j.toNat) (u.ok.hd hc) (IsRange.new ..) (small_one (by omega) (by omega) (by omega) (by omega)) e2 (by omega) λh' tk acc' c' z hl hi=>?_
  exact Jw (u.kept λb o e=>M3 _ e) z hl hi m y q
def uI:List PyData->Rs (List PyData)
 |[.int j]=>if 0<=j/\j<=1000000 then .ok (bN 0 j.toNat) else .no
 |_=>.no
def gLR(g:Ds->Rs (List PyData)):Ds->Rs (List PyData):=λδ=>(g δ).bind uI
theorem Bj{b:Pos}(hc:X.calm=true)(hm:X.mg "range"=none)(c:X.mg "list"=none)(ha:PAD X E [a] gs)(r:Gl X "range")(f:Gl X "list")(s:starEach [a] X.env=[(false,eval a X.env)])
  (g:starEach [.Call (.Name "range" p) [a] [] pos] X.env=[(false,eval (.Call (.Name "range" p) [a] [] pos) X.env)]):PLD X E (.Call (.Name "list" p2) [.Call (.Name "range" p) [a] [] pos] [] b) (gLR gs) :=
 (uz hc r hm f c ha.1 s g).imp λσ H Q l=>by
  obtain⟨A,δ,R,o⟩:=l;unfold gLR at o;refine aD.run R (λds e vs H1 m R1 h1=>?_) (λC e H' s'=>by rw[e]at o;exact o H' s') (λe=>by rw[e]at o;exact o);simp only[e,Rs.ag]at o;unfold uI at o;split at o
  ·split at o
   ·rename_i j z;obtain⟨v,rfl,h⟩:=ku h1;rw[h.ofInt];refine⟨j,rfl,z.1,z.2,λq n=>o q _ _ (m.free n) (m.trans (bL n)) aH ?_⟩;have:bN 0 j.toNat=((List.range j.toNat).map λ(i:Nat)=>(i:Int)).map PyData.int:=by unfold bN;rw[Ms];congr 1;funext i;simp
    rw[this,show ((List.range j.toNat).map λ(i:Nat)=>V.int (i:Int))=((List.range j.toNat).map λ(i:Nat)=>(i:Int)).map V.int by rw[Ms];rfl];exact pT _
   ·exact o.elim
  ·exact o.elim
end
theorem vC(t:Addr)(xs:Array Value):Meets (Builtin.«enumerate.__new__» ⟨[.type "enumerate",.ref t],[]⟩) (λ_ R s=>s.heap.IsTuple t xs /\
   R (.ok (.ret (.ref (s.heap.push { cls:=.type "tuple_iterator",data:=.fields #[.ref t,.int 0 0] }).objs.size)))
    { s with heap:=(s.heap.push { cls:=.type "tuple_iterator",data:=.fields #[.ref t,.int 0 0] }).push { cls:=.type "enumerate",data:=.fields #[.none,.bool false,.ref s.heap.objs.size,rawInt 0,.none,.none] } }) :=
 .of_wp λprog w A R s h=>by
  obtain⟨a,g,d,tk,os⟩:=s;obtain⟨hl,h⟩:=h;have hsub:=sub_enumerate;have hL:Heap.IsTuple (Shared.heap ⟨a,g,d,tk,os⟩) t xs:=hl
  wp_walk
  refine wpAny_stack_any λst=>wpAny_pure ?_
  split
  ·rename_i c _ _ _ _ _;cases (c==Value.type "enumerate")
   ·wp_walk using wpAny_pyIter_tuple hL
    exact⟨_,rfl,h⟩
   ·wp_walk using wpAny_pyIter_tuple hL
    exact⟨_,rfl,h⟩
  ·wp_walk using wpAny_pyIter_tuple hL
   exact⟨_,rfl,h⟩
theorem wH{A:Around}{l:Addr}(hL:s.heap.IsTuple l items)
  (h:∀h',IsEnum h' (s.heap.objs.size+1) s.heap.objs.size 0 .none->h'.IsTupleIter s.heap.objs.size l 0->(∀b o,s.heap.get? b=some o->h'.get? b=some o)->Q (.ref (s.heap.objs.size+1)) { s with heap:=h' }) :
  wpAny (model prog w) A (call (.type "enumerate") [.ref l]) Q E s:=by
 refine callType_new F.called_enumerate (by decide) (F.typeCall_enumerate_1 _) (F.newCall_enumerate_1 _) (λobj=>F.args_object_init_2 obj _) F.entry_enumerate_new (vC l items) ⟨hL,?_⟩;have a:(s.heap.push { cls:=.type "tuple_iterator",data:=.fields #[.ref l,.int 0 0] }).objs.size=s.heap.objs.size+1:=Heap.size_push ..;show _/\_;rw[a];have c:IsEnum ((s.heap.push { cls:=.type "tuple_iterator",data:=.fields #[.ref l,.int 0 0] }).push
   { cls:=.type "enumerate",data:=.fields #[.none,.bool false,.ref s.heap.objs.size,rawInt 0,.none,.none] }) (s.heap.objs.size+1) s.heap.objs.size 0 .none:=by
  have:=Ml (s.heap.push { cls:=.type "tuple_iterator",data:=.fields #[.ref l,.int 0 0] })
   (o:={ cls:=.type "enumerate",data:=.fields #[.none,.bool false,.ref s.heap.objs.size,rawInt 0,.none,.none] }) rfl
  rw[a]at this;exact this
 refine⟨⟨_,c,rfl⟩,h _ c ⟨_,M3 _ (Ml _ rfl),rfl,rfl⟩ λb o e=>M3 _ (M3 _ e)⟩
def Ite(P:Hp->List V->Prop)(n:Nat):It :=
 ⟨λi H=>i<n/\∃xs,P H xs/\xs.length=n,
  λi H v H'=>∃t x,v=.ref t/\H t=none/\H'=upd H t (.tup [.int i,x])/\∀xs,P H xs->xs[i]?=some x,
  λi H=>i=n/\∃xs,P H xs/\xs.length=n⟩
theorem rQ{N:Pos}{e:Addr}{p:Hp->List V->Prop}{S:Nat->Heap->Prop}{B:Heap->Array Value->Prop}(b:e≠it)(y:e≠a)
  (G:∀(A:Around),A.handled=none->∀its:Array Value,Draws P w A it [it,a] its.size (λi v=>its[i]?=some v) (λi h=>S i h/\B h its))
  (hB:∀(X:Cx),X.prog=P->X.w=w->X.K=K->∀{pins:List (Addr×Obj)}{s:Shared}{σ:St}{H:Hp}{xs:List V},Inv X pins σ H s->p H xs->∃its:List Value,Vals xs its/\B s.heap its.toArray)
  (O:∀(X:Cx),X.prog=P->X.w=w->X.K=K->∀{pins:List (Addr×Obj)}{s:Shared}{σ:St}{H:Hp}{xs ys:List V},Inv X pins σ H s->p H xs->p H ys->xs=ys)
  (J:∀i h,S i h->∃o,h.get? it=some o/\∀v,o.data≠.cell v) (hK:∀i h h',S i h->(∀o,h.get? it=some o->h'.get? it=some o)->S i h') :
  Turn P w K (.Tuple elts x1 N) (Ite p n) [e,it] e (λi h=>(∃old,IsEnum h e it i old)/\S i h) where
 mem:=by simp
 obj:=λi h st c hc=>by
  obtain⟨⟨old,h1⟩,h2⟩:=st;simp only[M8,Mt,or_false]at hc;rcases hc with rfl|rfl
  ·exact⟨_,h1,λv q=>by cases q⟩
  ·exact J i h h2
 keep:=λi h h' st k=>by obtain⟨⟨old,h1⟩,h2⟩:=st;exact⟨⟨old,k e (by simp) _ h1⟩,hK i h h' h2 λo q=>k it (by simp) o q⟩
 item:=by
  intro X z hw f hc i pins s σ H E I r st C;subst z hw f;obtain⟨hi,xs,t,Q⟩:=C;obtain⟨⟨old,h1⟩,h2⟩:=st;obtain⟨its,u,D⟩:=hB X rfl rfl rfl I t;have la:=u.length;refine wpAny_pyNext_enum_itemD (G X.A.in1 (I.ok.hd hc) its.toArray) h1 ⟨h2,D⟩ (by simp;omega) b (by simp[b,y]) λx h' tk R T U Y hsz Z=>⟨_,rfl,?_⟩
  refine wpAny_letOwnedTupleGo_enum (s:={ s with heap:=h',toks:=tk+1 }) T λF d1 d2=>?_
  have L:e<s.heap.objs.size:=Mg h1;have il:it<s.heap.objs.size:=by obtain⟨o,q,_⟩:=J i _ h2;exact Mg q
  have up:∀c o,c≠e->h'.get? c=some o->F.get? c=some o:=λc o hc q=>(d2.2 c hc).trans q
  obtain⟨j,ex,rx⟩:∃j,xs[i]?=some j/\RelV j x:=by
   have l:i<xs.length:=by omega
   obtain⟨u',e1,e2⟩:=u.get (M1 l);refine⟨xs[i],M1 l,?_⟩;have m:its[i]?=some x:=by simpa using R
   rw[e1]at m;cases m;exact e2
  have fr:H s.heap.objs.size=none:=I.hok.fresh (Me _);refine⟨.ref s.heap.objs.size,upd H s.heap.objs.size (.tup [.int i,j]),?_,rfl,⟨_,j,rfl,fr,rfl,λys h=>by rw[O X rfl rfl rfl I h t];exact ex⟩,?_,λc g=>?_⟩
  ·refine I.turnLay (t':=tk+1) (ch:=[e,it]) r (Me _) (λc o hn q=>?_) ⟨by show 2<=sizeLine;decide,[.int i tk,x],.cons ⟨tk,rfl⟩ (.cons rx .nil),⟨_,up _ _ (MU L) Y,rfl,rfl,_,rfl⟩⟩;simp only[M8,Mt,or_false,not_or]at hn;exact up c o hn.1 (Z c o hn.1 hn.2 q)
  ·exact⟨⟨x,by simpa using d1⟩,hK _ _ _ U.1 λo q=>up it o b.symm q⟩
  ·have M:=(r c g).1;simp only[M8,Mt,or_false]at g;rcases g with rfl|rfl
   ·rw[aB (Mf L)];exact M
   ·rw[aB (Mf il)];exact M
 done:=by
  intro X z hw f hc i pins s σ H E I r st C;subst z hw f;obtain⟨hi,xs,t,Q⟩:=C;obtain⟨⟨old,h1⟩,h2⟩:=st;obtain⟨its,u,D⟩:=hB X rfl rfl rfl I t;have la:=u.length;have e':its.toArray.size=i:=by simp;omega
  refine wpAny_pyNext_enum_endD (G X.A.in1 (I.ok.hd hc) its.toArray) h1 ⟨by rw[e'];exact h2,D⟩ λh' k=>⟨rfl,?_⟩
  refine I.turneds (t':=s.toks) (ch:=[e,it]) r λc o hn q=>?_
  simp only[M8,Mt,or_false,not_or]at hn;exact k c o hn.2 q
 self:=λ_ _ _ _ _ st h=>by obtain⟨⟨old,h1⟩,_⟩:=st;exact wpAny_pyIter_enum h1 h
theorem Gn:bootBuiltins "enumerate"=some (.type "enumerate"):=by decide +kernel
def Km(K:W.Frag)(ta:TA):TI:=λσ H R=>ta σ H λvs H1=>∃a xs,vs=[.ref a]/\((SqT K H1 a xs/\R (Ite (λH ys=>SqT K H a ys) xs.length) H1)\/(SqL K H1 a xs/\R (Ite (λH ys=>SqL K H a ys) xs.length) H1))
theorem Gd{E:Pos}{a:Expr}(F:Gl X "enumerate")(hm:X.mg "enumerate"=none)(ha:PA X [a] ta)(G:starEach [a] X.env=[(false,eval a X.env)]:=by rfl) :
  PI X (.Tuple elts x1 E) (.Call (.Name "enumerate" p) [a] [] pos) (Km X.K ta):=by
 intro pins s σ H R I h;refine Call_ (fo I F hm Gn (PyProof.Rows.callWith_type1 (thn (ha pos pins s σ H _ I h) λus b w=>?_) G rfl));obtain⟨vs,H1,j,J,L⟩:=w;obtain⟨f,xs,e,q⟩:=L;subst e;obtain⟨u1,e1,M⟩:=vals1 J;subst e1;cases M;have big:∀c∈[b.heap.objs.size+1,b.heap.objs.size],b.heap.objs.size<=c:=λc hc=>by
  simp only[M8,Mt,or_false]at hc;rcases hc with rfl|rfl
  ·exact NF _
  ·exact Me _
 have l:b.heap.objs.size+1≠b.heap.objs.size:=Oc _;rcases q with⟨x,q⟩|⟨x,q⟩
 ·obtain⟨its,m,pt,_⟩:=j.tuple x;have n:b.heap.IsTuple f its.toArray:=pt;have t:f<b.heap.objs.size:=by obtain⟨_,g,_⟩:=n;exact Mg g
  refine wH n λh' u hit y=>wpAny_pyIter_enum u ?_
  have z:Inv X pins σ H1 { b with heap:=h' }:=j.kept (t':=b.toks) y;refine⟨_,_,_,_,H1,rfl,z,rQ (a:=f) (S:=λi h=>h.IsTupleIter b.heap.objs.size f i) (B:=λh its=>h.IsTuple f its) l (MU (ML t)) (λA C its=>mJ C b.heap.objs.size f (Mf t) its)
   (λX' _ _ hK{_ _ _ _ _} I h=>?_) (λX' _ _ hK{_ _ _ _ _ _} I h1 h2=>?_) (λi h st=>?_) (λi h D st k=>?_),⟨⟨_,u⟩,hit⟩,λc hc=>j.fpOk (big c hc) (j.hok.fresh (big c hc)),q⟩
  ·rw[<-hK]at h;obtain⟨its,m,p,_⟩:=I.tuple h;exact⟨its,m,p⟩
  ·rw[<-hK]at h1 h2;exact I.tuple_inj h1 h2
  ·obtain⟨o,g,_,d⟩:=st;exact⟨o,g,λv q=>by rw[d]at q;cases q⟩
  ·obtain⟨o,g,r⟩:=st;exact⟨o,k o g,r⟩
 ·obtain⟨its,m,pl,_⟩:=j.list x;have t:f<b.heap.objs.size:=by obtain⟨_,_,g,_⟩:=pl;exact Mg g
  refine call_enumerate_list pl.isList λh' u hit hz y=>wpAny_pyIter_enum u ?_
  have z:Inv X pins σ H1 { b with heap:=h' }:=j.kept (t':=b.toks) y;refine⟨_,_,_,_,H1,rfl,z,rQ (a:=f) (S:=λi h=>h.IsListIter b.heap.objs.size f i) (B:=λh its=>h.IsList f its) l (MU (ML t)) (λA C its=>Draws.list C b.heap.objs.size f (Mf t) its)
   (λX' _ _ hK{_ _ _ _ _} I h=>?_) (λX' _ _ hK{_ _ _ _ _ _} I h1 h2=>?_) (λi h st=>?_) (λi h D st k=>?_),⟨⟨_,u⟩,hit⟩,λc hc=>j.fpOk (big c hc) (j.hok.fresh (big c hc)),q⟩
  ·rw[<-hK]at h;obtain⟨its,m,p,_⟩:=I.list h;exact⟨its,m,p.isList⟩
  ·rw[<-hK]at h1 h2;exact I.list_inj h1 h2
  ·obtain⟨o,g,_,d⟩:=st;exact⟨o,g,λv q=>by rw[d]at q;cases q⟩
  ·obtain⟨o,g,r⟩:=st;exact⟨o,k o g,r⟩
def ja(ds:List PyData):List PyData:=ds.mapIdx λi d=>.tuple [.int i,d]
theorem ko(ds:List PyData):(ja ds).length=ds.length:=by simp[ja]
theorem sI{f:Hp->List V->Prop}(h:Iss K G ds xs)(a:∀H1,av G H1->f H1 xs):vu K (Ite f xs.length) (ja ds) G:=λH1 B s j hB=>by have hl:=h.length;rw[ko];refine⟨λi hi=>⟨by omega,xs,a H1 s,rfl⟩,⟨hl.symm,xs,a H1 s,rfl⟩,λi x H2 hi y=>?_⟩;obtain⟨t,x0,rfl,c,rfl,l⟩:=y;obtain⟨d,e,hd⟩:=h.get (l xs (a H1 s));refine⟨bL c,.tuple [.int i,d],by unfold ja;rw[Nq,e];rfl,?_⟩;have m:t∉B:=j.new c;exact ik (by rw[aI m];exact aH) (cA bJ (hU (hd.same (λb o q=>by have g:=s b o q;have n:b≠t:=aK g c;rw[aI (λz=>by rw[hB b z]at q;cases q),aB n];exact g))))
section
variable {E:XK}{a b c k:Expr}{es:List Expr}
def qb:List PyData->Rs (List PyData)
 |[.list ds]=>.ok (ja ds)
 |[.tuple ds]=>.ok (ja ds)
 |_=>.no
def kB(g:Ds->Rs (List PyData)):Ds->Rs (List PyData):=λδ=>(g δ).bind qb
theorem Cg{f:Pos}(hm:X.mg "enumerate"=none)(ha:PAD X E [a] gs)(g:Gl X "enumerate")(i:starEach [a] X.env=[(false,eval a X.env)]) :
  PID X E (.Tuple elts x1 f) (.Call (.Name "enumerate" p) [a] [] pos) (kB gs):=(Gd g hm ha.1 i).imp λσ H R ⟨A,δ,Rp,o⟩=>tX Rp o λds vs H1 e s1 R1 h1 o=>by
 unfold qb at o;split at o
 ·obtain⟨v,rfl,h⟩:=ku h1;obtain⟨p,xs,rfl,b,c⟩:=h.ofLst;exact⟨p,xs,rfl,.inr ⟨SqL.of (aw _ _ b),o _ H1 (av.refl _) (sI c λH2 s2=>SqL.of (s2 _ _ b))⟩⟩
 ·obtain⟨v,rfl,h⟩:=ku h1;obtain⟨p,xs,rfl,b,c⟩:=h.ofTup;exact⟨p,xs,rfl,.inl ⟨SqT.of (aw _ _ b),o _ H1 (av.refl _) (sI c λH2 s2=>SqT.of (s2 _ _ b))⟩⟩
 ·exact o.elim
def iL(y x:Nat)(gk:Ds->Rs PyData):Ds->Sr:=λδ=>match δ[y]?,δ[x]? with
 |some (some (.list ys)),some (some (.list xs))=>ofR (gk δ) λk=>match k with
  |.int k=>if -(1000000)<=k/\k<=1000000/\ys.length<1000000 then (match ixN xs.length k with
   |some j=>match xs[j]? with
    |some d=>.nx ((δ.set x (some (.list (xs.eraseIdx j)))).set y (some (.list (ys++[d]))))
    |none=>.no
   |none=>.no) else .no
  |_=>.no
 |_,_=>.no
theorem xD{y x:Nat}{a nx:Str}{t v b h c:Pos}(hk:PD X E k gk)(B:x≠y)(i:y∈O)(l:x∈O)(L:X.N[y]?=some a)(M:X.N[x]?=some nx)
  (P:Vis X.env.scope a) (Q:Vis X.env.scope nx)
  (S:(a==("__debug__":Str))=false) (G:(a==("__classdict__":Str))=false) (T:(nx==("__debug__":Str))=false) (I:(nx==("__classdict__":Str))=false)
  (J:starEach [k] X.env=(false,eval k X.env)::starEach [] X.env) (g:starEach [.Call (.Attribute (.Name nx b) "pop" h) [k] [] c] X.env=(false,eval (.Call (.Attribute (.Name nx b) "pop" h) [k] [] c) X.env)::starEach [] X.env)
  (m:attributeBase (.Name nx b) "pop" X.env (eval (.Name nx b) X.env)=eval (.Name nx b) X.env) (e:attributeBase (.Name a t) "append" X.env (eval (.Name a t) X.env)=eval (.Name a t) X.env)
  (K:((backTo c (starEach [k] X.env)).all (λx=>!x.1)&&(backToKw c (keywordEach [] X.env)).all (λx=>x.1.isSome)&&decide (([k]:List Expr).length+([]:List Keyword).length+(if ([]:List Keyword).isEmpty then 0 else 1)<30))=true)
  (n:((backTo v (starEach [.Call (.Attribute (.Name nx b) "pop" h) [k] [] c] X.env)).all (λx=>!x.1)&&(backToKw v (keywordEach [] X.env)).all (λx=>x.1.isSome)&&decide (([.Call (.Attribute (.Name nx b) "pop" h) [k] [] c]:List Expr).length+([]:List Keyword).length+(if ([]:List Keyword).isEmpty then 0 else 1)<30))=true)
  (q:(h.endLine==c.line)=true) (f:(pa.endLine==v.line)=true)
  (hs:swapsWith (.Call (.Attribute (.Name a t) "append" pa) [.Call (.Attribute (.Name nx b) "pop" h) [k] [] c] [] v) none pos.line X.env=pure false) :
  PSD X E O (.Expr (.Call (.Attribute (.Name a t) "append" pa) [.Call (.Attribute (.Name nx b) "pop" h) [k] [] c] [] v) pos) (iL y x gk) :=
 (lH (yo F.plainAttrs_list F.slot_list_append F.type_list_append kh (i7 L P S G) (dX (yo F.plainAttrs_list F.slot_list_pop F.type_list_pop DS (i7 M Q T I) (dX hk fQ J) m K q J rfl) fQ g) e n f g rfl) hs).imp λD σ H U=>by
  obtain⟨H0,A0,A,δ,R,o⟩:=U;unfold iL at o;split at o
  ·rename_i ys xs W Y;obtain⟨p,vy,dy,e1,hp,hl,e2,hx⟩:=R.ownL i W;cases e2;obtain⟨r,Z,dx,f1,hr,hm,f2,hz⟩:=R.ownL l Y;cases f2;have npr:p≠r:=λz=>B (R.inj x y _ _ p l i Y W (by rw[z];exact f1) e1)
   refine⟨_,e1,tyL hl,_,f1,tyL hm,?_⟩;refine eD.run R.full (λkd ek u H1 s R1 hu=>?_) (λC et H' s'=>by rw[et]at o;exact o H' (R.same.trans s')) (λet=>by rw[et]at o;exact o);simp only[ek,ax]at o;split at o
   ·rename_i kk;split at o
    ·rename_i hb;split at o
     ·rename_i j hj;split at o
      ·rename_i d hd;obtain⟨w,hw,hwd⟩:=hz.getD hd;have hj':=hj;obtain⟨g1,g2,g3,g4⟩:=tW hj;have RS:=R.step s;have RS2:=RS.put (ds:=xs.eraseIdx j) (ys:=Z.eraseIdx j) l Y f1 hr ((hz.same s.del).eraseIdx j);refine⟨r,Z,kk,j,w,rfl,by rw[hu.ofInt],s _ _ hm,by omega,by omega,by rw[hz.length];exact g1,hw,?_⟩;have dU:del (upd H1 r (.lst (Z.eraseIdx j))) (A++A0)=del H1 (A++A0):=kl (MF _ hr);refine⟨p,vy,w,rfl,rfl,by rw[aB npr];exact s _ _ hl,by rw[hx.length,sizeLine_eq];omega,?_⟩;refine o A _ _ (RS2.put (ds:=ys++[d]) i (by rw[MA B];exact W) e1 hp ?_);rw[dU];exact (hx.same s.del).append (hU (hwd.same s.del))
      ·exact o.elim
     ·exact o.elim
    ·exact o.elim
   ·exact o.elim
  ·exact o.elim
end
theorem u6:isSubtype (.type "tuple") (.type "set")=pure false:=by rw[isSubtype_type];kernel_rfl
theorem vK:isSubtype (.type "tuple") (.type "frozenset")=pure false:=by rw[isSubtype_type];kernel_rfl
section
variable {A:Around}
noncomputable def seen(ns:List Int)(n:Nat):List Int:=firstMet (λi=>ns.getD i 0) n
theorem A3(C:A.handled=none)(D:s.heap.IsTuple a its)(hi:IntsAre its.toList ns)(j:its.size+1<scanBound)
  (G:∀(h':Heap)(tk:Nat),h'.SetOf (intKind prog w) s.heap.objs.size (λk=>(seen ns its.size).any (·==k)) (seen ns its.size).length->(∀b o,b<s.heap.objs.size->s.heap.get? b=some o->h'.get? b=some o)->Q (.ref s.heap.objs.size) { s with heap:=h',toks:=tk }) :
  wpAny (model prog w) A (call (.type "set") [.ref a]) Q E s:=by
 obtain⟨c,tl,mro⟩:=F.called_set.mro;have m1:=F.called_set.made;have m2:=F.called_set.sub;refine wpAny_call (codeAny_of_tree ?_);show wpAny _ _ (callAny (.type "set") _) _ _ _;refine wpAny_pure ⟨Code.quiet_builtin _ (by decide +kernel),codeAny_builtin F.entry_type_call ?_⟩;rw[Around.under_plain (weight_type_call_type "set" [.ref a] []) rfl];have m3:=F.called_set.notType;have m4:=F.called_set.canCreate;have m5:=F.typeCall_set_1 (.ref a)
 repeat (any_goals (first|assumption|wp_step))
 refine codeAny_mono (PySem.code_set_new_1 (.ref a) (E:=E) (Q₁:=λob x=>∃led:Bool,ob=.ref s.heap.objs.size/\x={ s with heap:=s.heap.push { cls:=.type "set",dict:=none,data:=.set #[] 0 (.fresh 0 0 led) } }) λled=>⟨led,rfl,rfl⟩) λr x m=>?_
 cases r with
 |error ev=>exact m
 |ok fl =>
  cases fl with
  |ret ob =>
   obtain⟨led,rfl,rfl⟩:=m;have y:(s.heap.push { cls:=.type "set",dict:=none,data:=.set #[] 0 (.fresh 0 0 led) }).get? s.heap.objs.size=some { cls:=.type "set",dict:=none,data:=.set #[] 0 (.fresh 0 0 led) }:=Ml _ rfl;have H:Shared.TypeIs { s with heap:=s.heap.push { cls:=.type "set",dict:=none,data:=.set #[] 0 (.fresh 0 0 led) } } (.ref s.heap.objs.size) "set":=⟨_,y,rfl⟩
   have m6:=F.called_set.init.lookup;have m7:=F.called_set.init.bind (.ref s.heap.objs.size)
   repeat (any_goals (first|assumption|wp_step))
   refine codeAny_mono (codeAny_call_builtin (R:=wants (λz s2=>z=.none/\∃h' tk,s2={ s with heap:=h',toks:=tk }/\h'.SetOf (intKind prog w) s.heap.objs.size (λk=>(seen ns its.size).any (·==k)) (seen ns its.size).length /\
     (∀b o,b<s.heap.objs.size->s.heap.get? b=some o->h'.get? b=some o)) E) F.called_set.init.plain F.entry_set_init (PySem.check_set_init_1 H ?_)) λI s2 f=>?_
   ·obtain⟨⟨oc,od,oda,osl⟩,go,gc,n,B⟩:=D;simp only at gc B;subst gc;subst B;have go':(s.heap.push { cls:=.type "set",dict:=none,data:=.set #[] 0 (.fresh 0 0 led) }).get? a=some { cls:=.type "tuple",dict:=od,data:=.seq its n,slots:=osl }:=M3 _ go;have n1:=u6;have n2:=vK;have n3:(Value.type "tuple"==Value.type "dict")=false:=by decide
    have J:(s.heap.push { cls:=.type "set",dict:=none,data:=.set #[] 0 (.fresh 0 0 led) }).IsTuple a its:=⟨_,go',rfl,n,rfl⟩
    unfold Builtin.«set.__init__» noKeywords Builtin.Frozenset.updateFrom;generalize zz:pyIter=PI
    wp_walk
    subst zz;refine wpAny_pyIter_tuple J (wpAny_bind (wpAny_runValue ?_));have h:a<s.heap.objs.size:=Mg go;have K:A.in1.in1.in1.handled=none:=by simp[C]
    have ne1:a≠(s.heap.push { cls:=.type "set",dict:=none,data:=.set #[] 0 (.fresh 0 0 led) }).objs.size:=by rw[Heap.size_push];exact Mf (ML h)
    have p:s.heap.objs.size∉[(s.heap.push { cls:=.type "set",dict:=none,data:=.set #[] 0 (.fresh 0 0 led) }).objs.size,a]:=by rw[Heap.size_push];simp only[M8,Mh,Mt,or_false,not_or];exact⟨Mf (Nk _),MU h⟩
    have L:∀(i:Nat)(v:Value),its[i]?=some v->∃t,v=.int ((λi=>ns.getD i 0) i) t:=λi v hv=>IntsAre.int_at hi i v (by rw[O0];exact hv)
    refine codeAny_set_update_loopS ((Walks.tuple K _ a ne1 its).toS) s.heap.objs.size p (λi=>ns.getD i 0) L j (its.size-0) 0 _ (by omega) (MR _) ⟨⟨_,Ml _ rfl,rfl,rfl⟩,⟨_,M3 _ go',rfl,n,rfl⟩⟩ ?_ ?_
    ·have M:((s.heap.push { cls:=.type "set",dict:=none,data:=.set #[] 0 (.fresh 0 0 led) }).push { cls:=.type "tuple_iterator",data:=.fields #[.ref a,.int 0 0] }).get? s.heap.objs.size=some { cls:=.type "set",dict:=none,data:=.set #[] 0 (.fresh 0 0 led) }:=M3 _ y;exact SetOf_congr ((setObjOf_fresh (knd:=intKind prog w) led).setOf M (by unfold scanBound;omega)) (λ_=>rfl) rfl
    ·intro s' l g;obtain⟨h',g',d',q,u⟩:=s';have e1:g'=s.gens:=l.gens;have e2:d'=s.drawn:=l.drawn;have N:u=s.os:=l.os;subst e1;subst e2;subst N;show wpAny _ _ _ _ _ _;refine wpAny_pure ?_;show wpAny _ _ (ret Value.none) _ _ _;refine wpAny_pure ⟨rfl,h',q,rfl,g,λb o j e=>?_⟩;have O:b≠(s.heap.push { cls:=.type "set",dict:=none,data:=.set #[] 0 (.fresh 0 0 led) }).objs.size:=by rw[Heap.size_push];exact Mf (ML j)
     exact l.heap b o (by simp only[M8,Mh,Mt,or_false,not_or];exact⟨Mf j,O⟩) (M3 _ (M3 _ e))
   ·cases I with
    |error ev=>exact f
    |ok fl2 =>
     cases fl2 with
     |ret z =>
      obtain⟨rfl,h',tk,rfl,g,P⟩:=f
      repeat (any_goals (first|assumption|wp_step))
      exact G _ _ g P
     |_=>exact f.elim
  |_=>exact m.elim
end
section
variable {E:XK}{a b c:Expr}{gc:Ds->Rs PyData}{es:List Expr}
theorem JQ:bootBuiltins "set"=some (.type "set"):=by decide +kernel
def tLS(K:W.Frag)(ta:TA):TE:=λσ H Q=>ta σ H λvs H1=>∃(p:Addr)(ns:List Int),vs=[.ref p]/\SqT K H1 p (ns.map V.int)/\ns.length<=1000/\Q (.int (seen ns ns.length).length) H1
theorem AW{c:Pos}(hc:X.calm=true)(x:Gl X "set")(hm:X.mg "set"=none)(g:Gl X "len")(i:X.mg "len"=none)(ha:PA X [a] ta)(y:starEach [a] X.env=[(false,eval a X.env)]:=by rfl)
  (f:starEach [.Call (.Name "set" p) [a] [] pos] X.env=(false,eval (.Call (.Name "set" p) [a] [] pos) X.env)::starEach [] X.env:=by rfl) (j:(backTo c (starEach [] X.env)).any (·.1)=false:=by rfl) :
  PE X (.Call (.Name "len" p2) [.Call (.Name "set" p) [a] [] pos] [] c) (tLS X.K ta):=by
 intro pins s σ H Q I h;refine wpAny_Call_Name_kw (fo I g i PySem.boot_len ?_);refine PyProof.Rows.callWith_builtin1 ?_ f j;rw[f];show wpAny _ _ (spliced ((false,eval (.Call (.Name "set" p) [a] [] pos) X.env)::backTo c [])) _ _ s;refine Calls.spliced_cons (Call_ (fo I x hm JQ (PyProof.Rows.callWith_type1 (thn (ha pos pins s σ H _ I h) λus r l=>?_) y rfl)));obtain⟨vs,H1,m,z,A⟩:=l;obtain⟨q,ns,e,B,hz,fin⟩:=A;subst e;obtain⟨u,rfl,C⟩:=vals1 z;cases C;obtain⟨its,v,pt,_⟩:=m.tuple B;have hl:=v.length;rw[M4]at hl;refine A3 (m.ok.hd hc) (show r.heap.IsTuple q its.toArray from pt) (intsAre_of v) (by rw[Mo];unfold scanBound;omega) λh' tk w D=>Calls.spliced_nil ?_
 have E:Inv X pins σ H1 { r with heap:=h',toks:=tk }:=m.kept λb o e=>D b o (Mg e) e
 have n:its.toArray.size=ns.length:=by rw[Mo];exact hl.symm
 rw[n]at w;obtain⟨o,es',ep,t,F,ex,hd,_,_,G,J,hsz⟩:=w;refine PySem.call_len_set F ex hd J (by unfold scanBound at G;omega) ⟨.int (seen ns ns.length).length,H1,E.tok _,⟨_,by rw[hsz]⟩,fin⟩
def l8:List PyData->Option PyData
 |[.tuple x]=>(iF x).bind λns=>if ns.length<=1000 then some (.int (seen ns ns.length).length) else none
 |_=>none
theorem Aq{b:Pos}(hc:X.calm=true)(hm:X.mg "set"=none)(c:X.mg "len"=none)(ha:PAD X E [a] gs)(l:Gl X "set")(f:Gl X "len")(m:starEach [a] X.env=[(false,eval a X.env)])
  (g:starEach [.Call (.Name "set" p) [a] [] pos] X.env=(false,eval (.Call (.Name "set" p) [a] [] pos) X.env)::starEach [] X.env) (h:(backTo b (starEach [] X.env)).any (·.1)=false) :
  PD X E (.Call (.Name "len" p2) [.Call (.Name "set" p) [a] [] pos] [] b) (gF l8 gs):=(AW hc l hm f c ha.1 m g h).imp λσ H Q ⟨A,δ,R,o⟩=>u7 R o λds vs H1 e s1 R1 h1 o=>by
 unfold l8 at o;split at o
 ·rename_i x;cases q:iF x with
  |none=>rw[q]at o;exact o.elim
  |some ns =>
   rw[q]at o;obtain⟨v,rfl,n⟩:=ku h1;obtain⟨p,xs,rfl,i,j⟩:=n.ofTup;rw[fk q]at j;rw[j.ofInts]at i;by_cases z:ns.length<=1000
   ·simp only[N7,if_pos z]at o;exact⟨p,ns,rfl,SqT.of (aw _ _ i),z,o _ H1 (av.refl _) bJ⟩
   ·simp only[N7,if_neg z]at o;exact o.elim
 ·exact o.elim
end
open AutoSeq1 (wpAny_loadPart')
open SeqAt (EqAt)
theorem wB{prog:Program}{w:World}{A:Around}{E:Value->Shared->Prop}{s:Shared}{its:Array Value}{x:Value}{e:Value->Bool}{j:Nat}{Q:Option PySem.Fin×Unit->Shared->Prop}(c:j<its.size)(hit:e its[j]=true)(a:∀m(hm:m<its.size),m<j->e its[m]=false)
  (f:∀y,y∈its->EqAt A s y x (e y)) (g:Q (some (.done (.ret (.int j s.toks))),()) { s with toks:=s.toks+1 }):∀(k i m:Nat),i+k=j->j<i+m ->
  wpAny (model prog w) A (forIn (List.range' i m) ((none:Option PySem.Fin),()) λ(i:Nat) _=>match its[i]? with
   |some y=>do
    let b <-eqBool y x
    if b=true then do
      let r <-retInt (i:Int)
      pure (ForInStep.done (some r,()))
     else pure (ForInStep.yield (none,()))
   |_=>pure (ForInStep.yield (none,()))) Q E s
 |0,i,0,h1,h2=>by omega
 |0,i,m+1,h1,h2=>by
  have:i=j:=by omega
  subst this;rw[Nr,NP];have q:its[i]?=some its[i]:=by simp[c]
  simp only[q];refine wpAny_bind (wpAny_bind (f _ (Array.getElem_mem c) prog w _ _ ?_));rw[hit,if_pos rfl];unfold retInt;exact wpAny_bind (wpAny_bind (wpAny_mkInt (wpAny_pure (wpAny_pure (wpAny_pure g)))))
 |k+1,i,0,h1,h2=>by omega
 |k+1,i,m+1,h1,h2=>by
  have hi:i<its.size:=by omega
  rw[Nr,NP];have q:its[i]?=some its[i]:=by simp[hi]
  simp only[q];refine wpAny_bind (wpAny_bind (f _ (Array.getElem_mem hi) prog w _ _ ?_));rw[a i hi (by omega),if_neg Mi];exact wpAny_pure (wB c hit a f g k (i+1) m (by omega) (by omega))
theorem Ao(b:Addr)(its:Array Value)(n:Nat)(dd:Option Addr)(c:Array (Option Value))(x:Value)(e:Value->Bool)(j:Nat)(f:j<its.size)(hit:e its[j]=true)(a:∀m(hm:m<its.size),m<j->e its[m]=false) :
  Meets (Builtin.«tuple.index» ⟨[.ref b,x],[]⟩)
   (λA R s=>s.heap.get? b=some { cls:=.type "tuple",dict:=dd,data:=.seq its n,slots:=c }/\(∀y,y∈its->EqAt A.in1 s y x (e y))/\R (.ok (.ret (.int j s.toks))) { s with toks:=s.toks+1 }):=by
 intro prog w A R s h;obtain⟨hp,g,d,tk,os⟩:=s;obtain⟨hl,i,l⟩:=h;unfold Builtin.«tuple.index»;simp only[Std.Legacy.Range.forIn_eq_forIn_range',Std.Legacy.Range.size];generalize hF:(@forIn Sem (List Nat))=F
 wp_walk using wpAny_loadPart' hl
 subst hF;refine wB f hit a i ?_ j 0 _ (by omega) (by simp;omega);exact wpAny_pure l
section
variable {E:XK}{a o:Expr}{go:Ds->Rs PyData}{es:List Expr}
def Io:V->List V->Hp->VK->Prop:=λx vs H Q=>∃l xs y j,x=.ref l/\vs=[y]/\H l=some (.tup xs)/\jc y=true/\xs.all jc=true/\(xs.findIdx? λz=>eqV z y)=some j/\Q (.int j) H
def tIx(to:TE)(t:TA):TE:=λσ H Q=>to σ H λx H1=>(∃l xs,x=.ref l/\H1 l=some (.tup xs))/\t σ H1 λvs H2=>Io x vs H2 Q
theorem DB{to:TE}{t:TA}{apos:Pos}(T:PE X o to)(ha:PA X [e] t)(c:attributeBase o "index" X.env (eval o X.env)=eval o X.env:=by rfl)
  (r:((backTo cpos (starEach [e] X.env)).all (λx=>!x.1)&&(backToKw cpos (keywordEach [] X.env)).all (λx=>x.1.isSome)&&decide (([e]:List Expr).length+([]:List Keyword).length+(if ([]:List Keyword).isEmpty then 0 else 1)<30))=true:=by rfl)
  (f:(apos.endLine==cpos.line)=true:=by rfl) (U:starEach [e] X.env=(false,eval e X.env)::starEach [] X.env:=by rfl) (b:(backTo cpos (starEach [] X.env)).any (·.1)=false:=by rfl) :
  PE X (.Call (.Attribute o "index" apos) [e] [] cpos) (tIx to t):=by
 intro pins s σ H Q I h;refine wpAny_Call_method_late c r f rfl (thn (T pins s σ H _ I h) λv W g=>?_);obtain⟨x,H1,O,Y,⟨l,xs,Z,hl⟩,q1⟩:=g;subst Z;cases Y;obtain⟨P,its,rv,ob,ge,gc,gd,n,gq⟩:=O.hok l _ hl;refine⟨"tuple", "tuple.index",F.plainAttrs_tuple,F.slot_tuple_index,F.type_tuple_index,⟨ob,ge,gc⟩,λa ea=>by cases ea;exact⟨ob,ge,gd⟩,?_⟩;have R:=ha cpos pins W σ H1 _ O q1;rw[U]at R ⊢;refine Calls.callWith_builtin (by show (false||(backTo cpos (starEach [] X.env)).any (·.1))=false;rw[b];rfl) (Calls.evalArgs_plain ?_);refine thn R λus s2 g=>?_
 obtain⟨vs,H2,S,r2,q2⟩:=g;obtain⟨l',i,y,j,e1,e2,D,fy,fs,hj,q⟩:=q2;cases e1;subst e2;obtain⟨hz',its',p,E,w,A,B,n',C⟩:=S.hok l _ D;obtain⟨u,rfl,ru⟩:=vals1 r2;obtain⟨oc,od,oda,osl⟩:=E;simp only at A B C;subst A B C;have hlen:=p.length;obtain⟨G,J,K⟩:=List.findIdx?_eq_some_iff_getElem.mp hj;have at':∀(m:Nat)(hm:m<i.length),eqU y (its'[m]'(by omega))=eqV i[m] y:=λm hm=>by
  obtain⟨w',hw,L⟩:=p.get (M1 hm);have:its'[m]'(by omega)=w':=by have h2:=M1 (show m<its'.length by omega);rw[h2]at hw;exact Option.some.inj hw
  rw[this];exact wN L (Mu.mp fs _ (MH hm))
 refine call_meets F.slot_tuple_index ⟨_,w,rfl⟩ F.entry_tuple_index (F.args_tuple_index_2 _ _) (Ao l its'.toArray n' none osl u (eqU y) j (by simp;omega) (by simpa[at' j G] using J) (λm hm M=>?_)) ⟨w,λz P=>lY ru fy p fs z (by simpa using P),⟨.int j,H2,S.tok _,⟨_,rfl⟩,q⟩⟩;have N:m<i.length:=by simp at hm;omega
 have:=K m M;simpa[at' m N] using this
def i8(xs:List PyData)(y:PyData):Option PyData:=if fX y&&xs.all fX then ((xs.map toV).findIdx? λz=>eqV z (toV y)).map λj=>.int j else none
def j4(go ga:Ds->Rs PyData):Ds->Rs PyData:=λδ=>(go δ).bind λd=>match d with
 |.tuple xs=>(ga δ).bind λy=>Rs.ee (i8 xs y)
 |_=>.no
theorem CC{apos:Pos}(r:PD X E o go)(ha:PD X E e ga)(c:attributeBase o "index" X.env (eval o X.env)=eval o X.env)
  (h:((backTo cpos (starEach [e] X.env)).all (λx=>!x.1)&&(backToKw cpos (keywordEach [] X.env)).all (λx=>x.1.isSome)&&decide (([e]:List Expr).length+([]:List Keyword).length+(if ([]:List Keyword).isEmpty then 0 else 1)<30))=true)
  (f:(apos.endLine==cpos.line)=true) (l:starEach [e] X.env=(false,eval e X.env)::starEach [] X.env) (b:(backTo cpos (starEach [] X.env)).any (·.1)=false) :
  PD X E (.Call (.Attribute o "index" apos) [e] [] cpos) (j4 go ga):=(DB r (dX ha fQ l) c h f l b).imp λσ H Q i=>by
 obtain⟨A,δ,R,a⟩:=i;unfold j4 at a;refine eD.run R (λd1 e1 v H1 m s h1=>?_) (λC g H' s'=>by rw[g]at a;exact a H' s') (λg=>by rw[g]at a;exact a);simp only[e1,Rs.ag]at a;cases d1 with
 |tuple xs =>
  obtain⟨p,vs,rfl,n,t⟩:=h1.ofTup;refine⟨⟨p,vs,rfl,aw _ _ n⟩,?_⟩;have a:gU X.K E A H ((ga δ).bind λy=>Rs.ee (i8 xs y)) Q:=a;refine eD.run s (λd2 e2 u H2 s2 R2 h2=>?_) (λC g H' s'=>by rw[g]at a;exact a H' (m.trans s')) (λg=>by rw[g]at a;exact a);simp only[e2,Rs.ag]at a;unfold i8 at a;split at a
  ·rename_i z;rw[Mm]at z;obtain⟨f1,f2⟩:=h2.flat z.1;obtain⟨w,B⟩:=t.flat z.2;cases q:((xs.map toV).findIdx? λz=>eqV z (toV d2)) with
   |none=>rw[q]at a;exact a.elim
   |some j =>rw[q]at a;exact⟨p,vs,u,j,rfl,rfl,s2 _ _ (aw _ _ n),f2,B,by rw[f1,w];exact q,a _ H2 (m.trans s2) bJ⟩
  ·exact a.elim
 |_=>exact a.elim
end
end L2
namespace L2
open PySem PySem.Spec PyProof.Rows
section
variable {E:XK}{a:Expr}{es:List Expr}
theorem yg:bootBuiltins "min"=some (.builtin "min"):=by decide +kernel
end
section
variable {E:XK}
theorem gr{C:List Addr}(h:∀a∈C,a∈B):av (del H B) (del H C):=λb o e=>by obtain⟨h1,h2⟩:=a9 e;rw[aI λz=>h1 (h b z)];exact h2
theorem bK.release(R:bK K H0 A0 H A O δ σ)(hi:i∈O)(e:δ[i]?=some (some (.list ds))):∃o,bK K H0 A0 H o (O.filter (·≠i)) δ σ:=by
 obtain⟨a,xs,ds',e1,h1,h2,p,r⟩:=R.ownL hi e;cases p;have sub:∀b∈A.filter (·≠a)++A0,b∈A++A0:=λb c=>by
  rcases Mx.mp c with z|z
  ·exact MF _ (Mn.mp z).1
  ·exact Md _ z
 have na:a∉A.filter (·≠a)++A0:=λz=>by
  rcases Mx.mp z with z|z
  ·have:=(Mn.mp z).2;simp at this
  ·exact R.apart h1 z
 refine⟨A.filter (·≠a),?_⟩;exact {
  same:=R.same
  ls0:=R.ls0
  new:=λb c=>R.new b (Mn.mp c).1
  ls:=λb c=>R.ls b (Mn.mp c).1
  len:=R.len
  pl:=λj d f q=>by
   by_cases z:j=i
   ·subst z;rw[e]at q;cases q;exact⟨.ref a,e1,iP (xs:=xs) (by rw[aI na];exact h2) (r.same (gr sub))⟩
   ·have h:j∉O:=λw=>f (Mn.mpr ⟨w,by simpa using z⟩)
    obtain⟨v,g,l⟩:=R.pl j d h q;exact⟨v,g,l.same (gr sub)⟩
  own:=λj d f q=>by
   obtain⟨n,m⟩:=Mn.mp f;have m:j≠i:=by simpa using m
   obtain⟨b,ys,es,g,l,s,t,u⟩:=R.own j d n q;refine⟨b,ys,es,g,Mn.mpr ⟨l,?_⟩,s,t,u.same (gr sub)⟩;have:b≠a:=λw=>by subst w;exact m (R.inj j i d _ b n hi q e g e1)
   simpa using this
  inj:=λj k d e a f x=>R.inj j k d e a (Mn.mp f).1 (Mn.mp x).1 }
def CF(i:Nat)(G:Ds->Sr):Ds->Sr:=λδ=>match δ[i]? with
 |some (some (.list _))=>(match G δ with
  |.rt d=>.rt d
  |.rz C=>.rz C
  |_=>.no)
 |_=>.no
theorem EN{O':List Nat}{G:Ds->Sr}(h:PBD X E O' ss G)(hi:i∈O:=by decide)(b:O.filter (·≠i)=O':=by decide):PBD X E O ss (CF i G):=by
 subst b;exact h.imp λD σ H a=>by
  obtain⟨H0,A0,A,δ,R,o⟩:=a;unfold CF at o;split at o
  ·rename_i ds q;obtain⟨c,e⟩:=R.release hi q;refine⟨H0,A0,c,δ,e,?_⟩;cases g:G δ with
   |rt d=>rw[g]at o;exact o
   |rz C=>rw[g]at o;exact o
   |nx _=>rw[g]at o;exact o.elim
   |bk _=>rw[g]at o;exact o.elim
   |ct _=>rw[g]at o;exact o.elim
   |no=>rw[g]at o;exact o.elim
  ·exact o.elim
end
section
variable {E:XK}{a b c:Expr}{gc:Ds->Rs PyData}
end
section
variable {E:XK}{a:Expr}{es:List Expr}
end
section
variable {E:XK}{a:Expr}
end
end L2
namespace PyProof.Rows
open PySem
section
variable {A:Around}
end
end PyProof.Rows
namespace L2
open PySem PySem.Spec PyProof.Rows
section
variable {E:XK}{a:Expr}{es:List Expr}
end
end L2
namespace L2
open PySem PySem.Spec PySem.Calls PyProof.Rows PySem.W PySem.Builtin Builtin.ObjectAttr Builtin.Getset_descriptor
section
variable {A:Around}{K:Frag}{x:Addr}{ox:Obj}
structure G5(h:Heap)(x:Addr)(D:Addr):Prop where
 ex:∃o,h.get? x=some o/\o.cls=.ref D
theorem G5.type{M:Model}(I:G5 h x D):Looks M h (typeOf (.ref x)) (.ref D):=by obtain⟨o,h1,h2⟩:=I.ex;exact h2▸(Looks.ld h1).andThen .now
end
end L2
namespace L2
open PySem PySem.Spec PyProof.Rows
section
variable {E:XK}{ea:Addr}{oe:Obj}
end
section
variable {E:XK}{ea:Addr}{oe:Obj}
end
section
variable {E:XK}{a b:Expr}{es:List Expr}
def jN(f:Str):List (PyData×PyData)->Option PyData
 |[]=>none
 |(k,d)::r=>match k with
  |.str g=>if g=f then some d else jN f r
  |_=>none
def bG(C:Addr)(f:Str):PyData->Option PyData
 |.dict (k::r)=>match k with
  |(.str z,.int c)=>if z=""/\c=(C:Int) then jN f r else none
  |_=>none
 |_=>none
theorem Isk.jN{K:W.Frag}{H:Hp}:∀{r:List (PyData×PyData)}{fs:List (Str×V)}{f:Str}{d:PyData},Isk K H r fs->L2.jN f r=some d->∃v,fs.lookup f=some v/\Is K H d v
 |[],_,f,d,_,l=>by simp[L2.jN]at l
 |(k,x)::r,fs,f,d,h,l=>by
  unfold Isk at h;obtain⟨g,v,fs',rfl,rfl,h1,h2⟩:=h;simp only[L2.jN]at l;rw[MB];by_cases z:g=f
  ·subst z;rw[if_pos rfl]at l;cases l;exact⟨v,by simp,h1⟩
  ·rw[if_neg z]at l;have:(f==g)=false:=by simpa using λq=>z q.symm
   rw[this];exact Isk.jN h2 l
theorem EX{f:Str}{d x:PyData}(t:f≠"@")(e:bG C f d=some x)(h:Is K H d v):∃a dx fs u,v=.ref a/\H a=some (.ins C dx fs)/\fs.lookup f=some u/\Is K H x u:=by
 unfold bG at e;split at e
 ·rename_i k r;split at e
  ·rename_i z c;split at e
   ·rename_i q;obtain⟨rfl,rfl⟩:=q;unfold Is at h;rcases h with (⟨a,ns,_,b,_⟩|⟨a,l,_,b,_⟩)|⟨a,p,dx,fs,s,h1,hn,h2|h2⟩
    ·injection b with b _;cases b
    ·rcases b with⟨m,b,_⟩|⟨m,b,_⟩|⟨m,_,b,_⟩ <;> first|(cases b;done)|(cases m <;> cases b)
    ·unfold Isk at h2;obtain⟨g,u,fs',e1,e2,j,n⟩:=h2;cases e1;have i:=j.ofInt;injection i with i
     obtain rfl:p=C:=Int.ofNat.inj i;obtain⟨u,l,o⟩:=n.jN e;exact⟨a,dx,fs,u,s,h1,l,o⟩
    ·unfold Isk at h2;obtain⟨g,u,fs',e1,e2,j,n⟩:=h2;cases e1;have i:=j.ofInt;injection i with i
     obtain rfl:p=C:=Int.ofNat.inj i;obtain⟨u,l,o⟩:=n.jN e;rw[MB,show (f==("@":Str))=false by simpa using t]at l;exact⟨a,dx,fs,u,s,h1,l,o⟩
   ·cases e
  ·cases e
 ·cases e
theorem HS{f:Str}(cl:Cls X.K C)(n:fm X.K C f)(ha:PD X E a ga)(b:attributeBase a f X.env (eval a X.env)=eval a X.env)(c:f≠"@"):PD X E (.Attribute a f pos) (g1 (bG C f) ga) :=
 (JR ha b).imp λσ H Q ⟨A,δ,R,o⟩=>g1.read (tt:=λQ x H1=>∃a C dx fs v,x=.ref a/\H1 a=some (.ins C dx fs)/\Cls X.K C/\fm X.K C f/\fs.lookup f=some v/\Q v H1) R o λd1 d x H' e _ _ h k=>by obtain⟨p,dx,fs,u,rfl,g,l,i⟩:=EX c e h;exact⟨p,C,dx,fs,u,rfl,aw _ _ g,cl,n,l,k _ H' (av.refl _) i⟩
def JC(C:Addr)(names:List Str):Sp:=λvs H Q _=>∃(x dx:Addr)(args:List V),vs=.ref x::args/\args.length=names.length/\H x=some (.ins C dx []) /\
 ∀H':Hp,(∀b,b≠x->H' b=H b)->H' x=some (.ins C dx (names.zip args))->Q .non H'
structure Bu(P:Program)(w:World)(K:W.Frag)(mg:Str->Option Value)(base:Heap)(k:Nat)(x:Str)(C:Addr)(names:List Str):Prop where
 ex:∃f fd ps,Mk K C f/\gm P w K mg base (CXW P w) k f fd ps (JC C names)/\Binds K fd ps []/\mg x=some (.ref C)
theorem zJ{K:W.Frag}{H:Hp}:∀{names:List Str}{ds:List PyData}{vs:List V},Iss K H ds vs->Isk K H ((names.zip ds).map λp=>(.str p.1,p.2)) (names.zip vs)
 |[],_,_,_=>by simpa using n8
 |_::_,[],_,h=>by rw[h.nil_of];simpa using n8
 |n::ns,d::ds,_,h=>by obtain⟨v,r,rfl,h1,h2⟩:=h.cons_of;simp only[NR,M5];exact eI h1 (zJ h2)
theorem Cr{f:Str}:∀{names:List Str}{vs:List V},f∉names->(names.zip vs).lookup f=none
 |[],_,_=>rfl
 |_::_,[],_=>rfl
 |n::ns,v::vs,h=>by rw[NR,MB,show (f==n)=false by simpa using λq=>h (by rw[q];exact M7)];exact Cr λq=>h (M6 _ q)
end
section
variable {A:Around}{R:Result->Shared->Prop}{I:Addr}{wr:List Addr}{T:Nat->Value->Prop}{St:Nat->Heap->Prop}{dv:Value}
variable {l:Addr}{xs:Array (Int×Tok)}
end
section
variable {E:XK}{a b:Expr}{es:List Expr}
theorem eD.weak{Q a:VK}(h:eD K E g σ H Q)(k:∀v H',Q v H'->a v H'):eD K E g σ H a:=by
 obtain⟨A,δ,R,o⟩:=h;refine⟨A,δ,R,?_⟩;cases q:g δ with
 |ok d=>rw[q]at o;exact λv H' b h1=>k v H' (o v H' b h1)
 |rz C=>rw[q]at o;exact o
 |no=>rw[q]at o;exact o
end
variable {G:List Addr->Ds->Sr}{xs:List (List Key×Addr×Value)}{j:Nat}
theorem FT{b:Array (Option Value)}{kV e:Value}
  (g:∀(kV doc pm:Value)(an:Option Addr)(cdv ct:Value)(us:List Value),us.length=ps.length->bindArgs (W.fnOf "__init__" qual (fg st) (b0 st) (aC st) .none kV doc pm an cdv ct) ⟨us,[]⟩=pure (ps.zip us))
  (a:W.findIn K (.ref C) "__init__"=some (some (.ref f))) (i:W.isFn K (.ref f)=true)
  (l:K.lookup f=some ⟨oc,od,.func (W.fnOf "__init__" qual (fg st) (b0 st) (aC st) .none kV e pm an cd ct),b⟩)
  (c:W.codeIn K cd qual=true) (k:W.keepIn K (.ref f)=true) (mk:W.makesIn K C=true) (h:W.keepIn K (.ref C)=true):∃f fd,Mk K C f/\Fun K "__init__" qual st f fd/\Binds K fd ps [] :=
 have F:=wM (st:=st) l c k
 ⟨f,_,⟨mk,a,i,h⟩,F,F.binds g⟩
theorem lX.more{q l:Addr}{xs:List V}{Φ:Hp->Prop}{lt:Nat->Nat->Bool}(K:lX X σ [] q l xs Φ κ lt):lX X σ pins q l xs Φ κ lt :=
 ⟨K.lst,λi x a pins' H s u _=>K.turn i x a pins' H s u (λ_ h=>nomatch h),K.cmp⟩
def Fl(X:Cx)(ta tb:TE):TE:=λσ H Q=>ta σ H λx H1=>tb σ H1 λy H2=>∃(l q:Addr)(xs:List V)(Φ:Hp->Prop)(κ:Nat->V->Hp->Prop)(lt:Nat->Nat->Bool),x=.ref l/\y=.ref q/\0<xs.length/\Φ H2/\lX X σ [] q l xs Φ κ lt /\
 ∀a v,Φ a->xs[bst lt (xs.length-1)]?=some v->Q v a
section
variable {a b:Expr}{ta tb:TE}
theorem AJ(hc:X.calm=true)(hm:X.mg "min"=none)(ha:PE X a ta)(j:PE X b tb)(m:Gl X "min":=by rfl)(f:starEach [a] X.env=[(false,eval a X.env)]:=by rfl)(wk:∀{σ H} {Q c:VK},ta σ H Q->(∀x H,Q x H->c x H)->ta σ H c)(g:∀{σ H} {Q c:VK},tb σ H Q->(∀x H,Q x H->c x H)->tb σ H c) :
  PE X (.Call (.Name "min" p) [a] [⟨some "key",b,kp⟩] pos) (Fl X ta tb):=by
 intro pins s σ H Q I h;refine wpAny_Call_Name_kw (fo I m hm yg ?_ (by decide) (by decide));refine callWith_kw ?_ (by rw[f];rfl) (by rw[f];rfl) rfl rfl;refine thn ((dX ha fQ f) pos pins s σ H (λvs H1=>∃x,vs=[x]/\tb σ H1 λy H2=>∃(l q:Addr)(xs:List V)(Φ:Hp->Prop)(κ:Nat->V->Hp->Prop)(lt:Nat->Nat->Bool),x=.ref l/\y=.ref q/\0<xs.length/\Φ H2/\lX X σ [] q l xs Φ κ lt /\
   ∀e v,Φ e->xs[bst lt (xs.length-1)]?=some v->Q v e) I
  (wk h λx H1 q=>⟨x,rfl,q⟩)) λus s1 ⟨vs,H1,I1,r1,x,q0,q1⟩=>?_
 subst q0;obtain⟨u,rfl,i⟩:=vals1 r1;refine thn ((GL j Ir) pos pins s1 σ H1 (λvs H2=>∃y,vs=[y]/\∃(l q:Addr)(xs:List V)(Φ:Hp->Prop)(κ:Nat->V->Hp->Prop)(lt:Nat->Nat->Bool),x=.ref l/\y=.ref q/\0<xs.length/\Φ H2/\lX X σ [] q l xs Φ κ lt /\
   ∀e v,Φ e->xs[bst lt (xs.length-1)]?=some v->Q v e) I1
  (g q1 λy H2 q=>⟨y,rfl,q⟩)) λws s2 ⟨zs,H2,I2,r2,y,q2,l,q,xs,Φ,κ,lt,ex,ey,hn,hΦ,KK,hQ⟩=>?_
 subst q2;obtain⟨v,rfl,n⟩:=vals1 r2;subst ex ey;obtain rfl:u=Value.ref l:=i;obtain rfl:v=Value.ref q:=n;exact Ih KK.more (I2.ok.hd hc) I2 hΦ hn λH' s' x u o i J r=>⟨x,H',J,i,hQ H' x r o⟩
theorem Bb{q l c':Addr}{xs:List V}{Φ:Hp->Prop}{lt:Nat->Nat->Bool}{k:Nat}{p:Str}{n:Value}{t:TE}
  (S:l9 N [p] scope) (T:ck (k+2) X.A) (f:∀x c,cl.lookup x=some c->X.env.cells.lookup x=some c) (has:∀x,scope.names.lookup x=some .free->∃c,cl.lookup x=some c) (U:N.length=1+cap.length)
  (B:∀(i m:Nat)(x:Str),N[1+i]?=some x->cap[i]?=some m->X.N[m]?=some x/\scope.names.lookup x=some .free/\(X.env.kindOf x=some .cell\/X.env.kindOf x=some .free)/\Vis X.env.scope x)
  (Y:∀u,bindArgs (W.kla_fn "<lambda>" qual params body scope cl pm (.ref c') n) ⟨[u],[]⟩=pure ([p].zip [u]))
  (D:∀H,Φ H->H l=some (.lst xs)) (L:∀H,Φ H->H q=some (.frz (W.kla_obj "<lambda>" qual params body scope cl pm c' n) (.own q))/\∃o vs t,H c'=some (.frz o (.own c'))/\o.data=.fields vs/\vs[1]?=some (.str qual t))
  (g:∀(s:Shared)(H:Hp),PE (sE (CXW X.prog X.w) X.prog X.w X.K X.mg X.base N qual scope q (.ref c') cl X.A.in1 X.stack s H E0) body t)
  (turn:∀(i:Nat)(x:V)(H:Hp),xs[i]?=some x->Φ H->t (some x::cap.map λm=>(σ[m]?).join) H λv H'=>Φ H'/\κ i v H'/\∀j O,κ j O H->κ j O H')
  (cmp:∀(i j:Nat)(x y:V)(pins':List (Addr×Obj))(H:Hp)(s:Shared)(u v:Value),Inv X.in1 pins' σ H s->Φ H->κ i x H->κ j y H->RelV x u->RelV y v ->
   wpAny (model X.prog X.w) X.A.in1 (richCompare .Lt u v) (λr s'=>r=.bool (lt i j)/\Inv X.in1 pins' σ H s') (λ_ _=>False) s):lX X σ [] q l xs Φ κ lt:=by
 refine⟨D,λi x Z pins' H s u _ I F ru=>?_,cmp⟩;obtain⟨h,oc,vs,tt,h1,h2,h3⟩:=L H F;have C:Ji s H cl scope N [p].length (cap.map λm=>(σ[m]?).join):=by
  refine⟨λa b c e1 e2=>I.ok.inj a b c (f a c e1) (f b c e2),has,λa c e=>I.cell a c (f a c e),λa c e=>I.freeC a c (f a c e),by rw[M4];exact U,λj y v e1 e2=>?_⟩;rw[Mc]at e2;cases hm:cap[j]? with
  |none=>rw[hm]at e2;cases e2
  |some m =>
   rw[hm]at e2;have G:(σ[m]?).join=some v:=by simpa using e2
   obtain⟨hX,P,J,hv⟩:=B j m y e1 hm;have e4:σ[m]?=some (some v):=by
    cases z:σ[m]? with
    |none=>rw[z]at G;cases G
    |some w=>rw[z]at G;cases w with
     |none=>cases G
     |some w=>cases G;rfl
   obtain⟨mm,hn,hl⟩:=I.loc;obtain⟨u,rv,lk⟩:=hl m y v hX e4 hv;rcases lk with⟨z,_⟩|⟨_,c,M,e6⟩
   ·have z:X.env.kindOf y=some .local:=z;rcases J with J|J <;> (rw[z]at J;cases J)
   ·obtain⟨c2,Q⟩:=has y P;have R:=f y c2 Q;have M:X.env.cells.lookup y=some c:=M;rw[M]at R;cases R;exact⟨u,c,rv,P,Q,e6⟩
 refine wpAny_call (codeAny_mono (GR (CX:=CXW X.prog X.w) (E:=E0) S T.in1 I.env0 rfl (.cons ru .nil) C (I.hok q _ h).1 ⟨c',oc,vs,tt,rfl,(I.hok c' _ h1).1,h2,h3⟩ (Y u) (g s H) (turn i x H Z F)) λr s' h=>?_);cases r with
 |error e=>obtain⟨_,_,_,_,_,_,z,_⟩:=h;exact z.elim
 |ok fl =>
  cases fl with
  |ret u=>exact I.after h
  |next=>exact False.elim h
  |brk=>exact False.elim h
  |cont=>exact False.elim h
end
section
variable {E:XK}{a b:Expr}
end
section
variable {E:XK}
end
structure iw(P:Program)(w:World)(K:W.Frag)(mg:Str->Option Value)(base:Heap)(k:Nat)(C:Addr)(m:Str)(n:Nat)(gf:List PyData->Rs PyData):Prop where
 ex:∃f fd ps,Cls K C/\Meth K C m f/\gm P w K mg base (CXW P w) k f fd ps (spD K n gf)/\Binds K fd ps []
def jh(m:Str):List (PyData×PyData)->Bool
 |[]=>true
 |(k,_)::r=>match k with
  |.str g=>decide (g≠m)&&jh m r
  |_=>false
def isC(C:Addr)(m:Str):PyData->Bool
 |.dict (k::r)=>match k with
  |(.str z,.int c)=>decide (z="")&&decide (c=(C:Int))&&jh m r
  |_=>false
 |_=>false
theorem Isk.jh{K:W.Frag}{H:Hp}{m:Str}:∀{r:List (PyData×PyData)}{fs:List (Str×V)},Isk K H r fs->L2.jh m r=true->fs.lookup m=none
 |[],_,h,_=>by unfold Isk at h;rw[h];rfl
 |(k,d)::r,fs,h,n=>by unfold Isk at h;obtain⟨f,v,fs',rfl,rfl,h1,h2⟩:=h;simp only[L2.jh,Mm,decide_eq_true_eq]at n;rw[MB,show (m==f)=false by simpa using λq=>n.1 q.symm];exact Isk.jh h2 n.2
theorem IY{d:PyData}(e:isC C m d=true)(h:Is K H d v):∃a dx fs,v=.ref a/\H a=some (.ins C dx fs)/\fs.lookup m=none:=by
 unfold isC at e;split at e
 ·rename_i k r;split at e
  ·rename_i z c;simp only[Mm,decide_eq_true_eq]at e;obtain⟨⟨rfl,rfl⟩,n⟩:=e;unfold Is at h;rcases h with (⟨a,ns,_,b,_⟩|⟨a,l,_,b,_⟩)|⟨a,o,dx,fs,p,h1,hn,h2|h2⟩
   ·injection b with b _;cases b
   ·rcases b with⟨m,b,_⟩|⟨m,b,_⟩|⟨m,_,b,_⟩ <;> first|(cases b;done)|(cases m <;> cases b)
   ·unfold Isk at h2;obtain⟨g,u,fs',e1,e2,i,j⟩:=h2;cases e1;have f:=i.ofInt;injection f with f
    obtain rfl:o=C:=Int.ofNat.inj f;exact⟨a,dx,fs,p,h1,j.jh n⟩
   ·unfold Isk at h2;obtain⟨g,u,fs',e1,e2,i,j⟩:=h2;cases e1;have f:=i.ofInt;injection f with f
    obtain rfl:o=C:=Int.ofNat.inj f;have l:=j.jh n;rw[MB]at l;cases q:(m==("@":Str)) with
    |true=>rw[q]at l;cases l
    |false=>rw[q]at l;exact⟨a,dx,fs,p,h1,l⟩
  ·cases e
 ·cases e
def bq(C:Addr)(m:Str)(gf:List PyData->Rs PyData)(ga:Ds->Rs PyData)(gs:Ds->Rs (List PyData)):Ds->Rs PyData:=λδ=>(ga δ).bind λd=>if isC C m d then (gs δ).bind λds=>gf (d::ds) else .no
section
variable {E:XK}{o:Expr}{es:List Expr}{apos:Pos}
theorem bq.read{Q:VK}(hn:∀δ ds,gs δ=.ok ds->ds.length+1=n)(R:dH X.K H A δ σ)(b:gU X.K E A H (bq C m gf ga gs δ) Q):yU C m (spD X.K n gf) [] E (eD X.K E ga) (aD X.K E gs) σ H Q:=by
 unfold bq at b;refine eD.run R (λd f v H1 e g h1=>?_) (λC c H' s'=>?_) (λc=>?_)
 ·simp only[f,Rs.ag]at b;split at b
  ·rename_i hc;obtain⟨a,dx,fs,rfl,h,l⟩:=IY hc h1;refine⟨a,dx,fs,rfl,aw _ _ h,l,?_⟩;refine aD.run g (λds e2 vs H2 s2 R2 h2=>?_) (λC c H' s'=>?_) (λc=>?_)
   ·simp only[e2,Rs.ag]at b;refine⟨A,d::ds,R2.ls,?_,hn δ ds e2,b.mono (e.trans s2)⟩;rw[N3];exact cA (h1.same s2.del) h2
   ·rw[c]at b;exact b H' (e.trans s')
   ·rw[c]at b;exact b
  ·exact b.elim
 ·rw[c]at b;exact b H' s'
 ·rw[c]at b;exact b
theorem FF{k:Nat}{pl:Sem Bool}(D:iw X.prog X.w X.K X.mg X.base k C m (es.length+2) gf)(c:ck j X.A)(g:Passes (CXW X.prog X.w) X E)(h:PD X E o ga)(ha:PAD X E (e::es) gs)(i:k<=j)
  (a:starEach (e::es) X.env=(false,eval e X.env)::starEach es X.env) (b:(backTo pos (starEach es X.env)).any (·.1)=false)
  (l:eval (.Call (.Attribute o m apos) (e::es) [] pos) X.env=(do
   let ov <-eval o X.env
   standAt apos.atName
   let (f,first) <-holding [ov] (getMethod ov m pl)
   callWith pos f first (backTo pos (starEach (e::es) X.env)) (backToKw pos (keywordEach [] X.env)))) :
  PD X E (.Call (.Attribute o m apos) (e::es) [] pos) (bq C m gf ga gs):=by
 obtain⟨f,fd,ps,cl,hm,F,n⟩:=D.ex;exact (E9 h cl hm F (c.mono i) n .nil g ha.1 a b l).imp λσ H Q ⟨A,δ,R,ou⟩=>bq.read (λδ ds e=>by rw[ha.2 δ ds e];rfl) R ou
theorem CB{k:Nat}{pl:Sem Bool}(D:iw X.prog X.w X.K X.mg X.base k C m 1 gf)(c:ck j X.A)(g:Passes (CXW X.prog X.w) X E)(i:PD X E o ga)(p:k<=j)
  (r:eval (.Call (.Attribute o m apos) [] [] pos) X.env=(do
   let ov <-eval o X.env
   standAt apos.atName
   let (f,first) <-holding [ov] (getMethod ov m pl)
   callWith pos f first (backTo pos (starEach [] X.env)) (backToKw pos (keywordEach [] X.env)))) :
  PD X E (.Call (.Attribute o m apos) [] [] pos) (bq C m gf ga ah):=by
 obtain⟨f,fd,ps,cl,hm,F,s⟩:=D.ex;refine (vZ i cl hm F (c.mono p) s .nil g r).imp λσ H Q b=>?_
 obtain⟨A,δ,R,t⟩:=b;have h:=bq.read (gs:=ah) (X:=X) (n:=1) (λδ ds e=>by cases e;rfl) R t;unfold yU at h ⊢;exact h.weak λv H1 ⟨a,dx,fs,e,hp,l,q⟩=>⟨a,dx,fs,e,hp,l,by obtain⟨A',δ',R',o'⟩:=q;exact o' [] H1 (av.refl _) cR⟩
end
noncomputable def intsOf:List PyData->Option (List Int)
 |[]=>some []
 |.int a::r=>(intsOf r).map (a::·)
 |_::_=>none
def kU:PyData->Option (Bool×List Int)
 |.int a=>some (false,[a])
 |.tuple ds=>(intsOf ds).map λl=>(true,l)
 |_=>none
def ltD(a b:PyData):Bool:=match kU a,kU b with
 |some (_,l),some (_,m)=>HT.lexLt l m
 |_,_=>false
def keysOk(ks:List PyData):Bool:=ks.all (λk=>match kU k with|some (false,_)=>true|_=>false)||ks.all λk=>match kU k with|some (true,_)=>true|_=>false
def allR(g:PyData->Rs PyData):List PyData->Rs (List PyData)
 |[]=>.ok []
 |d::r=>(g d).bind λk=>(allR g r).bind λks=>.ok (k::ks)
theorem vF{g:PyData->Rs PyData}:∀{ds ks:List PyData},allR g ds=.ok ks->ks.length=ds.length/\∀(i:Nat)(d:PyData),ds[i]?=some d->∃k,ks[i]?=some k/\g d=.ok k
 |[],ks,h=>by cases h;exact⟨rfl,λi d e=>by simp at e⟩
 |d::r,ks,h=>by
  unfold allR at h;cases e1:g d with
  |rz _=>rw[e1]at h;cases h
  |no=>rw[e1]at h;cases h
  |ok k =>
   rw[e1]at h;cases e2:allR g r with
   |rz _=>rw[Rs.ag,e2]at h;cases h
   |no=>rw[Rs.ag,e2]at h;cases h
   |ok t =>
    rw[Rs.ag,e2]at h;cases h;obtain⟨hl,a⟩:=vF e2;refine⟨by simp[hl],λi d' e=>?_⟩;cases i with
    |zero=>simp at e;subst e;exact⟨k,rfl,e1⟩
    |succ i=>simpa using a i d' (by simpa using e)
def tq(cap:List Nat)(δ:Ds):Ds:=cap.map λm=>(δ[m]?).join
def okR:Rs (List PyData)->(List PyData->Rs PyData)->Rs PyData
 |.ok a,f=>f a
 |_,_=>.no
def iY(cap:List Nat)(ga gb:Ds->Rs PyData):Ds->Rs PyData:=λδ=>(ga δ).bind λd=>match d with
 |.list ds=>if 0<ds.length then okR (allR (λx=>gb (some x::tq cap δ)) ds) λks=>if keysOk ks then .ee (ds[bst (λi j=>ltD (ks.getD i .none) (ks.getD j .none)) (ds.length-1)]?) else .no else .no
 |_=>.no
theorem yr{d:PyData}{l:List Int}(e:kU d=some (false,l))(h:Is K H d v):∃n,l=[n]/\v=.int n:=by
 unfold kU at e;split at e
 ·cases e;exact⟨_,rfl,h.ofInt⟩
 ·rename_i ds;cases q:intsOf ds with
  |none=>rw[q]at e;cases e
  |some l=>rw[q]at e;cases e
 ·cases e
theorem mH:∀{ds:List PyData}{l:List Int},intsOf ds=some l->ds=l.map PyData.int
 |[],l,e=>by cases e;rfl
 |d::r,l,e=>by
  cases d <;> first|(cases e;done)|skip
  rename_i a;unfold intsOf at e;cases q:intsOf r with
  |none=>rw[q]at e;cases e
  |some t=>rw[q]at e;cases e;rw[mH q];rfl
theorem uK{d:PyData}{l:List Int}(e:kU d=some (true,l))(h:Is K H d v):∃a,v=.ref a/\H a=some (.tup (l.map V.int)):=by
 unfold kU at e;split at e
 ·cases e
 ·rename_i ds;cases q:intsOf ds with
  |none=>rw[q]at e;cases e
  |some l' =>rw[q]at e;cases e;obtain⟨a,xs,c,f,b⟩:=h.ofTup;rw[mH q]at b;exact⟨a,c,by rw[f,b.ofInts]⟩
 ·cases e
section
theorem CU{ks:List PyData}(O:X.A.in1.units<cLine)(g:keysOk ks=true){x:V}{v:Value}{a b:PyData}(I:Inv X.in1 pins σ H s)
  (ea:ks[i]?=some a) (P:ks[j]?=some b) (E:Is X.K (del H A) a x) (F:Is X.K (del H A) b y) (G:RelV x u) (L:RelV y v) :
  wpAny (model X.prog X.w) X.A.in1 (richCompare .Lt u v) (λr s'=>r=.bool (ltD a b)/\Inv X.in1 pins σ H s') (λ_ _=>False) s:=by
 have J:=I.wish λ_ _=>False
 have M:a∈ks:=MS ea;have N:b∈ks:=MS P;unfold keysOk at g;rcases Bool.or_eq_true_iff.mp g with g|g
 ·have c:=Mu.mp g a M;have f:=Mu.mp g b N;cases ka:kU a with
  |none=>rw[ka]at c;cases c
  |some p=>obtain⟨pa,la⟩:=p;cases pa with
   |true=>rw[ka]at c;cases c
   |false=>cases kb:kU b with
    |none=>rw[kb]at f;cases f
    |some p=>obtain⟨o,l⟩:=p;cases o with
     |true=>rw[kb]at f;cases f
     |false =>
      obtain⟨n,rfl,rfl⟩:=yr ka E;obtain⟨m,rfl,rfl⟩:=yr kb F;have e:ltD a b=decide (n<m):=by
       unfold ltD;rw[ka,kb];show HT.lexLt [n] [m]=_;rw[HT.cN,HT.fD];by_cases z:n=m
       ·subst z;simp
       ·simp[z]
      rw[e];refine thn (DN (X:=X.in1.wish λ_ _=>False) pins s σ H (.int n) (.int m) u v (λr H'=>r=.bl (decide (n<m))/\H'=H) J G L ⟨n,m,rfl,rfl,rfl,rfl⟩) λr s' h=>?_
      obtain⟨Q,H',t,B,C,D⟩:=h;subst C D;exact⟨B,t.unwish⟩
 ·have c:=Mu.mp g a M;have f:=Mu.mp g b N;cases ka:kU a with
  |none=>rw[ka]at c;cases c
  |some p=>obtain⟨pa,la⟩:=p;cases pa with
   |false=>rw[ka]at c;cases c
   |true=>cases kb:kU b with
    |none=>rw[kb]at f;cases f
    |some p=>obtain⟨o,l⟩:=p;cases o with
     |false=>rw[kb]at f;cases f
     |true =>
      obtain⟨p,rfl,R⟩:=uK ka E;obtain⟨q,rfl,S⟩:=uK kb F;have e:ltD a b=HT.lexLt la l:=by unfold ltD;rw[ka,kb]
      rw[e];refine thn (IB (X:=X.in1.wish λ_ _=>False) O pins s σ H (.ref p) (.ref q) u v (λr H'=>r=.bl (HT.lexLt la l)/\H'=H) J G L ⟨p,q,la,l,rfl,rfl,SqT.of (aw _ _ R),SqT.of (aw _ _ S),rfl,rfl⟩) λr s' h=>?_
      obtain⟨Q,H',t,B,C,D⟩:=h;subst C D;exact⟨B,t.unwish⟩
theorem zT{E:XK}{a:Expr}{G p0:Pos}{g:List (Str×Addr)}{P:Addr}{k:Nat}{p:Str}
  (hc:X.calm=true) (hm:X.mg "min"=none) (hr:ck (k+2) X.A) (ha:PD X E a ga) (T:DJ X c P) (U:closureFor scope X.env=pure g) (S:l9 N [p] scope)
  (J:∀x c,g.lookup x=some c->X.env.cells.lookup x=some c) (has:∀x,scope.names.lookup x=some .free->∃c,g.lookup x=some c) (hN:N.length=1+cap.length)
  (L:∀(i m:Nat)(x:Str),N[1+i]?=some x->cap[i]?=some m->X.N[m]?=some x/\scope.names.lookup x=some .free/\(X.env.kindOf x=some .cell\/X.env.kindOf x=some .free)/\Vis X.env.scope x)
  (hb:∀(c':Addr)(pm r u:Value),bindArgs (W.kla_fn "<lambda>" (X.env.qual++"<lambda>") params body scope g pm (.ref c') r) ⟨[u],[]⟩=pure ([p].zip [u]))
  (D:∀(q c':Addr)(s:Shared)(H:Hp),PD (sE (CXW X.prog X.w) X.prog X.w X.K X.mg X.base N (X.env.qual++"<lambda>") scope q (.ref c') g X.A.in1 X.stack s H E0) E0 body gb)
  (hg:Gl X "min":=by rfl) (he:starEach [a] X.env=[(false,eval a X.env)]:=by rfl) (M:defaultsOf params X.env=([],[]):=by rfl) :
  PD X E (.Call (.Name "min" p0) [a] [⟨some "key",.Lambda params body scope G,kp⟩] pos) (iY cap ga gb):=by
 refine (AJ hc hm ha (HY T U M) hg he (λh k=>eD.weak h k) (λh k f c' r H' n e s c=>k _ _ (h f c' r H' n e s c))).imp λσ H Q Y=>?_
 obtain⟨A,δ,R,b⟩:=Y;unfold iY at b;refine eD.run R (λd ed v H1 s1 R1 h1=>?_) (λC Z H' s'=>?_) (λZ=>?_)
 ·rw[ed,Rs.ag]at b;cases d with
  |list ds =>
   by_cases hpos:0<ds.length
   case neg=>simp only[if_neg hpos]at b;exact b.elim
   simp only[if_pos hpos]at b;cases ek:allR (λx=>gb (some x::tq cap δ)) ds with
   |rz _=>rw[ek]at b;exact b.elim
   |no=>rw[ek]at b;exact b.elim
   |ok ks =>
    rw[ek]at b;cases hko:keysOk ks with
    |false=>simp only[okR,hko]at b;exact b.elim
    |true =>
     simp only[okR,hko,if_true]at b;intro f c' r H2 hn hf s2 F;obtain⟨l,xs,rfl,hl,hx⟩:=h1.ofLst;have hlen:=hx.length;obtain⟨hkl,hkg⟩:=vF ek;refine⟨l,f,xs,λH=>av H2 H,λi v H=>∃O,ks[i]?=some O/\Is X.K (del H A) O v,λi j=>ltD (ks.getD i .none) (ks.getD j .none),rfl,rfl,by omega,av.refl _,?_,λH3 v s3 ev=>?_⟩
     ·refine Bb (t:=eD X.K E0 gb) (c':=c') (cap:=cap) S hr J has hN L (hb c' _ r) (λH s=>s _ _ (s2 _ _ (aw _ _ hl))) (λH s=>⟨s _ _ hf,?_⟩) (λs H=>D f c' s H) (λi x H ex s=>?_) (λi j x y pins' H s u v I sΦ hx' hy' rx ry=>?_)
      ·obtain⟨o,vs,t,e1,e2,B⟩:=F;exact⟨o,vs,t,s _ _ e1,e2,B⟩
      ·obtain⟨d,e1,hd⟩:=hx.get ex;obtain⟨O,e2,gk⟩:=hkg i d e1;have R':dH X.K H A δ σ:=R.same (s1.trans (s2.trans s));refine⟨A,some d::tq cap δ,⟨R'.ls,by simp[tq],λn d' e=>?_⟩,?_⟩
       ·cases n with
        |zero =>have e:some (some d)=some (some d'):=e;cases e;exact⟨x,rfl,hd.same (av.del (s2.trans s))⟩
        |succ n =>
         have e:(tq cap δ)[n]?=some (some d'):=by simpa using e
         unfold tq at e;rw[Mc]at e;cases hm':cap[n]? with
         |none=>rw[hm']at e;cases e
         |some m =>
          rw[hm']at e;have B:(δ[m]?).join=some d':=by simpa using e
          have e4:δ[m]?=some (some d'):=by
           cases z:δ[m]? with
           |none=>rw[z]at B;cases B
           |some w=>rw[z]at B;cases w with
            |none=>cases B
            |some w=>cases B;rfl
          obtain⟨v',e5,h5⟩:=R'.get m d' e4;exact⟨v',by simp[hm',e5],h5⟩
       ·have gk':gb (some d::tq cap δ)=.ok O:=gk;rw[gk'];exact λv H' s' q=>⟨s.trans s',⟨O,e2,q⟩,λj v' qz2=>(by obtain⟨kd',B,e4⟩:=qz2;exact⟨kd',B,e4.same s'.del⟩)⟩
      ·obtain⟨ka,e1,h1'⟩:=hx';obtain⟨kb,e2,h2'⟩:=hy';have:=CU (X:=X) (by have:=hr.un;show X.A.units+1<_;omega) hko I e1 e2 h1' h2' rx ry;rw[M9,M9,e1,e2];exact this
     ·rw[hlen]at ev;obtain⟨d,e1,hd⟩:=hx.get ev;rw[e1]at b;exact b v H3 (s1.trans (s2.trans s3)) (hd.same (av.del (s2.trans s3)))
  |_=>exact b.elim
 ·rw[Z]at b;exact b H' s'
 ·rw[Z]at b;exact b
end
section
mutual
theorem Is.off{C dx:Addr}{fs:List (Str×V)}(ha:H a=some (.ins C dx fs)):∀{d:PyData}{v:V},aG d=true->Is K H d v->Is K (del H [a]) d v
 |.none,_,_,h=>by unfold Is at h ⊢;exact h
 |.bool _,_,_,h=>by unfold Is at h ⊢;exact h
 |.int _,_,_,h=>by unfold Is at h ⊢;exact h
 |.str _,_,_,h=>by unfold Is at h ⊢;exact h
 |.dict _,_,n,_=>by unfold aG at n;cases n
 |.list ds,_,n,h=>by unfold aG at n;obtain⟨b,xs,e,h1,h2⟩:=h.ofLst;subst e;exact iP (by rw[aI (λz=>by rw[Mh.mp z,ha]at h1;cases h1)];exact h1) (Iss.off ha n h2)
 |.tuple ds,_,n,h=>by unfold aG at n;obtain⟨b,xs,e,h1,h2⟩:=h.ofTup;subst e;exact ik (by rw[aI (λz=>by rw[Mh.mp z,ha]at h1;cases h1)];exact h1) (Iss.off ha n h2)
theorem Iss.off{C dx:Addr}{fs:List (Str×V)}(ha:H a=some (.ins C dx fs)):∀{ds:List PyData}{vs:List V},df ds=true->Iss K H ds vs->Iss K (del H [a]) ds vs
 |[],_,_,h=>by rw[h.nil_of];exact cR
 |d::ds,_,n,h=>by unfold df at n;obtain⟨n1,n2⟩:=N0.mp n;obtain⟨v,r,e,h1,h2⟩:=h.cons_of;subst e;exact cA (Is.off ha n1 h1) (Iss.off ha n2 h2)
end
noncomputable def kP:List (PyData×PyData)->Bool
 |[]=>true
 |(_,d)::r=>aG d&&kP r
theorem Isk.off{C dx:Addr}{fs:List (Str×V)}(ha:H a=some (.ins C dx fs)):∀{ds:List (PyData×PyData)}{gs:List (Str×V)},kP ds=true->Isk K H ds gs->Isk K (del H [a]) ds gs
 |[],_,_,h=>by unfold Isk at h ⊢;exact h
 |(k,d)::ds,_,n,h=>by unfold kP at n;obtain⟨n1,n2⟩:=N0.mp n;unfold Isk at h ⊢;obtain⟨f,v,r,e1,e2,h1,h2⟩:=h;exact⟨f,v,r,e1,e2,Is.off ha n1 h1,Isk.off ha n2 h2⟩
def jJ:List (PyData×PyData)->Option Int
 |(.str x,.int _)::(.str y,.int b)::r=>if x=""/\y="@"/\kP r then some b else none
 |_=>none
mutual
def objs:PyData->Bool
 |.list ds=>ju ds
 |.tuple ds=>ju ds
 |.dict kvs=>(jJ kvs).isSome
 |_=>true
def ju:List PyData->Bool
 |[]=>true
 |d::ds=>objs d&&ju ds
end
mutual
def fh(a:Addr)(nd:PyData):PyData->PyData
 |.list ds=>.list (jf a nd ds)
 |.tuple ds=>.tuple (jf a nd ds)
 |.dict kvs=>if jJ kvs=some (a:Int) then nd else .dict kvs
 |d=>d
def jf(a:Addr)(nd:PyData):List PyData->List PyData
 |[]=>[]
 |d::ds=>fh a nd d::jf a nd ds
end
end
def kK(a:Addr)(nd:PyData)(δ:Ds):Ds:=δ.map λd=>d.map (fh a nd)
theorem lW{nd:PyData}{d:PyData}(h:(kK a nd δ)[i]?=some (some d)):∃b,δ[i]?=some (some b)/\d=fh a nd b:=by
 unfold kK at h;rw[Mc]at h;cases e:δ[i]? with
 |none=>rw[e]at h;cases h
 |some x=>cases x with
  |none=>rw[e]at h;cases h
  |some b=>rw[e]at h;cases h;exact⟨b,rfl,rfl⟩
theorem wq(h:a∉B):del (upd H a o) B=upd (del H B) a o:=by
 funext b;by_cases z:b=a
 ·subst z;rw[aI h,aH,aH]
 ·rw[aB z];by_cases y:b∈B
  ·rw[gz y,gz y]
  ·rw[aI y,aI y,aB z]
section
theorem iI{fs:List (Str×V)}(e:av (del H [a]) H')(ha:H a=some (.ins C dx fs))(f:H b=some o)(c:b≠a):H' b=some o :=
 e _ _ (by rw[aI (λz=>c (Mh.mp z))];exact f)
mutual
theorem Is.mutH{C dx:Addr}{fs:List (Str×V)}{nd:PyData}(ha:H a=some (.ins C dx fs))(j:av (del H [a]) H')(hn:Is K H' nd (.ref a)):∀{d:PyData}{v:V},objs d=true->Is K H d v->Is K H' (fh a nd d) v
 |.none,_,_,h=>by unfold fh;unfold Is at h ⊢;exact h
 |.bool _,_,_,h=>by unfold fh;unfold Is at h ⊢;exact h
 |.int _,_,_,h=>by unfold fh;unfold Is at h ⊢;exact h
 |.str _,_,_,h=>by unfold fh;unfold Is at h ⊢;exact h
 |.list ds,_,n,h=>by unfold objs at n;obtain⟨b,xs,e,h1,h2⟩:=h.ofLst;subst e;unfold fh;exact iP (iI j ha h1 (λz=>by rw[z,ha]at h1;cases h1)) (Iss.mutH ha j hn n h2)
 |.tuple ds,_,n,h=>by unfold objs at n;obtain⟨b,xs,e,h1,h2⟩:=h.ofTup;subst e;unfold fh;exact ik (iI j ha h1 (λz=>by rw[z,ha]at h1;cases h1)) (Iss.mutH ha j hn n h2)
 |.dict kvs,v,n,h=>by
  unfold objs at n;unfold fh;unfold jJ at n ⊢;split at n
  case h_2=>cases n
  rename_i x G y b r;split at n
  case isFalse=>cases n
  rename_i I;obtain⟨rfl,rfl,B⟩:=I;have J:∃(g:Addr)(o c:Addr)(gs:List (Str×V)),v=.ref g/\b=(g:Int)/\G=(o:Int)/\H g=some (.ins o c gs)/\gs.lookup ("@":Str)=none/\Isk K H r gs:=by
   unfold Is at h;rcases h with (⟨s,ns,_,e,_⟩|⟨s,l,_,e,_⟩)|⟨s,o,c,gs,e,h1,i,h2|h2⟩
   ·cases e
   ·rcases e with⟨m,e,_⟩|⟨m,e,_⟩|⟨m,_,e,_⟩ <;> first|(cases e;done)|(cases m <;> cases e)
   ·unfold Isk at h2;obtain⟨f,u,t,e1,e2,D,p⟩:=h2;cases e1;unfold Isk at p;obtain⟨f,u,t,e1,e2,E,F⟩:=p;injection e2 with e2
    subst e2 e1;rw[MB]at i;simp at i
   ·unfold Isk at h2;obtain⟨f,u,t,e1,e2,D,p⟩:=h2;cases e1;have w:=D.ofInt;injection w with w
    unfold Isk at p;obtain⟨f,u,t,e1,e2,E,F⟩:=p;cases e1;have A:=E.ofInt;injection A with A
    exact⟨s,o,c,gs,e,A.symm,w.symm,h1,i,F⟩
  obtain⟨g,o,c,gs,rfl,rfl,rfl,h1,hl,h2⟩:=J;simp only[B,and_self,if_true];by_cases z:g=a
  ·subst z;rw[if_pos rfl];exact hn
  ·have zz:¬ (some (g:Int)=some (a:Int)):=λq=>z (Int.ofNat.inj (Option.some.inj q))
   rw[if_neg zz];unfold Is;refine .inr ⟨g,o,c,gs,rfl,iI j ha h1 z,hl,.inr (eI bJ (eI bJ ?_))⟩;exact (Isk.off ha B h2).same j
theorem Iss.mutH{C dx:Addr}{fs:List (Str×V)}{nd:PyData}(ha:H a=some (.ins C dx fs))(b:av (del H [a]) H')(hn:Is K H' nd (.ref a)):∀{ds:List PyData}{vs:List V},ju ds=true->Iss K H ds vs->Iss K H' (jf a nd ds) vs
 |[],_,_,h=>by rw[h.nil_of];unfold jf;exact cR
 |d::ds,_,n,h=>by unfold ju at n;obtain⟨n1,n2⟩:=N0.mp n;obtain⟨v,r,e,h1,h2⟩:=h.cons_of;subst e;unfold jf;exact cA (Is.mutH ha b hn n1 h1) (Iss.mutH ha b hn n2 h2)
end
theorem Eo:av (del H [a]) H'->av (del (del H B) [a]) (del H' B):=λc b o e=>by obtain⟨e1,e2⟩:=a9 e;obtain⟨f,g⟩:=a9 e2;rw[aI f];exact c b o (by rw[aI e1];exact g)
theorem bK.mutH{fs:List (Str×V)}{nd:PyData}(R:bK K H0 A0 H A O δ σ)
  (ha:H a=some (.ins C dx fs)) (s:H0 a=none) (n:∀(i:Nat) d,δ[i]?=some (some d)->objs d=true) (l:av (del H [a]) H') (hn:Is K (del H' (A++A0)) nd (.ref a)):bK K H0 A0 H' A O (kK a nd δ) σ:=by
 have o:Ls H A0:=R.ls0.same R.same;have na:a∉A++A0:=λz=>by
  rcases Mx.mp z with z|z
  ·obtain⟨xs,e,q⟩:=R.ls a z;rw[ha]at e;cases e;cases q
  ·obtain⟨xs,e,q⟩:=o a z;rw[ha]at e;cases e;cases q
 have hd:del H (A++A0) a=some (.ins C dx fs):=by rw[aI na];exact ha
 have g:av (del (del H (A++A0)) [a]) (del H' (A++A0)):=Eo l;refine⟨λb u e=>?_,R.ls0,R.new,λb p=>?_,?_,λi d hi e=>?_,λi d hi e=>?_,λi j d e b hi t e1 e2 w x=>?_⟩
 ·exact iI l ha (R.same b u e) (λz=>by rw[z,s]at e;cases e)
 ·obtain⟨xs,e,q⟩:=R.ls b p;exact⟨xs,iI l ha e (λz=>by rw[z,ha]at e;cases e;cases q),q⟩
 ·unfold kK;rw[M4];exact R.len
 ·obtain⟨c,f,rfl⟩:=lW e;obtain⟨v,e1,h1⟩:=R.pl i c hi f;exact⟨v,e1,Is.mutH hd g hn (n i c f) h1⟩
 ·obtain⟨c,f,rfl⟩:=lW e;obtain⟨b,o',d1,e1,p,r,rfl,h1⟩:=R.own i c hi f;have h:=n i _ f;obtain⟨ds,xs,rfl,rfl⟩:∃ds xs,c=.list ds/\o'=.lst xs:=by
   unfold gY at h1;split at h1
   ·exact⟨_,_,rfl,rfl⟩
   ·exfalso;rcases h1 with⟨m,rfl,_⟩|⟨m,rfl,_⟩|⟨m,_,rfl,_⟩ <;> unfold objs jJ at h <;> cases m <;> simp at h
   ·exact h1.elim
  have h1:Iss K _ ds xs:=h1;have:=n i _ f;unfold objs at this;exact⟨b,.lst xs,.list (jf a nd ds),e1,p,iI l ha r (λz=>by rw[z,ha]at r;cases r),by unfold fh;rfl,Iss.mutH hd g hn this h1⟩
 ·obtain⟨c,y,_⟩:=lW e1;obtain⟨d1,B,_⟩:=lW e2;exact R.inj i j c d1 b hi t y B w x
end
def sDN(as:List Addr)(K:W.Frag)(E:XK)(O:List Nat)(G:Ds->Sr):TS:=λD σ H=>∃H0 A0 A δ,(∀a∈as,H0 a=none)/\bK K H0 A0 H A O δ σ/\lu K E H0 A0 O (G δ) D
def PSN(as:List Addr)(X:Cx)(E:XK)(O:List Nat)(s:Stmt)(G:Ds->Sr):Prop:=PS X s (sDN as X.K E O G)
def PBN(as:List Addr)(X:Cx)(E:XK)(O:List Nat)(ss:List Stmt)(G:Ds->Sr):Prop:=PSs X ss (sDN as X.K E O G)
section
variable {E:XK}{G G':Ds->Sr}{c:Expr}{ca:Ds->Rs Bool}
theorem HI(h:PSD X E O st G):PSN as X E O st G:=h.imp λD σ H a=>(by obtain⟨H0,A0,A,δ,_,R,o⟩:=a;exact⟨H0,A0,A,δ,R,o⟩)
theorem HH(h:PBD X E O ss G):PBN as X E O ss G:=h.imp λD σ H a=>(by obtain⟨H0,A0,A,δ,_,R,o⟩:=a;exact⟨H0,A0,A,δ,R,o⟩)
theorem EB:PBN as X E O [] aX:=HH oj
theorem uT(h1:PSN as X E O st G)(h2:PBN as X E O ss G'):PBN as X E O (st::ss) (az G G'):=(dq h1 h2).imp λD σ H ⟨H0,A0,A,δ,hn,R,o⟩=>⟨H0,A0,A,δ,hn,R,by
 unfold az at o;cases q:G δ with
 |nx δ'=>rw[q]at o;exact λa σ' H' b=>⟨H0,A0,a,δ',hn,b,o⟩
 |rt d=>rw[q]at o;exact o
 |rz C=>rw[q]at o;exact o
 |bk d=>rw[q]at o;exact o
 |ct d=>rw[q]at o;exact o
 |no=>rw[q]at o;exact o⟩
theorem yD(h1:PSN as X E O st G):PBN as X E O [st] G:=(i5 h1).imp λD σ H h=>h
theorem Ht{a:List Stmt}(hc:PCD X E c ca)(h1:PBN as X E O ss G)(h2:PBN as X E O a G'):PSN as X E O (.If c ss a pos) (sIf ca G G'):=(yK hc h1 h2).imp λD σ H e=>by
 obtain⟨H0,A0,A,δ,hn,R,o⟩:=e;unfold sIf at o;refine cD.run R.full (λt b H1 f R1=>?_) (λC b H' s'=>?_) (λb=>?_)
 ·rw[b]at o;cases t with
  |true=>exact⟨H0,A0,A,δ,hn,R.step f,o⟩
  |false=>exact⟨H0,A0,A,δ,hn,R.step f,o⟩
 ·rw[b]at o;exact o H' (R.same.trans s')
 ·rw[b]at o;exact o
theorem z0(fuel:Nat)(j:PassesOwn (model X.prog X.w) X.A X.env X.xe)(hc:PCD X E c ca)(l:PBN as X E O ss G):PSN as X E O (.While c ss [] pos) (λδ=>bF ca G fuel δ):=(wz j hc l).imp λD σ H e=>by
 obtain⟨H0,A0,A,δ,hn,R,o⟩:=e;refine⟨λm σ H=>∃A δ,bK X.K H0 A0 H A O δ σ/\lu X.K E H0 A0 O (bF ca G m δ) D,⟨fuel,A,δ,R,o⟩,?_⟩
 rintro m σ H ⟨A,δ,R,o⟩
 cases m with
 |zero=>exact o.elim
 |succ m =>
  unfold bF at o;refine cD.run R.full (λt a H1 i R1=>?_) (λC a H' s'=>?_) (λa=>?_)
  ·rw[a]at o;cases t with
   |false=>exact o A σ H1 (R.step i)
   |true =>
    refine⟨λb H'=>∃A δ,bK X.K H0 A0 H' A O δ b/\lu X.K E H0 A0 O (bF ca G m δ) D,λb H' q=>⟨m,Nk m,q⟩,H0,A0,A,δ,hn,R.step i,?_⟩;have o:lu X.K E H0 A0 O (match G δ with
     |.nx δ2=>bF ca G m δ2
     |.ct δ2=>bF ca G m δ2
     |.bk δ2=>.nx δ2
     |.rt v=>.rt v
     |.rz C=>.rz C
     |.no=>.no) D:=o
    cases eb:G δ with
    |nx δ2=>rw[eb]at o;exact λf g n h=>⟨f,δ2,h,o⟩
    |ct δ2=>rw[eb]at o;exact λf g n h=>⟨f,δ2,h,o⟩
    |bk δ2=>rw[eb]at o;exact o
    |rt v=>rw[eb]at o;exact o
    |rz C=>rw[eb]at o;exact o
    |no=>rw[eb]at o;exact o.elim
  ·rw[a]at o;exact o H' (R.same.trans s')
  ·rw[a]at o;exact o
end
def kS:List (PyData×PyData)->Option (List (Str×PyData))
 |[]=>some []
 |(.str f,d)::r=>(kS r).map λl=>(f,d)::l
 |_=>none
theorem sy:∀{r:List (PyData×PyData)}{fds:List (Str×PyData)},kS r=some fds->r=fds.map λp=>(.str p.1,p.2)
 |[],fds,e=>by cases e;rfl
 |(k,d)::r,fds,e=>by
  cases k <;> first|(cases e;done)|skip
  rename_i f;unfold kS at e;cases q:kS r with
  |none=>rw[q]at e;cases e
  |some l=>rw[q]at e;cases e;rw[sy q];rfl
theorem oW:∀fds:List (Str×PyData),kS (fds.map λp=>(.str p.1,p.2))=some fds
 |[]=>rfl
 |p::r=>by rw[M5];unfold kS;rw[oW r];rfl
def objOf:PyData->Option (Addr×Addr×List (Str×PyData))
 |.dict ((.str x,.int c)::(.str y,.int b)::r)=>if x=""/\y="@"/\0<=c/\0<=b then (kS r).map λl=>(c.toNat,b.toNat,l) else none
 |_=>none
theorem DU{d:PyData}{fds:List (Str×PyData)}(e:objOf d=some (C,a,fds)):d=cm C a fds:=by
 unfold objOf at e;split at e
 ·rename_i x c y b r;split at e
  ·rename_i h;obtain⟨rfl,rfl,f,h1⟩:=h;obtain⟨l,q,e⟩:=N1.mp e;cases e;rw[sy q];unfold cm;rw[Nt f,Nt h1]
  ·cases e
 ·cases e
theorem rA(C a:Addr)(fds:List (Str×PyData)):objOf (cm C a fds)=some (C,a,fds):=by unfold cm objOf;simp only[Nz,and_self,if_true,oW,MN,ME]
def nJ(f:Str):List (Str×PyData)->Option PyData
 |[]=>none
 |(g,d)::r=>if g=f then some d else nJ f r
def p8(f:Str)(v:PyData):List (Str×PyData)->List (Str×PyData)
 |[]=>[(f,v)]
 |(g,x)::r=>if g=f then (g,v)::r else (g,x)::p8 f v r
theorem Isk.put{K:W.Frag}{H:Hp}{f:Str}{d:PyData}{v:V}(hv:Is K H d v):∀{fds:List (Str×PyData)}{gs:List (Str×V)},Isk K H (fds.map λp=>(.str p.1,p.2)) gs->Isk K H ((p8 f d fds).map λp=>(.str p.1,p.2)) (ij f v gs)
 |[],gs,h=>by rw[Nc]at h;unfold Isk at h;subst h;exact eI hv n8
 |(g,x)::r,gs,h=>by
  rw[M5]at h;unfold Isk at h;obtain⟨g',u,a,rfl,e,h1,h2⟩:=h;injection e with e
  subst e;show Isk K H ((if g=f then (g,d)::r else (g,x)::p8 f d r).map _) (if g=f then (g,v)::a else (g,u)::ij f v a);by_cases z:g=f
  ·rw[if_pos z,if_pos z];exact eI hv h2
  ·rw[if_neg z,if_neg z];exact eI h1 (Isk.put hv h2)
theorem Isk.look{K:W.Frag}{H:Hp}{f:Str}{d:PyData}:∀{fds:List (Str×PyData)}{gs:List (Str×V)},Isk K H (fds.map λp=>(.str p.1,p.2)) gs->nJ f fds=some d->∃v,gs.lookup f=some v/\Is K H d v
 |[],gs,h,e=>by cases e
 |(g,x)::r,gs,h,e=>by
  rw[M5]at h;unfold Isk at h;obtain⟨g',u,gs',rfl,e2,h1,h2⟩:=h;injection e2 with e2
  subst e2;unfold nJ at e;rw[MB];by_cases z:g=f
  ·rw[if_pos z]at e;cases e;subst z;simp only[beq_self_eq_true];exact⟨u,rfl,h1⟩
  ·rw[if_neg z]at e;rw[show (f==g)=false by simpa using λq=>z q.symm];exact Isk.look h2 e
theorem Isk.len{K:W.Frag}{H:Hp}:∀{fds:List (PyData×PyData)}{gs:List (Str×V)},Isk K H fds gs->gs.length=fds.length
 |[],_,h=>by unfold Isk at h;rw[h];rfl
 |(k,d)::r,_,h=>by unfold Isk at h;obtain⟨_,_,_,rfl,_,_,h2⟩:=h;rw[Mp,Mp,Isk.len h2]
theorem Is.atObj{fds:List (Str×PyData)}(h:Is K H (cm C a fds) v):v=.ref a/\∃dx gs,H a=some (.ins C dx gs)/\gs.lookup ("@":Str)=none/\Isk K H (fds.map λp=>(.str p.1,p.2)) gs:=by
 unfold cm at h;unfold Is at h;rcases h with (⟨g,ns,_,e,_⟩|⟨g,l,_,e,_⟩)|⟨g,t,i,gs,e,h1,b,h2|h2⟩
 ·cases e
 ·rcases e with⟨m,e,_⟩|⟨m,e,_⟩|⟨m,_,e,_⟩ <;> first|(cases e;done)|(cases m <;> cases e)
 ·unfold Isk at h2;obtain⟨f,u,j,e1,e2,q,c⟩:=h2;cases e1;unfold Isk at c;obtain⟨f,u,j,e1,e2,r,s⟩:=c;injection e2 with e2
  subst e2 e1;rw[MB]at b;simp at b
 ·unfold Isk at h2;obtain⟨f,u,j,e1,e2,q,c⟩:=h2;cases e1;have n:=q.ofInt;injection n with n
  obtain rfl:t=C:=Int.ofNat.inj n;unfold Isk at c;obtain⟨f,u,j,e1,e2,r,s⟩:=c;cases e1;have o:=r.ofInt;injection o with o
  obtain rfl:g=a:=Int.ofNat.inj o;exact⟨e,i,gs,h1,b,s⟩
def fZ(fds:List (Str×PyData)):Bool:=kP (fds.map λp=>(.str p.1,p.2))
theorem wA(C a:Addr)(fds:List (Str×PyData)):objs (cm C a fds)=fZ fds:=by unfold cm objs jJ fZ;cases h:kP (fds.map λp=>(PyData.str p.1,p.2)) <;> simp[h]
def f7(δ:Ds):Bool:=δ.all λo=>match o with|some d=>objs d|none=>true
theorem jo(h:f7 δ=true)(i:Nat)(d:PyData)(e:δ[i]?=some (some d)):objs d=true:=by have:=Mu.mp h _ (MS e);exact this
theorem Df{fds:List (Str×PyData)}{gs:List (Str×V)}{f:Str}{z:Int}(hB:a∉B)(ha:H a=some (.ins C dx gs))(hl:gs.lookup ("@":Str)=none)(c:f≠"@")(g:fZ fds=true)(h:Isk K (del H B) (fds.map λp=>(.str p.1,p.2)) gs) :
  Is K (del (upd H a (.ins C dx (ij f (.int z) gs))) B) (cm C a (p8 f (.int z) fds)) (.ref a):=by
 rw[wq hB];refine CK (dx:=dx) (fs:=ij f (.int z) gs) (aH) (by rw[jW,if_neg (λq=>c q.symm)];exact hl) (Isk.put bJ ?_);have hd:del H B a=some (.ins C dx gs):=by rw[aI hB];exact ha
 refine (Isk.off hd g h).same λb o e=>?_
 obtain⟨e1,e2⟩:=a9 e;rw[aB (λq=>e1 (by rw[q];exact Mh.mpr rfl))];exact e2
theorem wj:av (del H [a]) (upd H a o):=λb u e=>by obtain⟨e1,e2⟩:=a9 e;rw[aB (λq=>e1 (by rw[q];exact Mh.mpr rfl))];exact e2
def ng(as:List Addr)(C:Addr)(i:Nat)(δ:Ds):Option (Addr×List (Str×PyData)):=match δ[i]? with
 |some (some d)=>(match objOf d with
  |some (C',a,fds)=>if C'=C/\a∈as/\f7 δ=true/\fZ fds=true/\fds.length<1000 then some (a,fds) else none
  |none=>none)
 |_=>none
theorem ml{fds:List (Str×PyData)}(h:ng as C i δ=some (a,fds)):δ[i]?=some (some (cm C a fds))/\a∈as/\f7 δ=true/\fZ fds=true/\fds.length<1000:=by
 unfold ng at h;split at h
 ·rename_i d e;split at h
  ·rename_i C' a' fds' q;split at h
   ·rename_i c;cases h;obtain⟨rfl,c1,b,f,g⟩:=c;rw[e,DU q];exact⟨rfl,c1,b,f,g⟩
   ·cases h
  ·cases h
 ·cases h
def lN(as:List Addr)(C:Addr)(i:Nat)(f:Str)(g:Ds->Rs PyData):Ds->Sr:=λδ=>match ng as C i δ with
 |some (a,fds)=>ofR (g δ) λd=>match d with
  |.int z=>.nx (kK a (cm C a (p8 f (.int z) fds)) δ)
  |_=>.no
 |none=>.no
def eK(as:List Addr)(C:Addr)(i:Nat)(f:Str)(g:Ds->Rs PyData):Ds->Sr:=λδ=>match ng as C i δ with
 |some (a,fds)=>(match nJ f fds with
  |some (.int n)=>ofR (g δ) λd=>match d with
   |.int z=>.nx (kK a (cm C a (p8 f (.int (n+z)) fds)) δ)
   |_=>.no
  |_=>.no)
 |none=>.no
section
variable {E:XK}{o value:Expr}{tpos:Pos}{f:Str}
theorem Fg(I:PD X E o (ae i))(hv:PD X E value g)(cl:Cls X.K C)(na:fm X.K C f)(hi:i∉O)(J:f≠"@")(L:swapsWith value (some (.Attribute o f pos')) pos.line X.env=pure false):PSN as X E O (.Assign [.Attribute o f pos'] value pos) (lN as C i f g):=(jE I hv L).imp λD σ H s=>by
 obtain⟨H0,A0,A,δ,hn,R,b⟩:=s;unfold lN at b;split at b
 case h_2=>exact b.elim
 rename_i a fds q;obtain⟨e,ha,t,u,w⟩:=ml q;refine eD.run R.full (λd M v H1 G R1 hv=>?_) (λC c H' s'=>?_) (λc=>?_)
 ·rw[M]at b;cases d with
  |int z =>
   have x:=hv.ofInt;subst x;have e2:ae i δ=.ok (cm C a fds):=by unfold ae;rw[e]
   refine eD.run (R.step G).full (λd2 j v2 H2 s2 R2 y=>?_) (λC c H' s'=>?_) (λc=>?_)
   ·rw[e2]at j;cases j;obtain⟨rfl,dx,gs,hp,hl,hk⟩:=y.atObj;have l:=R.step (G.trans s2);obtain⟨v3,e3,N⟩:=l.pl i _ hi e;obtain⟨rfl,m,n,p,B,r⟩:=N.atObj;have h:H2 a=some (.ins C m n):=(a9 p).2;have F:a∉A++A0:=(a9 p).1;refine⟨a,C,m,n,rfl,h,cl,na,by rw[r.len,M4];exact w,?_⟩;exact b A σ _ (l.mutH h (hn a ha) (jo t) wj (Df F h B J u r))
   ·rw[e2]at c;cases c
   ·rw[e2]at c;cases c
  |_=>exact b.elim
 ·rw[c]at b;exact b H' (R.same.trans s')
 ·rw[c]at b;exact b
theorem xM(P:PD X E o (ae i))(hv:PD X E value g)(cl:Cls X.K C)(na:fm X.K C f)(hi:i∉O)(Q:f≠"@"):PSN as X E O (.AugAssign (.Attribute o f tpos) .Add value pos) (eK as C i f g):=(zL P hv Hj).imp λD σ H t=>by
 obtain⟨H0,A0,A,δ,hn,R,b⟩:=t;unfold eK at b;split at b
 case h_2=>exact b.elim
 rename_i a fds q;obtain⟨e,ha,u,x,y⟩:=ml q;split at b
 case h_2=>exact b.elim
 rename_i n B;have e2:ae i δ=.ok (cm C a fds):=by unfold ae;rw[e]
 refine eD.run R.full (λd2 j v2 H1 F R1 G=>?_) (λC c H' s'=>?_) (λc=>?_)
 ·rw[e2]at j;cases j;obtain⟨rfl,dx,gs,S,hl,T⟩:=G.atObj;obtain⟨v,U,I⟩:=T.look B;have J:=I.ofInt;subst J;refine⟨a,C,dx,gs,.int n,rfl,(a9 S).2,cl,na,U,?_⟩;refine eD.run (R.step F).full (λd W w H2 s2 R2 hw=>?_) (λC c H' s'=>?_) (λc=>?_)
  ·rw[W]at b;cases d with
   |int z =>have L:=hw.ofInt;subst L;refine⟨n,z,rfl,rfl,?_⟩;have l:=R.step (F.trans s2);obtain⟨v3,e3,Y⟩:=l.pl i _ hi e;obtain⟨rfl,m,p,r,M,s⟩:=Y.atObj;have h:H2 a=some (.ins C m p):=(a9 r).2;have N:a∉A++A0:=(a9 r).1;refine⟨m,p,h,by rw[s.len,M4];exact y,?_⟩;exact b A σ _ (l.mutH h (hn a ha) (jo u) wj (Df N h M Q x s))
   |_=>exact b.elim
  ·rw[c]at b;exact b H' (R.same.trans (F.trans s'))
  ·rw[c]at b;exact b
 ·rw[e2]at c;cases c
 ·rw[e2]at c;cases c
end
def spM(K:W.Frag)(C:Addr)(g:List (Str×PyData)->Option (List (Str×PyData))):Sp:=λvs H Q E=>∃A a fds b,vs=[.ref a]/\Ls H A/\Is K (del H A) (cm C a fds) (.ref a)/\fZ fds=true/\fds.length<1000/\g fds=some b /\
 ∀H',av (del H [a]) H'->Is K (del H' A) (cm C a b) (.ref a)->Q .non H'
structure jq(P:Program)(w:World)(K:W.Frag)(mg:Str->Option Value)(base:Heap)(k:Nat)(C:Addr)(m:Str)(g:List (Str×PyData)->Option (List (Str×PyData))):Prop where
 ex:∃f fd ps,Cls K C/\Meth K C m f/\gm P w K mg base (CXW P w) k f fd ps (spM K C g)/\Binds K fd ps []
theorem pN{K:W.Frag}{H:Hp}{f:Str}:∀{fds:List (Str×PyData)}{gs:List (Str×V)},Isk K H (fds.map λp=>(.str p.1,p.2)) gs->nJ f fds=none->gs.lookup f=none
 |[],gs,h,_=>by rw[Nc]at h;unfold Isk at h;rw[h];rfl
 |(g,x)::r,gs,h,e=>by
  rw[M5]at h;unfold Isk at h;obtain⟨g',u,gs',rfl,e2,h1,h2⟩:=h;injection e2 with e2
  subst e2;unfold nJ at e;rw[MB];by_cases z:g=f
  ·rw[if_pos z]at e;cases e
  ·rw[if_neg z]at e;rw[show (f==g)=false by simpa using λq=>z q.symm];exact pN h2 e
def kN(as:List Addr)(C:Addr)(m:Str)(i:Nat)(g:List (Str×PyData)->Option (List (Str×PyData))):Ds->Sr:=λδ=>match ng as C i δ with
 |some (a,fds)=>if nJ m fds=none then (match g fds with
  |some fds'=>.nx (kK a (cm C a fds') δ)
  |none=>.no) else .no
 |none=>.no
section
variable {E:XK}{o:Expr}{apos:Pos}{g:List (Str×PyData)->Option (List (Str×PyData))}
theorem DA{k:Nat}{pl:Sem Bool}(D:jq X.prog X.w X.K X.mg X.base k C m g)(G:ck j X.A)(I:Passes (CXW X.prog X.w) X E)(J:PD X E o (ae i))(p:k<=j)(hi:i∉O)
  (L:eval (.Call (.Attribute o m apos) [] [] pos) X.env=(do
   let ov <-eval o X.env
   standAt apos.atName
   let (f,first) <-holding [ov] (getMethod ov m pl)
   callWith pos f first (backTo pos (starEach [] X.env)) (backToKw pos (keywordEach [] X.env))))
  (M:swapsWith (.Call (.Attribute o m apos) [] [] pos) none spos.line X.env=pure false) :
  PSN as X E O (.Expr (.Call (.Attribute o m apos) [] [] pos) spos) (kN as C m i g):=by
 obtain⟨f,fd,ps,cl,hm,F,N⟩:=D.ex;refine (lH (vZ J cl hm F (G.mono p) N .nil I L) M).imp λD σ H r=>?_
 obtain⟨H0,A0,A,δ,hn,R,b⟩:=r;unfold kN at b;split at b
 case h_2=>exact b.elim
 rename_i a fds q;obtain⟨e,ha,s,t,u⟩:=ml q;split at b
 case isFalse=>exact b.elim
 rename_i v;split at b
 case h_2=>exact b.elim
 rename_i h P;have e2:ae i δ=.ok (cm C a fds):=by unfold ae;rw[e]
 refine eD.run R.full (λd2 l v2 H1 Q R1 x=>?_) (λC n H' s'=>?_) (λn=>?_)
 ·rw[e2]at l;cases l;obtain⟨rfl,dx,gs,S,hl,p⟩:=x.atObj;have c:=R.step Q;obtain⟨v3,e3,B⟩:=c.pl i _ hi e;obtain⟨rfl,dx',gs',y,hl',hk'⟩:=B.atObj;refine⟨a,dx,gs,rfl,(a9 S).2,pN p v,?_⟩;refine⟨A++A0,a,fds,h,rfl,c.lsA,B,t,u,P,λH' T z=>?_⟩;exact b A σ H' (c.mutH (a9 y).2 (hn a ha) (jo s) T z)
 ·rw[e2]at n;cases n
 ·rw[e2]at n;cases n
end
theorem jq.of{p:Str}{k:Nat}{g:List (Str×PyData)->Option (List (Str×PyData))}(F:Fun K m qual st f fd)(S:cT N [p] (aC st))(b:Binds K fd [p] [])(cl:Cls K C)(hm:Meth K C m f)
  (body:∀(as:List Addr)(cdv:Value)(A:Around)(outer:List Env)(s:Shared)(H:Hp)(E:XK),ck k (A.deeper (envOfC qual (aC st) s.heap.objs.size f cdv))->PBN as (cZ (CXW P w) P w K mg base N qual (aC st) f cdv A outer s H E) E [] (b0 st) (G as))
  (J:∀a fds c,fZ fds=true->fds.length<1000->g fds=some c->∃δ,G [a] (some (cm C a fds)::List.replicate (N.length-1) none)=.nx δ/\δ[0]?=some (some (cm C a c))):jq P w K mg base (k+1) C m g:=by
 refine⟨f,fd,[p],cl,hm,oz F S (λvs H Q E h=>?_) (λcdv A outer s H vs Q E L h=>?_),b⟩
 ·obtain⟨A,a,fds,c,rfl,_⟩:=h;rfl
 ·obtain⟨A0,a,fds,c,rfl,D,hi,n,r,t,o⟩:=h;obtain⟨_,dx,gs,M,hl,hk⟩:=hi.atObj;have ha:=a9 M;obtain⟨δ,e1,e2⟩:=J a fds c n r t;have l:bK K H A0 H [] [] (some (cm C a fds)::List.replicate (N.length-1) none) (L2.start N [.ref a]):=bK.start (ps:=[p]) (ds:=[cm C a fds]) D (cA hi cR) rfl (λi h=>by cases h);have x:Ls (del H [a]) A0:=λb j=>by
   obtain⟨xs,e,q⟩:=D b j;exact⟨xs,by
    have y:b∉[a]:=λz=>ha.1 (by rw[<-Mh.mp z];exact j)
    rw[aI y];exact e,q⟩
  refine⟨_,body [a] cdv A outer s H E L,del H [a],A0,[],_,λb j=>by rw[Mh.mp j];exact gz (Mh.mpr rfl),⟨aw,x,λb j=>(Mt j).elim,l.ls,l.len,l.pl,l.own,l.inj⟩,?_⟩;rw[e1];intro A' σ' H' I;refine o H' I.same ?_;obtain⟨v,_,h2⟩:=I.pl 0 _ (by simp) e2;have B:=h2.same (H':=del H' A0) (λb u e=>by obtain⟨O,R⟩:=a9 e;rw[aI (λz=>O (Md _ z))];exact R)
  rw[B.atObj.1]at B;exact B
def L4(C:Addr)(names:List Str)(tl:List (Str×Int)):Sp:=λvs H Q _=>∃(x dx:Addr)(args:List V),vs=.ref x::args/\args.length=names.length/\H x=some (.ins C dx []) /\
 ∀H':Hp,(∀b,b≠x->H' b=H b)->H' x=some (.ins C dx (names.zip args++tl.map λp=>(p.1,.int p.2)))->Q .non H'
structure MkD(P:Program)(w:World)(K:W.Frag)(mg:Str->Option Value)(base:Heap)(k:Nat)(x:Str)(C:Addr)(names:List Str)(tl:List (Str×Int)):Prop where
 ex:∃f fd ps,Mk K C f/\gm P w K mg base (CXW P w) k f fd ps (L4 C names tl)/\Binds K fd ps []/\mg x=some (.ref C)
def tlD(tl:List (Str×Int)):List (Str×PyData):=tl.map λp=>(p.1,.int p.2)
theorem Bv{K:W.Frag}{H:Hp}:∀tl:List (Str×Int),Isk K H ((tlD tl).map λp=>(.str p.1,p.2)) (tl.map λp=>(p.1,.int p.2))
 |[]=>n8
 |p::r=>eI bJ (Bv r)
theorem yw{K:W.Frag}{H:Hp}{e:List (PyData×PyData)}{gs:List (Str×V)}(h2:Isk K H e gs):∀{d:List (PyData×PyData)}{fs:List (Str×V)},Isk K H d fs->Isk K H (d++e) (fs++gs)
 |[],fs,h=>by unfold Isk at h;subst h;exact h2
 |(k,x)::r,fs,h=>by unfold Isk at h;obtain⟨f,v,fs',rfl,rfl,h1,a⟩:=h;exact eI h1 (yw h2 a)
theorem qa{f:Str}{b:List (Str×V)}(c:b.lookup f=none):∀{a:List (Str×V)},a.lookup f=none->(a++b).lookup f=none
 |[],_=>c
 |(g,x)::r,h=>by
  rw[MO,MB];rw[MB]at h;cases q:(f==g) with
  |true=>rw[q]at h;cases h
  |false=>rw[q]at h;exact qa c h
theorem Hc{f:Str}:∀{tl:List (Str×Int)},(f∉tl.map (·.1))->(tl.map λp=>((p.1,V.int p.2):Str×V)).lookup f=none
 |[],_=>rfl
 |p::r,h=>by rw[M5,MB,show (f==p.1)=false by simpa using λq=>h (by rw[q];exact M7)];exact Hc λq=>h (M6 _ q)
def eMk(K:W.Frag)(E:XK)(C:Addr)(names:List Str)(tl:List (Str×Int))(gs:Ds->Rs (List PyData)):TE:=λσ H Q=>∃A δ,dH K H A δ σ/\(match gs δ with
 |.ok ds=>ds.length=names.length/\∀x H',H x=none->av H H'->Is K (del H' A) (cm C x (names.zip ds++tlD tl)) (.ref x)->Q (.ref x) H'
 |.rz C'=>∀H',av H H'->E (.ref C') none H'
 |.no=>False)
section
variable {E:XK}{es:List Expr}
theorem Le{k:Nat}(D:MkD X.prog X.w X.K X.mg X.base k x C names tl)(s:ck j X.A)(t:Passes (CXW X.prog X.w) X E)(ha:PAD X E (e::es) gs)(u:k+1<=j:=by decide)(v:Gl X x:=by rfl)
  (a:(x==("__debug__":Str))=false:=by decide) (y:starEach (e::es) X.env=(false,eval e X.env)::starEach es X.env:=by rfl) (c:(backTo pos (starEach es X.env)).any (·.1)=false:=by rfl) (hn:("@":Str)∉names:=by decide) (g:("@":Str)∉tl.map (·.1):=by decide) :
  PE X (.Call (.Name x p) (e::es) [] pos) (eMk X.K E C names tl gs):=by
 obtain⟨f,fd,ps,M,F,z,hm⟩:=D.ex;refine (GJ M F (s.mono u) v hm z .nil t ha.1 a y c).imp λσ H Q h=>?_
 obtain⟨A,δ,R,o⟩:=h;refine aD.run R (λds e1 vs H1 n B h1=>?_) (λC i H' s'=>?_) (λi=>?_)
 ·rw[e1]at o;obtain⟨hl,o⟩:=o;intro x dx nx l ne;refine⟨x,dx,vs++[],rfl,by rw[N3,h1.length,hl],aH,λH' k1 k2=>⟨rfl,?_⟩⟩;rw[N3]at k2;have r:av H1 H':=λb q m=>by have n1:b≠x:=aK m nx;rw[k1 b n1,aB n1,aB (aK m l)];exact m
  refine o x H' (n.free nx) (n.trans r) (CK (dx:=dx) (fs:=names.zip vs++tl.map λp=>(p.1,.int p.2)) ?_ (qa (Hc g) (Cr hn)) ?_)
  ·rw[aI (B.ls.new nx)];exact k2
  ·rw[N4];exact yw (Bv tl) (zJ (h1.same r.del))
 ·rw[i]at o;exact o H' s'
 ·rw[i]at o;exact o
end
def kz(C:Addr)(names:List Str)(tl:List (Str×Int))(as:List Addr)(a:List (List PyData)):List PyData:=(as.zip a).map λp=>cm C p.1 (names.zip p.2++tlD tl)
def lJ(K:W.Frag)(E:XK)(C:Addr)(names:List Str)(tl:List (Str×Int))(n0:Nat)(e gs:Ds->Rs (List PyData))(tgt:PyData->Option Ds):TE:=λσ H Q=>∃A δ,dH K H A δ σ/\δ.length=n0/\∃ds b,e δ=.ok ds/\ds.length<=1000000/\b.length=ds.length /\
 (∀(i:Nat) d,ds[i]?=some d->∃c fs,tgt d=some c/\b[i]?=some fs/\gs (δ++c)=.ok fs/\fs.length=names.length) /\
 ∀(as:List Addr)(D:Addr)(H':Hp),as.length=ds.length->as.Nodup->(∀a∈as,H a=none)->av H H'->Is K (del H' A) (.list (kz C names tl as b)) (.ref D)->Q (.ref D) H'
theorem Jd{E:XK}{g:TG}(hT:TgD K n0 own.length tgt g) :
  ∀σ H Q,lJ K E C names tl n0 gi gs tgt σ H Q->tLC own.length (iD K E gi) g uU (eMk K E0 C names tl gs) σ H Q:=by
 intro σ H Q ⟨A,δ,R,X,ds,j,q,hz,Y,Z,o⟩;have hσ:σ.length=n0:=by rw[<-R.len];exact X
 refine⟨A,δ,R,?_⟩;rw[q];intro J H1 s1 hJ D P;have S:=R.same s1;have nD:D∉A:=S.ls.new P;refine⟨λi m ys H'=>m=ds.length-i/\i<=ds.length/\av H1 H'/\H' D=some (.lst ys)/\∃as:List Addr,as.length=i/\ys=as.map V.ref/\as.Nodup/\(∀a∈as,H1 a=none/\a≠D/\∃u,H' a=some u)/\Iss K (del H' (D::A)) (kz C names tl as (j.take i)) ys,
  ⟨ds.length,by simp,MR _,bL P,aH,[],rfl,rfl,O6,λa h=>(Mt h).elim,cR⟩,?_⟩
 rintro i m ys H' ⟨rfl,hi,w,hl,as,n,rfl,nd,l,c3⟩
 refine⟨hl,?_⟩;have sG:av (del H1 A) H':=aw.trans w;have F:∀b∈D::A,(del H1 A) b=none:=λb r=>by
  rcases M8.mp r with z|z
  ·rw[z,aI nD];exact P
  ·exact gz z
 obtain⟨jg,js,jy⟩:=hJ H' (D::A) sG (λb r=>by
  rcases M8.mp r with z|z
  ·exact⟨_,by rw[z];exact hl,rfl⟩
  ·exact (S.ls.same w) b z) F
 by_cases hlt:i<ds.length
 ·refine .inr ⟨jg i hlt,λx H2 σ' G y=>?_⟩;obtain⟨s2,d,ed,hd⟩:=jy i x H2 hlt y;obtain⟨ow,fs,et,ef,eg,hfs⟩:=Z i d ed;have l2:H2 D=some (.lst (as.map V.ref)):=s2 _ _ hl;have I:Ls H2 (D::A):=λb r=>by
   rcases M8.mp r with z|z
   ·exact⟨_,by rw[z];exact l2,rfl⟩
   ·exact (S.ls.same (w.trans s2)) b z
  obtain⟨hol,hgo⟩:=hT d x σ σ' H2 (D::A) (λs H2=>uU s H2 λb H3 =>
   if b=true then eMk K E0 C names tl gs s H3 λv B=>B D=some (.lst (as.map V.ref))/\(as.map V.ref).length<sizeLine/\(∃f,s=σ++f/\f.length=own.length)/\∃m',m' < ds.length-i/\_
   else (∃f,s=σ++f/\f.length=own.length)/\∃m',m' < ds.length-i/\_) ow hσ G I hd et
  refine hgo λvs L M=>?_
  have N:av (del H1 A) (del H2 (D::A)):=lC (sG.trans s2) F;have RE:dH K H2 (D::A) (δ++ow) (σ++vs):=by
   refine⟨I,by rw[Mr,Mr,R.len,L,hol],λk e T=>?_⟩;by_cases hk:k<δ.length
   ·rw[Mz hk]at T;obtain⟨u,e1,t⟩:=S.get k e T;exact⟨u,by rw[Mz (by rw[<-R.len];exact hk)];exact e1,t.same N⟩
   ·rw[MD (by omega)]at T;obtain⟨u,e1,t⟩:=M _ e T;exact⟨u,by rw[MD (by rw[<-R.len];omega),<-R.len];exact e1,t⟩
  unfold uU;have hI:∀{p q:Prop},p->(if true=true then p else q):=λh=>by rw[if_pos rfl];exact h
  refine hI ?_;refine⟨D::A,δ++ow,RE,?_⟩;rw[eg];refine⟨hfs,λa B na U ha=>?_⟩;have l4:B D=some (.lst (as.map V.ref)):=U _ _ l2;have O:a≠D:=λz=>by rw[z,l2]at na;cases na
  have naA:a∉as:=λz=>by obtain⟨_,_,u,t⟩:=l a z;rw[s2 _ _ t]at na;cases na
  have dU:del (upd B D (.lst (as.map V.ref++[.ref a]))) (D::A)=del B (D::A):=kl (M7);have h4a:∃u,B a=some u:=by obtain⟨_,dx,gs',hp,_⟩:=ha.atObj;exact⟨_,(a9 hp).2⟩
  have hex:kz C names tl (as++[a]) (j.take (i+1))=kz C names tl as (j.take i)++[cm C a (names.zip fs++tlD tl)]:=by
   have ht:j.take (i+1)=j.take i++[fs]:=by rw[List.take_add_one,ef];rfl
   unfold kz;rw[ht,List.zip_append (by rw[n,List.length_take];omega),N4];rfl
  refine⟨l4,by rw[sizeLine_eq,M4,n];omega,⟨vs,rfl,L⟩,ds.length-(i+1),by omega,rfl,hlt,?_,aH,as++[a],by rw[Mr,n];rfl,by rw[N4];rfl,?_,λb r=>?_,?_⟩
  ·exact av.put ((w.trans s2).trans U) P
  ·exact NG.mpr ⟨nd,by simp,λb r c hc e=>by rw[Mh.mp hc]at e;exact naA (e▸r)⟩
  ·rcases Mx.mp r with z|z
   ·obtain⟨h1,h2,u,t⟩:=l b z;refine⟨h1,h2,u,?_⟩;rw[aB h2];exact U _ _ (s2 _ _ t)
   ·cases Mh.mp z;obtain⟨u,t⟩:=h4a;refine⟨(w.trans s2).free na,O,u,?_⟩;rw[aB O];exact t
  ·rw[dU,hex];exact (c3.same (av.del (s2.trans U))).append (hU ha)
 ·have e:i=ds.length:=by omega
  subst e;rw[<-Y,Oe]at c3;refine .inl ⟨js,o as D H' (by rw[n]) nd (λa ha=>s1.free (l a ha).1) (s1.trans w) ?_⟩;have hs:av (del H' (D::A)) (del H' A):=λb u eb=>by obtain⟨q1,q2⟩:=a9 eb;rw[aI (λz=>q1 (M6 _ z))];exact q2
  exact iP (by rw[aI nD];exact hl) (c3.same hs)
section
variable {E:XK}
theorem Fe{r:Ds->Rs (List PyData)}{e:Ds->Sr}(u:PS X st (Ef (lJ X.K E C names tl n0 r gs tgt) (jR i)))(f:∀as,PBN as X E O ss (G as))(hi:i∉O)
  (g:∀δ,e δ≠.no->∃d ds b,e δ=.rt d/\i<δ.length/\δ.length=n0/\r (mask O δ)=.ok ds/\ds.length<=1000000/\b.length=ds.length/\(∀(i:Nat) d,ds[i]?=some d->∃t fs,tgt d=some t/\b[i]?=some fs/\gs (mask O δ++t)=.ok fs/\fs.length=names.length) /\
   ∀as:List Addr,as.length=ds.length->as.Nodup->G as (δ.set i (some (.list (kz C names tl as b))))=.rt d):PBD X E O (st::ss) e:=by
 have h2:PSs X ss (λD σ H=>∃as,sDN as X.K E O (G as) D σ H):=λpins s σ H D I j=>(by obtain⟨as,h⟩:=j;exact f as pins s σ H D I h)
 refine (dq u h2).imp λD σ H l=>?_
 obtain⟨H0,A0,A,δ,R,o⟩:=l;by_cases z:e δ=.no
 ·rw[z]at o;exact o.elim
 obtain⟨d,ds,b,e1,hl,hn,e2,v,w,m,x⟩:=g δ z;rw[e1]at o;have n:(mask O δ).length=n0:=by rw[vq];exact hn
 refine⟨A++A0,mask O δ,R.part,n,ds,b,e2,v,w,m,λas Dd H' p nd c y q=>?_⟩;refine⟨as,H0,A0,A,_,λa ha=>R.same.free (c a ha),(R.step y).set hi hl q,?_⟩;rw[x as p nd];exact o
end
section
variable {κ:Type}[DecidableEq κ]
def gh(kvs:List (κ×V))(k:κ):Option V:=(kvs.find? λa=>decide (a.1=k)).map (·.2)
def putK(kvs:List (κ×V))(k:κ)(v:V):List (κ×V) :=
 if (kvs.any λa=>decide (a.1=k))=true then kvs.map (λa=>if a.1=k then (a.1,v) else a) else kvs++[(k,v)]
theorem dQ{p:κ×V}{r:List (κ×V)}{k:κ}(e:p.1=k):gh (p::r) k=some p.2:=by simp[gh,MY,e]
theorem dP{p:κ×V}{r:List (κ×V)}{k:κ}(e:¬ p.1=k):gh (p::r) k=gh r k:=by simp[gh,MY,e]
theorem lZ(k:κ):∀kvs:List (κ×V),(kvs.any λa=>decide (a.1=k))=(gh kvs k).isSome
 |[]=>rfl
 |p::r=>by
  rw[Nj];by_cases e:p.1=k
  ·simp only[dQ e,decide_eq_true e,Bool.true_or,Option.isSome_some]
  ·rw[dP e,decide_eq_false e,Bool.false_or];exact lZ k r
theorem vG(k j:κ)(y:V):∀kvs:List (κ×V),gh (kvs.map λa=>if a.1=k then (a.1,y) else a) j=(gh kvs j).map λx=>if j=k then y else x
 |[]=>rfl
 |p::r=>by
  have b:=vG k j y r;rw[M5];by_cases h:p.1=k
  ·rw[if_pos h];by_cases e:p.1=j
   ·rw[dQ (p:=(p.1,y)) e,dQ e,MN,if_pos (e.symm.trans h)]
   ·rw[dP (p:=(p.1,y)) e,dP e,b]
  ·rw[if_neg h];by_cases e:p.1=j
   ·rw[dQ (p:=p) e,dQ e,MN,if_neg (λz=>h (e.trans z))]
   ·rw[dP (p:=p) e,dP e,b]
theorem rO(k j:κ)(y:V):∀kvs:List (κ×V),gh kvs k=none->gh (kvs++[(k,y)]) j=if j=k then some y else gh kvs j
 |[],_=>by
  by_cases e:k=j
  ·rw[if_pos e.symm];exact dQ (p:=(k,y)) e
  ·rw[if_neg (λz=>e z.symm)];exact dP (p:=(k,y)) e
 |p::r,hn=>by
  rw[MO];have a:¬ p.1=k:=λz=>by rw[dQ z]at hn;cases hn
  rw[dP a]at hn;have b:=rO k j y r hn;by_cases e:p.1=j
  ·rw[dQ e,dQ e,if_neg (λz=>a (e.trans z))]
  ·rw[dP e,dP e,b]
theorem BB(kvs:List (κ×V))(k j:κ)(y:V):gh (putK kvs k y) j=if j=k then some y else gh kvs j:=by
 unfold putK;by_cases a:(kvs.any λb=>decide (b.1=k))=true
 ·rw[if_pos a,vG];rw[lZ]at a;by_cases e:j=k
  ·obtain⟨x,c⟩:=Nh.mp a;rw[if_pos e,e,c,MN,if_pos rfl]
  ·rw[if_neg e];cases gh kvs j with
   |none=>rfl
   |some x=>rw[MN,if_neg e]
 ·rw[if_neg a];refine rO k j y kvs ?_;rw[lZ]at a;cases q:gh kvs k with
  |none=>rfl
  |some x=>rw[q]at a;exact (a rfl).elim
theorem jI(kvs:List (κ×V))(k:κ)(v:V):(putK kvs k v).length<=kvs.length+1:=by
 unfold putK;split
 ·rw[M4];omega
 ·rw[Mr,Mp,MM];omega
theorem ji.isSome_eq{o:Option V}{u:Option Value}(r:ji o u):o.isSome=u.isSome:=by
 cases o with
 |none=>cases u with
  |none=>rfl
  |some _=>exact (show False from r).elim
 |some _=>cases u with
  |none=>exact (show False from r).elim
  |some _=>rfl
theorem ji.getD{o:Option V}{u:Option Value}{d:V}{d':Value}(r:ji o u)(a:RelV d d'):RelV (o.getD d) (u.getD d'):=by
 cases o with
 |none=>cases u with
  |none=>exact a
  |some _=>exact (show False from r).elim
 |some _=>cases u with
  |none=>exact (show False from r).elim
  |some _=>exact r
theorem KV.val{kvs:List (κ×V)}{vs:List (κ×Value)}(r:KV kvs vs)(k:κ):ji (gh kvs k) (valueAt vs k):=by
 unfold KV at r
 induction r with
 |nil=>exact True.intro
 |@cons p q ps qs h t ih =>
  obtain⟨h1,h2⟩:=h;by_cases e:p.1=k
  ·have a:q.1=k:=h1.symm.trans e;have b:valueAt (q::qs) k=some q.2:=by simp[valueAt,MY,a]
   rw[dQ e,b];exact h2
  ·have a:¬ q.1=k:=λz=>e (h1.trans z)
   have b:valueAt (q::qs) k=valueAt qs k:=by simp[valueAt,MY,a]
   rw[dP e,b];exact ih
theorem KV.any{kvs:List (κ×V)}{vs:List (κ×Value)}(r:KV kvs vs)(k:κ):(kvs.any λa=>decide (a.1=k))=vs.any λa=>decide (a.1=k):=by
 unfold KV at r
 induction r with
 |nil=>rfl
 |cons h t ih=>rw[Nj,Nj,ih,h.1]
theorem KV.repl{kvs:List (κ×V)}{vs:List (κ×Value)}(r:KV kvs vs)(k:κ)(b:RelV y u) :
  KV (kvs.map λa=>if a.1=k then (a.1,y) else a) (vs.map λa=>if a.1=k then (a.1,u) else a):=by
 unfold KV at r ⊢
 induction r with
 |nil=>exact .nil
 |@cons p q ps qs h t ih =>
  rw[M5,M5];refine .cons ?_ ih;obtain⟨h1,h2⟩:=h;by_cases e:p.1=k
  ·rw[if_pos e,if_pos (h1.symm.trans e)];exact⟨h1,b⟩
  ·rw[if_neg e,if_neg (λz=>e (h1.trans z))];exact⟨h1,h2⟩
theorem KV.put{kvs:List (κ×V)}{vs:List (κ×Value)}(r:KV kvs vs)(k:κ)(a:RelV y u):KV (putK kvs k y) (stored vs k u):=by
 unfold putK stored;rw[r.any k];by_cases e:(vs.any λb=>decide (b.1=k))=true
 ·rw[if_pos e,if_pos e];exact r.repl k a
 ·rw[if_neg e,if_neg e];exact Paired.snoc r ⟨rfl,a⟩
theorem KV.keys{kvs:List (κ×V)}{vs:List (κ×Value)}(r:KV kvs vs):kvs.map (·.1)=vs.map (·.1):=by
 unfold KV at r
 induction r with
 |nil=>rfl
 |cons h t ih=>rw[M5,M5,ih,h.1]
theorem KV.length{kvs:List (κ×V)}{vs:List (κ×Value)}(r:KV kvs vs):kvs.length=vs.length:=Paired.length r
end
theorem vT{k:Key}(r:RelV (kV k) u):(br P w).is k u=true:=by
 cases k with
 |inl i=>obtain⟨t,e⟩:=(show ∃t,u=Value.int i t from r);subst e;exact nz P w i t
 |inr x=>obtain⟨t,e⟩:=(show ∃t,u=Value.str x t from r);subst e;exact vE P w x t
theorem rn{P:Program}{w:World}:∀{ks:List Key}{us:List Value},Vals (ks.map kV) us->ItemsAre (br P w) ks us
 |[],_,r=>by rw[Nc]at r;cases r;exact .nil
 |k::ks,_,r=>by
  rw[M5]at r;cases r with
  |cons h t=>exact .cons (vT h) (rn t)
abbrev KT(H:Hp):List (List Key×V)->List (List Key×Addr×Value)->Prop:=Paired λp q=>p.1=q.1/\H q.2.1=some (.tup (p.1.map kV))/\RelV p.2 q.2.2
theorem KT.val(r:KT H kvs xs)(k:List Key):ji (gh kvs k) ((atKey xs k).map (·.2)):=by
 induction r with
 |nil=>exact True.intro
 |@cons p q ps qs h t ih =>
  obtain⟨h1,_,h2⟩:=h;by_cases e:p.1=k
  ·have a:q.1=k:=h1.symm.trans e;have b:atKey (q::qs) k=some q.2:=by simp[atKey,MY,a]
   rw[dQ e,b];exact h2
  ·have a:¬ q.1=k:=λz=>e (h1.trans z)
   have b:atKey (q::qs) k=atKey qs k:=by simp[atKey,MY,a]
   rw[dP e,b];exact ih
theorem KT.repl(r:KT H kvs xs)(k:List Key)(b:RelV y u) :
  KT H (kvs.map λa=>if a.1=k then (a.1,y) else a) (xs.map (putAt k u)):=by
 induction r with
 |nil=>exact .nil
 |@cons p q ps qs h t ih =>
  rw[M5,M5];refine .cons ?_ ih;obtain⟨h1,h2,c⟩:=h;unfold putAt;by_cases e:p.1=k
  ·rw[if_pos e,if_pos (h1.symm.trans e)];exact⟨h1,h2,b⟩
  ·rw[if_neg e,if_neg (λz=>e (h1.trans z))];exact⟨h1,h2,c⟩
theorem KT.put(r:KT H kvs xs)(k:List Key)(c:H b=some (.tup (k.map kV)))(a:RelV y u) :
  KT H (putK kvs k y) (storedH xs k b u):=by
 have e:(kvs.any λf=>decide (f.1=k))=(atKey xs k).isSome:=by rw[lZ,(r.val k).isSome_eq,NY]
 unfold putK storedH;rw[e];by_cases q:(atKey xs k).isSome=true
 ·rw[if_pos q,if_pos q];exact r.repl k a
 ·rw[if_neg q,if_neg q];exact Paired.snoc r ⟨rfl,c,a⟩
theorem KT.keeps(r:KT H kvs xs)(a:∀b ys,H b=some (.tup ys)->H' b=some (.tup ys)):KT H' kvs xs :=
 Paired.mapP r λ_ _ z=>⟨z.1,a _ _ z.2.1,z.2.2⟩
section
theorem GZ{u:HO}(ok:HOk P w H h)(e:Rd H a u):cE P w H h a u:=e.ok ok
theorem nr{kvs:List (Key×V)}(ok:HOk P w H h)(e:Rd H a (.dK kvs)):kvs.length<=sizeLine/\(a==sysModules)=false/\∃vs,KV kvs vs/\h.DictOf (br P w) a vs :=
 show cE P w H h a (.dK kvs) from GZ ok e
theorem Hd{kvs:List (Key×V)}(ok:HOk P w H h)(e:H a=some (.dK kvs)):kvs.length<=sizeLine/\(a==sysModules)=false/\∃vs,KV kvs vs/\h.DictOf (br P w) a vs:=nr ok (.inl e)
theorem pz{ks:List Key}(ok:HOk P w H h)(e:H a=some (.tup (ks.map kV))):(tupleKind (br P w)).is h ks a:=by
 obtain⟨_,its,r,o,h1,h2,_,n,b⟩:=(show cE P w H h a (.tup (ks.map kV)) from ok a _ e)
 exact⟨o,its.toArray,n,h1,h2,b,by simpa using rn r⟩
theorem sV(ok:HOk P w H h)(e:Rd H a (.dT kvs)):kvs.length<=sizeLine/\(a==sysModules)=false /\
  ∃xs,KT H kvs xs/\h.DictOfH (tupleKind (br P w)) a xs:=by
 obtain⟨z,y,xs,r,o,es,ep,h1,h2,c,f,g⟩:=(show cE P w H h a (.dT kvs) from GZ ok e)
 refine⟨z,y,xs,r,o,es,ep,h1,h2,c,f,λx b=>?_,g⟩;have all:∀{l:List (List Key×V)}{m:List (List Key×Addr×Value)},KT H l m->∀x∈m,(tupleKind (br P w)).is h x.1 x.2.1:=by
  intro l m q
  induction q with
  |nil=>intro x b;exact nomatch b
  |@cons p q ps qs hq t ih =>
   intro x b;rcases M8.mp b with e|b
   ·subst e;exact pz ok (by rw[<-hq.1];exact hq.2.1)
   ·exact ih x b
 exact all r x b
theorem K0(ok:HOk P w H h)(e:H a=some (.dT kvs)):kvs.length<=sizeLine/\(a==sysModules)=false /\
 ∃xs,KT H kvs xs/\h.DictOfH (tupleKind (br P w)) a xs:=sV ok (.inl e)
end
def nZ(H:Hp)(a:Addr)(y:V)(r:Option V):Prop :=
 (∃kvs k,Rd H a (.dK kvs)/\y=kV k/\r=gh kvs k)\/∃kvs k b,Rd H a (.dT kvs)/\y=.ref b/\H b=some (.tup (k.map kV))/\r=gh kvs k
def Cf(H:Hp)(a:Addr)(y v:V)(H':Hp):Prop :=
 (∃kvs k,H a=some (.dK kvs)/\y=kV k/\kvs.length<sizeLine/\H'=upd H a (.dK (putK kvs k v))) \/
 ∃kvs k b,H a=some (.dT kvs)/\y=.ref b/\H b=some (.tup (k.map kV))/\kvs.length<sizeLine/\H'=upd H a (.dT (putK kvs k v))
theorem nZ.k{kvs:List (Key×V)}{k:Key}(e:H a=some (.dK kvs)):nZ H a (kV k) (gh kvs k):=.inl ⟨kvs,k,.inl e,rfl,rfl⟩
theorem Cf.k{kvs:List (Key×V)}{k:Key}(e:H a=some (.dK kvs))(hl:kvs.length<sizeLine):Cf H a (kV k) v (upd H a (.dK (putK kvs k v))):=.inl ⟨kvs,k,e,rfl,hl,rfl⟩
section
variable {r:Value}{o:Option V}{A:Around}
theorem Inv.big(I:Inv X pins σ H s):sysModules<s.heap.objs.size:=by have h:mainGlobals<s.heap.objs.size:=(I.mod.glob.keeps I.bk).lt;exact Of (by decide) h
theorem AE(n:A.units+1<cLine)(I:Inv X pins σ H s)(g:nZ H a y (some v))(m:RelV y u)(h:∀f s',Inv X pins σ H s'->RelV v f->Q f s') :
  wpAny (model X.prog X.w) A (getItem (.ref a) u) Q E s:=by
 rcases g with⟨kvs,k,e,i,l⟩|⟨kvs,k,b,e,i,q,l⟩
 ·subst i;obtain⟨z,hd,vs,rel,dd⟩:=nr I.hok e;obtain⟨f,hw,c⟩:=ji.some_of (v:=v) (o:=valueAt vs k) (by rw[l];exact rel.val k);exact wpAny_getItem_of (vT m) dd.mapOf hw (h f _ (I.tok _) c)
 ·subst i;cases (show u=Value.ref b from m);obtain⟨z,hd,xs,rel,dd⟩:=sV I.hok e;obtain⟨f,hw,c⟩:=ji.some_of (v:=v) (o:=(atKey xs k).map (·.2)) (by rw[l];exact rel.val k);obtain⟨p,r,j⟩:=N1.mp hw;refine wpAny_getItem_heap (tupleKind_room_in1 n) (pz I.hok q) dd r ?_;rw[j];exact h f _ (I.tok _) c
theorem Ly(i:A.units+1<cLine)(I:Inv X pins σ H s)(g:nZ H a y o)(f:RelV y u)(h:∀s',Inv X pins σ H s'->Q (.bool o.isSome) s') :
  wpAny (model X.prog X.w) A (compareOp .In u (.ref a)) Q E s:=by
 rcases g with⟨kvs,k,e,c,l⟩|⟨kvs,k,b,e,c,j,l⟩
 ·subst c;obtain⟨z,hd,vs,rel,dd⟩:=nr I.hok e;refine wpAny_in_of (vT f) hd dd.mapOf ?_;rw[<- (rel.val k).isSome_eq,<-l];exact h _ (I.tok _)
 ·subst c;cases (show u=Value.ref b from f);obtain⟨z,hd,xs,rel,dd⟩:=sV I.hok e;refine wpAny_in_heap (tupleKind_room_in1 i) (pz I.hok j) hd dd ?_;have q:=(rel.val k).isSome_eq;rw[NY]at q;rw[<-q,<-l];exact h _ (I.tok _)
theorem uw{t':Nat}{ob:HO}(I:Inv X pins σ H s)(c:Mut (H a))(f:Heap.SameBut a s.heap h')(g:∃q,h'.get? a=some q)(new:cE X.prog X.w (upd H a ob) h' a ob) :
  Inv X pins σ (upd H a ob) { s with heap:=h',toks:=t' } :=
 I.write (x:=a) (e:=a) c (.inl rfl) (λb q h z=>(f.2 b h).trans z) g new
theorem Bt{kvs:List (Key×V)}{vs:List (Key×Value)}(z:kvs.length<=sizeLine)(hd:(a==sysModules)=false)(rel:KV kvs vs)(dd:h'.DictOf (br P w) a vs) :
 cE P w H' h' a (.dK kvs):=⟨z,hd,vs,rel,dd⟩
theorem A8{Q:Unit->Shared->Prop}(C:A.units+1<cLine)(I:Inv X pins σ H s)(g:Cf H a y v H')(p:RelV y u)(t:RelV v r)(h:∀s',Inv X pins σ H' s'->Q () s') :
  wpAny (model X.prog X.w) A (setItem (.ref a) u r) Q E s:=by
 rcases g with⟨kvs,k,e,j,l,m⟩|⟨kvs,k,b,e,j,x,l,m⟩
 ·subst j m;obtain⟨z,hd,vs,rel,dd⟩:=Hd I.hok e;have n:vs.length<=sizeLine:=by rw[<-rel.length];exact z
  have hl:(putK kvs k v).length<=sizeLine:=by have:=jI kvs k v;omega
  refine wpAny_setItem_pairs (hsz:=n) (vT p) dd λh' f o=>h _ ?_
  have D:∃q,h'.get? a=some q:=let ⟨q,_,_,i,_⟩:=f;⟨q,i⟩;exact uw I (by rw[e];exact True.intro) o D (Bt hl hd (rel.put k t) f)
 ·subst j m;cases (show u=Value.ref b from p);obtain⟨z,hd,xs,rel,dd⟩:=K0 I.hok e;have n:xs.length<=sizeLine:=by rw[<-Paired.length rel];exact z
  have hl:(putK kvs k v).length<=sizeLine:=by have:=jI kvs k v;omega
  refine wpAny_setItem_heap (hsz:=n) (tupleKind_room_in1 C) (pz I.hok x) dd λh' f o=>h _ ?_
  obtain⟨q,es,ep,i,h2,F,G,_,J⟩:=f;refine uw I (by rw[e];exact True.intro) o ⟨q,i⟩ ⟨hl,hd,_,(rel.put k x t).keeps λc ys B=>?_,q,es,ep,i,h2,F,G,J⟩;rw[aB (Kf B e (λz=>nomatch z))];exact B
end
section
variable {kvs:List (Key×V)}{k:Key}{A:Around}
end
def E7(i:Expr):Prop:=∀a iv,subscripted i false a iv=operate [a,iv] (getItem a iv)
theorem F2{A:Around}{value slice:Expr}{T id:String}
  (hl:typeLookup (.type T) "__getitem__"=pure (some (.builtin id))) (l:E7 slice)
  (h:wpAny (model prog w) A (eval value env) (λo c=>wpAny (model prog w) A (eval slice env) (λi a=>a.TypeIs o T/\wpAny (model prog w) A (getItem o i) Q E a) E c) E s) :
  wpAny (model prog w) A (eval (.Subscript value slice pos) env) Q E s:=by
 refine Subscript_ (wpAny_mono h (λo c f=>wpAny_mono f (λi a b=>?_) λ_ _ x=>x) λ_ _ x=>x);obtain⟨j,b⟩:=b;unfold subscriptTail;refine wpAny_bind ?_;rw[getitemInPython_of_ne j.not_modules];refine wpAny_bind (wpAny_specialOf j hl ?_);have fin:wpAny (model prog w) A (subscripted slice false o i) (λr e=>wpAny (model prog w) A (letTemporaryGo value o r >>= λ_=>pure r) Q E e) E a:=by rw[l o i];exact wpAny_operating (wpAny_mono b (λr e g=>wpAny_bind (wpAny_letTemporaryGo (wpAny_pure g))) λ_ _ x=>x)
 first
  |exact wpAny_pure (wpAny_bind fin)
  |exact wpAny_bind (wpAny_pure (wpAny_bind fin))
  |exact wpAny_bind fin
theorem vW{o:Option V}(I:Inv X pins σ H s)(g:nZ H a y o):s.TypeIs (.ref a) "dict":=by
 rcases g with⟨kvs,k,e,_,_⟩|⟨kvs,k,b,e,_,_,_⟩
 ·obtain⟨_,_,vs,_,dd⟩:=nr I.hok e;exact dd.typeIs
 ·obtain⟨_,_,xs,_,dd⟩:=sV I.hok e;exact dd.typeIs
def Kv(td ty:TE):TE:=λσ H Q=>td σ H λx H1=>ty σ H1 λy H2=>∃a v,x=.ref a/\nZ H2 a y (some v)/\Q v H2
def KP(td ty tv:TE):TS:=λD σ H=>tv σ H λv H1=>td σ H1 λx H2=>ty σ H2 λy c=>∃a b,x=.ref a/\Cf c a y v b/\D.nx σ b
section
variable {o i value:Expr}{tpos:Pos}{td ty tv:TE}
theorem zD(f:X.A.units+1<cLine)(j:PE X o td)(hi:PE X i ty)(l:E7 i):PE X (.Subscript o i pos) (Kv td ty):=by
 intro pins s σ H Q I h;refine F2 F.slot_dict_getitem.lookup l (thn (j pins s σ H _ I h) λu m b=>?_);obtain⟨x,H1,n,p,q⟩:=b;refine thn (hi pins m σ H1 _ n q) λiv s2 b=>?_
 obtain⟨y,H2,e,r,a,v,ex,g,t⟩:=b;subst ex;obtain rfl:u=Value.ref a:=p;exact⟨vW e g,AE f e g r λw' s3 w c=>⟨v,H2,w,c,t⟩⟩
theorem F7(c:X.A.units+1<cLine)(e:PE X o td)(hi:PE X i ty)(hv:PE X value tv)(f:swapsWith value (some (.Subscript o i pos')) pos.line X.env=pure false) :
  PS X (.Assign [.Subscript o i pos'] value pos) (KP td ty tv):=by
 intro pins s σ H D I h;refine wpAny_Assign_Subscript (thn (hv pins s σ H _ I h) λr j b=>?_) f;obtain⟨v,H1,l,m,n⟩:=b;refine thn (e pins j σ H1 _ l n) λu s2 b=>?_
 obtain⟨x,H2,p,q,t⟩:=b;refine thn (hi pins s2 σ H2 _ p t) λiv s3 b=>?_
 obtain⟨y,H3,w,z,a,B,ex,g,C⟩:=b;subst ex;obtain rfl:u=Value.ref a:=q;exact A8 c w g z m λs4 E=>⟨σ,B,E,C⟩
end
theorem Ei(h:Heap)(a:sysModules<h.objs.size):cE P w H (h.push { cls:=.type "dict",data:=.dict #[] }) h.objs.size (.dK []) :=
 ⟨MR _,beq_eq_false_iff_ne.mpr (Ne.symm (Mf a)),[],.nil,Heap.DictOf.new h⟩
def Hm:TE:=λ_ H Q=>∀p,H p=none->Q (.ref p) (upd H p (.dK []))
section
theorem vX:PE X (.Dict [] [] pos) Hm:=λpins s σ H Q I h =>
 wpAny_Dict_empty ⟨.ref s.heap.objs.size,_,I.laid (a:=s.heap.objs.size) (o:=.dK []) (t':=s.toks) (λ_ _ q=>M3 _ q) (Me _) (Ei s.heap I.big),rfl,h _ (I.hok.fresh (Me _))⟩
end
structure M2(X:Cx)(o:Expr)(m:Str)(apos:Pos)(e f:Expr)(cpos:Pos):Prop where
 base:attributeBase o m X.env (eval o X.env)=eval o X.env
 few:((backTo cpos (starEach [e,f] X.env)).all (λx=>!x.1)&&(backToKw cpos (keywordEach [] X.env)).all (λx=>x.1.isSome)
 &&decide (([e,f]:List Expr).length+([]:List Keyword).length+(if ([]:List Keyword).isEmpty then 0 else 1)<30))=true
 line:(apos.endLine==cpos.line)=true
 trees:backTo cpos (starEach [e,f] X.env)=[(false,eval e X.env),(false,eval f X.env)]
def KJ(H:Hp)(a:Addr):Prop:=(∃kvs,Rd H a (.dK kvs))\/∃kvs,Rd H a (.dT kvs)
theorem D5(I:Inv X pins σ H s)(d:KJ H a) :
  s.TypeIs (.ref a) "dict"/\(∀b,Value.ref a=.ref b->∃ob,s.heap.get? b=some ob/\ob.dict=none)/\(a==sysModules)=false:=by
 rcases d with⟨kvs,e⟩|⟨kvs,e⟩
 ·obtain⟨_,hd,vs,_,dd⟩:=nr I.hok e;refine⟨dd.typeIs,λb q=>?_,hd⟩;cases q;obtain⟨ob,_,_,h1,h2,_⟩:=dd;exact⟨ob,h1,h2.2.1⟩
 ·obtain⟨_,hd,xs,_,dd⟩:=sV I.hok e;refine⟨dd.typeIs,λb q=>?_,hd⟩;cases q;obtain⟨ob,_,_,h1,h2,_⟩:=dd;exact⟨ob,h1,h2.2.1⟩
section
variable {d:V}{r:Value}{o:Option V}{A:Around}
theorem HU(m:A.units+1<cLine)(I:Inv X pins σ H s)(g:nZ H a y o)(f:RelV y u)(i:RelV d r)(h:∀j s',Inv X pins σ H s'->RelV (o.getD d) j->Q j s') :
  wpAny (model X.prog X.w) A (call (.builtin "dict.get") [.ref a,u,r]) Q E s:=by
 rcases g with⟨kvs,k,e,c,l⟩|⟨kvs,k,b,e,c,n,l⟩
 ·subst c;obtain⟨z,hd,vs,rel,dd⟩:=nr I.hok e;refine call_meetsIn F.slot_dict_get dd.typeIs F.entry_dict_get (F.args_dict_get_3 _ _ _) (meets_dict_get_default (br X.prog X.w) a (vT f) hd r) ⟨_,dd.mapOf,h _ _ (I.tok _) ?_⟩;rw[l];exact (rel.val k).getD i
 ·subst c;cases (show u=Value.ref b from f);obtain⟨z,hd,xs,rel,dd⟩:=sV I.hok e;refine call_meetsIn F.slot_dict_get dd.typeIs F.entry_dict_get (F.args_dict_get_3 _ _ _) (meetsH_dict_get_default (tupleKind (br X.prog X.w)) a b hd r) ⟨tupleKind_room_in1 m,k,xs,pz I.hok n,dd,h _ _ (I.tok _) ?_⟩;rw[l];exact (rel.val k).getD i
end
def HW(td ty tx:TE):TE:=λσ H Q=>td σ H λx H1=>∃a,x=.ref a/\KJ H1 a/\ty σ H1 λy H2=>tx σ H2 λz b=>∃o,nZ b a y o/\Q (o.getD z) b
section
variable {o f:Expr}{apos:Pos}{td ty tx:TE}
theorem DX(j:X.A.units+1<cLine)(l:PE X o td)(n:PE X e ty)(p:PE X f tx)(m:M2 X o "get" apos e f cpos):PE X (.Call (.Attribute o "get" apos) [e,f] [] cpos) (HW td ty tx):=by intro pins s σ H Q I h;refine wpAny_Call_method m.base m.few m.line F.plainAttrs_dict F.slot_dict_get F.type_dict_get (thn (l pins s σ H _ I h) λu q b=>?_);obtain⟨x,H1,i,r,a,ex,d,t⟩:=b;subst ex;obtain rfl:u=Value.ref a:=r;obtain⟨v,w,_⟩:=D5 i d;refine⟨v,w,?_⟩;rw[m.trees];refine Calls.callWith_builtin rfl (Calls.evalArgs_plain (Calls.spliced_cons (thn (n pins q σ H1 _ i t) λiv s2 b=>?_)));obtain⟨y,H2,B,C,D⟩:=b;refine Calls.spliced_cons (thn (p pins s2 σ H2 _ B D) λfv s3 b=>?_);obtain⟨z,E,G,rz,ov,g,J⟩:=b;refine Calls.spliced_nil ?_;exact HU j G g C rz λw' s4 K c=>⟨_,E,K,c,J⟩
end
section
variable {kvs:List (Key×V)}{A:Around}
end
section
variable {A:Around}
end
section
theorem bK.setOwnO{t:PyData}(R:bK K H0 A0 H A O δ σ)(hi:i∈O)(hl:i<δ.length)(hn:H a=none)(s:av H H1)(ha:H1 a=some o)(m:Jp o=true)(h:gY K (del H1 (a::(A++A0))) t o) :
  bK K H0 A0 H1 (a::A) O (δ.set i (some t)) (σ.set i (some (.ref a))) where
 same:=R.same.trans s
 ls0:=R.ls0
 new:=λb n=>by
  rcases M8.mp n with z|z
  ·rw[z];exact R.same.free hn
  ·exact R.new b z
 ls:=λb n=>by
  rcases M8.mp n with z|z
  ·exact⟨_,by rw[z];exact ha,m⟩
  ·exact (R.ls.same s) b z
 len:=by simp[R.len]
 pl:=λj e c q=>by
  rcases get_set q with⟨z,q⟩|⟨z,q⟩
  ·subst z;exact absurd hi c
  ·obtain⟨u,e1,h1⟩:=R.pl j e c q;refine⟨u,j9 z e1,h1.same λb o e=>?_⟩;obtain⟨y,e⟩:=a9 e;have r:b≠a:=aK e hn;rw[aI (by simpa[r] using y)];exact s _ _ e
 own:=λj e c q=>by
  have v:∀b o,del H (A++A0) b=some o->del H1 (a::A++A0) b=some o:=λb o e=>by obtain⟨y,e⟩:=a9 e;have r:b≠a:=aK e hn;rw[aI (by simpa[r] using y)];exact s _ _ e
  rcases get_set q with⟨z,q⟩|⟨z,q⟩
  ·cases q;subst z;exact⟨a,_,_,by rw[MI (by rw[<-R.len];exact hl)],M7,ha,rfl,h⟩
  ·obtain⟨b,ys,es,e1,h1,h2,w,x⟩:=R.own j e c q;exact⟨b,ys,es,j9 z e1,M6 _ h1,s _ _ h2,w,x.same v⟩
 inj:=λj k d' e b c f g l p1 p2=>by
  have old:∀k,k∈O->i≠k->∀e,δ[k]?=some (some e)->σ[k]?=some (some (.ref a))->False:=λk f _ e q p=>by obtain⟨b,ys,es,e1,h1,h2,_⟩:=R.own k e f q;rw[p]at e1;cases e1;rw[hn]at h2;cases h2
  by_cases z1:i=j
  ·by_cases z2:i=k
   ·rw[<-z1,z2]
   ·subst z1;rw[MI (by rw[<-R.len];exact hl)]at p1;cases p1;rw[MA z2]at l p2;exact (old k f z2 e l p2).elim
  ·by_cases z2:i=k
   ·subst z2;rw[MI (by rw[<-R.len];exact hl)]at p2;cases p2;rw[MA z1]at g p1;exact (old j c z1 d' g p1).elim
   ·rw[MA z1]at g p1;rw[MA z2]at l p2;exact R.inj j k d' e b c f g l p1 p2
theorem bK.putO{d1 l:PyData}(R:bK K H0 A0 H A O δ σ)(hi:i∈O)(hd:δ[i]?=some (some l))(r:σ[i]?=some (some (.ref a)))(ha:a∈A)(m:Jp o=true)(h:gY K (del H (A++A0)) d1 o) :
  bK K H0 A0 (upd H a o) A O (δ.set i (some d1)) σ:=by
 have n:del (upd H a (o)) (A++A0)=del H (A++A0):=kl (MF _ ha);have hl:i<δ.length:=(My.mp hd).1;refine⟨λb o e=>?_,R.ls0,R.new,λb t=>?_,by simp[R.len],λj e c q=>?_,λj e c q=>?_,λj k d' e b c s f g p1 p2=>?_⟩
 ·have p:b≠a:=λz=>by rw[z,R.new a ha]at e;cases e
  rw[aB p];exact R.same b o e
 ·by_cases z:b=a
  ·exact⟨_,by rw[z,aH],m⟩
  ·rw[aB z];exact R.ls b t
 ·rcases get_set q with⟨z,q⟩|⟨z,q⟩
  ·subst z;exact absurd hi c
  ·rw[n];exact R.pl j e c q
 ·rcases get_set q with⟨z,q⟩|⟨z,q⟩
  ·cases q;subst z;exact⟨a,_,_,r,ha,aH,rfl,by rw[n];exact h⟩
  ·obtain⟨b,zs,es,e1,h1,h2,u,v⟩:=R.own j e c q;have p:b≠a:=λw=>z (R.inj i j _ _ a hi c hd q r (by rw[<-w];exact e1))
   exact⟨b,zs,es,e1,h1,by rw[aB p];exact h2,u,by rw[n];exact v⟩
 ·rcases get_set f with⟨z1,f⟩|⟨z1,f⟩ <;> rcases get_set g with⟨z2,g⟩|⟨z2,g⟩
  ·rw[<-z1,z2]
  ·subst z1;exact R.inj i k l e b hi s hd g p1 p2
  ·subst z2;exact R.inj j i d' l b c hi f hd p1 p2
  ·exact R.inj j k d' e b c s f g p1 p2
end
noncomputable def bM(l:List (Int×Int)):PyData:=.dict (l.map λp=>(PyData.int p.1,PyData.int p.2))
noncomputable def dkO(l:List (Int×Int)):HO:=.dK (l.map λp=>(.inl p.1,V.int p.2))
theorem jA:∀{l m:List (Int×Int)},l.map (λp=>(PyData.int p.1,PyData.int p.2))=m.map (λp=>(PyData.int p.1,PyData.int p.2))->l=m
 |[],[],_=>rfl
 |[],_::_,h=>by simp at h
 |_::_,[],h=>by simp at h
 |(a,b)::l,(c,d)::m,h=>by simp only[M5,List.cons.injEq,Prod.mk.injEq,PyData.int.injEq]at h;obtain⟨⟨rfl,rfl⟩,h⟩:=h;rw[jA h]
theorem Is.ofDic(h:Is K H (bM l) v):∃a,v=.ref a/\H a=some (dkO l):=by
 unfold bM Is at h;rcases h with (⟨a,ns,_,e,_⟩|⟨a,m,e1,e,h2⟩)|⟨a,C,dx,fs,_,_,_,h|h⟩
 ·cases l with
  |nil=>simp at e
  |cons p l=>simp at e
 ·rcases e with⟨b,e,rfl⟩|⟨b,e,rfl⟩|⟨b,_,e,rfl⟩
  ·rw[jA e];exact⟨a,e1,h2⟩
  ·cases l <;> cases e
  ·cases l <;> cases e
 ·cases l with
  |nil=>unfold Isk at h;simp at h
  |cons p l=>rw[M5]at h;unfold Isk at h;obtain⟨f,_,_,_,q,_⟩:=h;cases q
 ·cases l with
  |nil=>unfold Isk at h;simp at h
  |cons p l=>rw[M5]at h;unfold Isk at h;obtain⟨f,_,_,_,q,_⟩:=h;cases q
theorem IE(h:H a=some (dkO l)):Is K H (bM l) (.ref a):=by unfold bM Is;exact .inl (.inr ⟨a,_,rfl,.inl ⟨l,rfl,rfl⟩,h⟩)
noncomputable def jQ:List (PyData×PyData)->Option (List (Int×Int))
 |[]=>some []
 |(.int a,.int b)::r=>(jQ r).map λl=>(a,b)::l
 |_=>none
theorem mL:∀{r:List (PyData×PyData)}{l:List (Int×Int)},jQ r=some l->r=l.map λp=>(PyData.int p.1,PyData.int p.2)
 |[],l,e=>by cases e;rfl
 |(a,b)::r,l,e=>by
  cases a <;> cases b <;> first|(cases e;done)|skip
  unfold jQ at e;cases q:jQ r with
  |none=>rw[q]at e;cases e
  |some m=>rw[q]at e;cases e;rw[mL q];rfl
theorem kW:∀l:List (Int×Int),jQ (l.map λp=>(PyData.int p.1,PyData.int p.2))=some l
 |[]=>rfl
 |p::r=>by rw[M5];unfold jQ;rw[kW r];rfl
def qf:PyData->Option (List (Int×Int))
 |.dict kvs=>jQ kvs
 |_=>none
theorem kY{d:PyData}(h:qf d=some l):d=bM l:=by
 unfold qf at h;split at h
 ·unfold bM;rw[mL h]
 ·cases h
theorem gw(l:List (Int×Int)):qf (bM l)=some l:=kW l
noncomputable def a8(l:List (Int×Int))(k:Int):Option Int:=(l.find? λp=>decide (p.1=k)).map (·.2)
noncomputable def eE(l:List (Int×Int))(k v:Int):List (Int×Int):=if (l.any λp=>decide (p.1=k))=true then l.map (λp=>if p.1=k then (p.1,v) else p) else l++[(k,v)]
theorem iz(l:List (Int×Int))(k:Int):gh (l.map λp=>((.inl p.1,V.int p.2):Key×V)) (.inl k)=(a8 l k).map V.int:=by
 unfold gh a8
 induction l with
 |nil=>rfl
 |cons p r ih =>
  rw[M5,MY,MY];by_cases z:p.1=k
  ·have h1:decide ((Sum.inl p.1:Key)=.inl k)=true:=decide_eq_true (by rw[z]);simp only[h1,decide_eq_true z];rfl
  ·have h1:decide ((Sum.inl p.1:Key)=.inl k)=false:=decide_eq_false λq=>z (Sum.inl.inj q)
   simp only[h1,decide_eq_false z];exact ih
theorem sW(l:List (Int×Int))(k v:Int):putK (l.map λp=>((.inl p.1,V.int p.2):Key×V)) (.inl k) (.int v)=(eE l k v).map λp=>(.inl p.1,V.int p.2):=by
 have ha:((l.map λp=>((.inl p.1,V.int p.2):Key×V)).any λa=>decide (a.1=.inl k))=l.any λp=>decide (p.1=k):=by
  rw[List.any_map];congr 1;funext p;by_cases z:p.1=k
  ·simp[z]
  ·have:¬ ((Sum.inl p.1:Key)=.inl k):=λq=>z (Sum.inl.inj q)
   simp[z,this]
 unfold putK eE;rw[ha];split
 ·rw[Ms,Ms];refine Mv λp _=>?_
  by_cases z:p.1=k
  ·simp[z]
  ·have:¬ ((Sum.inl p.1:Key)=.inl k):=λq=>z (Sum.inl.inj q)
   simp[z,this]
 ·rw[N4];rfl
section
variable {E:XK}{o f i' value:Expr}{go gf:Ds->Rs PyData}{apos:Pos}
theorem GN:PD X E (.Dict [] [] pos) (gC (bM [])):=(vX).imp λσ H Q ⟨A,δ,R,o⟩=>λp a=>o (.ref p) _ (bL a) (IE (l:=[]) (by rw[aI (R.ls.new a)];exact aH))
def lK(go ge gf:Ds->Rs PyData):Ds->Rs PyData:=λδ=>(go δ).bind λd=>match qf d with
 |some l=>(ge δ).bind λk=>(gf δ).bind λz=>(match k,z with
  |.int k,.int z=>.ok (.int ((a8 l k).getD z))
  |_,_=>.no)
 |none=>.no
end
section
variable {E:XK}{o f k value:Expr}{go gf gv:Ds->Rs PyData}{apos:Pos}
theorem Em(q:X.A.units+1<cLine)(r:PD X E o go)(s:PD X E e ge)(t:PD X E f gf)(m:M2 X o "get" apos e f cpos):PD X E (.Call (.Attribute o "get" apos) [e,f] [] cpos) (lK go ge gf) :=
 (DX q r s t m).imp λσ H Q i=>by
  obtain⟨A,δ,R,b⟩:=i;unfold lK at b;refine eD.run R (λd w v H1 j x h1=>?_) (λC c H' s'=>?_) (λc=>?_)
  ·simp only[w,Rs.ag]at b;split at b
   ·rename_i l hl;rw[kY hl]at h1;obtain⟨a,rfl,ha⟩:=h1.ofDic;have g:H1 a=some (dkO l):=aw _ _ ha;refine⟨a,rfl,.inl ⟨_,.inl g⟩,?_⟩;refine eD.run x (λkd y u H2 s2 R2 n=>?_) (λC c H' s'=>?_) (λc=>?_)
    ·simp only[y,Rs.ag]at b;refine eD.run R2 (λzd B z D p R3 F=>?_) (λC c H' s'=>?_) (λc=>?_)
     ·simp only[B,Rs.ag]at b;split at b
      ·rename_i h zz;have e1:=n.ofInt;have e2:=F.ofInt;subst e1 e2;refine⟨_,nZ.k (k:=.inl h) (p _ _ (s2 _ _ g)),?_⟩;rw[iz];have:((a8 l h).map V.int).getD (.int zz)=.int ((a8 l h).getD zz):=by cases a8 l h <;> rfl
       rw[this];exact b _ D (j.trans (s2.trans p)) bJ
      ·exact b.elim
     ·simp only[c,Rs.cB]at b;exact b H' (j.trans (s2.trans s'))
     ·simp only[c,Rs.bf]at b;exact b
    ·simp only[c,Rs.cB]at b;exact b H' (j.trans s')
    ·simp only[c,Rs.bf]at b;exact b
   ·exact b.elim
  ·simp only[c,Rs.cB]at b;exact b H' s'
  ·simp only[c,Rs.bf]at b;exact b
def pj(i:Nat):Ds->Sr:=λδ=>if i<δ.length then .nx (δ.set i (some (bM []))) else .no
theorem CQ(c:X.N.Nodup)(e:i∈O)(hi:X.N[i]?=some x)(f:Loc X.env.scope x)(g:swapsWith (.Dict [] [] pos') (some (.Name x apos)) pos.line X.env=pure false)
  (h:X.fn x=true\/X.env.scope.names.lookup x=some .local):PSD X E O (.Assign [.Name x apos] (.Dict [] [] pos') pos) (pj i):=(mV c hi f vX g h).imp λD σ H a=>by
 obtain⟨H0,A0,A,δ,R,o⟩:=a;unfold pj at o;split at o
 ·rename_i hl;intro p b;exact o (p::A) _ _ (R.setOwnO (o:=dkO []) e hl b (bL b) aH rfl (.inl ⟨[],rfl,rfl⟩))
 ·exact o.elim
def ff(i:Nat)(gk gv:Ds->Rs PyData):Ds->Sr:=λδ=>match δ[i]? with
 |some (some d)=>(match qf d with
  |some l=>ofR (gv δ) λv=>ofR (gk δ) λk=>(match k,v with
   |.int k,.int v=>if l.length<1000000 then .nx (δ.set i (some (bM (eE l k v)))) else .no
   |_,_=>.no)
  |none=>.no)
 |_=>.no
theorem D9(B:X.A.units+1<cLine)(h:PD X E value gv)(F:PD X E k gk)(w:i∈O)(hi:X.N[i]?=some x)(hv:Vis X.env.scope x)
  (hd:(x==("__debug__":Str))=false) (f:(x==("__classdict__":Str))=false) (G:swapsWith value (some (.Subscript (.Name x pn) k pos')) pos.line X.env=pure false):PSD X E O (.Assign [.Subscript (.Name x pn) k pos'] value pos) (ff i gk gv) :=
 (F7 B (i7 hi hv hd f) F h G).imp λD σ H g=>by
  obtain⟨H0,A0,A,δ,R,a⟩:=g;unfold ff at a;split at a
  ·rename_i d q;split at a
   ·rename_i l hl;rw[kY hl]at q;obtain⟨p,o',d',e1,I,j,e2,n⟩:=R.own i _ w q;subst e2;have r:o'=dkO l:=by
     have n:EO _ o':=n;rcases n with⟨m,b,rfl⟩|⟨m,b,_⟩|⟨m,_,b,_⟩
     ·rw[jA b];rfl
     ·cases l <;> cases b
     ·cases l <;> cases b
    subst r;refine eD.run R.full (λvd J v H1 y K s=>?_) (λC c H' s'=>?_) (λc=>?_)
    ·simp only[J,ax]at a;refine⟨_,e1,?_⟩;refine eD.run K (λkd L u H2 s2 R2 t=>?_) (λC c H' s'=>?_) (λc=>?_)
     ·simp only[L,ax]at a;split at a
      ·rename_i z M;split at a
       ·rename_i hlen;have b:=t.ofInt;have P:=s.ofInt;subst b P;have e:=y.trans s2;refine⟨p,_,rfl,Cf.k (k:=.inl z) (e _ _ j) (by rw[M4,sizeLine_eq];omega),?_⟩;rw[sW];exact a A _ _ ((R.step e).putO (o:=dkO (eE l z M)) w q e1 I rfl (.inl ⟨_,rfl,rfl⟩))
       ·exact a.elim
      ·exact a.elim
     ·simp only[c,pK]at a;exact a H' (R.same.trans (y.trans s'))
     ·simp only[c,pF]at a;exact a
    ·simp only[c,pK]at a;exact a H' (R.same.trans s')
    ·simp only[c,pF]at a;exact a
   ·exact a.elim
  ·exact a.elim
end
theorem ck.u1{k:Nat}{A:Around}(r:ck k A):A.units+1<cLine:=by have:=r.un;omega
def He(b N:List Str)(p:Str)(cap:List Nat)(a sc:Scope):Bool :=
 (sc.kind==.function)&&!sc.isCoroutine&&!sc.isGenerator&&decide N.Nodup&&decide (N.take 1=[p])&&(sc.names.lookup p==some .local)&&sc.names.all (λx=>x.2 != .cell) &&
 sc.names.all (λy=>y.2 != .free||a.names.lookup y.1==some .cell)&&decide (N.length=1+cap.length) &&
 (List.range cap.length).all (λi=>match N[1+i]?,cap[i]? with
  |some x,some m=>(b[m]?==some x)&&(sc.names.lookup x==some .free)&&(a.names.lookup x==some .cell)
  |_,_=>false)
theorem nu{α:Type}{x:Str}{k:α}:∀{l:List (Str×α)},l.lookup x=some k->(x,k)∈l
 |[],h=>by cases h
 |(y,j)::r,h=>by
  rw[MB]at h;cases q:(x==y) with
  |true=>rw[q]at h;cases h;rw[eq_of_beq q];exact M7
  |false=>rw[q]at h;exact M6 _ (nu h)
theorem pD{e:List Str}{b:Scope}{A:Around}{E:XK}
  {C:XK} {a:Expr} {n G:Pos} {I:Addr} {k:Nat} {p:Str}
  (hm:mg "min"=none) (J:ck (k+2) (cZ CX P w K mg base e qual b f cd A outer s H E).A) (ha:PD (cZ CX P w K mg base e qual b f cd A outer s H E) C a ga) (T:DJ (cZ CX P w K mg base e qual b f cd A outer s H E) c I)
  (l:∀(q c':Addr)(s':Shared)(H':Hp),PD (sE (CXW P w) P w K mg base N ((cZ CX P w K mg base e qual b f cd A outer s H E).env.qual++"<lambda>") scope q (.ref c') (mZ scope.names (cZ CX P w K mg base e qual b f cd A outer s H E).env.cells []) (cZ CX P w K mg base e qual b f cd A outer s H E).A.in1 (cZ CX P w K mg base e qual b f cd A outer s H E).stack s' H' E0) E0 body gb)
  (hok:He e N p cap b scope=true:=by decide +kernel)
  (L:∀(q:Str)(cl:List (Str×Addr))(c':Addr)(pm t u:Value),bindArgs (W.kla_fn "<lambda>" q params body scope cl pm (.ref c') t) ⟨[u],[]⟩=pure ([p].zip [u]):=by intro _ _ _ _ _ _;rfl)
  (M:Gl (cZ CX P w K mg base e qual b f cd A outer s H E) "min":=by rfl) (O:starEach [a] (cZ CX P w K mg base e qual b f cd A outer s H E).env=[(false,eval a (cZ CX P w K mg base e qual b f cd A outer s H E).env)]:=by rfl) (o:defaultsOf params (cZ CX P w K mg base e qual b f cd A outer s H E).env=([],[]):=by rfl) :
  PD (cZ CX P w K mg base e qual b f cd A outer s H E) C (.Call (.Name "min" G) [a] [⟨some "key",.Lambda params body scope n,kp⟩] pos) (iY cap ga gb):=by
 unfold He at hok;simp only[Mm,Mu,decide_eq_true_eq,beq_iff_eq,bne_iff_ne,Bool.or_eq_true,Oa]at hok;obtain⟨⟨⟨⟨⟨⟨⟨⟨⟨Q,R⟩,S⟩,U⟩,X⟩,Y⟩,Z⟩,D⟩,o9⟩,v⟩:=hok;have g:∀x,b.names.lookup x=some .cell->∃c,(cZ CX P w K mg base e qual b f cd A outer s H E).env.cells.lookup x=some c:=λx r=>oS r
 refine zT (cap:=cap) rfl hm J ha T (jd λy hy hf=>?_) ⟨Q,R,S,U,X,λx r=>by rw[Mh.mp r];exact Y,Z⟩ (λx c h=>qj _ _ _ x c (λ_ _ z=>by cases z) h) (λx r=>?_) o9 (λi m x h1 h2=>?_) (L _ _) (λq c' s' H'=>l q c' s' H') M O o
 ·rcases D y hy with z|z
  ·exact absurd hf z
  ·exact g y.1 z
 ·have j:=nu r;rcases D (x,.free) j with z|z
  ·exact absurd rfl z
  ·obtain⟨c,hc⟩:=g x z;exact k6 _ _ _ x c j hc
 ·have B:i<cap.length:=(My.mp h2).1;have:=v i (N2.mpr B);rw[h1,h2]at this;simp only[Mm,beq_iff_eq]at this;obtain⟨⟨q1,q2⟩,F⟩:=this;exact⟨q1,q2,.inl F,.inr (.inl F)⟩
end L2
namespace RS
open PySem
set_option genInjectivity true in
structure Er where
 every:Int
 due:Int
 late:Int
 parts:List (Int×Option Int)
noncomputable def bw:Option Int->PyData
 |none=>.none
 |some i=>.int i
def aQ(p:Int×Option Int):PyData:=.tuple [.int p.1,bw p.2]
def Er.d(e:Er):PyData:=.tuple [.int e.every,.int e.due,.int e.late,.tuple (e.parts.map aQ)]
def aq(es:List Er):PyData:=.tuple (es.map Er.d)
noncomputable def isWhole(d:PyData)(lo hi:Int):Bool:=match d with
 |.int i=>decide (lo<=i)&&decide (i<=hi)
 |_=>false
def bZ(d:PyData)(lo hi:Int):Bool:=match d with
 |.tuple ds=>decide (lo<=(ds.length:Int))&&decide ((ds.length:Int)<=hi)
 |_=>false
def dE(d:PyData):Bool:=match d with
 |.tuple [a,b]=>isWhole a 1 20&&(match b with|.none=>true|b=>isWhole b 0 3)
 |_=>false
def jH(ds:List PyData):Bool:=match ds.getLast? with
 |some (.tuple [_,.none])=>true
 |_=>false
def eG(d:PyData):Bool:=match d with
 |.tuple ds=>decide (1<=ds.length)&&decide (ds.length<=4)&&ds.all dE&&jH ds
 |_=>false
def bR(d:PyData):Bool:=match d with
 |.tuple [.int e,du,.int l,ps]=>decide (2<=e)&&decide (e<=60)&&(decide (0<=l)&&decide (l<=(if e-1<20 then e-1 else 20)))&&isWhole du 1 (e-l)&&eG ps
 |_=>false
def eQ(d:PyData):Bool:=match d with
 |.tuple ds=>decide (1<=ds.length)&&decide (ds.length<=6)&&ds.all bR
 |_=>false
structure Er.Ok(e:Er):Prop where
 e1:2<=e.every
 e2:e.every<=60
 l1:0<=e.late
 l2:e.late<=20
 l3:e.late<e.every
 d1:1<=e.due
 d2:e.due<=e.every-e.late
 p1:e.parts≠[]
 p2:e.parts.length<=4
 pl:∀p∈e.parts,1<=p.1/\p.1<=20/\∀t,p.2=some t->0<=t/\t<=3
 la:∀p,e.parts.getLast?=some p->p.2=none
theorem AB{p:Int×Option Int}(h1:1<=p.1)(h2:p.1<=20)(c:∀t,p.2=some t->0<=t/\t<=3):dE (aQ p)=true:=by
 obtain⟨l,t⟩:=p;cases t with
 |none=>simp[dE,aQ,bw,isWhole,h1,h2]
 |some t =>obtain⟨a,b⟩:=c t rfl;simp[dE,aQ,bw,isWhole,h1,h2,a,b]
theorem wb{e:Er}(h:e.Ok):bR e.d=true:=by
 have f:(e.parts.map aQ).all dE=true:=by rw[Mu];intro d hd;obtain⟨p,f,rfl⟩:=Mj.mp hd;obtain⟨a,b,c⟩:=h.pl p f;exact AB a b c
 have hl:jH (e.parts.map aQ)=true:=by
  unfold jH;rw[List.getLast?_map];cases q:e.parts.getLast? with
  |none=>exact absurd (List.getLast?_eq_none_iff.mp q) h.p1
  |some p =>obtain⟨l,t⟩:=p;have:t=none:=h.la _ q;subst this;rfl
 have hn:1<=e.parts.length:=by
  cases q:e.parts with
  |nil=>exact absurd q h.p1
  |cons _ _=>simp
 have h1:=h.e1;have h2:=h.e2;have i:=h.l1;have h4:=h.l2;have h5:=h.l3;have j:=h.d1;have m:=h.d2;have n:=h.p2;have g:e.late<=if e.every-1<20 then e.every-1 else 20:=by split <;> omega
 simp[bR,Er.d,eG,isWhole,f,hl,hn,h1,h2,i,j,m,n,g]
theorem tO{es:List Er}(h1:1<=es.length)(h2:es.length<=6)(h:∀e∈es,e.Ok):eQ (aq es)=true:=by
 have a:(es.map Er.d).all bR=true:=by rw[Mu];intro d hd;obtain⟨e,b,rfl⟩:=Mj.mp hd;exact wb (h e b)
 simp[eQ,aq,h1,h2,a]
noncomputable def cellAt(ns:List Int)(k:Int):Int :=
 if k<(ns.length:Int) then ns.getD k.toNat 0 else if ns=[] then 0 else ns.getD (k % (ns.length:Int)).toNat 0*31+k
def AG(ns:List Int)(k:Int):Int:=(cellAt ns k+7919*k+1)*48271 % 2147483647
def mixed(ns:List Int)(k many:Int):Int:=(AG ns k*AG ns k+7*AG ns k+k) % 2147483629 % many
theorem EI(ns:List Int)(k:Int):0<=AG ns k:=Ni _ (by decide)
theorem Ff(ns:List Int)(k:Int):AG ns k<2147483647:=Nm _ (by decide)
theorem cz(ns:List Int)(k:Int)(h:0<many):0<=mixed ns k many:=Ni _ (by omega)
theorem cJ(ns:List Int)(k:Int)(h:0<many):mixed ns k many<many:=Nm _ h
def kA(i:Int):Option Int:=if i=0 then some 0 else if i=1 then some 1 else if i=2 then some 1 else if i=3 then some 0 else none
def eO(ns:List Int)(j:Int)(a:Bool):Int×Option Int:=(1+mixed ns j 40 % 4,if a then kA (mixed ns j 40 / 4 % 5) else none)
def ie(ns:List Int)(at' every:Int):Int :=
 if every-1<mixed ns (at' + 1) 4*(if mixed ns (at' + 2) 3=0 then 1 else 0) then every-1 else mixed ns (at' + 1) 4*(if mixed ns (at' + 2) 3=0 then 1 else 0)
def nC(ns:List Int)(at' a:Int):Int:=if mixed ns (at' + 1) 3=0 then a-mixed ns (at' + 2) a else a
def mkE(ns:List Int)(at' top:Int)(a:Bool):Er where
 every:=3+mixed ns at' top
 late:=ie ns at' (3+mixed ns at' top)
 due:=nC ns at' (3+mixed ns at' top-ie ns at' (3+mixed ns at' top))
 parts:=((List.range (mixed ns (at' + 3) 3).toNat).map λ(k:Nat)=>eO ns (at' + 4+(k:Int)) a)++[(1+mixed ns (at' + 6) 3,none)]
def nQ(ns:List Int)(at' most top:Int)(a:Bool):List Er:=(List.range (1+mixed ns at' most).toNat).map λ(k:Nat)=>mkE ns (at' + 1+7*(k:Int)) top a
theorem wd(ns:List Int)(at' every:Int)(h:3<=every):0<=ie ns at' every/\ie ns at' every<=3/\ie ns at' every<every:=by
 have h1:=cz ns (at' + 1) (many:=4) (by decide);have h2:=cJ ns (at' + 1) (many:=4) (by decide);unfold ie;generalize mixed ns (at' + 1) 4=x at *;by_cases hc:mixed ns (at' + 2) 3=0
 ·simp only[hc,if_true,Int.mul_one];split <;> omega
 ·simp only[hc,if_false,Int.mul_zero];split <;> omega
theorem EJ(ns:List Int)(at' a:Int)(h:1<=a):1<=nC ns at' a/\nC ns at' a<=a:=by have h1:=cz ns (at' + 2) (many:=a) (by omega);have h2:=cJ ns (at' + 2) (many:=a) (by omega);unfold nC;split <;> omega
theorem EK(i t:Int)(h:kA i=some t):0<=t/\t<=1:=by
 unfold kA at h
 repeat' split at h
 all_goals (first|(cases h;decide)|cases h)
theorem BW(ns:List Int)(j:Int)(a:Bool):1<=(eO ns j a).1/\(eO ns j a).1<=4/\∀t,(eO ns j a).2=some t->0<=t/\t<=1:=by
 have h1:0<=mixed ns j 40 % 4:=Ni _ (by decide);have h2:mixed ns j 40 % 4<4:=Nm _ (by decide);refine⟨by unfold eO;simp only;omega,by unfold eO;simp only;omega,λt h=>?_⟩;unfold eO at h;simp only at h;cases a with
 |false=>simp at h
 |true=>simp at h;exact EK _ _ h
theorem Hi(ns:List Int)(at' top:Int)(a:Bool)(h1:0<top)(h2:top<=58):(mkE ns at' top a).Ok:=by
 have a1:=cz ns at' h1;have a2:=cJ ns at' h1;have l:=wd ns at' (3+mixed ns at' top) (by omega);have d:=EJ ns at' (3+mixed ns at' top-ie ns at' (3+mixed ns at' top)) (by omega);have n1:=cz ns (at' + 3) (many:=3) (by decide);have n2:=cJ ns (at' + 3) (many:=3) (by decide);have n3:=cz ns (at' + 6) (many:=3) (by decide);have n4:=cJ ns (at' + 6) (many:=3) (by decide);refine⟨?_,?_,l.1,?_,l.2.2,d.1,d.2,?_,?_,?_,?_⟩
 ·show 2<=3+mixed ns at' top;omega
 ·show 3+mixed ns at' top<=60;omega
 ·have:=l.2.1;show ie ns at' (3+mixed ns at' top)<=20;omega
 ·simp[mkE]
 ·simp only[mkE,Mr,M4,NX,MQ];omega
 ·intro p b;simp only[mkE,Mx,Mj,Mh]at b;rcases b with⟨k,_,rfl⟩|rfl
  ·have:=BW ns (at' + 4+(k:Int)) a;refine⟨this.1,by omega,λt c=>?_⟩;have:=this.2.2 t c;omega
  ·exact⟨by simp only;omega,by simp only;omega,λt c=>by cases c⟩
 ·intro p b;simp only[mkE,List.getLast?_append,List.getLast?_singleton,Option.some_or]at b;cases b;rfl
theorem Cq(ns:List Int)(at' most top:Int)(a:Bool)(h:0<most):1<=(nQ ns at' most top a).length/\((nQ ns at' most top a).length:Int)<=most:=by have h1:=cz ns at' h;have h2:=cJ ns at' h;simp only[nQ,M4,NX];omega
theorem Fu(ns:List Int)(at' most top:Int)(a:Bool)(h1:0<top)(h2:top<=58):∀e∈nQ ns at' most top a,e.Ok:=by intro e b;simp only[nQ,Mj]at b;obtain⟨k,_,rfl⟩:=b;exact Hi _ _ _ _ h1 h2
end RS
variable {es:List RS.Er}
namespace RS
open PySem L2
structure Cs where
 RankError:Addr
 NoErrands:Addr
 NoRanks:Addr
 NoComings:Addr
 NoErrand:Addr
 NoNumber:Addr
 TooLong:Addr
 NoText:Addr
 Holding:Addr
 Jobs:Addr
abbrev Gf:=List PyData->Rs PyData
def bY(K:W.Frag)(mg:Str->Option Value)(x:Str)(st:Stmt)(ps:List Str):Prop:=∃f fd,Fun K x x st f fd/\Binds K fd ps []/\mg x=some (.ref f)
def iK(cs:Cs):Ds->Sr :=
 (az (sIf (cOr (gP (gT (g1 (ia "int") (ae 0)))) (gT (g1 (ia "bool") (ae 0)))) (bx (gC (.bool false))) aX)
  (bx (md dLe dLe (ae 1) (ae 0) (ae 2))))
def iJ(cs:Cs):Ds->Sr :=
 (bx (vj (g1 (ia "tuple") (ae 0)) (md dLe dLe (ae 1) (gF bA (af (ae 0) ah)) (ae 2))))
def gx(cs:Cs)(aP aY:Gf):Ds->Sr :=
 (az (sIf (cOr (gP (gT (au aY (af (ae 0) (af (gC (.int 2)) (af (gC (.int 2)) ah)))))) (gP (gT (au aP (af (g2 dIx (ae 0) (gC (.int 0))) (af (gC (.int 1)) (af (gC (.int 20)) ah))))))) (bx (gC (.bool false))) aX)
  (bx (gOr (g1 nR (g2 dIx (ae 0) (gC (.int 1)))) (au aP (af (g2 dIx (ae 0) (gC (.int 1))) (af (gC (.int 0)) (af (g2 gM (gC (.int 4)) (gC (.int 1))) ah)))))))
def fI(cs:Cs)(aY a:Gf):Ds->Sr :=
 (az (sIf (cOr (gP (gT (au aY (af (ae 0) (af (gC (.int 1)) (af (gC (.int 4)) ah)))))) (gP (gT (gF nW (af (gL (aS 1 (bB (ae 0)) ba (au a (af (ae 1) ah)) aE)) ah))))) (bx (gC (.bool false))) aX)
  (bx (g1 nR (g2 dIx (g2 dIx (ae 0) (g1 kr (gC (.int 1)))) (gC (.int 1))))))
def dN(cs:Cs)(aP a aY:Gf):Ds->Sr :=
 (az (sIf (gP (gT (au aY (af (ae 0) (af (gC (.int 4)) (af (gC (.int 4)) ah)))))) (bx (gC (.bool false))) aX)
  (az (aR [] 1 (g2 dIx (ae 0) (gC (.int 0))))
  (az (aR [] 2 (g2 dIx (ae 0) (gC (.int 1))))
  (az (aR [] 3 (g2 dIx (ae 0) (gC (.int 2))))
  (az (sIf (gP (gT (au aP (af (ae 1) (af (gC (.int 2)) (af (gC (.int 60)) ah)))))) (bx (gC (.bool false))) aX)
  (az (sIf (gP (gT (au aP (af (ae 3) (af (gC (.int 0)) (af (gF gA (af (gC (.int 20)) (af (g2 gM (ae 1) (gC (.int 1))) ah))) ah)))))) (bx (gC (.bool false))) aX)
  (bx (vj (au aP (af (ae 2) (af (gC (.int 1)) (af (g2 gM (ae 1) (ae 3)) ah)))) (au a (af (g2 dIx (ae 0) (gC (.int 3))) ah))))))))))
def iE(cs:Cs)(aY a:Gf):Ds->Sr :=
 (az (sIf (cOr (gP (gT (au aY (af (ae 0) (af (gC (.int 1)) (af (gC (.int 6)) ah)))))) (gP (gT (gF nW (af (gL (aS 1 (bB (ae 0)) ba (au a (af (ae 1) ah)) aE)) ah))))) (jk cs.NoErrands (af (gC (.str "errands are a tuple of 1 to 6 errands (every, due, late, parts)")) ah)) aX)
  (bx (ae 0)))
def cH(cs:Cs)(aY aP:Gf):Ds->Sr :=
 (az (aR [] 2 (g2 gM (gF bA (af (ae 0) ah)) (gC (.int 1))))
  (az (sIf (cOr (gP (gT (au aY (af (ae 1) (af (gF bA (af (ae 0) ah)) (af (gF bA (af (ae 0) ah)) ah)))))) (gP (gT (gF nW (af (gL (aS 3 (bB (ae 1)) ba (au aP (af (ae 3) (af (gC (.int 0)) (af (ae 2) ah)))) aE)) ah))))) (jk cs.NoRanks (af (gC (.str "ranks are a tuple of the numbers of all errands")) ah)) aX)
  (az (sIf (gT (g2 dLt (gF l8 (af (ae 1) ah)) (gF bA (af (ae 1) ah)))) (jk cs.NoRanks (af (gC (.str "ranks have each errand's number once")) ah)) aX)
  (bx (ae 1)))))
def iM(cs:Cs):Ds->Sr :=
 (bx (g2 (DP false) (ae 1) (gL (aS 2 (bB (g2 dIx (ae 0) (gC (.int 3)))) ba (g2 dIx (ae 2) (gC (.int 1))) aE))))
def lg(cs:Cs)(cn:Gf):Ds->Sr :=
 (az (eP [] (kB (af (ae 1) ah)) (d8 [3,4]) (sIf (gT (au cn (af (g2 dIx (ae 0) (ae 4)) (af (ae 2) ah)))) (bx (ae 3)) aX))
  (bx (gC .none)))
def f6(cs:Cs)(dz:Gf):Ds->Sr :=
 (bx (gL (aS 2 (eJ (af (gC (.int 4)) ah)) ba (au dz (af (ae 0) (af (ae 1) (af (ae 2) ah)))) aE)))
def gj(cs:Cs)(aj:Gf):Ds->Sr :=
 (az (aR [7] 4 (g2 bg (gC (.int 3)) (au aj (af (ae 0) (af (ae 1) (af (ae 2) ah))))))
  (az (aR [7] 5 (g2 fc (au aj (af (ae 0) (af (g2 bg (ae 1) (gC (.int 1))) (af (gC (.int 4)) ah)))) (gF nY (af (g2 dEq (au aj (af (ae 0) (af (g2 bg (ae 1) (gC (.int 2))) (af (gC (.int 3)) ah)))) (gC (.int 0))) ah))))
  (az (aR [7] 5 (gF gA (af (ae 5) (af (g2 gM (ae 4) (gC (.int 1))) ah))))
  (az (aR [7] 6 (g2 gM (ae 4) (ae 5)))
  (az (sIf (gT (g2 dEq (au aj (af (ae 0) (af (g2 bg (ae 1) (gC (.int 1))) (af (gC (.int 3)) ah)))) (gC (.int 0)))) (aR [7] 6 (g2 gM (ae 6) (au aj (af (ae 0) (af (g2 bg (ae 1) (gC (.int 2))) (af (ae 6) ah)))))) aX)
  (az (dh [7] 7 ah)
  (az (eP [7] (eJ (af (au aj (af (ae 0) (af (g2 bg (ae 1) (gC (.int 3))) (af (gC (.int 3)) ah)))) ah)) (aZ 8) (az (aR [7] 9 (au aj (af (ae 0) (af (g2 bg (g2 bg (ae 1) (gC (.int 4))) (ae 8)) (af (gC (.int 40)) ah)))))
  (az (fR [7] 7 (cL (af (g2 bg (gC (.int 1)) (g2 eC (ae 9) (gC (.int 4)))) (af (g2 dIx (jj (af (gC (.int 0)) (af (gC (.int 1)) (af (gC (.int 1)) (af (gC (.int 0)) (af (gC .none) ah)))))) (g2 eC (g2 iS (ae 9) (gC (.int 4))) (gC (.int 5)))) ah))))
  (sIf (gP (gT (ae 3))) (iO 7 (g1 kr (gC (.int 1))) (cL (af (g2 dIx (g2 dIx (ae 7) (g1 kr (gC (.int 1)))) (gC (.int 0))) (af (gC .none) ah)))) aX))))
  (bx (cL (af (ae 4) (af (ae 6) (af (ae 5) (af (gF jP (af (g2 bg (ae 7) (jj (af (cL (af (g2 bg (gC (.int 1)) (au aj (af (ae 0) (af (g2 bg (ae 1) (gC (.int 6))) (af (gC (.int 3)) ah))))) (af (gC .none) ah))) ah))) ah)) ah)))))))))))))
def fB(cs:Cs)(b9 aj:Gf):Ds->Sr :=
 (az (aR [] 5 (g2 bg (gC (.int 1)) (au aj (af (ae 0) (af (ae 1) (af (ae 2) ah))))))
  (bx (gF jP (af (gL (aS 6 (eJ (af (ae 5) ah)) ba (au b9 (af (ae 0) (af (g2 bg (g2 bg (ae 1) (gC (.int 1))) (g2 fc (gC (.int 7)) (ae 6))) (af (ae 3) (af (ae 4) ah))))) aE)) ah))))
def gZ(cs:Cs)(aj:Gf):Ds->Sr :=
 (az (dh [3,4] 3 (gLR (af (ae 2) ah)))
  (az (dh [3,4] 4 ah)
  (az (eP [3,4] (eJ (af (ae 2) ah)) (aZ 5) (iL 4 3 (au aj (af (ae 0) (af (g2 bg (ae 1) (ae 5)) (af (gF bA (af (ae 3) ah)) ah))))))
  (bx (gF jP (af (ae 4) ah))))))
def fG(cs:Cs):Ds->Sr :=
 (az (dh [2] 2 (af (gC .none) (af (gC .none) (af (gC .none) (af (gC .none) ah)))))
  (az (eP [2] (yN (af (g2 gM (gF bA (af (ae 1) ah)) (gC (.int 1))) (af (g1 kr (gC (.int 1))) (af (g1 kr (gC (.int 1))) ah)))) (aZ 3) (eP [2] (bB (g2 dIx (g2 dIx (ae 0) (g2 dIx (ae 1) (ae 3))) (gC (.int 3)))) (d8 [4,5]) (sIf (gT (g1 jL (ae 5))) (iO 2 (ae 5) (ae 3)) aX)))
  (bx (ae 2))))
end RS
set_option maxHeartbeats 1000000
variable {cs:RS.Cs}
namespace RS
open PySem L2
variable {e:PyData}{b a n:Int}{g:PyData->Bool}
theorem FR(h:i∉O):(mask O δ)[i]?=δ[i]?:=by
 unfold mask;by_cases z:O=[]
 ·rw[if_pos z]
 ·rw[if_neg z,Nq];cases δ[i]? with
  |none=>rfl
  |some d=>simp[h]
theorem bh(h:i∉O):ae i (mask O δ)=ae i δ:=by unfold ae;rw[FR h]
@[simp]theorem ar(d:PyData)(δ:Ds):ae 0 (some d::δ)=.ok d:=rfl
@[simp]theorem ay(i:Nat)(x:Option PyData)(δ:Ds):ae (i+1) (x::δ)=ae i δ:=rfl
@[simp]theorem cQ(d:PyData)(δ:Ds):gC d δ=.ok d:=rfl
@[simp]theorem ic(f:PyData->Option PyData)(a:Ds->Rs PyData)(δ:Ds):g1 f a δ=(a δ).bind λx=>Rs.ee (f x):=rfl
@[simp]theorem bV(f:PyData->PyData->Option PyData)(a b:Ds->Rs PyData)(δ:Ds):g2 f a b δ=(a δ).bind λx=>(b δ).bind λy=>Rs.ee (f x y):=rfl
@[simp]theorem eV(f:List PyData->Option PyData)(a:Ds->Rs (List PyData))(δ:Ds):gF f a δ=(a δ).bind λx=>Rs.ee (f x):=rfl
@[simp]theorem aF(δ:Ds):ah δ=.ok []:=rfl
@[simp]theorem aA(a:Ds->Rs PyData)(r:Ds->Rs (List PyData))(δ:Ds):af a r δ=(a δ).bind λx=>(r δ).bind λxs=>.ok (x::xs):=rfl
@[simp]theorem fU(a:Ds->Rs (List PyData))(δ:Ds):cL a δ=(a δ).bind λds=>.ok (.tuple ds):=rfl
@[simp]theorem wK(a:Ds->Rs (List PyData))(δ:Ds):jj a δ=(a δ).bind λds=>.ok (.list ds):=rfl
@[simp]theorem bS(f:Gf)(a:Ds->Rs (List PyData))(δ:Ds):au f a δ=(a δ).bind f:=rfl
@[simp]theorem dJ(a:Ds->Rs PyData)(δ:Ds):gT a δ=(a δ).bind truth:=rfl
@[simp]theorem aV(b:Bool):truth (.bool b)=.ok b:=rfl
@[simp]theorem uF(a:Ds->Rs Bool)(δ:Ds):gP a δ=(a δ).bind λb=>.ok (!b):=rfl
@[simp]theorem uC(a b:Ds->Rs Bool)(δ:Ds):qS a b δ=(a δ).bind λx=>if x=true then b δ else .ok false:=rfl
@[simp]theorem G7(a b:Ds->Rs Bool)(δ:Ds):cOr a b δ=(a δ).bind λx=>if x=true then .ok true else b δ:=rfl
@[simp]theorem oV(a b:Ds->Rs PyData)(δ:Ds):vj a b δ=(a δ).bind λx=>(truth x).bind λt=>if t=true then b δ else .ok (.bool false):=rfl
@[simp]theorem L6(a b:Ds->Rs PyData)(δ:Ds):gOr a b δ=(a δ).bind λx=>(truth x).bind λt=>if t=true then .ok (.bool true) else b δ:=rfl
@[simp]theorem LX(a:Ds->Rs PyData)(δ:Ds):LK a δ=(a δ).bind λx=>(truth x).bind λt=>.ok (.bool (!t)):=rfl
@[simp]theorem wy(a:Ds->Rs (List PyData))(δ:Ds):gL a δ=(a δ).bind λds=>.ok (.list ds):=rfl
@[simp]theorem Jm(a:Ds->Rs PyData)(δ:Ds):bB a δ=(a δ).bind yh:=rfl
@[simp]theorem LM(ds:List PyData):yh (.list ds)=.ok ds:=rfl
@[simp]theorem JE(ds:List PyData):yh (.tuple ds)=.ok ds:=rfl
@[simp]theorem j8(a:Ds->Rs (List PyData))(δ:Ds):eJ a δ=(a δ).bind FK:=rfl
@[simp]theorem Lp(a:Ds->Rs (List PyData))(δ:Ds):K2 a δ=(a δ).bind KR:=rfl
@[simp]theorem E3(a:Ds->Rs (List PyData))(δ:Ds):yN a δ=(a δ).bind BM:=rfl
@[simp]theorem Ka(a:Ds->Rs (List PyData))(δ:Ds):gLR a δ=(a δ).bind uI:=rfl
@[simp]theorem yt(a:Ds->Rs (List PyData))(δ:Ds):kB a δ=(a δ).bind qb:=rfl
@[simp]theorem Lo(ds:List PyData):qb [.list ds]=.ok (ja ds):=rfl
@[simp]theorem yc(ds:List PyData):qb [.tuple ds]=.ok (ja ds):=rfl
@[simp]theorem KN(f f':PyData->PyData->Option PyData)(a b c:Ds->Rs PyData)(δ:Ds):md f f' a b c δ=(a δ).bind λx=>(b δ).bind λy=>(Rs.ee (f x y)).bind λz=>(truth z).bind λt=>if t=true then (c δ).bind λw=>Rs.ee (f' y w) else .ok (.bool false):=rfl
@[simp]theorem JY(δ:Ds):Et δ=.ok none:=rfl
@[simp]theorem Ln(g:Ds->Rs PyData)(δ:Ds):KW g δ=(g δ).bind BA:=rfl
@[simp]theorem Lq(i:Int):BA (.int i)=.ok (some i):=rfl
@[simp]theorem KZ(g:Ds->Rs PyData)(lo hi:Ds->Rs (Option Int))(δ:Ds):Jo g lo hi δ=(g δ).bind λd=>(lo δ).bind λl=>(hi δ).bind λh=>Rs.ee (FX d l h):=rfl
@[simp]theorem Lv(x:List PyData)(lo hi:Option Int):FX (.list x) lo hi=some (.list (cutD x lo hi)):=rfl
@[simp]theorem Lw(x:List PyData)(lo hi:Option Int):FX (.tuple x) lo hi=some (.tuple (cutD x lo hi)):=rfl
@[simp]theorem aT(a b:Ds->Sr)(δ:Ds):az a b δ=match a δ with|.nx δ'=>b δ'|r=>r:=rfl
@[simp]theorem fE(δ:Ds):aX δ=.nx δ:=rfl
@[simp]theorem cp(c:Ds->Rs Bool)(a b:Ds->Sr)(δ:Ds):sIf c a b δ=ofR (c δ) λt=>if t=true then a δ else b δ:=rfl
@[simp]theorem bW(g:Ds->Rs PyData)(δ:Ds):bx g δ=ofR (g δ) .rt:=rfl
@[simp]theorem yP(g:Ds->Rs PyData)(δ:Ds):si g δ=ofR (g δ) λ_=>.nx δ:=rfl
@[simp]theorem i6(i:Nat)(g:Ds->Rs PyData)(δ:Ds):aR [] i g δ=if i<δ.length then ofR (g δ) λd=>.nx (δ.set i (some d)) else .no:=by unfold aR;rw[oP]
@[simp]theorem KA(C:Addr)(gs:Ds->Rs (List PyData))(δ:Ds):jk C gs δ=ofR (gs δ) λ_=>.rz C:=rfl
theorem kM(O:List Nat)(src:Ds->Rs (List PyData))(tgt:PyData->Ds->Option Ds)(body:Ds->Sr)(δ:Ds):eP O src tgt body δ=ofR (src (mask O δ)) λds=>forL tgt body ds δ:=rfl
@[simp]theorem bt(d:PyData):bE (.rt d)=.ok d:=rfl
@[simp]theorem JW(δ:Ds):bE (.nx δ)=.ok .none:=rfl
@[simp]theorem JX(C:Addr):bE (.rz C)=.rz C:=rfl
@[simp]theorem JZ:bE .no=.no:=rfl
@[simp]theorem eh(a b:Int):bg (.int a) (.int b)=some (.int (a+b)):=rfl
@[simp]theorem oN(a b:Int):gM (.int a) (.int b)=some (.int (a-b)):=rfl
@[simp]theorem sq(a b:Int):eC (.int a) (.int b)=if 0<b then some (.int (a % b)) else none:=rfl
@[simp]theorem zA(a b:Int):iS (.int a) (.int b)=if 0<b/\b<1073741824 then some (.int (a / b)) else none:=rfl
@[simp]theorem Bd(a b:Int):dLt (.int a) (.int b)=some (.bool (decide (a<b))):=rfl
@[simp]theorem Kw(a b:Int):dLe (.int a) (.int b)=some (.bool (decide (a<=b))):=rfl
@[simp]theorem JF(a b:Int):dGt (.int a) (.int b)=some (.bool (decide (b<a))):=rfl
@[simp]theorem L9(a b:Int):dGe (.int a) (.int b)=some (.bool (decide (b<=a))):=rfl
@[simp]theorem B5(a:Int):kr (.int a)=some (.int (-a)):=rfl
@[simp]theorem DV(d:PyData):nR d=some (.bool (fe d)):=rfl
@[simp]theorem LZ(d:PyData):jL d=some (.bool (!fe d)):=rfl
@[simp]theorem DZ:fe .none=true:=rfl
@[simp]theorem Af(i:Int):fe (.int i)=false:=rfl
@[simp]theorem Cc(x:List PyData)(i:Int):dIx (.tuple x) (.int i)=atI x i:=rfl
@[simp]theorem BK(x:List PyData)(i:Int):dIx (.list x) (.int i)=atI x i:=rfl
@[simp]theorem pW(x:List PyData):bA [.tuple x]=some (.int x.length):=rfl
@[simp]theorem jT(x:List PyData):bA [.list x]=some (.int x.length):=rfl
@[simp]theorem uv(a b:Int):gA [.int a,.int b]=some (.int (if b<a then b else a)):=rfl
@[simp]theorem DO(a b:Int):iy [.int a,.int b]=some (.int (if b>a then b else a)):=rfl
@[simp]theorem Ip(b:Bool):nY [.bool b]=some (.int (if b then 1 else 0)):=rfl
@[simp]theorem C0(x:List PyData):jP [.list x]=some (.tuple x):=rfl
@[simp]theorem LD(x:List PyData):jP [.tuple x]=some (.tuple x):=rfl
@[simp]theorem je(a b:Int):dEq (.int a) (.int b)=some (.bool (a==b)):=by
 have h:∀i:Int,SeqAt.shaped (.int i)=true:=λi=>by simp[SeqAt.shaped,PyData.canLay0,PyData.depth]
 unfold dEq;rw[h,h];simp[aG,PyData.eqv]
@[simp]theorem KY(a b:Int):dNe (.int a) (.int b)=some (.bool (!(a==b))):=by
 have h:∀i:Int,SeqAt.shaped (.int i)=true:=λi=>by simp[SeqAt.shaped,PyData.canLay0,PyData.depth]
 unfold dNe;rw[h,h];simp[aG,PyData.eqv]
theorem mn{xs:List α}{i:Int}{j:Nat}(h:i=j):atI xs i=xs[j]?:=by
 subst h;unfold atI ixN;by_cases z:(j:Int)<xs.length
 ·rw[if_pos (by omega),if_pos z];simp
 ·rw[if_pos (by omega),if_neg z];simp;omega
@[simp]theorem Ma(xs:List α):atI xs 0=xs[0]?:=mn (j:=0) rfl
@[simp]theorem Mb(xs:List α):atI xs 1=xs[1]?:=mn (j:=1) rfl
@[simp]theorem L7(xs:List α):atI xs 2=xs[2]?:=mn (j:=2) rfl
@[simp]theorem L8(xs:List α):atI xs 3=xs[3]?:=mn (j:=3) rfl
theorem mY(xs:List α):atI xs (-1)=xs.getLast?:=by
 unfold atI ixN;rw[if_neg (by decide)];by_cases z:xs=[]
 ·subst z;rfl
 ·have:0<xs.length:=MP.mpr z;rw[if_pos (by omega),List.getLast?_eq_getElem?];simp only[N7];congr 1;omega
theorem iH(g:α->Bool)(xs:List α):nW [.list (xs.map λd=>.bool (g d))]=some (.bool (xs.all g)):=by
 have a:ip (xs.map λd=>PyData.bool (g d))=some (xs.map g):=by rw[show (xs.map λd=>PyData.bool (g d))=(xs.map g).map PyData.bool by rw[Ms];rfl];exact qr _
 show (ip (xs.map λd=>PyData.bool (g d))).map (λns=>PyData.bool (ns.all id))=_;rw[a,MN,List.all_map];rfl
theorem comp_map{elt:Ds->Rs PyData}{δ:Ds}{f:PyData->PyData}:∀(ds:List PyData),(∀d∈ds,elt (δ++[some d])=.ok (f d))->eR ba elt aE δ ds=.ok (ds.map f)
 |[],_=>rfl
 |d::r,h=>by unfold eR;simp only[aE,ba,Rs.c8,Rs.ag,if_true,h d M7,comp_map r λe a=>h e (M6 _ a),M5]
theorem cx{elt:Ds->Rs PyData}{f:PyData->PyData}(hn:δ.length=n0)(a:src δ=.ok ds)(hl:ds.length<=1000000)(h:∀d∈ds,elt (δ++[some d])=.ok (f d)) :
  aS n0 src ba elt aE δ=.ok (ds.map f):=by
 unfold aS;rw[if_pos hn,a];simp only[Rs.ag,if_pos hl];exact comp_map ds h
theorem i0:∀{ds:List PyData},df ds=true->∀d∈ds,aG d=true
 |[],_,d,hd=>by cases hd
 |e::r,h,d,hd=>by
  unfold df at h;obtain⟨h1,h2⟩:=N0.mp h;rcases M8.mp hd with z|z
  ·rw[z];exact h1
  ·exact i0 h2 d z
theorem d7(h:aG (.tuple ds)=true):∀d∈ds,aG d=true:=by unfold aG at h;exact i0 h
def aP:Gf
 |[d,.int a,.int b]=>if aG d then .ok (.bool (isWhole d a b)) else .no
 |_=>.no
theorem n9{f:PyData->Int->Int->Rs PyData}(h:(match ds with|[a,.int x1,.int x2]=>f a x1 x2|_=>.no)≠.no):∃a x1 x2,ds=[a,.int x1,.int x2]/\f a x1 x2≠.no:=by
 rcases ds with _|⟨a,_|⟨x1,_|⟨x2,_|⟨y,ys⟩⟩⟩⟩
 ·exact absurd rfl h
 ·exact absurd rfl h
 ·first|exact absurd rfl h|(cases x1 <;> exact absurd rfl h)
 ·skip
  cases x1 with
  |int x1 =>
   cases x2 with
   |int x2 =>exact⟨_,_,_,rfl,h⟩
   |_=>exact absurd rfl h
  |_=>first|exact absurd rfl h|(cases x2 <;> exact absurd rfl h)
 ·first|exact absurd rfl h|(cases x1 <;> first|exact absurd rfl h|(cases x2 <;> exact absurd rfl h))
abbrev LLq(G:Ds->Sr)(n k:Nat)(g:Gf):Prop:=∀ds,ds.length=n->g ds≠.no->bE (G (ds.map some++List.replicate k none))=g ds
theorem xT(cs:Cs):LLq (iK cs) 3 0 aP:=by
 intro ds hl c;obtain⟨d,a,b,f,e⟩:=n9 c;clear c;subst f;have c:=e;clear e;unfold aP
 ·skip
  split at c
  ·rename_i hd;simp only[hd,if_true];cases d with
   |int i=>by_cases h:a<=i <;> simp[iK,ia,hd,uh,tyD,isWhole,h]
   |dict _=>simp[aG]at hd
   |_=>simp[iK,ia,hd,uh,tyD,isWhole]
  ·exact absurd rfl c
def aY:Gf
 |[d,.int a,.int b]=>if aG d then .ok (.bool (bZ d a b)) else .no
 |_=>.no
theorem xX(cs:Cs):LLq (iJ cs) 3 0 aY:=by
 intro ds hl c;obtain⟨d,a,b,f,e⟩:=n9 c;clear c;subst f;have c:=e;clear e;unfold aY
 ·skip
  split at c
  ·rename_i hd;simp only[hd,if_true];cases d with
   |tuple x=>by_cases h:a<=(x.length:Int) <;> simp[iJ,ia,hd,uh,tyD,bZ,h]
   |dict _=>simp[aG]at hd
   |_=>simp[iJ,ia,hd,uh,tyD,bZ]
  ·exact absurd rfl c
def fY(g:PyData->Bool):Gf
 |[d]=>if aG d then .ok (.bool (g d)) else .no
 |_=>.no
theorem pY(h:fY g ds≠.no):∃d,ds=[d]/\aG d=true/\fY g ds=.ok (.bool (g d)):=by
 unfold fY at h ⊢;split at h
 ·rename_i d;split at h
  ·rename_i hd;exact⟨d,rfl,hd,by simp[hd]⟩
  ·exact absurd rfl h
 ·exact absurd rfl h
theorem pC{d:PyData}(h:aG d=true):fY g [d]=.ok (.bool (g d)):=by unfold fY;simp[h]
@[simp]theorem JV{d:PyData}(h:aG d=true):aY [d,.int a,.int b]=.ok (.bool (bZ d a b)):=by unfold aY;simp[h]
@[simp]theorem wu{d:PyData}(h:aG d=true):aP [d,.int a,.int b]=.ok (.bool (isWhole d a b)):=by unfold aP;simp[h]
theorem uZ{d:PyData}(h:bZ d 2 2=true):∃a b,d=.tuple [a,b]:=by
 cases d with
 |tuple ds =>
  simp[bZ]at h
  match ds,h with
  |[a,b],_=>exact⟨a,b,rfl⟩
  |[],h=>simp at h
  |[_],h=>simp at h
  |_::_::_::_,h=>simp at h;omega
 |_=>cases h
theorem A6(cs:Cs):LLq (gx cs aP aY) 1 0 (fY dE):=by
 intro ds hl c;obtain⟨d,rfl,hd,e⟩:=pY c;rw[e];cases e1:bZ d 2 2 with
 |false =>
  have:dE d=false:=by
   unfold dE;split
   ·simp[bZ]at e1
   ·rfl
  simp[gx,hd,e1,this]
 |true =>
  obtain⟨a,b,rfl⟩:=uZ e1;have ha:=d7 hd a (by simp);have f:=d7 hd b (by simp);cases e2:isWhole a 1 20 with
  |false=>simp[gx,hd,ha,e1,e2,dE]
  |true =>
   cases b with
   |none=>simp[gx,hd,ha,e1,e2,dE]
   |_=>simp[gx,hd,ha,f,e1,e2,dE,fe]
theorem wt(cs:Cs):LLq (fI cs aY (fY dE)) 1 0 (fY eG):=by
 intro ds hl c;obtain⟨d,rfl,hd,e⟩:=pY c;rw[e];cases e1:bZ d 1 4 with
 |false =>
  have:eG d=false:=by
   cases d with
   |tuple ds =>simp only[bZ,MV,decide_eq_false_iff_not]at e1;simp only[eG,MV,decide_eq_false_iff_not];refine .inl (.inl ?_);omega
   |_=>rfl
  simp[fI,hd,e1,this]
 |true =>
  obtain⟨xs,rfl⟩:∃ds,d=.tuple ds:=by cases d <;> first|exact⟨_,rfl⟩|cases e1
  have hn:1<=xs.length/\xs.length<=4:=by simp only[bZ,Mm,decide_eq_true_eq]at e1;omega
  have hc:aS 1 (bB (ae 0)) ba (au (fY dE) (af (ae 1) ah)) aE [some (.tuple xs)]=.ok (xs.map λd=>.bool (dE d)) :=
   cx rfl rfl (by omega) λd h=>by simp[pC (d7 hd d h)]
  have l:=iH dE xs;cases e2:xs.all dE with
  |false=>simp[fI,hd,e1,hc,l,e2,eG]
  |true =>
   have c:xs≠[]:=by intro z;subst z;simp at hn
   have f:xs.getLast?=some (xs.getLast c):=List.getLast?_eq_some_getLast c;have g:=Mu.mp e2 _ (List.getLast_mem c);obtain⟨a,b,i⟩:∃a b,xs.getLast c=.tuple [a,b]:=by
    revert g;generalize xs.getLast c=z;intro g;unfold dE at g;split at g
    ·exact⟨_,_,rfl⟩
    ·cases g
   rw[i]at f;have j:jH xs=fe b:=by unfold jH;rw[f];cases b <;> rfl
   simp[fI,hd,e1,hc,l,e2,eG,mY,f,j,hn.1,hn.2]
theorem tV{d:PyData}(h:bZ d 4 4=true):∃a b c e,d=.tuple [a,b,c,e]:=by
 cases d with
 |tuple ds =>
  simp[bZ]at h
  match ds,h with
  |[a,b,c,e],_=>exact⟨a,b,c,e,rfl⟩
  |[],h=>simp at h
  |[_],h=>simp at h
  |[_,_],h=>simp at h
  |[_,_,_],h=>simp at h
  |_::_::_::_::_::_,h=>simp at h;omega
 |_=>cases h
theorem fN{d:PyData}(h:isWhole d a b=true):∃i,d=.int i/\a<=i/\i<=b:=by
 cases d with
 |int i=>simp[isWhole]at h;exact⟨i,rfl,h⟩
 |_=>cases h
theorem p7{a b c:PyData}(h:isWhole a 2 60=false):bR (.tuple [a,b,c,e])=false:=by
 cases a with
 |int i =>
  cases c with
  |int l =>simp only[isWhole,MV,decide_eq_false_iff_not]at h;simp only[bR,MV,decide_eq_false_iff_not];omega
  |_=>rfl
 |_=>rfl
theorem qI{b c:PyData}{i:Int}(h:isWhole c 0 (if i-1<20 then i-1 else 20)=false):bR (.tuple [.int i,b,c,e])=false:=by
 cases c with
 |int l =>simp only[isWhole,MV,decide_eq_false_iff_not]at h;simp only[bR,MV,decide_eq_false_iff_not];exact .inl (.inl (.inr h))
 |_=>rfl
theorem qT{b:PyData}{i l:Int}(h1:2<=i/\i<=60)(h2:0<=l/\l<=if i-1<20 then i-1 else 20):bR (.tuple [.int i,b,.int l,e])=(isWhole b 1 (i-l)&&eG e):=by simp[bR,h1.1,h1.2,h2.1,h2.2]
theorem vn(cs:Cs):LLq (dN cs aP (fY eG) aY) 1 3 (fY bR):=by
 intro ds hl h;obtain⟨d,rfl,hd,e⟩:=pY h;rw[e];cases e1:bZ d 4 4 with
 |false =>
  have:bR d=false:=by
   unfold bR;split
   ·simp[bZ]at e1
   ·rfl
  simp[dN,hd,e1,this]
 |true =>
  obtain⟨a,b,c,q,rfl⟩:=tV e1;have ha:=d7 hd a (by simp);have g:=d7 hd b (by simp);have hc:=d7 hd c (by simp);have f:=d7 hd q (by simp);cases e2:isWhole a 2 60 with
  |false=>simp[dN,hd,ha,g,hc,f,e1,e2,p7 e2]
  |true =>
   obtain⟨i,rfl,i1,i2⟩:=fN e2;cases e3:isWhole c 0 (if i-1<20 then i-1 else 20) with
   |false=>simp[dN,hd,ha,g,hc,f,e1,e2,e3,qI e3]
   |true =>
    obtain⟨l,rfl,l1,l2⟩:=fN e3;have j:=qT (b:=b) (e:=q) ⟨i1,i2⟩ ⟨l1,l2⟩;cases e4:isWhole b 1 (i-l) with
    |false=>simp[dN,hd,ha,g,hc,f,e1,e2,e3,e4,j]
    |true=>simp[dN,hd,ha,g,hc,f,e1,e2,e3,e4,j,pC f]
def bP(cs:Cs):Gf
 |[d]=>if aG d then (if eQ d then .ok d else .rz cs.NoErrands) else .no
 |_=>.no
theorem Bp(cs:Cs):LLq (iE cs aY (fY bR)) 1 0 (bP cs):=by
 intro ds hl a;obtain⟨d,rfl⟩:∃d,ds=[d]:=by
  match ds,hl with
  |[d],_=>exact⟨d,rfl⟩
 have hd:aG d=true:=by
  unfold bP at a;by_cases z:aG d=true
  ·exact z
  ·simp[z]at a
 have e:bP cs [d]=if eQ d then .ok d else .rz cs.NoErrands:=by unfold bP;simp[hd]
 rw[e];cases e1:bZ d 1 6 with
 |false =>
  have:eQ d=false:=by
   cases d with
   |tuple ds =>simp only[bZ,MV,decide_eq_false_iff_not]at e1;simp only[eQ,MV,decide_eq_false_iff_not];refine .inl ?_;omega
   |_=>rfl
  simp[iE,hd,e1,this]
 |true =>
  obtain⟨xs,rfl⟩:∃ds,d=.tuple ds:=by cases d <;> first|exact⟨_,rfl⟩|cases e1
  have hn:1<=xs.length/\xs.length<=6:=by simp only[bZ,Mm,decide_eq_true_eq]at e1;omega
  have hc:aS 1 (bB (ae 0)) ba (au (fY bR) (af (ae 1) ah)) aE [some (.tuple xs)]=.ok (xs.map λd=>.bool (bR d)) :=
   cx rfl rfl (by omega) λd b=>by simp[pC (d7 hd d b)]
  have c:=iH bR xs;cases e2:xs.all bR with
  |false=>simp[iE,hd,e1,hc,c,e2,eQ]
  |true=>simp[iE,hd,e1,hc,c,e2,eQ,hn.1,hn.2]
theorem iN{β:Type}{tgt:PyData->Ds->Option Ds}{body:Ds->Sr}(inv:Nat->Ds->Prop):∀(ds:List PyData)(k:Nat),(∀(i:Nat) d δ,ds[i]?=some d->inv (k+i) δ->∃δ1 a,tgt d δ=some δ1/\body δ1=.nx a/\inv (k+i+1) a) ->
  ∀δ,inv k δ->∃b,forL tgt body ds δ=.nx b/\inv (k+ds.length) b
 |[],k,_,δ,h=>⟨δ,rfl,h⟩
 |d::r,k,hs,δ,h=>by
  obtain⟨δ1,a,e1,e2,h2⟩:=hs 0 d δ rfl h;obtain⟨b,c,e⟩:=iN (β:=β) inv r (k+1) (λi x δ f hi=>by have:=hs (i+1) x δ (by simpa using f) (by rw[show k+(i+1)=k+1+i by omega];exact hi);rw[show k+1+i+1=k+(i+1)+1 by omega];exact this) a h2
  exact⟨b,by unfold forL;rw[e1];simp only[e2];exact c,by rw[Mp,show k+(r.length+1)=k+1+r.length by omega];exact e⟩
noncomputable def BL:PyData->Option Int
 |.int i=>some i
 |_=>none
def eM:PyData->Int×Option Int
 |.tuple [.int l,t]=>(l,BL t)
 |_=>(0,none)
def deE:PyData->Er
 |.tuple [.int e,.int d,.int l,.tuple ps]=>⟨e,d,l,ps.map eM⟩
 |_=>⟨0,0,0,[]⟩
theorem Dt(e:Int)(d:Int)(l:Int)(ps:List PyData):deE (.tuple [.int e,.int d,.int l,.tuple ps])=⟨e,d,l,ps.map eM⟩:=rfl
def jB:PyData->List Er
 |.tuple ds=>ds.map deE
 |_=>[]
theorem xt(o:Option Int):BL (bw o)=o:=by cases o <;> rfl
theorem pM(p:Int×Option Int):eM (aQ p)=p:=by obtain⟨l,t⟩:=p;simp[aQ,eM,xt]
theorem zu(e:Er):deE e.d=e:=by
 obtain⟨a,b,c,ps⟩:=e;simp[Er.d,Dt,Ms]
 conv=>rhs;rw[<-N8 ps]
 exact Mv λp _=>pM p
theorem uj(es:List Er):jB (aq es)=es:=by
 simp[aq,jB,Ms]
 conv=>rhs;rw[<-N8 es]
 exact Mv λe _=>zu e
def deI:PyData->Int
 |.int i=>i
 |_=>0
def fq:PyData->List Int
 |.tuple ds=>ds.map deI
 |_=>[]
def ak(ns:List Int):PyData:=.tuple (ns.map .int)
theorem lA(ns:List Int):fq (ak ns)=ns:=by
 simp[ak,fq,Ms]
 conv=>rhs;rw[<-N8 ns]
 exact Mv λ_ _=>rfl
def dZ(n:Nat):PyData->Bool
 |.tuple ds=>decide (ds.length=n)&&ds.all (λd=>isWhole d 0 ((n:Int)-1))&&decide (ds.map deI).Nodup
 |_=>false
structure fW(n:Nat)(rs:List Int):Prop where
 len:rs.length=n
 rng:∀r∈rs,0<=r/\r<n
 nd:rs.Nodup
theorem oQ{n:Nat}{d:PyData}(h:dZ n d=true):ak (fq d)=d/\fW n (fq d):=by
 unfold dZ at h;split at h
 ·rename_i ds;simp only[Mm,decide_eq_true_eq]at h;obtain⟨⟨h1,h2⟩,c⟩:=h;have pa:=Mu.mp h2;refine⟨?_,by simpa[fq] using h1,λr e=>?_,c⟩
  ·simp only[fq,ak,Ms];congr 1
   conv=>rhs;rw[<-N8 ds]
   refine Mv λp f=>?_
   obtain⟨i,rfl,_⟩:=fN (pa p f);rfl
  ·obtain⟨q,g,rfl⟩:=Mj.mp (show r∈ds.map deI from e);obtain⟨i,rfl,a,b⟩:=fN (pa q g);exact⟨a,by show i<n;omega⟩
 ·cases h
theorem iW{n:Nat}(h:fW n rs):dZ n (ak rs)=true:=by
 have e:(rs.map PyData.int).map deI=rs:=by
  rw[Ms];conv=>rhs;rw[<-N8 rs]
  exact Mv λ_ _=>rfl
 unfold dZ ak;simp only[M4,h.len,decide_true,NZ,e,h.nd,Ny];rw[Mu];intro d hd;obtain⟨r,a,rfl⟩:=Mj.mp hd;have:=h.rng r a;simp[isWhole,this.1];omega
theorem mj:∀(l acc:List Int),acc.Nodup->((l.foldl PyProof.Rows.step_dedup acc).length<=acc.length+l.length)/\((l.foldl PyProof.Rows.step_dedup acc).length=acc.length+l.length↔(acc++l).Nodup)
 |[],acc,h=>by simpa using h
 |x::r,acc,h=>by
  rw[MC];by_cases z:acc.any (·==x)=true
  ·have e:PyProof.Rows.step_dedup acc x=acc:=by unfold PyProof.Rows.step_dedup;rw[if_pos z]
   rw[e];have:=mj r acc h;refine⟨by rw[Mp];omega,λq=>?_,λq=>?_⟩
   ·rw[Mp]at q;omega
   ·exfalso;obtain⟨y,c,f⟩:=Nd.mp z;have:y=x:=by simpa using f
    subst this;rw[NG]at q;exact q.2.2 y c y M7 rfl
  ·have e:PyProof.Rows.step_dedup acc x=acc++[x]:=by unfold PyProof.Rows.step_dedup;rw[if_neg z]
   have g:x∉acc:=λq=>z (Nd.mpr ⟨x,q,by simp⟩)
   have hn:(acc++[x]).Nodup:=by rw[NG];exact⟨h,by simp,λa ha b i=>by rw[Mh.mp i];rintro rfl;exact g ha⟩
   rw[e];have:=mj r (acc++[x]) hn;rw[Mr,MQ,NW]at this;refine⟨by rw[Mp];omega,?_⟩;rw[Mp,show acc.length+(r.length+1)=acc.length+1+r.length by omega];exact this.2
theorem wZ(ns:List Int):((seen ns ns.length).length:Int)<ns.length↔¬ ns.Nodup:=by
 have e:(List.range ns.length).map (λi=>ns.getD i 0)=ns:=by
  apply List.ext_getElem?;intro i;rw[Mc];by_cases h:i<ns.length
  ·rw[Nu h,M1 h];simp[M9,M1 h]
  ·rw[MW (by simpa using h),MW (by simpa using h)];rfl
 have:=mj ns [] O6;unfold seen PyProof.Rows.firstMet;rw[e];simp only[MM,MX,MK]at this;constructor
 ·intro h q;have:=this.2.mpr q;omega
 ·intro h;have h1:=this.1;have h2:¬ (List.foldl PyProof.Rows.step_dedup [] ns).length=ns.length:=λq=>h (this.2.mp q)
  omega
def bD(cs:Cs):Gf
 |[.tuple es,r]=>if aG r&&decide (es.length<=100) then (if dZ es.length r then .ok r else .rz cs.NoRanks) else .no
 |_=>.no
theorem HJ{f:List PyData->PyData->Rs PyData}(h:(match ds with|[.tuple a,x1]=>f a x1|_=>.no)≠.no):∃a x1,ds=[.tuple a,x1]/\f a x1≠.no:=by
 rcases ds with _|⟨a,_|⟨x1,_|⟨y,ys⟩⟩⟩
 ·exact absurd rfl h
 ·first|exact absurd rfl h|(cases a <;> exact absurd rfl h)
 ·skip
  cases a with
  |tuple a =>exact⟨_,_,rfl,h⟩
  |_=>exact absurd rfl h
 ·first|exact absurd rfl h|(cases a <;> exact absurd rfl h)
theorem nV(cs:Cs):LLq (cH cs aY aP) 2 1 (bD cs):=by
 intro ds hl a;obtain⟨es,r,l,j⟩:=HJ a;clear a;subst l;have a:=j;clear j;unfold bD
 ·skip
  split at a
  ·rename_i c;simp only[c,if_true];rw[Mm,decide_eq_true_eq]at c;obtain⟨hd,h100⟩:=c;cases e1:bZ r es.length es.length with
   |false =>
    have:dZ es.length r=false:=by
     cases r with
     |tuple xs =>
      have:xs.length≠es.length:=λq=>by simp[bZ,q]at e1
      simp[dZ,this]
     |_=>rfl
    simp[cH,hd,e1,this]
   |true =>
    obtain⟨xs,rfl⟩:∃ds,r=.tuple ds:=by cases r <;> first|exact⟨_,rfl⟩|cases e1
    have hn:xs.length=es.length:=by simp only[bZ,Mm,decide_eq_true_eq]at e1;omega
    have hc:aS 3 (bB (ae 1)) ba (au aP (af (ae 3) (af (gC (.int 0)) (af (ae 2) ah)))) aE [some (.tuple es),some (.tuple xs),some (.int ((es.length:Int)-1))]=.ok (xs.map λd=>.bool (isWhole d 0 ((es.length:Int)-1))) :=
     cx rfl rfl (by omega) λd e=>by simp[d7 hd d e]
    have f:=iH (λd=>isWhole d 0 ((es.length:Int)-1)) xs;cases e2:xs.all (λd=>isWhole d 0 ((es.length:Int)-1)) with
    |false=>simp[cH,hd,e1,hc,f,e2,dZ]
    |true =>
     have pa:=Mu.mp e2;have m:xs=(xs.map deI).map PyData.int:=by
      rw[Ms]
      conv=>lhs;rw[<-N8 xs]
      refine Mv λp n=>?_
      obtain⟨i,rfl,_⟩:=fN (pa p n);rfl
     have g:l8 [.tuple xs]=some (.int (seen (xs.map deI) (xs.map deI).length).length):=by
      unfold l8
      conv=>lhs;rw[m]
      simp only[gy,N7];rw[if_pos (by simp;omega)]
     have b:=wZ (xs.map deI);have h:(xs.map deI).length=es.length:=by rw[M4];exact hn
     rw[h]at g b;by_cases hnd:(xs.map deI).Nodup
     ·have h2:¬ (seen (xs.map deI) es.length).length<es.length:=λq=>b.mp (by omega) hnd
      simp[cH,hd,e1,hc,f,e2,g,hn,h2,dZ,hnd]
     ·have h2:(seen (xs.map deI) es.length).length<es.length:=by have:=b.mpr hnd;omega
      simp[cH,hd,e1,hc,f,e2,g,hn,h2,dZ,hnd]
  ·exact absurd rfl a
noncomputable def jX:PyData->Bool
 |.tuple [.int l,b]=>decide (0<=l)&&decide (l<=1000000)&&(match b with|.none=>true|.int t=>decide (0<=t)&&decide (t<=3)|_=>false)
 |_=>false
def uN:PyData->Bool
 |.tuple [.int e,.int _,.int l,.tuple ps]=>decide (1<=e)&&decide (e<1073741824)&&decide (-1000000000<=l)&&decide (l<=1000000000)&&decide (ps.length<=1000)&&ps.all jX
 |_=>false
def qk:PyData->Bool
 |.tuple ds=>decide (ds.length<=100)&&ds.all uN
 |_=>false
structure Er.Sh(e:Er):Prop where
 e1:1<=e.every
 e2:e.every<1073741824
 l1:-1000000000<=e.late
 l2:e.late<=1000000000
 pn:e.parts.length<=1000
 pl:∀p∈e.parts,0<=p.1/\p.1<=1000000/\∀t,p.2=some t->0<=t/\t<=3
theorem rN{d:PyData}(h:jX d=true):aQ (eM d)=d/\0<=(eM d).1/\(eM d).1<=1000000/\∀t,(eM d).2=some t->0<=t/\t<=3:=by
 unfold jX at h;split at h
 ·rename_i l b;simp only[Mm,decide_eq_true_eq]at h;obtain⟨⟨h1,h2⟩,a⟩:=h;cases b with
  |none=>exact⟨rfl,h1,h2,λt q=>by cases q⟩
  |int t =>simp only[Mm,decide_eq_true_eq]at a;exact⟨rfl,h1,h2,λt q=>by cases q;exact a⟩
  |_=>cases a
 ·cases h
theorem wx{d:PyData}(h:uN d=true):(deE d).d=d/\(deE d).Sh:=by
 unfold uN at h;split at h
 ·rename_i e du l ps;simp only[Mm,decide_eq_true_eq]at h;obtain⟨⟨⟨⟨⟨h1,h2⟩,a⟩,b⟩,f⟩,g⟩:=h;have pa:=Mu.mp g;have i:ps.map (aQ∘eM)=ps:=by
   conv=>rhs;rw[<-N8 ps]
   exact Mv λp c=>(rN (pa p c)).1
  refine⟨by simp only[Dt,Er.d,Ms,i],h1,h2,a,b,by simpa[Dt] using f,λp c=>?_⟩;obtain⟨q,j,rfl⟩:=Mj.mp (show p∈ps.map eM from c);exact (rN (pa q j)).2
 ·cases h
theorem n6{e:Er}(h:e.Sh):uN e.d=true:=by
 unfold uN Er.d;simp only[h.e1,h.e2,h.l1,h.l2,decide_true,NZ,M4,h.pn];rw[Mu];intro d hd;obtain⟨p,f,rfl⟩:=Mj.mp hd;obtain⟨a,b,c⟩:=h.pl p f;obtain⟨l,t⟩:=p;cases t with
 |none=>simp at a b;simp[jX,aQ,bw,a,b]
 |some t=>have:=c t rfl;simp at a b;simp[jX,aQ,bw,a,b,this.1,this.2]
theorem Er.Ok.sh{e:Er}(h:e.Ok):e.Sh:=⟨by have:=h.e1;omega,by have:=h.e2;omega,by have:=h.l1;omega,by have:=h.l2;omega,by have:=h.p2;omega,λp f=>by obtain⟨a,b,c⟩:=h.pl p f;exact⟨by omega,by omega,c⟩⟩
theorem xY{d:PyData}(h:qk d=true):aq (jB d)=d/\(jB d).length<=100/\∀e∈jB d,e.Sh:=by
 unfold qk at h;split at h
 ·rename_i ds;simp only[Mm,decide_eq_true_eq]at h;have pa:=Mu.mp h.2;refine⟨?_,by simpa[jB] using h.1,λe a=>?_⟩
  ·simp only[jB,aq,Ms];congr 1
   conv=>rhs;rw[<-N8 ds]
   exact Mv λp b=>(wx (pa p b)).1
  ·obtain⟨q,c,rfl⟩:=Mj.mp (show e∈ds.map deE from a);exact (wx (pa q c)).2
 ·cases h
theorem qe(h1:es.length<=100)(h:∀e∈es,e.Sh):qk (aq es)=true:=by unfold qk aq;simp only[M4,h1,decide_true,NZ];rw[Mu];intro d hd;obtain⟨e,a,rfl⟩:=Mj.mp hd;exact n6 (h e a)
def Er.has(e:Er)(t:Int):Bool:=e.parts.any λp=>p.2==some t
noncomputable def er0:Er:=⟨1,1,0,[]⟩
def dD(es:List Er)(n:Int):Er:=es.getD n.toNat er0
def hts(es:List Er):List Int->Int->Int->Option Int
 |[],_,_=>none
 |r::rs,k,t=>if (dD es r).has t then some k else hts es rs (k+1) t
def dw(es:List Er)(rs:List Int)(t:Int):Option Int:=hts es rs 0 t
def placeOf(rs:List Int)(n:Int):Nat:=rs.findIdx (·==n)
theorem qi(h0:0<=n)(h1:n<es.length):es[n.toNat]?=some (dD es n):=by unfold dD;rw[M9,M1 (by omega)];rfl
theorem gO(a:0<=n)(h1:n<es.length):dD es n∈es:=MS (qi a h1)
theorem km(a:0<=n)(h1:n<es.length):atI (es.map Er.d) n=some (dD es n).d:=by rw[mn (j:=n.toNat) (by omega),Mc,qi a h1];rfl
theorem Dg(h0:0<=n)(h1:n<ns.length):atI (ns.map PyData.int) n=some (.int (ns.getD n.toNat 0)):=by rw[mn (j:=n.toNat) (by omega),Mc,M9,M1 (by omega)];rfl
theorem Il(p:Int×Option Int):dIx (aQ p) (.int 0)=some (.int p.1):=rfl
theorem JB(p:Int×Option Int):dIx (aQ p) (.int 1)=some (bw p.2):=rfl
theorem Ac(e:Er):dIx e.d (.int 3)=some (.tuple (e.parts.map aQ)):=rfl
theorem rangeSize_down(n:Nat):Builtin.Range.rangeSize ((n:Int)-1) (-1) (-1)=n:=by
 unfold Builtin.Range.rangeSize;rw[if_neg (by decide)];split
 ·simp
 ·omega
theorem AQ(n:Nat)(h:n<=1000):BM [.int ((n:Int)-1),.int (-1),.int (-1)]=.ok (gQ ((n:Int)-1) (-1) n):=by
 have a:Builtin.Range.small ((n:Int)-1) (-1) (-1)=true:=by unfold Builtin.Range.small;rw[rangeSize_down];simp[Builtin.Range.rangeFitsLong];omega
 have b:qC ((n:Int)-1) (-1) (-1)=true:=by unfold qC;rw[a,Ny];exact decide_eq_true (by omega)
 unfold BM;simp only[b,if_true];unfold xp;rw[rangeSize_down];rfl
def aN:Gf
 |[d,r]=>if qk d&&dZ (jB d).length r then .ok (.list ((List.range 4).map λ(t:Nat)=>bw (dw (jB d) (fq r) t))) else .no
 |_=>.no
theorem hZ(h1:es.length<=100)(h:∀e∈es,e.Sh)(a:fW es.length rs):aN [aq es,ak rs]=.ok (.list ((List.range 4).map λ(t:Nat)=>bw (dw es rs t))):=by unfold aN;simp[qe h1 h,uj,iW a,lA]
def qt(k:Int)(L:List PyData)(p:Int×Option Int):List PyData:=match p.2 with
 |some t=>L.set t.toNat (.int k)
 |none=>L
theorem qB(k:Int)(L:List PyData)(p:Int×Option Int):(qt k L p).length=L.length:=by unfold qt;split <;> simp
theorem rD(k:Int):∀(ps:List (Int×Option Int))(L:List PyData),(ps.foldl (qt k) L).length=L.length
 |[],L=>rfl
 |p::r,L=>by rw[MC,rD k r,qB]
theorem rE(k:Int):∀(ps:List (Int×Option Int))(L:List PyData)(t:Nat),(∀p∈ps,∀t,p.2=some t->0<=t/\t<=3)->t<L.length->(ps.foldl (qt k) L)[t]?=if ps.any (λp=>p.2==some (t:Int)) then some (.int k) else L[t]?
 |[],L,t,_,_=>rfl
 |p::r,L,t,h,hl=>by
  rw[MC,rE k r _ t (λq a=>h q (M6 _ a)) (by rw[qB];exact hl)];rw[Nj];cases hr:r.any (λp=>p.2==some (t:Int)) with
  |true=>simp
  |false =>
   obtain⟨l,o⟩:=p;cases o with
   |none=>simp[qt]
   |some u =>
    have hu:=h (l,some u) M7 u rfl;simp only[Mw,if_false,Bool.or_false,qt];by_cases z:u=(t:Int)
    ·subst z;simp[hl]
    ·rw[MA (by omega)];have:(some u==some (t:Int))=false:=by simpa using z
     rw[this];rfl
theorem kC(E R:PyData)(k:Int):∀(ps:List (Int×Option Int))(L:List PyData)(x4 a:Option PyData),L.length=4->(∀p∈ps,∀t,p.2=some t->0<=t/\t<=3) ->
  ∃b c,forL (d8 [4,5]) (sIf (gT (g1 jL (ae 5))) (iO 2 (ae 5) (ae 3)) aX) (ps.map aQ) [some E,some R,some (.list L),some (.int k),x4,a]=.nx [some E,some R,some (.list (ps.foldl (qt k) L)),some (.int k),b,c]
 |[],L,x4,a,_,_=>⟨x4,a,rfl⟩
 |p::r,L,x4,a,hL,h=>by
  obtain⟨b,c,e⟩:=kC E R k r (qt k L p) (some (.int p.1)) (some (bw p.2)) (by rw[qB];exact hL) (λq f=>h q (M6 _ f));refine⟨b,c,?_⟩;rw[M5,MC];unfold forL;obtain⟨l,o⟩:=p;cases o with
  |none =>simp[aQ,d8,jv,bw];simpa[qt,bw] using e
  |some u =>
   have g:=h (l,some u) M7 u rfl;have i:ixN L.length u=some u.toNat:=by unfold ixN;rw[if_pos g.1,if_pos (by omega)]
   have j:dG (.int k)=true:=by unfold dG;rfl
   simp[aQ,d8,jv,bw,iO,i,j];simpa[qt,bw] using e
theorem BE(es:List Er)(rs:List Int)(k:Nat)(t:Int)(h:k<rs.length):hts es (rs.drop k) k t=if (dD es (rs.getD k 0)).has t then some (k:Int) else hts es (rs.drop (k+1)) ((k+1:Nat):Int) t:=by rw[Ng h];show (if _ then _ else _)=_;rw[M9,M1 h];simp
theorem rf(cs:Cs):LLq (fG cs) 2 4 aN:=by
 intro ds hl a;obtain⟨d,r,rfl⟩:∃d r,ds=[d,r]:=by
  match ds,hl with
  |[d,r],_=>exact⟨d,r,rfl⟩
 unfold aN at a;simp only at a;split at a
 ·rename_i hc;rw[Mm]at hc;obtain⟨e1,hlen,g⟩:=xY hc.1;obtain⟨e2,m⟩:=oQ hc.2;rw[<-e1,<-e2];generalize jB d=es at *;generalize fq r=rs at *;rw[hZ hlen g m];have hn:=m.len
  -- the outer loop
  have outer:∃c,forL (aZ 3) (eP [2] (bB (g2 dIx (g2 dIx (ae 0) (g2 dIx (ae 1) (ae 3))) (gC (.int 3)))) (d8 [4,5]) (sIf (gT (g1 jL (ae 5))) (iO 2 (ae 5) (ae 3)) aX))
    (gQ ((rs.length:Int)-1) (-1) rs.length) [some (aq es),some (ak rs),some (.list [.none,.none,.none,.none]),none,none,none]=.nx c /\
    (∃x3 x4 b,c=[some (aq es),some (ak rs),some (.list ((List.range 4).map λ(t:Nat)=>bw (hts es (rs.drop (rs.length-(0+(gQ ((rs.length:Int)-1) (-1) rs.length).length))) (((rs.length-(0+(gQ ((rs.length:Int)-1) (-1) rs.length).length):Nat):Int)) t))),x3,x4,b]):=by
   refine iN (β:=Unit) (λi δ=>∃x3 x4 b,δ=[some (aq es),some (ak rs),some (.list ((List.range 4).map λ(t:Nat)=>bw (hts es (rs.drop (rs.length-i)) ((rs.length-i:Nat):Int) t))),x3,x4,b]) _ 0 ?_ _ ⟨none,none,none,?_⟩
   ·rintro i dd δ hi ⟨x3,x4,b,rfl⟩
    rw[MX]at *;have n:i<rs.length:=by
     have:=(My.mp hi).1
     rwa[gJ]at this
    have o:dd=.int (((rs.length-(i+1):Nat):Int)):=by unfold gQ at hi;rw[Mc,Nu n]at hi;simp at hi;rw[<-hi];congr 1;omega
    subst o;generalize hk:rs.length-(i+1)=k at *;have q:rs.length-i=k+1:=by omega
    rw[q];have f:k<rs.length:=by omega
    have h:=m.rng (rs.getD k 0) (by rw[M9,M1 f];exact MH f);have j:=g _ (gO h.1 (by omega));obtain⟨u,v,e⟩:=kC (aq es) (ak rs) k (dD es (rs.getD k 0)).parts ((List.range 4).map λ(t:Nat)=>bw (hts es (rs.drop (k+1)) ((k+1:Nat):Int) t)) x4 b (by simp) (λp s=>(j.pl p s).2.2);have a1:atI (rs.map PyData.int) (k:Int)=some (.int (rs.getD k 0)):=by rw[Dg (by omega) (by omega)];simp
    have a2:atI (es.map Er.d) (rs.getD k 0)=some (dD es (rs.getD k 0)).d:=km h.1 (by omega);refine⟨[some (aq es),some (ak rs),some (.list ((List.range 4).map λ(t:Nat)=>bw (hts es (rs.drop (k+1)) ((k+1:Nat):Int) t))),some (.int k),x4,b],_,by simp[aZ],?_,some (.int k),u,v,rfl⟩;rw[kM];have src:bB (g2 dIx (g2 dIx (ae 0) (g2 dIx (ae 1) (ae 3))) (gC (.int 3))) (mask [2] [some (aq es),some (ak rs),some (.list ((List.range 4).map λ(t:Nat)=>bw (hts es (rs.drop (k+1)) ((k+1:Nat):Int) t))),some (.int (k:Int)),x4,b])=.ok ((dD es (rs.getD k 0)).parts.map aQ):=by simp only[Jm,bV,bh (show 0∉[2] by decide),bh (show 1∉[2] by decide),bh (show 3∉[2] by decide),ar,ay,cQ,Rs.ag];simp only[aq,ak,Cc,a1,a2,Ac,Rs.ai,Rs.ag,JE]
    rw[src,ax,e];have hL:(dD es (rs.getD k 0)).parts.foldl (qt k) ((List.range 4).map λ(t:Nat)=>bw (hts es (rs.drop (k+1)) ((k+1:Nat):Int) t))=(List.range 4).map λ(t:Nat)=>bw (hts es (rs.drop k) k t):=?hL
    rw[hL]
    case hL =>
    apply List.ext_getElem?;intro t;by_cases ht:t<4
    ·rw[rE _ _ _ _ (λp s=>(j.pl p s).2.2) (by simpa using ht),Mc,Mc,Nu ht];rw[MN,MN,BE es rs k t f];unfold Er.has;split <;> rfl
    ·rw[MW (by rw[rD];simp;omega),MW (by simp;omega)]
   ·simp[hts];rfl
  rw[gJ,MX,Nat.sub_self]at outer;obtain⟨c,e,x3,x4,b,rfl⟩:=outer;have w:=AQ rs.length (by omega);have l:dh [2] 2 (af (gC .none) (af (gC .none) (af (gC .none) (af (gC .none) ah)))) [some (aq es),some (ak rs),none,none,none,none]=.nx [some (aq es),some (ak rs),some (.list [.none,.none,.none,.none]),none,none,none]:=rfl;have src:yN (af (g2 gM (gF bA (af (ae 1) ah)) (gC (.int 1))) (af (g1 kr (gC (.int 1))) (af (g1 kr (gC (.int 1))) ah))) (mask [2] [some (aq es),some (ak rs),some (.list [.none,.none,.none,.none]),none,none,none])=.ok (gQ ((rs.length:Int)-1) (-1) rs.length):=by simp only[E3,aA,aF,bV,ic,eV,bh (show 1∉[2] by decide),ar,ay,cQ,Rs.ag,ak,pW,Rs.ai,oN,B5,M4];exact w
  show bE (fG cs [some (aq es),some (ak rs),none,none,none,none])=_;simp only[fG,aT,l,kM,src,ax];rw[e];simp[dw]
 ·exact absurd rfl a
theorem xQ(h:n∈rs):placeOf rs n<rs.length:=List.findIdx_lt_length_of_exists ⟨n,h,by simp⟩
theorem vQ:∀{l m:List Int},l.Nodup->(∀x∈l,x∈m)->l.length<=m.length
 |[],m,_,_=>MR _
 |x::r,m,hn,hs=>by
  rw[MG]at hn;have a:=hs x M7;have:=vQ (l:=r) (m:=m.erase x) hn.2 λy b=>by rw[List.mem_erase_of_ne (by rintro rfl;exact hn.1 b)];exact hs y (M6 _ b)
  rw[List.length_erase_of_mem a]at this;have hp:=List.length_pos_of_mem a;rw[Mp];omega
theorem fW.mem{k:Nat}(h:fW k rs)(c:0<=n)(h1:n<k):n∈rs:=by
 have base:∀x:Int,0<=x->x<k->x∈(List.range k).map λ(i:Nat)=>(i:Int):=λx a b=>Mj.mpr ⟨x.toNat,N2.mpr (by omega),by omega⟩
 by_cases z:n∈rs
 ·exact z
 ·exfalso;have:=vQ (l:=n::rs) (m:=(List.range k).map λ(i:Nat)=>(i:Int)) (MG.mpr ⟨z,h.nd⟩) λx e=>by
   rcases M8.mp e with q|q
   ·rw[q];exact base n c h1
   ·have:=h.rng x q;exact base x this.1 this.2
  have hl:=h.len;simp at this;omega
theorem AA(ns:List Int):(ns.map PyData.int).all fX=true:=by rw[Mu];intro d hd;obtain⟨n,_,rfl⟩:=Mj.mp hd;rfl
theorem lP(n:Int):∀rs:List Int,n∈rs->(((rs.map PyData.int).map toV).findIdx? λz=>eqV z (.int n))=some (placeOf rs n)
 |[],h=>by cases h
 |r::rs,h=>by
  have b:eqV (.int r) (.int n)=(r==n):=rfl;rw[M5,M5,List.findIdx?_cons];unfold placeOf;rw[List.findIdx_cons];show (if eqV (.int r) (.int n)=true then some 0 else _)=_;rw[b];cases hr:r==n with
  |true=>rfl
  |false =>
   have a:r≠n:=by simpa using hr
   have:=lP n rs ((M8.mp h).resolve_left λq=>a q.symm);rw[if_neg Mi,this];rfl
theorem nP(h:n∈rs):i8 (rs.map .int) (.int n)=some (.int (placeOf rs n)):=by unfold i8;rw[AA,show fX (.int n)=true from rfl];simp only[Bool.and_self,if_true];rw[show toV (.int n)=.int n from rfl,lP n rs h];rfl
@[simp]theorem C8(go ga:Ds->Rs PyData)(δ:Ds):j4 go ga δ=(go δ).bind λd=>match d with|.tuple xs=>(ga δ).bind λy=>Rs.ee (i8 xs y)|_=>.no:=rfl
theorem vR(es:List Er)(t:Int):∀(rs:List Int)(k:Int)(m:Int),m∈rs->(dD es m).has t=true->∃h,hts es rs k t=some h
 |[],_,_,h,_=>by cases h
 |r::rs,k,m,h,ht=>by
  unfold hts;by_cases z:(dD es r).has t=true
  ·exact⟨k,by rw[if_pos z]⟩
  ·rw[if_neg z];rcases M8.mp h with q|q
   ·subst q;exact absurd ht z
   ·exact vR es t rs (k+1) m q ht
theorem Dx(h1:-(2 ^ 64)<b)(h2:b<2 ^ 64):fc (.int a) (.int b)=some (.int (a*b)):=by show (if _ then _ else _)=_;rw[if_pos (.inr ⟨h1,h2⟩)]
theorem tN(h1:-(2 ^ 64)<a)(h2:a<2 ^ 64):fc (.int a) (.int b)=some (.int (a*b)):=by show (if _ then _ else _)=_;rw[if_pos (.inl ⟨h1,h2⟩)]
def e9:PyData->Option (List Int)
 |.dict [(.none,.list l)]=>iF l
 |_=>none
theorem fu(ns:List Int):e9 (ao ns)=some ns:=gy ns
def aj:Gf
 |[s,.int k,.int many]=>(match e9 s with
  |some ns=>if 0<=k/\0<many then .ok (.int (mixed ns k many)) else .no
  |none=>.no)
 |_=>.no
theorem cj{k:Int}(h1:0<=k)(h2:0<many):aj [ao ns,.int k,.int many]=.ok (.int (mixed ns k many)):=by unfold aj;simp[fu,h1,h2]
theorem mR(O:List Nat)(i:Nat)(g:Ds->Rs PyData)(δ:Ds):aR O i g δ=if i<δ.length then ofR (g (mask O δ)) λd=>.nx (δ.set i (some d)) else .no:=rfl
def b9:Gf
 |[s,.int a,.int top,.bool tools]=>(match e9 s with
  |some ns=>if 0<=a/\0<top/\top<=58 then .ok (mkE ns a top tools).d else .no
  |none=>.no)
 |_=>.no
theorem iA{top:Int}{b:Bool}(h1:0<=a)(h2:0<top)(c:top<=58):b9 [ao ns,.int a,.int top,.bool b]=.ok (mkE ns a top b).d:=by unfold b9;simp[fu,h1,h2,c]
theorem Aw(o:Option Int):dG (bw o)=true:=by cases o <;> (unfold bw dG;rfl)
theorem wF(p:Int×Option Int):dG (aQ p)=true:=by unfold aQ dG kG;rw[show dG (.int p.1)=true by unfold dG;rfl];unfold kG;rw[Aw];unfold kG;rfl
theorem DY{i:Int}(h0:0<=i)(h1:i<5):atI [PyData.int 0,PyData.int 1,PyData.int 1,PyData.int 0,PyData.none] i=some (bw (kA i)):=by
 have:i=0\/i=1\/i=2\/i=3\/i=4:=by omega
 rcases this with rfl|rfl|rfl|rfl|rfl <;> rfl
theorem vN(ns:List Int)(a top:Int)(b:Bool)(e la f:PyData)(ha:0<=a)(L:List PyData)(hL:L.length<1000)(i:Nat)(x8 x9:Option PyData) :
   az (aR [7] 9 (au aj (af (ae 0) (af (g2 bg (g2 bg (ae 1) (gC (.int 4))) (ae 8)) (af (gC (.int 40)) ah)))))
   (az (fR [7] 7 (cL (af (g2 bg (gC (.int 1)) (g2 eC (ae 9) (gC (.int 4)))) (af (g2 dIx (jj (af (gC (.int 0)) (af (gC (.int 1)) (af (gC (.int 1)) (af (gC (.int 0)) (af (gC .none) ah)))))) (g2 eC (g2 iS (ae 9) (gC (.int 4))) (gC (.int 5)))) ah))))
   (sIf (gP (gT (ae 3))) (iO 7 (g1 kr (gC (.int 1))) (cL (af (g2 dIx (g2 dIx (ae 7) (g1 kr (gC (.int 1)))) (gC (.int 0))) (af (gC .none) ah)))) aX))
     [some (ao ns),some (.int a),some (.int top),some (.bool b),some e,some la,some f,some (.list L),some (.int (0+(i:Int))),x9]
  =.nx [some (ao ns),some (.int a),some (.int top),some (.bool b),some e,some la,some f,some (.list (L++[aQ (eO ns (a+4+(i:Int)) b)])),some (.int (0+(i:Int))),some (.int (mixed ns (a+4+(0+(i:Int))) 40))]:=by
 have hm:=cj (ns:=ns) (k:=a+4+(0+(i:Int))) (many:=40) (by omega) (by decide);have m0:=cz ns (a+4+(0+(i:Int))) (many:=40) (by decide);have m1:=cJ ns (a+4+(0+(i:Int))) (many:=40) (by decide);have h:a+4+(0+(i:Int))=a+4+(i:Int):=by omega
 generalize hc:mixed ns (a+4+(0+(i:Int))) 40=c at *;have j:0<=c / 4 % 5:=Ni _ (by decide);have l:c / 4 % 5<5:=Nm _ (by decide);have m:=DY j l;have g:eO ns (a+4+(i:Int)) b=(1+c % 4,if b then kA (c / 4 % 5) else none):=by unfold eO;rw[<-h,hc]
 have n:aR [7] 9 (au aj (af (ae 0) (af (g2 bg (g2 bg (ae 1) (gC (.int 4))) (ae 8)) (af (gC (.int 40)) ah)))) [some (ao ns),some (.int a),some (.int top),some (.bool b),some e,some la,some f,some (.list L),some (.int (0+(i:Int))),x9]
    =.nx [some (ao ns),some (.int a),some (.int top),some (.bool b),some e,some la,some f,some (.list L),some (.int (0+(i:Int))),some (.int c)]:=by
   rw[mR,if_pos (by simp)];simp only[bS,aA,aF,bV,bh (show 0∉[7] by decide),bh (show 1∉[7] by decide),bh (show 8∉[7] by decide),ar,ay,cQ,Rs.ag,eh,Rs.ai,hm,ax];rfl
 have s2:fR [7] 7 (cL (af (g2 bg (gC (.int 1)) (g2 eC (ae 9) (gC (.int 4)))) (af (g2 dIx (jj (af (gC (.int 0)) (af (gC (.int 1)) (af (gC (.int 1)) (af (gC (.int 0)) (af (gC .none) ah)))))) (g2 eC (g2 iS (ae 9) (gC (.int 4))) (gC (.int 5)))) ah)))
     [some (ao ns),some (.int a),some (.int top),some (.bool b),some e,some la,some f,some (.list L),some (.int (0+(i:Int))),some (.int c)]
    =.nx [some (ao ns),some (.int a),some (.int top),some (.bool b),some e,some la,some f,some (.list (L++[aQ (1+c % 4,kA (c / 4 % 5))])),some (.int (0+(i:Int))),some (.int c)]:=by
   unfold fR;simp only[N9,MZ];simp only[fU,wK,aA,aF,bV,bh (show 9∉[7] by decide),ar,ay,cQ,Rs.ag,eh,Rs.ai,sq,zA,if_pos (show (0:Int)<4 by decide),if_pos (show (0:Int)<5 by decide),if_pos (show (0:Int)<4/\(4:Int)<1073741824 by decide),BK,m,ax,if_pos (show L.length<1000000 by omega)];rfl
 rw[aT,n];simp only;rw[aT,s2];simp only;cases b with
 |true =>rw[g];simp
 |false =>
   rw[g];have hl:atI (L++[aQ (1+c % 4,kA (c / 4 % 5))]) (-1)=some (aQ (1+c % 4,kA (c / 4 % 5))):=by rw[mY];simp
   have o:ixN (L++[aQ (1+c % 4,kA (c / 4 % 5))]).length (-1)=some L.length:=by unfold ixN;rw[if_neg (by decide),Mr,MQ,if_pos (by omega)];congr 1;omega
   have p:(L++[aQ (1+c % 4,kA (c / 4 % 5))]).set L.length (.tuple [.int (1+c % 4),.none])=L++[aQ (1+c % 4,none)]:=by rw[O1 _ _ (Me _)];simp;rfl
   have q:dG (.tuple [.int (1+c % 4),.none])=true:=wF (1+c % 4,none);rw[cp];simp only[uF,dJ,ar,ay,Rs.ag,aV,ax,Bool.not_false,if_true];unfold iO;simp only[N9,MZ,fU,aA,aF,bV,ic,ar,ay,cQ,Rs.ag,B5,Rs.ai,BK,hl,Il,ax,o,q,if_true,p];rfl
theorem kf{j:Int}(h0:0<=j)(h1:j<1000000):FK [.int j]=.ok (bN 0 j.toNat):=by show (if _ then _ else _)=_;rw[if_pos (by omega)]
theorem gR{n:Nat}{d:PyData}(h:(bN lo n)[i]?=some d):i<n/\d=.int (lo+(i:Int)):=by have hi:=(My.mp h).1;rw[cM]at hi;unfold bN at h;rw[Mc,Nu hi]at h;exact⟨hi,(Option.some.inj h).symm⟩
theorem qg(n:Nat)(g:Nat->α):(List.range (n+1)).map g=(List.range n).map g++[g n]:=by rw[List.range_succ,N4];rfl
theorem C5{f:PyData->Int->Int->Bool->Rs PyData}(h:(match ds with|[a,.int x1,.int x2,.bool x3]=>f a x1 x2 x3|_=>.no)≠.no):∃a x1 x2 x3,ds=[a,.int x1,.int x2,.bool x3]/\f a x1 x2 x3≠.no:=by
 rcases ds with _|⟨a,_|⟨x1,_|⟨x2,_|⟨x3,_|⟨y,ys⟩⟩⟩⟩⟩
 ·exact absurd rfl h
 ·exact absurd rfl h
 ·first|exact absurd rfl h|(cases x1 <;> exact absurd rfl h)
 ·first|exact absurd rfl h|(cases x1 <;> first|exact absurd rfl h|(cases x2 <;> exact absurd rfl h))
 ·skip
  cases x1 with
  |int x1 =>
   cases x2 with
   |int x2 =>
    cases x3 with
    |bool x3 =>exact⟨_,_,_,_,rfl,h⟩
    |_=>exact absurd rfl h
   |_=>first|exact absurd rfl h|(cases x3 <;> exact absurd rfl h)
  |_=>first|exact absurd rfl h|(cases x2 <;> first|exact absurd rfl h|(cases x3 <;> exact absurd rfl h))
 ·first|exact absurd rfl h|(cases x1 <;> first|exact absurd rfl h|(cases x2 <;> first|exact absurd rfl h|(cases x3 <;> exact absurd rfl h)))
theorem uo(cs:Cs):LLq (gj cs aj) 4 6 b9:=by
 intro ds hl c;obtain⟨s,a,top,b,p,o⟩:=C5 c;clear c;subst p;have c:=o;clear o
 ·skip
  split at c
  ·rename_i ns g;have es:s=ao ns:=by
    unfold e9 at g;split at g
    ·rename_i l;rw[fk g];rfl
    ·cases g
   subst es;split at c
   ·rename_i hc;obtain⟨ha,h,j⟩:=hc;rw[iA ha h j];show bE (gj cs aj [some (ao ns),some (.int a),some (.int top),some (.bool b),none,none,none,none,none,none])=_;have hm:∀k many:Int,0<=k->0<many->aj [ao ns,.int k,.int many]=.ok (.int (mixed ns k many)):=λk many h1 h2=>cj h1 h2
    have a1:=cz ns a h;have lb:=wd ns a (3+mixed ns a top) (by omega);have b1:=cz ns (a+1) (many:=4) (by decide);have b2:=cJ ns (a+1) (many:=4) (by decide);have n1:=cz ns (a+3) (many:=3) (by decide);have n2:=cJ ns (a+3) (many:=3) (by decide);have c1:=cz ns (a+6) (many:=3) (by decide);have c2:=cJ ns (a+6) (many:=3) (by decide)
    -- every
    have q:aR [7] 4 (g2 bg (gC (.int 3)) (au aj (af (ae 0) (af (ae 1) (af (ae 2) ah))))) [some (ao ns),some (.int a),some (.int top),some (.bool b),none,none,none,none,none,none]
      =.nx [some (ao ns),some (.int a),some (.int top),some (.bool b),some (.int (3+mixed ns a top)),none,none,none,none,none]:=by
     rw[mR,if_pos (by simp)];simp only[bS,aA,aF,bV,bh (show 0∉[7] by decide),bh (show 1∉[7] by decide),bh (show 2∉[7] by decide),ar,ay,cQ,Rs.ag,hm a top ha h,eh,Rs.ai,ax];rfl
    generalize hev:3+mixed ns a top=ev at *;have evp:3<=ev:=by omega
    have s2:aR [7] 5 (g2 fc (au aj (af (ae 0) (af (g2 bg (ae 1) (gC (.int 1))) (af (gC (.int 4)) ah)))) (gF nY (af (g2 dEq (au aj (af (ae 0) (af (g2 bg (ae 1) (gC (.int 2))) (af (gC (.int 3)) ah)))) (gC (.int 0))) ah))) [some (ao ns),some (.int a),some (.int top),some (.bool b),some (.int ev),none,none,none,none,none]
      =.nx [some (ao ns),some (.int a),some (.int top),some (.bool b),some (.int ev),some (.int (mixed ns (a+1) 4*(if mixed ns (a+2) 3=0 then 1 else 0))),none,none,none,none]:=by
     rw[mR,if_pos (by simp)];simp only[bS,aA,aF,bV,eV,bh (show 0∉[7] by decide),bh (show 1∉[7] by decide),ar,ay,cQ,Rs.ag,eh,Rs.ai,hm (a+1) 4 (by omega) (by decide),hm (a+2) 3 (by omega) (by decide),je,Ip];rw[tN (by omega) (by omega)];simp only[Rs.ai,ax,beq_iff_eq];rfl
    have r:aR [7] 5 (gF gA (af (ae 5) (af (g2 gM (ae 4) (gC (.int 1))) ah))) [some (ao ns),some (.int a),some (.int top),some (.bool b),some (.int ev),some (.int (mixed ns (a+1) 4*(if mixed ns (a+2) 3=0 then 1 else 0))),none,none,none,none]
      =.nx [some (ao ns),some (.int a),some (.int top),some (.bool b),some (.int ev),some (.int (ie ns a ev)),none,none,none,none]:=by
     rw[mR,if_pos (by simp)];simp only[eV,aA,aF,bV,bh (show 4∉[7] by decide),bh (show 5∉[7] by decide),ar,ay,cQ,Rs.ag,oN,Rs.ai,uv,ax];rfl
    generalize hla:ie ns a ev=la at *;have t:aR [7] 6 (g2 gM (ae 4) (ae 5)) [some (ao ns),some (.int a),some (.int top),some (.bool b),some (.int ev),some (.int la),none,none,none,none]
      =.nx [some (ao ns),some (.int a),some (.int top),some (.bool b),some (.int ev),some (.int la),some (.int (ev-la)),none,none,none]:=by
     rw[mR,if_pos (by simp)];simp only[bV,bh (show 4∉[7] by decide),bh (show 5∉[7] by decide),ar,ay,Rs.ag,oN,Rs.ai,ax];rfl
    have u:sIf (gT (g2 dEq (au aj (af (ae 0) (af (g2 bg (ae 1) (gC (.int 1))) (af (gC (.int 3)) ah)))) (gC (.int 0)))) (aR [7] 6 (g2 gM (ae 6) (au aj (af (ae 0) (af (g2 bg (ae 1) (gC (.int 2))) (af (ae 6) ah)))))) aX
        [some (ao ns),some (.int a),some (.int top),some (.bool b),some (.int ev),some (.int la),some (.int (ev-la)),none,none,none]
      =.nx [some (ao ns),some (.int a),some (.int top),some (.bool b),some (.int ev),some (.int la),some (.int (nC ns a (ev-la))),none,none,none]:=by
     rw[cp];simp only[dJ,bV,bS,aA,aF,ar,ay,cQ,Rs.ag,eh,Rs.ai,hm (a+1) 3 (by omega) (by decide),je,aV,ax];by_cases z:mixed ns (a+1) 3=0
     · rw[if_pos (by simp[z]),mR,if_pos (by simp)];simp only[bS,aA,aF,bV,bh (show 0∉[7] by decide),bh (show 1∉[7] by decide),bh (show 6∉[7] by decide),ar,ay,cQ,Rs.ag,eh,Rs.ai,hm (a+2) (ev-la) (by omega) (by omega),oN,ax];unfold nC;rw[if_pos z];rfl
     · rw[if_neg (by simp[z])];unfold nC;rw[if_neg z];rfl
    generalize hdu:nC ns a (ev-la)=du at *;have v:dh [7] 7 ah [some (ao ns),some (.int a),some (.int top),some (.bool b),some (.int ev),some (.int la),some (.int du),none,none,none]
      =.nx [some (ao ns),some (.int a),some (.int top),some (.bool b),some (.int ev),some (.int la),some (.int du),some (.list []),none,none]:=rfl
    have src:eJ (af (au aj (af (ae 0) (af (g2 bg (ae 1) (gC (.int 3))) (af (gC (.int 3)) ah)))) ah) (mask [7] [some (ao ns),some (.int a),some (.int top),some (.bool b),some (.int ev),some (.int la),some (.int du),some (.list []),none,none])=.ok (bN 0 (mixed ns (a+3) 3).toNat):=by simp only[j8,bS,aA,aF,bV,bh (show 0∉[7] by decide),bh (show 1∉[7] by decide),ar,ay,cQ,Rs.ag,eh,Rs.ai,hm (a+3) 3 (by omega) (by decide)];exact kf n1 (by omega)
    obtain⟨δ',e,x8,x9,m⟩:=iN (β:=Unit) (tgt:=aZ 8) (body:=az (aR [7] 9 (au aj (af (ae 0) (af (g2 bg (g2 bg (ae 1) (gC (.int 4))) (ae 8)) (af (gC (.int 40)) ah)))))
  (az (fR [7] 7 (cL (af (g2 bg (gC (.int 1)) (g2 eC (ae 9) (gC (.int 4)))) (af (g2 dIx (jj (af (gC (.int 0)) (af (gC (.int 1)) (af (gC (.int 1)) (af (gC (.int 0)) (af (gC .none) ah)))))) (g2 eC (g2 iS (ae 9) (gC (.int 4))) (gC (.int 5)))) ah))))
  (sIf (gP (gT (ae 3))) (iO 7 (g1 kr (gC (.int 1))) (cL (af (g2 dIx (g2 dIx (ae 7) (g1 kr (gC (.int 1)))) (gC (.int 0))) (af (gC .none) ah)))) aX)))
     (λi δ=>∃x8 x9,δ=[some (ao ns),some (.int a),some (.int top),some (.bool b),some (.int ev),some (.int la),some (.int du),some (.list ((List.range i).map λ(k:Nat)=>aQ (eO ns (a+4+(k:Int)) b))),x8,x9])
     (bN 0 (mixed ns (a+3) 3).toNat) 0 (λi d δ hi n=>by obtain⟨x8,x9,w⟩:=n;subst w;rw[MX]at *;obtain⟨hil,rfl⟩:=gR hi;refine⟨[some (ao ns),some (.int a),some (.int top),some (.bool b),some (.int ev),some (.int la),some (.int du),some (.list ((List.range i).map λ(k:Nat)=>aQ (eO ns (a+4+(k:Int)) b))),some (.int (0+(i:Int))),x9],_,rfl,vN ns a top b (.int ev) (.int la) (.int du) ha _ (by simp;omega) i none x9,some (.int (0+(i:Int))),some (.int (mixed ns (a+4+(0+(i:Int))) 40)),?_⟩;rw[qg]) [some (ao ns),some (.int a),some (.int top),some (.bool b),some (.int ev),some (.int la),some (.int du),some (.list []),none,none] ⟨none,none,rfl⟩
    subst m;rw[MX,cM]at e;have hd:(mkE ns a top b).d=.tuple [.int ev,.int du,.int la,.tuple (((List.range (mixed ns (a+3) 3).toNat).map λ(k:Nat)=>aQ (eO ns (a+4+(k:Int)) b))++[aQ (1+mixed ns (a+6) 3,none)])]:=by simp only[mkE,Er.d,N4,Ms,hev,hla,hdu];rfl
    rw[hd];simp only[gj];rw[aT,q];simp only;rw[aT,s2];simp only;rw[aT,r];simp only;rw[aT,t];simp only;rw[aT,u];simp only;rw[aT,v];simp only;rw[aT,kM,src,ax,e];simp only;simp only[bW,fU,wK,aA,aF,bV,eV,bS,ar,ay,cQ,Rs.ag,eh,Rs.ai,hm (a+6) 3 (by omega) (by decide)];have f:bg (.list ((List.range (mixed ns (a+3) 3).toNat).map λ(k:Nat)=>aQ (eO ns (a+4+(k:Int)) b))) (.list [.tuple [.int (1+mixed ns (a+6) 3),.none]])=some (.list (((List.range (mixed ns (a+3) 3).toNat).map λ(k:Nat)=>aQ (eO ns (a+4+(k:Int)) b))++[aQ (1+mixed ns (a+6) 3,none)])):=by show (if _ then _ else _)=_;rw[if_pos (by simp;omega)];rfl
    rw[f];simp
   ·exact absurd rfl c
  ·exact absurd rfl c
def bz:Gf
 |[s,.int a,.int most,.int top,.bool tools]=>(match e9 s with
  |some ns=>if 0<=a/\0<most/\most<=6/\0<top/\top<=58 then .ok (aq (nQ ns a most top tools)) else .no
  |none=>.no)
 |_=>.no
theorem gX{most top:Int}{b:Bool}(h1:0<=a)(h2:0<most)(c:most<=6)(e:0<top)(f:top<=58):bz [ao ns,.int a,.int most,.int top,.bool b]=.ok (aq (nQ ns a most top b)):=by unfold bz;simp[fu,h1,h2,c,e,f]
theorem hV{s:PyData}(a:e9 s=some ns):s=ao ns:=by
 unfold e9 at a;split at a
 ·rename_i l;rw[fk a];rfl
 ·cases a
theorem Aa{f:PyData->Int->Int->Int->Bool->Rs PyData}(h:(match ds with|[a,.int x1,.int x2,.int x3,.bool x4]=>f a x1 x2 x3 x4|_=>.no)≠.no):∃a x1 x2 x3 x4,ds=[a,.int x1,.int x2,.int x3,.bool x4]/\f a x1 x2 x3 x4≠.no:=by
 rcases ds with _|⟨a,_|⟨x1,_|⟨x2,_|⟨x3,_|⟨x4,_|⟨y,ys⟩⟩⟩⟩⟩⟩
 ·exact absurd rfl h
 ·exact absurd rfl h
 ·first|exact absurd rfl h|(cases x1 <;> exact absurd rfl h)
 ·first|exact absurd rfl h|(cases x1 <;> first|exact absurd rfl h|(cases x2 <;> exact absurd rfl h))
 ·first|exact absurd rfl h|(cases x1 <;> first|exact absurd rfl h|(cases x2 <;> first|exact absurd rfl h|(cases x3 <;> exact absurd rfl h)))
 ·skip
  cases x1 with
  |int x1 =>
   cases x2 with
   |int x2 =>
    cases x3 with
    |int x3 =>
     cases x4 with
     |bool x4 =>exact⟨_,_,_,_,_,rfl,h⟩
     |_=>exact absurd rfl h
    |_=>first|exact absurd rfl h|(cases x4 <;> exact absurd rfl h)
   |_=>first|exact absurd rfl h|(cases x3 <;> first|exact absurd rfl h|(cases x4 <;> exact absurd rfl h))
  |_=>first|exact absurd rfl h|(cases x2 <;> first|exact absurd rfl h|(cases x3 <;> first|exact absurd rfl h|(cases x4 <;> exact absurd rfl h)))
 ·first|exact absurd rfl h|(cases x1 <;> first|exact absurd rfl h|(cases x2 <;> first|exact absurd rfl h|(cases x3 <;> first|exact absurd rfl h|(cases x4 <;> exact absurd rfl h))))
theorem qW(cs:Cs):LLq (fB cs b9 aj) 5 1 bz:=by
 intro ds hl c;obtain⟨s,a,most,top,b,n,l⟩:=Aa c;clear c;subst n;have c:=l;clear l
 ·skip
  split at c
  ·rename_i ns o;have es:=hV o;subst es;split at c
   ·rename_i hc;obtain⟨ha,e,g,m,f⟩:=hc;rw[gX ha e g m f];have hm:=cj (ns:=ns) ha e;have m1:=cz ns a e;have m2:=cJ ns a e;have h:aS 6 (eJ (af (ae 5) ah)) ba (au b9 (af (ae 0) (af (g2 bg (g2 bg (ae 1) (gC (.int 1))) (g2 fc (gC (.int 7)) (ae 6))) (af (ae 3) (af (ae 4) ah))))) aE
      [some (ao ns),some (.int a),some (.int most),some (.int top),some (.bool b),some (.int (1+mixed ns a most))]=.ok ((bN 0 (1+mixed ns a most).toNat).map λd=>(mkE ns (a+1+7*deI d) top b).d) :=
     cx rfl (by simp only[j8,aA,aF,ar,ay,Rs.ag];exact kf (by omega) (by omega)) (by rw[cM];omega) λd hd=>by obtain⟨i,hi⟩:=List.getElem?_of_mem hd;obtain⟨_,rfl⟩:=gR hi;simp only[MO,MK,bS,aA,aF,bV,ar,ay,cQ,Rs.ag,eh,Rs.ai];rw[tN (by decide) (by decide)];simp only[Rs.ai,Rs.ag,eh];exact iA (by omega) m f
    have j:aq (nQ ns a most top b)=.tuple ((bN 0 (1+mixed ns a most).toNat).map λd=>(mkE ns (a+1+7*deI d) top b).d):=by
     unfold aq nQ bN;rw[Ms,Ms];congr 1;refine Mv λk _=>?_
     simp[deI]
    rw[j];show bE (fB cs b9 aj [some (ao ns),some (.int a),some (.int most),some (.int top),some (.bool b),none])=_;simp only[fB,aT,i6,Mp,MM,Nat.reduceAdd,Nat.reduceLT,if_true,bS,aA,aF,bV,ar,ay,cQ,Rs.ag,hm,eh,Rs.ai,ax,NA,NB,bW,eV,wy,h,C0,bt]
   ·exact absurd rfl c
  ·exact absurd rfl c
end RS
namespace RS
open PySem PySem.Spec PyProof.Rows L2
section
theorem zw{k:Nat}{G:Ds->Sr}(F:Fun K x qual st f fd)(S:cT N ps (aC st))(c:∀i∈O,ps.length<=i)
  (body:∀(cdv:Value)(A:Around)(outer:List Env)(s:Shared)(H:Hp)(E:XK),ck k (A.deeper (envOfC qual (aC st) s.heap.objs.size f cdv))->PBD (cZ (CXW P w) P w K mg base N qual (aC st) f cdv A outer s H E) E O (b0 st) G)
  (e:∀ds,ds.length=ps.length->gf ds≠.no->bE (G (ds.map some++List.replicate (N.length-ps.length) none))=gf ds):gm P w K mg base (CXW P w) (k+1) f fd ps (spD K ps.length gf):=by
 refine oz F S (λvs H Q E h=>?_) (λcdv A outer s H vs Q E g h=>?_)
 ·obtain⟨A,ds,b,hi,hl,o⟩:=h;rw[hi.length,hl]
 ·obtain⟨A0,ds,b,hi,hl,o⟩:=h;refine⟨_,body cdv A outer s H E g,H,A0,[],_,bK.start b hi hl c,?_⟩;have a:=e ds hl (λz=>by rw[z]at o;exact o);cases q:G (ds.map some++List.replicate (N.length-ps.length) none) with
  |rt d=>rw[q]at a;rw[<-a]at o;exact λv H' s' hv=>o v H' s' hv
  |nx δ=>rw[q]at a;rw[<-a]at o;exact λA' σ H' j=>o .non H' j.same is_none
  |rz C=>rw[q]at a;rw[<-a]at o;exact λH' s'=>o H' s'
  |bk δ=>rw[q]at a;rw[<-a]at o;exact o.elim
  |ct δ=>rw[q]at a;rw[<-a]at o;exact o.elim
  |no=>rw[q]at a;rw[<-a]at o;exact o.elim
theorem CI{b:Array (Option Value)}{kV e:Value}(X:K.In h)(G:h.Ns mainGlobals mg)
  (g:∀(kV doc pm:Value)(an:Option Addr)(cdv ct:Value)(us:List Value),us.length=ps.length->bindArgs (W.fnOf x x (fg st) (b0 st) (aC st) .none kV doc pm an cdv ct) ⟨us,[]⟩=pure (ps.zip us))
  (a:W.nsIn K mainGlobals x=some (some (.ref f)))
  (l:K.lookup f=some ⟨oc,od,.func (W.fnOf x x (fg st) (b0 st) (aC st) .none kV e pm an cd ct),b⟩)
  (c:W.codeIn K cd x=true) (k:W.keepIn K (.ref f)=true):bY K mg x st ps :=
 have F:=wM (st:=st) l c k
 ⟨f,_,F,F.binds g,W.mg_of X G a⟩
theorem xZ(X:K.In h)(G:h.Ns mainGlobals mg)(a:W.nsIn K mainGlobals x=some (some (.ref C)))
 (e:W.excIn K C [.type "ValueError",.type "Exception",.type "BaseException",.type "object"] "ValueError.__new__"=true):wg K mg x C:=⟨W.mg_of X G a,e⟩
theorem FN{n:Int}{t:_}(X:K.In h)(G:h.Ns mainGlobals mg)(a:W.nsIn K mainGlobals x=some (some (.int n t))):∃t,mg x=some (.int n t):=⟨t,W.mg_of X G a⟩
end
def fH(n:Nat):Gf
 |[s]=>(match e9 s with
  |some ns=>if ns.length<=n then .ok (.bool true) else .no
  |none=>.no)
 |_=>.no
theorem K4{l:W.OpenLaw}{k:Nat}{d:DefRec}{K:Params->W.Frag}
  (hn:l.most=some n) (i:n<=sizeLine) (j:d.params.defaults=[]) (y:ck k callerA)
  (A:∀(w:World)(h:Heap),YP w h->(K w.params).In h)
  (B:∀(kV doc pm:Value)(an:Option Addr)(cdv ct:Value)(us:List Value),us.length=1->bindArgs (W.fnOf d.name d.name (fg st) (b0 st) (aC st) .none kV doc pm an cdv ct) ⟨us,[]⟩=pure ([x].zip us))
  (F:∀(w:World)(mg:Str->Option Value)(h:Heap),(K w.params).In h->h.Ns mainGlobals mg->
   bY (K w.params) mg d.name st [x]/\∀f fd,Fun (K w.params) d.name d.name st f fd->∀base:Heap,(K w.params).In base->base.Ns mainGlobals mg->L2.nG mg base->gm l.prog w (K w.params) mg base (CXW l.prog w) k f fd [x] (spD (K w.params) 1 (fH n)))
  (o:∀(w:World)(h:Heap)(c:List Str)(g:ExcName->Option Value)(mg C:Str->Option Value),PyProof.Rows.Top q c g mg C h->(K w.params).In h->L2.mf (K w.params) h:=by exact λ_ _ _ _ _ _ _ _=>L2.tabsIn_nil rfl) :
  W.WalkO q loose XP YP l.row.toRowW d [] (λf vs=>PySem.call f vs) :=
 L2.yR (n:=n) (k:=k) (x:=x) (CX:=λw=>CXW l.prog w) (sp:=λw=>spD (K w.params) 1 (fH n)) hn i j y A
  (λw mg D h X G p=>by obtain⟨⟨f,fd,t,b,m⟩,E⟩:=F w mg h X G;have e:=p.symm.trans m;cases e;refine⟨fd,λs u=>?_,E D fd t⟩;obtain⟨oc,od,kV,doc,pm,an,cdv,ct,osl,rfl,lk,hcd⟩:=t.ex;exact .of_eq (B kV doc pm an cdv ct [u] rfl))
  (λw H a ns hl hO I=>by
   refine⟨[],[ao ns],?_,?_,rfl,?_⟩
   ·exact Ls.nil
   ·rw[yb];exact⟨_,[],rfl,Ab I,rfl⟩
   ·have J:fH n [ao ns]=.ok (.bool true):=by unfold fH;simp[fu,hl]
    rw[J];intro v H' _ hv;rw[yb]at hv;unfold Is at hv;exact hv)
  (λw H s e s' r=>(by obtain⟨_,_,_,_,_,_,z,_⟩:=r;exact z)) o
end RS
set_option maxHeartbeats 4000000
namespace L2
open PySem PySem.Spec PyProof.Rows
def Gb(K:W.Frag)(x:Str):Prop:=∃f oc od fd a c P o vs,W.nsIn K mainGlobals x=some (some (.ref f))/\K.lookup f=some ⟨oc,od,.func fd,a⟩/\fd.code=.ref c/\K.lookup c=some o/\o.data=.fields vs/\vs[11]?=some (.ref P)/\W.codeHdIn K c P=true
section
theorem ig.ofL{k:Nat}{G:Ds->Sr}(F:Fun K x x st f fd)(S:cT N ps (aC st))(b:Binds K fd ps [])(m:mg x=some (.ref f))(B:∀i∈O,ps.length<=i)
  (D:x∈lq) (hm:∀g,W.nsIn K mainGlobals x=some (some (.ref g))->mg x=some (.ref g)) (I:Gb K x) (hB:nG mg base) (hK:K.In base) (J:∀(L:Addr)(cdv:Value),(envOfC x (aC st) L f cdv).qual++"<lambda>"=x++".<locals>.<lambda>")
  (body:∀(cdv:Value)(A:Around)(outer:List Env)(s:Shared)(H:Hp)(E:XK),ck k (A.deeper (envOfC x (aC st) s.heap.objs.size f cdv))->∀c l,DJ (cZ (CXW P w) P w K mg base N x (aC st) f cdv A outer s H E) c l->PBD (cZ (CXW P w) P w K mg base N x (aC st) f cdv A outer s H E) E O (b0 st) G)
  (M:∀ds,ds.length=ps.length->gf ds≠.no->bE (G (ds.map some++List.replicate (N.length-ps.length) none))=gf ds):ig P w K mg base (k+1) x ps.length gf:=by
 obtain⟨oc,od,kV,doc,pm,an,cdv,ct,osl,rfl,n,p⟩:=F.ex;obtain⟨j,oc',od',fd',sl',c,l,o,vs,t,u,R,T,U,X,Y⟩:=I;have Z:j=f:=by have:=hm j t;rw[m]at this;cases this;rfl
 subst Z;rw[n]at u;have r:cdv=.ref c:=by cases u;exact R
 subst r;obtain⟨bm,ob,b1,b2,b3,b4,b5,b6,b7⟩:=hB;refine⟨j,_,ps,Dr n p S (λvs H Q E h=>?_) (λA outer s H vs' Q E hr h=>?_),m,F.kp,b⟩
 ·obtain⟨A,ds,y,hi,hl,o⟩:=h;rw[hi.length,hl]
 ·obtain⟨A0,ds,y,hi,hl,e⟩:=h;refine⟨_,body (.ref c) A outer s H E hr c l ⟨?_,rfl,W.codeHd_of_K hK Y,bm,ob,b1,b2,b3,b4,b5,b6,b7⟩,H,A0,[],_,bK.start y hi hl B,?_⟩
  ·exact⟨x,D,j,_,_,_,_,c,t,n,rfl,⟨o,vs,T,U,X⟩,J _ _⟩
  ·have a:=M ds hl (λz=>by rw[z]at e;exact e);cases q:G (ds.map some++List.replicate (N.length-ps.length) none) with
   |rt d=>rw[q]at a;rw[<-a]at e;exact λv H' s' hv=>e v H' s' hv
   |nx δ=>rw[q]at a;rw[<-a]at e;exact λA' σ H' R'=>e .non H' R'.same is_none
   |rz C=>rw[q]at a;rw[<-a]at e;exact λH' s'=>e H' s'
   |bk δ=>rw[q]at a;rw[<-a]at e;exact e.elim
   |ct δ=>rw[q]at a;rw[<-a]at e;exact e.elim
   |no=>rw[q]at a;rw[<-a]at e;exact e.elim
end
def ft(cond:Ds->Rs Bool)(elt:Ds->Rs PyData)(tgt:PyData->Option Ds)(δ a:Ds):List PyData->Rs (List PyData)
 |[]=>.ok []
 |d::r=>match tgt d with
  |none=>.no
  |some own=>(cond (a++own)).calm.bind λb=>if b=true then (elt (δ++own)).calm.bind λx=>(ft cond elt tgt δ a r).bind λxs=>.ok (x::xs) else ft cond elt tgt δ a r
def mW(n0:Nat)(src:Ds->Rs (List PyData))(cond:Ds->Rs Bool)(elt:Ds->Rs PyData)(tgt:PyData->Option Ds):Ds->Ds->Rs (List PyData):=λδ a=>if δ.length=n0 then (src δ).bind λds=>if ds.length<=1000000 then ft cond elt tgt δ a ds else .no else .no
theorem FG{E:XK}{g:TG}{tt:TT}(hT:TgD K n0 own.length tgt g)(htt:∀σ H Q,cD K E0 cond σ H Q->tt σ H Q){Q:VK}{T:List Addr}{c:Ds}(R:dH K H A δ σ)(P:dH K H T c σ)(I:∀a∈T,a∈A)(o:FI K E A H (mW n0 gi cond ge tgt δ c) Q) :
  tLC own.length (iD K E gi) g tt (eD K E0 ge) σ H Q:=by
 unfold mW at o;by_cases hn0:δ.length=n0
 case neg=>rw[if_neg hn0]at o;exact o.elim
 rw[if_pos hn0]at o;have hσ:σ.length=n0:=by rw[<-R.len];exact hn0
 refine⟨A,δ,R,?_⟩;cases q:gi δ with
 |no=>rw[q]at o;exact o
 |rz C=>rw[q]at o;exact o
 |ok ds =>
  rw[q]at o;have o:FI K E A H (if ds.length<=1000000 then ft cond ge tgt δ c ds else .no) Q:=o;by_cases hz:ds.length<=1000000
  case neg=>rw[if_neg hz]at o;exact o.elim
  rw[if_pos hz]at o;intro J H1 S hJ D L;have R1:=R.same S;have nD:D∉A:=R1.ls.new L;cases qo:ft cond ge tgt δ c ds with
  |rz C =>
   exfalso;have:∀l,ft cond ge tgt δ c l≠.rz C:=by
    intro l
    induction l with
    |nil=>intro z;cases z
    |cons d r ih =>
     intro z;unfold ft at z;split at z
     ·cases z
     ·rename_i t _;cases c1:cond (c++t) with
      |ok b =>
       simp only[c1,Rs.c8,Rs.ag]at z;split at z
       ·cases w:ge (δ++t) with
        |ok x =>
         simp only[w,Rs.c8,Rs.ag]at z;cases B:ft cond ge tgt δ c r with
         |ok l=>simp only[B,Rs.ag]at z;cases z
         |rz C'=>simp only[B,Rs.cB]at z;cases z;exact ih B
         |no=>simp only[B,Rs.bf]at z;cases z
        |rz C'=>simp only[w,Rs.calm,Rs.bf]at z;cases z
        |no=>simp only[w,Rs.calm,Rs.bf]at z;cases z
       ·exact ih z
      |rz C'=>simp only[c1,Rs.calm,Rs.bf]at z;cases z
      |no=>simp only[c1,Rs.calm,Rs.bf]at z;cases z
   exact this ds qo
  |no=>rw[qo]at o;exact o.elim
  |ok out =>
   rw[qo]at o;have base:av (del H1 A) (del (upd H1 D (.lst [])) (D::A)):=λb o e=>by obtain⟨z,e⟩:=a9 e;have nb:b≠D:=aK e L;rw[aI (by simp[nb,z]),aB nb];exact e
   refine⟨λi m ys H'=>m=ds.length-i/\i<=ds.length/\av H1 H'/\H' D=some (.lst ys)/\ys.length<=i/\∃U rest,ft cond ge tgt δ c (ds.drop i)=.ok rest/\out=U++rest/\Iss K (del H' (D::A)) U ys,
    ⟨ds.length,by simp,MR _,bL L,aH,Me _,[],out,qo,rfl,cR⟩,?_⟩
   rintro i m ys H' ⟨rfl,hi,F,hl,hy,U,rest,c1,w,B⟩
   refine⟨hl,?_⟩;have sG:av (del H1 A) H':=aw.trans F;have X:∀b∈D::A,(del H1 A) b=none:=λb M=>by
    rcases M8.mp M with z|z
    ·rw[z,aI nD];exact L
    ·exact gz z
   obtain⟨jg,js,jy⟩:=hJ H' (D::A) sG (λb M=>by
    rcases M8.mp M with z|z
    ·exact⟨_,by rw[z];exact hl,rfl⟩
    ·exact (R1.ls.same F) b z) X
   by_cases hlt:i<ds.length
   ·refine .inr ⟨jg i hlt,λx H2 σ' Y y=>?_⟩;obtain⟨s2,d,ed,hd⟩:=jy i x H2 hlt y;have edr:ds.drop i=d::ds.drop (i+1):=by
     rw[Ng hlt];have:ds[i]=d:=by have:=M1 hlt;rw[this]at ed;exact Option.some.inj ed
     rw[this]
    rw[edr]at c1;unfold ft at c1;cases et:tgt d with
    |none=>rw[et]at c1;cases c1
    |some ow =>
     rw[et]at c1;have l2:H2 D=some (.lst ys):=s2 _ _ hl;have h:Ls H2 (D::A):=λb M=>by
      rcases M8.mp M with z|z
      ·exact⟨_,by rw[z];exact l2,rfl⟩
      ·exact (R1.ls.same (F.trans s2)) b z
     obtain⟨Z,hgo⟩:=hT d x σ σ' H2 (D::A) (λj H2=>tt j H2 λb H3 =>
      if b=true then eD K E0 ge j H3 λv H4=>H4 D=some (.lst ys)/\ys.length<sizeLine/\(∃f,j=σ++f/\f.length=own.length)/\∃m',m' < ds.length-i/\_
      else (∃f,j=σ++f/\f.length=own.length)/\∃m',m' < ds.length-i/\_) ow hσ Y h hd et
     refine hgo λvs n G=>?_
     have sAll:av (del H1 A) (del H2 (D::A)):=lC (sG.trans s2) X;have RE:dH K H2 (D::A) (δ++ow) (σ++vs):=by
      refine⟨h,by rw[Mr,Mr,R.len,n,Z],λk e p=>?_⟩;by_cases hk:k<δ.length
      ·rw[Mz hk]at p;obtain⟨u,e1,N⟩:=R1.get k e p;exact⟨u,by rw[Mz (by rw[<-R.len];exact hk)];exact e1,N.same sAll⟩
      ·rw[MD (by omega)]at p;obtain⟨u,e1,N⟩:=G _ e p;exact⟨u,by rw[MD (by rw[<-R.len];omega),<-R.len];exact e1,N⟩
     have RE2:dH K H2 (D::T) (c++ow) (σ++vs):=by
      have hsub:av (del H2 (D::A)) (del H2 (D::T)):=λb u s=>by
       obtain⟨q1,q2⟩:=a9 s;rw[aI (λz=>q1 (by
        rcases M8.mp z with z|z
        ·rw[z];exact M7
        ·exact M6 _ (I b z)))];exact q2
      have Rf1:=P.same (S.trans (F.trans s2));have nD2:D∉T:=λz=>nD (I D z)
      have hD0:H D=none:=S.free L;refine⟨λb M=>?_,by rw[Mr,Mr,P.len,n,Z],λk e p=>?_⟩
      ·rcases M8.mp M with z|z
       ·exact h b (by rw[z];exact M7)
       ·exact h b (M6 _ (I b z))
      ·by_cases hk:k<c.length
       ·rw[Mz hk]at p;obtain⟨u,e1,N⟩:=P.get k e p;refine⟨u,by rw[Mz (by rw[<-P.len];exact hk)];exact e1,N.same λb u s=>?_⟩;obtain⟨q1,q2⟩:=a9 s;have nb:b≠D:=λz=>by rw[z,hD0]at q2;cases q2
        rw[aI (by simp[nb,q1])];exact (S.trans (F.trans s2)) _ _ q2
       ·rw[MD (by omega)]at p;obtain⟨u,e1,N⟩:=G _ e p;exact⟨u,by rw[MD (by rw[<-P.len];omega),<-P.len];exact e1,N.same hsub⟩
     have bad:∀r:Rs Bool,r=.rz 0->r.calm=.no:=λr e=>by rw[e];rfl
     refine htt _ _ _ (cD.run RE2 (λb s H3 O R3f=>?_) (λC s=>?_) (λs=>?_))
     ·simp only[s,Rs.c8,Rs.ag]at c1;cases b with
      |true =>
       simp only[if_true]at c1;refine eD.run (RE.same O) (λxd ex v H4 s4 R4 hv=>?_) (λC ex=>?_) (λex=>?_)
       ·simp only[ex,Rs.c8,Rs.ag]at c1;cases cr:ft cond ge tgt δ c (ds.drop (i+1)) with
        |ok rs =>
         simp only[cr,Rs.ag]at c1;cases c1;have l4:H4 D=some (.lst ys):=s4 _ _ (O _ _ l2);have dU:del (upd H4 D (.lst (ys++[v]))) (D::A)=del H4 (D::A):=kl (M7);refine⟨l4,by rw[sizeLine_eq];omega,⟨vs,rfl,n⟩,ds.length-(i+1),by omega,rfl,hlt,?_,aH,by simp;omega,U++[xd],rs,cr,by rw[w];simp,?_⟩
         ·exact av.put (((F.trans s2).trans O).trans s4) L
         ·rw[dU];exact (B.same (av.del (s2.trans (O.trans s4)))).append (hU hv)
        |rz C=>simp only[cr,Rs.cB]at c1;cases c1
        |no=>simp only[cr,Rs.bf]at c1;cases c1
       ·simp only[ex,Rs.calm,Rs.bf]at c1;cases c1
       ·simp only[ex,Rs.calm,Rs.bf]at c1;cases c1
      |false =>simp only[Mw,if_false]at c1;exact⟨⟨vs,rfl,n⟩,ds.length-(i+1),by omega,rfl,hlt,(F.trans s2).trans O,O _ _ l2,by omega,U,rest,c1,w,B.same (av.del (s2.trans O))⟩
     ·simp only[s,Rs.calm,Rs.bf]at c1;cases c1
     ·simp only[s,Rs.calm,Rs.bf]at c1;cases c1
   ·have e:i=ds.length:=by omega
    subst e;rw[Od]at c1;cases c1;rw[N3]at w;subst w;exact .inl ⟨js,o D ys H' (S.free L) (S.trans F) hl B⟩
def p5(O:List Nat)(i n0:Nat)(a:Ds->Rs (List PyData))(cond:Ds->Rs Bool)(ge:Ds->Rs PyData)(tgt:PyData->Option Ds):Ds->Sr:=λδ=>if i<δ.length then ofR (mW n0 a cond ge tgt (mask O δ) δ) λds=>.nx (δ.set i (some (.list ds))) else .no
section
variable {E:XK}
theorem DC{b:Ds->Rs (List PyData)}{g:TG}(hc:X.calm=true)(m:X.N.Nodup)(hi:PID X E tg iter b)
  (n:TgD X.K n0 (fF tg).length tgt g) (r:∀C s2 H2 fp,PG (bk X tg scope C s2 H2 fp) tg g) (j:∀C s2 H2 fp,PIf (bk X tg scope C s2 H2 fp) ifs cond) (t:∀C s2 H2 fp,PD (bk X tg scope C s2 H2 fp) E0 elt ge) (u:i∉O)
  (c:X.N[i]?=some x) (v:Loc X.env.scope x) (e:swapsWith (.ListComp elt [⟨tg,iter,ifs,0⟩] scope pos) (some (.Name x pos')) spos.line X.env=pure true)
  (hB:Iu X tg scope=true) (w:∀x,foldedSetIterable iter X.env x=pure x) (y:X.fn x=true\/X.env.scope.names.lookup x=some .local) :
  PSD X E O (.Assign [.Name x pos'] (.ListComp elt [⟨tg,iter,ifs,0⟩] scope pos) spos) (p5 O i n0 b cond ge tgt) :=
 PS.imp (ql (own:=fF tg) (te:=eD X.K E0 ge) hc m c v e hi r (λC s2 H2 fp=>(j C s2 H2 fp).pts) (λC s2 H2 fp=>t C s2 H2 fp) hB w y) λD σ H f=>by
  obtain⟨H0,A0,A,δ,R,o⟩:=f;unfold p5 at o;split at o
  ·rename_i hl;have l:=R.part;refine FG n (PIf.tt (j 0 X.s₀ X.H₀ [])) l R.full (λa ha=>Md _ ha) ?_;cases q:mW n0 b cond ge tgt (mask O δ) δ with
   |ok ds =>rw[q]at o;intro p xs H' hn s z h;exact o A _ H' ((R.step s).set u hl (iP (by rw[aI (l.ls.new hn)];exact z) (h.same mq)))
   |rz C=>rw[q]at o;exact λH' s'=>o H' (R.same.trans s')
   |no=>rw[q]at o;exact o
  ·exact o.elim
end
theorem iw.of{k:Nat}{G:Ds->Sr}(F:Fun K m qual st f fd)(S:cT N ps (aC st))(b:Binds K fd ps [])(cl:Cls K C)(hm:Meth K C m f)(a:∀i∈O,ps.length<=i)
  (body:∀(cdv:Value)(A:Around)(outer:List Env)(s:Shared)(H:Hp)(E:XK),ck k (A.deeper (envOfC qual (aC st) s.heap.objs.size f cdv))->PBD (cZ (CXW P w) P w K mg base N qual (aC st) f cdv A outer s H E) E O (b0 st) G)
  (c:∀ds,ds.length=ps.length->gf ds≠.no->bE (G (ds.map some++List.replicate (N.length-ps.length) none))=gf ds):iw P w K mg base (k+1) C m ps.length gf :=
 ⟨f,fd,ps,cl,hm,RS.zw F S a body c,b⟩
def qL(xs ys:List PyData):List PyData:=List.zipWith (λa b=>PyData.tuple [a,b]) xs ys
theorem BN{es:List PyData}(h1:Iss K G ds xs)(h2:Iss K G es ys)(hl:ys.length=xs.length)(c:∀H1,av G H1->SqT K H1 a xs)(f:∀H1,av G H1->SqL K H1 b ys):vu K (Itz K a b xs.length) (qL ds es) G:=λH1 B s m hB=>by
 have l1:=h1.length;have l2:=h2.length;have n:(qL ds es).length=xs.length:=by unfold qL;rw[List.length_zipWith];omega
 rw[n];refine⟨λi hi=>⟨hi,xs,ys,c H1 s,f H1 s,rfl,hl⟩,⟨rfl,xs,ys,c H1 s,f H1 s,rfl,hl⟩,λi x H2 hi y=>?_⟩;obtain⟨t,p,r,rfl,g,rfl,u,v⟩:=y;obtain⟨d,e,hd⟩:=h1.get (u xs (c H1 s));obtain⟨d',w,h⟩:=h2.get (v ys (f H1 s));refine⟨bL g,.tuple [d,d'],by unfold qL;rw[List.getElem?_zipWith,e,w],?_⟩;have A:t∉B:=m.new g;have j:av G (del (upd H1 t (.tup [p,r])) B):=λb o q=>by have l:=s b o q;have C:b≠t:=aK l g;rw[aI (λz=>by rw[hB b z]at q;cases q),aB C];exact l
 exact ik (by rw[aI A];exact aH) (cA (hd.same j) (hU (h.same j)))
section
variable {E:XK}{a b:Expr}
def G3:List PyData->Rs (List PyData)
 |[.tuple xs,.list ys]=>if ys.length=xs.length then .ok (qL xs ys) else .no
 |_=>.no
def EM(g:Ds->Rs (List PyData)):Ds->Rs (List PyData):=λδ=>(g δ).bind G3
theorem Fx{l:Pos}(hm:X.mg "zip"=none)(ha:PAD X E [a,b] gs)(m:Gl X "zip")(n:starEach [a,b] X.env=[(false,eval a X.env),(false,eval b X.env)])(c:starEach [b] X.env=[(false,eval b X.env)]) :
  PID X E (.Tuple elts x1 l) (.Call (.Name "zip" p) [a,b] [] pos) (EM gs):=(HR m hm ha.1 n c).imp λσ H R ⟨A,δ,Rp,o⟩=>tX Rp o λds vs H1 e s1 R1 h1 o=>by
 unfold G3 at o;split at o
 ·split at o
  ·rename_i hl;obtain⟨v,u,rfl,h,h'⟩:=Ay h1;obtain⟨p,xs,rfl,f,g⟩:=h.ofTup;obtain⟨q,ys,rfl,i,j⟩:=h'.ofLst;have l1:=g.length;have l2:=j.length;exact⟨p,q,xs,ys,rfl,SqT.of (aw _ _ f),SqL.of (aw _ _ i),by omega,o _ H1 (av.refl _) (BN g j (by omega) (λH2 s2=>SqT.of (s2 _ _ f)) λH2 s2=>SqL.of (s2 _ _ i))⟩
  ·exact o.elim
 ·exact o.elim
end
end L2
namespace RS
open PySem L2
abbrev JN:List Str:=["number", "parts", "rank", "row"]
abbrev JT:List (Str×Int):=[("job",0),("part",0),("spent",0)]
def eY(cs:Cs):Ds->Sr :=
 (az (aR [] 2 (g2 dIx (ae 0) (gC (.int 0))))
  (az (aR [] 3 (g2 dIx (ae 0) (gC (.int 2))))
  (az (aR [] 4 (g2 gM (gC (.int 0)) (ae 3)))
  (az (eP [] (bB (ae 1)) (aZ 5) (az (aR [] 6 (gF iy (af (ae 4) (af (g2 gM (ae 5) (ae 3)) ah))))
  (az (sIf (gT (g2 dGt (ae 6) (ae 5))) (bx (gC (.bool false))) aX)
  (aR [] 4 (g2 bg (ae 6) (ae 2))))))
  (bx (gC (.bool true)))))))
def l7(cs:Cs)(aP bU:Gf):Ds->Sr :=
 (az (sIf (cOr (gP (gT (g1 (ia "list") (ae 1)))) (gT (g2 dGt (gF bA (af (ae 1) ah)) (gC (.int 60))))) (bx (gC (.bool false))) aX)
  (bx (vj (gF nW (af (gL (aS 2 (bB (ae 1)) ba (au aP (af (ae 2) (af (gC (.int 0)) (af (gC (.int 9999)) ah)))) aE)) ah)) (au bU (af (ae 0) (af (ae 1) ah))))))
def dF(cs:Cs)(cX bP:Gf):Ds->Sr :=
 (az (si (au bP (af (ae 0) ah)))
  (az (sIf (cOr (gP (gT (g1 (ia "list") (ae 1)))) (gT (g2 dNe (gF bA (af (ae 1) ah)) (gF bA (af (ae 0) ah))))) (jk cs.NoComings (af (gC (.str "comings are a list of one list for each errand")) ah)) aX)
  (az (sIf (gP (gT (gF nW (af (gL (aS 2 (EM (af (ae 0) (af (ae 1) ah))) ba (au cX (af (ae 2) (af (ae 3) ah))) jY)) ah)))) (jk cs.NoComings (af (gC (.str "an errand can not come so")) ah)) aX)
  (bx (gL (aS 2 (bB (ae 1)) ba (gF k7 (af (ae 2) ah)) aE))))))
def dk(cs:Cs):Ds->Sr :=
 (bx (g2 dEq (g1 (bG cs.Jobs "job") (ae 0)) (gF bA (af (g1 (bG cs.Jobs "row") (ae 0)) ah))))
def eF(cs:Cs):Ds->Sr :=
 (bx (gIf (gT (g2 dEq (g1 (bG cs.Jobs "spent") (ae 0)) (gC (.int 0)))) (g2 dIx (g2 dIx (g1 (bG cs.Jobs "parts") (ae 0)) (g1 (bG cs.Jobs "part") (ae 0))) (gC (.int 1))) (gC .none)))
def fK(cs:Cs):Ds->Sr :=
 (bx (gIf (gT (g2 dGt (g1 (bG cs.Jobs "spent") (ae 0)) (gC (.int 0)))) (g2 dIx (g2 dIx (g1 (bG cs.Jobs "parts") (ae 0)) (g1 (bG cs.Jobs "part") (ae 0))) (gC (.int 1))) (gC .none)))
def jV(cs:Cs)(aM:Gf):Ds->Sr :=
 (az (sIf (gT (g1 nR (ae 1))) (bx (gC .none)) aX)
  (az (eP [] (bB (ae 0)) (aZ 2) (sIf (gT (g2 dEq (bq cs.Jobs "held" aM (ae 2) ah) (ae 1))) (bx (ae 2)) aX))
  (bx (gC .none))))
def gp(cs:Cs)(aJ bI:Gf):Ds->Sr :=
 (az (pj 1)
  (az (eP [1] (bB (ae 0)) (aZ 2) (az (aR [1] 3 (au bI (af (ae 0) (af (bq cs.Jobs "wanted" aJ (ae 2) ah) ah))))
  (sIf (gT (g1 jL (ae 3))) (ff 1 (g1 (bG cs.Jobs "number") (ae 3)) (gF gA (af (g1 (bG cs.Jobs "rank") (ae 2)) (af (lK (ae 1) (g1 (bG cs.Jobs "number") (ae 3)) (g1 (bG cs.Jobs "rank") (ae 3))) ah)))) aX)))
  (bx (ae 1))))
def bX(cs:Cs)(aM:Gf):Ds->Sr :=
 (az (aR [] 2 (bq cs.Jobs "held" aM (ae 0) ah))
  (az (sIf (gT (g1 nR (ae 2))) (bx (cL (af (g1 (bG cs.Jobs "rank") (ae 0)) (af (gC (.int 1)) ah)))) aX)
  (bx (cL (af (gF gA (af (g1 (bG cs.Jobs "rank") (ae 0)) (af (g2 dIx (ae 1) (ae 2)) ah))) (af (gC (.int 0)) ah))))))
def dm(cs:Cs):Ds->Sr :=
 (bx (vj (g2 dLt (g1 (bG cs.Jobs "job") (ae 0)) (gF bA (af (g1 (bG cs.Jobs "row") (ae 0)) ah))) (g2 dLe (g2 dIx (g1 (bG cs.Jobs "row") (ae 0)) (g1 (bG cs.Jobs "job") (ae 0))) (ae 1))))
def yS(cs:Cs)(bp dR bD bP:Gf):Ds->Sr :=
 (az (si (au bP (af (ae 0) ah)))
  (az (si (au bD (af (ae 0) (af (ae 1) ah))))
  (bx (au dR (af (ae 0) (af (ae 1) (af (au bp (af (ae 0) (af (ae 2) ah))) (af (ae 3) ah))))))))
def cW(cs:Cs)(aj:Gf):Ds->Sr :=
 (az (aR [6] 4 (au aj (af (ae 0) (af (ae 1) (af (g2 D7 (gC (.int 10)) (gC (.int 9))) ah)))))
  (az (aR [6] 5 (g2 gM (g2 eC (ae 4) (g2 bg (g2 dIx (ae 2) (gC (.int 0))) (gC (.int 2)))) (g2 dIx (ae 2) (gC (.int 2)))))
  (az (dh [6] 6 ah)
  (az (aR [6] 7 (gC (.int 0)))
  (az (λδ=>bF (qS (gT (g2 dLt (g2 bg (ae 5) (g2 dIx (ae 2) (gC (.int 2)))) (ae 3))) (gT (g2 dLt (gF bA (af (ae 6) ah)) (gC (.int 60))))) (az (aR [6] 8 (g2 eC (g2 fc (g2 bg (g2 bg (ae 4) (g2 fc (g2 fc (gC (.int 104729)) (ae 7)) (ae 7))) (g2 fc (gC (.int 7919)) (ae 7))) (gC (.int 48271))) (gC (.int 2147483647))))
  (az (aR [6] 9 (gF iy (af (gC (.int 0)) (af (g2 bg (ae 5) (g2 eC (g2 iS (ae 8) (gC (.int 7))) (g2 bg (g2 dIx (ae 2) (gC (.int 2))) (gC (.int 1))))) ah))))
  (az (sIf (gT (g2 dNe (ae 6) (jj ah))) (ky 9 (gF iy (af (ae 9) (af (g2 bg (g2 dIx (ae 6) (g1 kr (gC (.int 1)))) (gC (.int 1))) ah)))) aX)
  (az (fR [6] 6 (ae 9))
  (az (aR [6] 5 (g2 bg (ae 5) (g2 dIx (ae 2) (gC (.int 0)))))
  (az (sIf (gT (g2 dEq (g2 eC (g2 iS (ae 8) (gC (.int 61))) (gC (.int 3))) (gC (.int 0)))) (aR [6] 5 (g2 bg (ae 5) (g2 eC (g2 iS (ae 8) (gC (.int 997))) (g2 dIx (ae 2) (gC (.int 0)))))) aX)
  (aR [6] 7 (g2 bg (ae 7) (gC (.int 1)))))))))) 1000000 δ)
  (bx (ae 6)))))))
def eo(cs:Cs)(bj:Gf):Ds->Sr :=
 (bx (gL (aS 4 (eJ (af (gF bA (af (ae 2) ah)) ah)) ba (au bj (af (ae 0) (af (g2 bg (ae 1) (ae 4)) (af (g2 dIx (ae 2) (ae 4)) (af (ae 3) ah))))) aE)))
def iU(cs:Cs)(bc aW cG aL:Gf)(a:List (Str×PyData)->Option (List (Str×PyData)))(as:List Addr):Ds->Sr :=
 (az (dh [6] 6 ah)
  (az (λδ=>bF (gP (gT (gF nW (af (gL (aS 9 (bB (ae 5)) ba (bq cs.Jobs "are_done" aW (ae 9) ah) aE)) ah)))) (az (p5 [6] 7 9 (bB (ae 5)) (gT (bq cs.Jobs "is_there" aL (ae 9) (af (gF bA (af (ae 6) ah)) ah))) (ae 9) aE)
  (sIf (gT (g2 dEq (gF bA (af (ae 7) ah)) (gC (.int 0)))) (fR [6] 6 (gC .none)) (az (aR [6] 8 (au cG (af (ae 7) (af (ae 4) (af (ae 3) ah)))))
  (az (fR [6] 6 (cL (af (g1 (bG cs.Jobs "number") (ae 8)) (af (g1 (bG cs.Jobs "job") (ae 8)) ah))))
  (kN as cs.Jobs "go_on" 8 a))))) 1000000 δ)
  (bx (ae 6))))
def f9(cs:Cs)(as:List Addr):Ds->Sr :=
 (az (eK as cs.Jobs 0 "spent" (gC (.int 1)))
  (az (sIf (gT (g2 dEq (g1 (bG cs.Jobs "spent") (ae 0)) (g2 dIx (g2 dIx (g1 (bG cs.Jobs "parts") (ae 0)) (g1 (bG cs.Jobs "part") (ae 0))) (gC (.int 0))))) (az (lN as cs.Jobs 0 "spent" (gC (.int 0)))
  (eK as cs.Jobs 0 "part" (gC (.int 1)))) aX)
  (sIf (gT (g2 dEq (g1 (bG cs.Jobs "part") (ae 0)) (gF bA (af (g1 (bG cs.Jobs "parts") (ae 0)) ah)))) (az (lN as cs.Jobs 0 "part" (gC (.int 0)))
  (eK as cs.Jobs 0 "job" (gC (.int 1)))) aX)))
def jm(cs:Cs)(cq aJ bI bT:Gf):Ds->Sr :=
 (az (sIf (gT (g2 dEq (ae 2) (gC (.str "high")))) (bx (iY [1] (ae 0) (au bT (af (ae 0) (af (ae 1) ah))))) aX)
  (az (aR [] 3 (gL (aS 5 (bB (ae 0)) (gT (g1 nR (au bI (af (ae 0) (af (bq cs.Jobs "wanted" aJ (ae 5) ah) ah))))) (ae 5) aE)))
  (az (aR [] 4 (gIf (gT (g2 dEq (ae 2) (gC (.str "asked")))) (au cq (af (ae 0) ah)) (gC (bM []))))
  (bx (iY [4] (ae 3) (lK (ae 1) (g1 (bG cs.Jobs "number") (ae 0)) (g1 (bG cs.Jobs "rank") (ae 0))))))))
end RS
set_option maxHeartbeats 1000000
namespace RS
open PySem L2
def cn:Gf
 |[d,.int t]=>if uN d then .ok (.bool ((deE d).has t)) else .no
 |_=>.no
theorem jK{e:Er}(h:e.Sh):cn [e.d,.int t]=.ok (.bool (e.has t)):=by unfold cn;simp[n6 h,zu]
theorem vo(t:Int):∀ps:List (Int×Option Int),inD (.int t) ((ps.map aQ).map λd=>bw (eM d).2)=ps.any λp=>p.2==some t
 |[]=>rfl
 |p::r=>by
  have h1:eqV (toV (bw p.2)) (.int t)=(p.2==some t):=by
   rcases hp:p.2 with _|z
   ·rfl
   ·show (z==t)=(some z==some t)
    simp
  have:=vo t r;unfold inD inV at this ⊢;rw[M5,M5,M5,Nj,Nj,this,pM];show (eqV (toV (bw p.2)) (.int t)||_)=_;rw[h1]
theorem Ak(ps:List (Int×Option Int)):((ps.map aQ).map λd=>bw (eM d).2).all fX=true:=by rw[Mu];intro d hd;obtain⟨n,_,rfl⟩:=Mj.mp hd;cases (eM n).2 <;> rfl
theorem Jq{f:PyData->Int->Rs PyData}(h:(match ds with|[a,.int x1]=>f a x1|_=>.no)≠.no):∃a x1,ds=[a,.int x1]/\f a x1≠.no:=by
 rcases ds with _|⟨a,_|⟨x1,_|⟨y,ys⟩⟩⟩
 ·exact absurd rfl h
 ·exact absurd rfl h
 ·skip
  cases x1 with
  |int x1 =>exact⟨_,_,rfl,h⟩
  |_=>exact absurd rfl h
 ·first|exact absurd rfl h|(cases x1 <;> exact absurd rfl h)
theorem xU(cs:Cs):LLq (iM cs) 2 0 cn:=by
 intro ds hl a;obtain⟨d,t,f,c⟩:=Jq a;clear a;subst f;have a:=c;clear c
 ·skip
  split at a
  ·rename_i hd;obtain⟨e1,sh⟩:=wx hd;rw[<-e1];generalize deE d=e at sh;rw[jK sh];have hc:aS 2 (bB (g2 dIx (ae 0) (gC (.int 3)))) ba (g2 dIx (ae 2) (gC (.int 1))) aE [some e.d,some (.int t)]=.ok ((e.parts.map aQ).map λd=>bw (eM d).2) :=
    cx rfl (by simp[Ac]) (by have:=sh.pn;simp;omega) λd b=>by obtain⟨p,hp,rfl⟩:=Mj.mp b;simp[JB,pM]
   have hi:DP false (.int t) (.list ((e.parts.map aQ).map λd=>bw (eM d).2))=some (.bool (e.has t)):=by show (if (fX (.int t)&&_)=true then some (PyData.bool (if false=true then _ else inD _ _)) else none)=_;rw[Ak,vo];rfl
   show bE (iM cs [some e.d,some (.int t)])=_;simp only[iM,bW,bV,ar,ay,wy,hc,Rs.ag,hi,Rs.ai,ax,bt]
  ·exact absurd rfl a
def dz:Gf
 |[d,r,.int t]=>if qk d&&dZ (jB d).length r then .ok (bw (dw (jB d) (fq r) t)) else .no
 |_=>.no
theorem lz(h1:es.length<=100)(h:∀e∈es,e.Sh)(a:fW es.length rs):dz [aq es,ak rs,.int t]=.ok (bw (dw es rs t)):=by unfold dz;simp[qe h1 h,uj,iW a,lA]
theorem nE(es:List Er)(a:∀e∈es,e.Sh)(R:PyData)(t:Int):∀(rs:List Int)(k:Nat)(x3 x4:Option PyData),(∀m∈rs,0<=m/\m<es.length) ->
   (∃i,hts es rs k t=some i/\forL (d8 [3,4]) (sIf (gT (au cn (af (g2 dIx (ae 0) (ae 4)) (af (ae 2) ah)))) (bx (ae 3)) aX) ((rs.map PyData.int).mapIdx λi d=>.tuple [.int ((k+i:Nat):Int),d]) [some (aq es),some R,some (.int t),x3,x4]=.rt (.int i))
  \/(hts es rs k t=none/\∃δ,forL (d8 [3,4]) (sIf (gT (au cn (af (g2 dIx (ae 0) (ae 4)) (af (ae 2) ah)))) (bx (ae 3)) aX) ((rs.map PyData.int).mapIdx λi d=>.tuple [.int ((k+i:Nat):Int),d]) [some (aq es),some R,some (.int t),x3,x4]=.nx δ)
 |[],k,x3,x4,_=>.inr ⟨rfl,_,rfl⟩
 |m::r,k,x3,x4,hm=>by
   have b:=hm m M7;have a2:atI (es.map Er.d) m=some (dD es m).d:=km b.1 b.2;have f:=jK (t:=t) (a _ (gO b.1 b.2));rw[M5,List.mapIdx_cons];unfold forL;have e1:d8 [3,4] (PyData.tuple [.int ((k+0:Nat):Int),.int m]) [some (aq es),some R,some (.int t),x3,x4]=some [some (aq es),some R,some (.int t),some (.int (k:Int)),some (.int m)]:=rfl;rw[e1];simp only[cp,dJ,bS,aA,aF,bV,ar,ay,Rs.ag,aq,Cc,a2,Rs.ai,f,aV,ax,bW,fE];unfold hts;cases hh:(dD es m).has t with
   |true=>exact .inl ⟨k,rfl,rfl⟩
   |false =>
    simp only[Mw,if_false];have c:=nE es a R t r (k+1) (some (.int (k:Int))) (some (.int m)) (λx g=>hm x (M6 _ g));rw[show ((k+1:Nat):Int)=(k:Int)+1 by omega]at c;have h:(λ(i:Nat)(d:PyData)=>PyData.tuple [.int ((k+(i+1):Nat):Int),d])=λi d=>.tuple [.int ((k+1+i:Nat):Int),d]:=by funext i d;rw[show k+(i+1)=k+1+i by omega]
    rw[h];exact c
theorem Fp{f:PyData->PyData->Int->Rs PyData}(h:(match ds with|[a,x1,.int x2]=>f a x1 x2|_=>.no)≠.no):∃a x1 x2,ds=[a,x1,.int x2]/\f a x1 x2≠.no:=by
 rcases ds with _|⟨a,_|⟨x1,_|⟨x2,_|⟨y,ys⟩⟩⟩⟩
 ·exact absurd rfl h
 ·exact absurd rfl h
 ·exact absurd rfl h
 ·skip
  cases x2 with
  |int x2 =>exact⟨_,_,_,rfl,h⟩
  |_=>exact absurd rfl h
 ·first|exact absurd rfl h|(cases x2 <;> exact absurd rfl h)
theorem CG(cs:Cs):LLq (lg cs cn) 3 2 dz:=by
 intro ds hl a;obtain⟨d,r,t,h,f⟩:=Fp a;clear a;subst h;have a:=f;clear f
 ·skip
  split at a
  ·rename_i hc;simp only[Mm]at hc;obtain⟨c1,j⟩:=hc;obtain⟨e1,hlen,c⟩:=xY c1;obtain⟨e2,g⟩:=oQ j;rw[<-e1,<-e2];generalize jB d=es at *;generalize fq r=rs at *;rw[lz hlen c g];have loop:=nE es c (ak rs) t rs 0 none none g.rng;show bE (lg cs cn [some (aq es),some (ak rs),some (.int t),none,none])=_;have src:kB (af (ae 1) ah) [some (aq es),some (ak rs),some (.int t),none,none]=.ok ((rs.map PyData.int).mapIdx λi d=>.tuple [.int ((0+i:Nat):Int),d]):=by simp only[yt,aA,aF,ar,ay,Rs.ag,ak,yc,ja,MX]
   simp only[lg];rw[aT,kM,oP,src,ax];unfold dw;rcases loop with⟨i,b,e⟩|⟨b,δ,e⟩
   ·rw[e];have b:hts es rs 0 t=some i:=b;rw[b];rfl
   ·rw[e];have b:hts es rs 0 t=none:=b;rw[b];rfl
  ·exact absurd rfl a
def bu(es:List Er)(rs:List Int):PyData:=.list ((List.range 4).map λ(t:Nat)=>bw (dw es rs t))
def bc:Gf
 |[d,r]=>if qk d&&dZ (jB d).length r then .ok (bu (jB d) (fq r)) else .no
 |_=>.no
theorem iu(h1:es.length<=100)(h:∀e∈es,e.Sh)(a:fW es.length rs):bc [aq es,ak rs]=.ok (bu es rs):=by unfold bc;simp[qe h1 h,uj,iW a,lA]
theorem Hw{f:PyData->PyData->Rs PyData}(h:(match ds with|[a,x1]=>f a x1|_=>.no)≠.no):∃a x1,ds=[a,x1]/\f a x1≠.no:=by
 rcases ds with _|⟨a,_|⟨x1,_|⟨y,ys⟩⟩⟩
 ·exact absurd rfl h
 ·exact absurd rfl h
 ·skip
  exact⟨_,_,rfl,h⟩
 ·exact absurd rfl h
theorem uc(cs:Cs):LLq (f6 cs dz) 2 0 bc:=by
 intro ds hl a;obtain⟨d,r,g,e⟩:=Hw a;clear a;subst g;have a:=e;clear e
 ·skip
  split at a
  ·rename_i hc;simp only[Mm]at hc;obtain⟨c1,h⟩:=hc;obtain⟨e1,hlen,b⟩:=xY c1;obtain⟨e2,f⟩:=oQ h;rw[<-e1,<-e2];generalize jB d=es at *;generalize fq r=rs at *;rw[iu hlen b f];have j:∀t:Int,dz [aq es,ak rs,.int t]=.ok (bw (dw es rs t)):=λt=>lz hlen b f
   have c:aS 2 (eJ (af (gC (.int 4)) ah)) ba (au dz (af (ae 0) (af (ae 1) (af (ae 2) ah)))) aE [some (aq es),some (ak rs)]=.ok ((bN 0 (4:Int).toNat).map λx=>bw (dw es rs (deI x))) :=
    cx rfl (by simp only[j8,aA,aF,cQ,Rs.ag];exact kf (by decide) (by decide)) (by rw[cM];decide) λx l=>by obtain⟨i,hi⟩:=List.getElem?_of_mem l;obtain⟨_,rfl⟩:=gR hi;simp only[MO,MK,bS,aA,aF,ar,ay,Rs.ag,j];rfl
   have hd:bu es rs=.list ((bN 0 (4:Int).toNat).map λx=>bw (dw es rs (deI x))):=by
    unfold bu bN;rw[Ms];congr 1
    try exact Mv λk _=>by simp[deI]
   rw[hd];show bE (f6 cs dz [some (aq es),some (ak rs)])=_;simp only[f6,bW,wy,c,Rs.ag,ax,bt]
  ·exact absurd rfl a
def dC(ns:List Int)(a:Int)(many:Nat):Nat->List Int×List Int
 |0=>((List.range many).map λ(i:Nat)=>(i:Int),[])
 |i+1=>((dC ns a many i).1.eraseIdx (mixed ns (a+(i:Int)) ((dC ns a many i).1.length:Int)).toNat,(dC ns a many i).2++[(dC ns a many i).1.getD (mixed ns (a+(i:Int)) ((dC ns a many i).1.length:Int)).toNat 0])
def oB(ns:List Int)(a:Int)(many:Nat):List Int:=(dC ns a many many).2
theorem pU{α:Type}:∀(l:List α)(j:Nat)(h:j<l.length),(l[j]::l.eraseIdx j).Perm l
 |[],j,h=>by simp at h
 |x::r,0,h=>by simp
 |x::r,j+1,h=>by
  simp only[List.getElem_cons_succ,List.eraseIdx_cons_succ];have h':j<r.length:=by simpa using h
  exact (List.Perm.swap _ _ _).trans ((pU r j h').cons x)
theorem sH{α β:Type}(f:α->β):∀(l:List α)(j:Nat),(l.map f).eraseIdx j=(l.eraseIdx j).map f
 |[],j=>by simp
 |x::r,0=>by simp
 |x::r,j+1=>by simp[sH f r j]
theorem oX(ns:List Int)(a:Int)(many:Nat):∀i,i<=many->(dC ns a many i).1.length=many-i/\(dC ns a many i).2.length=i/\((dC ns a many i).1++(dC ns a many i).2).Perm ((List.range many).map λ(i:Nat)=>(i:Int))
 |0,_=>⟨by simp[dC],rfl,by simp[dC]⟩
 |i+1,h=>by
  obtain⟨h1,h2,c⟩:=oX ns a many i (by omega);simp only[dC];generalize (dC ns a many i).1=L at *;generalize (dC ns a many i).2=M at *;have hL:0<(L.length:Int):=by omega
  have m0:=cz ns (a+(i:Int)) hL;have m1:=cJ ns (a+(i:Int)) hL;generalize mixed ns (a+(i:Int)) (L.length:Int)=z at *;have b:z.toNat<L.length:=by omega
  refine⟨by rw[List.length_eraseIdx_of_lt b];omega,by simp[h2],?_⟩;refine List.Perm.trans ?_ c;rw[M9,M1 b,Nl];have p1:(L[z.toNat]::L.eraseIdx z.toNat).Perm L:=pU L z.toNat b;have p2:(L.eraseIdx z.toNat++(M++[L[z.toNat]])).Perm ((L[z.toNat]::L.eraseIdx z.toNat)++M):=by rw[<-NW];exact (List.perm_append_singleton _ _)
  exact p2.trans (p1.append_right M)
theorem wD(ns:List Int)(a:Int)(many:Nat):fW many (oB ns a many):=by
 obtain⟨h1,h2,b⟩:=oX ns a many many (Me _);unfold oB;have e:(dC ns a many many).1=[]:=Nw.mp (by omega);rw[e,MK]at b;refine⟨h2,λr c=>?_,b.nodup_iff.mpr ?_⟩
 ·obtain⟨k,g,rfl⟩:=Mj.mp (b.mem_iff.mp c);have:=N2.mp g;omega
 ·exact (List.nodup_range).map (f:=λ(i:Nat)=>(i:Int)) λx y h=>by intro q;have q:(x:Int)=(y:Int):=q;exact h (by omega)
def b8:Gf
 |[s,.int a,.int many]=>(match e9 s with
  |some ns=>if 0<=a/\0<=many/\many<=100 then .ok (ak (oB ns a many.toNat)) else .no
  |none=>.no)
 |_=>.no
theorem i9{a:Int}(h1:0<=a)(h2:0<=many)(b:many<=100):b8 [ao ns,.int a,.int many]=.ok (ak (oB ns a many.toNat)):=by unfold b8;simp[fu,h1,h2,b]
theorem AI(ns:List Int)(a:Int)(n i:Nat)(L M:List Int)(ha:0<=a)(hL:0<(L.length:Int))(hL2:L.length<=100)(hM:M.length<=100) :
   iL 4 3 (au aj (af (ae 0) (af (g2 bg (ae 1) (ae 5)) (af (gF bA (af (ae 3) ah)) ah)))) [some (ao ns),some (.int a),some (.int (n:Int)),some (.list (L.map .int)),some (.list (M.map .int)),some (.int (0+(i:Int)))]
  =.nx [some (ao ns),some (.int a),some (.int (n:Int)),some (.list ((L.eraseIdx (mixed ns (a+(i:Int)) (L.length:Int)).toNat).map .int)),some (.list ((M++[L.getD (mixed ns (a+(i:Int)) (L.length:Int)).toNat 0]).map .int)),some (.int (0+(i:Int)))]:=by
 have b:=cj (ns:=ns) (k:=a+(0+(i:Int))) (many:=(L.length:Int)) (by omega) hL;have g:=cz ns (a+(i:Int)) hL;have m1:=cJ ns (a+(i:Int)) hL;rw[show a+(0+(i:Int))=a+(i:Int) by omega]at b;generalize mixed ns (a+(i:Int)) (L.length:Int)=z at *;have f:z.toNat<L.length:=by omega
 have h:au aj (af (ae 0) (af (g2 bg (ae 1) (ae 5)) (af (gF bA (af (ae 3) ah)) ah))) [some (ao ns),some (.int a),some (.int (n:Int)),some (.list (L.map .int)),some (.list (M.map .int)),some (.int (0+(i:Int)))]=.ok (.int z):=by simp only[bS,aA,aF,bV,eV,ar,ay,Rs.ag,eh,Rs.ai,jT,M4];rw[show a+(0+(i:Int))=a+(i:Int) by omega];exact b
 have c:ixN (L.map PyData.int).length z=some z.toNat:=by unfold ixN;rw[if_pos g,if_pos (by rw[M4];omega)]
 have e:(L.map PyData.int)[z.toNat]?=some (.int (L.getD z.toNat 0)):=by rw[Mc,M1 f,M9,M1 f];rfl
 unfold iL;simp only[N9,MZ,h,ax];rw[if_pos (by refine⟨by omega,by omega,?_⟩;rw[M4];omega)];simp only[c,e,NA,NB,N4,M5,Nc];rw[sH]
theorem Au(ns:List Int)(a:Int)(n i:Nat)(ha:0<=a)(hi:i<n)(hn:n<=100) :
   iL 4 3 (au aj (af (ae 0) (af (g2 bg (ae 1) (ae 5)) (af (gF bA (af (ae 3) ah)) ah)))) [some (ao ns),some (.int a),some (.int (n:Int)),some (.list ((dC ns a n i).1.map .int)),some (.list ((dC ns a n i).2.map .int)),some (.int (0+(i:Int)))]
  =.nx [some (ao ns),some (.int a),some (.int (n:Int)),some (.list ((dC ns a n (i+1)).1.map .int)),some (.list ((dC ns a n (i+1)).2.map .int)),some (.int (0+(i:Int)))]:=by
 obtain⟨h1,h2,h3⟩:=oX ns a n i (by omega);simp only[dC];exact AI ns a n i _ _ ha (by omega) (by omega) (by omega)
theorem rk1(ns:List Int)(a:Int)(n:Nat)(hm2:(n:Int)<=100):dh [3,4] 3 (gLR (af (ae 2) ah)) [some (ao ns),some (.int a),some (.int (n:Int)),none,none,none]=.nx [some (ao ns),some (.int a),some (.int (n:Int)),some (.list ((dC ns a n 0).1.map .int)),none,none]:=by
 have b:gLR (af (ae 2) ah) (mask [3,4] [some (ao ns),some (.int a),some (.int (n:Int)),none,none,none])=.ok (bN 0 n):=by simp only[Ka,aA,aF,bh (show 2∉[3,4] by decide),ar,ay,Rs.ag];unfold uI;simp only;rw[if_pos (by omega),ME]
 have c:(dC ns a n 0).1.map PyData.int=bN 0 n:=by
  simp only[dC,bN,Ms];refine Mv λk _=>?_
  simp
 rw[c];unfold dh;rw[b,if_pos (by simp)];simp only[ax,NA,NB]
theorem rk2(ns:List Int)(a:Int)(n:Nat):dh [3,4] 4 ah [some (ao ns),some (.int a),some (.int (n:Int)),some (.list ((dC ns a n 0).1.map .int)),none,none]=.nx [some (ao ns),some (.int a),some (.int (n:Int)),some (.list ((dC ns a n 0).1.map .int)),some (.list ((dC ns a n 0).2.map .int)),none]:=by unfold dh;rw[if_pos (by simp)];simp only[aF,ax,NA,NB];rfl
theorem rk3(ns:List Int)(a:Int)(n:Nat)(hm2:(n:Int)<=100):eJ (af (ae 2) ah) (mask [3,4] [some (ao ns),some (.int a),some (.int (n:Int)),some (.list ((dC ns a n 0).1.map .int)),some (.list ((dC ns a n 0).2.map .int)),none])=.ok (bN 0 n):=by have hv:af (ae 2) ah (mask [3,4] [some (ao ns),some (.int a),some (.int (n:Int)),some (.list ((dC ns a n 0).1.map .int)),some (.list ((dC ns a n 0).2.map .int)),none])=.ok [.int (n:Int)]:=rfl;have b:=kf (j:=(n:Int)) (Nz n) (by omega);rw[ME]at b;rw[j8,hv,Rs.ag,b]
theorem u3(cs:Cs):LLq (gZ cs aj) 3 3 b8:=by
 intro ds hl b;obtain⟨s,a,many,m,l⟩:=n9 b;clear b;subst m;have b:=l;clear l
 ·skip
  split at b
  ·rename_i ns o;have es:=hV o;subst es;split at b
   ·rename_i hc;obtain⟨ha,hm,c⟩:=hc;rw[i9 ha hm c];obtain⟨n,rfl⟩:∃n:Nat,many=(n:Int):=⟨many.toNat,by omega⟩
    rw[ME];show bE (gZ cs aj [some (ao ns),some (.int a),some (.int (n:Int)),none,none,none])=_;have p:=rk1 ns a n c;have s2:=rk2 ns a n;have src:=rk3 ns a n c;obtain⟨δ',e,f,g⟩:=iN (β:=Unit) (tgt:=aZ 5) (body:=iL 4 3 (au aj (af (ae 0) (af (g2 bg (ae 1) (ae 5)) (af (gF bA (af (ae 3) ah)) ah)))))
     (λi δ=>∃f,δ=[some (ao ns),some (.int a),some (.int (n:Int)),some (.list ((dC ns a n i).1.map .int)),some (.list ((dC ns a n i).2.map .int)),f])
     (bN 0 n) 0 (λi d δ hi h=>by obtain⟨f,q⟩:=h;subst q;rw[MX]at *;obtain⟨j,rfl⟩:=gR hi;refine⟨[some (ao ns),some (.int a),some (.int (n:Int)),some (.list ((dC ns a n i).1.map .int)),some (.list ((dC ns a n i).2.map .int)),some (.int (0+(i:Int)))],_,rfl,?_,some (.int (0+(i:Int))),rfl⟩;exact Au ns a n i ha j (by omega)) [some (ao ns),some (.int a),some (.int (n:Int)),some (.list ((dC ns a n 0).1.map .int)),some (.list ((dC ns a n 0).2.map .int)),none] ⟨none,rfl⟩
    subst g;rw[MX,cM]at e;simp only[gZ];rw[aT,p];simp only;rw[aT,s2];simp only;rw[aT,kM,src,ax,e];simp only;simp only[bW,eV,aA,aF,ar,ay,Rs.ag,C0,Rs.ai,ax,bt];rfl
   ·exact absurd rfl b
  ·exact absurd rfl b
def hvM(every late:Int):Int->List Int->Bool
 |_,[]=>true
 |m,c::r=>if c<(if c-late>m then c-late else m) then false else hvM every late ((if c-late>m then c-late else m)+every) r
def hvE(e:Er)(ns:List Int):Bool:=hvM e.every e.late (0-e.late) ns
def bU:Gf
 |[d,.list xs]=>if uN d then (match iF xs with|some ns=>.ok (.bool (hvE (deE d) ns))|none=>.no) else .no
 |_=>.no
theorem gG{e:Er}(h:e.Sh):bU [e.d,.list (ns.map PyData.int)]=.ok (.bool (hvE e ns)):=by unfold bU;simp only[n6 h,if_true,gy,zu]
def hvB:Ds->Sr:=(az (aR [] 6 (gF iy (af (ae 4) (af (g2 gM (ae 5) (ae 3)) ah))))
 (az (sIf (gT (g2 dGt (ae 6) (ae 5))) (bx (gC (.bool false))) aX)
 (aR [] 4 (g2 bg (ae 6) (ae 2)))))
theorem zv(E L:PyData)(every late:Int):∀(ns:List Int)(m:Int)(a x6:Option PyData),
   (hvM every late m ns=true/\∃δ,forL (aZ 5) hvB (ns.map PyData.int) [some E,some L,some (.int every),some (.int late),some (.int m),a,x6]=.nx δ)
  \/(hvM every late m ns=false/\forL (aZ 5) hvB (ns.map PyData.int) [some E,some L,some (.int every),some (.int late),some (.int m),a,x6]=.rt (.bool false))
 |[],m,a,x6=>.inl ⟨rfl,_,rfl⟩
 |c::r,m,a,x6=>by
   have h1:aZ 5 (.int c) [some E,some L,some (.int every),some (.int late),some (.int m),a,x6]=some [some E,some L,some (.int every),some (.int late),some (.int m),some (.int c),x6]:=rfl;rw[M5];unfold forL;rw[h1];unfold hvM;by_cases hc:c<(if c-late>m then c-late else m)
   ·have b:hvB [some E,some L,some (.int every),some (.int late),some (.int m),some (.int c),x6]=.rt (.bool false):=by simp[hvB,hc]
    refine .inr ⟨if_pos hc,?_⟩;simp only[b]
   ·have b:hvB [some E,some L,some (.int every),some (.int late),some (.int m),some (.int c),x6]=.nx [some E,some L,some (.int every),some (.int late),some (.int ((if c-late>m then c-late else m)+every)),some (.int c),some (.int (if c-late>m then c-late else m))]:=by simp[hvB,hc]
    rw[if_neg hc];simp only[b];exact zv E L every late r _ _ _
theorem DI{f:PyData->List PyData->Rs PyData}(h:(match ds with|[a,.list x1]=>f a x1|_=>.no)≠.no):∃a x1,ds=[a,.list x1]/\f a x1≠.no:=by
 rcases ds with _|⟨a,_|⟨x1,_|⟨y,ys⟩⟩⟩
 ·exact absurd rfl h
 ·exact absurd rfl h
 ·skip
  cases x1 with
  |list x1 =>exact⟨_,_,rfl,h⟩
  |_=>exact absurd rfl h
 ·first|exact absurd rfl h|(cases x1 <;> exact absurd rfl h)
theorem oU(cs:Cs):LLq (eY cs) 2 5 bU:=by
 intro ds hl a;obtain⟨d,xs,g,f⟩:=DI a;clear a;subst g;have a:=f;clear f
 ·skip
  split at a
  ·rename_i hd;split at a
   ·rename_i ns h;have b:=fk h;subst b;obtain⟨e1,sh⟩:=wx hd;rw[<-e1,gG sh];generalize deE d=e at *;show bE (eY cs [some e.d,some (.list (ns.map PyData.int)),none,none,none,none,none])=_;unfold eY;have a0:dIx e.d (.int 0)=some (.int e.every):=rfl;have a2:dIx e.d (.int 2)=some (.int e.late):=rfl;simp only[aT,i6,bV,ar,ay,cQ,Rs.ag,a0,a2,Rs.ai,ax,oN];have i:=zv e.d (.list (ns.map PyData.int)) e.every e.late ns (0-e.late) none none;have j:eP [] (bB (ae 1)) (aZ 5) hvB [some e.d,some (.list (ns.map PyData.int)),some (.int e.every),some (.int e.late),some (.int (0-e.late)),none,none]=forL (aZ 5) hvB (ns.map PyData.int) [some e.d,some (.list (ns.map PyData.int)),some (.int e.every),some (.int e.late),some (.int (0-e.late)),none,none]:=rfl;show bE (match eP [] (bB (ae 1)) (aZ 5) hvB [some e.d,some (.list (ns.map PyData.int)),some (.int e.every),some (.int e.late),some (.int (0-e.late)),none,none] with|.nx c=>bx (gC (.bool true)) c|r=>r)=_;rw[j];rcases i with⟨h1,δ,h2⟩|⟨h1,h2⟩
    ·rw[h2];show Rs.ok _=_;unfold hvE;rw[h1]
    ·rw[h2];show Rs.ok _=_;unfold hvE;rw[h1]
   ·exact absurd rfl a
  ·exact absurd rfl a
structure pA(ns:List Int):Prop where
 few:ns.length<=60
 lo:∀c∈ns,0<=c
 hi:∀c∈ns,c<=9999
def sS(ns:List Int):Bool:=decide (ns.length<=60)&&ns.all λc=>decide (0<=c)&&decide (c<=9999)
theorem rJ:sS ns=true↔pA ns:=by
 unfold sS;rw[Mm,decide_eq_true_eq,Mu];constructor
 ·rintro⟨h1,h2⟩
  refine⟨h1,λc hc=>?_,λc hc=>?_⟩
  ·have:=h2 c hc;rw[Mm,decide_eq_true_eq,decide_eq_true_eq]at this;exact this.1
  ·have:=h2 c hc;rw[Mm,decide_eq_true_eq,decide_eq_true_eq]at this;exact this.2
 ·rintro⟨h1,h2,a⟩
  refine⟨h1,λc hc=>?_⟩;rw[Mm,decide_eq_true_eq,decide_eq_true_eq];exact⟨h2 c hc,a c hc⟩
def cX:Gf
 |[d,.list xs]=>if uN d then (match iF xs with|some ns=>if sS ns then .ok (.bool (hvE (deE d) ns)) else .no|none=>.no) else .no
 |_=>.no
theorem lL{e:Er}(h:e.Sh)(a:pA ns):cX [e.d,.list (ns.map PyData.int)]=.ok (.bool (hvE e ns)):=by unfold cX;simp only[n6 h,if_true,gy,zu,rJ.mpr a]
theorem jx(ns:List Int):aG (.list (ns.map PyData.int))=true:=by
 induction ns with
 |nil=>rfl
 |cons a r ih =>
  have:aG (.list (PyData.int a::r.map PyData.int))=aG (.list (r.map PyData.int)):=by simp[aG,df]
  rw[M5,this];exact ih
theorem DM(cs:Cs):LLq (l7 cs aP bU) 2 0 cX:=by
 intro ds hl a;obtain⟨d,xs,i,g⟩:=DI a;clear a;subst i;have a:=g;clear g
 ·skip
  split at a
  ·rename_i hd;split at a
   ·rename_i ns j;split at a
    ·rename_i l;have f:=fk j;subst f;obtain⟨e1,sh⟩:=wx hd;have R:=rJ.mp l;rw[<-e1,lL sh R];generalize deE d=e at *;show bE (l7 cs aP bU [some e.d,some (.list (ns.map PyData.int))])=_;have m:ia "list" (.list (ns.map PyData.int))=some (.bool true):=by unfold ia;rw[if_pos (jx ns)];rfl
     have hc:aS 2 (bB (ae 1)) ba (au aP (af (ae 2) (af (gC (.int 0)) (af (gC (.int 9999)) ah)))) aE [some e.d,some (.list (ns.map PyData.int))]=.ok ((ns.map PyData.int).map λd=>.bool (isWhole d 0 9999)) :=
      cx rfl rfl (by have:=R.few;rw[M4];omega) λd b=>by obtain⟨c,hc,rfl⟩:=Mj.mp b;simp only[bS,aA,aF,MO,MK,ar,ay,cQ,Rs.ag];exact wu rfl
     have h:=iH (λd=>isWhole d 0 9999) (ns.map PyData.int);have ha:(ns.map PyData.int).all (λd=>isWhole d 0 9999)=true:=by rw[Mu];intro d b;obtain⟨c,hc,rfl⟩:=Mj.mp b;have h1:=R.lo c hc;have h2:=R.hi c hc;simp[isWhole,h1,h2]
     rw[ha]at h;have hn:¬ ((60:Int)<((ns.map PyData.int).length:Int)):=by have:=R.few;rw[M4];omega
     unfold l7;simp only[aT,cp,G7,uF,dJ,ic,bV,eV,aA,aF,ar,ay,cQ,Rs.ag,m,Rs.ai,aV,jT,JF,Bool.not_true,Mw,if_false,decide_eq_false hn,ax,fE,bW,oV,wy,hc,h,bS,gG sh,if_true,bt]
    ·exact absurd rfl a
   ·exact absurd rfl a
  ·exact absurd rfl a
inductive Fa2 {α β:Type} (R:α->β->Prop):List α->List β->Prop where
 |nil:Fa2 R [] []
 |cons {a:α} {b:β} {l:List α} {m:List β} (h:R a b) (t:Fa2 R l m):Fa2 R (a::l) (b::m)
theorem B3(es:List Er)(t:Int):∀(rs:List Int)(k:Int)(j:Nat),(∃h,hts es rs k t=some h/\h<=k+j)↔∃m∈rs.take (j+1),(dD es m).has t=true
 |[],k,j=>by simp[hts]
 |r::rs,k,j=>by
  unfold hts;rw[Nv];by_cases hr:(dD es r).has t=true
  ·rw[if_pos hr];exact⟨λ_=>⟨r,M7,hr⟩,λ_=>⟨k,rfl,by omega⟩⟩
  ·rw[if_neg hr];cases j with
   |zero =>
    have lo:∀(rs:List Int)(k:Int) h,hts es rs k t=some h->k<=h:=by
     intro rs
     induction rs with
     |nil=>intro k h e;cases e
     |cons a l c =>
      intro k h e;unfold hts at e;split at e
      ·cases e;exact Og _
      ·have:=c _ _ e;omega
    constructor
    ·rintro⟨h,e,hl⟩
     have:=lo rs (k+1) h e;omega
    ·rintro⟨m,hm,b⟩
     simp at hm;subst hm;exact absurd b hr
   |succ j =>
    have c:=B3 es t rs (k+1) j;constructor
    ·rintro⟨h,e,hl⟩
     obtain⟨m,hm,b⟩:=c.mp ⟨h,e,by omega⟩;exact⟨m,M6 _ hm,b⟩
    ·rintro⟨m,hm,b⟩
     rcases M8.mp hm with z|z
     ·rw[z]at b;exact absurd b hr
     ·obtain⟨h,e,hl⟩:=c.mpr ⟨m,z,b⟩;exact⟨h,e,by omega⟩
section
variable {A B:List Int}{x y:Int}
end
section
variable {ot:List Int}{n:Int}
end
theorem my:∀{ds:List PyData},(∀d∈ds,aG d=true)->df ds=true
 |[],_=>by unfold df;rfl
 |d::r,h=>by unfold df;rw[h d M7,my λe a=>h e (M6 _ a)];rfl
theorem gD(h:∀d∈ds,aG d=true):aG (.tuple ds)=true:=by unfold aG;exact my h
theorem c9(h:∀d∈ds,aG d=true):aG (.list ds)=true:=by unfold aG;exact my h
theorem iC(i:Int):aG (.int i)=true:=by unfold aG;rfl
theorem sM(o:Option Int):aG (bw o)=true:=by cases o <;> (unfold bw aG;rfl)
theorem wI(p:Int×Option Int):aG (aQ p)=true:=gD λd hd=>by
 rcases M8.mp hd with rfl|hd
 ·exact iC _
 ·cases Mh.mp hd;exact sM _
theorem Eh(e:Er):aG e.d=true:=gD λd hd=>by
 rcases M8.mp hd with rfl|hd
 ·exact iC _
 ·rcases M8.mp hd with rfl|hd
  ·exact iC _
  ·rcases M8.mp hd with rfl|hd
   ·exact iC _
   ·cases Mh.mp hd;exact gD λd hd=>by obtain⟨p,_,rfl⟩:=Mj.mp hd;exact wI p
theorem sQ(es:List Er):aG (aq es)=true:=gD λd hd=>by obtain⟨p,_,rfl⟩:=Mj.mp hd;exact Eh p
theorem gH(rs:List Int):∀d∈rs.map PyData.int,aG d=true:=λd hd=>by obtain⟨p,_,rfl⟩:=Mj.mp hd;exact iC p
theorem pH(rs:List Int):aG (ak rs)=true:=gD (gH rs)
end RS
namespace RS
open PySem PySem.Spec PyProof.Rows L2
section
theorem uf{xs:List α}{k:Int}{v:α}(a:0<=k)(h:xs[k.toNat]?=some v):atI xs k=some v:=by
 have:=og h
 rwa[Nt a]at this
theorem depthAll_ints:∀ns:List Int,PyData.depthAll (ns.map PyData.int)<=1
 |[]=>by simp[PyData.depthAll]
 |n::r=>by have:=depthAll_ints r;simp only[M5,PyData.depthAll,PyData.depth];omega
theorem nN:∀ns:List Int,PyData.canLayAll0 (ns.map PyData.int)=true
 |[]=>by simp[PyData.canLayAll0]
 |n::r=>by simp[PyData.canLayAll0,PyData.canLay0,nN r]
theorem shaped_ints(ns:List Int):SeqAt.shaped (.list (ns.map PyData.int))=true:=by
 have:=depthAll_ints ns;have h2:(PyData.list (ns.map PyData.int)).depth<=64:=by simp only[PyData.depth];omega
 simp[SeqAt.shaped,PyData.canLay0,nN,h2]
theorem xw:SeqAt.shaped (.list [])=true:=shaped_ints []
theorem Dc:∀ns:List Int,PyData.eqv (.list (ns.map PyData.int)) (.list [])=decide (ns=[])
 |[]=>by simp[PyData.eqv,PyData.eqvAll]
 |_::_=>by simp[PyData.eqv,PyData.eqvAll]
def DW(K:W.Frag):Sp:=λvs H Q _=>∃(a:Addr)(ns:List Int)(k:Int),vs=[.ref a,.int k]/\SqL K H a (ns.map V.int)/\0<=k/\∀H',av H H'->Q (.int (cellAt ns k)) H'
def G2(K:W.Frag):Sp:=λvs H Q _=>∃(a:Addr)(ns:List Int)(k many:Int),vs=[.ref a,.int k,.int many]/\SqL K H a (ns.map V.int)/\0<=k/\0<many/\∀H',av H H'->Q (.int (mixed ns k many)) H'
theorem F9(ds:List PyData)(hl:ds.length=3)(b:aj ds≠.no):∃d,aj ds=.ok d/\fX d=true/\∀vs H Q,Iss K H ds vs->(∀v H',av H H'->IsD K H' d v->Q v H')->G2 K vs H Q E0:=by
 obtain⟨s,k,many,e,c⟩:=n9 b;clear b;subst e;have b:=c;clear c
 ·skip
  split at b
  ·rename_i ns f;have es:=hV f;subst es;split at b
   ·rename_i hc;refine⟨_,cj hc.1 hc.2,rfl,λvs H Q hi g=>?_⟩;obtain⟨v0,r0,rfl,h,v1,r1,rfl,h1,v2,r2,rfl,h2,rfl⟩:=hi;obtain⟨a,rfl,i⟩:=h.ofScript;rw[h1.ofInt,h2.ofInt];exact⟨a,ns,k,many,rfl,i,hc.1,hc.2,λH' s'=>g _ _ s' uE⟩
   ·exact absurd rfl b
  ·exact absurd rfl b
end
end RS
namespace RS
open PySem L2
section
variable {n:Int}
end
theorem qV{l:List PyData}(h:aG (.list l)=true):ia "list" (.list l)=some (.bool true):=by unfold ia;rw[h];rfl
theorem nL{cond:Ds->Rs Bool}{elt:Ds->Rs PyData}{δ:Ds}{p:PyData->Bool}:∀(ds:List PyData),(∀d∈ds,cond (δ++[some d])=.ok (p d)/\elt (δ++[some d])=.ok d)->eR cond elt aE δ ds=.ok (ds.filter p)
 |[],_=>rfl
 |d::r,h=>by
  obtain⟨h1,h2⟩:=h d M7;have a:=nL r λe b=>h e (M6 _ b)
  unfold eR;cases hp:p d with
  |true=>simp only[aE,h1,hp,Rs.c8,Rs.ag,if_true,h2,a,Nf]
  |false=>simp only[aE,h1,hp,Rs.c8,Rs.ag,if_false,Mw,a,Nf]
theorem lF{elt:Ds->Rs PyData}{p:PyData->Bool}(hn:δ.length=n0)(a:src δ=.ok ds)(hl:ds.length<=1000000)(h:∀d∈ds,cond (δ++[some d])=.ok (p d)/\elt (δ++[some d])=.ok d) :
  aS n0 src cond elt aE δ=.ok (ds.filter p):=by
 unfold aS;rw[if_pos hn,a];simp only[Rs.ag,if_pos hl];exact nL ds h
theorem Bx(ns:List Int)(a top:Int)(ha:0<=a)(g:0<top)(b:top<=58):∃es rs,nQ ns a 4 top true=es/\1<=es.length/\es.length<=4/\(∀e∈es,e.Ok)/\fW es.length rs/\bz [ao ns,.int a,.int 4,.int top,.bool true]=.ok (aq es)/\b8 [ao ns,.int 0,.int (es.length:Int)]=.ok (ak rs):=by have hl:=Cq ns a 4 top true (by decide);have hok:=Fu ns a 4 top true g b;have f:bz [ao ns,.int a,.int 4,.int top,.bool true]=.ok (aq (nQ ns a 4 top true)):=gX ha (by decide) (by decide) g b;generalize nQ ns a 4 top true=es at *;have c:=i9 (ns:=ns) (a:=0) (many:=(es.length:Int)) (by decide) (by omega) (by omega);rw[ME]at c;exact⟨es,_,rfl,hl.1,by omega,hok,wD ns 0 es.length,f,c⟩
theorem Jh(es:List Er):bA [aq es]=some (.int (es.length:Int)):=by unfold aq;rw[pW,M4]
theorem lawT_of{G:Ds->Sr}{k:Nat}(h:∀ns:List Int,G (some (ao ns)::List.replicate k none)=.rt (.bool true)):∀ds,ds.length=1->fH n ds≠.no->bE (G (ds.map some++List.replicate k none))=fH n ds:=by
 intro ds hl a
 match ds,hl with
 |[s],_ =>
  unfold fH at a ⊢;simp only at a ⊢;split at a
  ·rename_i ns b;have es:=hV b;subst es;split at a
   ·rename_i hc;simp only[fu,if_pos hc];show bE (G (some (ao ns)::List.replicate k none))=_;rw[h];rfl
   ·exact absurd rfl a
  ·exact absurd rfl a
theorem kD(cs:Cs)(h1:1<=es.length)(h2:es.length<=6)(h:∀e∈es,e.Ok):bP cs [aq es]=.ok (aq es):=by unfold bP;simp[sQ,tO h1 h2 h]
theorem kq(cs:Cs)(h2:es.length<=6)(a:fW es.length rs):bD cs [aq es,ak rs]=.ok (ak rs):=by unfold aq bD;simp only[M4,pH,iW a,NZ,if_true];rw[if_pos (by simp;omega)]
noncomputable def cC(r:List Int):PyData:=.list (r.map PyData.int)
def cmD(rows:List (List Int)):PyData:=.list (rows.map cC)
inductive Cms:List Er->List (List Int)->Prop
 |nil:Cms [] []
 |cons {e:Er} {r:List Int} {es:List Er} {rows:List (List Int)}:pA r->hvE e r=true->Cms es rows->Cms (e::es) (r::rows)
theorem Cms.len(h:Cms es rows):rows.length=es.length:=by
 induction h with
 |nil=>rfl
 |cons _ _ _ ih=>simp[ih]
theorem Cms.sS(h:Cms es rows):∀r∈rows,pA r:=by
 induction h with
 |nil=>intro r a;cases a
 |cons a _ _ ih =>
  intro b h';rcases M8.mp h' with rfl|h'
  ·exact a
  ·exact ih b h'
structure xR(es:List Er):Prop where
 l1:1<=es.length
 l6:es.length<=6
 ok:∀e∈es,e.Ok
open Classical in
def bp(cs:Cs):Gf:=λds=>if ∃es rows,xR es/\Cms es rows/\ds=[aq es,cmD rows] then .ok (ds.getD 1 .none) else .no
theorem fi(h:xR es)(c:Cms es rows):bp cs [aq es,cmD rows]=.ok (cmD rows):=by unfold bp;rw[if_pos ⟨es,rows,h,c,rfl⟩];rfl
theorem C7{δ:Ds}(f:δ.length=2):∀{es:List Er}{rows:List (List Int)},Cms es rows->(∀e∈es,e.Sh)->eR ba (au cX (af (ae 2) (af (ae 3) ah))) jY δ (qL (es.map Er.d) (rows.map cC))=.ok (rows.map λ_=>.bool true)
 |_,_,.nil,_=>rfl
 |_,_,.cons (e:=e) (r:=r) (es:=es) (rows:=rows) hr hv c,hs=>by
  obtain⟨a,b,rfl⟩:∃a b,δ=[a,b]:=by
   match δ,f with
   |[a,b],_=>exact⟨a,b,rfl⟩
  have g:=C7 f c λx h=>hs x (M6 _ h)
  show eR _ _ _ _ (PyData.tuple [e.d,cC r]::qL (es.map Er.d) (rows.map cC))=_;unfold eR;rw[show jY (PyData.tuple [e.d,cC r])=some [some e.d,some (cC r)] from rfl];have i:au cX (af (ae 2) (af (ae 3) ah)) ([a,b]++[some e.d,some (cC r)])=.ok (.bool true):=by simp only[bS,aA,aF,MO,MK,ar,ay,Rs.ag];rw[show cC r=.list (r.map PyData.int) from rfl,lL (hs e M7) hr,hv]
  simp only[ba,Rs.c8,Rs.ag,if_true,i,g,M5]
theorem kT(rows:List (List Int)):aG (cmD rows)=true:=by
 unfold cmD
 induction rows with
 |nil=>rfl
 |cons a r ih =>
  have h1:=jx a;have:aG (.list (cC a::r.map cC))=(aG (cC a)&&aG (.list (r.map cC))):=by simp[aG,df]
  rw[M5,this,ih];simp only[Ny];exact h1
theorem lE(cs:Cs):LLq (dF cs cX (bP cs)) 2 0 (bp cs):=by
 intro ds hl a;by_cases h:∃es rows,xR es/\Cms es rows/\ds=[aq es,cmD rows]
 ·obtain⟨es,rows,ok,c,rfl⟩:=h;rw[fi ok c];have k1:=kD cs ok.l1 ok.l6 ok.ok;have j:ia "list" (cmD rows)=some (.bool true):=by unfold ia;rw[if_pos (kT rows)];rfl
  have hn:dNe (.int ((rows.map cC).length:Int)) (.int ((es.map Er.d).length:Int))=some (.bool false):=by have:=c.len;rw[M4,M4,this,KY];simp
  have l:aS 2 (EM (af (ae 0) (af (ae 1) ah))) ba (au cX (af (ae 2) (af (ae 3) ah))) jY [some (aq es),some (cmD rows)]=.ok (rows.map λ_=>.bool true):=by
   unfold aS;rw[if_pos (show [some (aq es),some (cmD rows)].length=2 from rfl)];have m:EM (af (ae 0) (af (ae 1) ah)) [some (aq es),some (cmD rows)]=.ok (qL (es.map Er.d) (rows.map cC)):=by show (if (rows.map cC).length=(es.map Er.d).length then Rs.ok (qL (es.map Er.d) (rows.map cC)) else Rs.no)=_;exact if_pos (by rw[M4,M4];exact c.len)
   rw[m];simp only[Rs.ag];rw[if_pos (by unfold qL;rw[List.length_zipWith,M4,M4];have:=ok.l6;omega)];exact C7 rfl c λe n=>(ok.ok e n).sh
  have i:=iH (λ_:List Int=>true) rows;have ha:rows.all (λ_=>true)=true:=by rw[Mu];intros;rfl
  rw[ha]at i;have b:aS 2 (bB (ae 1)) ba (gF k7 (af (ae 2) ah)) aE [some (aq es),some (cmD rows)]=.ok ((rows.map cC).map id) :=
   cx rfl rfl (by have:=c.len;have:=ok.l6;rw[M4];omega) λd f=>by obtain⟨r,hr,rfl⟩:=Mj.mp f;rfl
  show bE (dF cs cX (bP cs) [some (aq es),some (cmD rows)])=_;unfold dF;have g:bA [cmD rows]=some (.int ((rows.map cC).length:Int)):=rfl;have hle:bA [aq es]=some (.int ((es.map Er.d).length:Int)):=rfl;simp only[aT,yP,bS,aA,aF,ar,ay,Rs.ag,k1,ax,cp,G7,uF,dJ,ic,bV,eV,j,Rs.ai,aV,g,hle,hn,Bool.not_true,Mw,if_false,fE,wy,l,i,bW,b,N8,bt];rfl
 ·exfalso;apply a;unfold bp;rw[if_neg h]
structure Jb where
 num:Int
 parts:List (Int×Option Int)
 rank:Int
 row:List Int
 job:Nat
 part:Nat
 spent:Nat
variable {q p:Addr×Jb}{s:List Jb×List PyData}{j:Jb}{key:Jb->PyData}{js:List Jb}{ts:List (Addr×Jb)}
def Jb.fds(j:Jb):List (Str×PyData):=[("number",.int j.num),("parts",.tuple (j.parts.map aQ)),("rank",.int j.rank),("row",cC j.row),("job",.int j.job),("part",.int j.part),("spent",.int j.spent)]
def Jb.d(C a:Addr)(j:Jb):PyData:=cm C a j.fds
theorem kO{f:Str}{r:List (Str×PyData)}(h:("@":Str)≠f):bG C f (cm C a r)=jN f (r.map λp=>(.str p.1,p.2)):=by show (if ("":Str)=""/\(C:Int)=(C:Int) then (if ("@":Str)=f then some (PyData.int (a:Int)) else jN f (r.map λp=>(.str p.1,p.2))) else none)=_;rw[if_pos ⟨rfl,rfl⟩,if_neg h]
section
theorem xA:bG C "number" (j.d C a)=some (.int j.num):=by unfold Jb.d;rw[kO (by decide)];rfl
theorem lI:bG C "parts" (j.d C a)=some (.tuple (j.parts.map aQ)):=by unfold Jb.d;rw[kO (by decide)];rfl
theorem oa:bG C "rank" (j.d C a)=some (.int j.rank):=by unfold Jb.d;rw[kO (by decide)];rfl
theorem xn:bG C "row" (j.d C a)=some (cC j.row):=by unfold Jb.d;rw[kO (by decide)];rfl
theorem uH:bG C "job" (j.d C a)=some (.int j.job):=by unfold Jb.d;rw[kO (by decide)];rfl
theorem oh:bG C "part" (j.d C a)=some (.int j.part):=by unfold Jb.d;rw[kO (by decide)];rfl
theorem jG:bG C "spent" (j.d C a)=some (.int j.spent):=by unfold Jb.d;rw[kO (by decide)];rfl
end
def gfG(n k:Nat)(G:Ds->Sr):Gf:=λds=>if ds.length=n then bE (G (ds.map some++List.replicate k none)) else .no
theorem hW{k:Nat}{G:Ds->Sr}:∀ds,ds.length=n->gfG n k G ds≠.no->bE (G (ds.map some++List.replicate k none))=gfG n k G ds:=by intro ds hl _;unfold gfG;rw[if_pos hl]
def aW(cs:Cs):Gf:=gfG 1 0 (dk cs)
def aJ(cs:Cs):Gf:=gfG 1 0 (eF cs)
def aM(cs:Cs):Gf:=gfG 1 0 (fK cs)
def aL(cs:Cs):Gf:=gfG 2 0 (dm cs)
theorem vl:aW cs [j.d cs.Jobs a]=.ok (.bool ((j.job:Int)==(j.row.length:Int))):=by
 have hl:bA [cC j.row]=some (.int (j.row.length:Int)):=by unfold cC;rw[jT,M4]
 show bE (dk cs [some (j.d cs.Jobs a)])=_;unfold dk;simp only[bW,bV,ic,ar,Rs.ag,uH,xn,Rs.ai,eV,aA,aF,hl,je,ax,bt]
def Jb.tool(j:Jb):Option Int:=(j.parts[j.part]?.map (·.2)).getD none
theorem uy{p:Int×Option Int}(h:j.parts[j.part]?=some p):dIx (.tuple (j.parts.map aQ)) (.int (j.part:Int))=some (aQ p):=by rw[Cc];exact og (by rw[Mc,h];rfl)
theorem part1(p:Int×Option Int):dIx (aQ p) (.int 1)=some (bw p.2):=rfl
theorem rX(h:j.part<j.parts.length):aJ cs [j.d cs.Jobs a]=.ok (bw (if j.spent=0 then j.tool else none)):=by
 show bE (eF cs [some (j.d cs.Jobs a)])=_;unfold eF;have b:j.parts[j.part]?=some j.parts[j.part]:=M1 h;have c:j.tool=j.parts[j.part].2:=by unfold Jb.tool;rw[b];rfl
 by_cases z:j.spent=0
 ·have e:((j.spent:Int)==0)=true:=by rw[z];rfl
  rw[if_pos z,c];simp only[bW,gIf,dJ,bV,ic,ar,cQ,Rs.ag,jG,lI,oh,Rs.ai,je,e,aV,if_true,uy b,part1,ax,bt]
 ·have e:((j.spent:Int)==0)=false:=by rw[beq_eq_false_iff_ne];omega
  rw[if_neg z];simp only[bW,gIf,dJ,bV,ic,ar,cQ,Rs.ag,jG,Rs.ai,je,e,aV,Mw,if_false,ax,bt];rfl
theorem zB(h:j.part<j.parts.length):aM cs [j.d cs.Jobs a]=.ok (bw (if j.spent=0 then none else j.tool)):=by
 show bE (fK cs [some (j.d cs.Jobs a)])=_;unfold fK;have b:j.parts[j.part]?=some j.parts[j.part]:=M1 h;have c:j.tool=j.parts[j.part].2:=by unfold Jb.tool;rw[b];rfl
 by_cases z:j.spent=0
 ·have e:decide ((0:Int)<(j.spent:Int))=false:=by rw[z];rfl
  rw[if_pos z];simp only[bW,gIf,dJ,bV,ic,ar,cQ,Rs.ag,jG,Rs.ai,JF,e,aV,Mw,if_false,ax,bt];rfl
 ·have e:decide ((0:Int)<(j.spent:Int))=true:=by rw[decide_eq_true_eq];omega
  rw[if_neg z,c];simp only[bW,gIf,dJ,bV,ic,ar,cQ,Rs.ag,jG,lI,oh,Rs.ai,JF,e,aV,if_true,uy b,part1,ax,bt]
def Jb.there(j:Jb)(t:Int):Bool:=match j.row[j.job]? with
 |some c=>decide (c<=t)
 |none=>false
theorem wo(h:j.job<=j.row.length):aL cs [j.d cs.Jobs a,.int t]=.ok (.bool (j.there t)):=by
 have hl:bA [cC j.row]=some (.int (j.row.length:Int)):=by unfold cC;rw[jT,M4]
 show bE (dm cs [some (j.d cs.Jobs a),some (.int t)])=_;unfold dm Jb.there;by_cases z:j.job<j.row.length
 ·have b:j.row[j.job]?=some j.row[j.job]:=M1 z;have e:decide ((j.job:Int)<(j.row.length:Int))=true:=by rw[decide_eq_true_eq];omega
  have c:dIx (cC j.row) (.int (j.job:Int))=some (.int j.row[j.job]):=by show atI (j.row.map PyData.int) _=_;exact og (by rw[Mc,b];rfl)
  rw[b];simp only[bW,oV,bV,ic,ar,ay,Rs.ag,uH,xn,Rs.ai,eV,aA,aF,hl,Bd,e,aV,if_true,c,Kw,ax,bt]
 ·have b:j.row[j.job]?=none:=MW (by omega);have e:decide ((j.job:Int)<(j.row.length:Int))=false:=by rw[decide_eq_false_iff_not];omega
  rw[b];simp only[bW,oV,bV,ic,ar,ay,Rs.ag,uH,xn,Rs.ai,eV,aA,aF,hl,Bd,e,aV,Mw,if_false,ax,bt]
noncomputable def jD(C:Addr)(p:Addr×Jb):PyData:=p.2.d C p.1
def Jb.held(j:Jb):Option Int:=if j.spent=0 then none else j.tool
def Jb.wanted(j:Jb):Option Int:=if j.spent=0 then j.tool else none
def holdsT(t:Int)(p:Addr×Jb):Bool:=p.2.held==some t
theorem eq_none_int(x:Int):dEq .none (.int x)=some (.bool false):=by
 have h:SeqAt.shaped (.int x)=true:=by simp[SeqAt.shaped,PyData.canLay0,PyData.depth]
 unfold dEq;rw[h];simp[aG,PyData.eqv]
 first|done|rfl|decide
theorem Hn(o:Option Int)(t:Int):dEq (bw o) (.int t)=some (.bool (o==some t)):=by
 cases o with
 |none=>exact eq_none_int t
 |some i=>rw[show bw (some i)=.int i from rfl,je];simp
theorem tJ(h1:("@":Str)≠m)(h:jh m (j.fds.map λp=>(.str p.1,p.2))=true):isC C m (j.d C a)=true:=by
 show (decide (("":Str)="")&&decide ((C:Int)=(C:Int))&&jh m ((.str "@",.int (a:Int))::(j.fds.map λp=>(.str p.1,p.2))))=true;have:jh m ((.str "@",.int (a:Int))::(j.fds.map λp=>(PyData.str p.1,p.2)))=true:=by unfold jh;simp only[h,Ny];simpa using h1
 rw[this];simp
theorem vM:isC C "held" (j.d C a)=true:=tJ (by decide) rfl
theorem qp:isC C "wanted" (j.d C a)=true:=tJ (by decide) rfl
theorem sZ:isC C "are_done" (j.d C a)=true:=tJ (by decide) rfl
theorem uG:isC C "is_there" (j.d C a)=true:=tJ (by decide) rfl
def bI(cs:Cs):Gf:=gfG 2 1 (jV cs (aM cs))
def jz(C:Addr)(ts:List (Addr×Jb))(tool:Option Int):PyData:=match tool with
 |none=>.none
 |some t=>match ts.find? (holdsT t) with
  |none=>.none
  |some p=>jD C p
theorem nK{cs:Cs}{t:Int}{X:PyData}:∀(ts:List (Addr×Jb))(x2:Option PyData),(∀p∈ts,p.2.part<p.2.parts.length) ->
   (∃p,ts.find? (holdsT t)=some p/\forL (aZ 2) (sIf (gT (g2 dEq (bq cs.Jobs "held" (aM cs) (ae 2) ah) (ae 1))) (bx (ae 2)) aX) (ts.map (jD cs.Jobs)) [some X,some (.int t),x2]=.rt (jD cs.Jobs p))
  \/(ts.find? (holdsT t)=none/\∃δ,forL (aZ 2) (sIf (gT (g2 dEq (bq cs.Jobs "held" (aM cs) (ae 2) ah) (ae 1))) (bx (ae 2)) aX) (ts.map (jD cs.Jobs)) [some X,some (.int t),x2]=.nx δ)
 |[],x2,_=>.inr ⟨rfl,_,rfl⟩
 |p::r,x2,h=>by
   have h1:aZ 2 (jD cs.Jobs p) [some X,some (.int t),x2]=some [some X,some (.int t),some (jD cs.Jobs p)]:=rfl;have hm:bq cs.Jobs "held" (aM cs) (ae 2) ah [some X,some (.int t),some (jD cs.Jobs p)]=.ok (bw p.2.held):=by unfold bq;simp only[ar,ay,Rs.ag];rw[if_pos (show isC cs.Jobs "held" (jD cs.Jobs p)=true from vM)];simp only[aF,Rs.ag];exact zB (h p M7)
   have hc:gT (g2 dEq (bq cs.Jobs "held" (aM cs) (ae 2) ah) (ae 1)) [some X,some (.int t),some (jD cs.Jobs p)]=.ok (holdsT t p):=by simp only[dJ,bV,hm,ar,ay,Rs.ag,Hn,Rs.ai,aV];rfl
   rw[M5];unfold forL;rw[h1];cases z:holdsT t p with
   |true =>refine .inl ⟨p,by rw[List.find?_cons_of_pos z],?_⟩;simp only[cp,hc,z,ax,if_true,bW,ar,ay]
   |false =>simp only[cp,hc,z,ax,Mw,if_false,fE];rw[List.find?_cons_of_neg (by rw[z];exact Mi)];exact nK r _ λq a=>h q (M6 _ a)
theorem sA{tool:Option Int}(h:∀p∈ts,p.2.part<p.2.parts.length):bI cs [.list (ts.map (jD cs.Jobs)),bw tool]=.ok (jz cs.Jobs ts tool):=by
 show bE (jV cs (aM cs) [some (.list (ts.map (jD cs.Jobs))),some (bw tool),none])=_;unfold jV jz;cases tool with
 |none=>rfl
 |some t =>
  have hn:gT (g1 nR (ae 1)) [some (.list (ts.map (jD cs.Jobs))),some (.int t),none]=.ok false:=rfl;show bE (az (sIf (gT (g1 nR (ae 1))) (bx (gC .none)) aX) (az (eP [] (bB (ae 0)) (aZ 2) (sIf (gT (g2 dEq (bq cs.Jobs "held" (aM cs) (ae 2) ah) (ae 1))) (bx (ae 2)) aX)) (bx (gC .none))) [some (.list (ts.map (jD cs.Jobs))),some (.int t),none])=_;have a:eP [] (bB (ae 0)) (aZ 2) (sIf (gT (g2 dEq (bq cs.Jobs "held" (aM cs) (ae 2) ah) (ae 1))) (bx (ae 2)) aX) [some (.list (ts.map (jD cs.Jobs))),some (.int t),none]=forL (aZ 2) (sIf (gT (g2 dEq (bq cs.Jobs "held" (aM cs) (ae 2) ah) (ae 1))) (bx (ae 2)) aX) (ts.map (jD cs.Jobs)) [some (.list (ts.map (jD cs.Jobs))),some (.int t),none]:=rfl;simp only[aT,cp,hn,ax,Mw,if_false,fE,a];rcases nK (cs:=cs) (t:=t) (X:=.list (ts.map (jD cs.Jobs))) ts none h with⟨p,f1,f2⟩|⟨f1,δ,f2⟩
  ·rw[f1,f2];rfl
  ·rw[f1,f2];rfl
def cq(cs:Cs):Gf:=gfG 1 3 (gp cs (aJ cs) (bI cs))
theorem EG:jL (jD C q)=some (.bool true):=rfl
def lrB(cs:Cs):Ds->Sr:=(az (aR [1] 3 (au (bI cs) (af (ae 0) (af (bq cs.Jobs "wanted" (aJ cs) (ae 2) ah) ah))))
 (sIf (gT (g1 jL (ae 3))) (ff 1 (g1 (bG cs.Jobs "number") (ae 3)) (gF gA (af (g1 (bG cs.Jobs "rank") (ae 2)) (af (lK (ae 1) (g1 (bG cs.Jobs "number") (ae 3)) (g1 (bG cs.Jobs "rank") (ae 3))) ah)))) aX))
theorem GS(l:List (Int×Int))(k v:Int):(eE l k v).length<=l.length+1:=by unfold eE;split <;> simp
def bT(cs:Cs):Gf:=gfG 2 1 (bX cs (aM cs))
theorem rP{x y:Option PyData}(h:p.2.part<p.2.parts.length):bq cs.Jobs "held" (aM cs) (ae 0) ah [some (jD cs.Jobs p),x,y]=.ok (bw p.2.held):=by unfold bq;simp only[ar,Rs.ag];rw[if_pos (show isC cs.Jobs "held" (jD cs.Jobs p)=true from vM)];simp only[aF,Rs.ag];exact zB h
theorem BZ(h:ts≠[]):∃p∈ts,jz C ts p.2.wanted=.none:=by
 by_cases z:∃p∈ts,p.2.spent≠0
 ·obtain⟨p,a,b⟩:=z;refine⟨p,a,?_⟩;unfold Jb.wanted;rw[if_neg b];rfl
 ·have c:∀p∈ts,p.2.spent=0:=λp a=>by
   by_cases q:p.2.spent=0
   ·exact q
   ·exact absurd ⟨p,a,q⟩ z
  obtain⟨p,r,rfl⟩:=NL h;refine⟨p,M7,?_⟩;unfold jz;cases p.2.wanted with
  |none=>rfl
  |some t =>
   have:(p::r).find? (holdsT t)=none:=by rw[NS];intro q e;unfold holdsT Jb.held;rw[if_pos (c q e)];exact Mi
   simp only[this]
def cG(cs:Cs):Gf:=gfG 3 2 (jm cs (cq cs) (aJ cs) (bI cs) (bT cs))
theorem eq_str{s t:Str}(h1:SeqAt.shaped (.str s)=true)(h2:SeqAt.shaped (.str t)=true):dEq (.str s) (.str t)=some (.bool (s==t)):=by unfold dEq;rw[h1,h2];simp[aG,PyData.eqv]
def CJ(cs:Cs)(δ:Ds)(d:PyData):Bool:=match au (bI cs) (af (ae 0) (af (bq cs.Jobs "wanted" (aJ cs) (ae 5) ah) ah)) (δ++[some d]) with
 |.ok x=>fe x
 |_=>false
theorem yM{x1 x2 x3 x4:Option PyData}(h:∀p∈ts,p.2.part<p.2.parts.length)(a:q∈ts) :
  au (bI cs) (af (ae 0) (af (bq cs.Jobs "wanted" (aJ cs) (ae 5) ah) ah)) [some (.list (ts.map (jD cs.Jobs))),x1,x2,x3,x4,some (jD cs.Jobs q)]=.ok (jz cs.Jobs ts q.2.wanted):=by
 have h2:bq cs.Jobs "wanted" (aJ cs) (ae 5) ah [some (.list (ts.map (jD cs.Jobs))),x1,x2,x3,x4,some (jD cs.Jobs q)]=.ok (bw q.2.wanted):=by unfold bq;simp only[ar,ay,Rs.ag];rw[if_pos (show isC cs.Jobs "wanted" (jD cs.Jobs q)=true from qp)];simp only[aF,Rs.ag];exact rX (h q a)
 simp only[bS,aA,aF,ar,h2,Rs.ag];exact sA h
structure fP(s:Str):Prop where
 sh:SeqAt.shaped (.str s)=true
theorem uJ:SeqAt.shaped (.str "high")=true:=by decide +kernel
theorem pX:SeqAt.shaped (.str "asked")=true:=by decide +kernel
theorem tZ(ps:List (Int×Option Int)):aG (.tuple (ps.map aQ))=true:=by
 induction ps with
 |nil=>rfl
 |cons a r ih =>
  have h1:aG (aQ a)=true:=by obtain⟨x,o⟩:=a;cases o <;> rfl
  have:aG (.tuple (aQ a::r.map aQ))=(aG (aQ a)&&aG (.tuple (r.map aQ))):=by simp[aG,df]
  rw[M5,this,h1,ih];rfl
theorem Jb.flat(j:Jb):fZ j.fds=true:=by have h1:=tZ j.parts;have h2:aG (cC j.row)=true:=jx j.row;unfold fZ Jb.fds;simp only[M5,Nc,kP,h1,h2,Ny,NZ];rfl
theorem lM:ng [a] C 0 [some (j.d C a)]=some (a,j.fds):=by
 unfold ng;have h1:f7 [some (j.d C a)]=true:=by unfold f7 Jb.d;simp only[NK,List.all_nil,Ny,wA];exact j.flat
 show (match objOf (j.d C a) with|some (c,b,fds)=>if c=C/\b∈[a]/\f7 [some (j.d C a)]=true/\fZ fds=true/\fds.length<1000 then some (b,fds) else none|none=>none)=_;unfold Jb.d at *;rw[rA];exact if_pos ⟨rfl,Mh.mpr rfl,h1,j.flat,show 7<1000 by decide⟩
theorem jM{fds:List (Str×PyData)}{nd:PyData}(b:fZ fds=true):kK a nd [some (cm C a fds)]=[some nd]:=by show [some (fh a nd (cm C a fds))]=_;unfold cm fh;refine congrArg (λx=>[some x]) (if_pos ?_);unfold jJ;unfold fZ at b;simp[b]
section
theorem sr:eK [a] C 0 "spent" (gC (.int 1)) [some (j.d C a)]=.nx [some (Jb.d C a { j with spent:=j.spent+1 })]:=by unfold eK;rw[lM];show Sr.nx (kK a (cm C a (p8 "spent" (.int ((j.spent:Int)+1)) j.fds)) [some (cm C a j.fds)])=_;rw[jM j.flat];rfl
theorem Bw:eK [a] C 0 "part" (gC (.int 1)) [some (j.d C a)]=.nx [some (Jb.d C a { j with part:=j.part+1 })]:=by unfold eK;rw[lM];show Sr.nx (kK a (cm C a (p8 "part" (.int ((j.part:Int)+1)) j.fds)) [some (cm C a j.fds)])=_;rw[jM j.flat];rfl
theorem Ey:eK [a] C 0 "job" (gC (.int 1)) [some (j.d C a)]=.nx [some (Jb.d C a { j with job:=j.job+1 })]:=by unfold eK;rw[lM];show Sr.nx (kK a (cm C a (p8 "job" (.int ((j.job:Int)+1)) j.fds)) [some (cm C a j.fds)])=_;rw[jM j.flat];rfl
theorem Ag:lN [a] C 0 "spent" (gC (.int 0)) [some (j.d C a)]=.nx [some (Jb.d C a { j with spent:=0 })]:=by unfold lN;rw[lM];show Sr.nx (kK a (cm C a (p8 "spent" (.int 0) j.fds)) [some (cm C a j.fds)])=_;rw[jM j.flat];rfl
theorem BX:lN [a] C 0 "part" (gC (.int 0)) [some (j.d C a)]=.nx [some (Jb.d C a { j with part:=0 })]:=by unfold lN;rw[lM];show Sr.nx (kK a (cm C a (p8 "part" (.int 0) j.fds)) [some (cm C a j.fds)])=_;rw[jM j.flat];rfl
end
def Jb.step1(j:Jb)(n:Int):Jb:=if (j.spent:Int)+1=n then { j with spent:=0,part:=j.part+1 } else { j with spent:=j.spent+1 }
def Jb.step2(j:Jb):Jb:=if j.part=j.parts.length then { j with part:=0,job:=j.job+1 } else j
def Jb.len(j:Jb):Int:=(j.parts[j.part]?.map (·.1)).getD 0
def Jb.next(j:Jb):Jb:=(j.step1 j.len).step2
theorem Fm(h:j.part<j.parts.length):f9 cs [a] [some (j.d cs.Jobs a)]=.nx [some (j.next.d cs.Jobs a)]:=by
 have b:j.parts[j.part]?=some j.parts[j.part]:=M1 h;have hn:j.len=j.parts[j.part].1:=by unfold Jb.len;rw[b];rfl
 have second:∀k:Jb,sIf (gT (g2 dEq (g1 (bG cs.Jobs "part") (ae 0)) (gF bA (af (g1 (bG cs.Jobs "parts") (ae 0)) ah)))) (az (lN [a] cs.Jobs 0 "part" (gC (.int 0))) (eK [a] cs.Jobs 0 "job" (gC (.int 1)))) aX [some (k.d cs.Jobs a)]=.nx [some (k.step2.d cs.Jobs a)]:=by
  intro k;have hc:gT (g2 dEq (g1 (bG cs.Jobs "part") (ae 0)) (gF bA (af (g1 (bG cs.Jobs "parts") (ae 0)) ah))) [some (k.d cs.Jobs a)]=.ok ((k.part:Int)==(k.parts.length:Int)):=by simp only[dJ,bV,ic,eV,aA,aF,ar,Rs.ag,oh,lI,Rs.ai,pW,M4,je,aV]
  unfold Jb.step2;by_cases z:k.part=k.parts.length
  ·have e:((k.part:Int)==(k.parts.length:Int))=true:=by rw[z];exact beq_self_eq_true _
   rw[if_pos z];simp only[cp,hc,e,ax,if_true,aT,BX,Ey]
  ·have e:((k.part:Int)==(k.parts.length:Int))=false:=by rw[beq_eq_false_iff_ne];omega
   rw[if_neg z];simp only[cp,hc,e,ax,Mw,if_false,fE]
 have hc:gT (g2 dEq (g1 (bG cs.Jobs "spent") (ae 0)) (g2 dIx (g2 dIx (g1 (bG cs.Jobs "parts") (ae 0)) (g1 (bG cs.Jobs "part") (ae 0))) (gC (.int 0)))) [some (Jb.d cs.Jobs a { j with spent:=j.spent+1 })]=.ok (((j.spent:Int)+1)==j.len):=by have q:=uy (j:={ j with spent:=j.spent+1 }) b;have c:dIx (aQ j.parts[j.part]) (.int 0)=some (.int j.parts[j.part].1):=rfl;simp only[dJ,bV,ic,ar,cQ,Rs.ag,jG,lI,oh,Rs.ai,q,c,je,aV,hn];rfl
 unfold f9 Jb.next Jb.step1;by_cases z:(j.spent:Int)+1=j.len
 ·have e:(((j.spent:Int)+1)==j.len)=true:=by rw[z];exact beq_self_eq_true _
  rw[if_pos z];simp only[aT,sr];rw[cp,hc];simp only[e,ax,if_true,aT,Ag,Bw];exact second _
 ·have e:(((j.spent:Int)+1)==j.len)=false:=by rw[beq_eq_false_iff_ne];exact z
  rw[if_neg z];simp only[aT,sr];rw[cp,hc];simp only[e,ax,Mw,if_false,fE];exact second _
theorem CM{a b:Option Int}(h:bw a=bw b):a=b:=by cases a <;> cases b <;> first|rfl|(injection h with h;rw[h])|cases h
theorem AF{p q:Int×Option Int}(h:aQ p=aQ q):p=q:=by
 obtain⟨a,o⟩:=p;obtain⟨b,u⟩:=q;unfold aQ at h;injection h with h
 injection h with h1 h2
 injection h1 with h1
 injection h2 with h2 _
 have c:=CM h2;exact Prod.ext h1 c
theorem oM{α β:Type}{f:α->β}(c:∀x y,f x=f y->x=y):∀{l m:List α},l.map f=m.map f->l=m
 |[],[],_=>rfl
 |[],_::_,h=>by cases h
 |_::_,[],h=>by cases h
 |a::l,b::m,h=>by
  rw[M5,M5]at h;injection h with h1 h2
  rw[c a b h1,oM c h2]
theorem F0{k:Jb}(h:j.fds=k.fds):j=k:=by
 obtain⟨a1,a2,a3,a4,a,b,c⟩:=j;obtain⟨b1,b2,b3,b4,e,f,g⟩:=k;unfold Jb.fds cC at h;simp only[List.cons.injEq,Prod.mk.injEq,true_and,and_true,PyData.int.injEq,PyData.tuple.injEq,PyData.list.injEq]at h;obtain⟨h1,h2,i,l,h5,h6,h7⟩:=h;have e2:=oM (λx y=>AF) h2;have m:=oM (λx y(q:PyData.int x=PyData.int y)=>by injection q) l;have n:a=e:=by omega
 have o:b=f:=by omega
 have p:c=g:=by omega
 subst h1 i e2 m n o p;rfl
open Classical in
def fL:List (Str×PyData)->Option (List (Str×PyData)):=λfds=>if h:∃j:Jb,j.part<j.parts.length/\fds=j.fds then some (Classical.choose h).next.fds else none
theorem GW(h:j.part<j.parts.length):fL j.fds=some j.next.fds:=by
 have a:∃k:Jb,k.part<k.parts.length/\j.fds=k.fds:=⟨j,h,rfl⟩
 unfold fL;rw[dif_pos a];have:=F0 (Classical.choose_spec a).2;rw[<-this]
theorem Dp(cs:Cs):∀a fds b,fZ fds=true->fds.length<1000->fL fds=some b->∃δ,f9 cs [a] (some (cm cs.Jobs a fds)::List.replicate 0 none)=.nx δ/\δ[0]?=some (some (cm cs.Jobs a b)):=by
 intro a fds b _ _ e;by_cases hx:∃k:Jb,k.part<k.parts.length/\fds=k.fds
 ·obtain⟨k,c,rfl⟩:=hx;rw[GW c]at e;cases e;exact⟨_,Fm c,rfl⟩
 ·unfold fL at e;rw[dif_neg hx]at e;cases e
instance:Inhabited Jb:=⟨⟨0,[],0,[],0,0,0⟩⟩
def eZ(ks:List PyData):Nat:=bst (λi j=>ltD (ks.getD i .none) (ks.getD j .none)) (ks.length-1)
def eu(key:Jb->PyData)(js:List Jb):Jb:=js.getD (eZ (js.map key)) default
theorem oK{C:Addr}{g:PyData->Rs PyData}{key:Jb->PyData}:∀{ts:List (Addr×Jb)},(∀p∈ts,g (jD C p)=.ok (key p.2))->allR g (ts.map (jD C))=.ok ((ts.map (·.2)).map key)
 |[],_=>rfl
 |p::r,h=>by
  have a:=oK (ts:=r) λx b=>h x (M6 _ b)
  rw[M5];unfold allR;rw[h p M7,Rs.ag,a,Rs.ag];rfl
theorem lj(hd:ga δ=.ok (.list (ts.map (jD C))))(o:ts≠[])(f:∀p∈ts,gb (some (jD C p)::tq cap δ)=.ok (key p.2))
  (hK:(∀p∈ts,∃n:Int,key p.2=.int n)\/(∀p∈ts,∃a b:Int,key p.2=.tuple [.int a,.int b])):∃q∈ts,q.2=eu key (ts.map (·.2))/\iY cap ga gb δ=.ok (jD C q):=by
 have hlen:0<ts.length:=MP.mpr o;have e:=oK (C:=C) (g:=λx=>gb (some x::tq cap δ)) (key:=key) f;have q:keysOk ((ts.map (·.2)).map key)=true:=by
  unfold keysOk;rw[Bool.or_eq_true];rcases hK with hK|hK
  ·refine .inl (Mu.mpr λk f=>?_);obtain⟨j,h,rfl⟩:=Mj.mp f;obtain⟨p,l,rfl⟩:=Mj.mp h;obtain⟨n,hn⟩:=hK p l;rw[hn];rfl
  ·refine .inr (Mu.mpr λk f=>?_);obtain⟨j,h,rfl⟩:=Mj.mp f;obtain⟨p,l,rfl⟩:=Mj.mp h;obtain⟨a,b,hn⟩:=hK p l;rw[hn];rfl
 have hb:=ib (λi j=>ltD (((ts.map (·.2)).map key).getD i .none) (((ts.map (·.2)).map key).getD j .none)) (ts.length-1);have m:eZ ((ts.map (·.2)).map key)=bst (λi j=>ltD (((ts.map (·.2)).map key).getD i .none) (((ts.map (·.2)).map key).getD j .none)) (ts.length-1):=by unfold eZ;rw[M4,M4]
 have c:eZ ((ts.map (·.2)).map key)<ts.length:=by rw[m];omega
 refine⟨ts[eZ ((ts.map (·.2)).map key)],MH c,?_,?_⟩
 ·unfold eu;rw[M9,Mc,M1 c];rfl
 ·unfold iY;rw[hd];simp only[Rs.ag,M4,if_pos hlen,e];show (if keysOk _=true then Rs.ee _ else Rs.no)=_;rw[if_pos q,<-m,Mc,M1 c];rfl
def fO(js:List Jb)(tool:Option Int):Option Jb:=tool.bind λt=>js.find? λj=>j.held==some t
theorem yJ{tool:Option Int}:(fO (ts.map (·.2)) tool=none/\jz C ts tool=.none)\/∃q∈ts,fO (ts.map (·.2)) tool=some q.2/\jz C ts tool=jD C q:=by
 unfold fO jz;cases tool with
 |none=>exact .inl ⟨rfl,rfl⟩
 |some t =>
  have hm:(ts.map (·.2)).find? (λj=>j.held==some t)=(ts.find? (holdsT t)).map (·.2):=by rw[List.find?_map];rfl
  simp only[N7,hm];cases h:ts.find? (holdsT t) with
  |none=>exact .inl ⟨rfl,rfl⟩
  |some p=>exact .inr ⟨p,MT h,rfl,rfl⟩
def nB(js:List Jb)(l:List (Int×Int))(j:Jb):List (Int×Int):=match fO js j.wanted with
 |none=>l
 |some o=>eE l o.num (if (a8 l o.num).getD o.rank<j.rank then (a8 l o.num).getD o.rank else j.rank)
def kx(js:List Jb):List (Int×Int):=js.foldl (nB js) []
theorem DH(h:∀p∈ts,p.2.part<p.2.parts.length)(c:p∈ts)(hl:l.length<1000000)(x3:Option PyData) :
  ∃x,lrB cs [some (.list (ts.map (jD cs.Jobs))),some (bM l),some (jD cs.Jobs p),x3]=.nx [some (.list (ts.map (jD cs.Jobs))),some (bM (nB (ts.map (·.2)) l p.2)),some (jD cs.Jobs p),x]:=by
 have hm:au (bI cs) (af (ae 0) (af (bq cs.Jobs "wanted" (aJ cs) (ae 2) ah) ah)) [some (.list (ts.map (jD cs.Jobs))),none,some (jD cs.Jobs p),x3]=.ok (jz cs.Jobs ts p.2.wanted):=by
  have h2:bq cs.Jobs "wanted" (aJ cs) (ae 2) ah [some (.list (ts.map (jD cs.Jobs))),none,some (jD cs.Jobs p),x3]=.ok (bw p.2.wanted):=by unfold bq;simp only[ar,ay,Rs.ag];rw[if_pos (show isC cs.Jobs "wanted" (jD cs.Jobs p)=true from qp)];simp only[aF,Rs.ag];exact rX (h p c)
  simp only[bS,aA,aF,ar,h2,Rs.ag];exact sA h
 have a:aR [1] 3 (au (bI cs) (af (ae 0) (af (bq cs.Jobs "wanted" (aJ cs) (ae 2) ah) ah))) [some (.list (ts.map (jD cs.Jobs))),some (bM l),some (jD cs.Jobs p),x3]=.nx [some (.list (ts.map (jD cs.Jobs))),some (bM l),some (jD cs.Jobs p),some (jz cs.Jobs ts p.2.wanted)]:=by show (if 3<4 then ofR (au (bI cs) (af (ae 0) (af (bq cs.Jobs "wanted" (aJ cs) (ae 2) ah) ah)) [some (.list (ts.map (jD cs.Jobs))),none,some (jD cs.Jobs p),x3]) _ else _)=_;rw[if_pos (by decide),hm];rfl
 unfold lrB nB;simp only[aT,a];rcases yJ (C:=cs.Jobs) (ts:=ts) (tool:=p.2.wanted) with⟨b,e⟩|⟨q,hq,b,e⟩
 ·rw[e,b];exact⟨_,rfl⟩
 ·rw[e,b];simp only[cp,dJ,ic,ar,ay,Rs.ag,EG,Rs.ai,aV,ax,if_true];have f1:bG cs.Jobs "number" (jD cs.Jobs q)=some (.int q.2.num):=xA;have f2:bG cs.Jobs "rank" (jD cs.Jobs q)=some (.int q.2.rank):=oa;have f:bG cs.Jobs "rank" (jD cs.Jobs p)=some (.int p.2.rank):=oa;refine⟨some (jD cs.Jobs q),?_⟩;unfold ff;simp only[N9,MZ,gw,eV,aA,aF,ic,ar,ay,Rs.ag,f1,f2,f,Rs.ai,lK,uv,ax,if_pos hl];rfl
theorem A9(js:List Jb)(l:List (Int×Int))(j:Jb):(nB js l j).length<=l.length+1:=by
 unfold nB;split
 ·exact NF _
 ·exact GS _ _ _
theorem vV{cs:Cs}{ts:List (Addr×Jb)}(h:∀p∈ts,p.2.part<p.2.parts.length):∀(us:List (Addr×Jb))(l:List (Int×Int))(x2 x3:Option PyData),(∀p∈us,p∈ts)->l.length+us.length<1000000 ->
  ∃a b,forL (aZ 2) (lrB cs) (us.map (jD cs.Jobs)) [some (.list (ts.map (jD cs.Jobs))),some (bM l),x2,x3]=.nx [some (.list (ts.map (jD cs.Jobs))),some (bM ((us.map (·.2)).foldl (nB (ts.map (·.2))) l)),a,b]
 |[],l,x2,x3,_,_=>⟨x2,x3,rfl⟩
 |p::r,l,x2,x3,hu,hl=>by have h1:aZ 2 (jD cs.Jobs p) [some (.list (ts.map (jD cs.Jobs))),some (bM l),x2,x3]=some [some (.list (ts.map (jD cs.Jobs))),some (bM l),some (jD cs.Jobs p),x3]:=rfl;rw[Mp]at hl;obtain⟨x,e1⟩:=DH (cs:=cs) h (hu p M7) (l:=l) (by omega) x3;have hl1:=A9 (ts.map (·.2)) l p.2;rw[M5];unfold forL;rw[h1];simp only[e1];exact vV h r _ _ _ (λq c=>hu q (M6 _ c)) (by omega)
theorem Ga(h:∀p∈ts,p.2.part<p.2.parts.length)(hl:ts.length<=1000):cq cs [.list (ts.map (jD cs.Jobs))]=.ok (bM (kx (ts.map (·.2)))):=by obtain⟨y2,y3,e⟩:=vV (cs:=cs) h ts [] none none (λp a=>a) (by rw[MM];omega);show bE (gp cs (aJ cs) (bI cs) [some (.list (ts.map (jD cs.Jobs))),none,none,none])=_;have b:pj 1 [some (.list (ts.map (jD cs.Jobs))),none,none,none]=.nx [some (.list (ts.map (jD cs.Jobs))),some (bM []),none,none]:=rfl;have c:eP [1] (bB (ae 0)) (aZ 2) (lrB cs) [some (.list (ts.map (jD cs.Jobs))),some (bM []),none,none]=forL (aZ 2) (lrB cs) (ts.map (jD cs.Jobs)) [some (.list (ts.map (jD cs.Jobs))),some (bM []),none,none]:=rfl;show bE (az (pj 1) (az (eP [1] (bB (ae 0)) (aZ 2) (lrB cs)) (bx (ae 1))) [some (.list (ts.map (jD cs.Jobs))),none,none,none])=_;simp only[aT,b,c,e];rfl
def gW(tops:PyData)(t:Int):Int:=match dIx tops (.int t) with
 |some (.int n)=>n
 |_=>0
def fz(tops:PyData)(j:Jb):PyData:=match j.held with
 |none=>.tuple [.int j.rank,.int 1]
 |some t=>.tuple [.int (if gW tops t<j.rank then gW tops t else j.rank),.int 0]
theorem ED(h:p.2.part<p.2.parts.length)(c:∀t,p.2.held=some t->∃n:Int,dIx tops (.int t)=some (.int n)):bT cs [jD cs.Jobs p,tops]=.ok (fz tops p.2):=by
 have b:bG cs.Jobs "rank" (jD cs.Jobs p)=some (.int p.2.rank):=oa;unfold fz;cases z:p.2.held with
 |none =>
  show bE (bX cs (aM cs) [some (jD cs.Jobs p),some tops,none])=_;unfold bX;have hm:=rP (cs:=cs) (p:=p) (x:=some tops) (y:=none) h;rw[z]at hm;have a:aR [] 2 (bq cs.Jobs "held" (aM cs) (ae 0) ah) [some (jD cs.Jobs p),some tops,none]=.nx [some (jD cs.Jobs p),some tops,some .none]:=by rw[i6,hm];rfl
  simp only[aT,a,cp,dJ,ic,ar,ay,Rs.ag,DV,DZ,Rs.ai,aV,ax,if_true,bW,fU,aA,aF,b,cQ,bt]
 |some t =>
  obtain⟨n,hn⟩:=c t z;have e:gW tops t=n:=by unfold gW;rw[hn]
  show bE (bX cs (aM cs) [some (jD cs.Jobs p),some tops,none])=_;unfold bX;have hm:=rP (cs:=cs) (p:=p) (x:=some tops) (y:=none) h;rw[z]at hm;have a:aR [] 2 (bq cs.Jobs "held" (aM cs) (ae 0) ah) [some (jD cs.Jobs p),some tops,none]=.nx [some (jD cs.Jobs p),some tops,some (.int t)]:=by rw[i6,hm];rfl
  simp only[aT,a,cp,dJ,ic,bV,ar,ay,Rs.ag,DV,Af,Rs.ai,aV,ax,Mw,if_false,fE,bW,fU,aA,aF,b,hn,eV,uv,cQ,bt,e]
def dj(js:List Jb)(j:Jb):Bool:=(fO js j.wanted).isNone
def lU(l:List (Int×Int))(j:Jb):PyData:=.int ((a8 l j.num).getD j.rank)
def cO(tops:PyData)(len:Str)(js:List Jb):Jb:=if (len==("high":Str))=true then eu (fz tops) js else eu (lU (if (len==("asked":Str))=true then kx js else [])) (js.filter (dj js))
theorem uL{tool:Option Int}:fe (jz C ts tool)=(fO (ts.map (·.2)) tool).isNone:=by
 rcases yJ (C:=C) (ts:=ts) (tool:=tool) with⟨a,e⟩|⟨q,_,a,e⟩
 ·rw[e,a];rfl
 ·rw[e,a];rfl
theorem pw(h:ts≠[]):ts.filter (λp=>dj (ts.map (·.2)) p.2)≠[]:=by obtain⟨p,b,e⟩:=BZ h (C:=0);refine O8 (a:=p) (Mn.mpr ⟨b,?_⟩);unfold dj;rw[<-uL (C:=0),e];rfl
theorem lT{C:Addr}{ts:List (Addr×Jb)}{f:PyData->Bool}{g:Jb->Bool}:∀{us:List (Addr×Jb)},(∀p∈us,f (jD C p)=g p.2)->(us.map (jD C)).filter f=(us.filter λp=>g p.2).map (jD C)
 |[],_=>rfl
 |p::r,h=>by
  have a:=lT (ts:=ts) (us:=r) λx b=>h x (M6 _ b)
  rw[M5,Nf,Nf,h p M7,a];cases g p.2 <;> rfl
theorem Bl{len:Str}(j:ts≠[])(hl:ts.length<=1000)(h:∀p∈ts,p.2.part<p.2.parts.length)(r:∀p∈ts,∀t,p.2.held=some t->∃n:Int,dIx tops (.int t)=some (.int n))(m:fP len) :
  ∃q∈ts,q.2=cO tops len (ts.map (·.2))/\cG cs [.list (ts.map (jD cs.Jobs)),tops,.str len]=.ok (jD cs.Jobs q):=by
 have o:gT (g2 dEq (ae 2) (gC (.str "high"))) [some (.list (ts.map (jD cs.Jobs))),some tops,some (.str len),none,none]=.ok (len=="high"):=by simp only[dJ,bV,ar,ay,cQ,Rs.ag,eq_str m.sh uJ,Rs.ai,aV]
 show ∃q∈ts,q.2=_/\bE (jm cs (cq cs) (aJ cs) (bI cs) (bT cs) [some (.list (ts.map (jD cs.Jobs))),some tops,some (.str len),none,none])=.ok _;unfold jm cO;cases z:(len==("high":Str)) with
 |true =>
  obtain⟨q,i,e2,e⟩:=lj (C:=cs.Jobs) (cap:=[1]) (ga:=ae 0) (gb:=au (bT cs) (af (ae 0) (af (ae 1) ah))) (δ:=[some (.list (ts.map (jD cs.Jobs))),some tops,some (.str len),none,none]) (key:=fz tops) rfl j (λp a=>ED (h p a) (r p a)) (.inr λp a=>by unfold fz;cases p.2.held <;> exact⟨_,_,rfl⟩)
  refine⟨q,i,by rw[if_pos rfl];exact e2,?_⟩;simp only[aT,cp,o,z,ax,if_true,bW,e,bt]
 |false =>
  have hc:aS 5 (bB (ae 0)) (gT (g1 nR (au (bI cs) (af (ae 0) (af (bq cs.Jobs "wanted" (aJ cs) (ae 5) ah) ah))))) (ae 5) aE [some (.list (ts.map (jD cs.Jobs))),some tops,some (.str len),none,none]=.ok ((ts.filter λp=>dj (ts.map (·.2)) p.2).map (jD cs.Jobs)):=by
   rw[<-lT (ts:=ts) (f:=CJ cs [some (.list (ts.map (jD cs.Jobs))),some tops,some (.str len),none,none]) (λp a=>by have g:=yM (cs:=cs) (x1:=some tops) (x2:=some (.str len)) (x3:=none) (x4:=none) h a;unfold CJ;simp only[MO,MK,g];exact uL)]
   refine lF rfl rfl (by rw[M4];omega) λd hd=>?_
   obtain⟨p,a,rfl⟩:=Mj.mp hd;refine⟨?_,rfl⟩;have g:=yM (cs:=cs) (x1:=some tops) (x2:=some (.str len)) (x3:=none) (x4:=none) h a;unfold CJ;simp only[MO,MK,g];simp only[dJ,ic,g,Rs.ag,DV,Rs.ai,aV]
  have hn:=pw j;have s:(ts.map (·.2)).filter (dj (ts.map (·.2)))=(ts.filter λp=>dj (ts.map (·.2)) p.2).map (·.2):=by rw[O2];rfl
  have c:∀p∈ts.filter (λp=>dj (ts.map (·.2)) p.2),p∈ts:=λp a=>(Mn.mp a).1
  rw[s];generalize (ts.filter λp=>dj (ts.map (·.2)) p.2)=fr at hc hn c;have b:gIf (gT (g2 dEq (ae 2) (gC (.str "asked")))) (au (cq cs) (af (ae 0) ah)) (gC (bM [])) [some (.list (ts.map (jD cs.Jobs))),some tops,some (.str len),some (.list (fr.map (jD cs.Jobs))),none]=.ok (bM (if (len==("asked":Str))=true then kx (ts.map (·.2)) else [])):=by
   have u:gT (g2 dEq (ae 2) (gC (.str "asked"))) [some (.list (ts.map (jD cs.Jobs))),some tops,some (.str len),some (.list (fr.map (jD cs.Jobs))),none]=.ok (len=="asked"):=by simp only[dJ,bV,ar,ay,cQ,Rs.ag,eq_str m.sh pX,Rs.ai,aV]
   unfold gIf;rw[u];simp only[Rs.ag];cases (len==("asked":Str)) with
   |true=>simp only[if_true,bS,aA,aF,ar,Rs.ag,Ga h hl]
   |false=>simp
  generalize (if (len==("asked":Str))=true then kx (ts.map (·.2)) else [])=l at b;obtain⟨q,i,e2,e⟩:=lj (C:=cs.Jobs) (cap:=[4]) (ga:=ae 3) (gb:=lK (ae 1) (g1 (bG cs.Jobs "number") (ae 0)) (g1 (bG cs.Jobs "rank") (ae 0))) (δ:=[some (.list (ts.map (jD cs.Jobs))),some tops,some (.str len),some (.list (fr.map (jD cs.Jobs))),some (bM l)]) (key:=lU l) rfl hn (λp a=>by have f1:bG cs.Jobs "number" (jD cs.Jobs p)=some (.int p.2.num):=xA;have f2:bG cs.Jobs "rank" (jD cs.Jobs p)=some (.int p.2.rank):=oa;show lK (ae 1) (g1 (bG cs.Jobs "number") (ae 0)) (g1 (bG cs.Jobs "rank") (ae 0)) [some (jD cs.Jobs p),some (bM l)]=_;unfold lK;simp only[ar,ay,Rs.ag,gw,ic,f1,f2,Rs.ai];rfl) (.inl λp a=>⟨_,rfl⟩)
  refine⟨q,c q i,by rw[if_neg Mi];exact e2,?_⟩;have v:aR [] 3 (gL (aS 5 (bB (ae 0)) (gT (g1 nR (au (bI cs) (af (ae 0) (af (bq cs.Jobs "wanted" (aJ cs) (ae 5) ah) ah))))) (ae 5) aE)) [some (.list (ts.map (jD cs.Jobs))),some tops,some (.str len),none,none]=.nx [some (.list (ts.map (jD cs.Jobs))),some tops,some (.str len),some (.list (fr.map (jD cs.Jobs))),none]:=by rw[i6,wy,hc];rfl
  have w:aR [] 4 (gIf (gT (g2 dEq (ae 2) (gC (.str "asked")))) (au (cq cs) (af (ae 0) ah)) (gC (bM []))) [some (.list (ts.map (jD cs.Jobs))),some tops,some (.str len),some (.list (fr.map (jD cs.Jobs))),none]=.nx [some (.list (ts.map (jD cs.Jobs))),some tops,some (.str len),some (.list (fr.map (jD cs.Jobs))),some (bM l)]:=by rw[i6,b];rfl
  simp only[aT,cp,o,z,ax,Mw,if_false,fE,v,w,bW,e,bt]
theorem uX{nd:PyData}:fh a nd (jD C p)=if p.1=a then nd else jD C p:=by
 have b:=p.2.flat;have c:jJ ((PyData.str "",PyData.int (C:Int))::(PyData.str "@",PyData.int (p.1:Int))::p.2.fds.map λx=>(PyData.str x.1,x.2))=some (p.1:Int):=by unfold jJ;unfold fZ at b;simp[b]
 unfold jD Jb.d cm fh;rw[c];by_cases z:p.1=a
 ·rw[if_pos z,if_pos (by rw[z])]
 ·have f:¬ (some (p.1:Int)=some (a:Int)):=λe=>z (Int.ofNat.inj (Option.some.inj e))
  rw[if_neg z,if_neg f]
theorem yu{C a:Addr}{j:Jb}:∀ts:List (Addr×Jb),jf a (jD C (a,j)) (ts.map (jD C))=(ts.map λp=>if p.1=a then (a,j) else p).map (jD C)
 |[]=>rfl
 |p::r=>by
  rw[M5,M5,M5];unfold jf;rw[yu r,uX];by_cases z:p.1=a
  ·rw[if_pos z,if_pos z]
  ·rw[if_neg z,if_neg z]
theorem Be:fh a (jD C (a,j)) (.list (ts.map (jD C)))=.list ((ts.map λp=>if p.1=a then (a,j) else p).map (jD C)):=by unfold fh;rw[yu]
mutual
theorem mF{a:Addr}{nd:PyData}:∀d:PyData,aG d=true->fh a nd d=d
 |.none,_=>by unfold fh;rfl
 |.bool _,_=>by unfold fh;rfl
 |.int _,_=>by unfold fh;rfl
 |.str _,_=>by unfold fh;rfl
 |.list ds,h=>by unfold fh;rw[uu ds (by simpa[aG] using h)]
 |.tuple ds,h=>by unfold fh;rw[uu ds (by simpa[aG] using h)]
 |.dict _,h=>by simp[aG]at h
theorem uu{a:Addr}{nd:PyData}:∀ds:List PyData,df ds=true->jf a nd ds=ds
 |[],_=>by unfold jf;rfl
 |d::r,h=>by unfold df at h;rw[Mm]at h;unfold jf;rw[mF d h.1,uu r h.2]
end
theorem qw{C:Addr}{elt:Ds->Rs PyData}{δ:Ds}{k:Jb->PyData}:∀(ts:List (Addr×Jb)),(∀p∈ts,elt (δ++[some (jD C p)])=.ok (k p.2))->eR ba elt aE δ (ts.map (jD C))=.ok ((ts.map (·.2)).map k)
 |[],_=>rfl
 |p::r,h=>by
  have a:=qw r λe b=>h e (M6 _ b)
  rw[M5];unfold eR;simp only[aE,ba,Rs.c8,Rs.ag,if_true,h p M7];rw[a];rfl
def Jb.done(j:Jb):Bool:=(j.job:Int)==(j.row.length:Int)
def rnD(C:Addr)(E R W tops:PyData)(len:Str)(qs:List (Addr×Jb))(told:List PyData)(x7 x8:Option PyData):Ds:=[some E,some R,some W,some (.str len),some tops,some (.list (qs.map (jD C))),some (.list told),x7,x8]
section
variable {E W:PyData}{len:Str}{qs:List (Addr×Jb)}
theorem cond_of(hl:qs.length<=1000):gP (gT (gF nW (af (gL (aS 9 (bB (ae 5)) ba (bq cs.Jobs "are_done" (aW cs) (ae 9) ah) aE)) ah))) (rnD cs.Jobs E R W tops len qs told x7 x8)=.ok (!((qs.map (·.2)).all Jb.done)):=by
 have hc:aS 9 (bB (ae 5)) ba (bq cs.Jobs "are_done" (aW cs) (ae 9) ah) aE (rnD cs.Jobs E R W tops len qs told x7 x8)=.ok ((qs.map (·.2)).map λj=>.bool j.done):=by
  unfold aS;rw[if_pos (show (rnD cs.Jobs E R W tops len qs told x7 x8).length=9 from rfl)];rw[show bB (ae 5) (rnD cs.Jobs E R W tops len qs told x7 x8)=.ok (qs.map (jD cs.Jobs)) from rfl];simp only[Rs.ag];rw[if_pos (by rw[M4];omega)];refine qw qs λp hp=>?_
  show bq cs.Jobs "are_done" (aW cs) (ae 9) ah [some E,some R,some W,some (.str len),some tops,some (.list (qs.map (jD cs.Jobs))),some (.list told),x7,x8,some (jD cs.Jobs p)]=_;unfold bq;simp only[ar,ay,Rs.ag];rw[if_pos (show isC cs.Jobs "are_done" (jD cs.Jobs p)=true from sZ)];simp only[aF,Rs.ag];exact vl
 have a:=iH Jb.done (qs.map (·.2));simp only[uF,dJ,eV,aA,aF,wy,hc,Rs.ag,a,Rs.ai,aV]
def cF(told:List PyData)(p:Addr×Jb):Bool:=p.2.there (told.length:Int)
theorem nk(h:∀p∈qs,p.2.job<=p.2.row.length){x6:Option PyData}:∀(us:List (Addr×Jb)),(∀p∈us,p∈qs) ->
  ft (gT (bq cs.Jobs "is_there" (aL cs) (ae 9) (af (gF bA (af (ae 6) ah)) ah))) (ae 9) aE [some E,some R,some W,some (.str len),some tops,some (.list (qs.map (jD cs.Jobs))),x6,x7,x8] (rnD cs.Jobs E R W tops len qs told x7 x8) (us.map (jD cs.Jobs))=.ok ((us.filter (cF told)).map (jD cs.Jobs))
 |[],_=>rfl
 |p::r,hu=>by
  have a:=nk h (x6:=x6) r λq b=>hu q (M6 _ b)
  have hc:gT (bq cs.Jobs "is_there" (aL cs) (ae 9) (af (gF bA (af (ae 6) ah)) ah)) (rnD cs.Jobs E R W tops len qs told x7 x8++[some (jD cs.Jobs p)])=.ok (cF told p):=by show gT (bq cs.Jobs "is_there" (aL cs) (ae 9) (af (gF bA (af (ae 6) ah)) ah)) [some E,some R,some W,some (.str len),some tops,some (.list (qs.map (jD cs.Jobs))),some (.list told),x7,x8,some (jD cs.Jobs p)]=_;rw[dJ];unfold bq;simp only[ar,ay,Rs.ag];rw[if_pos (show isC cs.Jobs "is_there" (jD cs.Jobs p)=true from uG)];simp only[aA,aF,eV,ar,ay,jT,Rs.ai,Rs.ag];rw[show aL cs [jD cs.Jobs p,.int (told.length:Int)]=_ from wo (h p (hu p M7))];rfl
  rw[M5];unfold ft;rw[show aE (jD cs.Jobs p)=some [some (jD cs.Jobs p)] from rfl];simp only[hc,Rs.c8,Rs.ag];rw[Nf];cases cF told p with
  |true =>simp only[if_true];rw[show ae 9 ([some E,some R,some W,some (.str len),some tops,some (.list (qs.map (jD cs.Jobs))),x6,x7,x8]++[some (jD cs.Jobs p)])=.ok (jD cs.Jobs p) from rfl];simp only[Rs.c8,Rs.ag,a];rfl
  |false=>simp only[Mw,if_false,a]
end
mutual
theorem j7:∀d:PyData,aG d=true->objs d=true
 |.none,_=>by unfold objs;rfl
 |.bool _,_=>by unfold objs;rfl
 |.int _,_=>by unfold objs;rfl
 |.str _,_=>by unfold objs;rfl
 |.list ds,h=>by unfold objs;exact pE ds (by simpa[aG] using h)
 |.tuple ds,h=>by unfold objs;exact pE ds (by simpa[aG] using h)
 |.dict _,h=>by simp[aG]at h
theorem pE:∀ds:List PyData,df ds=true->ju ds=true
 |[],_=>by unfold ju;rfl
 |d::r,h=>by unfold df at h;rw[Mm]at h;unfold ju;rw[j7 d h.1,pE r h.2];rfl
end
theorem yp:objs (jD C p)=true:=by unfold jD Jb.d;rw[wA];exact p.2.flat
theorem sv{C:Addr}:∀ts:List (Addr×Jb),ju (ts.map (jD C))=true
 |[]=>by unfold ju;rfl
 |p::r=>by rw[M5];unfold ju;rw[yp,sv r];rfl
theorem xV:objs (.list (ts.map (jD C)))=true:=by unfold objs;exact sv ts
section
variable {E W:PyData}{len:Str}{qs:List (Addr×Jb)}
structure NoD(E R W tops:PyData)(told:List PyData):Prop where
 e:aG E=true
 r:aG R=true
 w:aG W=true
 t:aG tops=true
 o:aG (.list told)=true
theorem Bf(n:NoD E R W tops told)(ha:q.1∈as):ng as cs.Jobs 8 (rnD cs.Jobs E R W tops len qs told (some (.list (ts.map (jD cs.Jobs)))) (some (jD cs.Jobs q)))=some (q.1,q.2.fds):=by
 have h1:f7 (rnD cs.Jobs E R W tops len qs told (some (.list (ts.map (jD cs.Jobs)))) (some (jD cs.Jobs q)))=true:=by
  unfold f7 rnD;have b:objs (.str len)=true:=by unfold objs;rfl
  simp only[NK,List.all_nil,Ny,j7 _ n.e,j7 _ n.r,j7 _ n.w,j7 _ n.t,j7 _ n.o,b,xV,yp,Bool.and_self]
 show (match objOf (jD cs.Jobs q) with|some (c,a,fds)=>if c=cs.Jobs/\a∈as/\f7 (rnD cs.Jobs E R W tops len qs told (some (.list (ts.map (jD cs.Jobs)))) (some (jD cs.Jobs q)))=true/\fZ fds=true/\fds.length<1000 then some (a,fds) else none|none=>none)=_;rw[show objOf (jD cs.Jobs q)=some (cs.Jobs,q.1,q.2.fds) from rA _ _ _];exact if_pos ⟨rfl,ha,h1,q.2.flat,show 7<1000 by decide⟩
end
def tY(a:Addr)(j:Jb)(qs:List (Addr×Jb)):List (Addr×Jb):=qs.map λp=>if p.1=a then (a,j) else p
section
variable {E W:PyData}{len:Str}{qs:List (Addr×Jb)}
theorem Hs(n:NoD E R W tops told):kK q.1 (jD cs.Jobs (q.1,j)) (rnD cs.Jobs E R W tops len qs told (some (.list (ts.map (jD cs.Jobs)))) (some (jD cs.Jobs q)))=rnD cs.Jobs E R W tops len (tY q.1 j qs) told (some (.list ((tY q.1 j ts).map (jD cs.Jobs)))) (some (jD cs.Jobs (q.1,j))):=by
 have a:fh q.1 (jD cs.Jobs (q.1,j)) (.str len)=.str len:=by unfold fh;rfl
 have b:fh q.1 (jD cs.Jobs (q.1,j)) (jD cs.Jobs q)=jD cs.Jobs (q.1,j):=by rw[uX,if_pos rfl]
 unfold kK rnD tY;simp only[M5,Nc,MN,mF _ n.e,mF _ n.r,mF _ n.w,mF _ n.t,mF _ n.o,a,Be,b]
theorem Ex(n:NoD E R W tops told)(ha:q.1∈as)(a:q.2.part<q.2.parts.length):kN as cs.Jobs "go_on" 8 fL (rnD cs.Jobs E R W tops len qs told (some (.list (ts.map (jD cs.Jobs)))) (some (jD cs.Jobs q)))=.nx (rnD cs.Jobs E R W tops len (tY q.1 q.2.next qs) told (some (.list ((tY q.1 q.2.next ts).map (jD cs.Jobs)))) (some (jD cs.Jobs (q.1,q.2.next)))):=by unfold kN;rw[Bf n ha];have b:nJ "go_on" q.2.fds=none:=rfl;simp only[b,if_true,GW a];exact congrArg Sr.nx (Hs (cs:=cs) (len:=len) (qs:=qs) (ts:=ts) (q:=q) (j:=q.2.next) n)
end
section
variable {E W:PyData}{len:Str}{qs:List (Addr×Jb)}
theorem B2(hl:qs.length<=1000)(h:∀p∈qs,p.2.job<=p.2.row.length):p5 [6] 7 9 (bB (ae 5)) (gT (bq cs.Jobs "is_there" (aL cs) (ae 9) (af (gF bA (af (ae 6) ah)) ah))) (ae 9) aE (rnD cs.Jobs E R W tops len qs told x7 x8)=.nx (rnD cs.Jobs E R W tops len qs told (some (.list ((qs.filter (cF told)).map (jD cs.Jobs)))) x8):=by
 have hm:mask [6] (rnD cs.Jobs E R W tops len qs told x7 x8)=[some E,some R,some W,some (.str len),some tops,some (.list (qs.map (jD cs.Jobs))),none,x7,x8]:=rfl;have hc:mW 9 (bB (ae 5)) (gT (bq cs.Jobs "is_there" (aL cs) (ae 9) (af (gF bA (af (ae 6) ah)) ah))) (ae 9) aE (mask [6] (rnD cs.Jobs E R W tops len qs told x7 x8)) (rnD cs.Jobs E R W tops len qs told x7 x8)=.ok ((qs.filter (cF told)).map (jD cs.Jobs)):=by rw[hm];unfold mW;rw[if_pos (show [some E,some R,some W,some (.str len),some tops,some (.list (qs.map (jD cs.Jobs))),none,x7,x8].length=9 from rfl)];rw[show bB (ae 5) [some E,some R,some W,some (.str len),some tops,some (.list (qs.map (jD cs.Jobs))),none,x7,x8]=.ok (qs.map (jD cs.Jobs)) from rfl];simp only[Rs.ag];rw[if_pos (by rw[M4];omega)];exact nk h qs λp a=>a
 unfold p5;rw[if_pos (show 7<(rnD cs.Jobs E R W tops len qs told x7 x8).length from (by decide:7<9)),hc];rfl
end
def aO(told:List PyData)(js:List Jb):List Jb:=js.filter λj=>j.there (told.length:Int)
def dg(b:Jb)(js:List Jb):List Jb:=js.map λj=>if j.num=b.num then b.next else j
def eB(b:Jb):PyData:=.tuple [.int b.num,.int (b.job:Int)]
def cY(tops:PyData)(len:Str)(s:List Jb×List PyData):List Jb×List PyData :=
 if aO s.2 s.1=[] then (s.1,s.2++[.none]) else (dg (cO tops len (aO s.2 s.1)) s.1,s.2++[eB (cO tops len (aO s.2 s.1))])
structure QOk(as:List Addr)(qs:List (Addr×Jb)):Prop where
 few:qs.length<=1000
 pl:qs.map (·.1)=as
 nda:as.Nodup
 ndn:(qs.map (·.2.num)).Nodup
 pt:∀p∈qs,p.2.part<p.2.parts.length
 jb:∀p∈qs,p.2.job<=p.2.row.length
theorem me{α β:Type}{f:α->β}:∀{l:List α},(l.map f).Nodup->∀x∈l,∀y∈l,f x=f y->x=y
 |[],_,x,b,_,_,_=>by cases b
 |a::r,h,x,b,y,c,e=>by
  rw[M5,MG]at h;rcases M8.mp b with rfl|b
  ·rcases M8.mp c with rfl|c
   ·rfl
   ·exact (h.1 (Mj.mpr ⟨y,by assumption,e.symm⟩)).elim
  ·rcases M8.mp c with rfl|c
   ·exact (h.1 (Mj.mpr ⟨x,by assumption,e⟩)).elim
   ·exact me h.2 x b y c e
def rnB(cs:Cs)(as:List Addr):Ds->Sr:=(az (p5 [6] 7 9 (bB (ae 5)) (gT (bq cs.Jobs "is_there" (aL cs) (ae 9) (af (gF bA (af (ae 6) ah)) ah))) (ae 9) aE)
 (sIf (gT (g2 dEq (gF bA (af (ae 7) ah)) (gC (.int 0)))) (fR [6] 6 (gC .none)) (az (aR [6] 8 (au (cG cs) (af (ae 7) (af (ae 4) (af (ae 3) ah)))))
 (az (fR [6] 6 (cL (af (g1 (bG cs.Jobs "number") (ae 8)) (af (g1 (bG cs.Jobs "job") (ae 8)) ah))))
 (kN as cs.Jobs "go_on" 8 fL)))))
section
variable {E W:PyData}{len:Str}{qs:List (Addr×Jb)}
theorem vk:(qs.filter (cF told)).map (·.2)=aO told (qs.map (·.2)):=by unfold aO;rw[O2];rfl
theorem EA(K:QOk as qs)(a:q∈qs)(c:j=q.2.next):(tY q.1 j qs).map (·.2)=dg q.2 (qs.map (·.2)):=by
 unfold tY dg;rw[Ms,Ms];refine Mv λp b=>?_
 show (if p.1=q.1 then (q.1,j) else p).2=if p.2.num=q.2.num then q.2.next else p.2
 by_cases z:p.1=q.1
 ·have:p=q:=me (f:=(·.1)) (by rw[K.pl];exact K.nda) p b q a z;rw[if_pos z,if_pos (by rw[this]),c]
 ·have:p.2.num≠q.2.num:=λe=>z (by rw[me (f:=λx:Addr×Jb=>x.2.num) K.ndn p b q a e])
  rw[if_neg z,if_neg this]
theorem Gr:(tY a j qs).map (·.1)=qs.map (·.1):=by
 unfold tY;rw[Ms];refine Mv λp hp=>?_
 show (if p.1=a then (a,j) else p).1=p.1;by_cases z:p.1=a
 ·rw[if_pos z,z]
 ·rw[if_neg z]
theorem GD(K:QOk as qs)(n:NoD E R W tops told)(m:fP len)(s:∀p∈qs,∀t,p.2.held=some t->∃n:Int,dIx tops (.int t)=some (.int n))(hl:told.length<1000000)(x7 x8:Option PyData) :
  ∃b u v,rnB cs as (rnD cs.Jobs E R W tops len qs told x7 x8)=.nx (rnD cs.Jobs E R W tops len b (cY tops len (qs.map (·.2),told)).2 u v)/\b.map (·.1)=qs.map (·.1)/\b.map (·.2)=(cY tops len (qs.map (·.2),told)).1:=by
 have f:=B2 (cs:=cs) (E:=E) (R:=R) (W:=W) (tops:=tops) (len:=len) (told:=told) (x7:=x7) (x8:=x8) K.few K.jb;have hc:gT (g2 dEq (gF bA (af (ae 7) ah)) (gC (.int 0))) (rnD cs.Jobs E R W tops len qs told (some (.list ((qs.filter (cF told)).map (jD cs.Jobs)))) x8)=.ok (((qs.filter (cF told)).length:Int)==0):=by unfold rnD;simp only[dJ,bV,eV,aA,aF,ar,ay,cQ,Rs.ag,jT,M4,Rs.ai,je,aV]
 unfold rnB cY;simp only[aT,f];have c:=vk (qs:=qs) (told:=told);by_cases z:qs.filter (cF told)=[]
 ·have h:(((qs.filter (cF told)).length:Int)==0)=true:=by rw[z];rfl
  have i:aO told (qs.map (·.2))=[]:=by rw[<-c,z];rfl
  rw[if_pos i,cp,hc];simp only[h,ax,if_true];refine⟨qs,some (.list ((qs.filter (cF told)).map (jD cs.Jobs))),x8,?_,rfl,rfl⟩;show (if told.length<1000000 then Sr.nx _ else Sr.no)=_;rw[if_pos hl];rfl
 ·have h:(((qs.filter (cF told)).length:Int)==0)=false:=by rw[beq_eq_false_iff_ne];have:=MP.mpr z;omega
  have i:¬ aO told (qs.map (·.2))=[]:=λe=>z (by rw[<-c]at e;exact List.map_eq_nil_iff.mp e)
  have a:∀p∈qs.filter (cF told),p∈qs:=λp g=>(Mn.mp g).1
  obtain⟨q,j,e2,e⟩:=Bl (cs:=cs) (tops:=tops) z (N5 (List.length_filter_le _ _) K.few) (λp g=>K.pt p (a p g)) (λp g=>s p (a p g)) m;rw[c]at e2;rw[if_neg i,cp,hc];simp only[h,ax,Mw,if_false];have x:aR [6] 8 (au (cG cs) (af (ae 7) (af (ae 4) (af (ae 3) ah)))) (rnD cs.Jobs E R W tops len qs told (some (.list ((qs.filter (cF told)).map (jD cs.Jobs)))) x8)=.nx (rnD cs.Jobs E R W tops len qs told (some (.list ((qs.filter (cF told)).map (jD cs.Jobs)))) (some (jD cs.Jobs q))):=by have l:au (cG cs) (af (ae 7) (af (ae 4) (af (ae 3) ah))) (mask [6] (rnD cs.Jobs E R W tops len qs told (some (.list ((qs.filter (cF told)).map (jD cs.Jobs)))) x8))=.ok (jD cs.Jobs q):=e;unfold aR;rw[if_pos (show 8<(rnD cs.Jobs E R W tops len qs told (some (.list ((qs.filter (cF told)).map (jD cs.Jobs)))) x8).length from (by decide:8<9)),l];rfl
  have f1:bG cs.Jobs "number" (jD cs.Jobs q)=some (.int q.2.num):=xA;have f2:bG cs.Jobs "job" (jD cs.Jobs q)=some (.int (q.2.job:Int)):=uH;have y:fR [6] 6 (cL (af (g1 (bG cs.Jobs "number") (ae 8)) (af (g1 (bG cs.Jobs "job") (ae 8)) ah))) (rnD cs.Jobs E R W tops len qs told (some (.list ((qs.filter (cF told)).map (jD cs.Jobs)))) (some (jD cs.Jobs q)))=.nx (rnD cs.Jobs E R W tops len qs (told++[eB q.2]) (some (.list ((qs.filter (cF told)).map (jD cs.Jobs)))) (some (jD cs.Jobs q))):=by
   have l:cL (af (g1 (bG cs.Jobs "number") (ae 8)) (af (g1 (bG cs.Jobs "job") (ae 8)) ah)) (mask [6] (rnD cs.Jobs E R W tops len qs told (some (.list ((qs.filter (cF told)).map (jD cs.Jobs)))) (some (jD cs.Jobs q))))=.ok (eB q.2):=by show cL _ [some E,some R,some W,some (.str len),some tops,some (.list (qs.map (jD cs.Jobs))),none,some (.list ((qs.filter (cF told)).map (jD cs.Jobs))),some (jD cs.Jobs q)]=_;simp only[fU,aA,aF,ic,ar,ay,Rs.ag,f1,f2,Rs.ai];rfl
   show ofR (cL _ (mask [6] _)) (λd=>if told.length<1000000 then Sr.nx _ else Sr.no)=_;rw[l];show (if told.length<1000000 then Sr.nx _ else Sr.no)=_;rw[if_pos hl];rfl
  have n':NoD E R W tops (told++[eB q.2]):=⟨n.e,n.r,n.w,n.t,by
   have h1:=n.o;refine c9 λd hd=>?_
   rcases Mx.mp hd with hd|hd
   ·exact i0 (by simpa[aG] using h1) d hd
   ·rw[Mh.mp hd];rfl⟩
  have ha:q.1∈as:=by rw[<-K.pl];exact Mj.mpr ⟨q,a q j,rfl⟩
  have A:=Ex (cs:=cs) (len:=len) (qs:=qs) (ts:=qs.filter (cF told)) n' ha (K.pt q (a q j));simp only[aT,x,y,A];rw[<-e2];exact⟨_,_,_,rfl,Gr,EA K (a q j) rfl⟩
end
structure JOk(tops:PyData)(j:Jb):Prop where
 pt:j.part<j.parts.length
 jb:j.job<=j.row.length
 ln:∀p∈j.parts,1<=p.1
 sp:(j.spent:Int)<j.len
 tl:∀p∈j.parts,∀t,p.2=some t->∃n:Int,dIx tops (.int t)=some (.int n)
theorem JOk.held(h:JOk tops j):∀t,j.held=some t->∃n:Int,dIx tops (.int t)=some (.int n):=by
 intro t e;have hpt:=h.pt;have a:j.parts[j.part]?=some j.parts[j.part]:=M1 h.pt;unfold Jb.held Jb.tool at e;rw[a]at e;by_cases z:j.spent=0
 ·rw[if_pos z]at e;cases e
 ·rw[if_neg z]at e;exact h.tl _ (MH h.pt) t e
theorem len_pos{tops:PyData}(h:∀p∈j.parts,1<=p.1)(a:j.part<j.parts.length):1<=j.len:=by unfold Jb.len;rw[M1 a];exact h _ (MH a)
theorem Gw(h:JOk tops j)(c:j.job<j.row.length):JOk tops j.next:=by
 have a:0<j.parts.length:=Nat.lt_of_le_of_lt (MR _) h.pt;have hsp:=h.sp;unfold Jb.next Jb.step1;by_cases z:(j.spent:Int)+1=j.len
 ·rw[if_pos z];unfold Jb.step2;by_cases y:j.part+1=j.parts.length
  ·rw[if_pos (show ({ j with spent:=0,part:=j.part+1 }:Jb).part=({ j with spent:=0,part:=j.part+1 }:Jb).parts.length from y)];refine⟨a,c,h.ln,?_,h.tl⟩;have:=len_pos (tops:=tops) (j:={ j with spent:=0,part:=0,job:=j.job+1 }) h.ln a;show (0:Int)<_;exact O9 (by decide) this
  ·rw[if_neg (show ¬ ({ j with spent:=0,part:=j.part+1 }:Jb).part=({ j with spent:=0,part:=j.part+1 }:Jb).parts.length from y)];have b:j.part+1<j.parts.length:=by have:=h.pt;omega
   refine⟨b,h.jb,h.ln,?_,h.tl⟩;have:=len_pos (tops:=tops) (j:={ j with spent:=0,part:=j.part+1 }) h.ln b;show (0:Int)<_;exact O9 (by decide) this
 ·rw[if_neg z];unfold Jb.step2;rw[if_neg (show ¬ ({ j with spent:=j.spent+1 }:Jb).part=({ j with spent:=j.spent+1 }:Jb).parts.length from Mf h.pt)];refine⟨h.pt,h.jb,h.ln,?_,h.tl⟩;show ((j.spent+1:Nat):Int)<j.len;omega
theorem mX(h:js≠[]):eu key js∈js:=by
 have hl:0<js.length:=MP.mpr h;have hb:=ib (λi j=>ltD ((js.map key).getD i .none) ((js.map key).getD j .none)) (js.length-1);have a:eZ (js.map key)<js.length:=by unfold eZ;rw[M4];omega
 unfold eu;rw[M9,M1 a];exact MH a
theorem iG{len:Str}(h:js≠[]):cO tops len js∈js:=by
 unfold cO;split
 ·exact mX h
 ·have hn:=pw (ts:=js.map λj=>((0:Addr),j)) (by simpa using h);have hm:(js.map λj=>((0:Addr),j)).map (·.2)=js:=by rw[Ms];exact N8 js
  rw[hm]at hn;have a:js.filter (dj js)≠[]:=by
   obtain⟨p,r,e⟩:=NL hn;have b:p∈(js.map λj=>((0:Addr),j)).filter (λp=>dj js p.2):=by rw[e];exact M7
   obtain⟨h1,h2⟩:=Mn.mp b;obtain⟨j,c,rfl⟩:=Mj.mp h1;exact O8 (Mn.mpr ⟨c,h2⟩)
  exact (Mn.mp (mX a)).1
theorem qc(h:j.there t=true):j.job<j.row.length:=by
 unfold Jb.there at h;by_cases z:j.job<j.row.length
 ·exact z
 ·rw[MW (by omega)]at h;cases h
theorem pG(j:Jb):j.next.num=j.num:=by unfold Jb.next Jb.step1 Jb.step2;split <;> split <;> rfl
structure xG(tops:PyData)(js:List Jb):Prop where
 ok:∀j∈js,JOk tops j
 nd:(js.map (·.num)).Nodup
theorem Ae{b:Jb}:(dg b js).map (·.num)=js.map (·.num):=by
 unfold dg;rw[Ms];refine Mv λj hj=>?_
 show (if j.num=b.num then b.next else j).num=j.num;by_cases z:j.num=b.num
 ·rw[if_pos z,pG,z]
 ·rw[if_neg z]
theorem tD{len:Str}(h:xG tops js):xG tops (cY tops len (js,told)).1:=by
 unfold cY;by_cases z:aO told js=[]
 ·rw[if_pos z];exact h
 ·rw[if_neg z];have a:=iG (tops:=tops) (len:=len) z;obtain⟨hm,b⟩:=Mn.mp a;refine⟨λj c=>?_,by rw[Ae];exact h.nd⟩;obtain⟨k,e,rfl⟩:=Mj.mp c;by_cases y:k.num=(cO tops len (aO told js)).num
  ·simp only[y,if_true];exact Gw (h.ok _ hm) (qc b)
  ·simp only[if_neg y];exact h.ok k e
def q9(tops:PyData)(len:Str):Nat->List Jb×List PyData->Option (List PyData)
 |0,_=>none
 |n+1,s=>if s.1.all Jb.done=true then some s.2 else q9 tops len n (cY tops len s)
def rnC(cs:Cs):Ds->Rs Bool:=gP (gT (gF nW (af (gL (aS 9 (bB (ae 5)) ba (bq cs.Jobs "are_done" (aW cs) (ae 9) ah) aE)) ah)))
theorem u0{len:Str}:(cY tops len s).2.length=s.2.length+1:=by unfold cY;split <;> simp
theorem xN{len:Str}(h:aG (.list s.2)=true):aG (.list (cY tops len s).2)=true:=by
 have h1:∀d∈s.2,aG d=true:=i0 (by simpa[aG] using h);refine c9 λd hd=>?_
 unfold cY at hd;split at hd
 ·rcases Mx.mp hd with hd|hd
  ·exact h1 d hd
  ·rw[Mh.mp hd];rfl
 ·rcases Mx.mp hd with hd|hd
  ·exact h1 d hd
  ·rw[Mh.mp hd];rfl
section
variable {E W:PyData}{len:Str}
theorem Ie{qs:List (Addr×Jb)}(hl:qs.length<=1000)(a:qs.map (·.1)=as)(nd:as.Nodup)(h:xG tops (qs.map (·.2))):QOk as qs:=by
 have hm:∀p∈qs,JOk tops p.2:=λp a=>h.ok _ (Mj.mpr ⟨p,a,rfl⟩)
 refine⟨hl,a,nd,?_,λp a=>(hm p a).pt,λp a=>(hm p a).jb⟩;have:=h.nd;rw[Ms]at this;exact this
theorem uR(i:fP len)(nd:as.Nodup):∀(n:Nat)(qs:List (Addr×Jb))(told t:List PyData)(x7 x8:Option PyData),qs.length<=1000->qs.map (·.1)=as->xG tops (qs.map (·.2))->NoD E R W tops told->told.length+n<=1000000->q9 tops len n (qs.map (·.2),told)=some t ->
  ∃a c f,bF (rnC cs) (rnB cs as) n (rnD cs.Jobs E R W tops len qs told x7 x8)=.nx (rnD cs.Jobs E R W tops len a t c f)
 |0,_,_,_,_,_,_,_,_,_,_,h=>by cases h
 |n+1,qs,told,t,x7,x8,hl,b,hj,no,hn,h=>by
  have K:=Ie hl b nd hj;have hc:rnC cs (rnD cs.Jobs E R W tops len qs told x7 x8)=.ok (!((qs.map (·.2)).all Jb.done)):=cond_of hl;unfold q9 at h;unfold bF;rw[hc];simp only[ax];cases z:(qs.map (·.2)).all Jb.done with
  |true =>rw[if_pos z]at h;cases h;simp only[Bool.not_true,Mw,if_false];exact⟨qs,x7,x8,rfl⟩
  |false =>
   rw[if_neg (by rw[z];exact Mi)]at h;simp only[Bool.not_false,if_true];obtain⟨a,c,f,e,f1,f2⟩:=GD (cs:=cs) K no i (λp b=>(hj.ok _ (Mj.mpr ⟨p,b,rfl⟩)).held) (by omega) x7 x8;rw[e];have g:a.length<=1000:=by have:=congrArg List.length f1;rw[M4,M4]at this;omega
   refine uR i nd n a _ t c f g (by rw[f1];exact b) (by rw[f2];exact tD hj) ⟨no.e,no.r,no.w,no.t,xN (s:=(qs.map (·.2),told)) no.o⟩ (by rw[u0];show told.length+1+n<=_;omega) ?_;rw[f2];exact h
end
noncomputable def bO(ps:List (Int×Option Int)):Int:=(ps.map (·.1)).sum
theorem d6(p:Int×Option Int)(r:List (Int×Option Int)):bO (p::r)=p.1+bO r:=by unfold bO;rw[M5,NM]
def Jb.work(j:Jb):Int:=bO j.parts
def Jb.cur(j:Jb):Int:=bO (j.parts.take j.part)+j.spent
def Jb.tot(j:Jb):Int:=j.job*j.work+j.cur
theorem kj:∀{ps:List (Int×Option Int)}{k:Nat}(h:k<ps.length),bO (ps.take (k+1))=bO (ps.take k)+ps[k].1
 |[],k,h=>by cases h
 |p::r,0,_=>by rw[Nv,List.take_zero,d6];show p.1+bO []=bO []+p.1;omega
 |p::r,k+1,h=>by
  have a:k<r.length:=by simpa using h
  have b:=kj (ps:=r) (k:=k) a;rw[Nv,Nv,d6,d6,b];show p.1+(bO (r.take k)+r[k].1)=p.1+bO (r.take k)+r[k].1;omega
theorem uS(h:JOk tops j):j.next.tot=j.tot+1:=by
 have hpt:=h.pt;have hlen:j.len=j.parts[j.part].1:=by unfold Jb.len;rw[M1 h.pt];rfl
 have ht:=kj h.pt;unfold Jb.next Jb.step1;by_cases z:(j.spent:Int)+1=j.len
 ·rw[if_pos z];unfold Jb.step2;by_cases y:j.part+1=j.parts.length
  ·rw[if_pos (show ({ j with spent:=0,part:=j.part+1 }:Jb).part=({ j with spent:=0,part:=j.part+1 }:Jb).parts.length from y)];have hw:bO (j.parts.take (j.part+1))=bO j.parts:=by rw[y,Oe]
   show ((j.job+1:Nat):Int)*bO j.parts+(bO (j.parts.take 0)+((0:Nat):Int))=(j.job:Int)*bO j.parts+(bO (j.parts.take j.part)+(j.spent:Int))+1;have a:bO (j.parts.take 0)=0:=rfl;have e1:((j.job+1:Nat):Int)*bO j.parts=(j.job:Int)*bO j.parts+bO j.parts:=by rw[Int.natCast_add,Int.add_mul];simp
   rw[a,e1];omega
  ·rw[if_neg (show ¬ ({ j with spent:=0,part:=j.part+1 }:Jb).part=({ j with spent:=0,part:=j.part+1 }:Jb).parts.length from y)];show (j.job:Int)*bO j.parts+(bO (j.parts.take (j.part+1))+((0:Nat):Int))=(j.job:Int)*bO j.parts+(bO (j.parts.take j.part)+(j.spent:Int))+1;omega
 ·rw[if_neg z];unfold Jb.step2;rw[if_neg (show ¬ ({ j with spent:=j.spent+1 }:Jb).part=({ j with spent:=j.spent+1 }:Jb).parts.length from Mf h.pt)];show (j.job:Int)*bO j.parts+(bO (j.parts.take j.part)+((j.spent+1:Nat):Int))=(j.job:Int)*bO j.parts+(bO (j.parts.take j.part)+(j.spent:Int))+1;omega
theorem nH:∀(a b:List (Int×Option Int)),bO (a++b)=bO a+bO b
 |[],b=>by show bO b=0+bO b;omega
 |p::r,b=>by rw[MO,d6,d6,nH r b];omega
theorem iZ:∀{ps:List (Int×Option Int)},(∀p∈ps,1<=p.1)->0<=bO ps
 |[],_=>Og 0
 |p::r,h=>by
  have:=h p M7;have ih:=iZ (ps:=r) λq a=>h q (M6 _ a)
  rw[d6];omega
theorem um{ps:List (Int×Option Int)}(h:∀p∈ps,1<=p.1)(k:Nat):bO (ps.take k)<=bO ps:=by
 have e:=nH (ps.take k) (ps.drop k);rw[List.take_append_drop]at e;have:=iZ (ps:=ps.drop k) λq a=>h q (List.mem_of_mem_drop a)
 omega
theorem yV(h:JOk tops j):0<=j.cur/\j.cur<j.work:=by
 have hpt:=h.pt;have hlen:j.len=j.parts[j.part].1:=by unfold Jb.len;rw[M1 h.pt];rfl
 have ht:=kj h.pt;have h1:=um h.ln (j.part+1);have h2:=iZ (ps:=j.parts.take j.part) λq a=>h.ln q (O3 a)
 have h3:=h.sp;unfold Jb.cur Jb.work;omega
theorem Cb(h:JOk tops j){k:Nat}(hj:j.job<k):j.tot<(k:Int)*j.work:=by obtain⟨c0,c1⟩:=yV h;have:=NC (a:=(j.job:Int)+1) (b:=(k:Int)) (c:=j.work) (by omega) (by omega);rw[Int.add_mul,Int.one_mul]at this;unfold Jb.tot;omega
theorem jZ(j:Jb):j.next.row=j.row:=by unfold Jb.next Jb.step1 Jb.step2;split <;> split <;> rfl
theorem kJ(j:Jb):j.next.parts=j.parts:=by unfold Jb.next Jb.step1 Jb.step2;split <;> split <;> rfl
def Jb.left(j:Jb):Nat:=((j.row.length:Int)*j.work-j.tot).toNat
theorem rY(j:Jb):j.next.work=j.work:=by unfold Jb.work;rw[kJ]
theorem Bc(h:JOk tops j)(a:j.job<j.row.length):j.next.left+1=j.left:=by have h1:=uS h;have h2:=Cb h a;unfold Jb.left;rw[jZ,rY,h1];omega
theorem zF{b:Jb}:∀{r:List Jb},(∀k∈r,k.num≠b.num)->dg b r=r
 |[],_=>rfl
 |k::t,h=>by show (if k.num=b.num then b.next else k)::dg b t=_;rw[if_neg (h k M7),zF λx a=>h x (M6 _ a)]
theorem mw{b:Jb}{r:List Jb}(nd:((j::r).map (·.num)).Nodup)(a:b∈j::r):(j=b/\dg b (j::r)=b.next::r)\/(j.num≠b.num/\b∈r/\dg b (j::r)=j::dg b r):=by
 rw[M5,MG]at nd;have e:dg b (j::r)=(if j.num=b.num then b.next else j)::dg b r:=rfl;by_cases z:j.num=b.num
 ·left;have c:j=b:=by
   rcases M8.mp a with h|h
   ·exact h.symm
   ·exact (nd.1 (Mj.mpr ⟨b,h,z.symm⟩)).elim
  refine⟨c,?_⟩;rw[e,if_pos z,zF λk f q=>nd.1 (Mj.mpr ⟨k,f,q.trans z.symm⟩)]
 ·right;refine⟨z,?_,by rw[e,if_neg z]⟩;rcases M8.mp a with h|h
  ·exact (z (by rw[h])).elim
  ·exact h
theorem vg{f:Jb->Nat}{b:Jb}:∀{js:List Jb},(js.map (·.num)).Nodup->b∈js->f b.next+1=f b->((dg b js).map f).sum+1=(js.map f).sum
 |[],_,a,_=>by cases a
 |j::r,nd,a,hf=>by
  rcases mw nd a with⟨g,e⟩|⟨_,c,e⟩
  ·rw[e,M5,M5,NM,NM,g];omega
  ·rw[M5,MG]at nd;have:=vg nd.2 c hf;rw[e,M5,M5,NM,NM];omega
def yy(js:List Jb):Nat:=(js.map Jb.left).sum
theorem lO{b k:Jb}(hb:b∈js)(a:k∈dg b js):k∈js\/k=b.next:=by
 obtain⟨j,c,rfl⟩:=Mj.mp a;by_cases z:j.num=b.num
 ·right;exact if_pos z
 ·left;rw[if_neg z];exact c
theorem gu{len:Str}(z:aO told js=[]):cY tops len (js,told)=(js,told++[.none]):=by unfold cY;exact if_pos z
theorem ki{len:Str}(z:aO told js≠[]):∃b,b∈js/\b.there (told.length:Int)=true/\cY tops len (js,told)=(dg b js,told++[eB b]):=by obtain⟨hm,a⟩:=Mn.mp (iG (tops:=tops) (len:=len) z);refine⟨_,hm,a,?_⟩;unfold cY;exact if_neg z
theorem yY(h:JOk tops j)(hd:j.done=false):j.job<j.row.length:=by have:=h.jb;unfold Jb.done at hd;rw[beq_eq_false_iff_ne]at hd;omega
theorem qd{tops:PyData}{len:Str}{B:Nat}:∀(n:Nat)(js:List Jb)(told:List PyData),xG tops js->(∀j∈js,∀c∈j.row,c<(B:Int))->yy js+(B-told.length)<n->∃t,q9 tops len n (js,told)=some t
 |0,_,_,_,_,hn=>by omega
 |n+1,js,told,h,hr,hn=>by
  unfold q9;by_cases z:js.all Jb.done=true
  ·exact⟨told,if_pos z⟩
  ·rw[if_neg (show ¬ ((js,told).1.all Jb.done=true) from z)];by_cases y:aO told js=[]
   ·rw[gu y];refine qd n js _ h hr ?_;rw[Mu]at z;obtain⟨j,o⟩:=Classical.not_forall.mp z;obtain⟨hm,hd⟩:=Classical.not_imp.mp o;have a:=yY (h.ok j hm) (Bool.eq_false_iff.mpr hd);have hc:=hr j hm _ (MH a);have g:¬ j.there (told.length:Int)=true:=λe=>by have:j∈aO told js:=Mn.mpr ⟨hm,e⟩;rw[y]at this;cases this
    unfold Jb.there at g;rw[M1 a]at g;simp only[decide_eq_true_eq]at g;rw[Mr,MQ];omega
   ·obtain⟨b,l,g,e⟩:=ki (tops:=tops) (len:=len) y;have i:=tD (len:=len) (told:=told) h;rw[e]at i ⊢;have hs:=vg (f:=Jb.left) h.nd l (Bc (h.ok _ l) (qc g));refine qd (B:=B) n _ _ i (λk m=>?_) ?_
    ·rcases lO l m with m|rfl
     ·exact hr k m
     ·rw[jZ];exact hr b l
    ·rw[Mr,MQ];unfold yy at hn ⊢;omega
def kR(r:List Int)(t:Int):Nat:=(r.filter λc=>decide (c<=t)).length
theorem fA(a:Int)(s:List Int)(t:Int):kR (a::s) t=(if a<=t then 1 else 0)+kR s t:=by
 unfold kR;rw[Nf];by_cases z:a<=t
 ·rw[if_pos (decide_eq_true z),if_pos z,Mp];omega
 ·rw[if_neg (by simpa using z),if_neg z];omega
theorem C9(r:List Int)(t:Int):kR r t<=r.length:=List.length_filter_le _ _
theorem su{t u:Int}(h:t<=u):∀r:List Int,kR r t<=kR r u
 |[]=>Me _
 |a::s=>by
  have ih:=su h s;rw[fA,fA];by_cases z:a<=t
  ·rw[if_pos z,if_pos (by omega)];omega
  ·rw[if_neg z];omega
theorem sC{t:Int}:∀{r:List Int},(∀c∈r,t<c)->kR r t=0
 |[],_=>rfl
 |a::s,h=>by have:=h a M7;rw[fA,if_neg (by omega),sC λc hc=>h c (M6 _ hc)]
theorem ym{t:Int}:∀{r:List Int}{k:Nat}(b:k<r.length),r.Pairwise (· < ·)->t<r[k]->kR r t<=k
 |[],_,b,_,_=>by cases b
 |a::s,0,_,hp,h=>by rw[NT]at hp;have h:t<a:=h;have:=hp.1;rw[fA,if_neg (by omega),sC λc hc=>Int.lt_trans h (this c hc)];exact Me _
 |a::s,k+1,b,hp,h=>by
  rw[NT]at hp;have e:k<s.length:=by simpa using b
  have ih:=ym e hp.2 (show t<s[k] from h);rw[fA];split <;> omega
theorem yz{t:Int}:∀{r:List Int}{k:Nat}(c:k<r.length),r.Pairwise (· < ·)->r[k]<=t->k<kR r t
 |[],_,c,_,_=>by cases c
 |a::s,0,_,hp,h=>by have h:a<=t:=h;rw[fA,if_pos h];omega
 |a::s,k+1,c,hp,h=>by
  rw[NT]at hp;have b:k<s.length:=by simpa using c
  have h:s[k]<=t:=h;have ih:=yz b hp.2 h;have:=hp.1 _ (MH b);rw[fA,if_pos (by omega)];omega
def jt(t:Int)(j:Jb):Int:=(kR j.row t:Int)*j.work-j.tot
structure IvJ(tops:PyData)(t:Int)(js:List Jb):Prop where
 ok:xG tops js
 srt:∀j∈js,j.row.Pairwise (· < ·)
 low:∀j∈js,0<=jt t j
theorem xC(h:JOk tops j)(c:j.row.Pairwise (· < ·))(b:j.there t=true):0<jt t j:=by have a:=qc b;unfold Jb.there at b;rw[M1 a]at b;have:=Cb h (yz a c (of_decide_eq_true b));unfold jt;omega
theorem mz{u:Int}(e:t<=u)(h:JOk tops j):jt t j<=jt u j:=by have h1:=su e j.row;have h2:=yV h;have:=NC (a:=(kR j.row t:Int)) (b:=(kR j.row u:Int)) (c:=j.work) (by omega) (by omega);unfold jt;omega
theorem En{len:Str}(h:IvJ tops (told.length:Int) js):IvJ tops ((cY tops len (js,told)).2.length:Int) (cY tops len (js,told)).1:=by
 have c:=tD (len:=len) (told:=told) h.ok;by_cases z:aO told js=[]
 ·rw[gu z]at c ⊢;refine⟨c,h.srt,λj a=>?_⟩;have:=h.low j a;have:=mz (u:=(((told++[PyData.none]).length:Nat):Int)) (t:=(told.length:Int)) (by rw[Mr];omega) (h.ok.ok j a);show 0<=jt (((told++[PyData.none]).length:Nat):Int) j;omega
 ·obtain⟨b,f,g,e⟩:=ki (tops:=tops) (len:=len) z;rw[e]at c ⊢;refine⟨c,λj a=>?_,λj a=>?_⟩
  ·rcases lO f a with a|rfl
   ·exact h.srt j a
   ·rw[jZ];exact h.srt b f
  ·show 0<=jt (((told++[eB b]).length:Nat):Int) j;rcases lO f a with a|rfl
   ·have:=h.low j a;have:=mz (u:=(((told++[eB b]).length:Nat):Int)) (t:=(told.length:Int)) (by rw[Mr];omega) (h.ok.ok j a);omega
   ·have h2:=xC (h.ok.ok b f) (h.srt b f) g;have i:=mz (u:=(((told++[eB b]).length:Nat):Int)) (t:=(told.length:Int)) (by rw[Mr];omega) (h.ok.ok b f);have l:=uS (h.ok.ok b f);unfold jt at h2 i ⊢;rw[jZ,rY,l];omega
def dO(j:Jb):Int×List (Int×Option Int)×List Int:=(j.num,j.parts,j.row)
theorem mO{b:Jb}:∀{js:List Jb},(js.map (·.num)).Nodup->b∈js->(dg b js).map dO=js.map dO
 |[],_,a=>by cases a
 |j::r,nd,a=>by
  rcases mw nd a with⟨f,e⟩|⟨_,c,e⟩
  ·rw[e,M5,M5,f];unfold dO;rw[pG,kJ,jZ]
  ·rw[M5,MG]at nd;rw[e,M5,M5,mO nd.2 c]
theorem dB{d:PyData}(hi:i<δ.length)(a:g (mask O δ)=.ok d):aR O i g δ=.nx (δ.set i (some d)):=by unfold aR;rw[if_pos hi,a];rfl
def mkJ(es:List Er)(rs:List Int)(k:Nat)(row:List Int):Jb:=⟨(k:Int),(dD es (k:Int)).parts,(placeOf rs (k:Int):Int),row,0,0,0⟩
def startJ(es:List Er)(rs:List Int)(rows:List (List Int)):List Jb:=rows.mapIdx (mkJ es rs)
section
theorem mU(i:Nat):(startJ es rs rows)[i]?=(rows[i]?).map (mkJ es rs i):=Nq
theorem cU(h:j∈startJ es rs rows):∃(k:Nat)(row:List Int),k<rows.length/\row∈rows/\rows[k]?=some row/\j=mkJ es rs k row:=by obtain⟨k,b⟩:=List.mem_iff_getElem?.mp h;rw[mU]at b;obtain⟨row,a,e⟩:=N1.mp b;exact⟨k,row,(My.mp a).1,MS a,a,e.symm⟩
theorem fj:(startJ es rs rows).length=rows.length:=List.length_mapIdx
theorem xK:(startJ es rs rows).map (·.num)=(List.range rows.length).map λ(k:Nat)=>(k:Int) :=
 NI (by simp[startJ]) (λi h1 h2=>by simp[startJ,mkJ])
theorem xc:(startJ es rs rows).map (·.row)=rows :=
 NI (by simp[startJ]) (λi h1 h2=>by simp[startJ,mkJ])
theorem Fq(n:Nat):((List.range n).map λ(k:Nat)=>(k:Int)).Nodup:=List.Pairwise.map _ (λa b h e=>h (by omega)) List.nodup_range
theorem rM(k:Nat)(row:List Int):(mkJ es rs k row).tot=0:=by show ((0:Nat):Int)*_+(bO (List.take 0 _)+((0:Nat):Int))=0;rw[List.take_zero];have:bO []=0:=rfl;rw[this];simp
end
theorem tP:∀{ps:List (Int×Option Int)},(∀p∈ps,p.1<=20)->bO ps<=20*(ps.length:Int)
 |[],_=>Og 0
 |p::r,h=>by
  have:=h p M7;have ih:=tP (ps:=r) λq a=>h q (M6 _ a)
  rw[d6,Mp];omega
theorem yf{α:Type}(f:α->Nat){c:Nat}:∀{l:List α},(∀x∈l,f x<=c)->(l.map f).sum<=l.length*c
 |[],_=>MR _
 |a::r,h=>by
  have h1:=h a M7;have ih:=yf f (l:=r) λx b=>h x (M6 _ b)
  rw[M5,NM,Mp,Nat.add_mul];omega
theorem p6{n:Int}(t0:0<=t)(t3:t<=3)(h:dw es rs t=some n):dIx (bu es rs) (.int t)=some (.int n):=by
 obtain⟨m,rfl⟩:∃m:Nat,t=(m:Int):=⟨t.toNat,by omega⟩
 show atI ((List.range 4).map λ(t:Nat)=>bw (dw es rs t)) (m:Int)=_;refine og ?_;rw[Mc,Nu (by omega),MN,h];rfl
theorem qX(es:List Er)(rs:List Int):aG (bu es rs)=true:=c9 λd hd=>by obtain⟨t,_,rfl⟩:=Mj.mp hd;exact sM _
structure Ran(es:List Er)(rs:List Int)(rows:List (List Int))(len:Str):Prop where
 eok:xR es
 rok:fW es.length rs
 ln:rows.length=es.length
 le:fP len
def lG(es:List Er)(rs:List Int)(rows:List (List Int))(len:Str):Option (List PyData):=q9 (bu es rs) len 1000000 (startJ es rs rows,[])
section
variable {len:Str}{t:List PyData}
theorem kZ(h:xR es)(f:fW es.length rs)(hl:rows.length=es.length):xG (bu es rs) (startJ es rs rows):=by
 refine⟨λj g=>?_,by rw[xK];exact Fq _⟩;obtain⟨k,row,hk,_,_,rfl⟩:=cU g;have c:(0:Int)<=(k:Int):=by omega
 have h1:(k:Int)<es.length:=by omega
 have ok:=h.ok _ (gO c h1);have a:0<(dD es (k:Int)).parts.length:=MP.mpr ok.p1;refine⟨a,MR _,λp b=>(ok.pl p b).1,?_,λp b u e=>?_⟩
 ·have:=len_pos (tops:=.none) (j:=mkJ es rs k row) (λp b=>(ok.pl p b).1) a;show (0:Int)<_;exact O9 (by decide) this
 ·obtain⟨i,l⟩:=(ok.pl p b).2.2 u e;have m:(dD es (k:Int)).has u=true:=by unfold Er.has;rw[Nd];exact⟨p,b,by rw[e];exact beq_self_eq_true _⟩
  obtain⟨n,hn⟩:=vR es u rs 0 (k:Int) (f.mem c h1) m;exact⟨n,p6 i l hn⟩
theorem Di(R:Ran es rs rows len)(C:Cms es rows):∃t,lG es rs rows len=some t:=by
 have a:=C.sS;refine qd (B:=10000) 1000000 _ [] (kZ R.eok R.rok R.ln) (λj b c hc=>?_) ?_
 ·obtain⟨k,row,_,hm,_,rfl⟩:=cU b;have:=(a row hm).hi c hc;omega
 ·have f:yy (startJ es rs rows)<=(startJ es rs rows).length*4800:=yf Jb.left λj b=>by
   obtain⟨k,row,hk,hm,_,rfl⟩:=cU b;have ok:=R.eok.ok _ (gO (n:=(k:Int)) (by omega) (by have:=R.ln;omega));have h1:=tP λp e=>(ok.pl p e).2.1
   have h2:=ok.p2;have h3:=(a row hm).few;have g:=iZ λp e=>(ok.pl p e).1
   unfold Jb.left;rw[rM];have h5:((mkJ es rs k row).row.length:Int)*(mkJ es rs k row).work<=60*80:=Int.mul_le_mul (by show (row.length:Int)<=60;omega) (by show bO (dD es (k:Int)).parts<=80;omega) g (by decide);omega
  rw[fj]at f;have h6:=R.eok.l6;have h7:=R.ln;show yy (startJ es rs rows)+(10000-0)<1000000;have h8:rows.length*4800<=6*4800:=Nat.mul_le_mul_right _ (by omega);omega
end
def fsJ(j:Jb):List PyData:=[.int j.num,.tuple (j.parts.map aQ),.int j.rank,cC j.row]
theorem wW(h:∀j∈js,j.job=0/\j.part=0/\j.spent=0):kz C JN JT as (js.map fsJ)=(as.zip js).map (jD C):=by
 unfold kz;rw[List.zip_map_right,Ms];refine Mv λp c=>?_
 obtain⟨h1,h2,e⟩:=h p.2 (NO (a:=p.1) (b:=p.2) c).2;show cm C p.1 (JN.zip (fsJ p.2)++tlD JT)=cm C p.1 p.2.fds;unfold Jb.fds;rw[h1,h2,e];rfl
section
variable {len:Str}{t:List PyData}
theorem GH(R:Ran es rs rows len)(c:lG es rs rows len=some t)(hl:as.length=rows.length)(nd:as.Nodup) :
  iU cs bc (aW cs) (cG cs) (aL cs) fL as [some (aq es),some (ak rs),some (cmD rows),some (.str len),some (bu es rs),some (.list ((as.zip (startJ es rs rows)).map (jD cs.Jobs))),none,none,none]=.rt (.list t):=by
 have b:(as.zip (startJ es rs rows)).map (·.1)=as:=List.map_fst_zip (by rw[fj,hl];exact Me _);have a:(as.zip (startJ es rs rows)).map (·.2)=startJ es rs rows:=List.map_snd_zip (by rw[fj,hl];exact Me _);obtain⟨qs',y7,y8,e⟩:=uR (cs:=cs) (E:=aq es) (R:=ak rs) (W:=cmD rows) (tops:=bu es rs) (len:=len) (as:=as) R.le nd 1000000 (as.zip (startJ es rs rows)) [] t none none
  (by rw[List.length_zip,fj];have:=R.eok.l6;have:=R.ln;omega) b (by rw[a];exact kZ R.eok R.rok R.ln) ⟨sQ es,pH rs,kT rows,qX es rs,c9 λd hd=>by cases hd⟩ (by rw[MM];omega) (by rw[a];exact c)
 have f:dh [6] 6 ah [some (aq es),some (ak rs),some (cmD rows),some (.str len),some (bu es rs),some (.list ((as.zip (startJ es rs rows)).map (jD cs.Jobs))),none,none,none]=.nx (rnD cs.Jobs (aq es) (ak rs) (cmD rows) (bu es rs) len (as.zip (startJ es rs rows)) [] none none):=rfl;show az (dh [6] 6 ah) (az (λδ=>bF (rnC cs) (rnB cs as) 1000000 δ) (bx (ae 6))) _=_;rw[aT,f];show (match bF (rnC cs) (rnB cs as) 1000000 (rnD cs.Jobs (aq es) (ak rs) (cmD rows) (bu es rs) len (as.zip (startJ es rs rows)) [] none none) with
  |.nx δ'=>bx (ae 6) δ'
  |r=>r)=_
 rw[e];rfl
end
def Cu:PyData->List Int
 |.list xs=>(iF xs).getD []
 |_=>[]
def Ci:PyData->List (List Int)
 |.list l=>l.map Cu
 |_=>[]
theorem CD(rows:List (List Int)):Ci (cmD rows)=rows:=by
 show (rows.map cC).map Cu=rows;rw[Ms];have:∀r∈rows,(Cu∘cC) r=id r:=λr _=>by show (iF (r.map PyData.int)).getD []=r;rw[gy];rfl
 rw[Mv this,N8]
def lenOf:PyData->Str
 |.str s=>s
 |_=>""
def CN(d r c l:PyData):PyData:=match lG (jB d) (fq r) (Ci c) (lenOf l) with
 |some t=>.list t
 |none=>.none
theorem tE{len:Str}{t:List PyData}(a:lG es rs rows len=some t):CN (aq es) (ak rs) (cmD rows) (.str len)=.list t:=by unfold CN;rw[uj,lA,CD,show lenOf (.str len)=len from rfl,a]
def atD(δ:Ds)(i:Nat):PyData:=((δ[i]?).getD none).getD .none
open Classical in
def kQ:Ds->Sr:=λδ=>if ∃es rs rows len t,Ran es rs rows len/\lG es rs rows len=some t/\δ=[some (aq es),some (ak rs),some (cmD rows),some (.str len),some (bu es rs),none,none,none,none] then .rt (CN (atD δ 0) (atD δ 1) (atD δ 2) (atD δ 3)) else .no
theorem G4{len:Str}{t:List PyData}(R:Ran es rs rows len)(a:lG es rs rows len=some t):kQ [some (aq es),some (ak rs),some (cmD rows),some (.str len),some (bu es rs),none,none,none,none]=.rt (.list t):=by unfold kQ;rw[if_pos ⟨es,rs,rows,len,t,R,a,rfl⟩];exact congrArg Sr.rt (tE a)
theorem GO(cs:Cs):∀δ,kQ δ≠.no->∃d ds a,kQ δ=.rt d/\5<δ.length/\δ.length=9/\(kB (af (ae 2) ah)) (mask [6] δ)=.ok ds/\ds.length<=1000000/\a.length=ds.length/\(∀(i:Nat) d,ds[i]?=some d->∃f fs,jY d=some f/\a[i]?=some fs/\(af (ae 9) (af (g2 dIx (g2 dIx (ae 0) (ae 9)) (gC (.int 3))) (af (j4 (ae 1) (ae 9)) (af (ae 10) ah)))) (mask [6] δ++f)=.ok fs/\fs.length=JN.length) /\
   ∀as:List Addr,as.length=ds.length->as.Nodup->iU cs bc (aW cs) (cG cs) (aL cs) fL as (δ.set 5 (some (.list (kz cs.Jobs JN JT as a))))=.rt d:=by
 intro δ b;by_cases hx:∃es rs rows len t,Ran es rs rows len/\lG es rs rows len=some t/\δ=[some (aq es),some (ak rs),some (cmD rows),some (.str len),some (bu es rs),none,none,none,none]
 ·obtain⟨es,rs,rows,len,t,R,g,rfl⟩:=hx;have hln:=R.ln;refine⟨.list t,ja (rows.map cC),(startJ es rs rows).map fsJ,G4 R g,(by decide:5<9),rfl,rfl,?_,?_,?_,?_⟩
  ·rw[ko,M4];have:=R.eok.l6;omega
  ·rw[ko,M4,M4,fj]
  ·intro i d hd;unfold ja at hd;rw[Nq,Mc]at hd;cases q:rows[i]? with
   |none=>rw[q]at hd;cases hd
   |some row =>
    rw[q]at hd;have e:some (PyData.tuple [.int (i:Int),cC row])=some d:=hd;cases e;have hi:=(My.mp q).1;have h:(0:Int)<=(i:Int):=by omega
    have h1:(i:Int)<es.length:=by omega
    refine⟨[some (.int (i:Int)),some (cC row)],fsJ (mkJ es rs i row),rfl,?_,?_,rfl⟩
    ·rw[Mc,mU,q];rfl
    ·have a1:dIx (aq es) (.int (i:Int))=some (dD es (i:Int)).d:=km h h1;have a2:=Ac (dD es (i:Int));have l:=nP (R.rok.mem h h1);show (af (ae 9) (af (g2 dIx (g2 dIx (ae 0) (ae 9)) (gC (.int 3))) (af (j4 (ae 1) (ae 9)) (af (ae 10) ah)))) [some (aq es),some (ak rs),some (cmD rows),some (.str len),some (bu es rs),none,none,none,none,some (.int (i:Int)),some (cC row)]=_;simp only[aA,aF,bV,ar,ay,cQ,C8,Rs.ag,a1,a2,Rs.ai,ak,l];rfl
  ·intro as c nd;rw[ko,M4]at c;rw[wW λj m=>by obtain⟨k,row,_,_,_,rfl⟩:=cU m;exact⟨rfl,rfl,rfl⟩];exact GH R g c nd
 ·unfold kQ at b;rw[if_neg hx]at b;exact absurd rfl b
open Classical in
def dR(cs:Cs):Gf:=λds=>if ∃es rs rows len t,Ran es rs rows len/\lG es rs rows len=some t/\ds=[aq es,ak rs,cmD rows,.str len] then .ok (CN (ds.getD 0 .none) (ds.getD 1 .none) (ds.getD 2 .none) (ds.getD 3 .none)) else .no
theorem lV{len:Str}{t:List PyData}(R:Ran es rs rows len)(a:lG es rs rows len=some t):dR cs [aq es,ak rs,cmD rows,.str len]=.ok (.list t):=by unfold dR;rw[if_pos ⟨es,rs,rows,len,t,R,a,rfl⟩];exact congrArg Rs.ok (tE a)
theorem BO(cs:Cs):∀ds,ds.length=4->dR cs ds≠.no->bE (az (aR [6] 4 (au bc (af (ae 0) (af (ae 1) ah)))) kQ (ds.map some++List.replicate 5 none))=dR cs ds:=by
 intro ds hl a;by_cases hx:∃es rs rows len t,Ran es rs rows len/\lG es rs rows len=some t/\ds=[aq es,ak rs,cmD rows,.str len]
 ·obtain⟨es,rs,rows,len,t,R,b,rfl⟩:=hx;rw[lV R b];have c:=iu (es:=es) (rs:=rs) (by have:=R.eok.l6;omega) (λe f=>(R.eok.ok e f).sh) R.rok;have g:aR [6] 4 (au bc (af (ae 0) (af (ae 1) ah))) [some (aq es),some (ak rs),some (cmD rows),some (.str len),none,none,none,none,none]=.nx [some (aq es),some (ak rs),some (cmD rows),some (.str len),some (bu es rs),none,none,none,none]:=by have h:au bc (af (ae 0) (af (ae 1) ah)) (mask [6] [some (aq es),some (ak rs),some (cmD rows),some (.str len),none,none,none,none,none])=.ok (bu es rs):=c;exact dB (by decide:4<9) h
  show bE (az (aR [6] 4 (au bc (af (ae 0) (af (ae 1) ah)))) kQ [some (aq es),some (ak rs),some (cmD rows),some (.str len),none,none,none,none,none])=_;rw[aT,g];simp only;rw[G4 R b];rfl
 ·exfalso;apply a;unfold dR;rw[if_neg hx]
open Classical in
def iq(cs:Cs):Gf:=λds=>if ∃es rs rows len t,Ran es rs rows len/\Cms es rows/\lG es rs rows len=some t/\ds=[aq es,ak rs,cmD rows,.str len] then .ok (CN (ds.getD 0 .none) (ds.getD 1 .none) (ds.getD 2 .none) (ds.getD 3 .none)) else .no
theorem rm{len:Str}{t:List PyData}(R:Ran es rs rows len)(C:Cms es rows)(a:lG es rs rows len=some t):iq cs [aq es,ak rs,cmD rows,.str len]=.ok (.list t):=by unfold iq;rw[if_pos ⟨es,rs,rows,len,t,R,C,a,rfl⟩];exact congrArg Rs.ok (tE a)
theorem K1(cs:Cs):LLq (yS cs (bp cs) (dR cs) (bD cs) (bP cs)) 4 0 (iq cs):=by
 intro ds hl a;by_cases hx:∃es rs rows len t,Ran es rs rows len/\Cms es rows/\lG es rs rows len=some t/\ds=[aq es,ak rs,cmD rows,.str len]
 ·obtain⟨es,rs,rows,len,t,R,C,b,rfl⟩:=hx;rw[rm R C b];have k1:=kD cs R.eok.l1 R.eok.l6 R.eok.ok;have k2:=kq cs R.eok.l6 R.rok;have k3:=fi (cs:=cs) R.eok C;have c:=lV (cs:=cs) R b;show bE (yS cs (bp cs) (dR cs) (bD cs) (bP cs) [some (aq es),some (ak rs),some (cmD rows),some (.str len)])=_;unfold yS;simp only[aT,yP,bS,aA,aF,ar,ay,Rs.ag,k1,k2,k3,c,ax,bW,bt]
 ·exfalso;apply a;unfold iq;rw[if_neg hx]
end RS
variable {j:RS.Jb}{js ks ts:List RS.Jb}
namespace L2
open PySem PySem.Spec PyProof.Rows
end L2
namespace RS
open PySem L2
variable {a:Int}
theorem pZ:∀a b:List Int,PyData.eqvAll (a.map PyData.int) (b.map PyData.int)=decide (a=b)
 |[],[]=>by simp[PyData.eqvAll]
 |[],_::_=>by simp[PyData.eqvAll]
 |_::_,[]=>by simp[PyData.eqvAll]
 |x::a,y::b=>by
  have h:(x==y)=decide (x=y):=by by_cases z:x=y <;> simp[z]
  simp[PyData.eqvAll,PyData.eqv,pZ a b,h]
theorem FU(a b:List Int):dEq (.list (a.map PyData.int)) (.list (b.map PyData.int))=some (.bool (decide (a=b))):=by unfold dEq;rw[c9 (gH a),c9 (gH b),shaped_ints,shaped_ints];simp[PyData.eqv,pZ]
theorem yI(a b:List Int):dNe (.list (a.map PyData.int)) (.list (b.map PyData.int))=some (.bool (!decide (a=b))):=by unfold dNe;rw[c9 (gH a),c9 (gH b),shaped_ints,shaped_ints];simp[PyData.eqv,pZ]
theorem Dj(a:List Int):dEq (.list (a.map PyData.int)) (.list [])=some (.bool (decide (a=[]))):=FU a []
def hvS(every late m:Int)(row:List Int):Int:=row.foldl (λm c=>(if c-late>m then c-late else m)+every) m
theorem yO(every late:Int):∀(row:List Int)(m c:Int),hvM every late m row=true->¬ c<(if c-late>hvS every late m row then c-late else hvS every late m row)->hvM every late m (row++[c])=true
 |[],m,c,_,h=>by show (if c<(if c-late>m then c-late else m) then false else true)=true;exact if_neg h
 |a::r,m,c,h1,h=>by
  rw[MO];unfold hvM at h1 ⊢;by_cases z:a<(if a-late>m then a-late else m)
  ·rw[if_pos z]at h1;cases h1
  ·rw[if_neg z]at h1 ⊢;exact yO every late r _ c h1 h
structure CrI(every late span:Int)(made:List Int)(moment:Int):Prop where
 lo:-late<=moment
 hv:hvM every late (0-late) made=true
 ea:hvS every late (0-late) made<=moment
 la:∀c,made.getLast?=some c->c+1<=moment+late
 c0:∀c∈made,0<=c
 c1:∀c∈made,c<span
theorem Fi{every late moment c:Int}{made:List Int}(h:CrI every late span made moment)(hs:moment+late<span)(e:0<=c)(h1:moment<=c)(h2:c<=moment+late)(he:1<=every)(hl:0<=late)(hx:moment+every<=a):CrI every late span (made++[c]) a:=by
 have b:=h.ea;have hlo:=h.lo;refine⟨by omega,yO every late made _ c h.hv (by split <;> omega),?_,λd hd=>?_,λd hd=>?_,λd hd=>?_⟩
 ·unfold hvS at b ⊢;rw[List.foldl_append];show (if c-late>List.foldl _ _ made then c-late else List.foldl _ _ made)+every<=a;split <;> omega
 ·rw[List.getLast?_concat]at hd;cases hd;omega
 ·rcases Mx.mp hd with hd|hd
  ·exact h.c0 d hd
  ·rw[Mh.mp hd];exact e
 ·rcases Mx.mp hd with hd|hd
  ·exact h.c1 d hd
  ·rw[Mh.mp hd];omega
theorem BU{every late:Int}{moment:Int}(h:-late<=moment):CrI every late span [] moment:=⟨h,rfl,by show 0-late<=moment;omega,λc hc=>(by cases hc),λc hc=>(by cases hc),λc hc=>(by cases hc)⟩
theorem r8{every late:Int}(hl:late<every)(f:0<=late):∀(row:List Int)(m:Int),hvM every late m row=true->(∀c∈row,m<=c)/\row.Pairwise (· < ·)
 |[],_,_=>⟨λc hc=>(by cases hc),List.Pairwise.nil⟩
 |a::r,m,h=>by
  unfold hvM at h;by_cases z:a<(if a-late>m then a-late else m)
  ·rw[if_pos z]at h;cases h
  ·rw[if_neg z]at h;obtain⟨h1,h2⟩:=r8 hl f r _ h;have hm:m<=a:=by split at z <;> omega
   have b:∀c∈r,a<c:=λc hc=>by have:=h1 c hc;split at this <;> omega
   refine⟨λc hc=>?_,NT.mpr ⟨b,h2⟩⟩;rcases M8.mp hc with e|hc
   ·rw[e];exact hm
   ·have:=b c hc;omega
theorem yW{d:PyData}(hi:i<δ.length)(a:g δ=.ok d)(hn:dG d=true):ky i g δ=.nx (δ.set i (some d)):=by unfold ky;rw[if_pos hi,a,ax,if_pos hn]
theorem J0(k:Int):fc (.int 104729) (.int k)=some (.int (104729*k)):=tN (by decide) (by decide)
theorem Li(k:Int):fc (.int 7919) (.int k)=some (.int (7919*k)):=tN (by decide) (by decide)
theorem Lk(a:Int):fc (.int a) (.int 48271)=some (.int (a*48271)):=Dx (by decide) (by decide)
theorem Kr(a:Int):eC (.int a) (.int 2147483647)=some (.int (a % 2147483647)):=by rw[sq,if_pos (by decide)]
theorem Lg{k:Int}(h0:0<=k)(h1:k<=60):fc (.int a) (.int k)=some (.int (a*k)):=Dx (by omega) (by omega)
theorem DE{seed k:Int}(a:ae 4 δ=.ok (.int seed))(b:ae 7 δ=.ok (.int k))(c:0<=k)(h1:k<=60) :
  ∃e:Int,g2 eC (g2 fc (g2 bg (g2 bg (ae 4) (g2 fc (g2 fc (gC (.int 104729)) (ae 7)) (ae 7))) (g2 fc (gC (.int 7919)) (ae 7))) (gC (.int 48271))) (gC (.int 2147483647)) δ=.ok (.int e):=by
 generalize hA:(seed+104729*k*k+7919*k)*48271 % 2147483647=A;refine⟨A,?_⟩;rw[bV,bV,bV,bV,bV,bV,bV];rw[a,b];simp only[cQ,Rs.ag,J0,Lg c h1,Li,Lk,Kr,eh,Rs.ai,hA]
def crC:Ds->Rs Bool:=(qS (gT (g2 dLt (g2 bg (ae 5) (g2 dIx (ae 2) (gC (.int 2)))) (ae 3))) (gT (g2 dLt (gF bA (af (ae 6) ah)) (gC (.int 60)))))
def crB:Ds->Sr:=(az (aR [6] 8 (g2 eC (g2 fc (g2 bg (g2 bg (ae 4) (g2 fc (g2 fc (gC (.int 104729)) (ae 7)) (ae 7))) (g2 fc (gC (.int 7919)) (ae 7))) (gC (.int 48271))) (gC (.int 2147483647))))
 (az (aR [6] 9 (gF iy (af (gC (.int 0)) (af (g2 bg (ae 5) (g2 eC (g2 iS (ae 8) (gC (.int 7))) (g2 bg (g2 dIx (ae 2) (gC (.int 2))) (gC (.int 1))))) ah))))
 (az (sIf (gT (g2 dNe (ae 6) (jj ah))) (ky 9 (gF iy (af (ae 9) (af (g2 bg (g2 dIx (ae 6) (g1 kr (gC (.int 1)))) (gC (.int 1))) ah)))) aX)
 (az (fR [6] 6 (ae 9))
 (az (aR [6] 5 (g2 bg (ae 5) (g2 dIx (ae 2) (gC (.int 0)))))
 (az (sIf (gT (g2 dEq (g2 eC (g2 iS (ae 8) (gC (.int 61))) (gC (.int 3))) (gC (.int 0)))) (aR [6] 5 (g2 bg (ae 5) (g2 eC (g2 iS (ae 8) (gC (.int 997))) (g2 dIx (ae 2) (gC (.int 0)))))) aX)
 (aR [6] 7 (g2 bg (ae 7) (gC (.int 1))))))))))
section
variable {e:Er}{S A:PyData}{seed moment:Int}{made:List Int}
def crD(e:Er)(S A:PyData)(span seed moment:Int)(made:List Int)(k:Int)(x8 x9:Option PyData):Ds:=[some S,some A,some e.d,some (.int span),some (.int seed),some (.int moment),some (.list (made.map PyData.int)),some (.int k),x8,x9]
theorem Kp(e:Er):dIx e.d (.int 0)=some (.int e.every):=rfl
theorem Jt(e:Er):dIx e.d (.int 2)=some (.int e.late):=rfl
theorem yl{k:Int}:crC (crD e S A span seed moment made k x8 x9)=.ok (decide (moment+e.late<span)&&decide (made.length<60)):=by
 have hl:decide (((made.map PyData.int).length:Int)<60)=decide (made.length<60):=by rw[M4];exact decide_eq_decide.mpr (by omega)
 unfold crC crD;simp only[uC,dJ,bV,eV,aA,aF,ar,ay,cQ,Rs.ag,Jt,eh,Bd,jT,Rs.ai,aV,hl];cases decide (moment+e.late<span) <;> simp
theorem Fd(ok:e.Ok)(h:CrI e.every e.late span made moment)(y:moment+e.late<span)(hm:made.length<60)(x8 x9:Option PyData) :
  ∃c b B C,crB (crD e S A span seed moment made (made.length:Int) x8 x9)=.nx (crD e S A span seed b (made++[c]) ((made++[c]).length:Int) B C)/\CrI e.every e.late span (made++[c]) b:=by
 have e1:=ok.e1;have e2:=ok.e2;have l1:=ok.l1;have l2:=ok.l2;have hlo:=h.lo;obtain⟨a,m⟩:=DE (δ:=mask [6] (crD e S A span seed moment made (made.length:Int) x8 x9)) (seed:=seed) (k:=(made.length:Int)) rfl rfl (by omega) (by omega);have D:aR [6] 8 (g2 eC (g2 fc (g2 bg (g2 bg (ae 4) (g2 fc (g2 fc (gC (.int 104729)) (ae 7)) (ae 7))) (g2 fc (gC (.int 7919)) (ae 7))) (gC (.int 48271))) (gC (.int 2147483647))) (crD e S A span seed moment made (made.length:Int) x8 x9)=.nx (crD e S A span seed moment made (made.length:Int) (some (.int a)) x9):=dB (by decide:8<10) m
 -- the first reckoning of the coming
 have E:0<=a / 7 % (e.late+1)/\a / 7 % (e.late+1)<e.late+1:=⟨Ni _ (by omega),Nm _ (by omega)⟩
 have F:iS (.int a) (.int 7)=some (.int (a / 7)):=by rw[zA,if_pos (by decide)]
 have x:eC (.int (a / 7)) (.int (e.late+1))=some (.int (a / 7 % (e.late+1))):=by rw[sq,if_pos (by omega)]
 generalize a / 7 % (e.late+1)=q at E x;have n:∃c:Int,aR [6] 9 (gF iy (af (gC (.int 0)) (af (g2 bg (ae 5) (g2 eC (g2 iS (ae 8) (gC (.int 7))) (g2 bg (g2 dIx (ae 2) (gC (.int 2))) (gC (.int 1))))) ah))) (crD e S A span seed moment made (made.length:Int) (some (.int a)) x9)=.nx (crD e S A span seed moment made (made.length:Int) (some (.int a)) (some (.int c)))/\0<=c/\moment<=c/\c<=moment+e.late:=by refine⟨if moment+q>0 then moment+q else 0,?_,by split <;> omega,by split <;> omega,by split <;> omega⟩;refine dB (by decide:9<10) ?_;show gF iy _ [some S,some A,some e.d,some (.int span),some (.int seed),some (.int moment),none,some (.int (made.length:Int)),some (.int a),x9]=_;simp only[eV,aA,aF,bV,ar,ay,cQ,Rs.ag,Jt,F,eh,x,Rs.ai,DO]
 obtain⟨c,n,c0,c1,G⟩:=n
 -- behind the one ahead
 have f:∃c':Int,sIf (gT (g2 dNe (ae 6) (jj ah))) (ky 9 (gF iy (af (ae 9) (af (g2 bg (g2 dIx (ae 6) (g1 kr (gC (.int 1)))) (gC (.int 1))) ah)))) aX (crD e S A span seed moment made (made.length:Int) (some (.int a)) (some (.int c)))=.nx (crD e S A span seed moment made (made.length:Int) (some (.int a)) (some (.int c')))/\0<=c'/\moment<=c'/\c'<=moment+e.late:=by
  have o:dNe (.list (made.map PyData.int)) (.list [])=some (.bool (!decide (made=[]))):=yI made [];unfold crD;rw[cp];simp only[dJ,bV,ar,ay,wK,aF,Rs.ag,o,Rs.ai,aV,ax];cases hk:made.getLast? with
  |none =>have p:made=[]:=List.getLast?_eq_none_iff.mp hk;rw[p];exact⟨c,rfl,c0,c1,G⟩
  |some l =>
   have p:made≠[]:=λz=>by rw[z]at hk;cases hk
   have hla:=h.la l hk;have r:dIx (.list (made.map PyData.int)) (.int (-1))=some (.int l):=by rw[BK,mY,List.getLast?_map,hk];rfl
   rw[decide_eq_false p];simp only[Bool.not_false,if_true];refine⟨if l+1>c then l+1 else c,?_,by split <;> omega,by split <;> omega,by split <;> omega⟩;refine yW (by decide:9<10) ?_ rfl;simp only[eV,aA,aF,bV,ic,ar,ay,cQ,B5,Rs.ag,r,eh,Rs.ai,DO]
 obtain⟨c',f,s,t,u⟩:=f;have H:fR [6] 6 (ae 9) (crD e S A span seed moment made (made.length:Int) (some (.int a)) (some (.int c')))=.nx (crD e S A span seed moment (made++[c']) (made.length:Int) (some (.int a)) (some (.int c'))):=by show (if (made.map PyData.int).length<1000000 then Sr.nx _ else Sr.no)=_;rw[if_pos (by rw[M4];omega)];unfold crD;rw[N4];rfl
 have I:aR [6] 5 (g2 bg (ae 5) (g2 dIx (ae 2) (gC (.int 0)))) (crD e S A span seed moment (made++[c']) (made.length:Int) (some (.int a)) (some (.int c')))=.nx (crD e S A span seed (moment+e.every) (made++[c']) (made.length:Int) (some (.int a)) (some (.int c'))):=dB (by decide:5<10) rfl;have g:∃i,sIf (gT (g2 dEq (g2 eC (g2 iS (ae 8) (gC (.int 61))) (gC (.int 3))) (gC (.int 0)))) (aR [6] 5 (g2 bg (ae 5) (g2 eC (g2 iS (ae 8) (gC (.int 997))) (g2 dIx (ae 2) (gC (.int 0)))))) aX (crD e S A span seed (moment+e.every) (made++[c']) (made.length:Int) (some (.int a)) (some (.int c')))=.nx (crD e S A span seed i (made++[c']) (made.length:Int) (some (.int a)) (some (.int c')))/\moment+e.every<=i:=by
  have v:iS (.int a) (.int 61)=some (.int (a / 61)):=by rw[zA,if_pos (by decide)]
  have J:eC (.int (a / 61)) (.int 3)=some (.int (a / 61 % 3)):=by rw[sq,if_pos (by decide)]
  have j:iS (.int a) (.int 997)=some (.int (a / 997)):=by rw[zA,if_pos (by decide)]
  have K:eC (.int (a / 997)) (.int e.every)=some (.int (a / 997 % e.every)):=by rw[sq,if_pos (by omega)]
  have hx:0<=a / 997 % e.every:=Ni _ (by omega);have hc:gT (g2 dEq (g2 eC (g2 iS (ae 8) (gC (.int 61))) (gC (.int 3))) (gC (.int 0))) (crD e S A span seed (moment+e.every) (made++[c']) (made.length:Int) (some (.int a)) (some (.int c')))=.ok (a / 61 % 3==0):=by unfold crD;simp only[dJ,bV,ar,ay,cQ,Rs.ag,v,J,Rs.ai,je,aV]
  rw[cp,hc,ax];cases (a / 61 % 3==0) with
  |false=>exact⟨_,rfl,Og _⟩
  |true =>rw[if_pos rfl];refine⟨moment+e.every+a / 997 % e.every,dB (by decide:5<10) ?_,by omega⟩;show g2 bg _ _ [some S,some A,some e.d,some (.int span),some (.int seed),some (.int (moment+e.every)),none,some (.int (made.length:Int)),some (.int a),some (.int c')]=_;simp only[bV,ar,ay,cQ,Rs.ag,Kp,j,K,eh,Rs.ai]
 obtain⟨i,g,w⟩:=g;have L:aR [6] 7 (g2 bg (ae 7) (gC (.int 1))) (crD e S A span seed i (made++[c']) (made.length:Int) (some (.int a)) (some (.int c')))=.nx (crD e S A span seed i (made++[c']) ((made++[c']).length:Int) (some (.int a)) (some (.int c'))):=by
  have hl:((made++[c']).length:Int)=(made.length:Int)+1:=by rw[Mr,MQ];omega
  rw[hl];exact dB (by decide:7<10) rfl
 refine⟨c',i,some (.int a),some (.int c'),?_,Fi h y s t u (by omega) l1 w⟩;unfold crB;rw[aT,D];simp only;rw[aT,n];simp only;rw[aT,f];simp only;rw[aT,H];simp only;rw[aT,I];simp only;rw[aT,g];simp only;rw[L]
end
theorem pe{c:Ds->Rs Bool}{b:Ds->Sr}{I:Nat->Ds->Prop}{J:Ds->Prop}(h:∀k δ,I k δ->(c δ=.ok false/\J δ)\/(c δ=.ok true/\∃f,f < k/\∃a,b δ=.nx a/\I f a)):∀(n k:Nat)(δ:Ds),I k δ->k<n->∃a,bF c b n δ=.nx a/\J a
 |0,_,_,_,hn=>by cases hn
 |n+1,k,δ,i,hn=>by
  unfold bF;rcases h k δ i with⟨e,j⟩|⟨e,f,g,a,e2,i'⟩
  ·rw[e,ax,if_neg Mi];exact⟨δ,rfl,j⟩
  ·rw[e,ax,if_pos rfl,e2];exact pe h n f a i' (Mq g (Nat.le_of_lt_succ hn))
section
variable {e:Er}{S A:PyData}{seed moment:Int}{made:List Int}
theorem Gz(ok:e.Ok)(h:CrI e.every e.late span made moment)(hl:made.length<=60)(hn:60<n)(x8 x9:Option PyData) :
  ∃a f g i,bF crC crB n (crD e S A span seed moment made (made.length:Int) x8 x9)=.nx (crD e S A span seed f a (a.length:Int) g i)/\CrI e.every e.late span a f/\a.length<=60:=by
 obtain⟨δ',e1,a,f,g,i,rfl,h1,h2⟩:=pe (c:=crC) (b:=crB) (I:=λk δ=>∃made moment x8 x9,δ=crD e S A span seed moment made (made.length:Int) x8 x9/\CrI e.every e.late span made moment/\made.length<=60/\k=60-made.length)
  (J:=λδ=>∃a f g i,δ=crD e S A span seed f a (a.length:Int) g i/\CrI e.every e.late span a f/\a.length<=60) (λk δ j=>by
   obtain⟨made,moment,x8,x9,hd,h,hl,hk⟩:=j;subst hd;by_cases z:moment+e.late<span/\made.length<60
   ·right;refine⟨by rw[yl,decide_eq_true z.1,decide_eq_true z.2];rfl,?_⟩;obtain⟨c,l,g,i,m,h'⟩:=Fd (S:=S) (A:=A) (seed:=seed) ok h z.1 z.2 x8 x9;have hl2:(made++[c]).length=made.length+1:=by rw[Mr,MQ]
    exact⟨60-(made++[c]).length,by omega,_,m,made++[c],l,g,i,rfl,h',by omega,rfl⟩
   ·left;refine⟨?_,made,moment,x8,x9,rfl,h,hl⟩;rw[yl];refine congrArg Rs.ok (Bool.eq_false_iff.mpr ?_);rw[Ne,Mm,decide_eq_true_eq,decide_eq_true_eq];exact z) n (60-made.length) _ ⟨made,moment,x8,x9,rfl,h,hl,rfl⟩ (by omega)
 exact⟨a,f,g,i,e1,h1,h2⟩
end
def bj(cs:Cs):Gf:=gfG 4 6 (cW cs aj)
theorem mS(cs:Cs):LLq (cW cs aj) 4 6 (bj cs):=hW
theorem qJ{e:Er}(ok:e.Ok)(ha:0<=a)(hs:span<=10000):∃row,bj cs [ao ns,.int a,e.d,.int span]=.ok (cC row)/\pA row/\hvE e row=true:=by
 have e1:=ok.e1;have e2:=ok.e2;have b:D7 (.int 10) (.int 9)=some (.int 1000000000):=rfl;have f:=cj (ns:=ns) (k:=a) (many:=1000000000) ha (by decide);have g:eC (.int (mixed ns a 1000000000)) (.int (e.every+2))=some (.int (mixed ns a 1000000000 % (e.every+2))):=by rw[sq,if_pos (by omega)]
 have hm0:0<=mixed ns a 1000000000 % (e.every+2):=Ni _ (by omega);generalize mixed ns a 1000000000=seed at *;generalize seed % (e.every+2)=m0 at *;obtain⟨row,m',y8,y9,i,hc,hl⟩:=Gz (e:=e) (S:=ao ns) (A:=.int a) (span:=span) (seed:=seed) (made:=[]) (moment:=m0-e.late) ok (BU (by omega)) (by decide) (n:=1000000) (by decide) none none;refine⟨row,?_,⟨hl,hc.c0,λc h=>by have:=hc.c1 c h;omega⟩,hc.hv⟩;have j:aR [6] 4 (au aj (af (ae 0) (af (ae 1) (af (g2 D7 (gC (.int 10)) (gC (.int 9))) ah)))) [some (ao ns),some (.int a),some e.d,some (.int span),none,none,none,none,none,none]=.nx [some (ao ns),some (.int a),some e.d,some (.int span),some (.int seed),none,none,none,none,none]:=by refine dB (by decide:4<10) ?_;show au aj _ [some (ao ns),some (.int a),some e.d,some (.int span),none,none,none,none,none,none]=_;simp only[bS,aA,aF,bV,ar,ay,cQ,Rs.ag,b,Rs.ai,f]
 have l:aR [6] 5 (g2 gM (g2 eC (ae 4) (g2 bg (g2 dIx (ae 2) (gC (.int 0))) (gC (.int 2)))) (g2 dIx (ae 2) (gC (.int 2)))) [some (ao ns),some (.int a),some e.d,some (.int span),some (.int seed),none,none,none,none,none]=.nx [some (ao ns),some (.int a),some e.d,some (.int span),some (.int seed),some (.int (m0-e.late)),none,none,none,none]:=by refine dB (by decide:5<10) ?_;show g2 gM _ _ [some (ao ns),some (.int a),some e.d,some (.int span),some (.int seed),none,none,none,none,none]=_;simp only[bV,ar,ay,cQ,Rs.ag,Kp,Jt,eh,g,oN,Rs.ai]
 have m:dh [6] 6 ah [some (ao ns),some (.int a),some e.d,some (.int span),some (.int seed),some (.int (m0-e.late)),none,none,none,none]=.nx [some (ao ns),some (.int a),some e.d,some (.int span),some (.int seed),some (.int (m0-e.late)),some (.list []),none,none,none]:=rfl;have o:aR [6] 7 (gC (.int 0)) [some (ao ns),some (.int a),some e.d,some (.int span),some (.int seed),some (.int (m0-e.late)),some (.list []),none,none,none]=.nx (crD e (ao ns) (.int a) span seed (m0-e.late) [] (([]:List Int).length:Int) none none):=dB (by decide:7<10) rfl;show bE (cW cs aj [some (ao ns),some (.int a),some e.d,some (.int span),none,none,none,none,none,none])=_;have p:cW cs aj=az (aR [6] 4 (au aj (af (ae 0) (af (ae 1) (af (g2 D7 (gC (.int 10)) (gC (.int 9))) ah)))))
  (az (aR [6] 5 (g2 gM (g2 eC (ae 4) (g2 bg (g2 dIx (ae 2) (gC (.int 0))) (gC (.int 2)))) (g2 dIx (ae 2) (gC (.int 2)))))
  (az (dh [6] 6 ah) (az (aR [6] 7 (gC (.int 0))) (az (λδ=>bF crC crB 1000000 δ) (bx (ae 6)))))):=rfl
 rw[p];rw[aT,j];simp only;rw[aT,l];simp only;rw[aT,m];simp only;rw[aT,o];simp only;rw[aT,i];rfl
def cg(cs:Cs):Gf:=gfG 4 0 (eo cs (bj cs))
theorem qK(cs:Cs):LLq (eo cs (bj cs)) 4 0 (cg cs):=hW
theorem Bs:∀{es:List Er}{rows:List (List Int)},rows.length=es.length->(∀(i:Nat)(h:i<es.length)(h':i<rows.length),pA rows[i]/\hvE es[i] rows[i]=true)->Cms es rows
 |[],[],_,_=>.nil
 |[],_::_,h,_=>by cases h
 |_::_,[],h,_=>by cases h
 |e::es,r::rows,h,k=>by have k0:=k 0 (Nat.succ_pos _) (Nat.succ_pos _);refine .cons k0.1 k0.2 (Bs (by simpa using h) λi h1 h2=>?_);exact k (i+1) (Nat.succ_lt_succ h1) (Nat.succ_lt_succ h2)
theorem JM(l6:es.length<=6){a x1:Option PyData}{r:Ds}:eJ (af (gF bA (af (ae 2) ah)) ah) (a::x1::some (aq es)::r)=.ok (bN 0 es.length):=by
 have b:=kf (j:=(es.length:Int)) (by omega) (by omega);rw[ME]at b;have hv:(af (gF bA (af (ae 2) ah)) ah) (a::x1::some (aq es)::r)=.ok [.int (es.length:Int)]:=by simp only[aA,aF,eV,ar,ay,Rs.ag,Jh,Rs.ai]
 rw[j8,hv,Rs.ag,b]
theorem wG(h:xR es)(ha:0<=a)(g:span<=10000):∃rows,cg cs [ao ns,.int a,aq es,.int span]=.ok (cmD rows)/\Cms es rows:=by
 have j:∀i:Nat,∃row,i<es.length->bj cs [ao ns,.int (a+(i:Int)),(dD es (i:Int)).d,.int span]=.ok (cC row)/\pA row/\hvE (dD es (i:Int)) row=true:=λi=>by
  by_cases z:i<es.length
  ·obtain⟨row,h1⟩:=qJ (cs:=cs) (h.ok _ (gO (n:=(i:Int)) (by omega) (by omega))) (ns:=ns) (a:=a+(i:Int)) (span:=span) (by omega) g;exact⟨row,λ_=>h1⟩
  ·exact⟨[],λy=>(z y).elim⟩
 obtain⟨F,c⟩:=Classical.axiomOfChoice j;have l6:=h.l6;refine⟨(List.range es.length).map F,?_,Bs (by simp) λi h1 h2=>?_⟩
 ·have m:aS 4 (eJ (af (gF bA (af (ae 2) ah)) ah)) ba (au (bj cs) (af (ae 0) (af (g2 bg (ae 1) (ae 4)) (af (g2 dIx (ae 2) (ae 4)) (af (ae 3) ah))))) aE [some (ao ns),some (.int a),some (aq es),some (.int span)]=.ok ((bN 0 es.length).map λd=>cC (F (deI d).toNat)):=by
   refine cx rfl ?_ (by rw[cM];omega) λd hd=>?_
   ·exact JM l6
   ·obtain⟨k,f,rfl⟩:=Mj.mp hd;have b:=N2.mp f;have hn:(0:Int)+(k:Int)=(k:Int):=by omega
    have hd2:(deI (.int (k:Int))).toNat=k:=ME k;have a2:dIx (aq es) (.int (k:Int))=some (dD es (k:Int)).d:=km (by omega) (by omega);rw[hn,hd2];simp only[MO,MK,bS,aA,aF,bV,ar,ay,Rs.ag,eh,a2,Rs.ai,(c k b).1]
  show bE (eo cs (bj cs) [some (ao ns),some (.int a),some (aq es),some (.int span)])=_;unfold eo;simp only[bW,wy,m,Rs.ag,ax,bt];unfold cmD bN;rw[Ms,Ms];refine congrArg (λl=>Rs.ok (PyData.list l)) (Mv λk f=>?_);show cC (F (deI (.int (0+(k:Int)))).toNat)=cC (F k);rw[show (0:Int)+(k:Int)=(k:Int) by omega,show (deI (.int (k:Int))).toNat=k from ME k]
 ·have e:=qi (es:=es) (n:=(i:Int)) (by omega) (by omega);rw[ME,M1 h1]at e;have o:es[i]=dD es (i:Int):=Option.some.inj e;have:=(c i h1).2;rw[NJ,List.getElem_range,o];exact this
theorem jw{xs:List α}{k:Nat}{v:α}(h:xs[k]?=some v):atI xs (k:Int)=some v:=uf (Nz k) (by rw[ME];exact h)
def lR(js:List Jb):PyData:=cmD (js.map (·.row))
structure Sx(js:List Jb):Prop where
 num:∀(i:Nat)(h:i<js.length),js[i].num=(i:Int)
 row:∀j∈js,j.row.length<=1000
 wk:∀j∈js,j.work<=1000
section
variable {S E D:PyData}
theorem yq(h:i<js.length):dIx (lR js) (.int (i:Int))=some (cC js[i].row):=jw (by rw[Mc,Mc,M1 h];rfl)
theorem cy{f:PyData->PyData->Option PyData}{a b:Ds->Rs PyData}{x y z:PyData}(ha:a δ=.ok x)(c:b δ=.ok y)(e:f x y=some z):g2 f a b δ=.ok z:=by rw[bV,ha,Rs.ag,c,Rs.ag,e];rfl
end
def p9(k:Nat)(l:List PyData):List PyData:=l.mapIdx λi d=>.tuple [.int ((k+i:Nat):Int),d]
theorem kg{tgt:PyData->Ds->Option Ds}{body:Ds->Sr}{d:PyData}{r:List PyData}{δ1 a:Ds}(h1:tgt d δ=some δ1)(h2:body δ1=.nx a):forL tgt body (d::r) δ=forL tgt body r a:=by rw[forL,h1];simp only[h2]
theorem xf(k:Nat)(d:PyData)(r:List PyData):p9 k (d::r)=.tuple [.int (k:Int),d]::p9 (k+1) r:=by
 unfold p9;rw[List.mapIdx_cons];have a:(λ(i:Nat)(d:PyData)=>PyData.tuple [.int ((k+(i+1):Nat):Int),d])=λi d=>.tuple [.int ((k+1+i:Nat):Int),d]:=by funext i d;rw[show k+(i+1)=k+1+i by omega]
 rw[a];rfl
theorem Al(h:ks.map dO=js.map dO):lR ks=lR js:=by have:=congrArg (List.map λx=>x.2.2) h;rw[Ms,Ms]at this;exact congrArg cmD this
theorem qz(h:ks.map dO=js.map dO):ks.length=js.length:=by
 have:=congrArg List.length h
 rwa[M4,M4]at this
theorem FE(h:ks.map dO=js.map dO)(s:Sx js):Sx ks:=by
 have hl:=qz h;have hm:∀k∈ks,∃j∈js,dO j=dO k:=λk a=>by have:dO k∈ks.map dO:=Mj.mpr ⟨k,a,rfl⟩;rw[h]at this;exact Mj.mp this
 refine⟨λi hi=>?_,λk a=>?_,λk a=>?_⟩
 ·have e:(ks.map dO)[i]?=(js.map dO)[i]?:=by rw[h]
  rw[Mc,Mc,M1 hi,M1 (hl▸hi)]at e;have e2:dO ks[i]=dO (js[i]'(hl▸hi)):=Option.some.inj e;have:=congrArg (·.1) e2;exact this.trans (s.num i (hl▸hi))
 ·obtain⟨j,b,e⟩:=hm k a;have e2:j.row=k.row:=congrArg (·.2.2) e;rw[<-e2];exact s.row j b
 ·obtain⟨j,b,e⟩:=hm k a;have e2:j.parts=k.parts:=congrArg (·.2.1) e;have:=s.wk j b;unfold Jb.work at this ⊢;rw[<-e2];exact this
theorem tL{lt:Nat->Nat->Bool}(a:∀i,lt i i=false)(b:∀i j k,lt i j=true->lt j k=true->lt i k=true):∀(n i:Nat),i<=n->lt i (bst lt n)=false
 |0,i,h=>by
  have:i=0:=by omega
  rw[this];exact a 0
 |n+1,i,h=>by
  unfold bst;cases q:lt (n+1) (bst lt n) with
  |true =>
   rw[if_pos rfl];by_cases z:i=n+1
   ·rw[z];exact a _
   ·have c:=tL a b n i (by omega);cases y:lt i (n+1) with
    |false=>rfl
    |true=>rw[b _ _ _ y q]at c;cases c
  |false =>
   rw[if_neg Mi];by_cases z:i=n+1
   ·rw[z];exact q
   ·exact tL a b n i (by omega)
theorem Jl(d:PyData):ltD d d=false:=by
 have h:∀l:List Int,HT.lexLt l l=false:=λl=>by
  induction l with
  |nil=>rfl
  |cons a r ih=>show (if a=a then HT.lexLt r r else _)=false;rw[if_pos rfl,ih]
 unfold ltD;split
 ·rename_i e1 e2;rw[e1]at e2;cases e2;exact h _
 ·rfl
theorem BS:∀a b c:List Int,HT.lexLt a b=true->HT.lexLt b c=true->HT.lexLt a c=true
 |[],[],_,h,_=>by cases h
 |[],_::_,[],_,h=>by cases h
 |[],_::_,_::_,_,_=>rfl
 |_::_,[],_,h,_=>by cases h
 |_::_,_::_,[],_,h=>by cases h
 |x::a,y::b,z::c,h1,h2=>by
  have h1:(if x=y then HT.lexLt a b else decide (x<y))=true:=h1;have h2:(if y=z then HT.lexLt b c else decide (y<z))=true:=h2;show (if x=z then HT.lexLt a c else decide (x<z))=true;by_cases e1:x=y
  ·rw[if_pos e1]at h1;by_cases e2:y=z
   ·rw[if_pos e2]at h2;rw[if_pos (e1.trans e2)];exact BS a b c h1 h2
   ·rw[if_neg e2]at h2;rw[if_neg (λq=>e2 (e1.symm.trans q)),e1];exact h2
  ·rw[if_neg e1]at h1;have l1:=of_decide_eq_true h1;by_cases e2:y=z
   ·rw[if_neg (λq=>e1 (q.trans e2.symm)),<-e2];exact h1
   ·rw[if_neg e2]at h2;have l2:=of_decide_eq_true h2;rw[if_neg (by omega)];exact decide_eq_true (by omega)
theorem JA(a b c:PyData)(h1:ltD a b=true)(h2:ltD b c=true):ltD a c=true:=by
 unfold ltD at h1 h2 ⊢;cases ka:kU a with
 |none=>rw[ka]at h1;cases h1
 |some p =>
  cases kb:kU b with
  |none=>rw[ka,kb]at h1;cases h1
  |some q =>
   cases kc:kU c with
   |none=>rw[kb,kc]at h2;cases h2
   |some r =>rw[ka,kb]at h1;rw[kb,kc]at h2;exact BS _ _ _ h1 h2
theorem zN{key:Jb->PyData}(c:js≠[])(e:j∈js):ltD (key j) (key (eu key js))=false:=by
 have hl:0<js.length:=MP.mpr c;have hm:=tL (lt:=λi j=>ltD ((js.map key).getD i .none) ((js.map key).getD j .none)) (λi=>Jl _) (λi j k=>JA _ _ _) (js.length-1);have hb:=ib (λi j=>ltD ((js.map key).getD i .none) ((js.map key).getD j .none)) (js.length-1);obtain⟨i,hi,rfl⟩:=Nb e;have h1:=hm i (by omega);have b:eZ (js.map key)=bst (λi j=>ltD ((js.map key).getD i .none) ((js.map key).getD j .none)) (js.length-1):=by unfold eZ;rw[M4]
 have a:eZ (js.map key)<js.length:=by rw[b];omega
 have e1:(js.map key).getD i .none=key js[i]:=by rw[M9,Mc,M1 hi];rfl
 have e2:(js.map key).getD (eZ (js.map key)) .none=key (eu key js):=by unfold eu;rw[M9,Mc,M1 a,M9,M1 a];rfl
 rw[<-b]at h1;rw[e1,e2]at h1;exact h1
theorem F4(a b c d:Int):ltD (.tuple [.int a,.int b]) (.tuple [.int c,.int d])=if a=c then (if b=d then false else decide (b<d)) else decide (a<c):=rfl
theorem vt(h:js≠[]):js.filter (dj js)≠[]:=by
 have hn:=pw (ts:=js.map λj=>((0:Addr),j)) (by simpa using h);have hm:(js.map λj=>((0:Addr),j)).map (·.2)=js:=by rw[Ms];exact N8 js
 rw[hm]at hn;obtain⟨p,r,e⟩:=NL hn;have a:p∈(js.map λj=>((0:Addr),j)).filter (λp=>dj js p.2):=by rw[e];exact M7
 obtain⟨h1,h2⟩:=Mn.mp a;obtain⟨j,b,rfl⟩:=Mj.mp h1;exact O8 (Mn.mpr ⟨b,h2⟩)
theorem An(h:j.held=some T):fz tops j=.tuple [.int (if gW tops T<j.rank then gW tops T else j.rank),.int 0]:=by unfold fz;rw[h]
theorem AD(h:j.held=none):fz tops j=.tuple [.int j.rank,.int 1]:=by unfold fz;rw[h]
theorem zZ{len:Str}(g:ts≠[])(c:(cO tops len ts).spent=0)(e:(cO tops len ts).tool=some T)(a:gW tops T<=(cO tops len ts).rank):∀j∈ts,j.held≠some T:=by
 intro j h i;unfold cO at c e a;split at c
 ·rename_i z;rw[if_pos z]at e a;have hm:=zN (key:=fz tops) g h;have l:(eu (fz tops) ts).held=none:=by unfold Jb.held;rw[if_pos c]
  rw[An i,AD l,F4]at hm;generalize (eu (fz tops) ts).rank=r at *;generalize gW tops T=u at *;by_cases q:(if u<j.rank then u else j.rank)=r
  ·rw[if_pos q]at hm;revert hm;decide
  ·rw[if_neg q]at hm;have:=of_decide_eq_false hm;split at this <;> split at q <;> omega
 ·rename_i z;rw[if_neg z]at e;have f:=(Mn.mp (mX (key:=lU (if (len==("asked":Str))=true then kx ts else [])) (vt g))).2;generalize eu (lU (if (len==("asked":Str))=true then kx ts else [])) (ts.filter (dj ts))=b at *;have hw:b.wanted=some T:=by unfold Jb.wanted;rw[if_pos c,e]
  unfold dj fO at f;rw[hw]at f;have hn:ts.find? (λk=>k.held==some T)=none:=Option.isNone_iff_eq_none.mp f;have:=NS.mp hn j h;rw[i]at this;exact this (beq_self_eq_true _)
theorem uY(iv:IvJ tops t js)(e:j∈js)(hs:j.spent≠0):j.there t=true:=by
 cases ht:j.there t with
 |true=>rfl
 |false =>
  have h:=iv.ok.ok j e;have hl:=iv.low j e;have hc:kR j.row t<=j.job:=by
   by_cases z:j.job<j.row.length
   ·unfold Jb.there at ht;rw[M1 z]at ht;have:=of_decide_eq_false ht;exact ym z (iv.srt j e) (by omega)
   ·have:=C9 j.row t;omega
  obtain⟨c0,c1⟩:=yV h;have:=NC (a:=(kR j.row t:Int)) (b:=(j.job:Int)) (c:=j.work) (by omega) (by omega);have h2:=iZ (ps:=j.parts.take j.part) λq f=>h.ln q (O3 f)
  unfold jt Jb.tot Jb.cur at hl;omega
theorem rl(h:JOk tops j)(e:j.next.held=some T):j.tool=some T:=by
 unfold Jb.next Jb.step1 at e;by_cases z:(j.spent:Int)+1=j.len
 ·rw[if_pos z]at e;unfold Jb.step2 at e;split at e
  ·unfold Jb.held at e;rw[if_pos rfl]at e;cases e
  ·unfold Jb.held at e;rw[if_pos rfl]at e;cases e
 ·rw[if_neg z]at e;unfold Jb.step2 at e;rw[if_neg (show ¬ ({ j with spent:=j.spent+1 }:Jb).part=({ j with spent:=j.spent+1 }:Jb).parts.length from Mf h.pt)]at e;unfold Jb.held at e;rw[if_neg (show ¬ ({ j with spent:=j.spent+1 }:Jb).spent=0 from Nat.succ_ne_zero _)]at e;exact e
theorem Aj(h:j.held=some T):j.tool=some T/\j.spent≠0:=by
 unfold Jb.held at h;by_cases z:j.spent=0
 ·rw[if_pos z]at h;cases h
 ·rw[if_neg z]at h;exact⟨h,z⟩
theorem sg(j:Jb):j.next.rank=j.rank:=by unfold Jb.next Jb.step1 Jb.step2;split <;> split <;> rfl
structure HvJ(tops:PyData)(js:List Jb):Prop where
 one:∀i∈js,∀j∈js,∀T,i.held=some T->j.held=some T->i.num=j.num
 top:∀j∈js,∀p∈j.parts,∀T,p.2=some T->gW tops T<=j.rank
theorem j6{b k:Jb}(a:k∈dg b js):(k∈js/\k.num≠b.num)\/k=b.next:=by
 obtain⟨j,c,rfl⟩:=Mj.mp a;by_cases z:j.num=b.num
 ·right;exact if_pos z
 ·left;rw[if_neg z];exact⟨c,z⟩
theorem Ba(h:JOk tops j)(b:j.tool=some T):∃p∈j.parts,p.2=some T:=by have a:=h.pt;unfold Jb.tool at b;rw[M1 a]at b;exact⟨_,MH a,b⟩
theorem zR{len:Str}(iv:IvJ tops (told.length:Int) js)(hv:HvJ tops js)(z:aO told js≠[])(a:(cO tops len (aO told js)).tool=some T):∀j∈js,j.held=some T->j.num=(cO tops len (aO told js)).num:=by
 obtain⟨hm,hth⟩:=Mn.mp (iG (tops:=tops) (len:=len) z);intro j b c;obtain⟨h1,h2⟩:=Aj c;by_cases y:(cO tops len (aO told js)).spent=0
 ·obtain⟨p,f,e⟩:=Ba (iv.ok.ok _ hm) a;exact (zZ z y a (hv.top _ hm p f T e) j (Mn.mpr ⟨b,uY iv b h2⟩) c).elim
 ·exact hv.one j b _ hm T c (by unfold Jb.held;rw[if_neg y];exact a)
theorem EF{len:Str}(iv:IvJ tops (told.length:Int) js)(hv:HvJ tops js):HvJ tops (cY tops len (js,told)).1:=by
 by_cases z:aO told js=[]
 ·rw[gu z];exact hv
 ·have e:cY tops len (js,told)=(dg (cO tops len (aO told js)) js,told++[eB (cO tops len (aO told js))]):=by unfold cY;exact if_neg z
  have hm:cO tops len (aO told js)∈js:=(Mn.mp (iG (tops:=tops) (len:=len) z)).1;have a:=λT h=>zR (len:=len) (T:=T) iv hv z h
  rw[e];generalize cO tops len (aO told js)=b at *;refine⟨λi hi j c T h1 h2=>?_,λj c p f T e=>?_⟩
  ·rcases j6 hi with⟨hi,l⟩|rfl
   ·rcases j6 c with⟨c,g⟩|rfl
    ·exact hv.one i hi j c T h1 h2
    ·exact (l (a T (rl (iv.ok.ok b hm) h2) i hi h1)).elim
   ·rcases j6 c with⟨c,g⟩|rfl
    ·exact (g (a T (rl (iv.ok.ok b hm) h1) j c h2)).elim
    ·rfl
  ·rcases lO hm c with c|rfl
   ·exact hv.top j c p f T e
   ·rw[kJ]at f;rw[sg];exact hv.top b hm p f T e
def lawAt:List (Int×Option Int)->Nat->Int->Nat×Option Int×Int
 |[],k,_=>(k,none,0)
 |p::r,k,s=>if s<p.1 then (k,p.2,s) else lawAt r (k+1) (s-p.1)
theorem lawAt_in:∀{ps:List (Int×Option Int)}{k:Nat}(k0:Nat)(h:k<ps.length){s:Int},(∀p∈ps,1<=p.1)->0<=s->s<ps[k].1->lawAt ps k0 (bO (ps.take k)+s)=(k0+k,ps[k].2,s)
 |[],_,_,h,_,_,_,_=>by cases h
 |p::r,0,k0,_,s,hp,h0,h1=>by
  have h1:s<p.1:=h1;show (if bO []+s<p.1 then (k0,p.2,bO []+s) else _)=_;have e:bO []+s=s:=by show 0+s=s;omega
  rw[e,if_pos h1];rfl
 |p::r,k+1,k0,h,s,hp,h0,h1=>by
  have b:k<r.length:=by simpa using h
  have h1:s<r[k].1:=h1;have hnn:=iZ (ps:=r.take k) λq a=>hp q (M6 _ (O3 a))
  have c:=lawAt_in (k0+1) b (λq a=>hp q (M6 _ a)) h0 h1;have e:bO ((p::r).take (k+1))=p.1+bO (r.take k):=by rw[Nv,d6]
  show (if bO ((p::r).take (k+1))+s<p.1 then _ else lawAt r (k0+1) (bO ((p::r).take (k+1))+s-p.1))=_;rw[e,if_neg (by omega),show p.1+bO (r.take k)+s-p.1=bO (r.take k)+s by omega,c];show (k0+1+k,r[k].2,s)=(k0+(k+1),r[k].2,s)
  rw[show k0+1+k=k0+(k+1) by omega]
theorem lawAt_end:∀{ps:List (Int×Option Int)}(k0:Nat),(∀p∈ps,1<=p.1)->lawAt ps k0 (bO ps)=(k0+ps.length,none,0)
 |[],k0,_=>rfl
 |p::r,k0,hp=>by
  have hnn:=iZ (ps:=r) λq a=>hp q (M6 _ a)
  show (if bO (p::r)<p.1 then _ else lawAt r (k0+1) (bO (p::r)-p.1))=_;rw[d6,if_neg (by omega),show p.1+bO r-p.1=bO r by omega,lawAt_end (k0+1) λq a=>hp q (M6 _ a),Mp,show k0+1+r.length=k0+(r.length+1) by omega]
section
theorem Iw(h:JOk tops j):lawAt j.parts 0 j.cur=(j.part,j.tool,(j.spent:Int)):=by
 have a:=h.pt;have hlen:j.len=j.parts[j.part].1:=by unfold Jb.len;rw[M1 a];rfl
 have b:j.tool=j.parts[j.part].2:=by unfold Jb.tool;rw[M1 a];rfl
 have hsp:=h.sp;have:=lawAt_in 0 a (s:=(j.spent:Int)) h.ln (by omega) (by omega);unfold Jb.cur;rw[this,b,MX]
end
end RS
set_option maxHeartbeats 4000000
namespace L2
open PySem PySem.Spec PyProof.Rows
variable {es:Array DictEntry}
theorem t9(d:Addr):Meets (Builtin.«dict.values» ⟨[.ref d],[]⟩) (λ_ R s=>(∃o,s.heap.get? d=some o/\o.ExactDict)/\(d==sysModules)=false/\R (.ok (.ret (.ref s.heap.objs.size))) { s with heap:=s.heap.push { cls:=.type "dict_values",data:=.fields #[.ref d] } }) :=
 .of_wp λprog w A R s h=>by
  obtain⟨b,g,c,tk,os⟩:=s;obtain⟨⟨o,e,f⟩,hd,h⟩:=h;obtain⟨hc,hdi,hs⟩:=f;have a:(Shared.heap ⟨b,g,c,tk,os⟩).get? d=some o:=e
  wp_walk using wpAny_loadPart a
  exact⟨_,rfl,h⟩
section
variable {E:XK}{o:Expr}{go:Ds->Rs PyData}{apos:Pos}{td:TE}
structure M0(X:Cx)(o:Expr)(m:Str)(apos cpos:Pos):Prop where
 base:attributeBase o m X.env (eval o X.env)=eval o X.env
 few:((backTo cpos (starEach [] X.env)).all (λx=>!x.1)&&(backToKw cpos (keywordEach [] X.env)).all (λx=>x.1.isSome)
 &&decide (([]:List Expr).length+([]:List Keyword).length+(if ([]:List Keyword).isEmpty then 0 else 1)<30))=true
 line:(apos.endLine==cpos.line)=true
 trees:backTo cpos (starEach [] X.env)=[]
end
def isOpt:Option Int->Value->Bool
 |some n,v=>Value.isInt n v
 |none,v=>v==.none
theorem de{v:Value}(h:isOpt none v=true):v=.none:=eq_of_beq h
section
variable {A:Around}
theorem zO{Q:Int->Shared->Prop}(h:Q 0xFCA86420 { s with toks:=s.toks+1 }):wpAny (model prog w) A (pyHash .none) Q E s:=by
 have a:s.TypeIs .none "NoneType":=rfl;unfold pyHash;refine wpAny_bind (wpAny_cRoomFor_byValue rfl ?_);refine wpAny_bind (wpAny_specialOf a F.slot_NoneType_hash.lookup ?_);show wpAny _ _ (if (some (Value.builtin "NoneType.__hash__")==some Value.none)=true then _ else _) Q E s;rw[if_neg (by rw[beq_builtin_none];exact Mi)];refine wpAny_bind (wpAny_specialOf a F.slot_NoneType_hash.lookup ?_);show wpAny _ _ (callSpecialIfBoundUnlessNone? .none "__hash__" _ >>= _) Q E s;refine wpAny_bind (wpAny_callSpecialIfBoundUnlessNone?_slot a F.slot_NoneType_hash (wpAny_call_entry F.slot_NoneType_hash a F.entry_NoneType_hash
  (show wpAny _ _ (do ret (<-mkInt 0xFCA86420)) _ _ s from wpAny_ret_mkInt ?_) (F.args_NoneType_hash_1 _)))
 show wpAny _ _ (if (decide (-(2:Int) ^ 63<=0xFCA86420)&&decide ((0xFCA86420:Int)<2 ^ 63))=true then _ else _) Q E _;rw[if_pos (by decide)];exact wpAny_pure h
end
def optKind(prog:Program)(w:World):KeyKind prog w (Option Int) where
 is:=isOpt
 hash:=λk=>match k with|some n=>(intKind prog w).hash n|none=>0xFCA86420
 inj:=λv a b ha c=>by
  cases a with
  |none =>
   have:=de ha;subst this;cases b with
   |none=>rfl
   |some n=>cases c
  |some n =>
   cases b with
   |none=>have:=de c;subst this;cases ha
   |some m=>rw[(intKind prog w).inj v n m ha c]
 byValue:=λk v h=>by
  cases k with
  |none=>rw[de h];rfl
  |some n=>exact (intKind prog w).byValue n v h
 pyHash:=λ{A E s k v Q} hv h=>by
  cases k with
  |none=>rw[de hv];exact zO h
  |some n=>exact (intKind prog w).pyHash (k:=n) hv h
 eqBool:=λ{A E s a b u v Q} hu hv h=>by
  cases a with
  |none =>
   rw[de hu];cases b with
   |none=>rw[de hv];exact SeqAt.EqAt.same .none prog w E Q h
   |some n =>obtain⟨t,rfl⟩:=NV hv;exact SeqAt.EqAt.none_int n t prog w E Q h
  |some m =>
   cases b with
   |none =>rw[de hv];obtain⟨t,rfl⟩:=NV hu;exact SeqAt.EqAt.int_none m t prog w E Q h
   |some n =>
    refine (intKind prog w).eqBool (a:=m) (b:=n) hu hv ?_;by_cases z:m=n
    ·rw[decide_eq_true z];rw[decide_eq_true (by rw[z])]at h;exact h
    ·rw[decide_eq_false z];rw[decide_eq_false (λq=>z (Option.some.inj q))]at h;exact h
 «strs»:=λk x t v h=>by
  cases k with
  |none=>cases de h
  |some n=>cases h
theorem De{A:Around}(I:Inv X pins σ H s)(e:Rd H a (dkO l))(h:∀s',Inv X pins σ H s'->Q (.bool false) s'):wpAny (model X.prog X.w) A (compareOp .In .none (.ref a)) Q E s:=by
 obtain⟨z,hd,vs,rel,ob,es,ep,g1,g2,j,m,o,g6⟩:=nr I.hok e;have t:∀p∈vs,∃n:Int,p.1=.inl n:=λp f=>by have:p.1∈vs.map (·.1):=O5 f;rw[<-rel.keys]at this;obtain⟨q,u,e⟩:=Mj.mp this;obtain⟨r,_,rfl⟩:=Mj.mp u;exact⟨r.1,e.symm⟩
 have g:∀c∈es,∃n:Int,Value.isInt n c.key=true/\c.hash=(intKind X.prog X.w).hash n:=λc b=>by
  have aux:∀{E:List DictEntry}{B:List (Key×Value)},Pairs (br X.prog X.w) E B->∀x∈E,∃p∈B,(br X.prog X.w).is p.1 x.key=true:=by
   intro E B r
   induction r with
   |nil=>intro x i;cases i
   |cons h1 _ _ ih =>
    intro x i;rcases M8.mp i with rfl|i
    ·exact⟨_,M7,h1⟩
    ·obtain⟨p,f,h⟩:=ih x i;exact⟨p,M6 _ f,h⟩
  obtain⟨k,h1,h2⟩:=m c b;obtain⟨p,f,v⟩:=aux o c (by simpa using b);have:=(br X.prog X.w).inj _ _ _ h1 v;obtain⟨n,hn⟩:=t p f;rw[this,hn]at h1 h2;exact⟨n,h1,h2⟩
 have hm:s.heap.MapOf (optKind X.prog X.w) a (λk=>findBy isOpt es k):=⟨ob,es,ep,g1,g2,j,λc b=>by obtain⟨n,h1,h2⟩:=g c b;exact⟨some n,h1,h2⟩,λ_=>rfl⟩
 refine wpAny_in_of (knd:=optKind X.prog X.w) (k:=none) rfl hd hm ?_;have y:findBy isOpt es none=none:=by
  unfold findBy;rw[show (es.find? λe=>isOpt none e.key)=none from ?_]
  ·rfl
  ·rw[Array.find?_eq_none];intro c b q;obtain⟨n,h1,_⟩:=g c b;rw[de q]at h1;cases h1
 rw[y];exact h _ (I.tok _)
section
variable {E:XK}{a b o k:Expr}{go:Ds->Rs PyData}
def gDI(go gk:Ds->Rs PyData):Ds->Rs PyData:=λδ=>(go δ).bind λd=>(gk δ).bind λk=>match qf d,k with
 |some l,.int n=>(match a8 l n with
  |some v=>.ok (.int v)
  |none=>.no)
 |_,_=>.no
theorem Kk(i:X.A.units+1<cLine)(j:PD X E o go)(m:PD X E k gk)(p:E7 k):PD X E (.Subscript o k pos) (gDI go gk) :=
 (zD i j m p).imp λσ H Q e=>by
  obtain⟨A,δ,R,b⟩:=e;unfold gDI at b;refine eD.run R (λd q v H1 h r h1=>?_) (λC c H' s'=>?_) (λc=>?_)
  ·simp only[q,Rs.ag]at b;refine eD.run r (λkd s u H2 s2 R2 f=>?_) (λC c H' s'=>?_) (λc=>?_)
   ·simp only[s,Rs.ag]at b;split at b
    ·rename_i l n hl;rw[kY hl]at h1;obtain⟨a,rfl,ha⟩:=h1.ofDic;cases f.ofInt;split at b
     ·rename_i w hw;have g:=nZ.k (k:=Sum.inl n) (s2 _ _ (aw _ _ ha));rw[iz,hw]at g;exact⟨a,_,rfl,g,b _ H2 (h.trans s2) bJ⟩
     ·exact b.elim
    ·exact b.elim
   ·simp only[c,Rs.cB]at b;exact b H' (h.trans s')
   ·simp only[c,Rs.bf]at b;exact b
  ·simp only[c,Rs.cB]at b;exact b H' s'
  ·simp only[c,Rs.bf]at b;exact b
end
def dfD(l:List (Int×Int)):PyData:=.dict (dfK l)
def xg:PyData->Option (List (Int×Int))
 |.dict ((.bool false,.none)::kvs)=>jQ kvs
 |_=>none
theorem lr{d:PyData}(h:xg d=some l):d=dfD l:=by
 unfold xg at h;split at h
 ·unfold dfD dfK;rw[mL h]
 ·cases h
theorem oy(l:List (Int×Int)):xg (dfD l)=some l:=kW l
theorem Is.ofDf(h:Is K H (dfD l) v):∃a ob,v=.ref a/\H a=some (.frz ob (dkO l)):=by
 unfold dfD Is at h;rcases h with (⟨a,ns,_,e,_⟩|⟨a,o,e1,e,h2⟩)|⟨a,C,dx,fs,_,_,_,h|h⟩
 ·cases e
 ·rcases e with⟨m,e,_⟩|⟨m,e,_⟩|⟨m,ob,e,rfl⟩
  ·cases m <;> cases e
  ·cases e
  ·rw[jA (List.cons.inj e).2];exact⟨a,ob,e1,h2⟩
 ·unfold Isk at h;obtain⟨f,_,_,_,q,_⟩:=h;cases q
 ·unfold Isk at h;obtain⟨f,_,_,_,q,_⟩:=h;cases q
theorem J5(h:H a=some (.frz ob (dkO l))):Is K H (dfD l) (.ref a):=by unfold dfD Is;exact .inl (.inr ⟨a,_,rfl,.inr (.inr ⟨l,ob,rfl,rfl⟩),h⟩)
theorem Inv.freeze{kvs:List (Key×V)}(I:Inv X pins σ H s)(e:H a=some (.dK kvs)):∃ob,Inv X pins σ (upd H a (.frz ob (.dK kvs))) s:=by obtain⟨z,hd,vs,rel,ob,es,ep,g1,g2⟩:=Hd I.hok e;exact⟨ob,uw (t':=s.toks) I (by rw[e];exact True.intro) ⟨rfl,λ_ _=>rfl⟩ ⟨ob,g1⟩ ⟨g1,z,hd,vs,rel,ob,es,ep,g1,g2⟩⟩
section
variable {E:XK}{a b o k:Expr}{go:Ds->Rs PyData}
def Lx(i:Nat):TE:=λσ H Q=>∃a kvs,σ[i]?=some (some (.ref a))/\H a=some (.dK kvs)/\∀ob,Q (.ref a) (upd H a (.frz ob (.dK kvs)))
theorem IG(hi:X.N[i]?=some x)(hv:Vis X.env.scope x)(hd:(x==("__debug__":Str))=false)(b:(x==("__classdict__":Str))=false):PE X (.Name x pn) (Lx i):=λpins s σ H Q I c=>by
 obtain⟨a,kvs,e,ha,q⟩:=c;refine thn (i7 hi hv hd b pins s σ H (λv H1=>v=.ref a/\H1=H) I ⟨_,e,rfl,rfl⟩) λv s1 f=>?_
 obtain⟨x,H1,g,h,j,l⟩:=f;subst j l;obtain⟨ob,m⟩:=g.freeze ha;exact⟨.ref a,_,m,h,q ob⟩
def zG(i:Nat):Ds->Sr:=λδ=>match δ[i]? with
 |some (some d)=>(match qf d with
  |some l=>.rt (dfD l)
  |none=>.no)
 |_=>.no
theorem Cy(r:i∈O)(hi:X.N[i]?=some x)(hv:Vis X.env.scope x)(hd:(x==("__debug__":Str))=false)(e:(x==("__classdict__":Str))=false):PSD X E O (.Return (some (.Name x pn)) pos) (zG i) :=
 (mx (IG hi hv hd e)).imp λD σ H f=>by
  obtain⟨H0,A0,A,δ,R,a⟩:=f;unfold zG at a;split at a
  ·rename_i d q;split at a
   ·rename_i l hl;rw[kY hl]at q;obtain⟨p,o',d',e1,o,g,e2,h⟩:=R.own i _ r q;subst e2;have j:o'=dkO l:=by
     have h:EO _ o':=h;rcases h with⟨m,b,rfl⟩|⟨m,b,_⟩|⟨m,_,b,_⟩
     ·rw[jA b];rfl
     ·cases l <;> cases b
     ·cases l <;> cases b
    subst j;refine⟨p,_,e1,g,λob=>a _ _ (λc u n=>?_) (J5 (ob:=ob) ?_)⟩
    ·have s:c≠p:=λz=>by rw[z,R.new p o]at n;cases n
     rw[aB s];exact R.same c u n
    ·rw[aI (R.apart o)];exact aH
   ·exact a.elim
  ·exact a.elim
def J9:R2:=λx y H Q=>∃a ob l,y=.ref a/\H a=some (.frz ob (dkO l))/\((x=.non/\Q (.bl false) H)\/∃n,x=.int n/\Q (.bl (a8 l n).isSome) H)
theorem II(e:X.A.units+1<cLine):OpR X (compareOp .In) J9:=by
 intro pins s σ H x y v u Q I c f h;obtain⟨a,ob,l,rfl,ha,h⟩:=h;cases (show u=Value.ref a from f);rcases h with⟨rfl,q⟩|⟨n,rfl,q⟩
 ·cases (show v=Value.none from c);exact De I (.inr ⟨ob,ha⟩) λs' b=>⟨.bl _,H,b,rfl,q⟩
 ·have g:nZ H a (kV (Sum.inl n)) (gh (l.map λp=>((.inl p.1,V.int p.2):Key×V)) (.inl n)):=.inl ⟨_,Sum.inl n,.inr ⟨ob,ha⟩,rfl,rfl⟩;rw[iz]at g;refine Ly e I g c λs' b=>⟨.bl _,H,b,rfl,?_⟩
  rw[NY];exact q
def ue:PyData->PyData->Option PyData:=λx d=>match xg d,x with
 |some _,.none=>some (.bool false)
 |some l,.int n=>some (.bool (a8 l n).isSome)
 |_,_=>none
theorem Gm:OpD K ue J9:=λd1 d2 d x y H A Q e hA h1 h2 k=>by
 unfold ue at e;split at e
 ·rename_i l hl;cases e;rw[lr hl]at h2;obtain⟨a,ob,rfl,ha⟩:=h2.ofDf;exact⟨a,ob,l,rfl,aw _ _ ha,.inl ⟨h1.ofNone,k _ H (av.refl H) is_bool⟩⟩
 ·rename_i l n hl;cases e;rw[lr hl]at h2;obtain⟨a,ob,rfl,ha⟩:=h2.ofDf;exact⟨a,ob,l,rfl,aw _ _ ha,.inr ⟨n,h1.ofInt,k _ H (av.refl H) is_bool⟩⟩
 ·cases e
theorem FV(c:X.A.units+1<cLine)(ha:PD X E a ga)(e:PD X E b gb)(hm:behindInMarks .In b=false):PCD X E (.Compare a [.In] [b] pos) (gT (g2 ue ga gb)):=ke Gm ha e λh1 h2=>iV (II c) h1 h2 hm
def gDF(go gk:Ds->Rs PyData):Ds->Rs PyData:=λδ=>(go δ).bind λd=>(gk δ).bind λk=>match xg d,k with
 |some l,.int n=>(match a8 l n with
  |some v=>.ok (.int v)
  |none=>.no)
 |_,_=>.no
theorem Kq(i:X.A.units+1<cLine)(j:PD X E o go)(m:PD X E k gk)(q:E7 k):PD X E (.Subscript o k pos) (gDF go gk) :=
 (zD i j m q).imp λσ H Q e=>by
  obtain⟨A,δ,R,b⟩:=e;unfold gDF at b;refine eD.run R (λd r v H1 h s h1=>?_) (λC c H' s'=>?_) (λc=>?_)
  ·simp only[r,Rs.ag]at b;refine eD.run s (λkd t u H2 s2 R2 f=>?_) (λC c H' s'=>?_) (λc=>?_)
   ·simp only[t,Rs.ag]at b;split at b
    ·rename_i l n hl;rw[lr hl]at h1;obtain⟨a,ob,rfl,ha⟩:=h1.ofDf;cases f.ofInt;split at b
     ·rename_i w hw;have g:nZ H2 a (kV (Sum.inl n)) (gh (l.map λp=>((.inl p.1,V.int p.2):Key×V)) (.inl n)):=.inl ⟨_,Sum.inl n,.inr ⟨ob,s2 _ _ (aw _ _ ha)⟩,rfl,rfl⟩;rw[iz,hw]at g;exact⟨a,_,rfl,g,b _ H2 (h.trans s2) bJ⟩
     ·exact b.elim
    ·exact b.elim
   ·simp only[c,Rs.cB]at b;exact b H' (h.trans s')
   ·simp only[c,Rs.bf]at b;exact b
  ·simp only[c,Rs.cB]at b;exact b H' s'
  ·simp only[c,Rs.bf]at b;exact b
end
def Itf(a:Addr)(ob:Obj)(l:List (Int×Int)):It:=⟨λi H=>H a=some (.frz ob (dkO l))/\i<l.length,λi H x H'=>H'=H/\∃p,l[i]?=some p/\x=.int p.1,λi H=>H a=some (.frz ob (dkO l))/\l.length<=i⟩
theorem CO{ep:Nat}(I:Inv X pins σ H s)(e:H a=some (.frz ob (dkO l)))(hd:ob.data=.dict es ep):(a==sysModules)=false/\∃vs,KV (l.map λp=>((.inl p.1,V.int p.2):Key×V)) vs/\s.heap.DictAt (br X.prog X.w) a vs ep:=by
 obtain⟨g,z,h1,vs,rel,o2,es2,ep2,g1,g2,b,c⟩:=(show cE X.prog X.w H s.heap a (.frz ob (dkO l)) from I.hok a _ e)
 rw[g]at g1;cases g1;rw[hd]at b;cases b;exact⟨h1,vs,rel,ob,es,g,g2,hd,c⟩
theorem KV.at_{A:List (Key×V)}{B:List (Key×Value)}(r:KV A B):∀(i:Nat)(p:Key×V),A[i]?=some p->∃v,B[i]?=some (p.1,v)/\RelV p.2 v:=by
 induction r with
 |nil=>intro i p h;simp at h
 |cons h1 _ ih =>
  intro i p h;cases i with
  |zero=>cases h;exact⟨_,by rw[MZ];exact congrArg some (Prod.ext h1.1.symm rfl),h1.2⟩
  |succ i=>exact ih i p h
theorem Dh(a it:Addr){ep:Nat}(hd:ob.data=.dict es ep):Turn P w K tg (Itf a ob l) [it] it (λi h=>h.IsKeyIter it a i l.length ep) where
 mem:=by simp
 obj:=λi h st b f=>by
  have e:b=it:=by simpa using f
  subst e;obtain⟨o,e,c,d⟩:=st;exact⟨o,e,λv z=>by rw[d]at z;cases z⟩
 keep:=λi h h' st k=>let ⟨o,e,r⟩:=st;⟨o,k it (by simp) o e,r⟩
 item:=by
  intro X n hw hK hc i pins s σ H E I j st p;subst n hw hK;obtain⟨e,hi⟩:=p;obtain⟨_,vs,rel,m⟩:=CO I e hd;have hl:vs.length=l.length:=by have:=rel.length;rw[M4]at this;omega
  obtain⟨v,hv,_⟩:=rel.at_ i (.inl l[i].1,V.int l[i].2) (by rw[Mc,M1 hi];rfl);obtain⟨q,f1,f2,u,x,y⟩:=j it (by simp);refine wpAny_pyNext_dict_item (knd:=br X.prog X.w) (kvs:=vs) (by rw[hl];exact st) m hv λkey h' A g B=>?_
  have C:Inv X pins σ H { s with heap:=h' }:=I.turned (t':=s.toks) (λb o f e=>(B.2 b f).trans e) q f1 u x y;obtain⟨o,D,c,d⟩:=id g;obtain⟨t,rfl⟩:=NV A;exact⟨_,rfl,uV (s:={ s with heap:=h' }) D c d (by decide) ⟨.int l[i].1,H,C,⟨t,rfl⟩,⟨rfl,l[i],M1 hi,rfl⟩,by rw[hl]at g;exact g,λb f=>(j b f).1⟩⟩
 done:=by
  intro X n hw hK hc i pins s σ H E I j st p;subst n hw hK;obtain⟨e,hi⟩:=p;obtain⟨_,vs,rel,m⟩:=CO I e hd;have hl:vs.length=l.length:=by have:=rel.length;rw[M4]at this;omega
  obtain⟨q,f1,f2,u,x,y⟩:=j it (by simp);exact wpAny_pyNext_dict_end (knd:=br X.prog X.w) (kvs:=vs) (I.ok.hd hc) (by rw[hl];exact st) m (MW (by omega)) λh' F=>⟨rfl,I.turned (t':=s.toks) (λb o f e=>F b o f e) q f1 u x y⟩
 self:=λ_ _ _ _ _ st h=>wpAny_pyIter_keyiter st h
section
variable {E:XK}{a:Expr}
def L3(tl:TE):TI:=λσ H R=>tl σ H λx H1=>∃a ob l,x=.ref a/\H1 a=some (.frz ob (dkO l))/\R (Itf a ob l) H1
theorem Hy{l:Expr}{tl:TE}(hl:PE X l tl):PI X tg l (L3 tl):=by
 intro pins s σ H R I h;refine thn (hl pins s σ H _ I h) λv c i=>?_
 obtain⟨x,H1,f,m,n⟩:=i;obtain⟨a,ob,l,e,ha,q⟩:=n;subst e;cases m;obtain⟨g,z,h1,vs,rel,o2,es,ep,g1,g2,j,p⟩:=(show cE X.prog X.w H1 c.heap a (.frz ob (dkO l)) from f.hok a _ ha)
 rw[g]at g1;cases g1;have hl:vs.length=l.length:=by have:=rel.length;rw[M4]at this;omega
 refine wpAny_pyIter_dict (knd:=br X.prog X.w) (kvs:=vs) (ep:=ep) h1 ⟨ob,es,g,g2,j,p⟩ ?_;rw[hl];refine⟨c.heap.objs.size,[c.heap.objs.size],_,_,H1,rfl,f.kept (t':=c.toks) λb o e=>M3 _ e,Dh a _ j,⟨_,Ml _ rfl,rfl,rfl⟩,λb r=>?_,q⟩;have e:b=c.heap.objs.size:=by simpa using r
 subst e;exact f.fpOk (Me _) (f.hok.fresh (Me _))
theorem C3{a:Addr}(ha:G a=some (.frz ob (dkO l))):vu K (Itf a ob l) (l.map λp=>.int p.1) G:=λH1 B s _ hB=>by refine⟨λi hi=>⟨s _ _ ha,by rw[M4]at hi;exact hi⟩,⟨s _ _ ha,by rw[M4];exact Me _⟩,λi x H2 hi b=>?_⟩;obtain⟨e,p,c,ex⟩:=b;subst e ex;exact⟨av.refl _,.int p.1,by rw[Mc,c];rfl,bJ⟩
def kX(ga:Ds->Rs PyData):Ds->Rs (List PyData):=λδ=>(ga δ).bind λd=>match xg d with
 |some l=>.ok (l.map λp=>.int p.1)
 |none=>.no
theorem Cz(ha:PD X E a ga):PID X E tg a (kX ga):=(Hy ha).imp λσ H R c=>by
 obtain⟨A,δ,f,b⟩:=c;unfold kX at b;refine eD.run f (λd g v H1 h R1 h1=>?_) (λC e H' s'=>by rw[e]at b;exact b H' s') (λe=>by rw[e]at b;exact b);simp only[g,Rs.ag]at b;split at b
 ·rename_i l hl;rw[lr hl]at h1;obtain⟨a,ob,rfl,ha⟩:=h1.ofDf;exact⟨a,ob,l,rfl,aw _ _ ha,b _ H1 h (C3 ha)⟩
 ·exact b.elim
end
theorem vH:entryFor table "proto.contains_iter"=some Builtin.«proto.contains_iter»:=entryFor_of_tree (by kernel_rfl)
theorem pR:plainId "proto.contains_iter"=true:=by decide +kernel
theorem Fb:typeLookup (.type "dict_values") "__contains__"=pure none:=by rw[typeLookup_type,builtinLookup_eq_fast];kernel_rfl
section
variable {A:Around}{R:Result->Shared->Prop}{I:Addr}{wr:List Addr}{P:Nat->Value->Prop}{St:Nat->Heap->Prop}
theorem kI(W:Walks prog w A.in1 I fp wr n P St)(val:Nat->Int)(c:∀i v,P i v->∃t,v=.int (val i) t)(x:Int)(q:Tok):∀(k i:Nat)(s:Shared),n-i=k->i<=n->St i s.heap ->
  (∀h' tk,(∀b o,b∉wr->s.heap.get? b=some o->h'.get? b=some o)->R (.ok (.ret (.bool ((List.range' i (n-i)).any λj=>decide (val j=x))))) { s with heap:=h',toks:=tk }) ->
  codeAny (model prog w) A (.builtin "proto.contains_iter" ⟨[.ref I,.int x q],[]⟩) R s:=by
 intro k
 induction k with
 |zero =>
  intro i s u hi a f;have l:i=n:=by omega
  subst l;refine codeAny_builtin vH ?_;rw[Around.under_plainId pR _];show wpAny _ A.in1 (pyNext (.ref I) >>= _) _ _ s;refine wpAny_bind (W.done s _ _ a λh' tk hm=>?_);refine wpAny_bind (wpAny_rule (wpAny_pure ?_));have:=f h' tk hm;rw[Nat.sub_self]at this;exact this
 |succ k ih =>
  intro i s u hi a f;have g:i<n:=by omega
  have y:List.range' i (n-i)=i::List.range' (i+1) (n-(i+1)):=by rw[show n-i=(n-(i+1))+1 by omega,Nr]
  rw[y,Nj]at f;refine codeAny_builtin vH ?_;rw[Around.under_plainId pR _];show wpAny _ A.in1 (pyNext (.ref I) >>= _) _ _ s;refine wpAny_bind (W.item i s _ _ g a λv h' tk B h hm=>?_);obtain⟨t,rfl⟩:=c i v B;show wpAny _ A.in1 (eqBool (.int (val i) t) (.int x q) >>= _) _ _ _;refine wpAny_bind (wpAny_eqBool_int ?_);by_cases z:val i=x
  ·rw[show (val i==x)=true by simpa using z];refine wpAny_bind (wpAny_rule (wpAny_pure ?_));have:=f h' tk hm;rw[decide_eq_true z,Bool.true_or]at this;exact this
  ·rw[show (val i==x)=false by simpa using z];refine wpAny_pure ⟨plainId_quiet pR _,ih (i+1) _ (by omega) g h λh2 m p=>?_⟩;have:=f h2 m λb o r e=>p b o r (hm b o r e)
   rw[decide_eq_false z,Bool.false_or]at this;exact this
end
section
variable {A:Around}
theorem qZ{v:Addr}{x:Int}{t:Tok}{Q:Bool->Shared->Prop}(hT:s.TypeIs (.ref v) "dict_values")
  (h:∀f:Value->Shared->Prop,wpAny (model prog w) A (pyIter (.ref v)) (λit c=>codeAny (model prog w) A (.builtin "proto.contains_iter" ⟨[it,.int x t],[]⟩) (λr s2=>∃b,r=.ok (.ret (.bool b))/\Q b s2) c) f s):wpAny (model prog w) A (contains (.ref v) (.int x t)) Q E s:=by
 have hl:=Fb;unfold contains;generalize hPI:pyIter=PI
 wp_walk
 subst hPI;refine wpAny_tryCatch (wpAny_mono (h _) (λit c hc=>?_) λ_ _ e=>e);refine wpAny_bind (wpAny_runValue (codeAny_mono hc λr s2 a=>?_));obtain⟨b,e,q⟩:=a;subst e;exact wpAny_pure q
end
section
variable {E:XK}{a o:Expr}{go:Ds->Rs PyData}{apos:Pos}{ta td:TE}
def LB(ta td:TE):TE:=λσ H Q=>ta σ H λx H1=>td σ H1 λy H2=>∃n a ob l,x=.int n/\y=.ref a/\H2 a=some (.frz ob (dkO l))/\Q (.bl (!l.any λp=>decide (p.2=n))) H2
theorem HF(hc:X.calm=true)(ha:PE X a ta)(O:PE X o td)(m:M0 X o "values" apos cpos):PC X .NotIn a (.Call (.Attribute o "values" apos) [] [] cpos) (LB ta td):=by
 intro pins s σ H Q I h;refine thn (ha pins s σ H _ I h) λiv P f=>?_
 obtain⟨x,H0,R,S,T⟩:=f;refine wpAny_Call_method m.base m.few m.line F.plainAttrs_dict F.slot_dict_values F.type_dict_values (thn (O pins P σ H0 _ R T) λu c f=>?_);obtain⟨y,H1,B,U,n,a,q,l,ex,W,ha,Y⟩:=f;subst ex W;obtain rfl:u=Value.ref a:=U;obtain⟨J,Z,_⟩:=D5 B (.inl ⟨_,.inr ⟨q,ha⟩⟩);refine⟨J,Z,?_⟩;rw[m.trees];refine Calls.callWith_builtin rfl (PySem.evalArgs_none ?_);obtain⟨z,hd,vs,rel,ob,es,ep,g1,g2,K,L,M,N⟩:=nr B.hok (.inr ⟨q,ha⟩);refine call_meets F.slot_dict_values J F.entry_dict_values (F.args_dict_values_1 _) (t9 a) ⟨⟨ob,g1,g2⟩,hd,?_⟩;obtain⟨t,rfl⟩:=S;have al:a<c.heap.objs.size:=Mg g1;have gv:(c.heap.push { cls:=.type "dict_values",data:=.fields #[.ref a] }).IsValuesView c.heap.objs.size a:=⟨_,Ml _ rfl,rfl,rfl⟩
 have gd:Heap.DictAt (br X.prog X.w) (c.heap.push { cls:=.type "dict_values",data:=.fields #[.ref a] }) a vs ep:=⟨ob,es,M3 _ g1,g2,K,L,M,N⟩
 have sz:(c.heap.push { cls:=.type "dict_values",data:=.fields #[.ref a] }).objs.size=c.heap.objs.size+1:=Heap.size_push ..;have hh:X.A.in1.handled=none:=B.ok.hd hc;have hlen:vs.length=l.length:=by have:=rel.length;rw[M4]at this;omega
 have C:∀(i:Nat)(v:Value),(∃k,vs[i]?=some (k,v))->∃t,v=Value.int ((l.map (·.2)).getD i 0) t:=λi v D=>by
  obtain⟨k,r⟩:=D;have hi:i<l.length:=by rw[<-hlen];exact (My.mp r).1
  obtain⟨v',E,r'⟩:=rel.at_ i (.inl l[i].1,V.int l[i].2) (by rw[Mc,M1 hi];rfl);rw[E]at r;cases r;obtain⟨t,e⟩:=r';refine⟨t,?_⟩;rw[M9,Mc,M1 hi];exact e
 show wpAny (model X.prog X.w) X.A (do return Value.bool (!(<-contains (.ref c.heap.objs.size) (.int n t)))) _ _ _;refine wpAny_bind (qZ gv.typeIs λE'=>wpAny_pyIter_values gv gd ?_);refine kI (Walks.dictValues hh (c.heap.push { cls:=.type "dict_values",data:=.fields #[.ref a] }).objs.size a (by rw[sz];exact Mf (ML al)) vs ep) (λi=>(l.map (·.2)).getD i 0) C n t (vs.length-0) 0 _ rfl (MR _) ⟨⟨_,Ml _ rfl,rfl,rfl⟩,⟨ob,es,M3 _ (M3 _ g1),g2,K,L,M,N⟩⟩ λh' tk r=>⟨_,rfl,wpAny_pure ?_⟩
 refine⟨.bl _,H1,B.kept (t':=tk) λb G e=>r b G (λz=>?_) (M3 _ (M3 _ e)),rfl,?_⟩
 ·simp only[Mh]at z;rw[z,sz]at e;exact absurd (Mg e) (Nat.not_lt.mpr (NF _))
 ·have:((List.range' 0 (vs.length-0)).any λj=>decide ((l.map (·.2)).getD j 0=n))=l.any λp=>decide (p.2=n):=by
   rw[Nat.sub_zero,hlen,<-List.range_eq_range'];apply Bool.eq_iff_iff.mpr;rw[Nd,Nd];constructor
   ·rintro⟨j,g,e⟩
    have g:=N2.mp g;rw[M9,Mc,M1 g]at e;exact⟨l[j],MH g,e⟩
   ·rintro⟨p,hp,e⟩
    obtain⟨j,g,rfl⟩:=Nb hp;refine⟨j,N2.mpr g,?_⟩;rw[M9,Mc,M1 g];exact e
  rw[this];exact Y
def qY(ga go:Ds->Rs PyData):Ds->Rs PyData:=λδ=>(ga δ).bind λx=>(go δ).bind λd=>match x,xg d with
 |.int n,some l=>.ok (.bool (!l.any λp=>decide (p.2=n)))
 |_,_=>.no
theorem HV(hc:X.calm=true)(ha:PD X E a ga)(h:PD X E o go)(m:M0 X o "values" apos cpos)(hm:behindInMarks .NotIn (.Call (.Attribute o "values" apos) [] [] cpos)=false):PD X E (.Compare a [.NotIn] [.Call (.Attribute o "values" apos) [] [] cpos] pos) (qY ga go) :=
 (Cj (HF hc ha h m) hm).imp λσ H Q f=>by
  obtain⟨A,δ,R,b⟩:=f;unfold qY at b;refine eD.run R (λd i v H1 g j h1=>?_) (λC c H' s'=>?_) (λc=>?_)
  ·simp only[i,Rs.ag]at b;refine eD.run j (λkd p u H2 s2 R2 e=>?_) (λC c H' s'=>?_) (λc=>?_)
   ·simp only[p,Rs.ag]at b;split at b
    ·rename_i n l hl;rw[lr hl]at e;obtain⟨a,ob,rfl,ha⟩:=e.ofDf;exact⟨n,a,ob,l,h1.ofInt,rfl,aw _ _ ha,b _ H2 (g.trans s2) is_bool⟩
    ·exact b.elim
   ·simp only[c,Rs.cB]at b;exact b H' (g.trans s')
   ·simp only[c,Rs.bf]at b;exact b
  ·simp only[c,Rs.cB]at b;exact b H' s'
  ·simp only[c,Rs.bf]at b;exact b
end
theorem EU:typeLookup (.type "list") "keys"=pure none:=by rw[typeLookup_type,builtinLookup_eq_fast];kernel_rfl
theorem vL:entryFor table "dict.update.loop"=some Builtin.«dict.update.loop»:=entryFor_of_tree (by kernel_rfl)
theorem lQ:plainId "dict.update.loop"=true:=by decide +kernel
section
variable {A:Around}
theorem Ar{xs:Array Value}{k:Nat}{Q:Option Value->Shared->Prop}(i:s.heap.get? a=some { cls:=.type "list",data:=.seq xs k })(l:A.handled=none)
  (h:∀h' tk,(∀b ob,s.heap.get? b=some ob->h'.get? b=some ob)->Q none { s with heap:=h',toks:=tk }):wpAny (model prog w) A (getAttr? (.ref a) "keys") Q E s:=by
 obtain⟨m,g,d,tk,os⟩:=s;have j:∀c,(⟨m,g,d,c,os⟩:Shared).TypeIs (.ref a) "list":=λ_=>⟨_,i,rfl⟩
 have f1:=sub_AttributeError;have f3:=F.slot_list_getattribute.lookup;have f4:=F.slot_list_getattribute.bind (.ref a);have f5:=am_list_getattr_none;unfold getAttr? getAttrBy? getAttrBy
 repeat (any_goals (first|assumption|exact j _|((with_reducible show wpAny _ _ (call (Value.builtin "list.__getattribute__") _ _) _ _ _);refine call_meets F.slot_list_getattribute (j _) am_entry_list_getattribute (F.args_list_getattribute_2 _ _) (meets_getattribute_miss_list a xs k #[] "keys" _ EU (by decide) (by size_fits)) ⟨i,l,λh' c e f=>?_⟩)|wp_step))
 obtain⟨t',u',he⟩:=f.there;show wpAny _ _ (getattributeRaised _ _ _ _ _ _ _) _ _ _;unfold getattributeRaised
 repeat (any_goals (first|assumption|wp_step))
 exact h _ _ f.keeps
end
def tU(h:Heap)(b:Addr)(k v:Int):Prop:=∃o t u m,h.get? b=some o/\o.cls=.type "tuple"/\o.data=.seq #[.int k t,.int v u] m
section
variable {A:Around}{R:Result->Shared->Prop}{I:Addr}{wr:List Addr}{P:Nat->Value->Prop}{St:Nat->Heap->Prop}
theorem pair_items{k v:Int}{Q:List Value->Shared->Prop}(i:tU s.heap b k v)(h:∀t u,Q [.int k t,.int v u] s):wpAny (model prog w) A (Builtin.Dict.pairItems (.ref b)) Q E s:=by
 obtain⟨o,t,u,m,e,c,d⟩:=i;obtain⟨a,g,f,tk,os⟩:=s;obtain⟨oc,od,odt,osl⟩:=o;simp only at c d;subst c d;have hT:(⟨a,g,f,tk,os⟩:Shared).TypeIs (.ref b) "tuple":=⟨_,e,rfl⟩
 have j:(Shared.heap ⟨a,g,f,tk,os⟩).get? b=some { cls:=.type "tuple",dict:=od,data:=.seq #[.int k t,.int v u] m,slots:=osl }:=e;unfold Builtin.Dict.pairItems
 wp_walk using wpAny_loadPart j
 exact h t u
theorem Bn(W:Walks prog w A.in1 I fp wr n P St)(g:D∉fp)(tb:Nat->Addr)(ks vs:Nat->Int)(S:∀i v,P i v->v=.ref (tb i))(p:∀i,i<n->tb i≠D/\tb i∉wr)(t0:Nat->Tok):∀(k i:Nat)(s:Shared)(kvs:List (Key×V))(us:List (Key×Value)),n-i=k->i<=n->St i s.heap->(∀j,j<n->tU s.heap (tb j) (ks j) (vs j)) ->
  KV kvs us->s.heap.DictOf (br prog w) D us->kvs.length+(n-i)<=sizeLine ->
  (∀h' tk,(∀b o,b∉D::wr->s.heap.get? b=some o->h'.get? b=some o)->(∃x,KV ((List.range' i (n-i)).foldl (λl j=>putK l (.inl (ks j)) (.int (vs j))) kvs) x/\h'.DictOf (br prog w) D x)->R (.ok (.ret .none)) { s with heap:=h',toks:=tk }) ->
  ∀m t,codeAny (model prog w) A (.builtin "dict.update.loop" ⟨[.ref D,.ref I,.int m t,.none],[]⟩) R s:=by
 have y:D∉wr:=λh=>g (W.sub _ h)
 intro k
 induction k with
 |zero =>
  intro i s kvs us T hi a Q rel hd U F m t;have H:i=n:=by omega
  subst H;refine codeAny_builtin vL ?_;rw[Around.under_plainId lQ _];show wpAny _ A.in1 (pyNext (.ref I) >>= _) _ _ s;refine wpAny_bind (W.done s _ _ a λh' tk hm=>?_);show wpAny _ A.in1 (Builtin.Dict.addKeywords D [] >>= _) _ _ _;refine wpAny_bind (wpAny_pure (wpAny_pure ?_));refine F h' tk (λb o c e=>hm b o (λz=>c (M6 _ z)) e) ⟨us,?_,?_⟩
  ·rw[Nat.sub_self];exact rel
  ·obtain⟨o,es,ep,e,r⟩:=hd;exact⟨o,es,ep,hm D o y e,r⟩
 |succ k ih =>
  intro i s kvs us T hi a Q rel hd U F m t;have f:i<n:=by omega
  have X:List.range' i (n-i)=i::List.range' (i+1) (n-(i+1)):=by rw[show n-i=(n-(i+1))+1 by omega,Nr]
  rw[X,MC]at F;refine codeAny_builtin vL ?_;rw[Around.under_plainId lQ _];show wpAny _ A.in1 (pyNext (.ref I) >>= _) _ _ s;refine wpAny_bind (W.item i s _ _ f a λv h' tk J B hm=>?_);cases S i v J;have C:∀j,j<n->tU h' (tb j) (ks j) (vs j):=λj E=>by obtain⟨o,t,u,m,e,r⟩:=Q j E;exact⟨o,t,u,m,hm _ o (p j E).2 e,r⟩
  have K:h'.DictOf (br prog w) D us:=by obtain⟨o,es,ep,e,r⟩:=hd;exact⟨o,es,ep,hm D o y e,r⟩
  show wpAny _ A.in1 (holding [Value.ref (tb i)] _ >>= _) _ _ _;refine wpAny_bind (wpAny_holding ?_);refine wpAny_bind (wpAny_tryCatch (pair_items (C i f) λL G=>?_));show wpAny _ A.in1 (holding [Value.int (ks i) L,Value.int (vs i) G] (dictSet D (.int (ks i) L) (.int (vs i) G))) _ _ _;refine wpAny_holding ?_;refine wpAny_dictSet_pairs (knd:=br prog w) (k:=.inl (ks i)) (nz prog w (ks i) L) K (λh2 hd2 M=>?_) (by rw[<-rel.length];omega);refine wpAny_pure ⟨plainId_quiet lQ _,?_⟩;refine ih (i+1) _ (putK kvs (.inl (ks i)) (.int (vs i))) (stored us (.inl (ks i)) (.int (vs i) G)) (by omega) f (W.frame _ _ _ B λb c o e=>?_) (λj E=>?_) (rel.put _ ⟨G,rfl⟩) hd2 (by have:=jI kvs (.inl (ks i)) (.int (vs i));omega) (λY N O q=>?_) _ _
  ·rw[M.2 b (λz=>g (by rw[<-z];exact c))];exact e
  ·obtain⟨o,t,u,m,e,r⟩:=C j E;exact⟨o,t,u,m,by rw[M.2 _ (p j E).1];exact e,r⟩
  ·refine F Y N (λb o c e=>O b o c ?_) q;rw[M.2 b (λz=>c (by rw[z];exact M7))];exact hm b o (λz=>c (M6 _ z)) e
end
section
variable {A:Around}
theorem n5{l:Addr}{g:Nat}(hl:s.heap.get? l=some { cls:=.type "list",data:=.seq its g })(B:A.handled=none)(tb:Nat->Addr)(ks vs:Nat->Int)(hits:∀(i:Nat) v,its[i]?=some v->v=.ref (tb i))(C:∀j,j<its.size->tU s.heap (tb j) (ks j) (vs j))(hz:its.size<=sizeLine)
  (h:∀h' tk,(∀b o,s.heap.get? b=some o->h'.get? b=some o)->(∃n,KV ((List.range' 0 its.size).foldl (λl j=>putK l (.inl (ks j)) (.int (vs j))) []) n/\h'.DictOf (br prog w) s.heap.objs.size n)->Q (.ref s.heap.objs.size) { s with heap:=h',toks:=tk }) :
  wpAny (model prog w) A (call (.type "dict") [.ref l]) Q E s:=by
 refine callType_codes (Q₁:=λobj c=>obj=.ref s.heap.objs.size/\c={ s with heap:=s.heap.push { cls:=.type "dict",data:=.dict #[] } }) F.kt_called_dict (F.kt_typeCall_dict_1 _) F.entry_dict_init (kt_code_dict_new _ ⟨rfl,rfl⟩) ?_
 rintro obj c ⟨rfl,rfl⟩
 have a:(s.heap.push { cls:=.type "dict",data:=.dict #[] }).DictOf (br prog w) s.heap.objs.size []:=Heap.DictOf.new s.heap;have f:(s.heap.push { cls:=.type "dict",data:=.dict #[] }).get? l=some { cls:=.type "list",data:=.seq its g }:=M3 _ hl;have H:Shared.TypeIs { s with heap:=s.heap.push { cls:=.type "dict",data:=.dict #[] } } (.ref l) "list":=⟨_,f,rfl⟩
 refine⟨a.typeIs,F.args_dict_init_2 _ _,?_⟩;unfold Builtin.«dict.__init__»;refine wpAny_bind ?_;unfold Builtin.Dict.selfAndRest;refine wpAny_bind (wpAny_notOrdered_dict a.typeIs ?_);show wpAny _ _ (pure (s.heap.objs.size,[Value.ref l])) _ _ _;refine wpAny_pure ?_;show wpAny _ _ (Builtin.Dict.updateFrom "dict.__init__" s.heap.objs.size (.ref l) [] .none) _ _ _;unfold Builtin.Dict.updateFrom;refine wpAny_bind (wpAny_typeOf H ?_);rw[if_pos (by decide)];refine wpAny_bind (Ar f (by simpa using B) λh1 tk1 k1=>?_);rw[if_pos (show (none:Option Value).isNone=true from rfl)];refine wpAny_bind (wpAny_rule ?_);have p:h1.get? l=some { cls:=.type "list",data:=.seq its g }:=k1 _ _ f;refine wpAny_bind (wpAny_pyIter_list (items:=its) ⟨_,p,rfl,g,rfl⟩ ?_);have x:h1.DictOf (br prog w) s.heap.objs.size []:=by obtain⟨o,es,ep,e,r⟩:=a;exact⟨o,es,ep,k1 _ _ e,r⟩
 have lt:l<s.heap.objs.size:=Mg hl;have ltD:s.heap.objs.size<h1.objs.size:=by obtain⟨o,_,_,e,_⟩:=x;exact Mg e
 have kp:∀b o,s.heap.get? b=some o->h1.get? b=some o:=λb o e=>k1 _ _ (M3 _ e)
 have y:l≠h1.objs.size:=Mf (Of lt ltD);refine wpAny_pure ⟨plainId_quiet lQ _,?_⟩;refine Bn (A:=A.in1) (I:=h1.objs.size) (D:=s.heap.objs.size) (Walks.list (by simpa using B) h1.objs.size l y its) (λz=>?_) tb ks vs (λi v hv=>hits i v hv) (λi hi=>?_) (λ_=>0) its.size 0 _ [] [] (Nat.sub_zero _) (MR _) ⟨⟨_,Ml _ rfl,rfl,rfl⟩,⟨_,M3 _ p,rfl,g,rfl⟩⟩ (λj J=>?_) .nil ?_ (by rw[MM];omega) (λh' tk K q=>⟨rfl,h h' tk (λb o e=>K b o (λz=>?_) (M3 _ (kp b o e))) q⟩) _ _
 ·simp only[M8,Mt,or_false]at z;rcases z with z|z
  ·exact absurd z (Mf ltD)
  ·exact absurd z (MU lt)
 ·obtain⟨o,_,_,_,e,_⟩:=C i hi;have:=Mg e;refine⟨Mf this,λz=>?_⟩;simp only[Mh]at z;exact absurd z (Mf (Of this ltD))
 ·obtain⟨o,t,u,m,e,r⟩:=C j J;exact⟨o,t,u,m,M3 _ (kp _ _ e),r⟩
 ·obtain⟨o,es,ep,e,r⟩:=x;exact⟨o,es,ep,M3 _ e,r⟩
 ·have G:=Mg e;simp only[M8,Mt,or_false]at z;rcases z with z|z
  ·exact absurd z (Mf G)
  ·exact absurd z (Mf (Of G ltD))
end
theorem FD:bootBuiltins "dict"=some (.type "dict"):=by decide +kernel
def k8(ps:List (Int×Int)):List (Int×Int):=ps.foldl (λl p=>eE l p.1 p.2) []
theorem rZ(ps:List (Int×Int)):∀(d i:Nat)(l:List (Int×Int)),i+d=ps.length->(List.range' i d).foldl (λl j=>putK l (.inl (ps.getD j (0,0)).1) (V.int (ps.getD j (0,0)).2)) (l.map λp=>((.inl p.1,V.int p.2):Key×V))=((ps.drop i).foldl (λl p=>eE l p.1 p.2) l).map λp=>(.inl p.1,V.int p.2)
 |0,i,l,h=>by rw[List.drop_of_length_le (by omega)];rfl
 |d+1,i,l,h=>by
  have hi:i<ps.length:=by omega
  rw[Nr,MC,Ng hi,MC,sW];have e:ps.getD i (0,0)=ps[i]:=by rw[M9,M1 hi];rfl
  rw[e];exact rZ ps d (i+1) _ (by omega)
def yE(H:Hp)(ps:List (Int×Int))(xs:List V):Prop:=xs.length=ps.length/\∀(i:Nat) p,ps[i]?=some p->∃b,xs[i]?=some (.ref b)/\H b=some (.tup [.int p.1,.int p.2])
def tbV(xs:List V)(i:Nat):Addr:=match xs[i]? with
 |some (.ref b)=>b
 |_=>0
def Hz(ta:TA):TE:=λσ H Q=>ta σ H λvs H1=>∃a xs ps,vs=[.ref a]/\H1 a=some (.lst xs)/\yE H1 ps xs/\∀p,H1 p=none->Q (.ref p) (upd H1 p (dkO (k8 ps)))
section
variable {E:XK}{ge:Ds->Rs (List PyData)}
theorem DT(hc:X.calm=true)(E:Gl X "dict")(hm:X.mg "dict"=none)(ha:PA X [e] ta)(F:starEach [e] X.env=[(false,eval e X.env)]):PE X (.Call (.Name "dict" p) [e] [] pos) (Hz ta):=by
 intro pins s σ H Q I h;refine Call_ (fo I E hm FD (PyProof.Rows.callWith_type1 (thn (ha pos pins s σ H _ I h) λus A B=>?_) F rfl));obtain⟨vs,H1,f,C,G⟩:=B;obtain⟨a,xs,ps,e1,hl,⟨hlen,g⟩,q⟩:=G;subst e1;cases C with
 |cons r rr =>
  cases rr;cases r;obtain⟨its,n,D,J,K⟩:=f.lst hl;have c:its.length=ps.length:=by rw[<-D.length,hlen]
  refine n5 J (f.ok.hd hc) (tbV xs) (λi=>(ps.getD i (0,0)).1) (λi=>(ps.getD i (0,0)).2) (λi v hv=>?_) (λj y=>?_) (by simp;rw[<-D.length];exact K) λh' tk hk ⟨us',rel,hd⟩=>?_
  ·rw[List.getElem?_toArray]at hv;have hi:i<ps.length:=by rw[<-c];exact (My.mp hv).1
   obtain⟨b,z,_⟩:=g i ps[i] (M1 hi);obtain⟨u,L,M⟩:=D.get z;rw[L]at hv;cases hv;cases M;unfold tbV;rw[z]
  ·have y:j<ps.length:=by simpa[c] using y
   obtain⟨b,z,N⟩:=g j ps[j] (M1 y);have O:tbV xs j=b:=by unfold tbV;rw[z]
   obtain⟨_,ts,rt,o,g1,g2,_,m,P⟩:=(show cE X.prog X.w H1 A.heap b (.tup [.int ps[j].1,.int ps[j].2]) from f.hok b _ N)
   cases rt with
   |cons C rr =>
    cases rr with
    |cons r2 rr =>
     cases rr;obtain⟨t,rfl⟩:=C;obtain⟨u,rfl⟩:=r2;have R:ps.getD j (0,0)=ps[j]:=by rw[M9,M1 y];rfl
     rw[O,R];exact⟨o,t,u,m,g1,g2,P⟩
  ·rw[Mo,c]at rel;have x:KV ((k8 ps).map λp=>((.inl p.1,V.int p.2):Key×V)) us':=by have:=rZ ps ps.length 0 [] (by omega);rw[Nc,List.drop_zero]at this;rw[this]at rel;exact rel
   refine⟨.ref A.heap.objs.size,_,f.laid (a:=A.heap.objs.size) (o:=dkO (k8 ps)) (t':=tk) (λb q S=>hk b q S) (Me _) (Bt ?_ (beq_eq_false_iff_ne.mpr (Ne.symm (Mf f.big))) x hd),rfl,q _ (f.hok.fresh (Me _))⟩;rw[M4];have hd:∀(qs:List (Int×Int))(l:List (Int×Int)),(qs.foldl (λl p=>eE l p.1 p.2) l).length<=l.length+qs.length:=by
    intro qs
    induction qs with
    |nil=>intro l;exact Me _
    |cons p r ih =>
     intro l;rw[MC,Mp];have h1:=ih (eE l p.1 p.2);have h2:(eE l p.1 p.2).length<=l.length+1:=by unfold eE;split <;> simp
     omega
   have h1:(k8 ps).length<=0+ps.length:=hd ps [];omega
end
def nh:List PyData->Option (List (Int×Int))
 |[]=>some []
 |.tuple [.int a,.int b]::r=>(nh r).map λl=>(a,b)::l
 |_=>none
theorem vS:∀{r:List PyData}{l:List (Int×Int)},nh r=some l->r=l.map λp=>.tuple [.int p.1,.int p.2]
 |[],l,e=>by cases e;rfl
 |x::r,l,e=>by
  unfold nh at e;split at e
  ·rename_i z;cases z
  ·rename_i z;injection z with z1 z2
   subst z1 z2;cases q:nh r with
   |none=>rw[q]at e;cases e
   |some m=>rw[q]at e;cases e;rw[vS q];rfl
  ·cases e
theorem sf:∀l:List (Int×Int),nh (l.map λp=>.tuple [.int p.1,.int p.2])=some l
 |[]=>rfl
 |p::r=>by rw[M5];unfold nh;rw[sf r];rfl
theorem u9{K:PySem.W.Frag}{G H:Hp}(s:av G H):∀{ps:List (Int×Int)}{xs:List V},Iss K G (ps.map λp=>.tuple [.int p.1,.int p.2]) xs->yE H ps xs
 |[],xs,h=>by cases h.nil_of;exact⟨rfl,λi p e=>by cases e⟩
 |p::ps,xs,h=>by
  obtain⟨v,r,rfl,h1,h2⟩:=Iss.cons_of h;obtain⟨c,f⟩:=u9 s h2;refine⟨by simp[c],λi g e=>?_⟩;cases i with
  |succ i=>exact f i g e
  |zero =>cases e;obtain⟨b,ys,rfl,a,j⟩:=h1.ofTup;obtain⟨u,w,rfl,l,hw⟩:=Ay j;rw[l.ofInt,hw.ofInt]at a;exact⟨b,rfl,s _ _ a⟩
def sN(O:List Nat)(i:Nat)(ge:Ds->Rs PyData):Ds->Sr:=λδ=>if i<δ.length then ofR (ge (mask O δ)) λd=>match d with
 |.list ds=>(match nh ds with
  |some ps=>.nx (δ.set i (some (bM (k8 ps))))
  |none=>.no)
 |_=>.no else .no
section
variable {E:XK}{apos:Pos}
theorem CA(hc:X.calm=true)(h:PD X E e ge)(n:Gl X "dict")(hm:X.mg "dict"=none)(c:starEach [e] X.env=[(false,eval e X.env)])(s:X.N.Nodup)(t:i∈O)(hi:X.N[i]?=some x)(u:Loc X.env.scope x)(w:swapsWith (.Call (.Name "dict" p) [e] [] pos') (some (.Name x apos)) pos.line X.env=pure false)
  (y:X.fn x=true\/X.env.scope.names.lookup x=some .local) (z:PAD X E [e] (af ge ah)):PSD X E O (.Assign [.Name x apos] (.Call (.Name "dict" p) [e] [] pos') pos) (sN O i ge):=(mV s hi u (DT hc n hm z.1 c) w y).imp λD σ H f=>by
 obtain⟨H0,A0,A,δ,R,o⟩:=f;unfold sN at o;split at o
 case isFalse=>exact o.elim
 rename_i hl;have ea:af ge ah (mask O δ)=(ge (mask O δ)).bind λd=>.ok [d]:=rfl
 refine aD.run R.part (λds e1 vs H1 l R1 h1=>?_) (λC b H' s'=>?_) (λb=>?_)
 ·rw[ea]at e1;cases eg:ge (mask O δ) with
  |rz C=>rw[eg]at e1;cases e1
  |no=>rw[eg]at e1;cases e1
  |ok d =>
   rw[eg]at e1 o;cases e1;rw[ax]at o;split at o
   ·split at o
    ·rename_i ds ps B;obtain⟨v,r,rfl,h2,F⟩:=Iss.cons_of h1;cases F.nil_of;rw[vS B]at h2;obtain⟨a,xs,rfl,g,j⟩:=h2.ofLst;refine⟨a,xs,ps,rfl,aw _ _ g,u9 aw j,λq m=>?_⟩;exact o (q::A) _ _ (R.setOwnO (o:=dkO (k8 ps)) t hl (l.free m) (l.trans (bL m)) aH rfl (.inl ⟨_,rfl,rfl⟩))
    ·exact o.elim
   ·exact o.elim
 ·rw[ea]at b;cases eg:ge (mask O δ) with
  |rz C'=>rw[eg]at b o;cases b;exact o H' (R.same.trans s')
  |no=>rw[eg]at b;cases b
  |ok d=>rw[eg]at b;cases b
 ·rw[ea]at b;cases eg:ge (mask O δ) with
  |rz C'=>rw[eg]at b;cases b
  |no=>rw[eg]at o;exact o
  |ok d=>rw[eg]at b;cases b
end
def AR(h:Heap)(b:Addr)(ns:List Int):Prop:=∃items:Array Value,IsTup h b items/\IntsAre items.toList ns
theorem AR.at_(t:AR h b ns)(k:∀o,h.get? b=some o->h'.get? b=some o):AR h' b ns:=by obtain⟨its,⟨o,e,r⟩,i⟩:=t;exact⟨its,⟨o,k o e,r⟩,i⟩
theorem oq:(toString "min"++toString ".loop":String)="min.loop":=by decide
section
variable {A:Around}{R:Result->Shared->Prop}{I S:Addr}{wr:List Addr}{T:Nat->Value->Prop}{St:Nat->Heap->Prop}{tb:Nat->Addr}{nss:Nat->List Int}
theorem mP(W:Walks prog w A.in1 I fp wr n T St)(r:A.in1.units<cLine)(t:∀i v,T i v->v=.ref (tb i))(hw:∀i,i<n->tb i∉wr/\tb i≠S)(m:S∉fp):∀(k j:Nat)(s:Shared)(c:Nat),n=j+1+k->St (j+1) s.heap->(∀i,i<n->AR s.heap (tb i) (nss i)) ->
  s.heap.get? S=some { cls:=.type "list",dict:=none,data:=.seq #[.ref (tb (bst (λi j=>HT.lexLt (nss i) (nss j)) j)),.ref (tb (bst (λi j=>HT.lexLt (nss i) (nss j)) j))] c,slots:=#[] }->(∀h' tk,(∀b o,b∉wr->b≠S->s.heap.get? b=some o->h'.get? b=some o)->R (.ok (.ret (.ref (tb (bst (λi j=>HT.lexLt (nss i) (nss j)) (n-1)))))) { s with heap:=h',toks:=tk }) ->
  codeAny (model prog w) A (.builtin "min.loop" ⟨[.ref I,.none,.ref S],[]⟩) R s
 |0,j,s,c,hn,hst,ht,hS,hR=>by
  have u:S∉wr:=λh=>m (W.sub _ h)
  refine codeAny_builtin F.entry_min_loop ?_;rw[Around.under_plainId F.plain_min_loop _];show wpAny _ A.in1 (seqItems? (.ref S) >>= _) _ _ s;refine wpAny_bind (wpAny_seqItems hS rfl ?_);show wpAny _ A.in1 (tryCatch (pyNext (.ref I)) _ >>= _) _ _ s;refine wpAny_bind (wpAny_tryCatch (W.done s _ _ (by rw[show n=j+1 from hn];exact hst) λh1 D k1=>?_));have a:=k1 S _ u hS;show wpAny _ A.in1 (updateSeq S (λ_=>#[]) >>= _) _ _ _;refine wpAny_bind (wpAny_updateSeq a rfl (wpAny_bind (wpAny_letGo (wpAny_pure ?_))));rw[show n-1=j by omega]at hR;exact hR _ D λb o f l z=>(MJ _ _ (Ne.symm l)).trans (k1 b o f z)
 |k+1,j,s,c,hn,hst,ht,hS,hR=>by
  have u:S∉wr:=λh=>m (W.sub _ h)
  refine codeAny_builtin F.entry_min_loop ?_;rw[Around.under_plainId F.plain_min_loop _];show wpAny _ A.in1 (seqItems? (.ref S) >>= _) _ _ s;refine wpAny_bind (wpAny_seqItems hS rfl ?_);show wpAny _ A.in1 (tryCatch (pyNext (.ref I)) _ >>= _) _ _ s;refine wpAny_bind (wpAny_tryCatch (W.item (j+1) s _ _ (by omega) hst λv h1 D hv p k1=>?_));cases t _ _ hv;have a:=k1 S _ u hS;have g:∀i,i<n->AR h1 (tb i) (nss i):=λi hi=>(ht i hi).at_ λo e=>k1 _ o (hw i hi).1 e
  have x:bst (λi j=>HT.lexLt (nss i) (nss j)) j<n:=by have:=ib (λi j=>HT.lexLt (nss i) (nss j)) j;omega
  show wpAny _ A.in1 (tryCatch (holding [Value.ref (tb (j+1)),Value.ref (tb (j+1))] (richCompare .Lt _ _ >>= _)) _ >>= _) _ _ _;obtain⟨i1,p1,f⟩:=g (j+1) (by omega);obtain⟨i2,p2,l⟩:=g _ x;refine wpAny_bind (wpAny_tryCatch (wpAny_holding (wpAny_bind (show wpAny _ _ (compareOp .Lt _ _) _ _ _ from HT.oY p1 p2 f l r (wpAny_bind (wpAny_holding (wpAny_truthy_bool (wpAny_bind (wpAny_letGo (wpAny_pure ?_))))))))));cases q:HT.lexLt (nss (j+1)) (nss (bst (λi j=>HT.lexLt (nss i) (nss j)) j)) with
  |true =>
   have y:bst (λi j=>HT.lexLt (nss i) (nss j)) (j+1)=j+1:=by rw[bst,if_pos q]
   rw[if_pos rfl];refine wpAny_bind (wpAny_updateSeq a rfl (wpAny_bind (wpAny_letGo ?_)));rw[oq];refine wpAny_pure ⟨plainId_quiet F.plain_min_loop _,mP W r t hw m k (j+1) _ _ (by omega) (W.frame _ _ _ p λb B o e=>?_) (λi hi=>(g i hi).at_ λo e=>?_) (by rw[y];exact NH _ a rfl) λh2 C k2=>?_⟩
   ·exact (MJ _ _ (λz:S=b=>m (z▸B))).trans e
   ·exact (MJ _ _ (Ne.symm (hw i hi).2)).trans e
   ·exact hR h2 C λb o f l z=>k2 b o f l ((MJ _ _ (Ne.symm l)).trans (k1 b o f z))
  |false =>
   have y:bst (λi j=>HT.lexLt (nss i) (nss j)) (j+1)=bst (λi j=>HT.lexLt (nss i) (nss j)) j:=by rw[bst,if_neg (by rw[q];decide)]
   rw[if_neg (by decide)];refine wpAny_bind (wpAny_letGo ?_);rw[oq];refine wpAny_pure ⟨plainId_quiet F.plain_min_loop _,mP W r t hw m k (j+1) _ c (by omega) p g (by rw[y];exact a) λh2 C k2=>?_⟩;exact hR h2 C λb o f l z=>k2 b o f l (k1 b o f z)
variable {l:Addr}
theorem Am(r:A.handled=none)(t:A.units+1<cLine)(hl:s.heap.IsList l its)(hits:∀(i:Nat) v,its[i]?=some v->v=.ref (tb i))(m:∀i,i<its.size->AR s.heap (tb i) (nss i))(hn:0<its.size)
  (h:∀h' tk,(∀b o,s.heap.get? b=some o->h'.get? b=some o)->Q (.ref (tb (bst (λi j=>HT.lexLt (nss i) (nss j)) (its.size-1)))) { s with heap:=h',toks:=tk }):wpAny (model prog w) A (call (.builtin "min") [.ref l]) Q E s:=by
 refine call_function_tree F.kind_min F.plain_min F.entry_min (F.args_min1 _) ?_;have u:Builtin.Builtins.bindParams "min" ["key", "default"] 0 ⟨[],[]⟩=pure [none,none]:=rfl;refine wpAny_bind (wpAny_of_eq u (wpAny_bind (wpAny_pure ?_)));refine wpAny_bind (wpAny_pyIter_list hl (wpAny_bind (wpAny_newObj_type ?_)));obtain⟨x,n,cl,y,dl⟩:=hl;have p:l<s.heap.objs.size:=Mg n;have sz:(s.heap.push { cls:=.type "list_iterator",data:=.fields #[.ref l,.int 0 0] }).objs.size=s.heap.objs.size+1:=Heap.size_push ..;have W:=Walks.list (prog:=prog) (w:=w) (A:=A.in1) (by simpa using r) s.heap.objs.size l (Mf p) its;have a:(s.heap.push { cls:=.type "list_iterator",data:=.fields #[.ref l,.int 0 0] }).objs.size∉[s.heap.objs.size,l]:=λhm=>by
  simp only[M8,Mt,or_false]at hm;rw[sz]at hm;rcases hm with z|z
  ·exact absurd z (Oc _)
  ·exact absurd z (MU (ML p))
 have lt:∀i,i<its.size->tb i<s.heap.objs.size:=λi hi=>by obtain⟨_,⟨o,e,_⟩,_⟩:=m i hi;exact Mg e
 have hw:∀i,i<its.size->tb i∉[s.heap.objs.size]/\tb i≠(s.heap.push { cls:=.type "list_iterator",data:=.fields #[.ref l,.int 0 0] }).objs.size:=λi hi=>⟨λz=>by rw[Mh]at z;exact absurd z (Mf (lt i hi)),by rw[sz];exact Mf (ML (lt i hi))⟩
 rw[oq];refine wpAny_pure ⟨plainId_quiet F.plain_min_loop _,codeAny_builtin F.entry_min_loop ?_⟩;rw[Around.under_plainId F.plain_min_loop _];show wpAny _ A.in1 (seqItems? (.ref _) >>= _) _ _ _;refine wpAny_bind (wpAny_seqItems (Ml _ rfl) rfl ?_);show wpAny _ A.in1 (tryCatch (pyNext _) _ >>= _) _ _ _;refine wpAny_bind (wpAny_tryCatch (W.item 0 _ _ _ hn ⟨⟨_,M3 _ (Ml _ rfl),rfl,rfl⟩,⟨x,M3 _ (M3 _ n),cl,y,dl⟩⟩ λv h1 t1 hv f k1=>?_));cases hits 0 v hv;have c:=k1 _ _ (λz=>a (by rw[Mh]at z;rw[z];exact M7)) (Ml (s.heap.push { cls:=.type "list_iterator",data:=.fields #[.ref l,.int 0 0] }) (o:={ cls:=.type "list",data:=.seq #[] }) rfl);show wpAny _ A.in1 (updateSeq _ (λ_=>#[_,_]) >>= _) _ _ _;refine wpAny_bind (wpAny_updateSeq c rfl ?_);rw[oq];refine wpAny_pure ⟨plainId_quiet F.plain_min_loop _,mP (nss:=nss) W (by simpa using t) hits hw a (its.size-1) 0 _ _ (by omega) (W.frame _ _ _ f λb g o e=>?_) (λi hi=>((m i hi).at_ λo e=>?_)) (NH _ c rfl) λh2 B k2=>h h2 B λb o e=>?_⟩
 ·exact (MJ _ _ (λz=>a (by rw[z];exact g))).trans e
 ·exact (MJ _ _ (Ne.symm (hw i hi).2)).trans (k1 _ o (hw i hi).1 (M3 _ (M3 _ e)))
 ·have q:=Mg e;have n1:b∉[s.heap.objs.size]:=λz=>by rw[Mh]at z;exact absurd z (Mf q)
  have n2:b≠(s.heap.push { cls:=.type "list_iterator",data:=.fields #[.ref l,.int 0 0] }).objs.size:=by rw[sz];exact Mf (ML q)
  exact k2 b o n1 n2 ((MJ _ _ (Ne.symm n2)).trans (k1 b o n1 (M3 _ (M3 _ e))))
end
abbrev mh(ns:List Int):PyData:=.tuple (ns.map .int)
def ltN(nss:List (List Int))(i j:Nat):Bool:=HT.lexLt (nss.getD i []) (nss.getD j [])
def Ca(H:Hp)(nss:List (List Int))(ys:List V):Prop:=ys.length=nss.length/\∀(i:Nat) ns,nss[i]?=some ns->∃b,ys[i]?=some (.ref b)/\H b=some (.tup (ns.map V.int))
def G6:List V->Hp->VK->Prop:=λxs H Q=>∃a ys nss,xs=[.ref a]/\H a=some (.lst ys)/\Ca H nss ys/\0<nss.length/\∀b,ys[bst (ltN nss) (nss.length-1)]?=some (.ref b)->Q (.ref b) H
section
variable {E:XK}{a:Expr}{es:List Expr}
theorem AS(hc:X.calm=true)(f:X.A.units+1<cLine):jS X (.builtin "min") G6:=by
 intro pins s σ H xs us Q I r h;obtain⟨a,ys,nss,rfl,hl,⟨hlen,hts⟩,hn,q⟩:=h;obtain⟨u,rfl,m⟩:=vals1 r;cases m;obtain⟨its,n,l,o,hz⟩:=I.lst hl;have c:its.length=nss.length:=by rw[<-l.length,hlen]
 have g:bst (ltN nss) (nss.length-1)<nss.length:=by have:=ib (ltN nss) (nss.length-1);omega
 refine Am (tb:=tbV ys) (nss:=λi=>nss.getD i []) (its:=its.toArray) (I.ok.hd hc) f ⟨_,o,rfl,n,rfl⟩ (λi v hv=>?_) (λi hi=>?_) (by simp;omega) λh' tk t=>?_
 ·rw[List.getElem?_toArray]at hv;have hi:i<nss.length:=by rw[<-c];exact (My.mp hv).1
  obtain⟨b,e,_⟩:=hts i nss[i] (M1 hi);obtain⟨u,f,x⟩:=l.get e;rw[f]at hv;cases hv;cases x;unfold tbV;rw[e]
 ·have hi:i<nss.length:=by simpa[c] using hi
  obtain⟨b,e,y⟩:=hts i nss[i] (M1 hi);have j:tbV ys i=b:=by unfold tbV;rw[e]
  obtain⟨_,ts,rt,p⟩:=(show cE X.prog X.w H s.heap b (.tup (nss[i].map V.int)) from I.hok b _ y)
  have z:nss.getD i []=nss[i]:=by rw[M9,M1 hi];rfl
  rw[j,z];exact⟨ts.toArray,p.tup,intsAre_of rt⟩
 ·rw[Mo,c];obtain⟨b,e,_⟩:=hts _ _ (M1 g);have j:tbV ys (bst (ltN nss) (nss.length-1))=b:=by unfold tbV;rw[e]
  exact⟨.ref b,H,I.kept t,congrArg Value.ref j,q b e⟩
def mQ:List PyData->Option (List (List Int))
 |[]=>some []
 |.tuple ds::r=>(intsOf ds).bind λns=>(mQ r).map (ns::·)
 |_=>none
theorem rH:∀{ds:List PyData}{nss:List (List Int)},mQ ds=some nss->ds=nss.map mh
 |[],nss,h=>by cases h;rfl
 |.tuple ds::r,nss,h=>by unfold mQ at h;obtain⟨ns,e1,h⟩:=Nx.mp h;obtain⟨l,e2,h⟩:=N1.mp h;subst h;rw[mH e1,rH e2];rfl
 |.none::_,_,h=>by cases h
 |.bool _::_,_,h=>by cases h
 |.int _::_,_,h=>by cases h
 |.str _::_,_,h=>by cases h
 |.list _::_,_,h=>by cases h
 |.dict _::_,_,h=>by cases h
theorem ux{K:PySem.W.Frag}{G H:Hp}(s:av G H):∀{nss:List (List Int)}{xs:List V},Iss K G (nss.map mh) xs->Ca H nss xs
 |[],xs,h=>by cases h.nil_of;exact⟨rfl,λi p e=>by cases e⟩
 |ns::nss,xs,h=>by
  obtain⟨v,r,rfl,h1,h2⟩:=Iss.cons_of h;obtain⟨c,f⟩:=ux s h2;refine⟨by simp[c],λi g e=>?_⟩;cases i with
  |succ i=>exact f i g e
  |zero =>cases e;obtain⟨b,ys,rfl,a,j⟩:=h1.ofTup;rw[j.ofInts]at a;exact⟨b,rfl,s _ _ a⟩
def jr:List PyData->Option PyData
 |[.list x]=>(mQ x).bind λnss=>if 0<nss.length then some (mh (nss.getD (bst (ltN nss) (nss.length-1)) [])) else none
 |_=>none
theorem D4:FnD K jr G6:=λds d vs H A Q e hA h k=>by
 unfold jr at e;split at e
 ·rename_i x;obtain⟨nss,q,e⟩:=Nx.mp e;split at e
  ·rename_i hn;cases e;obtain⟨v,rfl,g⟩:=ku h;obtain⟨p,xs,rfl,i,f⟩:=g.ofLst;rw[rH q]at f;have a:bst (ltN nss) (nss.length-1)<nss.length:=by have:=ib (ltN nss) (nss.length-1);omega
   refine⟨p,xs,nss,rfl,aw _ _ i,ux aw f,hn,λb j=>k _ H (av.refl _) ?_⟩;obtain⟨_,l⟩:=ux (av.refl _) f;obtain⟨b',c,m⟩:=l _ _ (M1 a);rw[j]at c;cases c;rw[show nss.getD (bst (ltN nss) (nss.length-1)) []=nss[bst (ltN nss) (nss.length-1)] by rw[M9,M1 a];rfl];exact ik m (pT _)
  ·cases e
 ·cases e
theorem Ew(hc:X.calm=true)(c:X.A.units+1<cLine)(hm:X.mg "min"=none)(ha:PAD X E (a::es) gs)(e:Gl X "min")(f:starEach (a::es) X.env=(false,eval a X.env)::starEach es X.env)(b:(backTo pos (starEach es X.env)).any (·.1)=false) :
 PD X E (.Call (.Name "min" p) (a::es) [] pos) (gF jr gs):=fJ D4 ha λh=>fM (AS hc c) e hm yg h (by decide) (by decide) f b
end
section
variable {E:XK}
theorem bK.releaseO{m:PyData}(R:bK K H0 A0 H A O δ σ)(hi:i∈O)(e:δ[i]?=some (some m)):∃p,bK K H0 A0 H p (O.filter (·≠i)) δ σ:=by
 obtain⟨a,o,d',e1,h1,h2,r,s⟩:=R.own i m hi e;subst r;have sub:∀b∈A.filter (·≠a)++A0,b∈A++A0:=λb c=>(Mx.mp c).elim (λz=>MF _ (Mn.mp z).1) (Md _)
 have na:a∉A.filter (·≠a)++A0:=λz=>(Mx.mp z).elim (λz=>by simpa using (Mn.mp z).2) (R.apart h1)
 refine⟨A.filter (·≠a),R.same,R.ls0,λb c=>R.new b (Mn.mp c).1,λb c=>R.ls b (Mn.mp c).1,R.len,λj d f q=>?_,λj d f q=>?_,λj k d e a f t=>R.inj j k d e a (Mn.mp f).1 (Mn.mp t).1⟩
 ·by_cases z:j=i
  ·subst z;rw[e]at q;cases q;exact⟨.ref a,e1,(s.same (gr sub)).is (by rw[aI na];exact h2)⟩
  ·obtain⟨v,g,h⟩:=R.pl j d (λw=>f (Mn.mpr ⟨w,by simpa using z⟩)) q;exact⟨v,g,h.same (gr sub)⟩
 ·obtain⟨n,l⟩:=Mn.mp f;have l:j≠i:=by simpa using l
  obtain⟨b,ys,es,g,h,u,x,y⟩:=R.own j d n q;refine⟨b,ys,es,g,Mn.mpr ⟨h,?_⟩,u,x,y.same (gr sub)⟩;have:b≠a:=λw=>by subst w;exact l (R.inj j i d _ b n hi q e g e1)
  simpa using this
def nM(i:Nat)(G:Ds->Sr):Ds->Sr:=λδ=>match δ[i]? with
 |some (some _)=>(match G δ with
  |.rt d=>.rt d
  |.rz C=>.rz C
  |_=>.no)
 |_=>.no
theorem vA{O':List Nat}{G:Ds->Sr}(h:PBD X E O' ss G)(hi:i∈O)(b:O.filter (·≠i)=O'):PBD X E O ss (nM i G):=by
 subst b;exact h.imp λD σ H a=>by
  obtain⟨H0,A0,A,δ,R,o⟩:=a;unfold nM at o;split at o
  ·rename_i d q;obtain⟨c,e⟩:=R.releaseO hi q;refine⟨H0,A0,c,δ,e,?_⟩;cases g:G δ with
   |rt d=>rw[g]at o;exact o
   |rz C=>rw[g]at o;exact o
   |nx _=>rw[g]at o;exact o.elim
   |bk _=>rw[g]at o;exact o.elim
   |ct _=>rw[g]at o;exact o.elim
   |no=>rw[g]at o;exact o.elim
  ·exact o.elim
end
end L2
set_option maxHeartbeats 1000000
namespace RS
open PySem L2
variable {go b a:Ds->Rs PyData}{c:Ds->Rs Bool}{tgt:PyData->Ds->Option Ds}{v:Int}
theorem kE(l:List (Int×Int))(k v a:Int):a8 (eE l k v) a=if a=k then some v else a8 l a:=by
 have hv:=BB (l.map λp=>((.inl p.1,V.int p.2):Key×V)) (.inl k) (.inl a) (.int v);rw[sW,iz,iz]at hv;by_cases z:a=k
 ·rw[if_pos z];rw[if_pos (by rw[z])]at hv;cases q:a8 (eE l k v) a with
  |none=>rw[q]at hv;cases hv
  |some x=>rw[q]at hv;cases hv;rfl
 ·rw[if_neg z];rw[if_neg (λe=>z (Sum.inl.inj e))]at hv;cases q:a8 (eE l k v) a with
  |none =>
   rw[q]at hv;cases p:a8 l a with
   |none=>rfl
   |some y=>rw[p]at hv;cases hv
  |some x =>
   rw[q]at hv;cases p:a8 l a with
   |none=>rw[p]at hv;cases hv
   |some y=>rw[p]at hv;cases hv;rfl
def gK(l:List (Int×Int))(j:Jb):List (Int×Int):=match j.held with
 |some T=>eE l T j.num
 |none=>l
def aU(js:List Jb):List (Int×Int):=js.foldl gK []
theorem sk{js:List Jb}(one:∀i∈js,∀j∈js,∀T,i.held=some T->j.held=some T->i.num=j.num)(T:Int):∀(us:List Jb)(l:List (Int×Int)),(∀j∈us,j∈js)->a8 (us.foldl gK l) T=(((us.find? λj=>j.held==some T).map (·.num)).or (a8 l T))
 |[],l,_=>rfl
 |j::r,l,h=>by
  rw[MC,sk one T r _ (λj a=>h j (M6 _ a)),MY];unfold gK;by_cases z:j.held=some T
  ·have e1:(j.held==some T)=true:=by rw[z];exact beq_self_eq_true _
   rw[e1,z];simp only;rw[kE,if_pos rfl];cases q:r.find? (λj=>j.held==some T) with
   |none=>rfl
   |some k =>have b:=MT q;have c:=ND q;have:=one k (h k (M6 _ b)) j (h j M7) T (by simpa using c) z;show some k.num=some j.num;rw[this]
  ·have e1:(j.held==some T)=false:=by
    cases q:(j.held==some T) with
    |false=>rfl
    |true=>exact absurd (eq_of_beq q) z
   rw[e1];simp only;cases q:j.held with
   |none=>rfl
   |some S =>simp only;rw[kE,if_neg (λe=>z (by rw[q,e]))]
theorem kL(one:∀i∈js,∀j∈js,∀T,i.held=some T->j.held=some T->i.num=j.num)(T:Int):a8 (aU js) T=(fO js (some T)).map (·.num):=by unfold aU;rw[sk one T js [] (λ_ h=>h),show a8 [] T=none from rfl,Option.or_none];rfl
def bH(js:List Jb):List (Int×Int):=k8 (js.map λj=>(j.num,j.rank))
theorem nA:∀(us:List Jb)(l:List (Int×Int))(n:Int),(us.map (·.num)).Nodup->a8 ((us.map λj=>(j.num,j.rank)).foldl (λl p=>eE l p.1 p.2) l) n=(((us.find? λj=>j.num==n).map (·.rank)).or (a8 l n))
 |[],l,n,_=>rfl
 |j::r,l,n,h=>by
  have hn:=(MG.mp h)
  rw[M5,MC,nA r _ n hn.2,MY];by_cases z:j.num=n
  ·have e1:(j.num==n)=true:=by rw[z];exact beq_self_eq_true _
   rw[e1,kE,if_pos z.symm];cases q:r.find? (λj=>j.num==n) with
   |none=>rfl
   |some k =>have a:=MT q;have b:=ND q;exact absurd (Mj.mpr ⟨k,a,(eq_of_beq b).trans z.symm⟩) hn.1
  ·have e1:(j.num==n)=false:=by
    cases q:(j.num==n) with
    |false=>rfl
    |true=>exact absurd (eq_of_beq q) z
   rw[e1,kE,if_neg (λe=>z e.symm)]
theorem jl(nd:(js.map (·.num)).Nodup)(a:j∈js):js.find? (λk=>k.num==j.num)=some j:=by
 induction js with
 |nil=>cases a
 |cons k r ih =>
  rw[M5]at nd;obtain⟨n1,n2⟩:=MG.mp nd;rw[MY];rcases M8.mp a with rfl|a
  ·rw[beq_self_eq_true]
  ·have:(k.num==j.num)=false:=by
    cases q:(k.num==j.num) with
    |false=>rfl
    |true=>exact absurd (Mj.mpr ⟨j,a,(eq_of_beq q).symm⟩) n1
   rw[this];exact ih n2 a
theorem dS(nd:(js.map (·.num)).Nodup)(a:j∈js):a8 (bH js) j.num=some j.rank:=by unfold bH k8;rw[nA js [] j.num nd,jl nd a];rfl
theorem CV{k:Int}(h:(l.map (·.1)).Nodup):((eE l k v).map (·.1)).Nodup:=by
 unfold eE;split
 ·rw[Ms];have:(l.map ((·.1)∘λp:Int×Int=>if p.1=k then (p.1,v) else p))=l.map (·.1):=Mv λp _=>by show (if p.1=k then (p.1,v) else p).1=p.1;split <;> rfl
  rw[this];exact h
 ·rename_i z;rw[N4];refine NG.mpr ⟨h,by simp,λa ha b c e=>?_⟩;simp only[M5,Nc,Mh]at c;obtain⟨p,f,rfl⟩:=Mj.mp ha;exact z (Nd.mpr ⟨p,f,decide_eq_true (e.trans c)⟩)
theorem FJ{k:Int}{p:Int×Int}(h:p∈eE l k v):p=(k,v)\/p∈l:=by
 unfold eE at h;split at h
 ·obtain⟨q,a,rfl⟩:=Mj.mp h;split
  ·rename_i z;left;rw[z]
  ·exact .inr a
 ·rcases Mx.mp h with h|h
  ·exact .inr h
  ·exact .inl (Mh.mp h)
theorem B8{k:Int}(h:a8 l k=some v):(k,v)∈l:=by unfold a8 at h;obtain⟨p,a,rfl⟩:=N1.mp h;have h1:=MT a;have h2:p.1=k:=of_decide_eq_true (ND (p:=λp:Int×Int=>decide (p.1=k)) a);rw[<-h2];exact h1
theorem rG:∀(us:List Jb)(l:List (Int×Int)),(l.map (·.1)).Nodup->((us.foldl gK l).map (·.1)).Nodup
 |[],l,h=>h
 |j::r,l,h=>by
  rw[MC];refine rG r _ ?_;unfold gK;split
  ·exact CV h
  ·exact h
theorem lp:∀(us:List Jb)(l:List (Int×Int)){p:Int×Int},p∈us.foldl gK l->(∃j∈us,j.held=some p.1/\j.num=p.2)\/p∈l
 |[],l,p,h=>.inr h
 |j::r,l,p,h=>by
  rw[MC]at h;rcases lp r _ h with⟨k,a,h1⟩|h
  ·exact .inl ⟨k,M6 _ a,h1⟩
  ·unfold gK at h;split at h
   ·rename_i T b;rcases FJ h with rfl|h
    ·exact .inl ⟨j,M7,b,rfl⟩
    ·exact .inr h
   ·exact .inr h
section
theorem pq(nd:(js.map (·.num)).Nodup){i:Jb}(hi:i∈js)(a:j∈js)(e:i.num=j.num):i=j:=by have h1:=jl nd hi;rw[e,jl nd a]at h1;exact (Option.some.inj h1).symm
theorem uP(nd:(js.map (·.num)).Nodup)(one:∀i∈js,∀j∈js,∀T,i.held=some T->j.held=some T->i.num=j.num)(a:j∈js)(b:j.held=some T):(T,j.num)∈aU js:=by
 refine B8 ?_;rw[kL one];unfold fO;rw[N7];cases q:js.find? (λk=>k.held==some T) with
 |none=>exact absurd (by rw[b];exact beq_self_eq_true _) (NS.mp q j a)
 |some k =>have:=one k (MT q) j a T (by simpa using ND q) b;show some k.num=some j.num;rw[this]
theorem A5(nd:(js.map (·.num)).Nodup)(one:∀i∈js,∀j∈js,∀T,i.held=some T->j.held=some T->i.num=j.num)(a:j∈js):((aU js).any λp=>decide (p.2=j.num))=j.held.isSome:=by
 cases q:j.held with
 |some T=>exact Nd.mpr ⟨_,uP nd one a q,decide_eq_true rfl⟩
 |none =>
  refine List.any_eq_false.mpr λp b=>?_
  intro z;rcases lp js [] b with⟨k,c,h1,h2⟩|h
  ·have e:=pq nd c a (h2.trans (of_decide_eq_true z));rw[e,q]at h1;cases h1
  ·cases h
end
def hiS(tops:PyData)(l:List (Int×Int))(p:Int×Int):List (Int×Int):=eE l p.2 (let a:=(a8 l p.2).getD 0;if gW tops p.1<a then gW tops p.1 else a)
def placesH(tops:PyData)(js:List Jb):List (Int×Int):=(aU js).foldl (hiS tops) (bH js)
def kH(tops:PyData)(j:Jb):Int:=match j.held with
 |none=>j.rank
 |some t=>if gW tops t<j.rank then gW tops t else j.rank
theorem oA{tops:PyData}{n:Int}:∀{ps l:List (Int×Int)},(∀p∈ps,p.2≠n)->a8 (ps.foldl (hiS tops) l) n=a8 l n
 |[],l,_=>rfl
 |p::r,l,h=>by rw[MC,oA λq a=>h q (M6 _ a)];unfold hiS;rw[kE,if_neg (λe=>h p M7 e.symm)]
theorem ua(nd:(js.map (·.num)).Nodup)(one:∀i∈js,∀j∈js,∀T,i.held=some T->j.held=some T->i.num=j.num)(g:j∈js):a8 (placesH tops js) j.num=some (kH tops j):=by
 unfold placesH kH;have src:∀p∈aU js,p.2=j.num->j.held=some p.1:=λp c e=>by
  rcases lp js [] c with⟨k,f,h1,h2⟩|h
  ·rw[<-pq nd f g (h2.trans e)];exact h1
  ·cases h
 cases q:j.held with
 |none =>
  rw[oA λp c e=>?_]
  ·exact dS nd g
  ·have:=src p c e;rw[q]at this;cases this
 |some T =>
  obtain⟨a,b,e⟩:=List.append_of_mem (uP nd one g q);have f:=rG js [] O6;have f:((aU js).map (·.1)).Nodup:=f;rw[e,N4,M5]at f;obtain⟨_,h2,m⟩:=NG.mp f;have na:∀p∈a,p.2≠j.num:=λp c z=>by have:=src p (by rw[e];exact MF _ c) z;rw[q]at this;exact m p.1 (O5 c) T M7 (Option.some.inj this).symm
  have n:∀p∈b,p.2≠j.num:=λp c z=>by have:=src p (by rw[e];exact Md _ (M6 _ c)) z;rw[q]at this;exact (MG.mp h2).1 (Mj.mpr ⟨p,c,(Option.some.inj this).symm⟩)
  have ea:=oA (tops:=tops) (l:=bH js) na;rw[dS nd g]at ea;rw[e,List.foldl_append,MC,oA n];show a8 (eE _ j.num _) j.num=_;rw[kE,if_pos rfl];show some (if gW tops T<(a8 (a.foldl (hiS tops) (bH js)) j.num).getD 0 then gW tops T else (a8 (a.foldl (hiS tops) (bH js)) j.num).getD 0)=_;rw[ea];rfl
theorem tm{f g:Nat->Nat->Bool}:∀k,(∀i j,i<=k->j<i->f i j=g i j)->bst f k=bst g k
 |0,_=>rfl
 |k+1,h=>by
  have a:=tm k λi j hi b=>h i j (by omega) b
  unfold bst;rw[a,h (k+1) (bst g k) (Me _) (by have:=ib g k;omega)]
def mr(tops:PyData)(j:Jb):List Int:=[kH tops j,if j.held.isSome then 0 else 1,j.num]
theorem AU(e:js≠[])(up:js.Pairwise λi j=>i.num<j.num):((js.map (mr tops)).getD (bst (ltN (js.map (mr tops))) ((js.map (mr tops)).length-1)) [])=mr tops (eu (fz tops) js):=by
 have hl:0<js.length:=MP.mpr e;have key:∀i(hi:i<js.length),(js.map (fz tops)).getD i .none=fz tops js[i]:=λi hi=>by rw[M9,Mc,M1 hi];rfl
 have row:∀i(hi:i<js.length),(js.map (mr tops)).getD i []=mr tops js[i]:=λi hi=>by rw[M9,Mc,M1 hi];rfl
 have f:bst (ltN (js.map (mr tops))) ((js.map (mr tops)).length-1)=eZ (js.map (fz tops)):=by
  unfold eZ;rw[M4,M4];refine tm _ λi j hi g=>?_
  have a:i<js.length:=by omega
  have b:j<js.length:=by omega
  unfold ltN;rw[row i a,row j b,key i a,key j b];have hn:js[j].num<js[i].num:=NQ.mp up j i b a g;have e1:∀k:Jb,∃x:Int,fz tops k=.tuple [.int (kH tops k),.int (if k.held.isSome then 0 else 1)]:=λk=>⟨0,by unfold fz kH;cases k.held <;> rfl⟩
  obtain⟨_,e2⟩:=e1 js[i];obtain⟨_,h⟩:=e1 js[j];rw[e2,h];show HT.lexLt _ _=HT.lexLt [_,_] [_,_];unfold mr;have l:HT.lexLt [js[i].num] [js[j].num]=false:=by rw[HT.cN,if_neg (by omega)];exact decide_eq_false (by omega)
  rw[HT.cN,HT.cN,l,HT.cN,HT.cN,HT.fD]
 have c:eZ (js.map (fz tops))<js.length:=by unfold eZ;have:=ib (λi j=>ltD ((js.map (fz tops)).getD i .none) ((js.map (fz tops)).getD j .none)) ((js.map (fz tops)).length-1);rw[M4]at this ⊢;omega
 rw[f,row _ c];unfold eu;rw[M9,M1 c];rfl
theorem rq{w:Option Int}{o:Jb}(h:fO js w=some o):o∈js:=by unfold fO at h;obtain⟨t,_,h⟩:=Nx.mp h;exact MT h
def qM(js:List Jb)(l:List (Int×Int))(j:Jb):List (Int×Int):=match fO js j.wanted with
 |some o=>eE l o.num (let a:=(a8 l o.num).getD 0;if j.rank<a then j.rank else a)
 |none=>l
def k9(js:List Jb)(asked:Bool):List (Int×Int):=if asked=true then js.foldl (qM js) (bH js) else bH js
theorem yv{js:List Jb}(nd:(js.map (·.num)).Nodup):∀(us:List Jb)(l m:List (Int×Int)),(∀k∈js,a8 l k.num=some ((a8 m k.num).getD k.rank))->∀k∈js,a8 (us.foldl (qM js) l) k.num=some ((a8 (us.foldl (nB js) m) k.num).getD k.rank)
 |[],l,m,h=>h
 |j::r,l,m,h=>by
  rw[MC,MC];refine yv nd r _ _ λk a=>?_
  unfold qM nB;cases q:fO js j.wanted with
  |none=>exact h k a
  |some o =>
   have b:=rq q;simp only;rw[kE,kE];by_cases z:k.num=o.num
   ·have e:=pq nd a b z;subst e;rw[if_pos rfl,if_pos rfl,h k a];show some _=some _;congr 1;show (if j.rank<(a8 m k.num).getD k.rank then j.rank else (a8 m k.num).getD k.rank)=(some _:Option Int).getD k.rank;rw[Nl];split <;> split <;> omega
   ·rw[if_neg z,if_neg z];exact h k a
theorem ur(nd:(js.map (·.num)).Nodup)(asked:Bool){k:Jb}(a:k∈js):a8 (k9 js asked) k.num=some ((a8 (if asked=true then kx js else []) k.num).getD k.rank):=by
 unfold k9;cases asked with
 |false=>rw[if_neg (by decide),if_neg (by decide)];exact dS nd a
 |true =>rw[if_pos rfl,if_pos rfl];exact yv nd js _ [] (λk a=>by rw[dS nd a];rfl) k a
def qN(l:List (Int×Int))(j:Jb):List Int:=[(a8 l j.num).getD j.rank,j.num]
theorem A7(e:js≠[])(up:js.Pairwise λi j=>i.num<j.num):((js.map (qN l)).getD (bst (ltN (js.map (qN l))) ((js.map (qN l)).length-1)) [])=qN l (eu (lU l) js):=by
 have hl:0<js.length:=MP.mpr e;have key:∀i(hi:i<js.length),(js.map (lU l)).getD i .none=lU l js[i]:=λi hi=>by rw[M9,Mc,M1 hi];rfl
 have row:∀i(hi:i<js.length),(js.map (qN l)).getD i []=qN l js[i]:=λi hi=>by rw[M9,Mc,M1 hi];rfl
 have f:bst (ltN (js.map (qN l))) ((js.map (qN l)).length-1)=eZ (js.map (lU l)):=by
  unfold eZ;rw[M4,M4];refine tm _ λi j hi g=>?_
  have a:i<js.length:=by omega
  have b:j<js.length:=by omega
  unfold ltN;rw[row i a,row j b,key i a,key j b];have hn:js[j].num<js[i].num:=NQ.mp up j i b a g;show HT.lexLt _ _=HT.lexLt [_] [_];unfold qN;have h:HT.lexLt [js[i].num] [js[j].num]=false:=by rw[HT.cN,if_neg (by omega)];exact decide_eq_false (by omega)
  rw[HT.cN,h,HT.cN,HT.fD]
 have c:eZ (js.map (lU l))<js.length:=by unfold eZ;have:=ib (λi j=>ltD ((js.map (lU l)).getD i .none) ((js.map (lU l)).getD j .none)) ((js.map (lU l)).length-1);rw[M4]at this ⊢;omega
 rw[f,row _ c];unfold eu;rw[M9,M1 c];rfl
theorem eX{f:Gf}{a:Ds->Rs (List PyData)}{d:PyData}(ha:a δ=.ok ds)(b:f ds=.ok d):au f a δ=.ok d:=by rw[bS,ha,Rs.ag,b]
theorem bQ{a b:Ds->Sr}{c:Ds}(h:a δ=.nx c):az a b δ=b c:=by rw[aT,h]
theorem ui{body:Ds->Sr}(h:src (mask O δ)=.ok ds):eP O src tgt body δ=forL tgt body ds δ:=by rw[kM,h,ax]
theorem pQ{g:Ds->Rs (List PyData)}(hi:i<δ.length)(a:g (mask O δ)=.ok ds):dh O i g δ=.nx (δ.set i (some (.list ds))):=by unfold dh;rw[if_pos hi,a,ax]
theorem Cms.sorted(h:Cms es rows)(ok:∀e∈es,e.Ok):∀r∈rows,r.Pairwise (· < ·):=by
 induction h with
 |nil=>intro r a;cases a
 |cons a hv _ ih =>
  intro b h';rcases M8.mp h' with rfl|h'
  ·have o:=ok _ M7;exact (r8 o.l3 o.l1 _ _ hv).2
  ·exact ih (λe c=>ok e (M6 _ c)) b h'
section
variable {len:Str}
theorem qu(h:i<(startJ es rs rows).length):∃row,(startJ es rs rows)[i]=mkJ es rs i row:=by
 have e:=mU (es:=es) (rs:=rs) (rows:=rows) i;rw[M1 h]at e;cases q:rows[i]? with
 |none=>rw[q]at e;cases e
 |some row=>rw[q]at e;exact⟨row,Option.some.inj e⟩
theorem B4(R:Ran es rs rows len)(C:Cms es rows):IvJ (bu es rs) ((([]:List PyData).length:Nat):Int) (startJ es rs rows):=by
 refine⟨kZ R.eok R.rok R.ln,λj a=>?_,λj a=>?_⟩
 ·obtain⟨k,row,_,hm,_,rfl⟩:=cU a;exact C.sorted R.eok.ok row hm
 ·have hw:=yV ((kZ R.eok R.rok R.ln).ok j a);obtain⟨k,row,_,hm,_,rfl⟩:=cU a;unfold jt;rw[rM];have:=Int.mul_nonneg (Nz (kR (mkJ es rs k row).row ((([]:List PyData).length:Nat):Int))) (show 0<=(mkJ es rs k row).work by omega);omega
theorem DG(R:Ran es rs rows len)(C:Cms es rows):Sx (startJ es rs rows):=by
 refine⟨λi hi=>?_,λj a=>?_,λj a=>?_⟩
 ·obtain⟨row,e⟩:=qu hi;rw[e];rfl
 ·obtain⟨k,row,_,hm,_,rfl⟩:=cU a;have:=(C.sS row hm).few;show row.length<=1000;omega
 ·obtain⟨k,row,hk,hm,_,rfl⟩:=cU a;have ok:=R.eok.ok _ (gO (n:=(k:Int)) (by omega) (by have:=R.ln;omega));have h1:=tP λp b=>(ok.pl p b).2.1
  have h2:=ok.p2;show bO (dD es (k:Int)).parts<=1000;omega
end
theorem GK:SeqAt.shaped (.str "none")=true:=by decide +kernel
theorem Fh(ns:List Int):∃len,dIx (.list [.str "high",.str "asked",.str "none"]) (.int (mixed ns 10 3))=some (.str len)/\fP len:=by
 have h0:=cz ns 10 (many:=3) (by decide);have h1:=cJ ns 10 (many:=3) (by decide);generalize mixed ns 10 3=m at *;have:m=0\/m=1\/m=2:=by omega
 rcases this with rfl|rfl|rfl
 ·exact⟨"high",rfl,⟨uJ⟩⟩
 ·exact⟨"asked",rfl,⟨pX⟩⟩
 ·exact⟨"none",rfl,⟨GK⟩⟩
def jF(cs:Cs):Ds->Sr :=
 (az (eP [] (kB (af (g2 dIx (ae 0) (gC (.int 3))) ah)) (d8 [2,3]) (az (sIf (gT (g2 dLt (ae 1) (g2 dIx (ae 3) (gC (.int 0))))) (bx (cL (af (ae 2) (af (g2 dIx (ae 3) (gC (.int 1))) (af (ae 1) ah))))) aX)
  (aR [] 1 (g2 gM (ae 1) (g2 dIx (ae 3) (gC (.int 0)))))))
  (bx (cL (af (gF bA (af (g2 dIx (ae 0) (gC (.int 3))) ah)) (af (gC .none) (af (gC (.int 0)) ah))))))
def gB(cs:Cs)(bo:Gf):Ds->Sr :=
 (az (pj 3)
  (az (eP [3] (bB (ae 2)) (aZ 4) (az (qE [3] (d8 [5,6,7]) (au bo (af (g2 dIx (ae 0) (ae 4)) (af (g2 dIx (ae 1) (ae 4)) ah))))
  (sIf (qS (gT (g2 dGt (ae 7) (gC (.int 0)))) (gT (g1 jL (ae 6)))) (ff 3 (ae 6) (ae 4)) aX)))
  (zG 3)))
def eW(cs:Cs)(bo cw aN:Gf):Ds->Sr :=
 (az (aR [7,10] 5 (au aN (af (ae 0) (af (ae 1) ah))))
  (az (aR [7,10] 6 (au cw (af (ae 0) (af (ae 3) (af (ae 4) ah)))))
  (az (sN [7,10] 7 (gL (aS 14 (bB (ae 4)) ba (cL (af (ae 14) (af (j4 (ae 1) (ae 14)) ah))) aE)))
  (az (sIf (gT (g2 dEq (ae 2) (gC (.str "high")))) (az (eP [7,10] (kX (ae 6)) (aZ 8) (ff 7 (gDF (ae 6) (ae 8)) (gF gA (af (gDI (ae 7) (gDF (ae 6) (ae 8))) (af (g2 dIx (ae 5) (ae 8)) ah)))))
  (nM 7 (az (aR [10] 9 (gL (aS 14 (bB (ae 4)) ba (cL (af (gDI (ae 7) (ae 14)) (af (gF nY (af (qY (ae 14) (ae 6)) ah)) (af (ae 14) ah)))) aE)))
  (bx (g2 dIx (gF jr (af (ae 9) ah)) (gC (.int 2))))))) aX)
  (az (dh [7,10] 10 ah)
  (az (eP [7,10] (bB (ae 4)) (aZ 11) (az (qE [7,10] (d8 [12,8,13]) (au bo (af (g2 dIx (ae 0) (ae 11)) (af (g2 dIx (ae 3) (ae 11)) ah))))
  (sIf (qS (gT (g2 dEq (ae 13) (gC (.int 0)))) (gT (g2 ue (ae 8) (ae 6)))) (sIf (gT (g2 dEq (ae 2) (gC (.str "asked")))) (ff 7 (gDF (ae 6) (ae 8)) (gF gA (af (gDI (ae 7) (gDF (ae 6) (ae 8))) (af (j4 (ae 1) (ae 11)) ah)))) aX) (fR [7,10] 10 (ae 11)))))
  (CF 10 (nM 7 (bx (g2 dIx (gF jr (af (gL (aS 14 (bB (ae 10)) ba (cL (af (gDI (ae 7) (ae 14)) (af (ae 14) ah))) aE)) ah)) (gC (.int 1))))))))))))
def iB(cs:Cs)(bo cf:Gf):Ds->Sr :=
 (az (dh [4,5,6,7] 4 (aS 10 (bB (ae 0)) ba (gC (.int 0)) aE))
  (az (dh [4,5,6,7] 5 (aS 10 (bB (ae 0)) ba (gC (.int 0)) aE))
  (az (dh [4,5,6,7] 6 ah)
  (az (λδ=>bF (gT (g2 dNe (gL (aS 10 (eJ (af (gF bA (af (ae 0) ah)) ah)) (gT (g2 dLt (g2 dIx (ae 4) (ae 10)) (gF bA (af (g2 dIx (ae 2) (ae 10)) ah)))) (ae 10) aE)) (jj ah))) (az (dh [4,5,6,7] 7 ah)
  (az (eP [4,5,6,7] (eJ (af (gF bA (af (ae 0) ah)) ah)) (aZ 8) (sIf (qS (gT (g2 dLt (g2 dIx (ae 4) (ae 8)) (gF bA (af (g2 dIx (ae 2) (ae 8)) ah)))) (gT (g2 dLe (g2 dIx (g2 dIx (ae 2) (ae 8)) (g2 dIx (ae 4) (ae 8))) (gF bA (af (ae 6) ah))))) (fR [4,5,6,7] 7 (ae 8)) aX))
  (sIf (gT (g2 dEq (ae 7) (jj ah))) (fR [4,5,6,7] 6 (gC .none)) (az (ky 9 (au cf (af (ae 0) (af (ae 1) (af (ae 3) (af (ae 5) (af (ae 7) ah)))))))
  (az (pL 6 (cL (af (ae 9) (af (g2 dIx (ae 4) (ae 9)) ah))))
  (az (iO 5 (ae 9) (g2 bg (g2 dIx (ae 5) (ae 9)) (gC (.int 1))))
  (sIf (gT (g2 dEq (g2 dIx (au bo (af (g2 dIx (ae 0) (ae 9)) (af (g2 dIx (ae 5) (ae 9)) ah))) (gC (.int 0))) (gF bA (af (g2 dIx (g2 dIx (ae 0) (ae 9)) (gC (.int 3))) ah)))) (az (iO 5 (ae 9) (gC (.int 0)))
  (iO 4 (ae 9) (g2 bg (g2 dIx (ae 4) (ae 9)) (gC (.int 1))))) aX))))))) 1000000 δ)
  (bx (ae 6))))))
def zy(cs:Cs)(eN iq aj cg b8 bz:Gf):Ds->Sr :=
 (az (aR [] 1 (au bz (af (ae 0) (af (gC (.int 12)) (af (gC (.int 4)) (af (gC (.int 28)) (af (gC (.bool true)) ah)))))))
  (az (aR [] 2 (au b8 (af (ae 0) (af (gC (.int 0)) (af (gF bA (af (ae 1) ah)) ah)))))
  (az (aR [] 3 (au cg (af (ae 0) (af (gC (.int 5)) (af (ae 1) (af (gC (.int 50)) ah))))))
  (az (aR [] 4 (g2 dIx (jj (af (gC (.str "high")) (af (gC (.str "asked")) (af (gC (.str "none")) ah)))) (au aj (af (ae 0) (af (gC (.int 10)) (af (gC (.int 3)) ah))))))
  (az (aR [] 5 (gL (aS 7 (bB (ae 3)) ba (gF k7 (af (ae 7) ah)) aE)))
  (az (aR [] 6 (au iq (af (ae 1) (af (ae 2) (af (ae 5) (af (ae 4) ah))))))
  (bx (vj (g1 (ia "list") (ae 6)) (vj (g2 dEq (ae 6) (au eN (af (ae 1) (af (ae 2) (af (ae 3) (af (ae 4) ah)))))) (g2 dEq (ae 5) (ae 3)))))))))))
def bo(cs:Cs):Gf:=gfG 2 2 (jF cs)
def GA(x:Nat×Option Int×Int):PyData:=.tuple [.int (x.1:Int),bw x.2.1,.int x.2.2]
def atB:Ds->Sr:=(az (sIf (gT (g2 dLt (ae 1) (g2 dIx (ae 3) (gC (.int 0))))) (bx (cL (af (ae 2) (af (g2 dIx (ae 3) (gC (.int 1))) (af (ae 1) ah))))) aX)
 (aR [] 1 (g2 gM (ae 1) (g2 dIx (ae 3) (gC (.int 0))))))
theorem Dw(p:Int×Option Int):dIx (aQ p) (.int 0)=some (.int p.1):=rfl
theorem zE{E:PyData}:∀(ps:List (Int×Option Int))(k:Nat)(s:Int)(x2 x3:Option PyData),
  forL (d8 [2,3]) atB (p9 k (ps.map aQ)) [some E,some (.int s),x2,x3]=.rt (GA (lawAt ps k s)) \/
  (lawAt ps k s=(k+ps.length,none,0)/\∃a b c,forL (d8 [2,3]) atB (p9 k (ps.map aQ)) [some E,some (.int s),x2,x3]=.nx [some E,a,b,c])
 |[],k,s,x2,x3=>.inr ⟨rfl,_,_,_,rfl⟩
 |p::r,k,s,x2,x3=>by
  rw[M5,xf];unfold forL;rw[show d8 [2,3] (PyData.tuple [.int (k:Int),aQ p]) [some E,some (.int s),x2,x3]=some [some E,some (.int s),some (.int (k:Int)),some (aQ p)] from rfl];unfold lawAt;by_cases z:s<p.1
  ·left;rw[if_pos z];have e:atB [some E,some (.int s),some (.int (k:Int)),some (aQ p)]=.rt (.tuple [.int (k:Int),bw p.2,.int s]):=by unfold atB;simp only[aT,cp,dJ,bV,ar,ay,cQ,Rs.ag,Dw,part1,Bd,decide_eq_true z,Rs.ai,aV,ax,if_true,bW,fU,aA,aF]
   simp only[e];rfl
  ·rw[if_neg z];have e:atB [some E,some (.int s),some (.int (k:Int)),some (aQ p)]=.nx [some E,some (.int (s-p.1)),some (.int (k:Int)),some (aQ p)]:=by unfold atB;simp only[aT,cp,dJ,bV,ar,ay,cQ,Rs.ag,Dw,Bd,decide_eq_false z,Rs.ai,aV,ax,Mw,if_false,fE,i6,oN];rfl
   simp only[e];rcases zE r (k+1) (s-p.1) (some (.int (k:Int))) (some (aQ p)) with h|⟨h1,a,b,c,h2⟩
   ·exact .inl h
   ·refine .inr ⟨?_,a,b,c,h2⟩;rw[h1,Mp,show k+1+r.length=k+(r.length+1) by omega]
theorem law_at_of{e:Er}{s:Int}:bo cs [e.d,.int s]=.ok (GA (lawAt e.parts 0 s)):=by
 show bE (jF cs [some e.d,some (.int s),none,none])=_;have a:jF cs=az (eP [] (kB (af (g2 dIx (ae 0) (gC (.int 3))) ah)) (d8 [2,3]) atB) (bx (cL (af (gF bA (af (g2 dIx (ae 0) (gC (.int 3))) ah)) (af (gC .none) (af (gC (.int 0)) ah))))):=rfl;have src:kB (af (g2 dIx (ae 0) (gC (.int 3))) ah) (mask [] [some e.d,some (.int s),none,none])=.ok (p9 0 (e.parts.map aQ)):=by rw[oP];simp only[yt,aA,aF,bV,ar,cQ,Rs.ag,Ac,Rs.ai,yc];unfold ja p9;refine congrArg (λf=>Rs.ok ((e.parts.map aQ).mapIdx f)) ?_;funext i d;rw[MX]
 rw[a,aT,kM,src,ax];rcases zE (E:=e.d) e.parts 0 s none none with h|⟨h1,y1,y2,y3,h2⟩
 ·rw[h];rfl
 ·rw[h2,h1];simp only[bW,fU,aA,aF,eV,bV,ar,cQ,Rs.ag,Ac,pW,M4,Rs.ai,ax,bt];unfold GA;rw[MX];rfl
def AK(es:List Er)(sp:List Int)(j:Jb):Prop:=∃e:Er,dIx (aq es) (.int j.num)=some e.d/\e.parts=j.parts/\dIx (.list (sp.map PyData.int)) (.int j.num)=some (.int j.cur)
theorem G1(h:AK es sp j)(ok:JOk tops j)(ha:a δ=.ok (aq es))(c:b δ=.ok (.list (sp.map PyData.int))){n:Ds->Rs PyData}(hn:n δ=.ok (.int j.num)) :
  au (bo cs) (af (g2 dIx a n) (af (g2 dIx b n) ah)) δ=.ok (.tuple [.int (j.part:Int),bw j.tool,.int (j.spent:Int)]):=by
 obtain⟨e,h1,h2,f⟩:=h;refine eX (ds:=[e.d,.int j.cur]) ?_ ?_
 ·have g1:=cy ha hn h1;have g2:=cy c hn f;simp only[aA,aF,g1,g2,Rs.ag]
 ·rw[law_at_of,h2,Iw ok];rfl
theorem tup_is{a:Ds}{d:PyData}(b:g (mask O δ)=.ok d)(c:tgt d δ=some a):qE O tgt g δ=.nx a:=by unfold qE;rw[b,ax,c]
def cw(cs:Cs):Gf:=gfG 3 5 (gB cs (bo cs))
def heB(cs:Cs):Ds->Sr:=(az (qE [3] (d8 [5,6,7]) (au (bo cs) (af (g2 dIx (ae 0) (ae 4)) (af (g2 dIx (ae 1) (ae 4)) ah))))
 (sIf (qS (gT (g2 dGt (ae 7) (gC (.int 0)))) (gT (g1 jL (ae 6)))) (ff 3 (ae 6) (ae 4)) aX))
def heD(E S T:PyData)(l:List (Int×Int))(x4 a x6 x7:Option PyData):Ds:=[some E,some S,some T,some (bM l),x4,a,x6,x7]
theorem EH{T:PyData}(h:AK es sp j)(ok:JOk tops j)(hl:l.length<1000000)(a x6 x7:Option PyData) :
  ∃b c e,heB cs (heD (aq es) (.list (sp.map PyData.int)) T l (some (.int j.num)) a x6 x7)=.nx (heD (aq es) (.list (sp.map PyData.int)) T (gK l j) (some (.int j.num)) b c e):=by
 have f:qE [3] (d8 [5,6,7]) (au (bo cs) (af (g2 dIx (ae 0) (ae 4)) (af (g2 dIx (ae 1) (ae 4)) ah))) (heD (aq es) (.list (sp.map PyData.int)) T l (some (.int j.num)) a x6 x7)=.nx (heD (aq es) (.list (sp.map PyData.int)) T l (some (.int j.num)) (some (.int (j.part:Int))) (some (bw j.tool)) (some (.int (j.spent:Int)))) :=
  tup_is (G1 h ok rfl rfl rfl) rfl
 refine⟨some (.int (j.part:Int)),some (bw j.tool),some (.int (j.spent:Int)),?_⟩;unfold heB;rw[bQ f];have c1:gT (g2 dGt (ae 7) (gC (.int 0))) (heD (aq es) (.list (sp.map PyData.int)) T l (some (.int j.num)) (some (.int (j.part:Int))) (some (bw j.tool)) (some (.int (j.spent:Int))))=.ok (decide (0<(j.spent:Int))):=rfl;have g:gT (g1 jL (ae 6)) (heD (aq es) (.list (sp.map PyData.int)) T l (some (.int j.num)) (some (.int (j.part:Int))) (some (bw j.tool)) (some (.int (j.spent:Int))))=.ok j.tool.isSome:=by cases j.tool <;> rfl
 unfold gK Jb.held;rw[cp,uC,c1,Rs.ag];by_cases z:j.spent=0
 ·rw[if_pos z,z];rfl
 ·rw[if_neg z,decide_eq_true (by omega),if_pos rfl,g,ax];cases q:j.tool with
  |none=>rfl
  |some t =>rw[if_pos (show (some t).isSome=true from rfl)];unfold ff heD;simp only[N9,MZ,gw];show (if l.length<1000000 then _ else _)=_;rw[if_pos hl];rfl
theorem sL(l:List (Int×Int))(j:Jb):(gK l j).length<=l.length+1:=by
 unfold gK;split
 ·unfold eE;split <;> simp
 ·omega
theorem zC{cs:Cs}{tops:PyData}{es:List Er}{sp:List Int}{T:PyData}:∀(ts:List Jb)(l:List (Int×Int))(x4 a x6 x7:Option PyData),(∀j∈ts,AK es sp j/\JOk tops j)->l.length+ts.length<1000000 ->
  ∃i b f g,forL (aZ 4) (heB cs) (ts.map λj=>.int j.num) (heD (aq es) (.list (sp.map PyData.int)) T l x4 a x6 x7)=.nx (heD (aq es) (.list (sp.map PyData.int)) T (ts.foldl gK l) i b f g)
 |[],l,x4,a,x6,x7,_,_=>⟨x4,a,x6,x7,rfl⟩
 |j::r,l,x4,a,x6,x7,h,hl=>by rw[Mp]at hl;obtain⟨c,ok⟩:=h j M7;obtain⟨b,f,g,e⟩:=EH (cs:=cs) (T:=T) c ok (l:=l) (by omega) a x6 x7;obtain⟨m,n,o,p,q⟩:=zC (cs:=cs) (T:=T) r (gK l j) (some (.int j.num)) b f g (λk s=>h k (M6 _ s)) (by have:=sL l j;omega);refine⟨m,n,o,p,?_⟩;rw[M5,kg (δ1:=heD (aq es) (.list (sp.map PyData.int)) T l (some (.int j.num)) a x6 x7) rfl e];exact q
theorem law_held_is(h:∀j∈ts,AK es sp j/\JOk tops j)(hl:ts.length<=1000):cw cs [aq es,.list (sp.map PyData.int),.list (ts.map λj=>.int j.num)]=.ok (dfD (aU ts)):=by obtain⟨a,b,c,f,e⟩:=zC (cs:=cs) (T:=.list (ts.map λj=>.int j.num)) ts [] none none none none h (by simp;omega);show bE (gB cs (bo cs) [some (aq es),some (.list (sp.map PyData.int)),some (.list (ts.map λj=>.int j.num)),none,none,none,none,none])=_;have g:pj 3 [some (aq es),some (.list (sp.map PyData.int)),some (.list (ts.map λj=>.int j.num)),none,none,none,none,none]=.nx (heD (aq es) (.list (sp.map PyData.int)) (.list (ts.map λj=>.int j.num)) [] none none none none):=rfl;have s2:eP [3] (bB (ae 2)) (aZ 4) (heB cs) (heD (aq es) (.list (sp.map PyData.int)) (.list (ts.map λj=>.int j.num)) [] none none none none)=.nx (heD (aq es) (.list (sp.map PyData.int)) (.list (ts.map λj=>.int j.num)) (aU ts) a b c f):=(ui rfl).trans e;unfold heB at s2;unfold gB;rw[bQ g,bQ s2];unfold zG heD;simp only[N9,MZ,gw,bt]
def chD(E R:PyData)(len:Str)(S T tops:PyData)(hl pl:List (Int×Int))(x8 x9 x10 x11 x12 x13:Option PyData):Ds:=[some E,some R,some (.str len),some S,some T,some tops,some (dfD hl),some (bM pl),x8,x9,x10,x11,x12,x13]
section
variable {E S T:PyData}{len:Str}{hl pl:List (Int×Int)}
theorem GX{k:Int}(h1:go δ=.ok (dfD l))(h2:gk δ=.ok (.int k))(h:a8 l k=some v):gDF go gk δ=.ok (.int v):=by unfold gDF;rw[h1,h2,Rs.ag,Rs.ag];simp only[oy,h]
theorem yj{k:Int}(h1:go δ=.ok (bM l))(h2:gk δ=.ok (.int k))(h:a8 l k=some v):gDI go gk δ=.ok (.int v):=by unfold gDI;rw[h1,h2,Rs.ag,Rs.ag];simp only[gw,h]
theorem zt{gv:Ds->Rs PyData}{k:Int}(hd:δ[i]?=some (some (bM l)))(h1:gv δ=.ok (.int v))(h2:gk δ=.ok (.int k))(hl:l.length<1000000):ff i gk gv δ=.nx (δ.set i (some (bM (eE l k v)))):=by unfold ff;rw[hd];simp only[gw,h1,h2,ax];rw[if_pos hl]
theorem yX{x y:Int}(ha:a δ=.ok (.int x))(c:b δ=.ok (.int y)):gF gA (af a (af b ah)) δ=.ok (.int (if y<x then y else x)):=by simp only[eV,aA,aF,ha,c,Rs.ag,uv,Rs.ai]
def hiB:Ds->Sr:=ff 7 (gDF (ae 6) (ae 8)) (gF gA (af (gDI (ae 7) (gDF (ae 6) (ae 8))) (af (g2 dIx (ae 5) (ae 8)) ah)))
theorem Fv{n a:Int}(h1:a8 hl t=some n)(h2:a8 pl n=some a)(c:dIx tops (.int t)=some (.int (gW tops t)))(e:pl.length<1000000) :
  hiB (chD E R len S T tops hl pl (some (.int t)) x9 x10 x11 x12 x13)=.nx (chD E R len S T tops hl (hiS tops pl (t,n)) (some (.int t)) x9 x10 x11 x12 x13):=by
 have g1:gDF (ae 6) (ae 8) (chD E R len S T tops hl pl (some (.int t)) x9 x10 x11 x12 x13)=.ok (.int n):=GX rfl rfl h1;have b:gDI (ae 7) (gDF (ae 6) (ae 8)) (chD E R len S T tops hl pl (some (.int t)) x9 x10 x11 x12 x13)=.ok (.int a):=yj rfl g1 h2;have f:g2 dIx (ae 5) (ae 8) (chD E R len S T tops hl pl (some (.int t)) x9 x10 x11 x12 x13)=.ok (.int (gW tops t)):=cy rfl rfl c;unfold hiB;rw[zt (l:=pl) rfl (yX b f) g1 e];unfold hiS;simp only[h2,Nl];rfl
theorem yZ:∀(ps:List (Int×Int))(pl:List (Int×Int))(x8:Option PyData),(∀p∈ps,a8 hl p.1=some p.2/\(a8 pl p.2).isSome/\dIx tops (.int p.1)=some (.int (gW tops p.1)))->pl.length+ps.length<1000000 ->
  ∃b,forL (aZ 8) hiB (ps.map λp=>.int p.1) (chD E R len S T tops hl pl x8 x9 x10 x11 x12 x13)=.nx (chD E R len S T tops hl (ps.foldl (hiS tops) pl) b x9 x10 x11 x12 x13)
 |[],pl,x8,_,_=>⟨x8,rfl⟩
 |p::r,pl,x8,h,hz=>by
  rw[Mp]at hz;obtain⟨h1,h2,c⟩:=h p M7;obtain⟨a,h2⟩:=Nh.mp h2;have e:=Fv (E:=E) (R:=R) (S:=S) (T:=T) (len:=len) (x9:=x9) (x10:=x10) (x11:=x11) (x12:=x12) (x13:=x13) h1 h2 c (by omega);have hl2:(hiS tops pl (p.1,p.2)).length<=pl.length+1:=by unfold hiS eE;split <;> simp
  obtain⟨b,f⟩:=yZ r (hiS tops pl (p.1,p.2)) (some (.int p.1)) (λq g=>by
   obtain⟨k1,k2,k3⟩:=h q (M6 _ g);refine⟨k1,?_,k3⟩;unfold hiS;rw[kE];split
   ·rfl
   ·exact k2) (by omega)
  refine⟨b,?_⟩;rw[M5,kg (δ1:=chD E R len S T tops hl pl (some (.int p.1)) x9 x10 x11 x12 x13) rfl e];exact f
end
structure ChO(es:List Er)(rs:List Int)(sp:List Int)(tops:PyData)(ts:List Jb):Prop where
 cur:∀j∈ts,AK es sp j/\JOk tops j
 few:ts.length<=1000
 ix:∀j∈ts,i8 (rs.map PyData.int) (.int j.num)=some (.int j.rank)
 up:ts.Pairwise λi j=>i.num<j.num
 one:∀i∈ts,∀j∈ts,∀T,i.held=some T->j.held=some T->i.num=j.num
section
variable {len:Str}
theorem ChO.nd(C:ChO es rs sp tops ts):(ts.map (·.num)).Nodup:=List.Pairwise.map _ (λa b h e=>by omega) C.up
theorem mB{elt:Ds->Rs PyData}{us:List Jb}{g:Jb->PyData}(nd:(us.map (·.num)).Nodup)(hn:δ.length=n0)(b:src δ=.ok (us.map λj=>.int j.num))(hl:us.length<=1000)(h:∀j∈us,elt (δ++[some (.int j.num)])=.ok (g j)):aS n0 src ba elt aE δ=.ok (us.map g):=by
 have c:=cx (elt:=elt) (f:=λd=>match d with
  |.int n=>((us.find? λj=>j.num==n).map g).getD .none
  |_=>.none) hn b (by rw[M4];omega) λd hd=>by obtain⟨j,a,rfl⟩:=Mj.mp hd;rw[h j a];simp only[jl nd a,MN,Nl]
 rw[c,Ms];congr 1;refine Mv λj a=>?_
 simp only[Function.comp,jl nd a,MN,Nl]
theorem zQ(C:ChO es rs sp tops ts):sN [7,10] 7 (gL (aS 14 (bB (ae 4)) ba (cL (af (ae 14) (af (j4 (ae 1) (ae 14)) ah))) aE)) [some (aq es),some (ak rs),some (.str len),some (.list (sp.map PyData.int)),some (.list (ts.map λj=>.int j.num)),some tops,some (dfD (aU ts)),none,x8,x9,x10,x11,x12,x13] =
  .nx (chD (aq es) (ak rs) len (.list (sp.map PyData.int)) (.list (ts.map λj=>.int j.num)) tops (aU ts) (bH ts) x8 x9 x10 x11 x12 x13):=by
 have a:aS 14 (bB (ae 4)) ba (cL (af (ae 14) (af (j4 (ae 1) (ae 14)) ah))) aE (mask [7,10] [some (aq es),some (ak rs),some (.str len),some (.list (sp.map PyData.int)),some (.list (ts.map λj=>.int j.num)),some tops,some (dfD (aU ts)),none,x8,x9,x10,x11,x12,x13])=.ok (ts.map λj=>.tuple [.int j.num,.int j.rank]) :=
  mB C.nd rfl rfl C.few λj b=>by show cL (af (ae 14) (af (j4 (ae 1) (ae 14)) ah)) [some (aq es),some (ak rs),some (.str len),some (.list (sp.map PyData.int)),some (.list (ts.map λj=>.int j.num)),some tops,some (dfD (aU ts)),none,x8,x9,none,x11,x12,x13,some (.int j.num)]=_;simp only[fU,aA,aF,C8,ar,ay,ak,Rs.ag,C.ix j b,Rs.ai]
 unfold sN;rw[if_pos (by show 7<14;decide)];unfold gL;rw[a,Rs.ag,ax];have c:nh (ts.map λj=>.tuple [.int j.num,.int j.rank])=some (ts.map λj=>(j.num,j.rank)):=by have:=sf (ts.map λj=>(j.num,j.rank));rw[Ms]at this;exact this
 simp only[c];rfl
end
theorem ints_map:∀l:List Int,intsOf (l.map PyData.int)=some l
 |[]=>rfl
 |n::r=>by rw[M5];unfold intsOf;rw[ints_map r];rfl
theorem va:∀nss:List (List Int),mQ (nss.map mh)=some nss
 |[]=>rfl
 |ns::r=>by rw[M5];unfold mQ;rw[ints_map,va r];rfl
theorem zH{us:List Jb}{row:Jb->List Int}{b:Jb}(a:g δ=.ok (.list (us.map λj=>mh (row j))))(c:us≠[])(f:((us.map row).getD (bst (ltN (us.map row)) ((us.map row).length-1)) [])=row b):gF jr (af g ah) δ=.ok (mh (row b)):=by
 have e:us.map (λj=>mh (row j))=(us.map row).map mh:=by rw[Ms];rfl
 simp only[eV,aA,aF,a,Rs.ag];unfold jr;simp only[e,va,N7];rw[if_pos (by rw[M4];exact MP.mpr c),f];rfl
theorem rF(l:List (Int×Int))(k v:Int):(eE l k v).length<=l.length+1:=by unfold eE;split <;> simp
theorem vz:∀(us:List Jb)(l:List (Int×Int)),(us.foldl gK l).length<=l.length+us.length
 |[],l=>Me _
 |j::r,l=>by have:=vz r (gK l j);have:=sL l j;rw[MC,Mp];omega
theorem we:∀(ps l:List (Int×Int)),(ps.foldl (λl p=>eE l p.1 p.2) l).length<=l.length+ps.length
 |[],l=>Me _
 |p::r,l=>by have:=we r (eE l p.1 p.2);have:=rF l p.1 p.2;rw[MC,Mp];omega
theorem AH(us:List Jb):(aU us).length<=us.length:=by have:=vz us [];unfold aU;simpa using this
theorem nv(us:List Jb):(bH us).length<=us.length:=by have:=we (us.map λj=>(j.num,j.rank)) [];unfold bH k8;simpa using this
theorem E2(h:∃n:Int,dIx tops (.int t)=some (.int n)):dIx tops (.int t)=some (.int (gW tops t)):=by obtain⟨n,e⟩:=h;unfold gW;simp only[e]
theorem Kn(h:g δ=.ok (dfD l)):kX g δ=.ok (l.map λp=>.int p.1):=by unfold kX;rw[h,Rs.ag];simp only[oy]
theorem Jf{n:Int}(ha:a δ=.ok (.int n))(h:g δ=.ok (dfD l)):qY a g δ=.ok (.bool (!l.any λp=>decide (p.2=n))):=by unfold qY;rw[ha,h,Rs.ag,Rs.ag];simp only[oy]
section
variable {len:Str}
theorem ChO.look(C:ChO es rs sp tops ts)(a:j∈ts)(b:j.held=some T):a8 (aU ts) T=some j.num:=by
 rw[kL C.one];unfold fO;rw[N7];cases q:ts.find? (λk=>k.held==some T) with
 |none=>exact absurd (by rw[b];exact beq_self_eq_true _) (NS.mp q j a)
 |some k =>have:=C.one k (MT q) j a T (by simpa using ND q) b;show some k.num=some j.num;rw[this]
def hiR:Ds->Sr:=(az (eP [7,10] (kX (ae 6)) (aZ 8) hiB)
 (nM 7 (az (aR [10] 9 (gL (aS 14 (bB (ae 4)) ba (cL (af (gDI (ae 7) (ae 14)) (af (gF nY (af (qY (ae 14) (ae 6)) ah)) (af (ae 14) ah)))) aE)))
 (bx (g2 dIx (gF jr (af (ae 9) ah)) (gC (.int 2)))))))
theorem EZ(C:ChO es rs sp tops ts)(c:ts≠[]):hiR (chD (aq es) (ak rs) len (.list (sp.map PyData.int)) (.list (ts.map λj=>.int j.num)) tops (aU ts) (bH ts) x8 x9 x10 x11 x12 x13)=.rt (.int (eu (fz tops) ts).num):=by
 have l1:=AH ts;have l2:=nv ts;have few:=C.few;obtain⟨a,e1⟩:=yZ (E:=aq es) (R:=ak rs) (S:=.list (sp.map PyData.int)) (T:=.list (ts.map λj=>.int j.num)) (tops:=tops) (len:=len) (hl:=aU ts) (x9:=x9) (x10:=x10) (x11:=x11) (x12:=x12) (x13:=x13) (aU ts) (bH ts) x8 (λp e=>by
  rcases lp ts [] e with⟨j,b,h1,h2⟩|h
  ·refine⟨?_,?_,E2 ((C.cur j b).2.held _ h1)⟩
   ·rw[<-h2];exact C.look b h1
   ·rw[<-h2,dS C.nd b];rfl
  ·cases h) (by omega)
 have i:eP [7,10] (kX (ae 6)) (aZ 8) hiB (chD (aq es) (ak rs) len (.list (sp.map PyData.int)) (.list (ts.map λj=>.int j.num)) tops (aU ts) (bH ts) x8 x9 x10 x11 x12 x13)=.nx (chD (aq es) (ak rs) len (.list (sp.map PyData.int)) (.list (ts.map λj=>.int j.num)) tops (aU ts) (placesH tops ts) a x9 x10 x11 x12 x13):=by refine (ui ?_).trans e1;exact Kn rfl
 have l:aS 14 (bB (ae 4)) ba (cL (af (gDI (ae 7) (ae 14)) (af (gF nY (af (qY (ae 14) (ae 6)) ah)) (af (ae 14) ah)))) aE (mask [10] (chD (aq es) (ak rs) len (.list (sp.map PyData.int)) (.list (ts.map λj=>.int j.num)) tops (aU ts) (placesH tops ts) a x9 x10 x11 x12 x13))=.ok (ts.map λj=>mh (mr tops j)):=mB C.nd rfl rfl C.few λj b=>by
  show cL (af (gDI (ae 7) (ae 14)) (af (gF nY (af (qY (ae 14) (ae 6)) ah)) (af (ae 14) ah))) [some (aq es),some (ak rs),some (.str len),some (.list (sp.map PyData.int)),some (.list (ts.map λj=>.int j.num)),some tops,some (dfD (aU ts)),some (bM (placesH tops ts)),a,x9,none,x11,x12,x13,some (.int j.num)]=_;have a1:gDI (ae 7) (ae 14) [some (aq es),some (ak rs),some (.str len),some (.list (sp.map PyData.int)),some (.list (ts.map λj=>.int j.num)),some tops,some (dfD (aU ts)),some (bM (placesH tops ts)),a,x9,none,x11,x12,x13,some (.int j.num)]=.ok (.int (kH tops j)):=yj rfl rfl (ua C.nd C.one b);have a2:qY (ae 14) (ae 6) [some (aq es),some (ak rs),some (.str len),some (.list (sp.map PyData.int)),some (.list (ts.map λj=>.int j.num)),some tops,some (dfD (aU ts)),some (bM (placesH tops ts)),a,x9,none,x11,x12,x13,some (.int j.num)]=.ok (.bool (!j.held.isSome)):=by rw[<-A5 C.nd C.one b];exact Jf rfl rfl
  have m:nY [.bool (!j.held.isSome)]=some (.int (if j.held.isSome then 0 else 1)):=by cases j.held <;> rfl
  simp only[fU,aA,aF,a1,eV,a2,m,ar,ay,Rs.ag,Rs.ai];rfl
 have s2:aR [10] 9 (gL (aS 14 (bB (ae 4)) ba (cL (af (gDI (ae 7) (ae 14)) (af (gF nY (af (qY (ae 14) (ae 6)) ah)) (af (ae 14) ah)))) aE)) (chD (aq es) (ak rs) len (.list (sp.map PyData.int)) (.list (ts.map λj=>.int j.num)) tops (aU ts) (placesH tops ts) a x9 x10 x11 x12 x13)=.nx (chD (aq es) (ak rs) len (.list (sp.map PyData.int)) (.list (ts.map λj=>.int j.num)) tops (aU ts) (placesH tops ts) a (some (.list (ts.map λj=>mh (mr tops j)))) x10 x11 x12 x13) :=
  dB (show 9<14 by decide) (by unfold gL;rw[l];rfl)
 have n:=zH (g:=ae 9) (δ:=chD (aq es) (ak rs) len (.list (sp.map PyData.int)) (.list (ts.map λj=>.int j.num)) tops (aU ts) (placesH tops ts) a (some (.list (ts.map λj=>mh (mr tops j)))) x10 x11 x12 x13) rfl c (AU (tops:=tops) c C.up);have o:bx (g2 dIx (gF jr (af (ae 9) ah)) (gC (.int 2))) (chD (aq es) (ak rs) len (.list (sp.map PyData.int)) (.list (ts.map λj=>.int j.num)) tops (aU ts) (placesH tops ts) a (some (.list (ts.map λj=>mh (mr tops j)))) x10 x11 x12 x13)=.rt (.int (eu (fz tops) ts).num):=by rw[bW,cy (f:=dIx) n rfl rfl];rfl
 unfold hiR;rw[bQ i];unfold nM;rw[show (chD (aq es) (ak rs) len (.list (sp.map PyData.int)) (.list (ts.map λj=>.int j.num)) tops (aU ts) (placesH tops ts) a x9 x10 x11 x12 x13)[7]?=some (some (bM (placesH tops ts))) from rfl];simp only[bQ s2,o]
end
def asB(cs:Cs):Ds->Sr:=(az (qE [7,10] (d8 [12,8,13]) (au (bo cs) (af (g2 dIx (ae 0) (ae 11)) (af (g2 dIx (ae 3) (ae 11)) ah))))
 (sIf (qS (gT (g2 dEq (ae 13) (gC (.int 0)))) (gT (g2 ue (ae 8) (ae 6)))) (sIf (gT (g2 dEq (ae 2) (gC (.str "asked")))) (ff 7 (gDF (ae 6) (ae 8)) (gF gA (af (gDI (ae 7) (gDF (ae 6) (ae 8))) (af (j4 (ae 1) (ae 11)) ah)))) aX) (fR [7,10] 10 (ae 11))))
def asS(ts:List Jb)(asked:Bool)(l:List (Int×Int))(j:Jb):List (Int×Int):=if asked=true then qM ts l j else l
def leS(ts:List Jb)(l:List PyData)(j:Jb):List PyData:=if dj ts j=true then l++[.int j.num] else l
theorem Ic{o:Option Int}:ue (bw o) (dfD l)=some (.bool (o.bind λt=>a8 l t).isSome):=by unfold ue;rw[oy];cases o <;> rfl
theorem Jg{n:Int}{d:PyData}(ha:a δ=.ok (ak rs))(c:b δ=.ok (.int n))(h:i8 (rs.map PyData.int) (.int n)=some d):j4 a b δ=.ok d:=by unfold j4;rw[ha,Rs.ag];show (b δ).bind (λy=>Rs.ee (i8 (rs.map PyData.int) y))=_;rw[c,Rs.ag,h];rfl
section
variable {len:Str}
theorem Gg(C:ChO es rs sp tops ts)(lo:fP len)(m:j∈ts){pl:List (Int×Int)}{left:List PyData}(p:∀k∈ts,(a8 pl k.num).isSome)(r:pl.length<1000000)(e:left.length<1000000)(x8 x9 x12 x13:Option PyData) :
  ∃s g h,asB cs (chD (aq es) (ak rs) len (.list (sp.map PyData.int)) (.list (ts.map λj=>.int j.num)) tops (aU ts) pl x8 x9 (some (.list left)) (some (.int j.num)) x12 x13) =
   .nx (chD (aq es) (ak rs) len (.list (sp.map PyData.int)) (.list (ts.map λj=>.int j.num)) tops (aU ts) (asS ts (len==("asked":Str)) pl j) s x9 (some (.list (leS ts left j))) (some (.int j.num)) g h):=by
 obtain⟨cu,ok⟩:=C.cur j m;have u:qE [7,10] (d8 [12,8,13]) (au (bo cs) (af (g2 dIx (ae 0) (ae 11)) (af (g2 dIx (ae 3) (ae 11)) ah))) (chD (aq es) (ak rs) len (.list (sp.map PyData.int)) (.list (ts.map λj=>.int j.num)) tops (aU ts) pl x8 x9 (some (.list left)) (some (.int j.num)) x12 x13) =
   .nx (chD (aq es) (ak rs) len (.list (sp.map PyData.int)) (.list (ts.map λj=>.int j.num)) tops (aU ts) pl (some (bw j.tool)) x9 (some (.list left)) (some (.int j.num)) (some (.int (j.part:Int))) (some (.int (j.spent:Int)))) :=
  tup_is (G1 cu ok rfl rfl rfl) rfl
 refine⟨some (bw j.tool),some (.int (j.part:Int)),some (.int (j.spent:Int)),?_⟩;unfold asB;rw[bQ u];have c1:gT (g2 dEq (ae 13) (gC (.int 0))) (chD (aq es) (ak rs) len (.list (sp.map PyData.int)) (.list (ts.map λj=>.int j.num)) tops (aU ts) pl (some (bw j.tool)) x9 (some (.list left)) (some (.int j.num)) (some (.int (j.part:Int))) (some (.int (j.spent:Int))))=.ok ((j.spent:Int)==0):=by have:=cy (f:=dEq) (a:=ae 13) (b:=gC (.int 0)) (δ:=chD (aq es) (ak rs) len (.list (sp.map PyData.int)) (.list (ts.map λj=>.int j.num)) tops (aU ts) pl (some (bw j.tool)) x9 (some (.list left)) (some (.int j.num)) (some (.int (j.part:Int))) (some (.int (j.spent:Int)))) rfl rfl (je (j.spent:Int) 0);rw[dJ,this,Rs.ag,aV]
 have v:gT (g2 ue (ae 8) (ae 6)) (chD (aq es) (ak rs) len (.list (sp.map PyData.int)) (.list (ts.map λj=>.int j.num)) tops (aU ts) pl (some (bw j.tool)) x9 (some (.list left)) (some (.int j.num)) (some (.int (j.part:Int))) (some (.int (j.spent:Int))))=.ok (fO ts j.tool).isSome:=by
  have:=cy (f:=ue) (a:=ae 8) (b:=ae 6) (δ:=chD (aq es) (ak rs) len (.list (sp.map PyData.int)) (.list (ts.map λj=>.int j.num)) tops (aU ts) pl (some (bw j.tool)) x9 (some (.list left)) (some (.int j.num)) (some (.int (j.part:Int))) (some (.int (j.spent:Int)))) rfl rfl (Ic (o:=j.tool));rw[dJ,this,Rs.ag,aV];congr 1;cases q:j.tool with
  |none=>rfl
  |some t=>rw[N7,kL C.one,NY]
 have app:fR [7,10] 10 (ae 11) (chD (aq es) (ak rs) len (.list (sp.map PyData.int)) (.list (ts.map λj=>.int j.num)) tops (aU ts) pl (some (bw j.tool)) x9 (some (.list left)) (some (.int j.num)) (some (.int (j.part:Int))) (some (.int (j.spent:Int))))=.nx (chD (aq es) (ak rs) len (.list (sp.map PyData.int)) (.list (ts.map λj=>.int j.num)) tops (aU ts) pl (some (bw j.tool)) x9 (some (.list (left++[.int j.num]))) (some (.int j.num)) (some (.int (j.part:Int))) (some (.int (j.spent:Int)))):=by unfold fR;rw[show (chD (aq es) (ak rs) len (.list (sp.map PyData.int)) (.list (ts.map λj=>.int j.num)) tops (aU ts) pl (some (bw j.tool)) x9 (some (.list left)) (some (.int j.num)) (some (.int (j.part:Int))) (some (.int (j.spent:Int))))[10]?=some (some (.list left)) from rfl];show (if left.length<1000000 then Sr.nx _ else Sr.no)=_;rw[if_pos e];rfl
 have free:fO ts j.wanted=none->asS ts (len==("asked":Str)) pl j=pl/\leS ts left j=left++[.int j.num]:=λz=>by unfold asS qM leS dj;rw[z];refine⟨?_,if_pos rfl⟩;split <;> rfl
 rw[cp,uC,c1,Rs.ag];by_cases z:j.spent=0
 ·have c:j.wanted=j.tool:=by unfold Jb.wanted;rw[if_pos z]
  rw[show ((j.spent:Int)==0)=true by rw[z];rfl,if_pos rfl,v,ax];cases q:fO ts j.tool with
  |none =>obtain⟨f1,f2⟩:=free (by rw[c,q]);rw[f1,f2];exact app
  |some o =>
   rw[if_pos (show (some o).isSome=true from rfl)];obtain⟨t,w,x⟩:=Nx.mp q;have n:=rq q;have A:o.held=some t:=by simpa using ND x
   obtain⟨a,ha⟩:=Nh.mp (p o n);have B:leS ts left j=left:=by unfold leS dj;rw[c,q];rfl
   have D:gT (g2 dEq (ae 2) (gC (.str "asked"))) (chD (aq es) (ak rs) len (.list (sp.map PyData.int)) (.list (ts.map λj=>.int j.num)) tops (aU ts) pl (some (bw j.tool)) x9 (some (.list left)) (some (.int j.num)) (some (.int (j.part:Int))) (some (.int (j.spent:Int))))=.ok (len==("asked":Str)):=by have:=cy (f:=dEq) (a:=ae 2) (b:=gC (.str "asked")) (δ:=chD (aq es) (ak rs) len (.list (sp.map PyData.int)) (.list (ts.map λj=>.int j.num)) tops (aU ts) pl (some (bw j.tool)) x9 (some (.list left)) (some (.int j.num)) (some (.int (j.part:Int))) (some (.int (j.spent:Int)))) rfl rfl (eq_str lo.sh pX);rw[dJ,this,Rs.ag,aV]
   rw[cp,D,ax,B];unfold asS;cases y:(len==("asked":Str)) with
   |false=>rw[if_neg Mi,if_neg Mi];rfl
   |true =>
    rw[if_pos rfl,if_pos rfl];have g1:gDF (ae 6) (ae 8) (chD (aq es) (ak rs) len (.list (sp.map PyData.int)) (.list (ts.map λj=>.int j.num)) tops (aU ts) pl (some (bw j.tool)) x9 (some (.list left)) (some (.int j.num)) (some (.int (j.part:Int))) (some (.int (j.spent:Int))))=.ok (.int o.num):=by rw[w];exact GX rfl rfl (C.look n A)
    have i:=yj (go:=ae 7) rfl g1 ha;have E:j4 (ae 1) (ae 11) (chD (aq es) (ak rs) len (.list (sp.map PyData.int)) (.list (ts.map λj=>.int j.num)) tops (aU ts) pl (some (bw j.tool)) x9 (some (.list left)) (some (.int j.num)) (some (.int (j.part:Int))) (some (.int (j.spent:Int))))=.ok (.int j.rank):=Jg rfl rfl (C.ix j m);rw[zt (l:=pl) rfl (yX i E) g1 r];unfold qM;rw[c,q];simp only[ha,Nl];rfl
 ·have c:j.wanted=none:=by unfold Jb.wanted;rw[if_neg z]
  rw[show ((j.spent:Int)==0)=false from by rw[beq_eq_false_iff_ne];omega,if_neg Mi,ax,if_neg Mi];obtain⟨f1,f2⟩:=free (by rw[c];rfl);rw[f1,f2];exact app
end
theorem BY{n:Int}(h:(a8 l n).isSome):(a8 (asS ts asked l j) n).isSome:=by
 unfold asS qM;split
 ·split
  ·rw[kE];split
   ·rfl
   ·exact h
  ·exact h
 ·exact h
theorem F5:(asS ts asked l j).length<=l.length+1:=by
 unfold asS qM;split
 ·split
  ·exact rF _ _ _
  ·omega
 ·omega
theorem Gj{l:List PyData}:(leS ts l j).length<=l.length+1:=by
 unfold leS;split
 ·simp
 ·omega
theorem Cv{ts:List Jb}:∀(us:List Jb)(l:List PyData),us.foldl (leS ts) l=l++(us.filter (dj ts)).map λj=>.int j.num
 |[],l=>by simp
 |j::r,l=>by
  rw[MC,Cv r,Nf];unfold leS;split
  ·simp
  ·rfl
theorem Hu:∀(us:List Jb)(l:List (Int×Int)),us.foldl (asS ts asked) l=if asked=true then us.foldl (qM ts) l else l:=by
 intro us l;cases asked with
 |true=>rw[if_pos rfl];rfl
 |false =>
  rw[if_neg Mi]
  induction us generalizing l with
  |nil=>rfl
  |cons j r ih=>rw[MC];exact ih l
section
variable {len:Str}
theorem yH(C:ChO es rs sp tops ts)(lo:fP len){x9:Option PyData}:∀(us:List Jb)(pl:List (Int×Int))(left:List PyData)(x8 x11 x12 x13:Option PyData),(∀j∈us,j∈ts)->(∀k∈ts,(a8 pl k.num).isSome)->pl.length+us.length<1000000->left.length+us.length<1000000 ->
  ∃c f a b,forL (aZ 11) (asB cs) (us.map λj=>.int j.num) (chD (aq es) (ak rs) len (.list (sp.map PyData.int)) (.list (ts.map λj=>.int j.num)) tops (aU ts) pl x8 x9 (some (.list left)) x11 x12 x13)=.nx (chD (aq es) (ak rs) len (.list (sp.map PyData.int)) (.list (ts.map λj=>.int j.num)) tops (aU ts) (us.foldl (asS ts (len==("asked":Str))) pl) c x9 (some (.list (us.foldl (leS ts) left))) f a b)
 |[],pl,left,x8,x11,x12,x13,_,_,_,_=>⟨x8,x11,x12,x13,rfl⟩
 |j::r,pl,left,x8,x11,x12,x13,hu,hp,h1,h2=>by rw[Mp]at h1 h2;obtain⟨c,a,b,e⟩:=Gg (cs:=cs) C lo (hu j M7) (pl:=pl) (left:=left) hp (by omega) (by omega) x8 x9 x12 x13;have k1:=F5 (ts:=ts) (asked:=(len==("asked":Str))) (l:=pl) (j:=j);have k2:=Gj (ts:=ts) (l:=left) (j:=j);obtain⟨n,g,h,i,o⟩:=yH C lo (x9:=x9) r (asS ts (len==("asked":Str)) pl j) (leS ts left j) c (some (.int j.num)) a b (λk m=>hu k (M6 _ m)) (λk m=>BY (hp k m)) (by omega) (by omega);refine⟨n,g,h,i,?_⟩;rw[M5,kg (δ1:=chD (aq es) (ak rs) len (.list (sp.map PyData.int)) (.list (ts.map λj=>.int j.num)) tops (aU ts) pl x8 x9 (some (.list left)) (some (.int j.num)) x12 x13) rfl e];exact o
end
def loR(cs:Cs):Ds->Sr:=(az (dh [7,10] 10 ah)
 (az (eP [7,10] (bB (ae 4)) (aZ 11) (asB cs))
 (CF 10 (nM 7 (bx (g2 dIx (gF jr (af (gL (aS 14 (bB (ae 10)) ba (cL (af (gDI (ae 7) (ae 14)) (af (ae 14) ah))) aE)) ah)) (gC (.int 1))))))))
def cf(cs:Cs):Gf:=gfG 5 9 (eW cs (bo cs) (cw cs) aN)
section
variable {len:Str}
theorem Hk(C:ChO es rs sp tops ts)(lo:fP len)(o:ts≠[]):loR cs (chD (aq es) (ak rs) len (.list (sp.map PyData.int)) (.list (ts.map λj=>.int j.num)) tops (aU ts) (bH ts) x8 x9 x10 x11 x12 x13)=.rt (.int (eu (lU (if (len==("asked":Str))=true then kx ts else [])) (ts.filter (dj ts))).num):=by
 have l2:=nv ts;have few:=C.few;obtain⟨m,a,b,c,e⟩:=yH (cs:=cs) C lo (x9:=x9) ts (bH ts) [] x8 x11 x12 x13 (λ_ h=>h) (λk p=>by rw[dS C.nd p];rfl) (by omega) (by rw[MM];omega);rw[Hu,Cv,MK]at e;have ep:(if (len==("asked":Str))=true then ts.foldl (qM ts) (bH ts) else bH ts)=k9 ts (len==("asked":Str)):=rfl;rw[ep]at e;have q:dh [7,10] 10 ah (chD (aq es) (ak rs) len (.list (sp.map PyData.int)) (.list (ts.map λj=>.int j.num)) tops (aU ts) (bH ts) x8 x9 x10 x11 x12 x13)=.nx (chD (aq es) (ak rs) len (.list (sp.map PyData.int)) (.list (ts.map λj=>.int j.num)) tops (aU ts) (bH ts) x8 x9 (some (.list [])) x11 x12 x13):=pQ (show 10<14 by decide) rfl;have s2:=(ui (O:=[7,10]) (src:=bB (ae 4)) (tgt:=aZ 11) (body:=asB cs) (δ:=chD (aq es) (ak rs) len (.list (sp.map PyData.int)) (.list (ts.map λj=>.int j.num)) tops (aU ts) (bH ts) x8 x9 (some (.list [])) x11 x12 x13) rfl).trans e;have h1:=vt o;have sub:(ts.filter (dj ts)).Sublist ts:=List.filter_sublist;have look:∀j∈ts.filter (dj ts),a8 (k9 ts (len==("asked":Str))) j.num=some ((a8 (if (len==("asked":Str))=true then kx ts else []) j.num).getD j.rank):=λj n=>ur C.nd _ (Mn.mp n).1
 have nd:((ts.filter (dj ts)).map (·.num)).Nodup:=C.nd.sublist (sub.map _);have up:(ts.filter (dj ts)).Pairwise λi j=>i.num<j.num:=C.up.sublist sub
 have r:(ts.filter (dj ts)).length<=1000:=N5 sub.length_le few;generalize (if (len==("asked":Str))=true then kx ts else [])=l at *;generalize ts.filter (dj ts)=us at *;generalize k9 ts (len==("asked":Str))=pl at *;have s:aS 14 (bB (ae 10)) ba (cL (af (gDI (ae 7) (ae 14)) (af (ae 14) ah))) aE (chD (aq es) (ak rs) len (.list (sp.map PyData.int)) (.list (ts.map λj=>.int j.num)) tops (aU ts) pl m x9 (some (.list (us.map λj=>.int j.num))) a b c)=.ok (us.map λj=>mh (qN l j)):=mB nd rfl rfl r λj n=>by show cL (af (gDI (ae 7) (ae 14)) (af (ae 14) ah)) [some (aq es),some (ak rs),some (.str len),some (.list (sp.map PyData.int)),some (.list (ts.map λj=>.int j.num)),some tops,some (dfD (aU ts)),some (bM pl),m,x9,some (.list (us.map λj=>.int j.num)),a,b,c,some (.int j.num)]=_;have a1:gDI (ae 7) (ae 14) [some (aq es),some (ak rs),some (.str len),some (.list (sp.map PyData.int)),some (.list (ts.map λj=>.int j.num)),some tops,some (dfD (aU ts)),some (bM pl),m,x9,some (.list (us.map λj=>.int j.num)),a,b,c,some (.int j.num)]=_:=yj rfl rfl (look j n);simp only[fU,aA,aF,a1,ar,ay,Rs.ag,Rs.ai];rfl
 have t:=zH (g:=gL (aS 14 (bB (ae 10)) ba (cL (af (gDI (ae 7) (ae 14)) (af (ae 14) ah))) aE)) (δ:=chD (aq es) (ak rs) len (.list (sp.map PyData.int)) (.list (ts.map λj=>.int j.num)) tops (aU ts) pl m x9 (some (.list (us.map λj=>.int j.num))) a b c) (by unfold gL;rw[s];rfl) h1 (A7 (l:=l) h1 up);have u:bx (g2 dIx (gF jr (af (gL (aS 14 (bB (ae 10)) ba (cL (af (gDI (ae 7) (ae 14)) (af (ae 14) ah))) aE)) ah)) (gC (.int 1))) (chD (aq es) (ak rs) len (.list (sp.map PyData.int)) (.list (ts.map λj=>.int j.num)) tops (aU ts) pl m x9 (some (.list (us.map λj=>.int j.num))) a b c)=.rt (.int (eu (lU l) us).num):=by rw[bW,cy (f:=dIx) t rfl rfl];rfl
 unfold loR;rw[bQ q,bQ s2];unfold CF nM;rw[show (chD (aq es) (ak rs) len (.list (sp.map PyData.int)) (.list (ts.map λj=>.int j.num)) tops (aU ts) pl m x9 (some (.list (us.map λj=>.int j.num))) a b c)[10]?=some (some (.list (us.map λj=>.int j.num))) from rfl,show (chD (aq es) (ak rs) len (.list (sp.map PyData.int)) (.list (ts.map λj=>.int j.num)) tops (aU ts) pl m x9 (some (.list (us.map λj=>.int j.num))) a b c)[7]?=some (some (bM pl)) from rfl];simp only[u]
end
theorem law_choose_is{len:Str}(C:ChO es rs sp tops ts)(lo:fP len)(h:aN [aq es,ak rs]=.ok tops)(c:ts≠[]):cf cs [aq es,ak rs,.str len,.list (sp.map PyData.int),.list (ts.map λj=>.int j.num)]=.ok (.int (cO tops len ts).num):=by
 have i:eW cs (bo cs) (cw cs) aN=az (aR [7,10] 5 (au aN (af (ae 0) (af (ae 1) ah))))
  (az (aR [7,10] 6 (au (cw cs) (af (ae 0) (af (ae 3) (af (ae 4) ah)))))
  (az (sN [7,10] 7 (gL (aS 14 (bB (ae 4)) ba (cL (af (ae 14) (af (j4 (ae 1) (ae 14)) ah))) aE)))
  (az (sIf (gT (g2 dEq (ae 2) (gC (.str "high")))) hiR aX) (loR cs)))):=rfl
 have l:aR [7,10] 5 (au aN (af (ae 0) (af (ae 1) ah))) [some (aq es),some (ak rs),some (.str len),some (.list (sp.map PyData.int)),some (.list (ts.map λj=>.int j.num)),none,none,none,none,none,none,none,none,none]=.nx [some (aq es),some (ak rs),some (.str len),some (.list (sp.map PyData.int)),some (.list (ts.map λj=>.int j.num)),some tops,none,none,none,none,none,none,none,none] :=
  dB (show 5<14 by decide) (eX (ds:=[aq es,ak rs]) rfl h)
 have m:=law_held_is (cs:=cs) (ts:=ts) (es:=es) (sp:=sp) C.cur C.few;have ha:(af (ae 0) (af (ae 3) (af (ae 4) ah))) (mask [7,10] [some (aq es),some (ak rs),some (.str len),some (.list (sp.map PyData.int)),some (.list (ts.map λj=>.int j.num)),some tops,none,none,none,none,none,none,none,none])=.ok [aq es,.list (sp.map PyData.int),.list (ts.map λj=>.int j.num)]:=rfl;have hc:au (cw cs) (af (ae 0) (af (ae 3) (af (ae 4) ah))) (mask [7,10] [some (aq es),some (ak rs),some (.str len),some (.list (sp.map PyData.int)),some (.list (ts.map λj=>.int j.num)),some tops,none,none,none,none,none,none,none,none])=.ok (dfD (aU ts)):=eX ha m;have s2:aR [7,10] 6 (au (cw cs) (af (ae 0) (af (ae 3) (af (ae 4) ah)))) [some (aq es),some (ak rs),some (.str len),some (.list (sp.map PyData.int)),some (.list (ts.map λj=>.int j.num)),some tops,none,none,none,none,none,none,none,none]=.nx [some (aq es),some (ak rs),some (.str len),some (.list (sp.map PyData.int)),some (.list (ts.map λj=>.int j.num)),some tops,some (dfD (aU ts)),none,none,none,none,none,none,none] :=
  dB (show 6<14 by decide) hc
 have n:=zQ (len:=len) C (x8:=none) (x9:=none) (x10:=none) (x11:=none) (x12:=none) (x13:=none);have g:gT (g2 dEq (ae 2) (gC (.str "high"))) (chD (aq es) (ak rs) len (.list (sp.map PyData.int)) (.list (ts.map λj=>.int j.num)) tops (aU ts) (bH ts) none none none none none none)=.ok (len==("high":Str)):=by have:=cy (f:=dEq) (a:=ae 2) (b:=gC (.str "high")) (δ:=chD (aq es) (ak rs) len (.list (sp.map PyData.int)) (.list (ts.map λj=>.int j.num)) tops (aU ts) (bH ts) none none none none none none) rfl rfl (eq_str lo.sh uJ);rw[dJ,this,Rs.ag,aV]
 show bE (eW cs (bo cs) (cw cs) aN [some (aq es),some (ak rs),some (.str len),some (.list (sp.map PyData.int)),some (.list (ts.map λj=>.int j.num)),none,none,none,none,none,none,none,none,none])=_;rw[i,bQ l,bQ s2,bQ n];unfold cO;cases z:(len==("high":Str)) with
 |true =>
  have e:sIf (gT (g2 dEq (ae 2) (gC (.str "high")))) hiR aX (chD (aq es) (ak rs) len (.list (sp.map PyData.int)) (.list (ts.map λj=>.int j.num)) tops (aU ts) (bH ts) none none none none none none)=.rt (.int (eu (fz tops) ts).num):=by rw[cp,g,z,ax,if_pos rfl];exact EZ C c
  rw[aT,e,if_pos rfl];rfl
 |false =>
  have e:sIf (gT (g2 dEq (ae 2) (gC (.str "high")))) hiR aX (chD (aq es) (ak rs) len (.list (sp.map PyData.int)) (.list (ts.map λj=>.int j.num)) tops (aU ts) (bH ts) none none none none none none)=.nx (chD (aq es) (ak rs) len (.list (sp.map PyData.int)) (.list (ts.map λj=>.int j.num)) tops (aU ts) (bH ts) none none none none none none):=by rw[cp,g,z,ax,if_neg Mi];rfl
  rw[bQ e,Hk C lo c,if_neg Mi];rfl
theorem Ce{len:Str}(R:Ran es rs rows len):HvJ (bu es rs) (startJ es rs rows):=by
 refine⟨λi hi j f T h1 h2=>?_,λj f p g T e=>?_⟩
 ·obtain⟨k,row,_,_,_,rfl⟩:=cU hi;cases h1
 ·obtain⟨k,row,hk,_,_,rfl⟩:=cU f;have hln:=R.ln;have h:(0:Int)<=(k:Int):=by omega
  have h1:(k:Int)<es.length:=by omega
  have ok:=R.eok.ok _ (gO h h1);obtain⟨l,m⟩:=(ok.pl p g).2.2 T e;have o:(dD es (k:Int)).has T=true:=by unfold Er.has;rw[Nd];exact⟨p,g,by rw[e];exact beq_self_eq_true _⟩
  have hm:=R.rok.mem h h1;have a:=xQ hm;have b:rs[placeOf rs (k:Int)]?=some (k:Int):=by have:=List.findIdx_getElem (xs:=rs) (p:=(·==(k:Int))) (w:=a);rw[M1 a];exact congrArg some (eq_of_beq this)
  have c:(k:Int)∈rs.take (placeOf rs (k:Int)+1):=by rw[List.take_succ,b];exact Md _ M7
  obtain⟨n,hn,hle⟩:=(B3 es T rs 0 (placeOf rs (k:Int))).mpr ⟨(k:Int),c,o⟩;have:gW (bu es rs) T=n:=by unfold gW;rw[p6 l m hn]
  rw[this];show n<=(placeOf rs (k:Int):Int);omega
theorem wc{α:Type}{f:Jb->α}{b:Jb}:∀{js:List Jb},(js.map (·.num)).Nodup->b∈js->∀(i:Nat)(hi:i<js.length),js[i].num=b.num->(dg b js).map f=(js.map f).set i (f b.next)
 |[],_,c,_,_,_=>by cases c
 |j::r,nd,c,i,hi,hn=>by
  rcases mw nd c with⟨l,e⟩|⟨g,h,e⟩
  ·rw[M5,MG]at nd;cases i with
   |zero=>rw[e,M5,M5,NB]
   |succ i =>
    have a:i<r.length:=by simpa using hi
    have hn:r[i].num=b.num:=hn;exact (nd.1 (Mj.mpr ⟨r[i],MH a,by rw[hn,l]⟩)).elim
  ·cases i with
   |zero=>exact (g hn).elim
   |succ i =>
    have a:i<r.length:=by simpa using hi
    have hn:r[i].num=b.num:=hn;rw[M5,MG]at nd;rw[e,M5,M5,NA,wc nd.2 h i a hn]
theorem xF(h:ks.map dO=js.map dO)(a:∀(i:Nat)(h:i<js.length),js[i].parts=(dD es (i:Int)).parts):∀(i:Nat)(h:i<ks.length),ks[i].parts=(dD es (i:Int)).parts:=λi hi=>by
 have hl:=qz h;have e:(ks.map dO)[i]?=(js.map dO)[i]?:=by rw[h]
 rw[Mc,Mc,M1 hi,M1 (hl▸hi)]at e;have e2:dO ks[i]=dO (js[i]'(hl▸hi)):=Option.some.inj e;have:=congrArg (·.2.1) e2;exact this.trans (a i (hl▸hi))
theorem HB(h:JOk tops j):((lawAt j.parts 0 (j.cur+1)).1≠j.parts.length/\j.next.cur=j.cur+1/\j.next.job=j.job)\/((lawAt j.parts 0 (j.cur+1)).1=j.parts.length/\j.next.cur=0/\j.next.job=j.job+1):=by
 have a:=h.pt;have hlen:j.len=j.parts[j.part].1:=by unfold Jb.len;rw[M1 a];rfl
 have hsp:=h.sp;have htk:=kj a;by_cases z:(j.spent:Int)+1=j.len
 ·have e:j.cur+1=bO (j.parts.take (j.part+1)):=by unfold Jb.cur;omega
  by_cases y:j.part+1=j.parts.length
  ·have e1:bO (j.parts.take (j.part+1))=bO j.parts:=by rw[y,Oe]
   have b:j.next={ j with spent:=0,part:=0,job:=j.job+1 }:=by unfold Jb.next Jb.step1;rw[if_pos z];unfold Jb.step2;rw[if_pos (show ({ j with spent:=0,part:=j.part+1 }:Jb).part=({ j with spent:=0,part:=j.part+1 }:Jb).parts.length from y)]
   refine .inr ⟨?_,by rw[b];rfl,by rw[b]⟩;rw[e,e1,lawAt_end 0 h.ln,MX]
  ·have c:j.part+1<j.parts.length:=by omega
   have b:j.next={ j with spent:=0,part:=j.part+1 }:=by unfold Jb.next Jb.step1;rw[if_pos z];unfold Jb.step2;rw[if_neg (show ¬ ({ j with spent:=0,part:=j.part+1 }:Jb).part=({ j with spent:=0,part:=j.part+1 }:Jb).parts.length from y)]
   refine .inl ⟨?_,?_,by rw[b]⟩
   ·have:=lawAt_in 0 c (s:=0) h.ln (by omega) (by have:=h.ln _ (MH c);omega);rw[MX,Int.add_zero]at this;rw[e,this];exact y
   ·rw[b];show bO (j.parts.take (j.part+1))+((0:Nat):Int)=_;rw[e];omega
 ·have b:j.next={ j with spent:=j.spent+1 }:=by unfold Jb.next Jb.step1;rw[if_neg z];unfold Jb.step2;rw[if_neg (show ¬ ({ j with spent:=j.spent+1 }:Jb).part=({ j with spent:=j.spent+1 }:Jb).parts.length from Mf h.pt)]
  refine .inl ⟨?_,?_,by rw[b]⟩
  ·have:=lawAt_in 0 a (s:=(j.spent:Int)+1) h.ln (by omega) (by omega);rw[MX]at this;unfold Jb.cur;rw[Int.add_assoc,this];exact Mf a
  ·rw[b];show bO (j.parts.take j.part)+((j.spent+1:Nat):Int)=bO (j.parts.take j.part)+(j.spent:Int)+1;omega
theorem xr{k:Nat}{d:PyData}(hd:δ[i]?=some (some (.list ds)))(b:ge δ=.ok d)(c:gk δ=.ok (.int (k:Int)))(hl:k<ds.length)(hn:dG d=true):iO i gk ge δ=.nx (δ.set i (some (.list (ds.set k d)))):=by
 have a:ixN ds.length (k:Int)=some k:=by unfold ixN;rw[if_pos (Nz k),if_pos (by omega),ME]
 unfold iO;rw[hd];simp only[b,c,ax,a];rw[if_pos hn]
theorem Gk{d:PyData}(hd:δ[i]?=some (some (.list ds)))(a:g δ=.ok d)(hn:dG d=true)(hl:ds.length<1000000):pL i g δ=.nx (δ.set i (some (.list (ds++[d])))):=by unfold pL;rw[hd];simp only[a,ax];rw[if_pos ⟨hn,hl⟩]
theorem Bz{d:PyData}(hd:δ[i]?=some (some (.list ds)))(a:g (mask O δ)=.ok d)(hl:ds.length<1000000):fR O i g δ=.nx (δ.set i (some (.list (ds++[d])))):=by unfold fR;rw[hd];simp only[a,ax];rw[if_pos hl]
def pJ(js:List Jb):PyData:=.list (js.map λj=>.int (j.job:Int))
def rS(js:List Jb):PyData:=.list ((js.map Jb.cur).map PyData.int)
def rlD(E R:PyData)(len:Str)(js:List Jb)(told:List PyData)(x7 x8 x9:Option PyData):Ds:=[some E,some R,some (lR js),some (.str len),some (pJ js),some (rS js),some (.list told),x7,x8,x9]
structure RnO(es:List Er)(rs:List Int)(tops:PyData)(t:Int)(js:List Jb):Prop where
 iv:IvJ tops t js
 hv:HvJ tops js
 sx:Sx js
 ln:js.length=es.length
 pa:∀(i:Nat)(h:i<js.length),js[i].parts=(dD es (i:Int)).parts
 rk:∀j∈js,j.rank=(placeOf rs j.num:Int)
theorem oG(h:i<js.length):dIx (pJ js) (.int (i:Int))=some (.int (js[i].job:Int)):=jw (by rw[Mc,M1 h];rfl)
theorem yk(h:i<js.length):dIx (rS js) (.int (i:Int))=some (.int js[i].cur):=jw (by rw[Mc,Mc,M1 h];rfl)
theorem FL(r:List Int):bA [cC r]=some (.int (r.length:Int)):=by unfold cC;rw[jT,M4]
def rg(n:Nat):Ds->Rs Bool:=gT (g2 dLt (g2 dIx (ae 4) (ae n)) (gF bA (af (g2 dIx (ae 2) (ae n)) ah)))
theorem yi(h:i<js.length)(ok:JOk tops js[i])(b:ae 4 δ=.ok (pJ js))(h2:ae 2 δ=.ok (lR js))(hn:ae n δ=.ok (.int (i:Int))):rg n δ=.ok (!js[i].done):=by
 have g1:=cy b hn (oG h);have a:=cy h2 hn (yq h);have c:gF bA (af (g2 dIx (ae 2) (ae n)) ah) δ=.ok (.int (js[i].row.length:Int)):=by simp only[eV,aA,aF,a,Rs.ag,FL,Rs.ai]
 have e:=cy (f:=dLt) g1 c (Bd _ _);unfold rg;rw[dJ,e,Rs.ag,aV];have:=ok.jb;unfold Jb.done;congr 1;by_cases z:js[i].job=js[i].row.length
 ·rw[z,decide_eq_false (by omega),beq_self_eq_true];rfl
 ·rw[decide_eq_true (by omega),show ((js[i].job:Int)==(js[i].row.length:Int))=false by rw[beq_eq_false_iff_ne];omega];rfl
theorem G8(l6:es.length<=6)(h:ae 0 δ=.ok (aq es)):eJ (af (gF bA (af (ae 0) ah)) ah) δ=.ok (bN 0 es.length):=by
 have a:=kf (j:=(es.length:Int)) (by omega) (by omega);rw[ME]at a;have hv:(af (gF bA (af (ae 0) ah)) ah) δ=.ok [.int (es.length:Int)]:=by simp only[aA,aF,eV,h,Rs.ag,Jh,Rs.ai]
 rw[j8,hv,Rs.ag,a]
def rC:Ds->Rs Bool:=gT (g2 dNe (gL (aS 10 (eJ (af (gF bA (af (ae 0) ah)) ah)) (rg 10) (ae 10) aE)) (jj ah))
theorem uO(n:Nat):bN 0 n=((List.range n).map λk:Nat=>(k:Int)).map PyData.int:=by unfold bN;rw[Ms];exact Mv λk _=>by show PyData.int (0+(k:Int))=.int (k:Int);rw[Int.zero_add]
theorem J1(O:RnO es rs tops t js)(l6:es.length<=6){len:Str}:rC (rlD (aq es) R len js told x7 x8 x9)=.ok (!js.all Jb.done):=by
 have l:=lF (n0:=10) (src:=eJ (af (gF bA (af (ae 0) ah)) ah)) (cond:=rg 10) (elt:=ae 10) (δ:=rlD (aq es) R len js told x7 x8 x9) (p:=λd=>!(js.getD (deI d).toNat default).done) rfl (G8 l6 rfl) (by rw[cM];omega) λd hd=>by
  obtain⟨i,hi⟩:=List.mem_iff_getElem?.mp hd;obtain⟨c,rfl⟩:=gR hi;have a:i<js.length:=by rw[O.ln];exact c
  rw[Int.zero_add];refine⟨?_,rfl⟩;have:=yi a (O.iv.ok.ok _ (MH a)) (n:=10) (δ:=rlD (aq es) R len js told x7 x8 x9++[some (.int (i:Int))]) rfl rfl rfl;rw[this];congr 2;show js[i].done=(js.getD ((i:Int)).toNat default).done;rw[ME,M9,M1 a];rfl
 rw[uO,O2]at l;have hd:(((List.range es.length).map λk:Nat=>(k:Int)).filter ((λd=>!(js.getD (deI d).toNat default).done)∘PyData.int)=[])↔js.all Jb.done=true:=by
  rw[List.filter_eq_nil_iff,Mu];constructor
  ·intro h j m;obtain⟨i,hi,rfl⟩:=Nb m;have:=h (i:Int) (Mj.mpr ⟨i,N2.mpr (by rw[<-O.ln];exact hi),rfl⟩);have e:(js.getD ((i:Int)).toNat default)=js[i]:=by rw[ME,M9,M1 hi];rfl
   have this:¬ (!(js.getD ((i:Int)).toNat default).done)=true:=this;rw[e]at this;cases q:js[i].done with
   |true=>rfl
   |false=>rw[q]at this;exact (this rfl).elim
  ·intro h k o;obtain⟨i,hi,rfl⟩:=Mj.mp o;have a:i<js.length:=by rw[O.ln];exact N2.mp hi
   show ¬ (!(js.getD ((i:Int)).toNat default).done)=true;rw[ME,M9,M1 a];show ¬ (!js[i].done)=true;rw[h _ (MH a)];exact Mi
 have hn:=yI (((List.range es.length).map λk:Nat=>(k:Int)).filter ((λd=>!(js.getD (deI d).toNat default).done)∘PyData.int)) [];have g1:gL (aS 10 (eJ (af (gF bA (af (ae 0) ah)) ah)) (rg 10) (ae 10) aE) (rlD (aq es) R len js told x7 x8 x9)=.ok (.list ((((List.range es.length).map λk:Nat=>(k:Int)).filter ((λd=>!(js.getD (deI d).toNat default).done)∘PyData.int)).map PyData.int)):=by unfold gL;rw[l];rfl
 have g:=cy (f:=dNe) (b:=jj ah) g1 (y:=.list []) rfl hn;unfold rC;rw[dJ,g,Rs.ag,aV];refine congrArg (λb=>Rs.ok (!b)) ?_;by_cases z:js.all Jb.done=true
 ·rw[z,decide_eq_true (hd.mpr z)]
 ·rw[decide_eq_false (λq=>z (hd.mp q))];cases q:js.all Jb.done with
  |true=>exact (z q).elim
  |false=>rfl
def rtB:Ds->Sr:=sIf (qS (rg 8) (gT (g2 dLe (g2 dIx (g2 dIx (ae 2) (ae 8)) (g2 dIx (ae 4) (ae 8))) (gF bA (af (ae 6) ah))))) (fR [4,5,6,7] 7 (ae 8)) aX
theorem Gy(sx:Sx js):js.Pairwise λi j=>i.num<j.num:=by rw[NQ];intro i j hi a h;rw[sx.num i hi,sx.num j a];omega
theorem RnO.cu(O:RnO es rs tops t js)(a:j∈js):AK es (js.map Jb.cur) j:=by
 obtain⟨i,hi,rfl⟩:=Nb a;have hl:=O.ln;refine⟨dD es (i:Int),?_,(O.pa i hi).symm,?_⟩
 ·rw[O.sx.num i hi];exact km (by omega) (by omega)
 ·rw[O.sx.num i hi];exact yk hi
theorem RnO.ch(O:RnO es rs tops t js)(l6:es.length<=6)(c:fW es.length rs)(told:List PyData):ChO es rs (js.map Jb.cur) tops (aO told js):=by
 have sub:(aO told js).Sublist js:=List.filter_sublist;have hl:=O.ln;refine⟨λj a=>⟨O.cu (sub.subset a),O.iv.ok.ok j (sub.subset a)⟩,?_,λj a=>?_,(Gy O.sx).sublist sub,λi hi j a=>O.hv.one i (sub.subset hi) j (sub.subset a)⟩
 ·have:=sub.length_le;omega
 ·have b:=sub.subset a;rw[O.rk j b];obtain⟨i,hi,rfl⟩:=Nb b;have e:=O.sx.num i hi;exact nP (c.mem (by omega) (by omega))
theorem EW{E:PyData}{len:Str}{us:List PyData}(hi:i<js.length)(ok:JOk tops js[i])(hl:us.length<1000000) :
  rtB (rlD E R len js told (some (.list us)) (some (.int (i:Int))) x9)=.nx (rlD E R len js told (some (.list (us++(if js[i].there (told.length:Int)=true then [.int (i:Int)] else [])))) (some (.int (i:Int))) x9):=by
 have h1:=yi hi ok (n:=8) (δ:=rlD E R len js told (some (.list us)) (some (.int (i:Int))) x9) rfl rfl rfl;unfold rtB;rw[cp,uC,h1,Rs.ag];cases q:js[i].done with
 |true =>
  have e:js[i].there (told.length:Int)=false:=by
   unfold Jb.done at q;unfold Jb.there;have:js[i].job=js[i].row.length:=by have:=eq_of_beq q;omega
   rw[MW (by omega)]
  rw[e,if_neg (by decide),if_neg (by decide),N3,ax,if_neg (by decide)];rfl
 |false =>
  have c:=yY ok q;have g1:=cy (f:=dIx) (a:=ae 2) (b:=ae 8) (δ:=rlD E R len js told (some (.list us)) (some (.int (i:Int))) x9) rfl rfl (yq hi);have h:=cy (f:=dIx) (a:=ae 4) (b:=ae 8) (δ:=rlD E R len js told (some (.list us)) (some (.int (i:Int))) x9) rfl rfl (oG hi);have g:dIx (cC js[i].row) (.int (js[i].job:Int))=some (.int js[i].row[js[i].job]):=jw (by rw[Mc,M1 c];rfl);have j:=cy g1 h g;have l:gF bA (af (ae 6) ah) (rlD E R len js told (some (.list us)) (some (.int (i:Int))) x9)=.ok (.int (told.length:Int)):=rfl;have m:=cy (f:=dLe) j l (Kw _ _);have e:js[i].there (told.length:Int)=decide (js[i].row[js[i].job]<=(told.length:Int)):=by unfold Jb.there;rw[M1 c]
  rw[if_pos (by decide),dJ,m,Rs.ag,aV,ax,<-e];cases z:js[i].there (told.length:Int) with
  |true =>rw[if_pos rfl,if_pos rfl];exact Bz (ds:=us) (d:=.int (i:Int)) rfl rfl hl
  |false =>rw[if_neg Mi,if_neg Mi,N3];rfl
theorem ya{E R:PyData}{len:Str}{js:List Jb}{told:List PyData}{x9:Option PyData}{tops:PyData}(ok:∀j∈js,JOk tops j):∀(ks:List Nat)(us:List PyData)(x8:Option PyData)(b:∀k∈ks,k<js.length),us.length+ks.length<1000000 ->
  ∃c,forL (aZ 8) rtB (ks.map λk:Nat=>.int (k:Int)) (rlD E R len js told (some (.list us)) x8 x9)=.nx (rlD E R len js told (some (.list (us++(ks.filter λk=>(js.getD k default).there (told.length:Int)).map λk:Nat=>.int (k:Int)))) c x9)
 |[],us,x8,_,_=>⟨x8,by rw[List.filter_nil,Nc,N3];rfl⟩
 |k::r,us,x8,b,hl=>by
  rw[Mp]at hl;have a:=b k M7;have e:=EW (E:=E) (R:=R) (len:=len) (told:=told) (us:=us) (x9:=x9) a (ok _ (MH a)) (by omega);obtain⟨c,g⟩:=ya (E:=E) (R:=R) (len:=len) (told:=told) (x9:=x9) ok r (us++(if js[k].there (told.length:Int)=true then [.int (k:Int)] else [])) (some (.int (k:Int))) (λk f=>b k (M6 _ f)) (by rw[Mr];split <;> simp only[MQ,MM] <;> omega);refine⟨c,?_⟩;have h:js.getD k default=js[k]:=by rw[M9,M1 a];rfl
  rw[M5,kg (δ1:=rlD E R len js told (some (.list us)) (some (.int (k:Int))) x9) rfl e,g,NW,Nf,h];cases js[k].there (told.length:Int) with
  |true=>rw[if_pos rfl,if_pos rfl];rfl
  |false=>rw[if_neg Mi,if_neg Mi];rfl
theorem xW(sx:Sx js)(told:List PyData):((List.range js.length).filter λk=>(js.getD k default).there (told.length:Int)).map (λk:Nat=>PyData.int (k:Int))=(aO told js).map λj=>.int j.num:=by
 have e:(List.range js.length).map (λk=>js.getD k default)=js:=NI (by simp) λi h1 h2=>by rw[NJ,List.getElem_range,M9,M1 h2];rfl
 have h:aO told js=((List.range js.length).filter λk=>(js.getD k default).there (told.length:Int)).map λk=>js.getD k default:=by
  unfold aO
  conv=>lhs;rw[<-e]
  rw[O2];rfl
 rw[h,Ms];refine Mv λk b=>?_
 have a:=N2.mp (Mn.mp b).1;show PyData.int (k:Int)=.int (js.getD k default).num;rw[M9,M1 a];show PyData.int (k:Int)=.int js[k].num;rw[sx.num k a]
def rW(cs:Cs):Ds->Sr:=sIf (gT (g2 dEq (g2 dIx (au (bo cs) (af (g2 dIx (ae 0) (ae 9)) (af (g2 dIx (ae 5) (ae 9)) ah))) (gC (.int 0))) (gF bA (af (g2 dIx (g2 dIx (ae 0) (ae 9)) (gC (.int 3))) ah)))) (az (iO 5 (ae 9) (gC (.int 0)))
 (iO 4 (ae 9) (g2 bg (g2 dIx (ae 4) (ae 9)) (gC (.int 1))))) aX
def rV(cs:Cs):Ds->Sr:=az (ky 9 (au (cf cs) (af (ae 0) (af (ae 1) (af (ae 3) (af (ae 5) (af (ae 7) ah)))))))
 (az (pL 6 (cL (af (ae 9) (af (g2 dIx (ae 4) (ae 9)) ah))))
 (az (iO 5 (ae 9) (g2 bg (g2 dIx (ae 5) (ae 9)) (gC (.int 1)))) (rW cs)))
def rB(cs:Cs):Ds->Sr:=az (dh [4,5,6,7] 7 ah)
 (az (eP [4,5,6,7] (eJ (af (gF bA (af (ae 0) ah)) ah)) (aZ 8) rtB)
 (sIf (gT (g2 dEq (ae 7) (jj ah))) (fR [4,5,6,7] 6 (gC .none)) (rV cs)))
def rlX(E R W:PyData)(len:Str)(J C told:List PyData)(x7 x8 x9:Option PyData):Ds:=[some E,some R,some W,some (.str len),some (.list J),some (.list C),some (.list told),x7,x8,x9]
theorem set_same{f:α->β}{js:List α}(h:i<js.length){v:β}(e:f js[i]=v):(js.map f).set i v=js.map f:=by
 have h':i<(js.map f).length:=by rw[M4];exact h
 have:(js.map f)[i]=v:=by rw[NJ];exact e
 rw[<-this,List.set_getElem_self]
section
theorem Kz(O:RnO es rs tops t js){b:Jb}(n:b∈js){len:Str}:rW cs (rlX (aq es) R (lR js) len (js.map λj=>.int (j.job:Int)) (((js.map Jb.cur).map PyData.int).set b.num.toNat (.int (b.cur+1))) told x7 x8 (some (.int b.num)))=.nx (rlD (aq es) R len (dg b js) told x7 x8 (some (.int b.num))):=by
 obtain⟨i,hi,e⟩:=Nb n;have hn:b.num=(i:Int):=by rw[<-e];exact O.sx.num i hi
 have hl:=O.ln;have hok:=O.iv.ok.ok b n;have w:(dD es (i:Int)).parts=b.parts:=by rw[<-e];exact (O.pa i hi).symm
 have l:=Al (mO O.iv.ok.nd n);have c:∀{α:Type}(f:Jb->α),(dg b js).map f=(js.map f).set i (f b.next):=λf=>wc O.iv.ok.nd n i hi (by rw[e])
 have m:=HB hok;have g:(dg b js).map (λj=>PyData.int j.cur)=(js.map λj=>PyData.int j.cur).set i (.int b.next.cur):=c _;have h:(dg b js).map (λj=>PyData.int (j.job:Int))=(js.map λj=>PyData.int (j.job:Int)).set i (.int (b.next.job:Int)):=c _;have o:∀ks:List Jb,(ks.map Jb.cur).map PyData.int=ks.map λj=>PyData.int j.cur:=λks=>by rw[Ms];rfl
 have hlen:(js.map λj=>PyData.int j.cur).length=js.length:=M4 _;have hlenJ:(js.map λj=>PyData.int (j.job:Int)).length=js.length:=M4 _;have p:dIx (.list (js.map λj=>.int (j.job:Int))) (.int (i:Int))=some (.int (b.job:Int)):=by rw[<-e];exact oG hi
 unfold rlD pJ rS;rw[l,o,o,g,h,hn,ME];clear g h c l o;have z:(js.map λj=>PyData.int (j.job:Int)).set i (.int (b.job:Int))=js.map λj=>PyData.int (j.job:Int):=set_same hi (by rw[e])
 generalize (js.map λj=>PyData.int j.cur)=CL at *;generalize (js.map λj=>PyData.int (j.job:Int))=JL at *;generalize lR js=W;have q:dIx (.list (CL.set i (.int (b.cur+1)))) (.int (i:Int))=some (.int (b.cur+1)):=jw (MI (by omega));have hex:dIx (aq es) (.int (i:Int))=some (dD es (i:Int)).d:=km (by omega) (by omega);have g1:=cy (f:=dIx) (a:=ae 0) (b:=ae 9) (δ:=rlX (aq es) R W len JL (CL.set i (.int (b.cur+1))) told x7 x8 (some (.int (i:Int)))) rfl rfl hex;have A:=cy (f:=dIx) (a:=ae 5) (b:=ae 9) (δ:=rlX (aq es) R W len JL (CL.set i (.int (b.cur+1))) told x7 x8 (some (.int (i:Int)))) rfl rfl q;have ha:(af (g2 dIx (ae 0) (ae 9)) (af (g2 dIx (ae 5) (ae 9)) ah)) (rlX (aq es) R W len JL (CL.set i (.int (b.cur+1))) told x7 x8 (some (.int (i:Int))))=.ok [(dD es (i:Int)).d,.int (b.cur+1)]:=by simp only[aA,aF,g1,A,Rs.ag]
 have x:=eX ha (law_at_of (cs:=cs) (e:=dD es (i:Int)) (s:=b.cur+1));rw[w]at x;have B:=cy (f:=dIx) (b:=gC (.int 0)) x rfl (show dIx (GA (lawAt b.parts 0 (b.cur+1))) (.int 0)=some (.int ((lawAt b.parts 0 (b.cur+1)).1:Int)) from rfl);have y:=cy (f:=dIx) (b:=gC (.int 3)) g1 rfl (Ac _);rw[w]at y;have C:gF bA (af (g2 dIx (g2 dIx (ae 0) (ae 9)) (gC (.int 3))) ah) (rlX (aq es) R W len JL (CL.set i (.int (b.cur+1))) told x7 x8 (some (.int (i:Int))))=.ok (.int (b.parts.length:Int)):=by simp only[eV,aA,aF,y,Rs.ag,pW,M4,Rs.ai]
 have D:=cy (f:=dEq) B C (je _ _);unfold rW;rw[cp,dJ,D,Rs.ag,aV,ax];rcases m with⟨h1,h2,r⟩|⟨h1,h2,r⟩
 ·have u:(((lawAt b.parts 0 (b.cur+1)).1:Int)==(b.parts.length:Int))=false:=by rw[beq_eq_false_iff_ne];omega
  rw[u,if_neg Mi,h2,r,z];rfl
 ·have u:(((lawAt b.parts 0 (b.cur+1)).1:Int)==(b.parts.length:Int))=true:=by rw[h1];exact beq_self_eq_true _
  rw[u,if_pos rfl,h2,r];have p1:iO 5 (ae 9) (gC (.int 0)) (rlX (aq es) R W len JL (CL.set i (.int (b.cur+1))) told x7 x8 (some (.int (i:Int))))=.nx (rlX (aq es) R W len JL (CL.set i (.int 0)) told x7 x8 (some (.int (i:Int)))):=by have:=xr (i:=5) (gk:=ae 9) (ge:=gC (.int 0)) (δ:=rlX (aq es) R W len JL (CL.set i (.int (b.cur+1))) told x7 x8 (some (.int (i:Int)))) (k:=i) (d:=.int 0) rfl rfl rfl (by rw[List.length_set];omega) rfl;rw[List.set_set]at this;exact this
  have E:=cy (f:=dIx) (a:=ae 4) (b:=ae 9) (δ:=rlX (aq es) R W len JL (CL.set i (.int 0)) told x7 x8 (some (.int (i:Int)))) rfl rfl p;have v:=cy (f:=bg) (b:=gC (.int 1)) E rfl (eh _ _);have p2:=xr (i:=4) (gk:=ae 9) (δ:=rlX (aq es) R W len JL (CL.set i (.int 0)) told x7 x8 (some (.int (i:Int)))) (k:=i) rfl v rfl (by omega) rfl;rw[bQ p1,p2];rfl
theorem La(O:RnO es rs tops t js)(l6:es.length<=6){len:Str}(o:fW es.length rs)(lo:fP len)(p:aN [aq es,ak rs]=.ok tops)(m:aO told js≠[])(hl:told.length<1000000):rV cs (rlD (aq es) (ak rs) len js told (some (.list ((aO told js).map λj=>.int j.num))) x8 x9)=.nx (rlD (aq es) (ak rs) len (dg (cO tops len (aO told js)) js) (told++[eB (cO tops len (aO told js))]) (some (.list ((aO told js).map λj=>.int j.num))) x8 (some (.int (cO tops len (aO told js)).num))):=by
 have hc:=law_choose_is (cs:=cs) (O.ch l6 o told) lo p m;have n:cO tops len (aO told js)∈js:=(Mn.mp (iG (tops:=tops) (len:=len) m)).1;have ha:(af (ae 0) (af (ae 1) (af (ae 3) (af (ae 5) (af (ae 7) ah))))) (rlD (aq es) (ak rs) len js told (some (.list ((aO told js).map λj=>.int j.num))) x8 x9)=.ok [aq es,ak rs,.str len,.list ((js.map Jb.cur).map PyData.int),.list ((aO told js).map λj=>.int j.num)]:=rfl;have c:=eX ha hc;clear hc ha;generalize cO tops len (aO told js)=b at *;generalize (some (PyData.list ((aO told js).map λj=>.int j.num)))=x7 at *;have g:=yW (i:=9) (δ:=rlD (aq es) (ak rs) len js told x7 x8 x9) (show 9<10 by decide) c rfl;have g:ky 9 (au (cf cs) (af (ae 0) (af (ae 1) (af (ae 3) (af (ae 5) (af (ae 7) ah)))))) (rlD (aq es) (ak rs) len js told x7 x8 x9)=.nx (rlD (aq es) (ak rs) len js told x7 x8 (some (.int b.num))):=g;obtain⟨i,hi,e⟩:=Nb n;have hn:b.num=(i:Int):=by rw[<-e];exact O.sx.num i hi
 have h:dIx (pJ js) (.int b.num)=some (.int (b.job:Int)):=by rw[hn,<-e];exact oG hi
 have l:dIx (rS js) (.int b.num)=some (.int b.cur):=by rw[hn,<-e];exact yk hi
 have g1:=cy (f:=dIx) (a:=ae 4) (b:=ae 9) (δ:=rlD (aq es) (ak rs) len js told x7 x8 (some (.int b.num))) rfl rfl h;have q:cL (af (ae 9) (af (g2 dIx (ae 4) (ae 9)) ah)) (rlD (aq es) (ak rs) len js told x7 x8 (some (.int b.num)))=.ok (eB b):=by have r:ae 9 (rlD (aq es) (ak rs) len js told x7 x8 (some (.int b.num)))=.ok (.int b.num):=rfl;simp only[fU,aA,aF,r,g1,Rs.ag];rfl
 have s2:pL 6 (cL (af (ae 9) (af (g2 dIx (ae 4) (ae 9)) ah))) (rlD (aq es) (ak rs) len js told x7 x8 (some (.int b.num)))=.nx (rlD (aq es) (ak rs) len js (told++[eB b]) x7 x8 (some (.int b.num))):=Gk rfl q rfl hl;have s:=cy (f:=dIx) (a:=ae 5) (b:=ae 9) (δ:=rlD (aq es) (ak rs) len js (told++[eB b]) x7 x8 (some (.int b.num))) rfl rfl l;have u:=cy (f:=bg) (b:=gC (.int 1)) s rfl (eh _ _);have gk:ae 9 (rlD (aq es) (ak rs) len js (told++[eB b]) x7 x8 (some (.int b.num)))=.ok (.int (b.num.toNat:Int)):=by rw[Nt (by omega)];rfl
 have v:=xr (i:=5) (ds:=(js.map Jb.cur).map PyData.int) (δ:=rlD (aq es) (ak rs) len js (told++[eB b]) x7 x8 (some (.int b.num))) rfl u gk (by rw[M4,M4];omega) rfl;unfold rV;rw[bQ g,bQ s2,bQ v];exact Kz (cs:=cs) O n
theorem Cw(O:RnO es rs tops t js)(l6:es.length<=6){len:Str}(et:t=(told.length:Int))(m:fW es.length rs)(lo:fP len)(n:aN [aq es,ak rs]=.ok tops)(hl:told.length<1000000):∃o c p,rB cs (rlD (aq es) (ak rs) len js told x7 x8 x9)=.nx (rlD (aq es) (ak rs) len (cY tops len (js,told)).1 (cY tops len (js,told)).2 o c p):=by
 have g:=O.ln;have i:dh [4,5,6,7] 7 ah (rlD (aq es) (ak rs) len js told x7 x8 x9)=.nx (rlD (aq es) (ak rs) len js told (some (.list [])) x8 x9):=pQ (show 7<10 by decide) rfl;obtain⟨c,e⟩:=ya (E:=aq es) (R:=ak rs) (len:=len) (told:=told) (x9:=x9) O.iv.ok.ok (List.range js.length) [] x8 (λk r=>N2.mp r) (by rw[NX,MM];omega);rw[MK,xW O.sx]at e;have s:eJ (af (gF bA (af (ae 0) ah)) ah) (mask [4,5,6,7] (rlD (aq es) (ak rs) len js told (some (.list [])) x8 x9))=.ok ((List.range js.length).map λk:Nat=>.int (k:Int)):=by rw[G8 l6 rfl,uO,Ms,g];rfl
 have s2:=(ui (O:=[4,5,6,7]) (tgt:=aZ 8) (body:=rtB) s).trans e;have u:dEq (.list ((aO told js).map λj=>.int j.num)) (.list [])=some (.bool (decide ((aO told js).map (·.num)=[]))):=by have:=Dj ((aO told js).map (·.num));rw[Ms]at this;exact this
 have l:=cy (f:=dEq) (a:=ae 7) (b:=jj ah) (δ:=rlD (aq es) (ak rs) len js told (some (.list ((aO told js).map λj=>.int j.num))) c x9) rfl rfl u;by_cases z:aO told js=[]
 ·have hd:decide ((aO told js).map (·.num)=[])=true:=by rw[z];rfl
  refine⟨some (.list ((aO told js).map λj=>.int j.num)),c,x9,?_⟩;rw[gu z];unfold rB;rw[bQ i,bQ s2,cp,dJ,l,Rs.ag,aV,ax,hd,if_pos rfl];exact Bz (ds:=told) rfl rfl hl
 ·have hd:decide ((aO told js).map (·.num)=[])=false:=decide_eq_false λq=>z (List.map_eq_nil_iff.mp q)
  have h:cY tops len (js,told)=(dg (cO tops len (aO told js)) js,told++[eB (cO tops len (aO told js))]):=by unfold cY;exact if_neg z
  refine⟨some (.list ((aO told js).map λj=>.int j.num)),c,some (.int (cO tops len (aO told js)).num),?_⟩;rw[h];unfold rB;rw[bQ i,bQ s2,cp,dJ,l,Rs.ag,aV,ax,hd,if_neg Mi];exact La (cs:=cs) O l6 m lo n z hl
end
theorem RnO.step{len:Str}(O:RnO es rs tops (told.length:Int) js):RnO es rs tops ((cY tops len (js,told)).2.length:Int) (cY tops len (js,told)).1:=by
 have a:=En (len:=len) O.iv;have c:=EF (len:=len) O.iv O.hv;by_cases z:aO told js=[]
 ·rw[gu z]at a c ⊢;exact⟨a,c,O.sx,O.ln,O.pa,O.rk⟩
 ·obtain⟨b,h,_,e⟩:=ki (tops:=tops) (len:=len) z;rw[e]at a c ⊢;have f:=mO O.iv.ok.nd h;refine⟨a,c,FE f O.sx,by rw[qz f];exact O.ln,xF f O.pa,λj g=>?_⟩;rcases j6 g with⟨g,_⟩|rfl
  ·exact O.rk j g
  ·rw[sg,pG];exact O.rk b h
theorem Dl{b:Ds->Sr}(hc:c δ=.ok false):bF c b (n+1) δ=.nx δ:=by unfold bF;rw[hc];rfl
theorem D6{b:Ds->Sr}{a:Ds}(hc:c δ=.ok true)(e:b δ=.nx a):bF c b (n+1) δ=bF c b n a:=by
 conv=>lhs;unfold bF
 rw[hc];simp only[ax,if_true,e]
theorem BF{len:Str}(l6:es.length<=6)(g:fW es.length rs)(lo:fP len)(i:aN [aq es,ak rs]=.ok tops)(m:Nat)(hm:m<=1000000)(n:Nat):∀(js:List Jb)(told t:List PyData)(x7 x8 x9:Option PyData),q9 tops len n (js,told)=some t->RnO es rs tops (told.length:Int) js->told.length+n<=m ->
  ∃a b c f,bF rC (rB cs) n (rlD (aq es) (ak rs) len js told x7 x8 x9)=.nx (rlD (aq es) (ak rs) len a t b c f):=by
 induction n with
 |zero=>intro _ _ _ _ _ _ h;cases h
 |succ n ih =>
  intro js told t x7 x8 x9 h O hn;have hc:=J1 O l6 (R:=ak rs) (len:=len) (told:=told) (x7:=x7) (x8:=x8) (x9:=x9);unfold q9 at h;cases z:js.all Jb.done with
  |true =>rw[if_pos (show (js,told).1.all Jb.done=true from z)]at h;cases h;rw[z]at hc;exact⟨js,x7,x8,x9,Dl hc⟩
  |false =>rw[if_neg (show ¬ ((js,told).1.all Jb.done=true) by rw[show (js,told).1=js from rfl,z];exact Mi)]at h;rw[z]at hc;obtain⟨b,c,f,e⟩:=Cw (cs:=cs) O l6 (len:=len) rfl (x7:=x7) (x8:=x8) (x9:=x9) g lo i (by omega);rw[D6 hc e];have O':=O.step (len:=len);have hs:(cY tops len (js,told)).2.length=told.length+1:=u0;generalize cY tops len (js,told)=s at *;exact ih s.1 s.2 t b c f h O' (by omega)
def eN(cs:Cs):Gf:=gfG 4 6 (iB cs (bo cs) (cf cs))
section
variable {len:Str}
theorem v8:∀(i:Nat)(h:i<(startJ es rs rows).length),(startJ es rs rows)[i].parts=(dD es (i:Int)).parts:=λi h=>by obtain⟨row,e⟩:=qu h;rw[e];rfl
theorem qv{f:Jb->PyData}(a:∀(i:Nat)(row:List Int),f (mkJ es rs i row)=.int 0)(hl:rows.length=es.length):(startJ es rs rows).map f=(es.map Er.d).map λ_=>.int 0 :=
 NI (by rw[M4,M4,M4,fj,hl]) (λi h1 h2=>by
  have b:i<(startJ es rs rows).length:=by rwa[M4]at h1
  obtain⟨row,e⟩:=qu b;rw[NJ,NJ,e];exact a i row)
theorem B9(R:Ran es rs rows len)(C:Cms es rows):RnO es rs (bu es rs) (([]:List PyData).length:Int) (startJ es rs rows):=by refine⟨B4 R C,Ce R,DG R C,by rw[fj,R.ln],v8,λj a=>?_⟩;obtain⟨k,row,_,_,_,rfl⟩:=cU a;rfl
theorem law_run_is(R:Ran es rs rows len)(C:Cms es rows){t:List PyData}(h:lG es rs rows len=some t):eN cs [aq es,ak rs,cmD rows,.str len]=.ok (.list t):=by
 have l6:=R.eok.l6;have b:aN [aq es,ak rs]=.ok (bu es rs):=hZ (by omega) (λe c=>(R.eok.ok e c).sh) R.rok;obtain⟨js',y7,y8,y9,e⟩:=BF (cs:=cs) l6 R.rok R.le b 1000000 (Me _) 1000000 (startJ es rs rows) [] t none none none h (B9 R C) (by rw[MM];omega);have f:iB cs (bo cs) (cf cs)=az (dh [4,5,6,7] 4 (aS 10 (bB (ae 0)) ba (gC (.int 0)) aE))
  (az (dh [4,5,6,7] 5 (aS 10 (bB (ae 0)) ba (gC (.int 0)) aE))
  (az (dh [4,5,6,7] 6 ah)
  (az (λδ=>bF rC (rB cs) 1000000 δ) (bx (ae 6))))):=rfl
 have hw:lR (startJ es rs rows)=cmD rows:=by unfold lR;rw[xc]
 have g:pJ (startJ es rs rows)=.list ((es.map Er.d).map λ_=>.int 0):=by unfold pJ;rw[qv (λi row=>rfl) R.ln]
 have hc:rS (startJ es rs rows)=.list ((es.map Er.d).map λ_=>.int 0):=by unfold rS;rw[Ms,qv (λi row=>rfl) R.ln]
 unfold rlD at e;rw[hw,g,hc]at e;have g1:aS 10 (bB (ae 0)) ba (gC (.int 0)) aE (mask [4,5,6,7] [some (aq es),some (ak rs),some (cmD rows),some (.str len),none,none,none,none,none,none])=.ok ((es.map Er.d).map λ_=>.int 0):=cx rfl rfl (by rw[M4];omega) λd _=>rfl
 have j:dh [4,5,6,7] 4 (aS 10 (bB (ae 0)) ba (gC (.int 0)) aE) [some (aq es),some (ak rs),some (cmD rows),some (.str len),none,none,none,none,none,none]=.nx [some (aq es),some (ak rs),some (cmD rows),some (.str len),some (.list ((es.map Er.d).map λ_=>.int 0)),none,none,none,none,none]:=pQ (show 4<10 by decide) g1;have a:aS 10 (bB (ae 0)) ba (gC (.int 0)) aE (mask [4,5,6,7] [some (aq es),some (ak rs),some (cmD rows),some (.str len),some (.list ((es.map Er.d).map λ_=>.int 0)),none,none,none,none,none])=.ok ((es.map Er.d).map λ_=>.int 0):=cx rfl rfl (by rw[M4];omega) λd _=>rfl
 have s2:dh [4,5,6,7] 5 (aS 10 (bB (ae 0)) ba (gC (.int 0)) aE) [some (aq es),some (ak rs),some (cmD rows),some (.str len),some (.list ((es.map Er.d).map λ_=>.int 0)),none,none,none,none,none]=.nx [some (aq es),some (ak rs),some (cmD rows),some (.str len),some (.list ((es.map Er.d).map λ_=>.int 0)),some (.list ((es.map Er.d).map λ_=>.int 0)),none,none,none,none]:=pQ (show 5<10 by decide) a;have l:dh [4,5,6,7] 6 ah [some (aq es),some (ak rs),some (cmD rows),some (.str len),some (.list ((es.map Er.d).map λ_=>.int 0)),some (.list ((es.map Er.d).map λ_=>.int 0)),none,none,none,none]=.nx [some (aq es),some (ak rs),some (cmD rows),some (.str len),some (.list ((es.map Er.d).map λ_=>.int 0)),some (.list ((es.map Er.d).map λ_=>.int 0)),some (.list []),none,none,none]:=pQ (show 6<10 by decide) rfl;show bE (iB cs (bo cs) (cf cs) [some (aq es),some (ak rs),some (cmD rows),some (.str len),none,none,none,none,none,none])=_;have m:(λδ=>bF rC (rB cs) 1000000 δ) [some (aq es),some (ak rs),some (cmD rows),some (.str len),some (.list ((es.map Er.d).map λ_=>.int 0)),some (.list ((es.map Er.d).map λ_=>.int 0)),some (.list []),none,none,none]=_:=e;rw[f,bQ j,bQ s2,bQ l,bQ m];rfl
end
theorem yA{d:PyData}(h1:aG d=true)(h2:SeqAt.shaped d=true):dEq d d=some (.bool true):=by unfold dEq;rw[h1,h2,SeqAt.eqv_refl d (SeqAt.canLay_of_shaped h2)];rfl
theorem vI(h:∀d∈ds,d.canLay0=true/\d.depth<=n):PyData.canLayAll0 ds=true/\PyData.depthAll ds<=n:=by
 induction ds with
 |nil=>exact⟨rfl,MR _⟩
 |cons d r ih =>
  obtain⟨a,b⟩:=h d M7;obtain⟨c,e⟩:=ih λx f=>h x (M6 _ f)
  refine⟨by simp[PyData.canLayAll0,a,c],?_⟩;simp only[PyData.depthAll];omega
theorem t8{tops:PyData}{len:Str}:∀(n:Nat)(js:List Jb)(told t:List PyData),q9 tops len n (js,told)=some t->(∀d∈told,d=.none\/∃b,d=eB b)->∀d∈t,d=.none\/∃b,d=eB b
 |0,_,_,_,h,_=>by cases h
 |n+1,js,told,t,h,ht=>by
  unfold q9 at h;by_cases z:js.all Jb.done=true
  ·rw[if_pos (show (js,told).1.all Jb.done=true from z)]at h;cases h;exact ht
  ·rw[if_neg (show ¬ ((js,told).1.all Jb.done=true) from z)]at h;by_cases y:aO told js=[]
   ·rw[gu y]at h;refine t8 n _ _ t h λd hd=>?_
    rcases Mx.mp hd with hd|hd
    ·exact ht d hd
    ·exact .inl (Mh.mp hd)
   ·obtain⟨b,_,_,e⟩:=ki (tops:=tops) (len:=len) y;rw[e]at h;refine t8 n _ _ t h λd hd=>?_
    rcases Mx.mp hd with hd|hd
    ·exact ht d hd
    ·exact .inr ⟨b,Mh.mp hd⟩
theorem yd{d:PyData}(h:d=.none\/∃b,d=eB b):aG d=true/\d.canLay0=true/\d.depth<=2:=by
 rcases h with rfl|⟨b,rfl⟩
 ·exact⟨rfl,rfl,by decide⟩
 ·unfold eB;exact⟨rfl,rfl,by simp[PyData.depth,PyData.depthAll]⟩
theorem BD(h:∀d∈ds,d.canLay0=true/\d.depth<=n)(hn:n<=60):SeqAt.shaped (.list ds)=true:=by
 obtain⟨a,b⟩:=vI h;have c:(PyData.list ds).depth<=64:=by simp only[PyData.depth];omega
 simp[SeqAt.shaped,PyData.canLay0,a,c]
theorem zY{t:List PyData}(h:∀d∈t,d=.none\/∃b,d=eB b):aG (.list t)=true/\dEq (.list t) (.list t)=some (.bool true):=by
 have hd:aG (.list t)=true:=c9 λd hd=>(yd (h d hd)).1
 exact⟨hd,yA hd (BD (λd hd=>(yd (h d hd)).2) (by decide))⟩
theorem E6(rows:List (List Int)):dEq (cmD rows) (cmD rows)=some (.bool true):=by
 refine yA (kT rows) (BD (n:=10) (λd hd=>?_) (by decide));obtain⟨r,_,rfl⟩:=Mj.mp hd;obtain⟨a,b⟩:=vI (ds:=r.map PyData.int) (n:=5) λd hd=>by obtain⟨i,_,rfl⟩:=Mj.mp hd;exact⟨rfl,by simp[PyData.depth]⟩
 refine⟨by simp[cC,PyData.canLay0,a],?_⟩;simp only[cC,PyData.depth];omega
theorem law_holds(cs:Cs)(ns:List Int):zy cs (eN cs) (iq cs) aj (cg cs) b8 bz (some (ao ns)::List.replicate 6 none)=.rt (.bool true):=by
 obtain⟨es,rs,_,l1,l4,hok,o,f,g⟩:=Bx ns 12 28 (by decide) (by decide) (by decide);have l6:es.length<=6:=by omega
 have ok:xR es:=⟨l1,l6,hok⟩
 obtain⟨rows,h,C⟩:=wG (cs:=cs) ok (ns:=ns) (a:=5) (span:=50) (by decide) (by decide);obtain⟨len,hlen,le⟩:=Fh ns;have i:=cj (ns:=ns) (k:=10) (many:=3) (by decide) (by decide);have R:Ran es rs rows len:=⟨ok,o,C.len,le⟩
 obtain⟨t,j⟩:=Di R C;have b:=rm (cs:=cs) R C j;have c:=law_run_is (cs:=cs) R C j;have hrl:rows.length<=1000:=by have:=R.ln;omega
 obtain⟨nd,l⟩:=zY (t8 _ _ _ t j λd hd=>by cases hd);have m:=E6 rows;have p:aR [] 1 (au bz (af (ae 0) (af (gC (.int 12)) (af (gC (.int 4)) (af (gC (.int 28)) (af (gC (.bool true)) ah)))))) [some (ao ns),none,none,none,none,none,none]=.nx [some (ao ns),some (aq es),none,none,none,none,none]:=dB (by decide:1<7) (eX rfl f);have s2:aR [] 2 (au b8 (af (ae 0) (af (gC (.int 0)) (af (gF bA (af (ae 1) ah)) ah)))) [some (ao ns),some (aq es),none,none,none,none,none]=.nx [some (ao ns),some (aq es),some (ak rs),none,none,none,none]:=by refine dB (by decide:2<7) (eX (ds:=[ao ns,.int 0,.int (es.length:Int)]) ?_ g);show (af (ae 0) (af (gC (.int 0)) (af (gF bA (af (ae 1) ah)) ah))) [some (ao ns),some (aq es),none,none,none,none,none]=_;simp only[aA,aF,eV,ar,ay,cQ,Rs.ag,Jh,Rs.ai]
 have q:aR [] 3 (au (cg cs) (af (ae 0) (af (gC (.int 5)) (af (ae 1) (af (gC (.int 50)) ah))))) [some (ao ns),some (aq es),some (ak rs),none,none,none,none]=.nx [some (ao ns),some (aq es),some (ak rs),some (cmD rows),none,none,none]:=dB (by decide:3<7) (eX rfl h);have s:aR [] 4 (g2 dIx (jj (af (gC (.str "high")) (af (gC (.str "asked")) (af (gC (.str "none")) ah)))) (au aj (af (ae 0) (af (gC (.int 10)) (af (gC (.int 3)) ah))))) [some (ao ns),some (aq es),some (ak rs),some (cmD rows),none,none,none]=.nx [some (ao ns),some (aq es),some (ak rs),some (cmD rows),some (.str len),none,none] :=
  dB (by decide:4<7) (cy (x:=.list [.str "high",.str "asked",.str "none"]) (y:=.int (mixed ns 10 3)) rfl (eX rfl i) hlen)
 have e:aS 7 (bB (ae 3)) ba (gF k7 (af (ae 7) ah)) aE [some (ao ns),some (aq es),some (ak rs),some (cmD rows),some (.str len),none,none]=.ok ((rows.map cC).map id) :=
  cx rfl rfl (by rw[M4];omega) λd hd=>by obtain⟨r,_,rfl⟩:=Mj.mp hd;rfl
 rw[N8]at e;have n:gL (aS 7 (bB (ae 3)) ba (gF k7 (af (ae 7) ah)) aE) [some (ao ns),some (aq es),some (ak rs),some (cmD rows),some (.str len),none,none]=.ok (cmD rows):=by unfold gL;rw[e];rfl
 have u:aR [] 5 (gL (aS 7 (bB (ae 3)) ba (gF k7 (af (ae 7) ah)) aE)) [some (ao ns),some (aq es),some (ak rs),some (cmD rows),some (.str len),none,none]=.nx [some (ao ns),some (aq es),some (ak rs),some (cmD rows),some (.str len),some (cmD rows),none]:=dB (by decide:5<7) n;have v:aR [] 6 (au (iq cs) (af (ae 1) (af (ae 2) (af (ae 5) (af (ae 4) ah))))) [some (ao ns),some (aq es),some (ak rs),some (cmD rows),some (.str len),some (cmD rows),none]=.nx [some (ao ns),some (aq es),some (ak rs),some (cmD rows),some (.str len),some (cmD rows),some (.list t)]:=dB (by decide:6<7) (eX rfl b);unfold zy;show az _ _ [some (ao ns),none,none,none,none,none,none]=_;rw[bQ p,bQ s2,bQ q,bQ s,bQ u,bQ v];have w:g1 (ia "list") (ae 6) [some (ao ns),some (aq es),some (ak rs),some (cmD rows),some (.str len),some (cmD rows),some (.list t)]=.ok (.bool true):=by have:ia "list" (.list t)=some (.bool true):=qV nd;show (Rs.ok (PyData.list t)).bind (λx=>Rs.ee (ia "list" x))=_;rw[Rs.ag,this];rfl
 have z:g2 dEq (ae 6) (au (eN cs) (af (ae 1) (af (ae 2) (af (ae 3) (af (ae 4) ah))))) [some (ao ns),some (aq es),some (ak rs),some (cmD rows),some (.str len),some (cmD rows),some (.list t)]=.ok (.bool true) :=
  cy rfl (eX rfl c) l
 have A:g2 dEq (ae 5) (ae 3) [some (ao ns),some (aq es),some (ak rs),some (cmD rows),some (.str len),some (cmD rows),some (.list t)]=.ok (.bool true):=cy rfl rfl m;rw[bW,oV,w];show ofR ((Rs.ok (.bool true:PyData)).bind _) _=_;rw[Rs.ag,aV];simp only[oV,z,A,Rs.ag,ax,if_true,aV]
theorem Kd(cs:Cs):LLq (zy cs (eN cs) (iq cs) aj (cg cs) b8 bz) 1 6 (fH 63):=lawT_of (law_holds cs)
end RS
namespace L2
open PySem PySem.Spec PyProof.Rows
section
variable {E:XK}
end
end L2
set_option maxHeartbeats 4000000
namespace L2
open PySem PySem.Spec PyProof.Rows
section
variable {E:XK}{k:Expr}{apos:Pos}
end
section
variable {E:XK}
end
def ndB:List Str->Bool
 |[]=>true
 |x::r=>!r.elem x&&ndB r
theorem uA:∀{l:List Str},ndB l=true->l.Nodup
 |[],_=>O6
 |x::r,h=>by simp only[ndB,Mm,Oa]at h;exact MG.mpr ⟨λz=>(by have:=List.elem_eq_true_of_mem z;rw[h.1]at this;cases this),uA h.2⟩
section
variable {k n':Nat}
def AtX(X:Cx)(P:Program)(w:World)(K:PySem.W.Frag)(mg:Str->Option Value)(base:Heap):Prop:=X.prog=P/\X.w=w/\X.K=K/\X.mg=mg/\X.base=base
theorem ig.to(h:ig P w K mg base k x n gf)(a:AtX X P w K mg base)(hn:n=n'):ig X.prog X.w X.K X.mg X.base k x n' gf:=by obtain⟨rfl,rfl,rfl,rfl,rfl⟩:=a;subst hn;exact h
theorem iw.to(h:iw P w K mg base k C m n gf)(a:AtX X P w K mg base)(hn:n=n'):iw X.prog X.w X.K X.mg X.base k C m n' gf:=by obtain⟨rfl,rfl,rfl,rfl,rfl⟩:=a;subst hn;exact h
theorem jq.to{g:List (Str×PyData)->Option (List (Str×PyData))}(h:jq P w K mg base k C m g)(a:AtX X P w K mg base):jq X.prog X.w X.K X.mg X.base k C m g:=by obtain⟨rfl,rfl,rfl,rfl,rfl⟩:=a;exact h
theorem Bu.to{l:List Str}(h:Bu P w K mg base k x C l)(a:AtX X P w K mg base):Bu X.prog X.w X.K X.mg X.base k x C l:=by obtain⟨rfl,rfl,rfl,rfl,rfl⟩:=a;exact h
end
def wL(K:PySem.W.Frag)(C:Addr)(m q:Str)(st:Stmt)(ps:List Str):Prop:=∃f fd,Fun K m q st f fd/\Binds K fd ps []/\Meth K C m f
def Lz(K:PySem.W.Frag)(C:Addr)(q:Str)(st:Stmt)(ps:List Str):Prop:=∃f fd,Mk K C f/\Fun K "__init__" q st f fd/\Binds K fd ps []
end L2
namespace RS
open PySem PySem.Spec PyProof.Rows L2
theorem C4(d:α){us:List α}(h:us.length=n):∃f:Nat->α,us=(List.range n).map f :=
 ⟨λi=>us.getD i d,NI (by simp[h]) λi h1 h2=>by simp[M9,M1 h1]⟩
section
variable {q:Str}{G:Ds->Sr}{gf:Gf}
abbrev Bod(P:Program)(w:World)(K:PySem.W.Frag)(mg:Str->Option Value)(base:Heap)(q:Str)(st:Stmt)(k:Nat)(O:List Nat)(N:List Str)(G:Ds->Sr):Prop:=∀(f:Addr)(cdv:Value)(A:Around)(outer:List Env)(s:Shared)(H:Hp)(E:XK),N.Nodup->ck k (A.deeper (envOfC q (aC st) s.heap.objs.size f cdv))->PBD (cZ (CXW P w) P w K mg base N q (aC st) f cdv A outer s H E) E O (b0 st) G
theorem dA(P:Program)(w:World)(base:Heap)(k:Nat)(O:List Nat)(N:List Str)(h:bY K mg x st ps)(a:∀ds,ds.length=ps.length->gf ds≠.no->bE (G (ds.map some++List.replicate (N.length-ps.length) none))=gf ds)
  (body:Bod P w K mg base x st k O N G) (S:cT N ps (aC st):=by exact⟨rfl,rfl,rfl,by decide +kernel,rfl,by decide +kernel,by decide +kernel⟩) (c:∀i∈O,ps.length<=i:=by decide):ig P w K mg base (k+1) x ps.length gf:=by
 obtain⟨f,fd,F,b,m⟩:=h;exact ig.of F S b m c (λcdv A outer s H E=>body f cdv A outer s H E S.nd) a
theorem dM(P:Program)(w:World)(base:Heap)(k:Nat)(O:List Nat)(N:List Str)(h:wL K C m q st ps)(cl:Cls K C)(a:∀ds,ds.length=ps.length->gf ds≠.no->bE (G (ds.map some++List.replicate (N.length-ps.length) none))=gf ds)
  (body:Bod P w K mg base q st k O N G) (S:cT N ps (aC st):=by exact⟨rfl,rfl,rfl,by decide +kernel,rfl,by decide +kernel,by decide +kernel⟩) (c:∀i∈O,ps.length<=i:=by decide):iw P w K mg base (k+1) C m ps.length gf:=by
 obtain⟨f,fd,F,b,hm⟩:=h;exact iw.of F S b cl hm c (λcdv A outer s H E=>body f cdv A outer s H E S.nd) a
theorem dK(k:Nat)(N:List Str){p:Str}{G:List Addr->Ds->Sr}{g:List (Str×PyData)->Option (List (Str×PyData))}(h:wL K C m q st [p])(cl:Cls K C)(e:∀a fds c,fZ fds=true->fds.length<1000->g fds=some c->∃δ,G [a] (some (cm C a fds)::List.replicate (N.length-1) none)=.nx δ/\δ[0]?=some (some (cm C a c)))
  (body:∀(as:List Addr)(f:Addr)(cdv:Value)(A:Around)(outer:List Env)(s:Shared)(H:Hp)(E:XK),N.Nodup->ck k (A.deeper (envOfC q (aC st) s.heap.objs.size f cdv))->PBN as (cZ (CXW P w) P w K mg base N q (aC st) f cdv A outer s H E) E [] (b0 st) (G as)) (S:cT N [p] (aC st):=by exact⟨rfl,rfl,rfl,by decide +kernel,rfl,by decide +kernel,by decide +kernel⟩):jq P w K mg base (k+1) C m g:=by
 obtain⟨f,fd,F,b,hm⟩:=h;exact jq.of F S b cl hm (λas cdv A outer s H E=>body as f cdv A outer s H E S.nd) e
theorem dT(k:Nat)(O:List Nat)(N:List Str)(h:bY K mg x st ps)(hm:∀g,PySem.W.nsIn K mainGlobals x=some (some (.ref g))->mg x=some (.ref g))(a:Gb K x)(hB:nG mg base)(hK:K.In base)(e:∀ds,ds.length=ps.length->gf ds≠.no->bE (G (ds.map some++List.replicate (N.length-ps.length) none))=gf ds)
  (body:∀(f:Addr)(cdv:Value)(A:Around)(outer:List Env)(s:Shared)(H:Hp)(E:XK),N.Nodup->ck k (A.deeper (envOfC x (aC st) s.heap.objs.size f cdv))->∀c j,DJ (cZ (CXW P w) P w K mg base N x (aC st) f cdv A outer s H E) c j->PBD (cZ (CXW P w) P w K mg base N x (aC st) f cdv A outer s H E) E O (b0 st) G) (S:cT N ps (aC st):=by exact⟨rfl,rfl,rfl,by decide +kernel,rfl,by decide +kernel,by decide +kernel⟩) (l:∀i∈O,ps.length<=i:=by decide) (n:x∈lq:=by decide) (o:∀(f L:Addr)(cdv:Value),(envOfC x (aC st) L f cdv).qual++"<lambda>"=x++".<locals>.<lambda>":=by exact λ_ _ _=>rfl):ig P w K mg base (k+1) x ps.length gf:=by
 obtain⟨f,fd,F,b,m⟩:=h;exact ig.ofL F S b m l n hm a hB hK (o f) (λcdv A outer s H E=>body f cdv A outer s H E S.nd) e
theorem dL(k:Nat)(O:List Nat)(N:List Str)(F:Fun K x x st f fd)(a:∀ds,ds.length=ps.length->gf ds≠.no->bE (G (ds.map some++List.replicate (N.length-ps.length) none))=gf ds)
  (body:Bod P w K mg base x st k O N G) (S:cT N ps (aC st):=by exact⟨rfl,rfl,rfl,by decide +kernel,rfl,by decide +kernel,by decide +kernel⟩) (b:∀i∈O,ps.length<=i:=by decide):gm P w K mg base (CXW P w) (k+1) f fd ps (spD K ps.length gf) :=
 zw F S b (λcdv A outer s H E=>body f cdv A outer s H E S.nd) a
end
end RS
set_option maxHeartbeats 0
namespace RS
open PySem PySem.Spec PyProof.Rows L2
def top(i:Nat):Stmt:=PySem.Challenge.pw_ranksure_k04_run.main.body.getD i (.Pass ⟨0,0,0,0⟩)
structure yx(K:PySem.W.Frag)(C:Addr):Prop where
 cl:Cls K C
 na:∀f∈["number", "parts", "rank", "row", "job", "part", "spent"],fm K C f
 mi:Lz K C "Jobs.__init__" (inClass (top 29) 0) ["self", "number", "parts", "rank", "row"]
 mt_Jobs_are_done:wL K C "are_done" "Jobs.are_done" (inClass (top 29) 1) ["self"]
 mt_Jobs_is_there:wL K C "is_there" "Jobs.is_there" (inClass (top 29) 2) ["self", "time"]
 mt_Jobs_held:wL K C "held" "Jobs.held" (inClass (top 29) 3) ["self"]
 mt_Jobs_wanted:wL K C "wanted" "Jobs.wanted" (inClass (top 29) 4) ["self"]
 mt_Jobs_go_on:wL K C "go_on" "Jobs.go_on" (inClass (top 29) 5) ["self"]
structure Tx(K:PySem.W.Frag)(mg:Str->Option Value)(cs:Cs):Prop where
 f_is_whole:bY K mg "is_whole" (top 13) ["thing", "least", "most"]
 f_is_tuple:bY K mg "is_tuple" (top 14) ["thing", "fewest", "most"]
 f_is_part:bY K mg "is_part" (top 15) ["thing"]
 f_are_parts:bY K mg "are_parts" (top 16) ["thing"]
 f_is_errand:bY K mg "is_errand" (top 17) ["thing"]
 f_checked:bY K mg "checked" (top 18) ["errands"]
 f_checked_ranks:bY K mg "checked_ranks" (top 19) ["errands", "ranks"]
 f_has_tool:bY K mg "has_tool" (top 20) ["errand", "tool"]
 f_height:bY K mg "height" (top 21) ["errands", "ranks", "tool"]
 f_heights_of:bY K mg "heights_of" (top 22) ["errands", "ranks"]
 f_have_moments:bY K mg "have_moments" (top 26) ["errand", "row"]
 f_is_row:bY K mg "is_row" (top 27) ["errand", "thing"]
 f_checked_comings:bY K mg "checked_comings" (top 28) ["errands", "comings"]
 f_height_by_high:bY K mg "height_by_high" (top 30) ["jobs", "tops"]
 f_holder:bY K mg "holder" (top 31) ["there", "tool"]
 f_lent_ranks:bY K mg "lent_ranks" (top 32) ["there"]
 f_picked:bY K mg "picked" (top 33) ["there", "tops", "lending"]
 f_run_of:bY K mg "run_of" (top 34) ["errands", "ranks", "rows", "lending"]
 f_run:bY K mg "run" (top 35) ["errands", "ranks", "comings", "lending"]
 f_law_cell_at:bY K mg "_law_cell_at" (top 37) ["_law_script", "_law_k"]
 f_law_mixed:bY K mg "_law_mixed" (top 38) ["_law_script", "_law_k", "_law_many"]
 f_law_errand:bY K mg "_law_errand" (top 39) ["_law_script", "_law_at_here", "_law_top", "_law_tools"]
 f_law_errands:bY K mg "_law_errands" (top 40) ["_law_script", "_law_at_here", "_law_most", "_law_top", "_law_tools"]
 f_law_ranks:bY K mg "_law_ranks" (top 41) ["_law_script", "_law_at_here", "_law_many"]
 f_law_coming_row:bY K mg "_law_coming_row" (top 42) ["_law_script", "_law_at_here", "_law_errand_here", "_law_span"]
 f_law_comings:bY K mg "_law_comings" (top 43) ["_law_script", "_law_at_here", "_law_errands_here", "_law_span"]
 f_law_heights:bY K mg "_law_heights" (top 44) ["_law_errands_here", "_law_ranks_here"]
 f_law_at:bY K mg "_law_at" (top 45) ["_law_errand_here", "_law_spent"]
 f_law_held:bY K mg "_law_held" (top 46) ["_law_errands_here", "_law_spent", "_law_there"]
 f_law_choose:bY K mg "_law_choose" (top 47) ["_law_errands_here", "_law_ranks_here", "_law_lending", "_law_spent", "_law_there"]
 f_law_run:bY K mg "_law_run" (top 48) ["_law_errands_here", "_law_ranks_here", "_law_comings_here", "_law_lending"]
 f_law:bY K mg "law" (top 49) ["_law_script"]
 bs:∀x∈["all", "bool", "dict", "enumerate", "int", "isinstance", "len", "list", "max", "min", "range", "set", "tuple", "zip"],mg x=none
 cst:∀q∈([("LAST_COMING",9999),("LEAST_EVERY",2),("MOST_COMINGS",60),("MOST_ERRANDS",6),("MOST_EVERY",60),("MOST_LATE",20),("MOST_LENGTH",20),("MOST_PARTS",4),("TOOLS",4)]:List (Str×Int)),∃t,mg q.1=some (.int q.2 t)
 e_NoComings:wg K mg "NoComings" cs.NoComings
 e_NoErrands:wg K mg "NoErrands" cs.NoErrands
 e_NoRanks:wg K mg "NoRanks" cs.NoRanks
 m_Jobs:mg "Jobs"=some (.ref cs.Jobs)
 k_Jobs:yx K cs.Jobs
 tb_picked:Gb K "picked"
 nm_picked:∀g,PySem.W.nsIn K mainGlobals "picked"=some (some (.ref g))->mg "picked"=some (.ref g)
structure Ty(K:PySem.W.Frag)(mg:Str->Option Value)(cs:Cs)(base:Heap):Prop extends Tx K mg cs where
 hB:nG mg base
 hK:K.In base
section
theorem xx:cT ["_law_script", "_law_k"] ["_law_script", "_law_k"] (aC (top 37)):=⟨rfl,rfl,rfl,by decide +kernel,rfl,by decide +kernel,by decide +kernel⟩
theorem xI(F:Fun K "_law_cell_at" "_law_cell_at" (top 37) f fd)(bl:mg "len"=none):gm P w K mg base CX0 1 f fd ["_law_script", "_law_k"] (DW K):=by
 refine F.ok xx (λvs H Q E h=>?_) (λcdv A outer s H vs Q E l h=>?_)
 ·obtain⟨a,ns,k,rfl,_⟩:=h;rfl
 ·obtain⟨a,ns,k,rfl,e,m,g⟩:=h;refine⟨_,dq (yK (wY (Kl (pv 1) (fM iT rfl bl PySem.boot_len (dX (pv 0) fQ)))) (i5 (mx (Dy tQ (pv 0) (pv 1) (λ_ _=>rfl)))) tR)
   (dq (yK (iV (xv l.units) (pv 0) (xh fQ) (iX _)) (i5 (mx fT)) tR)
   (i5 (mx (eS m8 (eS mI (Dy tQ (pv 0) (eS qm (pv 1) (fM iT rfl bl PySem.boot_len (dX (pv 0) fQ))) (λ_ _=>rfl)) fT) (pv 1))))),?_⟩
  refine⟨_,rfl,_,rfl,a,_,rfl,.inl e,k,_,rfl,rfl,_,rfl,?_⟩;have hlen:(ns.map V.int).length=ns.length:=M4 ..;rw[hlen];refine KD (λhc=>?_) (λhc=>?_)
  ·have hc:k<(ns.length:Int):=of_decide_eq_true hc;have hi:k.toNat<ns.length:=by omega
   refine⟨_,rfl,_,rfl,a,_,k,.int (ns.getD k.toNat 0),rfl,rfl,e,uf m ?_,?_⟩
   ·rw[Mc,M1 hi,M9,M1 hi];rfl
   ·have:=g H (av.refl H);rw[show cellAt ns k=ns.getD k.toNat 0 by unfold cellAt;rw[if_pos hc]]at this;exact this
  ·have hc:¬ k<(ns.length:Int):=λz=>hc (decide_eq_true z)
   refine⟨_,rfl,MR _,λp i=>⟨.list (ns.map .int),.list [],(uq e (sP ns)).same (gE i),uq (SqL.of aH) ph,shaped_ints ns,xw,_,rfl,?_⟩⟩;rw[Dc];refine KD (λb=>?_) (λb=>?_)
   ·have b:ns=[]:=of_decide_eq_true b;have:=g _ (gE (o:=.lst []) i);rw[show cellAt ns k=0 by unfold cellAt;rw[if_neg hc,if_pos b]]at this;exact this
   ·have b:¬ ns=[]:=λz=>b (decide_eq_true z)
    have c:0<(ns.length:Int):=by
     cases ns with
     |nil=>exact absurd rfl b
     |cons _ _=>simp
    have h1:0<=k % (ns.length:Int):=Ni _ (by omega);have h2:k % (ns.length:Int)<(ns.length:Int):=Nm _ c;have hi:(k % (ns.length:Int)).toNat<ns.length:=by omega
    have j:av H (upd H p (.lst [])):=gE i;refine⟨_,rfl,_,rfl,_,rfl,a,_,rfl,.inl (j.seq e),_,_,rfl,rfl,by rw[hlen];exact c,a,_,_,.int (ns.getD (k % (ns.length:Int)).toNat 0),rfl,rfl,j.seq e,?_,_,_,rfl,rfl,.inr ⟨by decide,by decide⟩,_,rfl,_,_,rfl,rfl,?_⟩
    ·rw[hlen];refine uf h1 ?_;rw[Mc,M1 hi,M9,M1 hi];rfl
    ·have:=g _ j;rw[show cellAt ns k=ns.getD (k % (ns.length:Int)).toNat 0*31+k by unfold cellAt;rw[if_neg hc,if_neg b]]at this;exact this
theorem vb:cT ["_law_script", "_law_k", "_law_many", "_law_drawn"] ["_law_script", "_law_k", "_law_many"] (aC (top 38)):=⟨rfl,rfl,rfl,by decide +kernel,rfl,by decide +kernel,by decide +kernel⟩
theorem D0{b:FuncData}(F:Fun K "_law_mixed" "_law_mixed" (top 38) f fd)(e:Fun K "_law_cell_at" "_law_cell_at" (top 37) c b)(g:Binds K b ["_law_script", "_law_k"] [])(j:mg "_law_cell_at"=some (.ref c))(bl:mg "len"=none):gm P w K mg base CX0 2 f fd ["_law_script", "_law_k", "_law_many"] (G2 K):=by
 have l:gm P w K mg base CX0 1 c b _ (DW K):=xI e bl;refine F.ok vb (λvs H Q E h=>?_) (λcdv A outer s H vs Q E m h=>?_)
 ·obtain⟨a,ns,k,many,rfl,_⟩:=h;rfl
 ·obtain⟨a,ns,k,many,rfl,n,o,hm,p⟩:=h;refine⟨_,dq (mV (i:=3) vb.nd rfl (Or.inl rfl) (eS qm (eS mI (eS m8 (eS m8 (yF l m rfl j e.kp g .nil J6 (dX (pv 0) (dX (pv 1) fQ))) (eS mI fT (pv 1))) fT) fT) fT))
   (i5 (mx (eS qm (eS qm (eS m8 (eS m8 (eS mI (pv 3) (pv 3)) (eS mI fT (pv 3))) (pv 1)) fT) (pv 2)))),?_⟩
  refine⟨_,rfl,_,rfl,a,ns,k,rfl,n,o,λH1 q=>?_⟩;refine⟨_,rfl,_,_,rfl,rfl,.inl ⟨by decide,by decide⟩,_,_,rfl,rfl,_,_,rfl,rfl,_,_,rfl,rfl,.inr ⟨by decide,by decide⟩,_,_,rfl,rfl,(by show (0:Int)<2147483647;decide),?_⟩;have b1:=EI ns k;have b2:=Ff ns k;have eD:(cellAt ns k+7919*k+1)*48271 % 2147483647=AG ns k:=rfl;refine⟨_,rfl,_,rfl,_,_,rfl,rfl,.inl ⟨?_,?_⟩,_,rfl,_,_,rfl,rfl,.inl ⟨by decide,by decide⟩,_,_,rfl,rfl,_,rfl,_,_,rfl,rfl,_,_,rfl,rfl,(by show (0:Int)<2147483629;decide),_,rfl,_,_,rfl,rfl,hm,p H1 q⟩
  ·show -(2 ^ 64)<(cellAt ns k+7919*k+1)*48271 % 2147483647;rw[eD];omega
  ·show (cellAt ns k+7919*k+1)*48271 % 2147483647<2 ^ 64;rw[eD];omega
theorem vO(T:Tx K mg cs):ig P w K mg base 2 "_law_mixed" 3 aj:=by obtain⟨f,fd,F,b,m⟩:=T.f_law_mixed;obtain⟨fC,fdC,a,c,e⟩:=T.f_law_cell_at;exact ig.old (D0 F a c e (T.bs _ (by decide))) m F.kp b F9
theorem wR(T:Tx K mg cs):MkD P w K mg base 1 "Jobs" cs.Jobs JN JT:=by
 obtain⟨f,fd,M,F,b⟩:=T.k_Jobs.mi;refine⟨f,fd,_,M,oz (k:=0) (N:=["self", "number", "parts", "rank", "row"]) F ⟨rfl,rfl,rfl,by decide +kernel,rfl,by decide +kernel,by decide +kernel⟩ (λvs H Q E h=>?_) (λcdv A outer s H vs Q E hr h=>?_),b,T.m_Jobs⟩
 ·obtain⟨x,dx,args,rfl,hl,_⟩:=h;rw[Mp,hl];rfl
 ·obtain⟨x,dx,args,rfl,hl,c,k⟩:=h;obtain⟨g,rfl⟩:=C4 .non hl;refine⟨_,(dq (jE (pv 0) (pv 1) rfl) (dq (jE (pv 0) (pv 2) rfl) (dq (jE (pv 0) (pv 3) rfl) (dq (jE (pv 0) (pv 4) rfl) (dq (jE (pv 0) fT rfl) (dq (jE (pv 0) fT rfl) (i5 (jE (pv 0) fT rfl)))))))),?_⟩;refine⟨_,rfl,_,rfl,x,cs.Jobs,dx,_,rfl,c,T.k_Jobs.cl,T.k_Jobs.na _ (by decide),(by show 0<1000;decide),_,rfl,_,rfl,x,cs.Jobs,dx,_,rfl,aH,T.k_Jobs.cl,T.k_Jobs.na _ (by decide),(by show 1<1000;decide),_,rfl,_,rfl,x,cs.Jobs,dx,_,rfl,aH,T.k_Jobs.cl,T.k_Jobs.na _ (by decide),(by show 2<1000;decide),_,rfl,_,rfl,x,cs.Jobs,dx,_,rfl,aH,T.k_Jobs.cl,T.k_Jobs.na _ (by decide),(by show 3<1000;decide),_,rfl,x,cs.Jobs,dx,_,rfl,aH,T.k_Jobs.cl,T.k_Jobs.na _ (by decide),(by show 4<1000;decide),_,rfl,x,cs.Jobs,dx,_,rfl,aH,T.k_Jobs.cl,T.k_Jobs.na _ (by decide),(by show 5<1000;decide),_,rfl,x,cs.Jobs,dx,_,rfl,aH,T.k_Jobs.cl,T.k_Jobs.na _ (by decide),(by show 6<1000;decide),?_⟩;exact k _ (λb a=>by rw[aB a,aB a,aB a,aB a,aB a,aB a,aB a]) (by rw[aH];rfl)
set_option hygiene false
local macro_rules | `(tactic| exists $r)=>`(tactic| refine' $r ..) |`(tactic| exists $r,$rs,*)=>`(tactic| first|refine' $r ..|exists $rs,*)
local macro_rules | `(tactic| infer_instance)=>`(tactic| first|((with_reducible show _=_);exact rfl)|(with_reducible first|(show PD _ _ _ _;first|exists IS,Hx,Ez,KS,IX,HM,Kq,Kk,Ld,IJ,Jn,IA,JJ,JD,IU,Jv,Im,Ia,J8,J7,IM,Iy,Ik,GN,HS|(show PD _ _ _ (au _ _);apply Fn)|exists Aq,Ah,HZ,IW,CH,wV,AL,EL,E4,Ew,Em,CC|(show PD _ _ _ (bq _ _ _ _ ah);apply CB)|(show PD _ _ _ (bq _ _ _ _ _);apply FF)|exists Kt,KU,KL,HV,Lc,Jx,Ft)|(show PAD _ _ _ _;first|exists BV,Es)|(show PCD _ _ _ _;first|exists JK,Jz,IC,IV,IT,FV,Gx,Dv,GB|refine' G0 (yB ..)|refine' G0 (Eb ..)|refine' Fo ..)|(show PSD _ _ _ _ _;first|exists Cy,ug,xy,zV|(show PSD _ _ _ _ (p5 _ _ _ _ _ _ _);apply DC)|exists CA,CQ|(show PSD _ _ _ (.Assign _ (.ListComp _ _ _ _) _) (aR _ _ (gL _));apply DD;apply vp;focus with_unfolding_all exact rfl)|(show PSD _ _ _ (.Assign _ (.ListComp _ _ _ _) _) (dh _ _ _);apply DF;apply vp;focus with_unfolding_all exact rfl)|exists Fz,Cp,E8|(show PSD _ _ _ _ (qE _ _ _);apply Fj)|exists D9,Fw,xD,BR,Gq,D8|(show PSD _ _ _ _ (eP _ _ _ _);apply Fc)|refine' Bk ..)|(show PBD _ _ _ _ _;first|exists oj,oF,cV)|(show PLD _ _ _ _;first|(show PLD _ _ _ (aS _ _ _ _ _);apply CS)|exists Gi,Bj)|(show PID _ _ _ _ _;first|exists xE,xl,Cg,Fx,Cz,ER)|(show PIf _ _ _;first|exact PIf.nil|refine' PIf.one ..)|(show PWD _ _ _ _;first|exists yB,Eb,B0,F6)|(show TgS _ _ _ _;first|exists By,FY)|(show PSN _ _ _ _ _ _;first|exists Ht,z0,Fg,xM|(show PSN _ _ _ _ _ (kN _ _ _ _ _);apply DA)|refine' HI ..)|(show PBN _ _ _ _ _ _;first|exists EB,yD,uT)) <;> infer_instance|((with_reducible show PBD _ _ _ _ _); first|refine' cV ?_ ?_|refine' oF ?_) <;> infer_instance|((with_reducible show PBN _ _ _ _ _ _); first|refine' uT ?_ ?_|refine' yD ?_) <;> infer_instance|((with_reducible show PG _ _ _); first|refine' tK ?_ ?_ ?_|refine' CW ?_ ?_) <;> infer_instance|((with_reducible show PGs _ _ _); first|refine' oO ?_ ?_|exact yn) <;> infer_instance|exact rfl|((with_reducible show ig _ _ _ _ _ _ _ _ _);(with_reducible refine' ig.to ?z1 ?z2 ?z3);(case z1=>with_reducible assumption);(case z2=>exact⟨rfl,rfl,rfl,rfl,rfl⟩);(case z3=>rfl))|((with_reducible show iw _ _ _ _ _ _ _ _ _ _);(with_reducible refine' iw.to ?z1 ?z2 ?z3);(case z1=>with_reducible assumption);(case z2=>exact⟨rfl,rfl,rfl,rfl,rfl⟩);(case z3=>rfl))|((with_reducible show jq _ _ _ _ _ _ _ _ _);(with_reducible refine' jq.to ?z1 ?z2);(case z1=>with_reducible assumption);(case z2=>exact⟨rfl,rfl,rfl,rfl,rfl⟩))|exact hr|exact FW|exact wa|exact T.bs _ (by decide +kernel)|exact T.cst (_,_) (by decide +kernel)|exact .inl rfl|exact .inr rfl|exact .inr (.inl rfl)|exact .inr (.inr rfl)|exact nd|exact uA (by kernel_rfl)|exact PassesOwn.leaving|exact BJ|exact vU|exact λ_=>rfl|exact λ_ _=>rfl|((with_reducible intro _ _ _ _);infer_instance)|exact T.e_NoComings|exact T.e_NoErrands|exact T.e_NoRanks|exact Hv|exact T.k_Jobs.cl|exact T.k_Jobs.na _ (by decide +kernel)|exact D3|exact bt_bool|exact uQ|exact tH|exact ck.u1 hr|exact hr.units|exact⟨rfl,rfl,rfl,rfl⟩|exact hr.in1.deeper _|exact ck.u1 (hr.in1.deeper _)|decide|with_unfolding_all rfl)
local macro_rules | `(tactic| nofun)=>`(tactic| (try have:=Br P w T;try have:=w5 P w T;try have:=qU P w T;try have:=sY P w T;try have:=zK P w T;try have:=wQ P w T;try have:=oT P w T;try have:=BI P w T;try have:=wU P w T;try have:=Bm P w T;try have:=vJ P w T;try have:=u5 P w T;try have:=Bi P w T;try have:=lh P w T;try have:=xS P w T;try have:=Ek P w T;try have:=iQ P w T;try have:=fV P w T;try have:=qQ P w T;try have:=vB P w T;try have:=Ck P w T;try have:=sX P w T;try have:=mE P w T;try have:=qh P w T;try have:=fS P w T;try have:=iR P w T;try have:=B7 P w T;try have:=nX P w T;try have:=Kx P w T;try have:=vO (P:=P) (w:=w) (base:=base) T.toTx;try have:=mG P w T;try have:=qP P w T;try have:=v5 P w T;try have:=tj P w T;try have:=qR P w T))
local macro_rules | `(tactic| and_intros)=>`(tactic| (nofun;intro f cdv A outer s H E nd hr;infer_instance))
theorem AM(T:Tx K mg cs){ bc aW cG aL gf:Gf}{gm_Jobs_go_on:List (Str×PyData)->Option (List (Str×PyData))}(iQ:ig P w K mg base 3 "heights_of" 2 bc)(fV:iw P w K mg base 1 cs.Jobs "are_done" 1 aW)(qh:ig P w K mg base 6 "picked" 3 cG)(fS:iw P w K mg base 1 cs.Jobs "is_there" 2 aL)(iR:jq P w K mg base 3 cs.Jobs "go_on" gm_Jobs_go_on)(wR:MkD P w K mg base 1 "Jobs" cs.Jobs JN JT){Gt:Ds->Sr}
  (hGt:∀δ,Gt δ≠.no->∃d ds fss,Gt δ=.rt d/\5<δ.length/\δ.length=9/\(kB (af (ae 2) ah)) (mask [6] δ)=.ok ds/\ds.length<=1000000/\fss.length=ds.length/\(∀(i:Nat) d,ds[i]?=some d->∃ow fs,jY d=some ow/\fss[i]?=some fs/\(af (ae 9) (af (g2 dIx (g2 dIx (ae 0) (ae 9)) (gC (.int 3))) (af (j4 (ae 1) (ae 9)) (af (ae 10) ah)))) (mask [6] δ++ow)=.ok fs/\fs.length=JN.length) /\
   ∀as:List Addr,as.length=ds.length->as.Nodup->iU cs bc aW cG aL gm_Jobs_go_on as (δ.set 5 (some (.list (kz cs.Jobs JN JT as fss))))=.rt d)
  (hL:∀ds,ds.length=4->gf ds≠.no->bE (az (aR [6] 4 (au bc (af (ae 0) (af (ae 1) ah)))) Gt (ds.map some++List.replicate 5 none))=gf ds):ig P w K mg base 7 "run_of" 4 gf :=
 dA P w base 6 [6] ["errands", "ranks", "rows", "lending", "tops", "queues", "told", "there", "best"] T.f_run_of hL λf cdv A outer s H E nd hr=>cV (by infer_instance) (Fe (PS.imp (ql (i:=5) (M:=["errands", "ranks", "rows", "lending", "tops", "queues", "told", "there", "best"]) (own:=["number", "row"]) (te:=eMk K E0 cs.Jobs JN JT (af (ae 9) (af (g2 dIx (g2 dIx (ae 0) (ae 9)) (gC (.int 3))) (af (j4 (ae 1) (ae 9)) (af (ae 10) ah))))) rfl nd rfl (by first|exact Or.inl rfl|exact Or.inr rfl) rfl (show PID _ E _ _ (kB (af (ae 2) ah)) from by infer_instance) (λ_ _ _ _=>(CW rfl (oO (tK (i:=9) (uA (by kernel_rfl)) rfl (Or.inl rfl) (.inr rfl)) (oO (tK (i:=10) (uA (by kernel_rfl)) rfl (Or.inl rfl) (.inr rfl)) yn)))) (λ_ _ _ _=>.nil) (λ_ _ _ _=>Le wR hr wa (by infer_instance))) (λD σ H h=>Jd (n0:=9) vU σ H _ h)) (λas=>by delta iU;infer_instance) (by decide) hGt)
variable (P w)(T:Ty K mg cs base)
def Br:=dA P w base 0 [] ["_law_errand_here", "_law_spent", "_law_k", "_law_part"] (gf:=bo cs) (G:=jF cs) T.f_law_at hW (by delta jF;and_intros)
def w5:=dA P w base 1 [3] ["_law_errands_here", "_law_spent", "_law_there", "_law_found", "_law_number", "_law_k", "_law_tool", "_law_begun"] (gf:=cw cs) (G:=gB cs _) T.f_law_held hW (by delta gB;and_intros)
def qU:=dA P w base 0 [2] ["_law_errands_here", "_law_ranks_here", "_law_found", "_law_place", "_law_length", "_law_tool"] T.f_law_heights (rf cs) (by delta fG;and_intros)
def sY:=dA P w base 2 [7,10] ["_law_errands_here", "_law_ranks_here", "_law_lending", "_law_spent", "_law_there", "_law_tools", "_law_held_here", "_law_places", "_law_tool", "_law_rows", "_law_left", "_law_number", "_law_k", "_law_begun"] (gf:=cf cs) (G:=eW cs _ _ _) T.f_law_choose hW (by delta eW;nofun;intro f cdv A outer s H E nd hr;exact (cV (by infer_instance)
 (cV (by infer_instance)
 (cV (by infer_instance)
 (cV (xy (by infer_instance) (cV (by infer_instance)
 (vA (i:=7) (O':=[10]) (by infer_instance) (by decide) (by decide))) oj)
 (cV (by infer_instance)
 (cV (by infer_instance)
 (EN (i:=10) (O':=[7]) (vA (i:=7) (O':=[]) (by infer_instance) (by decide) (by decide))))))))))
def zK:=dA P w base 3 [4,5,6,7] ["_law_errands_here", "_law_ranks_here", "_law_comings_here", "_law_lending", "_law_jobs", "_law_spent", "_law_made", "_law_there", "_law_k", "_law_one"] (gf:=eN cs) (G:=iB cs _ _) T.f_law_run hW (by delta iB;and_intros)
def wQ:=dA P w base 0 [] ["thing", "least", "most"] T.f_is_whole (xT cs) (by delta iK;and_intros)
def oT:=dA P w base 0 [] ["errand", "row", "every", "late", "earliest", "came", "moment"] T.f_have_moments (oU cs) (by delta eY;and_intros)
def BI:=dA P w base 1 [] ["errand", "thing"] T.f_is_row (DM cs) (by delta l7;and_intros)
def wU:=dA P w base 0 [] ["thing", "fewest", "most"] T.f_is_tuple (xX cs) (by delta iJ;and_intros)
def Bm:=dA P w base 1 [] ["thing"] T.f_is_part (A6 cs) (by delta gx;and_intros)
def vJ:=dA P w base 2 [] ["thing"] T.f_are_parts (wt cs) (by delta fI;and_intros)
def u5:=dA P w base 3 [] ["thing", "every", "due", "late"] T.f_is_errand (vn cs) (by delta dN;and_intros)
def Bi:=dA P w base 4 [] ["errands"] T.f_checked (Bp cs) (by delta iE;and_intros)
def lh:=dA P w base 5 [] ["errands", "comings"] T.f_checked_comings (lE cs) (by delta dF;and_intros)
def xS:=dA P w base 0 [] ["errand", "tool"] T.f_has_tool (xU cs) (by delta iM;and_intros)
def Ek:=dA P w base 1 [] ["errands", "ranks", "tool", "place", "number"] T.f_height (CG cs) (by delta lg;and_intros)
def iQ:=dA P w base 2 [] ["errands", "ranks"] T.f_heights_of (uc cs) (by delta f6;and_intros)
def fV:=dM P w base 0 [] ["self"] (gf:=aW cs) (G:=dk cs) T.k_Jobs.mt_Jobs_are_done T.k_Jobs.cl (mg:=mg) hW (by delta dk;and_intros)
def qQ:=dM P w base 0 [] ["self"] (gf:=aJ cs) (G:=eF cs) T.k_Jobs.mt_Jobs_wanted T.k_Jobs.cl (mg:=mg) hW (by delta eF;and_intros)
def vB:=dM P w base 0 [] ["self"] (gf:=aM cs) (G:=fK cs) T.k_Jobs.mt_Jobs_held T.k_Jobs.cl (mg:=mg) hW (by delta fK;and_intros)
def Ck:=dA P w base 1 [] ["there", "tool", "jobs"] (gf:=bI cs) (G:=jV cs _) T.f_holder hW (by delta jV;and_intros)
def sX:=dA P w base 2 [1] ["there", "lent", "jobs", "other"] (gf:=cq cs) (G:=gp cs _ _) T.f_lent_ranks hW (by delta gp;and_intros)
def mE:=dA P w base 1 [] ["jobs", "tops", "tool"] (gf:=bT cs) (G:=bX cs _) T.f_height_by_high hW (by delta bX;and_intros)
def qh:=dT (P:=P) (w:=w) 5 [] ["there", "tops", "lending", "free", "lent"] (gf:=cG cs) (G:=jm cs _ _ _ _) T.f_picked T.nm_picked T.tb_picked T.hB T.hK hW λf cdv A outer s H E nd hr c Pt TAB=>by delta jm;nofun;exact (cV (xy (by infer_instance) (oF (ug (pD (N:=["jobs", "tops"]) (p:="jobs") (cap:=[1]) (T.bs _ (by decide)) hr (by infer_instance) TAB (λq c' s H=>(by infer_instance))))) oj)      (cV (by infer_instance)      (cV (by infer_instance)      (oF (ug (pD (N:=["jobs", "lent"]) (p:="jobs") (cap:=[4]) (T.bs _ (by decide)) hr (by infer_instance) TAB (λq c' s H=>(by infer_instance))))))))
def fS:=dM P w base 0 [] ["self", "time"] (gf:=aL cs) (G:=dm cs) T.k_Jobs.mt_Jobs_is_there T.k_Jobs.cl (mg:=mg) hW (by delta dm;and_intros)
def iR:=dK (P:=P) (w:=w) (base:=base) (mg:=mg) 2 ["self"] T.k_Jobs.mt_Jobs_go_on T.k_Jobs.cl (Dp cs) λas f cdv A outer s H E nd hr=>by delta f9;nofun;infer_instance
def B7:=AM (P:=P) (w:=w) (base:=base) T.toTx (iQ P w T) (fV P w T) (qh P w T) (fS P w T) (iR P w T) (wR T.toTx) (GO cs) (BO cs)
def nX:=dA P w base 1 [] ["errands", "ranks", "last"] T.f_checked_ranks (nV cs) (by delta cH;and_intros)
def Kx:=dA P w base 7 [] ["errands", "ranks", "comings", "lending"] T.f_run (K1 cs) (by delta yS;and_intros)
def mG:=dA P w base 2 [6] ["_law_script", "_law_at_here", "_law_errand_here", "_law_span", "_law_seed", "_law_moment", "_law_made", "_law_k", "_law_drawn", "_law_come"] T.f_law_coming_row (mS cs) (by delta cW;and_intros)
def qP:=dA P w base 3 [] ["_law_script", "_law_at_here", "_law_errands_here", "_law_span"] T.f_law_comings (qK cs) (by delta eo;and_intros)
def v5:=dA P w base 2 [3,4] ["_law_script", "_law_at_here", "_law_many", "_law_left", "_law_made", "_law_k"] T.f_law_ranks (u3 cs) (by delta gZ;and_intros)
def tj:=dA P w base 2 [7] ["_law_script", "_law_at_here", "_law_top", "_law_tools", "_law_every", "_law_late", "_law_due", "_law_parts", "_law_k", "_law_cell"] T.f_law_errand (uo cs) (by delta gj;and_intros)
def qR:=dA P w base 3 [] ["_law_script", "_law_at_here", "_law_most", "_law_top", "_law_tools", "_law_many"] T.f_law_errands (qW cs) (by delta fB;and_intros)
theorem law_ok(T:Ty K mg cs base)(F:Fun K "law" "law" (top 49) f fd):gm P w K mg base (CXW P w) 9 f fd ["_law_script"] (spD K 1 (fH 63)) :=
 dL (ps:=["_law_script"]) 8 [] ["_law_script", "_law_errands_here", "_law_ranks_here", "_law_comings_here", "_law_lending", "_law_handed", "_law_answer"] F (Kd cs) (by delta zy;and_intros)
end
end RS
namespace L2
open PySem PySem.Spec PyProof.Rows
theorem Gv{kV dc:Value}
  (hb:∀(kV doc pm:Value)(an:Option Addr)(cdv ct:Value)(us:List Value),us.length=ps.length->bindArgs (PySem.W.fnOf m qual (fg st) (b0 st) (aC st) .none kV doc pm an cdv ct) ⟨us,[]⟩=pure (ps.zip us))
  (hm:Meth K C m f) (l:K.lookup f=some ⟨oc,od,.func (PySem.W.fnOf m qual (fg st) (b0 st) (aC st) .none kV dc pm an cd ct),sl⟩)
  (c:PySem.W.codeIn K cd qual=true) (k:PySem.W.keepIn K (.ref f)=true):∃f fd,Fun K m qual st f fd/\Binds K fd ps []/\Meth K C m f :=
 have F:=wM (st:=st) l c k
 ⟨f,_,F,F.binds hb,hm⟩
end L2
set_option maxHeartbeats 4000000
namespace L2
open PySem PySem.Spec PyProof.Rows
variable {P:Addr}{vs:Array Value}
theorem B1{o:Obj}(h1:PySem.W.nsIn K mainGlobals x=some (some (.ref f)))(h2:K.lookup f=some ⟨oc,od,.func fd,sl⟩)(h3:fd.code=.ref c)(h4:K.lookup c=some o)(h5:o.data=.fields vs)(h6:vs[11]?=some (.ref P)):PySem.W.tabIn K x=some (c,P):=by obtain⟨cl,di,da,so⟩:=o;cases h5;unfold PySem.W.tabIn;rw[h1];simp only;rw[h2];simp only;rw[h3];simp only;rw[h4];simp only;rw[h6]
theorem A1(hl:lq=[x]){p:Program}{d:DefRec}(hr:(recsOf p).find? (λe=>e.name==x)=some d)(hn:PySem.W.noTabs K=true)(T:Top p loose mean mg mb h)(X:K.In h):mf K h:=by
 refine⟨λP q ⟨x',hx,f,oc,od,fd,sl,c,h1,h2,h3,⟨o,vs,h4,h5,h6⟩,hq⟩=>?_,λP q q' ⟨x1,hx1,_,_,_,_,_,_,_,_,_,_,e1⟩ ⟨x2,hx2,_,_,_,_,_,_,_,_,_,_,e2⟩=>?_⟩
 ·rw[hl]at hx;cases Mh.mp hx;have ht:=B1 h1 h2 h3 h4 h5 h6;obtain⟨hc,hp⟩:=PySem.W.tab_of T X hr ht;refine⟨hp,?_,?_⟩
  ·cases z:K.lookup P with
   |none=>rfl
   |some o' =>exfalso;have e:=X P o' z;rw[hp]at e;cases e;have h7:=Mu.mp hn (P,_) (PySem.W.mem_of_lookupK z);exact absurd (show false=true from h7) Mi
  ·obtain⟨o2,vs2,_,_,_,_,_,_,_,g1,g2,g3,g4,_⟩:=hc;exact⟨c,o2,vs2,g1,g2,g3,g4⟩
 ·rw[hl]at hx1 hx2;rw[e1,e2,Mh.mp hx1,Mh.mp hx2]
theorem AV{file:Str}{tf:Nat}{flags text:Int}{tg tt:Nat}{inF:Bool}(l:K.lookup c=some ⟨.type "code",od,.fields vs,sl⟩)(h11:vs[11]?=some (.ref P))(h18:vs.getD 18 .none=.str file tf)(h7:vs.getD 7 .none=.int flags tg)(h9:vs.getD 9 .none=.bool inF)(h10:vs.getD 10 .none=.int text tt)(ne:(c != P)=true):PySem.W.codeHdIn K c P=true:=by unfold PySem.W.codeHdIn;rw[l];simp only;rw[h11,h18,h7,h9,h10,ne];simp
theorem GQ{od2:Option Addr}{sl2:Array (Option Value)}{file:Str}{tf:Nat}{flags text:Int}{tg tt:Nat}{inF:Bool}(h1:PySem.W.nsIn K mainGlobals x=some (some (.ref f)))(h2:K.lookup f=some ⟨oc,od,.func fd,sl⟩)(h3:fd.code=.ref c)(l:K.lookup c=some ⟨.type "code",od2,.fields vs,sl2⟩)(h11:vs[11]?=some (.ref P))(h18:vs.getD 18 .none=.str file tf)(h7:vs.getD 7 .none=.int flags tg)(h9:vs.getD 9 .none=.bool inF)(h10:vs.getD 10 .none=.int text tt)(ne:(c != P)=true):Gb K x :=
 ⟨f,oc,od,fd,sl,c,P,_,vs,h1,h2,h3,l,rfl,h11,AV l h11 h18 h7 h9 h10 ne⟩
theorem xj(hl:lq=[x]){p:Program}(hr:((recsOf p).find? (λe=>e.name==x)).isSome=true)(hn:PySem.W.noTabs K=true)(T:Top p loose mean mg mb h)(X:K.In h):mf K h:=by obtain⟨d,hd⟩:=Nh.mp hr;exact A1 hl hd hn T X
end L2
set_option hygiene false
local macro_rules | `(tactic| and_intros)=>`(tactic| first|(refine' RS.CI KX G (λ_ _ _ _ _ _ us hl=>by obtain⟨f,rfl⟩:=RS.C4 PySem.Value.none hl;rfl) ?za ?zl ?zc ?zk;(case za=>k_is);(case zl=>k_is);(case zc=>k_is);(case zk=>k_is))|(refine' L2.Gv (λ_ _ _ _ _ _ us hl=>by obtain⟨f,rfl⟩:=RS.C4 PySem.Value.none hl;rfl) ⟨?zm,?zf,?zp⟩ ?zl ?zc ?zq;(case zm=>k_is);(case zf=>k_is);(case zp=>k_is);(case zl=>k_is);(case zc=>k_is);(case zq=>k_is))|(refine' PySem.W.mg_of KX G ?za;(case za=>k_is))|(refine' PySem.W.mg_none_of KX G ?zz;(case zz=>k_is))|(refine' RS.FN KX G ?zz;(case zz=>k_is))|(refine' RS.xZ KX G ?za ?ze;(case za=>k_is);(case ze=>k_exc))|(refine'⟨_,RS.xZ KX G ?za ?ze⟩;(case za=>k_is);(case ze=>k_exc))|(refine'⟨?zp,?zh,?zo,?zs⟩;(case zp=>k_is);(case zh=>k_is);(case zo=>k_is);(case zs=>k_is))|(refine' L2.FT (λ_ _ _ _ _ _ us hl=>by obtain⟨f,rfl⟩:=RS.C4 PySem.Value.none hl;rfl) ?za ?zi ?zl ?zc ?zk ?zm ?zx;(case za=>k_is);(case zi=>k_is);(case zl=>k_is);(case zc=>k_is);(case zk=>k_is);(case zm=>k_is);(case zx=>k_is))|exact List.forall_mem_nil _|((first|refine List.forall_mem_cons.2 ⟨?_,?_⟩|refine List.forall_mem_singleton.2 ?_) <;> (try dsimp only) <;> and_intros)|(refine' L2.GQ ?za ?zb ?zc ?zd ?ze ?zf ?zg ?zh ?zi ?zj;(case za=>k_is);(case zb=>k_is);(case zc=>exact rfl);(case zd=>k_is);(case ze=>exact rfl);(case zf=>exact rfl);(case zg=>exact rfl);(case zh=>exact rfl);(case zi=>exact rfl);(case zj=>decide))|exact λg e=>PySem.W.mg_of KX G e|(delta L2.fm;k_is)|(dsimp only;and_intros))
open PySem PySem.W PyProof.Rows
set_option maxRecDepth 100000 in
set_option maxHeartbeats 0 in
theorem PySem.Challenge.cw_ranksure_k04_run_holds : PySem.Challenge.rw_ranksure_k04_run.Holds := by
 refine RS.hdTop ?_
 k_fill
 refine RS.K4 (l:=PySem.Challenge.rw_ranksure_k04_run) (n:=63) (k:=9) (x:="_law_script") (st:=RS.top 49) rfl (by decide) rfl ⟨rfl,by decide,by decide⟩ (λw h Y=>PySem.W.km_in_of Y) (λ_ _ _ _ _ _ us hl=>by obtain⟨f,rfl⟩:=RS.C4 PySem.Value.none hl;rfl) ?F (λw h l m mg mb T X=>L2.xj (x:="picked") rfl (by kernel_rfl) (by kernel_rfl) T X)
 case F =>
  intro w mg h KX G;obtain⟨c_NoComings,h_NoComings⟩:∃C,L2.wg (L2.KOf KX) mg "NoComings" C:=by delta L2.KOf;and_intros
  obtain⟨c_NoErrands,h_NoErrands⟩:∃C,L2.wg (L2.KOf KX) mg "NoErrands" C:=by delta L2.KOf;and_intros
  obtain⟨c_NoRanks,h_NoRanks⟩:∃C,L2.wg (L2.KOf KX) mg "NoRanks" C:=by delta L2.KOf;and_intros
  obtain⟨c_Jobs,h_Jobs,k_Jobs⟩:∃C,mg "Jobs"=some (.ref C)/\RS.yx (L2.KOf KX) C:=by
   delta L2.KOf
   refine'⟨_,PySem.W.mg_of KX G ?za,⟨?zp,?zh,?zo,?zs⟩,?yJobs0,?yJobs1,?yJobs2,?yJobs3,?yJobs4,?yJobs5,?yJobs6⟩
   (case za=>k_is);(case zp=>k_is);(case zh=>k_is);(case zo=>k_is);(case zs=>k_is);all_goals and_intros
  have T:RS.Tx (L2.KOf KX) mg ⟨0,c_NoErrands,c_NoRanks,c_NoComings,0,0,0,0,0,c_Jobs⟩:=by constructor <;> first|assumption|((try delta L2.KOf);and_intros)
  exact⟨T.f_law,λf fd F base hb hn hB=>RS.law_ok _ _ ⟨T,hB,hb⟩ F⟩
end
